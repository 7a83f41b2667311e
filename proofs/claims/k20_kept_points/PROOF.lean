import PyProof.Rows.All
import Wide.All
import OpenK.AllK
import Wide.FinOn
import Lean
import PyProof.EqAt
import PyProof.EqKinds
import PyProof.TupleCall
import KE.KTurnsDict
import KE.KPairComp
import KE.KTryMore
import PyProof.ExcInit
import KE.KIsNot
import KE.KIntText
import PyProof.ReprStr
import PyProof.StrLawsRepr
import KE.KDictList
import KE.KEqDict
import PySem.Challenge.RW_belowpoints_k20_kept_points
set_option Elab.async false
set_option linter.all false
set_option maxRecDepth 100000
set_option maxHeartbeats 4000000
open Option renaming bind_some->aA,bind_eq_some_iff->aB,map_some->aD,map_eq_some_iff->aH,join_some->aQ,isSome_map->gF,isSome_iff_exists->lP,getD_some->mE
open PySem.W renaming Frag->aC,nsIn->aO,findIn->aY,keepIn->aZ,codeIn->bC,fnOf->bH,mg_of->bO,mg_none_of->cI,boot_o_0->cN,kia_one->cT,isFn->cX,kitOne->cY,piece_app->dC,segRun_of->dD,piecesOf->dI,emptyDict->dL,segRunT->dU,boot_heap->eE,BT->eJ,instObj->eP,hasDictIn->fE,specialIn->fF,InstAt->fP,methodCall_KW->gE,looks_findIn->gI,plainGet->gP,any_some->gQ,callWith_K->iE,cellsFrom_some->iR,topFrame->jA,OpenLaw->jF,findObj->jT,plainGet_of->jV,lookIn->kF,boot_drawn->kP,topRun->kQ,methodObj->kT,plainOver->kX,kitx_list->kZ,boot_toks->lK,takerIn->mM,makesIn->mN,takesIn->mO,typeIn->mZ,exmOne->nF,notCls->nH,kitAny->nI,findObj_own->nL,looks_clsIn->nM,callWith_K0->nN,mroIn->nS,Looks->nV,kitx_tuple->nZ,codeRec_of->oA,check_slot->oG,kdl_values->oH,set_plain->oN,kitx_dict->oR,handed_on->pA,handedIn->pC,boot_o_3->pO,findCls->pX,readsIn->pY,topStub->pZ,blockOf->qA,segRun->qM,restOf->qN,WalkO->qP,subIn->qR,clsIn->qS,recOk->qV,xlAt->rC
open PySem renaming Value->aE,wpAny_bind->aG,Shared->aI,mainGlobals->aN,starEach->aS,wpAny_pure->bD,FuncData->bM,Program->bN,World->bW,treeTable->cJ,Around->cK,wpAny_mono->cL,wpAny_field->cV,compareOp->dE,boot_len->dR,bootBuiltins->eC,wpAny_Call_Name_kw->eG,binaryOp->eL,Env->eN,wpAny_newObj_type->eO,wpAny_seqItems->eY,wpAny_setField_rec->eZ,IsPair->fB,wpAny_truthy_bool->fD,OsState->fK,mem_of_lookup->fL,wpAny_callSpecial?_slot->fR,wpAny_holding->gC,wpAny_Call_method->gG,wpAny_loadPart_at->gH,wpAny_setField->gJ,wpAny_call_entry->gT,evalArgs_none->gY,wpAny_passesOwn->iB,wpAny_call->iD,Scope->iK,codeAny_mono->iO,Keyword->iP,NameKind->iQ,plainObj_wpAny_Assign_Attribute->iT,wpAny_execs_cons->iY,wpAny_standAt->jB,codeAny->jC,wpAny_updateSeq_pair->jG,codeAny_call_builtin->jH,wpAny_execs_nil->jK,call_meetsIn->jZ,GenState->kC,wpAny_pyIter_tuple->kE,wpAny_newFunctionEnv_cells->kH,tupleKind_room_in1->kJ,IsZip->kK,sizeLine_eq->kW,BindsTo->lB,Builtin->lF,meets_dict_values->lJ,wpAny_comprehension_free->lQ,wpAny_onRaise->lR,wpAny_attempt->lU,noFill_tuple_add->mD,codeAny_builtin->mQ,codeAny_call_function->mT,wpAny_loadPart->mY,Params->nB,ZipApart->nC,wpAny_letGo->nE,wpAny_isSubtype_exc->nQ,seq_tuple_add->nT,builtinsNs->nY,call_meets->oE,Within->oJ,wpAny_Assign_Name->oK,wpAny_pyIter_list->oM,concat_meets->oV,seqIndex_neg->oW,slot_list_getitem->oX,wpAny_lookBehind->pD,pastItsLine_dict->pE,wpAny_pyIter_zip->pJ,refuseLoop->pM,seqIndex_of->pQ,Paired->qB,Model->qC,wpAny_Name->qD,typeIs_int->qE,call->qG,PyData->qI,wpAny_rule->qJ
open PySem.Heap renaming get?_push_of_some->aF,lt_size->aV,get?_push_size->aW,get?_update_other->cM,get?_update_self->dB,size_push->eD,size_after_update->fV,SameBut->iL,ExtBut->nD,IsTuple->rA
open List renaming getElem?_cons_zero->aJ,getElem?_cons_succ->aK,length_cons->aL,length_nil->aM,map_cons->aP,getElem?_eq_some_iff->aR,replicate->aT,append_nil->aX,getElem?_set_ne->bA,length_map->bF,mem_cons_of_mem->bI,getElem?_append_left->bJ,size_toArray->bK,map_nil->bL,mem_append_right->bR,replicate_zero->bS,getElem?_set_self->bU,getElem?_map->bV,lookup_cons->bX,set_cons_zero->bZ,append_assoc->cA,mem_cons->cB,mem_cons_self->cD,length_append->cG,set_cons_succ->cH,getElem?_append_right->cO,Nodup->cP,getElem?_eq_none_iff->cS,all_eq_true->cU,getElem?_eq_getElem->cZ,getElem?_eq_none->dM,nil_append->dS,mem_append_left->dY,cons_append->dZ,replicate_succ->eF,mem_singleton->eI,find?_cons->eQ,map_map->eS,lookup->eT,any_cons->eU,filter_cons->eV,mem_of_getElem?->fG,flatten_cons->fI,filter_eq_self->fO,take_of_length_le->fT,mem_append->fW,map_append->fY,length_take->gR,not_mem_nil->gS,filterMap_cons->gW,mem_filter->iA,eraseIdx_eq_take_drop_succ->iU,length_replicate->iV,length_filter_le->iW,range->iX,filter->jJ,nodup_cons->jL,of_mem_zip->jM,length_set->jN,forIn_cons->jP,length->lD,take_add_one->lH,sum_cons->lW,filter_map->mR,mem_range->mX,getElem?_range->nO,filter_filter->oI,zipIdx_cons->pH,getElem_mem->pL,take_length->pN,zipIdx_nil->pU,foldl->qF,forIn_nil->qK,map_take->qT,mem_map->rB
open Nat renaming lt_of_lt_of_le->aU,le_refl->bB,ne_of_lt->bY,le_trans->cC,sub_self->cQ,lt_irrefl->dO,lt_succ_self->fQ,ne_of_gt->gO,le_succ->jD,le_of_lt->jY,lt_of_le_of_lt->kI,not_lt->kN,zero_le->kY,le_of_eq->oP,le_succ_of_le->pB,min_eq_right->pG,le_add_right->pK,min_eq_left->pS
open PySem.Value renaming ref->bE,none->dF,int->mB,str->mC,type->mI,builtin->nW,bool->nX,float->pP,isStrOf->qO,isInt->rD,bytes->rE
open PySem.W.Fast renaming te14364793385576792824->bG,te10110043849684766642->bP,te5923862056798008813->iF
open Option.some renaming inj->bQ
open Bool renaming false_eq_true->bT,and_eq_true->dA,false_ne_true->eW,and_eq_true_iff->fJ,not_true->hW,false_and->iM,or_eq_true->jO,true_and->lX,decide_and->mS,and_false->nG,not_false->nJ,and_assoc->qL,false_or->qQ,beq_comm->qU
open PySem.Builtin.SmallTypes renaming nextOf->cF,ownedTupleIsFree->dP,ownedTupleHandOut->gX
open Ne renaming symm->cR
open PySem.PyData renaming eqv->cW,strOk->eK,canLay0->fA,depth->fU,eqvAll->hU,canLayAll0->oZ,depthAll->pV,list->rJ
open PySem.Obj renaming data_mapFields->dG,isFreed_of_fields->dN,mapFields->eB,mapSeq->fS
open PySem.Calls renaming callWith_builtin->dH,spliced_cons->iC,spliced_nil->iN,evalArgs_plain->jE,Name_function_global->kD
open False renaming elim->dJ
open PySem.F renaming slot_dict_values->dQ,plainAttrs_dict->eM,slot_tuple_iterator_next->eX,args_dict_values_1->gL,entry_dict_values->gU,args_tuple_add_2->gZ,type_dict_values->hV,entry_tuple_add->iG,plainAttrs_list->iH,slot_tuple_add->iS,args_tuple_iterator_next_1->jR,slot_zip_next->jS,entry_tuple_iterator_next->kA,excBase_ValueError->kO,slot_list_append->lY,type_list_append->lZ,slot_dict_items->mF,plain_list_iadd->mG,plain_tuple_new->mH,slot_dict_pop->mV,args_zip_next_1->oY,entry_zip_next->pI,slot_int_rmul->pT
open PySem.W.Looks renaming here->dW
open True renaming intro->dX
open PyProof.Rows renaming callWith_type1->eA,AllBare->jX,IntsAre->mJ,subscriptTail_builtinR->mK,boot_max->mW
open PySem.SeqAt renaming shaped->eR
open Int renaming toNat_natCast->fH,emod_lt_of_pos->kL,emod_nonneg->mP,natCast_nonneg->oB,max_eq_right->pF,min_eq_left->pR,ediv_nonneg->pW,ofNat_le->qX
open ForInStep renaming yield->fX
open PySem.PassesOwn renaming never->fZ
open PySem.NameKind renaming free->gD,cell->nU
open PySem.Builtin.List renaming listTooLong->hG
open PySem.Builtin.ObjectAttr renaming storeInOwnDict->iI,storeInDict->iZ
open Sum renaming inr->iJ,inl->nK
open PySem.Around renaming under_plainId->jI,frames_deeper->nA,under->oS
open List.cons renaming injEq->jQ
open Array renaming length_toList->jU,getElem?_eq_some_iff->kM,getElem?_eq_getElem->kR,getElem?_toList->mU,toList->qW
open PySem.Heap.SameBut renaming update->jW
open PySem.Str renaming empty->kB,ofString->mL
open Prod.mk renaming inj->kS
open PySem.Paired renaming length->lL,snoc->rG
open PySem.Builtin.Tuple renaming tupleExact->lV
open PySem.EntryCells renaming newEntry->nP
open PySem.W.SharedT renaming abs->nR
open PySem.Code renaming quiet_builtin->oF,isFrame->oU,frames->rF
open PySem.Within renaming cons->oO
open PySem.Heap.Ns1 renaming of_empty->oQ
open Or renaming inr->qH,inl->qY
open PySem.Txt renaming mul->qZ
open PySem.Shared renaming heap->rH
open PySem.W.WShape renaming has->rK
namespace L2
open PySem PySem.Spec PyProof.Rows
abbrev Key:=Sum Int Str
noncomputable def Rw:Key->aE->Bool
 | .inl k,v=>rD k v
 | .inr x,v=>qO x v
noncomputable def Ar7(w:bW):Key->Int
 | .inl k=>hashInt k
 | .inr x=>hashStr w x
theorem C8:∀ {k:Key} {v:aE},Rw k v=true->(∃ i t,k=nK i/\v=mB i t)\/(∃ x t,k=iJ x/\v=mC x t)
 | .inl i,v,h=>by
  obtain ⟨t,e⟩:=aE.isInt_shape (k:=i) (v:=v) h
  exact .inl ⟨i,t,rfl,e⟩
 | .inr x,v,h=>by
  obtain ⟨t,e⟩:=aE.isStrOf_shape (x:=x) (v:=v) h
  exact .inr ⟨x,t,rfl,e⟩
theorem Ado(i:Int)(t:Tok):Rw (.inl i) (.int i t)=true:=by simp[Rw,rD]
theorem Aen(x:Str)(t:Tok):Rw (.inr x) (.str x t)=true:=by simp[Rw,qO]
theorem Aoa(a b:Int):decide ((nK a:Key)=nK b)=(a == b):=by
 by_cases e:a=b
 ·subst e;simp
 ·have h:¬ (nK a:Key)=nK b:=fun q=>e (nK.inj q)
  rw[decide_eq_false h]
  exact (beq_eq_false_iff_ne.mpr e).symm
theorem Aoe(a b:Str):decide ((iJ a:Key)=iJ b)=decide (a=b):=by
 by_cases e:a=b
 ·subst e;simp
 ·have h:¬ (iJ a:Key)=iJ b:=fun q=>e (iJ.inj q)
  rw[decide_eq_false h,decide_eq_false e]
theorem Amo(a:Int)(b:Str):decide ((nK a:Key)=iJ b)=false:=decide_eq_false (fun q=>nomatch q)
theorem Amr(a:Str)(b:Int):decide ((iJ a:Key)=nK b)=false:=decide_eq_false (fun q=>nomatch q)
noncomputable def Co(prog:bN)(w:bW):PySem.KeyKind prog w Key where
 is:=Rw
 hash:=Ar7 w
 inj:=fun v a b ha hb=>by
  rcases C8 ha with ⟨i,t,rfl,rfl⟩ | ⟨x,t,rfl,rfl⟩
  ·rcases C8 hb with ⟨j,u,rfl,e⟩ | ⟨y,u,rfl,e⟩
   ·injection e with e1 _;rw[e1]
   ·exact nomatch e
  ·rcases C8 hb with ⟨j,u,rfl,e⟩ | ⟨y,u,rfl,e⟩
   ·exact nomatch e
   ·injection e with e1 _;rw[e1]
 byValue:=fun k v h=>by
  rcases C8 h with ⟨i,t,rfl,rfl⟩ | ⟨x,t,rfl,rfl⟩ <;> rfl
 pyHash:=fun hv h=>by
  rcases C8 hv with ⟨i,t,rfl,rfl⟩ | ⟨x,t,rfl,rfl⟩
  ·exact wpAny_pyHash_int h
  ·exact wpAny_pyHash_str h
 eqBool:=fun hu hv h=>by
  rcases C8 hu with ⟨i,t,rfl,rfl⟩ | ⟨x,t,rfl,rfl⟩
  ·rcases C8 hv with ⟨j,u,rfl,rfl⟩ | ⟨y,u,rfl,rfl⟩
   ·rw[Aoa] at h;exact wpAny_eqBool_int h
   ·rw[Amo] at h;exact SeqAt.EqAt.int_str i t y u _ _ _ _ h
  ·rcases C8 hv with ⟨j,u,rfl,rfl⟩ | ⟨y,u,rfl,rfl⟩
   ·rw[Amr] at h;exact SeqAt.EqAt.str_int x t j u _ _ _ _ h
   ·rw[Aoe] at h;exact wpAny_eqBool_str h
 «strs» := fun k x t v h=>by
  rcases C8 h with ⟨i,u,rfl,e⟩ | ⟨y,u,rfl,e⟩
  ·exact nomatch e
  ·injection e with e1 _
   subst e1
   cases v <;> rfl
theorem Yy(prog:bN)(w:bW)(k:Key)(v:aE):(Co prog w).is k v=Rw k v:=rfl
theorem Wt(prog:bN)(w:bW)(i:Int)(t:Tok):(Co prog w).is (.inl i) (.int i t)=true:=Ado i t
theorem Xh(prog:bN)(w:bW)(x:Str)(t:Tok):(Co prog w).is (.inr x) (.str x t)=true:=Aen x t
inductive V where
 | non | bl (b:Bool) | int (i:Int) | str (x:Str) | byt (b:Array UInt8) | flt (b:UInt64) | ref (a:Addr) | ty (n:String)
 deriving DecidableEq
noncomputable def RelV:V->aE->Prop
 | .non,u=>u=dF
 | .bl b,u=>u=nX b
 | .int i,u=>∃ t,u=mB i t
 | .str x,u=>∃ t,u=mC x t
 | .byt b,u=>∃ t,u=rE b t
 | .flt b,u=>∃ t,u=pP b t
 | .ref a,u=>u=bE a
 | .ty n,u=>u=mI n
abbrev Vals:List V->List aE->Prop:=qB RelV
theorem Vals.length{xs:List V}{us:List aE}(r:Vals xs us):xs.length=us.length:=lL r
theorem Vals.get{xs:List V}{us:List aE}{i:Nat}{x:V}(h:Vals xs us)(e:xs[i]? = some x):∃ u,us[i]? = some u/\RelV x u:=by
 induction h generalizing i with
 | nil=>cases e
 | cons r t ih=>
  cases i with
  | zero=>cases e;exact ⟨_,rfl,r⟩
  | succ i=>exact ih (i:=i) e
theorem Vals.set{x:V}{u:aE}(r:RelV x u){xs:List V}{us:List aE}(i:Nat)(h:Vals xs us):Vals (xs.set i x) (us.set i u):=by
 induction h generalizing i with
 | nil=>exact .nil
 | cons q t ih=>
  cases i with
  | zero=>exact .cons r t
  | succ i=>exact .cons q (ih i)
theorem Vals.append{xs ys:List V}{us ws:List aE}(h:Vals xs us)(s:Vals ys ws):Vals (xs++ys) (us++ws):=by
 induction h with
 | nil=>exact s
 | cons r t ih=>exact .cons r ih
theorem Vals.take{xs:List V}{us:List aE}(n:Nat)(h:Vals xs us):Vals (xs.take n) (us.take n):=by
 induction h generalizing n with
 | nil=>cases n <;> exact .nil
 | cons r t ih=>
  cases n with
  | zero=>exact .nil
  | succ n=>exact .cons r (ih n)
theorem Vals.drop{xs:List V}{us:List aE}(n:Nat)(h:Vals xs us):Vals (xs.drop n) (us.drop n):=by
 induction h generalizing n with
 | nil=>cases n <;> exact .nil
 | cons r t ih=>
  cases n with
  | zero=>exact .cons r t
  | succ n=>exact ih n
noncomputable def RelO:Option V->Option aE->Prop
 | some v,some u=>RelV v u
 | none,none=>True
 | _,_=>False
noncomputable def KV{κ:Type}:List (κ×V)->List (κ×aE)->Prop:=qB fun (p:κ×V) (q:κ×aE)=>p.1=q.1/\RelV p.2 q.2
noncomputable def kV:Key->V
 | .inl i=>.int i
 | .inr x=>.str x
inductive HO where
 | lst (xs:List V)
 | tup (xs:List V)
 | dK (kvs:List (Key×V)) | dT (kvs:List (List Key×V))
 | set (S:Int->Bool) (n:Nat)
 | ins (C dx:Addr) (fs:List (Str×V))
 | own (x:Addr)
 | xd (fs:List (Str×V))
 | met (f x:Addr)
 | rng (lo hi:Int)
 | frz (o:Obj) (u:HO)
 | tbl (ps:Array aE)
 | ext (φ:Heap->Prop)
abbrev Hp:=Addr->Option HO
noncomputable def upd(H:Hp)(a:Addr)(o:HO):Hp:=fun b=>if b=a then some o else H b
theorem upd_same{H:Hp}{a:Addr}{o:HO}:upd H a o a=some o:=by unfold upd;rw[if_pos rfl]
theorem Bc{H:Hp}{a b:Addr}{o:HO}(h:b≠a):upd H a o b=H b:=by unfold upd;rw[if_neg h]
theorem Afn{H:Hp}{a b:Addr}{o u:HO}(h:H a=some o)(h':H b=some u)(d:o≠u):a≠b:=by
 intro e;subst e;rw[h] at h';exact d (bQ h')
theorem Bk{H:Hp}{a b:Addr}{o:HO}(h:H a=some o)(h':H b=none):a≠b:=by
 intro e;subst e;rw[h] at h';cases h'
noncomputable def TupN(h:Heap)(a:Addr)(its:Array aE):Prop:=∃ o:Obj,h.get? a=some o/\(o.cls,o.dict)=(mI "tuple",(none:Option Addr))/\∃ n,o.data = .seq its n
theorem TupN.is{h:Heap}{a:Addr}{its:Array aE}(x:TupN h a its):h.IsTuple a its:=by
 obtain ⟨o,e,c,n,d⟩:=x
 exact ⟨o,e,(kS c).1,n,d⟩
theorem TupN.new(h:Heap)(its:Array aE):TupN (h.push { cls:=.type "tuple",data:=.seq its }) h.objs.size its:=⟨_,aW _ rfl,rfl,0,rfl⟩
theorem TupN.lt{h:Heap}{a:Addr}{its:Array aE}(x:TupN h a its):a < h.objs.size:=by
 obtain ⟨o,e,_⟩:=x;exact aV e
section
variable (P:bN)(w:bW)
noncomputable def ObjOk(H:Hp)(h:Heap)(a:Addr):HO->Prop
 | .lst xs=>xs.length<=sizeLine/\∃ (its:List aE) (n:Nat),Vals xs its/\h.get? a=some { cls:=.type "list",data:=.seq its.toArray n }
 | .tup xs=>xs.length<=sizeLine/\∃ its:List aE,Vals xs its/\TupN h a its.toArray
 | .dK kvs=>kvs.length<=sizeLine/\(a == sysModules)=false/\∃ vs,KV kvs vs/\h.DictOf (Co P w) a vs
 | .dT kvs=>kvs.length<=sizeLine/\(a == sysModules)=false/\∃ xs:List (List Key×Addr×aE),
   qB (fun (p:List Key×V) (q:List Key×Addr×aE)=>p.1=q.1/\H q.2.1=some (.tup (p.1.map kV))/\RelV p.2 q.2.2) kvs xs /\
   ∃ o es ep,h.get? a=some o/\o.ExactDict/\o.data = .dict es ep/\es.toList=xs.map (entryOfKey (tupleKind (Co P w)))/\(xs.map (·.1)).Nodup
 | .set S n=>h.SetOf (intKind P w) a S n
 | .ins C dx fs=>H dx=some (.own a)/\fs.length<=1000/\dx≠a/\h.get? a=some (eP C dx) /\
   ∃ mA,h.Ns1 dx mA/\(∀ f,RelO (fs.lookup f) (mA f))/\oJ mA (fs.map (·.1))
 | .own _=>∃ o,h.get? a=some o
 | .xd fs=>∃ mA,h.Ns1 a mA/\∀ f,RelO (fs.lookup f) (mA f)
 | .rng lo hi=>∃ t u v,h.get? a=some { cls:=.type "range",data:=.fields #[.int lo t,.int hi u,.int 1 v] }
 | .frz o u=>h.get? a=some o/\ObjOk H h a u
 | .tbl ps=>h.get? a=some { cls:=.none,data:=.fields ps }
 | .met f x=>h.get? a=some (kT (.ref f) (.ref x))
 | .ext φ=>φ h/\(∃ o,h.get? a=some o)/\∀ h1 h2:Heap,φ h1->(∀ o,h1.get? a=some o->h2.get? a=some o)->φ h2
noncomputable def HOk(H:Hp)(h:Heap):Prop:=∀ a o,H a=some o->ObjOk P w H h a o
end
section
variable {P:bN}{w:bW}{H H':Hp}{h h':Heap}{a:Addr}{o:HO}
theorem ObjOk.lt(x:ObjOk P w H h a o):a < h.objs.size:=by
 cases o with
 | lst xs=>obtain ⟨_,_,_,_,e⟩:=x;exact aV e
 | tup xs=>obtain ⟨_,_,_,p⟩:=x;exact p.lt
 | dK kvs=>obtain ⟨_,_,_,_,o,_,_,e,_⟩:=x;exact aV e
 | dT kvs=>obtain ⟨_,_,_,_,o,_,_,e,_⟩:=x;exact aV e
 | set S n=>obtain ⟨o,_,_,_,e,_⟩:=x;exact aV e
 | ins C dx fs=>obtain ⟨_,_,_,e,_⟩:=x;exact aV e
 | own y=>obtain ⟨_,e⟩:=x;exact aV e
 | xd fs=>obtain ⟨_,⟨_,_,_,e,_⟩,_⟩:=x;exact aV e
 | rng lo hi=>obtain ⟨_,_,_,e⟩:=x;exact aV e
 | frz ob u=>obtain ⟨e,_⟩:=x;exact aV e
 | tbl ps=>exact aV (show h.get? a=some _ from x)
 | met f y=>exact aV (show h.get? a=some _ from x)
 | ext φ=>obtain ⟨_,⟨_,e⟩,_⟩:=x;exact aV e
theorem Paired.mapP{α β:Type}{F G:α->β->Prop}{l₁:List α}{l₂:List β}(h:qB F l₁ l₂)(f:∀ a b,F a b->G a b):qB G l₁ l₂:=by
 induction h with
 | nil=>exact .nil
 | cons r t ih=>exact .cons (f _ _ r) ih
theorem ObjOk.stay(x:ObjOk P w H h a o)(k:∀ b u,(b=a\/H b=some (.own a))->h.get? b=some u->h'.get? b=some u)
  (ho:∀ b,H b=some (.own a)->H' b=some (.own a)) (ht:∀ b xs,H b=some (.tup xs)->H' b=some (.tup xs)):ObjOk P w H' h' a o:=by
 induction o with
 | lst xs=>obtain ⟨z,its,n,r,e⟩:=x;exact ⟨z,its,n,r,k _ _ (.inl rfl) e⟩
 | tup xs=>obtain ⟨z,its,r,ob,e,c⟩:=x;exact ⟨z,its,r,ob,k _ _ (.inl rfl) e,c⟩
 | dK kvs=>obtain ⟨z,y,vs,r,ob,es,ep,e,c⟩:=x;exact ⟨z,y,vs,r,ob,es,ep,k _ _ (.inl rfl) e,c⟩
 | dT kvs=>
  obtain ⟨z,y,xs,r,ob,es,ep,e,c⟩:=x
  exact ⟨z,y,xs,Paired.mapP r fun p q z=>⟨z.1,ht _ _ z.2.1,z.2.2⟩,ob,es,ep,k _ _ (.inl rfl) e,c⟩
 | set S n=>obtain ⟨ob,es,ep,t,e,c⟩:=x;exact ⟨ob,es,ep,t,k _ _ (.inl rfl) e,c⟩
 | ins C dx fs=>
  obtain ⟨d,z,ne,e,mA,⟨od,es,ep,e2,c⟩,r⟩:=x
  exact ⟨ho _ d,z,ne,k _ _ (.inl rfl) e,mA,⟨od,es,ep,k _ _ (.inr d) e2,c⟩,r⟩
 | own y=>obtain ⟨ob,e⟩:=x;exact ⟨ob,k _ _ (.inl rfl) e⟩
 | xd fs=>obtain ⟨mA,⟨od,es,ep,e,c⟩,r⟩:=x;exact ⟨mA,⟨od,es,ep,k _ _ (.inl rfl) e,c⟩,r⟩
 | rng lo hi=>obtain ⟨t,u,v,e⟩:=x;exact ⟨t,u,v,k _ _ (.inl rfl) e⟩
 | frz ob u ih=>obtain ⟨e,q⟩:=x;exact ⟨k _ _ (.inl rfl) e,ih q⟩
 | tbl ps=>
  have e:h.get? a=some { cls:=.none,data:=.fields ps }:=x
  show h'.get? a=some { cls:=.none,data:=.fields ps }
  exact k a _ (.inl rfl) e
 | met f y=>
  have e:h.get? a=some (kT (.ref f) (.ref y)):=x
  show h'.get? a=some (kT (.ref f) (.ref y))
  exact k a _ (.inl rfl) e
 | ext φ=>obtain ⟨p,⟨o,e⟩,st⟩:=x;exact ⟨st _ _ p fun o q=>k _ _ (.inl rfl) q,⟨o,k _ _ (.inl rfl) e⟩,st⟩
theorem HOk.lt(x:HOk P w H h)(e:H a=some o):a < h.objs.size:=(x a o e).lt
theorem HOk.fresh(x:HOk P w H h)(e:h.objs.size<=a):H a=none:=by
 cases q:H a with
 | none=>rfl
 | some u=>exact absurd (aU (x.lt q) e) (dO _)
theorem HOk.kept(x:HOk P w H h)(k:∀ b u,h.get? b=some u->h'.get? b=some u):HOk P w H h':=fun a o e=>
 (x a o e).stay (fun b u _ q=>k b u q) (fun _ q=>q) fun _ _ q=>q
theorem HOk.laid(x:HOk P w H h)(k:∀ b u,h.get? b=some u->h'.get? b=some u)(hp:h.objs.size<=a)(new:ObjOk P w (upd H a o) h' a o):HOk P w (upd H a o) h':=fun b u e=>by
 have hn:=x.fresh hp
 by_cases hb:b=a
 ·subst hb;rw[upd_same] at e;cases e;exact new
 ·rw[Bc hb] at e
  exact (x b u e).stay (fun c v _ q=>k c v q) (fun c q=>by rw[Bc (Bk q hn)];exact q) fun c xs q=>by rw[Bc (Bk q hn)];exact q
end
noncomputable def Rd(H:Hp)(a:Addr)(u:HO):Prop:=H a=some u\/∃ o,H a=some (.frz o u)
theorem Rd.ok{P:bN}{w:bW}{H:Hp}{h:Heap}{a:Addr}{u:HO}(r:Rd H a u)(x:HOk P w H h):ObjOk P w H h a u:=by
 rcases r with r | ⟨o,r⟩
 ·exact x a u r
 ·obtain ⟨_,q⟩:=x a _ r
  exact q
noncomputable def Mut:Option HO->Prop
 | some (.lst _)=>True
 | some (.dK _)=>True
 | some (.dT _)=>True
 | some (.set _ _)=>True
 | some (.ins _ _ _)=>True
 | some (.ext _)=>True
 | _=>False
section
variable {P:bN}{w:bW}{H:Hp}{h h':Heap}{x e:Addr}{o':HO}
theorem HOk.write(ok:HOk P w H h)(mu:Mut (H x))(he:e=x\/H e=some (.own x))(k:∀ b u,b≠e->h.get? b=some u->h'.get? b=some u)(heo:∃ u,h'.get? e=some u)
  (new:ObjOk P w (upd H x o') h' x o'):HOk P w (upd H x o') h':=fun b u q=>by
 have nown:∀ c y,H c=some (.own y)->c≠x:=fun c y r z=>by subst z;rw[r] at mu;exact mu
 have ntup:∀ c xs,H c=some (.tup xs)->c≠x:=fun c xs r z=>by subst z;rw[r] at mu;exact mu
 by_cases hb:b=x
 ·subst hb;rw[upd_same] at q;cases q;exact new
 ·rw[Bc hb] at q
  by_cases hbe:b=e
  ·have q':H b=some (.own x):=by
    rcases he with z | z
    ·exact absurd (hbe.trans z) hb
    ·rw[hbe];exact z
   rw[q] at q';cases q'
   obtain ⟨v,hv⟩:=heo
   exact ⟨v,by rw[hbe];exact hv⟩
  ·refine (ok b u q).stay (fun c v hc r=>k c v ?_ r) (fun c r=>by rw[Bc (nown c b r)];exact r) fun c xs r=>by rw[Bc (ntup c xs r)];exact r
   rcases hc with rfl | hc
   ·exact hbe
   ·rintro rfl
    rcases he with z | z
    ·exact nown c b hc z
    ·rw[hc] at z;cases z;exact hb rfl
end
structure Un(fs ex:List Addr)(H H':Hp)(h h':Heap):Prop where
 keep:∀ b o,h.get? b=some o->H b=none->b∉fs->b∉ex->h'.get? b=some o
 slot:∀ b o,h.get? b=some o->H b=none->b∈fs->b∉ex->∃ sl,h'.get? b=some { o with slots:=sl }
 free:∀ b o,h.get? b=some o->H b=none->b∉ex->H' b=none
 there:∀ b o,h.get? b=some o->b∉ex->∃ o',h'.get? b=some o'
 tups:∀ b xs,H b=some (.tup xs)->H' b=some (.tup xs)
 frzs:∀ b o u,H b=some (.frz o u)->H' b=some (.frz o u)
 tbls:∀ b ps,H b=some (.tbl ps)->∃ more,H' b=some (.tbl (ps++more))
section
variable {fs fs' ex ex':List Addr}{H H1 H2:Hp}{h h1 h2 h':Heap}{a x e:Addr}{o:HO}
theorem Un.any(u:Un fs ex H H1 h h1){b:Addr}{ob:Obj}(q:h.get? b=some ob)(n:H b=none)(hx:b∉ex):∃ sl,h1.get? b=some { ob with slots:=sl }:=by
 by_cases hb:b∈fs
 ·exact u.slot b ob q n hb hx
 ·exact ⟨ob.slots,u.keep b ob q n hb hx⟩
theorem Un.kept(k:∀ b u,h.get? b=some u->h'.get? b=some u):Un fs ex H H h h':=
 ⟨fun b ob q _ _ _=>k b ob q,fun b ob q _ _ _=>⟨ob.slots,k b ob q⟩,fun _ _ _ n _=>n,fun b ob q _=>⟨ob,k b ob q⟩,fun _ _ q=>q,fun _ _ _ q=>q,fun _ ps q=>⟨#[],by rw[q];simp⟩⟩
theorem Un.refl:Un fs ex H H h h:=Un.kept fun _ _ q=>q
theorem Un.laid(k:∀ b u,h.get? b=some u->h'.get? b=some u)(hp:h.objs.size<=a)(hn:H a=none):Un fs ex H (upd H a o) h h' where
 keep:=fun b u q _ _ _=>k b u q
 slot:=fun b u q _ _ _=>⟨u.slots,k b u q⟩
 free:=fun b u q n _=>by rw[Bc (bY (aU (aV q) hp))];exact n
 there:=fun b u q _=>⟨u,k b u q⟩
 tups:=fun b xs q=>by rw[Bc (Bk q hn)];exact q
 frzs:=fun b u xs q=>by rw[Bc (Bk q hn)];exact q
 tbls:=fun b ps q=>⟨#[],by rw[Bc (Bk q hn),q];simp⟩
theorem Un.write(mu:Mut (H x))(he:e=x\/H e=some (.own x))(k:∀ b u,b≠e->h.get? b=some u->h'.get? b=some u)(heo:∃ u,h'.get? e=some u):Un fs ex H (upd H x o) h h':=by
 have hx:∀ b,H b=none->b≠x:=fun b n z=>by subst z;rw[n] at mu;exact mu
 have hb:∀ b,H b=none->b≠e:=fun b n z=>by
  subst z
  rcases he with r | r
  ·exact hx b n r
  ·rw[n] at r;cases r
 have hm:∀ b u,H b=some u->¬ Mut (some u)->b≠x:=fun b u q nm z=>by subst z;rw[q] at mu;exact nm mu
 refine ⟨fun b u q n _ _=>k b u (hb b n) q,fun b u q n _ _=>⟨u.slots,k b u (hb b n) q⟩,fun b u q n _=>by rw[Bc (hx b n)];exact n,fun b u q _=>?_,
  fun b xs q=>by rw[Bc (hm b _ q fun z=>z)];exact q,fun b u xs q=>by rw[Bc (hm b _ q fun z=>z)];exact q,fun b ps q=>⟨#[],by rw[Bc (hm b _ q fun z=>z),q];simp⟩⟩
 by_cases hbe:b=e
 ·subst hbe;exact heo
 ·exact ⟨u,k b u hbe q⟩
end
noncomputable def trk(h:Heap)(H:Hp):List Addr:=(iX h.objs.size).filter fun a=>(H a).isSome
noncomputable def Vw(h:Heap)(H:Hp):Heap:=PySem.W.hideAll h (trk h H)
theorem Adj(h:Heap)(H:Hp):(Vw h H).objs.size=h.objs.size:=PySem.W.hideAll_size _ _
theorem Agw{h:Heap}{H:Hp}{b:Addr}{o:Obj}(e:h.get? b=some o)(n:H b=none):(Vw h H).get? b=some o:=
 PySem.W.hideAll_get _ e fun hm=>by
  have q:(H b).isSome=true:=(iA.mp hm).2
  rw[n] at q;simp at q
theorem Alf{h:Heap}{H:Hp}{b:Addr}{o:Obj}(e:(Vw h H).get? b=some o):h.get? b=some o/\H b=none:=by
 have e':h.get? b=some o:=PySem.W.of_hideAll (trk h H) e
 refine ⟨e',?_⟩
 cases q:H b with
 | none=>rfl
 | some x=>
  have hm:b∈trk h H:=iA.mpr ⟨mX.mpr (aV e'),by simp[q]⟩
  have z:(Vw h H).get? b=none:=PySem.W.hideAll_none (trk h H) hm
  rw[z] at e;cases e
noncomputable def Akh(g h:Heap)(L:Addr):List (Addr×Obj):=(iX h.objs.size).filterMap fun a=>if a=L\/(g.get? a).isSome=true then none else (h.get? a).map fun o=>(a,o)
noncomputable def rest(g h:Heap)(L d:Addr):List (Addr×Obj):=(Akh g h L).filter fun p=>decide (p.1≠d)
structure Mod(K:aC)(mg:Str->Option aE)(base:Heap):Prop where
 kin:K.In base
 glob:base.Ns aN mg
 blt:∃ mb,base.Ns nY mb/\∀ x:Str,x ≠ "__name__" -> mb x=eC x
 nolimit:base.NoLimit
structure Cx where
 prog:bN
 w:bW
 K:aC
 mg:Str->Option aE
 base:Heap
 A:cK
 N:List Str
 s₀:aI
 H₀:Hp
 env:Env
 outer:List Env
 stack:List Env
 ex:List Addr
 fn:Str->Bool
 calm:Bool
 pn:List (Addr×Obj)
 xe:aE->aI->Prop
noncomputable def frs(l:List Env):List Addr:=l.filterMap (·.frame)
noncomputable abbrev Cx.fs(X:Cx):List Addr:=frs X.outer
noncomputable def Vis(sc:iK)(x:Str):Prop:=sc.names.lookup x=some .local\/sc.names.lookup x=some .cell\/sc.names.lookup x=some .free
noncomputable def Loc(sc:iK)(x:Str):Prop:=sc.names.lookup x=some .local\/sc.names.lookup x=some .cell
noncomputable def Ari(env:Env)(h:Heap)(m:Str->Option aE)(x:Str)(u:aE):Prop:=
 (env.kindOf x=some .local/\m x=some u)\/((env.kindOf x=some .cell\/env.kindOf x=some .free)/\∃ c,env.cells.lookup x=some c/\h.IsCell c (some u))
structure Cx.Ok(X:Cx):Prop where
 mod:Mod X.K X.mg X.base
 kind:X.env.scope.kind = .function
 glob:X.env.globals=aN
 blt:X.env.builtins=nY
 above:X.s₀.heap.objs.size<=X.env.locals
 inj:∀ x y c,X.env.cells.lookup x=some c->X.env.cells.lookup y=some c->x=y
 has:∀ x,(X.env.kindOf x=some .cell\/X.env.kindOf x=some .free)->∃ c,X.env.cells.lookup x=some c
 cab:∀ x c,X.fn x=true->X.env.cells.lookup x=some c->X.s₀.heap.objs.size<=c
 hd:X.calm=true->X.A.handled=none
 frames:X.A.frames=some X.stack
 stk:X.stack=X.outer\/(X.stack=X.env::X.outer/\X.env.frame=some X.env.locals)
 exf:∀ b∈X.ex,b≠X.env.locals/\∀ x c,X.env.cells.lookup x=some c->c≠b
 bs:∀ b o,X.base.get? b=some o->X.s₀.heap.get? b=some o/\X.H₀ b=none
 bsz:X.base.objs.size<=X.s₀.heap.objs.size
 noex:∀ b o,X.base.get? b=some o->b∉X.ex
 exfs:∀ b∈X.ex,b∉X.fs
 funs:X.s₀.heap.FunFrames X.base X.outer
 frf:∀ b∈X.fs,X.H₀ b=none
structure Inv(X:Cx)(pins:List (Addr×Obj))(σ:List (Option V))(H:Hp)(s:aI):Prop where
 ok:X.Ok
 os:s.os=X.s₀.os
 bare:jX s.gens
 base:Un X.fs X.ex X.H₀ H X.s₀.heap s.heap
 loc:∃ m,s.heap.Ns X.env.locals m/\∀ (i:Nat) (x:Str) (v:V),X.N[i]? = some x->σ[i]? = some (some v)->Vis X.env.scope x->∃ u,RelV v u/\Ari X.env s.heap m x u
 cell:∀ x c,X.env.cells.lookup x=some c->∃ v,s.heap.IsCell c v
 free:H X.env.locals=none
 freeC:∀ x c,X.env.cells.lookup x=some c->H c=none
 pin:∀ p∈X.pn++pins,s.heap.get? p.1=some p.2/\H p.1=none/\p.1≠X.env.locals/\p.1∉X.fs/\∀ v,p.2.data≠.cell v
 hok:HOk X.prog X.w H s.heap
 len:σ.length=X.N.length
section
variable {X:Cx}{pins:List (Addr×Obj)}{σ:List (Option V)}{H H':Hp}{s:aI}{h':Heap}
theorem Cx.Ok.nofr(ok:X.Ok){b:Addr}{o:Obj}(e:X.base.get? b=some o):b∉X.fs:=fun hb=>by
 have:=(ok.funs.mem hb).1
 rw[e] at this;cases this
theorem Inv.bs(I:Inv X pins σ H s):∀ b o,X.base.get? b=some o->s.heap.get? b=some o/\H b=none:=fun b o e=>
 ⟨I.base.keep b o (I.ok.bs b o e).1 (I.ok.bs b o e).2 (I.ok.nofr e) (I.ok.noex b o e),I.base.free b o (I.ok.bs b o e).1 (I.ok.bs b o e).2 (I.ok.noex b o e)⟩
theorem Inv.bk(I:Inv X pins σ H s):∀ b o,X.base.get? b=some o->s.heap.get? b=some o:=fun b o e=>(I.bs b o e).1
theorem Inv.mod(I:Inv X pins σ H s):Mod X.K X.mg X.base:=I.ok.mod
theorem Inv.kIn(I:Inv X pins σ H s):X.K.In s.heap:=I.ok.mod.kin.keeps I.bk
theorem Inv.fr(I:Inv X pins σ H s):∃ m,Fr X.base X.env.locals s.heap m:=
 let ⟨m,hn,_⟩:=I.loc
 ⟨m,hn,I.bk,cC I.ok.bsz I.ok.above⟩
theorem Inv.lt(I:Inv X pins σ H s):X.env.locals < s.heap.objs.size:=let ⟨_,hn,_⟩:=I.loc;hn.lt
theorem Inv.sz(I:Inv X pins σ H s):X.s₀.heap.objs.size<=s.heap.objs.size:=cC I.ok.above (jY I.lt)
theorem Inv.nofs(I:Inv X pins σ H s){a:Addr}(h:s.heap.objs.size<=a):a∉X.fs:=fun hb=>by
 obtain ⟨_,o,ho,_⟩:=I.ok.funs.mem hb
 exact absurd (aU (aV ho) (cC I.sz h)) (dO _)
theorem Inv.cne(I:Inv X pins σ H s):∀ x c,X.env.cells.lookup x=some c->c≠X.env.locals:=fun x c e z=>by
 obtain ⟨v,o,ho,hd⟩:=I.cell x c e
 obtain ⟨m,⟨o',es,ep,ho',hd',_⟩,_⟩:=I.loc
 rw[z,ho'] at ho;cases ho;rw[hd'] at hd;cases hd
theorem Inv.funs(I:Inv X pins σ H s):s.heap.FunFrames X.base X.outer:=by
 have all:∀ (l:List Env),(∀ b∈frs l,b∈X.fs)->X.s₀.heap.FunFrames X.base l->s.heap.FunFrames X.base l:=by
  intro l
  induction l with
  | nil=>intro _ _;trivial
  | cons env r ih=>
   intro hs hl
   obtain ⟨hk,⟨L,o,hf,hn,ho,hd⟩,hr⟩:=hl
   have hL:L∈X.fs:=hs L (by unfold frs;rw[gW,hf];exact cD)
   obtain ⟨sl,e⟩:=I.base.slot L o ho (I.ok.frf L hL) hL fun z=>I.ok.exfs L z hL
   exact ⟨hk,⟨L,_,hf,hn,e,hd⟩,ih (fun b hb=>hs b (by unfold frs;rw[gW,hf];exact bI _ hb)) hr⟩
 exact all X.outer (fun _ hb=>hb) I.ok.funs
theorem Inv.stack(I:Inv X pins σ H s):s.heap.FunFrames X.base X.stack:=by
 rcases I.ok.stk with e | ⟨e,hf⟩
 ·rw[e];exact I.funs
 ·rw[e]
  obtain ⟨m,hn,_⟩:=I.loc
  refine .cons (by rw[I.ok.kind];decide) hf hn ?_ I.funs
  exact Heap.get?_none_of_le (cC I.ok.bsz I.ok.above)
theorem Inv.stkSub(I:Inv X pins σ H s):∀ b∈frs X.stack,b∈X.env.locals::X.fs:=fun b hb=>by
 rcases I.ok.stk with e | ⟨e,hf⟩
 ·rw[e] at hb;exact bI _ hb
 ·rw[e] at hb
  unfold frs at hb
  rw[gW,hf] at hb
  exact hb
theorem Inv.stkFree(I:Inv X pins σ H s):∀ b∈frs X.stack,H b=none:=fun b hb=>by
 rcases cB.mp (I.stkSub b hb) with e | hb
 ·rw[e];exact I.free
 ·obtain ⟨_,o,ho,_⟩:=I.ok.funs.mem hb
  exact I.base.free b o ho (I.ok.frf b hb) fun z=>I.ok.exfs b z hb
theorem Inv.step{g':Array kC}{t':Nat}{d':Drawn}{ch:List Addr}(I:Inv X pins σ H s)
  (hch:∀ b∈ch,(b∈X.ex\/X.s₀.heap.objs.size<=b)/\b≠X.env.locals/\(∀ x c,X.env.cells.lookup x=some c->c≠b)/\∀ p∈X.pn++pins,p.1≠b)
  (keep:∀ b o,b≠X.env.locals->b∉X.fs->b∉ch->s.heap.get? b=some o->H b=none->h'.get? b=some o)
  (slot:∀ b o,b≠X.env.locals->b∈X.fs->b∉ch->s.heap.get? b=some o->H b=none->∃ sl,h'.get? b=some { o with slots:=sl }) (free:∀ b o,b∉ch->s.heap.get? b=some o->H b=none->H' b=none)
  (there:∀ b o,b∉ch->s.heap.get? b=some o->∃ o',h'.get? b=some o')
  (tups:∀ b xs,H b=some (.tup xs)->H' b=some (.tup xs)) (frzs:∀ b o u,H b=some (.frz o u)->H' b=some (.frz o u)) (tbls:∀ b ps,H b=some (.tbl ps)->∃ more,H' b=some (.tbl (ps++more)))
  (ns:∀ m,s.heap.Ns X.env.locals m->h'.Ns X.env.locals m) (hok:HOk X.prog X.w H' h') (hg:jX g') :
  Inv X pins σ H' { s with heap:=h',gens:=g',drawn:=d',toks:=t' }:=by
 have neL:∀ b o,X.s₀.heap.get? b=some o->b≠X.env.locals:=fun b o e=>bY (aU (aV e) I.ok.above)
 have neC:∀ b o,X.s₀.heap.get? b=some o->b∉X.ex->b∉ch:=fun b o e hx hb=>by
  rcases (hch b hb).1 with z | z
  ·exact hx z
  ·exact absurd (aU (aV e) z) (dO _)
 have cellK:∀ x c,X.env.cells.lookup x=some c->∀ v,s.heap.IsCell c v->h'.IsCell c v:=fun x c e v zz=>by
  obtain ⟨o,ho,hd⟩:=zz
  have nch:c∉ch:=fun z=>(hch c z).2.2.1 x c e rfl
  by_cases hc:c∈X.fs
  ·obtain ⟨sl,q⟩:=slot c o (I.cne x c e) hc nch ho (I.freeC x c e)
   exact ⟨_,q,hd⟩
  ·exact ⟨o,keep c o (I.cne x c e) hc nch ho (I.freeC x c e),hd⟩
 refine ⟨I.ok,I.os,hg,⟨fun b o e n hb hx=>?_,fun b o e n hb hx=>?_,fun b o e n hx=>?_,fun b o e hx=>?_,fun b xs e=>tups b xs (I.base.tups b xs e),fun b o xs e=>frzs b o xs (I.base.frzs b o xs e),fun b ps e=>?_⟩,?_,fun x c e=>?_,?_,fun x c e=>?_,fun p hp=>?_,hok,I.len⟩
 ·exact keep b o (neL b o e) hb (neC b o e hx) (I.base.keep b o e n hb hx) (I.base.free b o e n hx)
 ·obtain ⟨sl,e1⟩:=I.base.slot b o e n hb hx
  obtain ⟨sl',e2⟩:=slot b _ (neL b o e) hb (neC b o e hx) e1 (I.base.free b o e n hx)
  exact ⟨sl',e2⟩
 ·obtain ⟨o',e1⟩:=I.base.there b o e hx
  exact free b o' (neC b o e hx) e1 (I.base.free b o e n hx)
 ·obtain ⟨o',e1⟩:=I.base.there b o e hx
  exact there b o' (neC b o e hx) e1
 ·obtain ⟨m1,e1⟩:=I.base.tbls b ps e
  obtain ⟨m2,e2⟩:=tbls b _ e1
  exact ⟨m1++m2,by rw[e2,Array.append_assoc]⟩
 ·obtain ⟨m,hn,hl⟩:=I.loc
  refine ⟨m,ns m hn,fun i x v e1 e2 e3=>?_⟩
  obtain ⟨u,r,l⟩:=hl i x v e1 e2 e3
  refine ⟨u,r,?_⟩
  rcases l with l | ⟨k,c,e,z⟩
  ·exact .inl l
  ·exact .inr ⟨k,c,e,cellK x c e _ z⟩
 ·obtain ⟨v,z⟩:=I.cell x c e
  exact ⟨v,cellK x c e v z⟩
 ·obtain ⟨m,⟨o,_,_,ho,_⟩,_⟩:=I.loc
  exact free _ o (fun z=>(hch _ z).2.1 rfl) ho I.free
 ·obtain ⟨v,o,ho,hd⟩:=I.cell x c e
  exact free c o (fun z=>(hch c z).2.2.1 x c e rfl) ho (I.freeC x c e)
 ·obtain ⟨e,n,ne,nf,d⟩:=I.pin p hp
  have nch:p.1∉ch:=fun z=>(hch p.1 z).2.2.2 p hp rfl
  exact ⟨keep p.1 p.2 ne nf nch e n,free p.1 p.2 nch e n,ne,nf,d⟩
theorem Inv.un{t':Nat}(I:Inv X pins σ H s)(u:Un X.fs [] H H' s.heap h')(hok:HOk X.prog X.w H' h'):Inv X pins σ H' { s with heap:=h',toks:=t' }:=by
 obtain ⟨m,⟨o,es,ep,ho,r⟩,_⟩:=id I.loc
 obtain ⟨sl,hL⟩:=u.any ho I.free (by simp)
 exact I.step (g':=s.gens) (d':=s.drawn) (ch:=[]) (fun _ z=>nomatch z) (fun b o _ hb _ e n=>u.keep b o e n hb (by simp)) (fun b o _ hb _ e n=>u.slot b o e n hb (by simp)) (fun b o _ e n=>u.free b o e n (by simp)) (fun b o _ e=>u.there b o e (by simp)) u.tups u.frzs u.tbls (fun m' hm=>by
  obtain ⟨o',es',ep',ho',r'⟩:=hm
  rw[ho] at ho';cases ho'
  exact ⟨_,es',ep',hL,r'⟩) hok I.bare
theorem Inv.call{g':Array kC}{t':Nat}{d':Drawn}{ch:List Addr}(I:Inv X pins σ H s)(u:Un (frs X.stack) ch H H' s.heap h')(hok:HOk X.prog X.w H' h')(hg:jX g')
  (hch:∀ b∈ch,(b∈X.ex\/X.s₀.heap.objs.size<=b)/\b≠X.env.locals/\(∀ x c,X.env.cells.lookup x=some c->c≠b)/\∀ p∈X.pn++pins,p.1≠b) :
  Inv X pins σ H' { s with heap:=h',gens:=g',drawn:=d',toks:=t' }:=by
 obtain ⟨m,⟨o,es,ep,ho,r⟩,_⟩:=id I.loc
 obtain ⟨sl,hL⟩:=u.any ho I.free fun z=>(hch _ z).2.1 rfl
 exact I.step (ch:=ch) hch (fun b o hL hb hc e n=>u.keep b o e n (fun z=>(cB.mp (I.stkSub b z)).elim hL hb) hc) (fun b o _ _ hc e n=>u.any e n hc) (fun b o hc e n=>u.free b o e n hc) (fun b o hc e=>u.there b o e hc) u.tups u.frzs u.tbls (fun m' hm=>by
  obtain ⟨o',es',ep',ho',r'⟩:=hm
  rw[ho] at ho';cases ho'
  exact ⟨_,es',ep',hL,r'⟩) hok hg
theorem Inv.turned{t':Nat}{it:Addr}(I:Inv X pins σ H s)(k:∀ b o,b≠it->s.heap.get? b=some o->h'.get? b=some o)(hn:H it=none)(hL:it≠X.env.locals)
  (h1:it∈X.ex\/X.s₀.heap.objs.size<=it) (h2:∀ x c,X.env.cells.lookup x=some c->c≠it) (h3:∀ p∈X.pn++pins,p.1≠it):Inv X pins σ H { s with heap:=h',toks:=t' }:=by
 have nit:∀ b u,H b=some u->b≠it:=fun b u e z=>by rw[z,hn] at e;cases e
 refine I.step (g':=s.gens) (d':=s.drawn) (ch:=[it]) (fun b hb=>?_) (fun b o _ _ hc e _=>k b o (fun z=>hc (by simp[z])) e) (fun b o _ _ hc e _=>⟨o.slots,k b o (fun z=>hc (by simp[z])) e⟩) (fun _ _ _ _ n=>n)
  (fun b o hc e=>⟨o,k b o (fun z=>hc (by simp[z])) e⟩) (fun _ _ e=>e) (fun _ _ _ e=>e) (fun b ps e=>⟨#[],by rw[e];simp⟩) (fun m hm=>?_) (fun b u e=>?_) I.bare
 ·have e:b=it:=by simpa using hb
  subst e
  exact ⟨h1,hL,h2,h3⟩
 ·obtain ⟨o,es,ep,ho,r⟩:=hm
  exact ⟨o,es,ep,k _ o (cR hL) ho,r⟩
 ·refine (I.hok b u e).stay (fun c v hc q=>k c v ?_ q) (fun _ q=>q) fun _ _ q=>q
  rcases hc with z | z
  ·rw[z];exact nit b u e
  ·exact nit c _ z
theorem Inv.tok(I:Inv X pins σ H s)(t:Nat):Inv X pins σ H { s with toks:=t }:=I.un (h':=s.heap) (t':=t) Un.refl I.hok
theorem Inv.kept{t':Nat}(I:Inv X pins σ H s)(k:∀ b u,s.heap.get? b=some u->h'.get? b=some u):Inv X pins σ H { s with heap:=h',toks:=t' }:=I.un (Un.kept k) (I.hok.kept k)
theorem Inv.laid{a:Addr}{o:HO}{t':Nat}(I:Inv X pins σ H s)(k:∀ b u,s.heap.get? b=some u->h'.get? b=some u)(hp:s.heap.objs.size<=a)(new:ObjOk X.prog X.w (upd H a o) h' a o) :
  Inv X pins σ (upd H a o) { s with heap:=h',toks:=t' }:=I.un (Un.laid k hp (I.hok.fresh hp)) (I.hok.laid k hp new)
theorem Inv.write{x e:Addr}{o:HO}{t':Nat}(I:Inv X pins σ H s)(mu:Mut (H x))(he:e=x\/H e=some (.own x))(k:∀ b u,b≠e->s.heap.get? b=some u->h'.get? b=some u)(heo:∃ u,h'.get? e=some u)
  (new:ObjOk X.prog X.w (upd H x o) h' x o):Inv X pins σ (upd H x o) { s with heap:=h',toks:=t' }:=I.un (Un.write mu he k heo) (I.hok.write mu he k heo new)
theorem Inv.pins_of{pins':List (Addr×Obj)}(I:Inv X pins σ H s)(h:∀ p∈pins',s.heap.get? p.1=some p.2/\H p.1=none/\p.1≠X.env.locals/\p.1∉X.fs/\∀ v,p.2.data≠.cell v):Inv X pins' σ H s:=
 ⟨I.ok,I.os,I.bare,I.base,I.loc,I.cell,I.free,I.freeC,fun p hp=>(fW.mp hp).elim (fun z=>I.pin p (dY _ z)) (h p),I.hok,I.len⟩
theorem Qu{N:List Str}(hN:N.Nodup){i j:Nat}{x:Str}(a:N[i]? = some x)(b:N[j]? = some x):i=j:=by
 obtain ⟨h1,e1⟩:=aR.mp a
 obtain ⟨h2,e2⟩:=aR.mp b
 exact (List.getElem_inj hN).mp (e1.trans e2.symm)
theorem Aeq{M:qC}{A:cK}{E:aE->aI->Prop}{i:Nat}{x:Str}{v:V}{u:aE}{Q:Unit->aI->Prop}(I:Inv X pins σ H s)(hN:X.N.Nodup)(hi:X.N[i]? = some x)(hx:Loc X.env.scope x)(r:RelV v u)
  (h:∀ s',Inv X pins (σ.set i (some v)) H s'->(∃ a,iL a s.heap s'.heap/\(a=X.env.locals\/X.env.cells.lookup x=some a))->Q () s') (hf:X.fn x=true\/X.env.scope.names.lookup x=some .local:=by first | exact .inl rfl | exact .inr rfl | assumption):wpAny M A (storeName X.env x u) Q E s:=by
 obtain ⟨m,hn,hl⟩:=id I.loc
 have hcls:(X.env.scope.kind == .class || (X.env.scope.kind == .module&&X.env.locals != X.env.globals))=false:=by rw[I.ok.kind];rfl
 have hiσ:i < σ.length:=by rw[I.len];exact (aR.mp hi).1
 have cne:=I.cne
 have tracked:∀ {a:Addr} {h':Heap},(∃ o,s.heap.get? a=some o/\H a=none)->iL a s.heap h'->HOk X.prog X.w H h':=fun {a h'} ha hs b ob e=>by
  obtain ⟨_,_,hfree⟩:=ha
  refine (I.hok b ob e).stay (fun c w' hc q=>(hs.2 c ?_).trans q) (fun _ q=>q) fun _ _ q=>q
  rintro rfl
  rcases hc with rfl | hc
  ·rw[hfree] at e;cases e
  ·rw[hfree] at hc;cases hc
 rcases hx with hk | hk
 ·refine wpAny_storeName_local hk hn (fun h' hn' hs=>?_) hcls
  obtain ⟨oL,_,_,hoL,_⟩:=id hn
  refine h _ ⟨I.ok,I.os,I.bare,⟨fun b o e n hb hx=>?_,fun b o e n hb hx=>?_,I.base.free,fun b o e hx=>?_,I.base.tups,I.base.frzs,I.base.tbls⟩,⟨_,hn',fun j y v' e1 e2 e3=>?_⟩,fun y c e=>?_,I.free,I.freeC,fun p hp=>?_,tracked ⟨oL,hoL,I.free⟩ hs,by simpa using I.len⟩ ⟨_,hs,.inl rfl⟩
  ·exact (hs.2 b (bY (aU (aV e) I.ok.above))).trans (I.base.keep b o e n hb hx)
  ·obtain ⟨sl,e1⟩:=I.base.slot b o e n hb hx
   exact ⟨sl,(hs.2 b (bY (aU (aV e) I.ok.above))).trans e1⟩
  ·obtain ⟨o',e1⟩:=I.base.there b o e hx
   exact ⟨o',(hs.2 b (bY (aU (aV e) I.ok.above))).trans e1⟩
  ·by_cases hj:j=i
   ·subst hj
    rw[hi] at e1;cases e1
    rw[bU hiσ] at e2
    cases e2
    exact ⟨u,r,.inl ⟨hk,by simp⟩⟩
   ·rw[bA (cR hj)] at e2
    obtain ⟨u',r',q⟩:=hl j y v' e1 e2 e3
    refine ⟨u',r',?_⟩
    rcases q with ⟨k,e⟩ | ⟨k,c,e,z⟩
    ·refine .inl ⟨k,?_⟩
     have:y≠x:=fun e=>hj (Qu hN e1 (e ▸ hi))
     simp[this,e]
    ·exact .inr ⟨k,c,e,z.sameBut hs (cne y c e)⟩
  ·obtain ⟨w',z⟩:=I.cell y c e
   exact ⟨w',z.sameBut hs (cne y c e)⟩
  ·obtain ⟨e,n,ne,nf,d⟩:=I.pin p hp
   exact ⟨(hs.2 p.1 ne).trans e,n,ne,nf,d⟩
 ·have hfn:X.fn x=true:=by
   rcases hf with z | z
   ·exact z
   ·rw[z] at hk;cases hk
  obtain ⟨c,hc⟩:=I.ok.has x (.inl hk)
  obtain ⟨w',z⟩:=I.cell x c hc
  refine wpAny_storeName_cell I.ok.kind hk hc z (fun h' hc' hs=>?_)
  obtain ⟨oc,hoc,hocd⟩:=id z
  refine h { s with heap:=h' } ⟨I.ok,I.os,I.bare,⟨fun b o e n hb hx=>?_,fun b o e n hb hx=>?_,I.base.free,fun b o e hx=>?_,I.base.tups,I.base.frzs,I.base.tbls⟩,⟨m,hn.sameBut hs (cR (cne x c hc)),fun j y v' e1 e2 e3=>?_⟩,fun y c' e=>?_,I.free,I.freeC,fun p hp=>?_,tracked ⟨oc,hoc,I.freeC x c hc⟩ hs,by simpa using I.len⟩ ⟨c,hs,.inr hc⟩
  ·exact (hs.2 b (bY (aU (aV e) (I.ok.cab x c hfn hc)))).trans (I.base.keep b o e n hb hx)
  ·obtain ⟨sl,e1⟩:=I.base.slot b o e n hb hx
   exact ⟨sl,(hs.2 b (bY (aU (aV e) (I.ok.cab x c hfn hc)))).trans e1⟩
  ·obtain ⟨o',e1⟩:=I.base.there b o e hx
   exact ⟨o',(hs.2 b (bY (aU (aV e) (I.ok.cab x c hfn hc)))).trans e1⟩
  ·by_cases hj:j=i
   ·subst hj
    rw[hi] at e1;cases e1
    rw[bU hiσ] at e2
    cases e2
    exact ⟨u,r,.inr ⟨.inl hk,c,hc,hc'⟩⟩
   ·rw[bA (cR hj)] at e2
    obtain ⟨u',r',q⟩:=hl j y v' e1 e2 e3
    refine ⟨u',r',?_⟩
    rcases q with q | ⟨k,c',e,z'⟩
    ·exact .inl q
    ·refine .inr ⟨k,c',e,z'.sameBut hs ?_⟩
     rintro rfl
     exact hj (Qu hN e1 (I.ok.inj _ _ _ e hc ▸ hi))
  ·by_cases hcc:c'=c
   ·subst hcc;exact ⟨_,hc'⟩
   ·obtain ⟨w2,z2⟩:=I.cell y c' e
    exact ⟨w2,z2.sameBut hs hcc⟩
  ·obtain ⟨e,n,ne,nf,d⟩:=I.pin p hp
   refine ⟨(hs.2 p.1 ?_).trans e,n,ne,nf,d⟩
   intro q
   rw[q,hoc] at e
   have q':oc=p.2:=bQ e
   exact d w' (by rw[<- q'];exact hocd)
theorem R0{M:qC}{A:cK}{E:aE->aI->Prop}{i:Nat}{x:Str}{v:V}{u:aE}{Q:Unit->aI->Prop}(I:Inv X pins σ H s)(hN:X.N.Nodup)(hi:X.N[i]? = some x)(hx:Loc X.env.scope x)(r:RelV v u)
  (h:∀ s',Inv X pins (σ.set i (some v)) H s'->Q () s') (hf:X.fn x=true\/X.env.scope.names.lookup x=some .local:=by first | exact .inl rfl | exact .inr rfl | assumption):wpAny M A (storeName X.env x u) Q E s:=
 Aeq I hN hi hx r (fun s' I' _=>h s' I') hf
theorem Inv.call'{s':aI}{ch:List Addr}(I:Inv X pins σ H s)(ho:s'.os=s.os)(u:Un (frs X.stack) ch H H' s.heap s'.heap)(hok:HOk X.prog X.w H' s'.heap)(hg:jX s'.gens)
  (hch:∀ b∈ch,(b∈X.ex\/X.s₀.heap.objs.size<=b)/\b≠X.env.locals/\(∀ x c,X.env.cells.lookup x=some c->c≠b)/\∀ p∈X.pn++pins,p.1≠b):Inv X pins σ H' s':=by
 obtain ⟨h',g',d',t',o'⟩:=s'
 have e:o'=s.os:=ho
 subst e
 exact I.call (g':=g') (t':=t') (d':=d') u hok hg hch
end
abbrev XK:=aE->Option Addr->Hp->Prop
abbrev St:=List (Option V)
abbrev VK:=V->Hp->Prop
abbrev TE:=St->Hp->VK->Prop
abbrev TT:=St->Hp->(Bool->Hp->Prop)->Prop
abbrev TA:=St->Hp->(List V->Hp->Prop)->Prop
structure Ends where
 nx:St->Hp->Prop
 rt:VK
 bk:St->Hp->Prop:=fun _ _=>False
 ct:St->Hp->Prop:=fun _ _=>False
abbrev TS:=Ends->St->Hp->Prop
inductive EP(X:Cx)(pins:List (Addr×Obj))(σ:St)(Q:VK)(u:aE)(s':aI):Prop
 | mk (v:V) (H':Hp) (I:Inv X pins σ H' s') (r:RelV v u) (q:Q v H'):EP X pins σ Q u s'
inductive TP(X:Cx)(pins:List (Addr×Obj))(σ:St)(Q:Bool->Hp->Prop)(b:Bool)(s':aI):Prop
 | mk (H':Hp) (I:Inv X pins σ H' s') (q:Q b H'):TP X pins σ Q b s'
inductive AP(X:Cx)(pins:List (Addr×Obj))(σ:St)(Q:List V->Hp->Prop)(us:List aE)(s':aI):Prop
 | mk (vs:List V) (H':Hp) (I:Inv X pins σ H' s') (r:Vals vs us) (q:Q vs H'):AP X pins σ Q us s'
theorem EP.elim{X:Cx}{pins:List (Addr×Obj)}{σ:St}{Q:VK}{u:aE}{s':aI}{C:Prop}(h:EP X pins σ Q u s')(k:∀ v H',Inv X pins σ H' s'->RelV v u->Q v H'->C):C:=h.rec k
theorem AP.elim{X:Cx}{pins:List (Addr×Obj)}{σ:St}{Q:List V->Hp->Prop}{us:List aE}{s':aI}{C:Prop}(h:AP X pins σ Q us s')(k:∀ vs H',Inv X pins σ H' s'->Vals vs us->Q vs H'->C):C:=h.rec k
noncomputable def SP(X:Cx)(pins:List (Addr×Obj))(D:Ends)(f:Flow)(s':aI):Prop:=
 match f with
 | .next=>∃ σ' H',Inv X pins σ' H' s'/\D.nx σ' H'
 | .brk=>∃ σ' H',Inv X pins σ' H' s'/\D.bk σ' H'
 | .cont=>∃ σ' H',Inv X pins σ' H' s'/\D.ct σ' H'
 | .ret u=>∃ v σ' H',Inv X pins σ' H' s'/\RelV v u/\D.rt v H'
noncomputable def PE(X:Cx)(e:Expr)(t:TE):Prop:=
 ∀ (pins:List (Addr×Obj)) (s:aI) (σ:St) (H:Hp) (Q:VK),Inv X pins σ H s->t σ H Q->wpAny (model X.prog X.w) X.A (eval e X.env) (EP X pins σ Q) X.xe s
noncomputable def PT(X:Cx)(e:Expr)(t:TT):Prop:=
 ∀ (pins:List (Addr×Obj)) (s:aI) (σ:St) (H:Hp) (Q:Bool->Hp->Prop),Inv X pins σ H s->t σ H Q->wpAny (model X.prog X.w) X.A (isTrue e X.env (eval e X.env)) (TP X pins σ Q) X.xe s
noncomputable def PW(X:Cx)(e:Expr)(t:TT):Prop:=
 ∀ (whole:Sem aE) (pins:List (Addr×Obj)) (s:aI) (σ:St) (H:Hp) (Q:Bool->Hp->Prop),Inv X pins σ H s->t σ H Q->wpAny (model X.prog X.w) X.A (isTrue e X.env whole) (TP X pins σ Q) X.xe s
theorem PW.pt{X:Cx}{e:Expr}{t:TT}(h:PW X e t):PT X e t:=h _
noncomputable def PA(X:Cx)(es:List Expr)(t:TA):Prop:=
 ∀ (pos:Pos) (pins:List (Addr×Obj)) (s:aI) (σ:St) (H:Hp) (Q:List V->Hp->Prop),Inv X pins σ H s->t σ H Q->wpAny (model X.prog X.w) X.A (spliced (backTo pos (aS es X.env))) (AP X pins σ Q) X.xe s
noncomputable def PS(X:Cx)(st:Stmt)(t:TS):Prop:=
 ∀ (pins:List (Addr×Obj)) (s:aI) (σ:St) (H:Hp) (D:Ends),Inv X pins σ H s->t D σ H->wpAny (model X.prog X.w) X.A (exec st X.env) (SP X pins D) X.xe s
noncomputable def PSs(X:Cx)(st:List Stmt)(t:TS):Prop:=
 ∀ (pins:List (Addr×Obj)) (s:aI) (σ:St) (H:Hp) (D:Ends),Inv X pins σ H s->t D σ H->wpAny (model X.prog X.w) X.A (execs st X.env) (SP X pins D) X.xe s
theorem thn{α:Type}{t:Sem α}{Q Q':α->aI->Prop}{M:qC}{A:cK}{E:aE->aI->Prop}{s:aI}(h:wpAny M A t Q E s)(hQ:∀ a s,Q a s->Q' a s):wpAny M A t Q' E s:=cL h hQ fun _ _ x=>x
section
variable {X:Cx}
noncomputable def Ar1(i:Nat):TE:=fun σ H Q=>∃ v,σ[i]? = some (some v)/\Q v H
noncomputable def tC(v:V):TE:=fun _ H Q=>Q v H
theorem Amy{i:Nat}{x:Str}{pos:Pos}(hN:X.N[i]? = some x)(hv:Vis X.env.scope x)(hd:(x == ("__debug__" : Str))=false:=by decide)(hcd:(x == ("__classdict__" : Str))=false:=by decide):PE X (.Name x pos) (Ar1 i):=by
 intro pins s σ H Q I h
 obtain ⟨v,e,h⟩:=h
 obtain ⟨m,hn,hl⟩:=I.loc
 obtain ⟨u,r,l⟩:=hl i x v hN e hv
 have fin:EP X pins σ Q u s:=⟨v,H,I,r,h⟩
 rcases l with ⟨hk,hm⟩ | ⟨hk,c,hc,hcell⟩
 ·exact qD (wpAny_loadName_local I.ok.kind hk hn hm fin) hd
 ·rcases hk with hk | hk
  ·exact qD (wpAny_loadName_cell I.ok.kind hk hc hcell fin) hd
  ·exact qD (wpAny_loadName_free I.ok.kind hk hc hcell fin hcd) hd
theorem Aof{i j pos}:PE X (.Constant (.int i) j pos) (tC (.int i)):=fun _ _ _ H _ I h=>wpAny_Constant_int ⟨.int i,H,I.tok _,⟨_,rfl⟩,h⟩
theorem Ap0{b j pos}:PE X (.Constant (.bool b) j pos) (tC (.bl b)):=fun _ _ _ H _ I h=>Constant_bool ⟨.bl b,H,I,rfl,h⟩
theorem Anq{j pos}:PE X (.Constant .none j pos) (tC .non):=fun _ _ _ H _ I h=>Constant_none ⟨.non,H,I,rfl,h⟩
theorem Am7{x j pos}:PE X (.Constant (.str x) j pos) (tC (.str x)):=fun _ _ _ H _ I h=>Calls.Constant_str ⟨.str x,H,I.tok _,⟨_,rfl⟩,h⟩
noncomputable def Gl(X:Cx)(x:Str):Prop:=X.env.kindOf x=some .globalImplicit
theorem Mh{E:aE->aI->Prop}{pins:List (Addr×Obj)}{s:aI}{σ:St}{H:Hp}{x:Str}{u:aE}{pos:Pos}{Q:aE->aI->Prop}(I:Inv X pins σ H s)(hg:Gl X x)(hm:X.mg x=some u)(h:Q u s)
  (hd:(x == ("__debug__" : Str))=false:=by decide):wpAny (model X.prog X.w) X.A (eval (.Name x pos) X.env) Q E s:=
 kD I.ok.kind hg (Calls.loadGlobal_global (by rw[I.ok.glob];exact I.mod.glob.keeps I.bk) hm h) hd
theorem Na{E:aE->aI->Prop}{pins:List (Addr×Obj)}{s:aI}{σ:St}{H:Hp}{x:Str}{u:aE}{pos:Pos}{Q:aE->aI->Prop}(I:Inv X pins σ H s)(hg:Gl X x)(hm:X.mg x=none)(hv:eC x=some u)(h:Q u s)
  (hn:x ≠ "__name__" := by decide) (hd:(x == ("__debug__" : Str))=false:=by decide):wpAny (model X.prog X.w) X.A (eval (.Name x pos) X.env) Q E s:=by
 obtain ⟨mb,h1,h2⟩:=I.mod.blt
 exact kD I.ok.kind hg (Calls.loadGlobal_builtin (by rw[I.ok.glob];exact I.mod.glob.keeps I.bk) hm (by rw[I.ok.blt];exact h1.keeps I.bk) ((h2 x hn).trans hv) h) hd
theorem Acp{x:Str}{v:V}{u:aE}{pos:Pos}(hg:Gl X x)(hm:X.mg x=some u)(r:RelV v u)(hd:(x == ("__debug__" : Str))=false:=by decide):PE X (.Name x pos) (tC v):=
 fun _ _ _ H _ I h=>Mh I hg hm ⟨v,H,I,r,h⟩ hd
theorem Acb{x:Str}{v:V}{u:aE}{pos:Pos}(hg:Gl X x)(hm:X.mg x=none)(hv:eC x=some u)(r:RelV v u)(hn:x ≠ "__name__" := by decide)(hd:(x == ("__debug__" : Str))=false:=by decide):PE X (.Name x pos) (tC v):=
 fun _ _ _ H _ I h=>Na I hg hm hv ⟨v,H,I,r,h⟩ hn hd
variable {a b:Expr}{ta tb:TE}{pos:Pos}
variable {tA tB':TT}{rest:List Expr}
noncomputable def Aqv(t u:TT):TT:=fun σ H Q=>t σ H fun c H1=>if c=true then u σ H1 Q else Q false H1
noncomputable def tOr(t u:TT):TT:=fun σ H Q=>t σ H fun c H1=>if c=true then Q true H1 else u σ H1 Q
noncomputable def Ar2(t:TT):TT:=fun σ H Q=>t σ H fun c H1=>Q (!c) H1
theorem Akc(ha:PT X a tA):PW X (.BoolOp .And [a] pos) tA:=by
 intro wh pins s σ H Q I h
 refine isTrue_and (thn (ha pins s σ H Q I h) fun c s1 e=>?_)
 cases c with
 | true=>exact isTrue_and_nil e
 | false=>exact e
theorem Am5(ha:PT X a tA):PW X (.BoolOp .Or [a] pos) tA:=by
 intro wh pins s σ H Q I h
 refine isTrue_or (thn (ha pins s σ H Q I h) fun c s1 e=>?_)
 cases c with
 | false=>exact isTrue_or_nil e
 | true=>exact e
theorem Am2(ha:PT X a tA)(hb:PW X (.BoolOp .And (b::rest) pos) tB'):PW X (.BoolOp .And (a::b::rest) pos) (Aqv tA tB'):=by
 intro wh pins s σ H Q I h
 refine isTrue_and (thn (ha pins s σ H _ I h) fun c s1 zz=>?_)
 obtain ⟨H1,I1,q1⟩:=zz
 cases c with
 | true=>exact hb wh pins s1 σ H1 Q I1 q1
 | false=>exact ⟨H1,I1,q1⟩
theorem Ap1(ha:PT X a tA)(hb:PW X (.BoolOp .Or (b::rest) pos) tB'):PW X (.BoolOp .Or (a::b::rest) pos) (tOr tA tB'):=by
 intro wh pins s σ H Q I h
 refine isTrue_or (thn (ha pins s σ H _ I h) fun c s1 zz=>?_)
 obtain ⟨H1,I1,q1⟩:=zz
 cases c with
 | true=>exact ⟨H1,I1,q1⟩
 | false=>exact hb wh pins s1 σ H1 Q I1 q1
theorem Amk(ha:PT X a tA):PT X (.UnaryOp .Not a pos) (Ar2 tA):=by
 intro pins s σ H Q I h
 exact isTrue_not (thn (ha pins s σ H (fun c H1=>Q (!c) H1) I h) fun _ _ z=>z.rec fun H' I' q=>⟨H',I',q⟩)
noncomputable def Ao6(ta tb:TE):TE:=fun σ H Q=>ta σ H fun x H1=>∃ c,x = .bl c/\if c=true then tb σ H1 Q else Q (.bl false) H1
noncomputable def Apu(ta:TE):TE:=fun σ H Q=>ta σ H fun x H1=>∃ c,x = .bl c/\Q (.bl (!c)) H1
theorem Amu{op}{t:TE}(h:PE X a t):PE X (.BoolOp op [a] pos) t:=fun pins s σ H Q I hw=>BoolOp_one (h pins s σ H Q I hw)
theorem Al6(ha:PE X a ta)(hb:PE X (.BoolOp .And (b::rest) pos) tb):PE X (.BoolOp .And (a::b::rest) pos) (Ao6 ta tb):=by
 intro pins s σ H Q I h
 refine BoolOp_and (thn (ha pins s σ H _ I h) fun v s1 zz=>?_)
 obtain ⟨x,H1,I1,r1,q1⟩:=zz
 obtain ⟨c,rfl,q1⟩:=q1
 cases r1
 refine fD ?_
 cases c with
 | true=>exact hb pins s1 σ H1 Q I1 q1
 | false=>exact ⟨.bl false,H1,I1,rfl,q1⟩
theorem An4(ha:PE X a ta):PE X (.UnaryOp .Not a pos) (Apu ta):=by
 intro pins s σ H Q I h
 refine UnaryOp_ (thn (ha pins s σ H _ I h) fun v s1 zz=>?_)
 obtain ⟨x,H1,I1,r1,q1⟩:=zz
 obtain ⟨c,rfl,q1⟩:=q1
 cases r1
 exact not_of (fD ⟨.bl (!c),H1,I1,rfl,q1⟩)
end
noncomputable def SqL(K:aC)(H:Hp)(a:Addr)(xs:List V):Prop:=
 Rd H a (.lst xs) \/
  ∃ (o:Obj) (its:Array aE) (n:Nat),K.lookup a=some o/\o.cls = .type "list" /\ o.dict=none/\o.data = .seq its n/\its.size<=sizeLine/\Vals xs its.toList
noncomputable def SqT(K:aC)(H:Hp)(a:Addr)(xs:List V):Prop:=
 Rd H a (.tup xs) \/
  ∃ (o:Obj) (its:Array aE) (n:Nat),K.lookup a=some o/\(o.cls,o.dict)=(mI "tuple",(none:Option Addr))/\o.data = .seq its n/\its.size<=sizeLine/\Vals xs its.toList
noncomputable def Ar9:aE->Option V
 | .none=>some .non
 | .bool b=>some (.bl b)
 | .int i _=>some (.int i)
 | .str x _=>some (.str x)
 | .bytes b _=>some (.byt b)
 | .float b _=>some (.flt b)
 | .ref a=>some (.ref a)
 | .type n=>some (.ty n)
 | _=>none
theorem RelV.abs{x:V}{u:aE}(r:RelV x u):Ar9 u=some x:=by
 cases x with
 | non=>cases r;rfl
 | bl _=>cases r;rfl
 | int _=>obtain ⟨t,rfl⟩:=r;rfl
 | str _=>obtain ⟨t,rfl⟩:=r;rfl
 | byt _=>obtain ⟨t,rfl⟩:=r;rfl
 | flt _=>obtain ⟨t,rfl⟩:=r;rfl
 | ref _=>cases r;rfl
 | ty _=>cases r;rfl
theorem RelV.inj{x y:V}{u:aE}(r:RelV x u)(q:RelV y u):x=y:=bQ (r.abs.symm.trans q.abs)
theorem Vals.inj{xs ys:List V}{us:List aE}(h:Vals xs us)(h':Vals ys us):xs=ys:=by
 induction h generalizing ys with
 | nil=>cases h';rfl
 | cons r t ih=>
  cases h' with
  | cons r' t'=>rw[r.inj r',ih t']
section
variable {X:Cx}{pins:List (Addr×Obj)}{σ:St}{H:Hp}{s:aI}{a:Addr}{xs ys:List V}
theorem SqL.of{K:aC}(h:H a=some (.lst xs)):SqL K H a xs:=.inl (.inl h)
theorem SqT.of{K:aC}(h:H a=some (.tup xs)):SqT K H a xs:=.inl (.inl h)
theorem Inv.list(I:Inv X pins σ H s)(h:SqL X.K H a xs):∃ its:List aE,Vals xs its/\PlainL s.heap a its.toArray/\xs.length<=sizeLine:=by
 rcases h with h | ⟨o,its,n,hk,hc,hd,hs,hz,r⟩
 ·obtain ⟨z,its,n,r,e⟩:=h.ok I.hok
  exact ⟨its,r,⟨_,n,e,rfl,rfl,rfl⟩,z⟩
 ·refine ⟨its.toList,r,⟨o,n,I.kIn a o hk,hc,hd,by simpa using hs⟩,?_⟩
  have e:=r.length
  simp only[jU] at e
  omega
theorem Inv.tupleN(I:Inv X pins σ H s)(h:SqT X.K H a xs):∃ its:List aE,Vals xs its/\TupN s.heap a its.toArray/\xs.length<=sizeLine:=by
 rcases h with h | ⟨o,its,n,hk,hc,hs,hz,r⟩
 ·obtain ⟨z,its,r,p⟩:=h.ok I.hok
  exact ⟨its,r,p,z⟩
 ·refine ⟨its.toList,r,⟨o,I.kIn a o hk,hc,n,by simpa using hs⟩,?_⟩
  have e:=r.length
  simp only[jU] at e
  omega
theorem Inv.tuple(I:Inv X pins σ H s)(h:SqT X.K H a xs):∃ its:List aE,Vals xs its/\IsTup s.heap a its.toArray/\xs.length<=sizeLine:=by
 obtain ⟨its,r,p,z⟩:=I.tupleN h
 exact ⟨its,r,p.is,z⟩
theorem Inv.list_inj(I:Inv X pins σ H s)(h:SqL X.K H a xs)(h':SqL X.K H a ys):xs=ys:=by
 obtain ⟨its,r,⟨o,n,e,_,_,d⟩,_⟩:=I.list h
 obtain ⟨its',r',⟨o',n',e',_,_,d'⟩,_⟩:=I.list h'
 rw[e] at e';cases e'
 rw[d] at d'
 injection d' with d1 _
 have:its=its':=by simpa using congrArg qW d1
 subst this
 exact r.inj r'
theorem Inv.tuple_inj(I:Inv X pins σ H s)(h:SqT X.K H a xs)(h':SqT X.K H a ys):xs=ys:=by
 obtain ⟨its,r,⟨o,e,_,n,d⟩,_⟩:=I.tuple h
 obtain ⟨its',r',⟨o',e',_,n',d'⟩,_⟩:=I.tuple h'
 rw[e] at e';cases e'
 rw[d] at d'
 injection d' with d1 _
 have:its=its':=by simpa using congrArg qW d1
 subst this
 exact r.inj r'
end
abbrev Cx.wish(X:Cx)(E:aE->aI->Prop):Cx:={ X with xe:=E }
abbrev Cx.nox(X:Cx):Cx:=X.wish fun _ _=>False
theorem Cx.Ok.wish{X:Cx}(ok:X.Ok)(E:aE->aI->Prop):(X.wish E).Ok:=
 ⟨ok.mod,ok.kind,ok.glob,ok.blt,ok.above,ok.inj,ok.has,ok.cab,ok.hd,ok.frames,ok.stk,ok.exf,ok.bs,ok.bsz,ok.noex,ok.exfs,ok.funs,ok.frf⟩
theorem Cx.Ok.unwish{X:Cx}{E:aE->aI->Prop}(ok:(X.wish E).Ok):X.Ok:=
 ⟨ok.mod,ok.kind,ok.glob,ok.blt,ok.above,ok.inj,ok.has,ok.cab,ok.hd,ok.frames,ok.stk,ok.exf,ok.bs,ok.bsz,ok.noex,ok.exfs,ok.funs,ok.frf⟩
section
variable {X:Cx}{pins:List (Addr×Obj)}{σ:St}{H:Hp}{s:aI}{E:aE->aI->Prop}
theorem Inv.wish(I:Inv X pins σ H s)(E:aE->aI->Prop):Inv (X.wish E) pins σ H s:=⟨I.ok.wish E,I.os,I.bare,I.base,I.loc,I.cell,I.free,I.freeC,I.pin,I.hok,I.len⟩
theorem Inv.unwish(I:Inv (X.wish E) pins σ H s):Inv X pins σ H s:=⟨I.ok.unwish,I.os,I.bare,I.base,I.loc,I.cell,I.free,I.freeC,I.pin,I.hok,I.len⟩
theorem SP.unwish{D:Ends}{f:Flow}{s':aI}(h:SP (X.wish E) pins D f s'):SP X pins D f s':=by
 cases f with
 | next=>obtain ⟨σ',H',I,q⟩:=h;exact ⟨σ',H',I.unwish,q⟩
 | brk=>obtain ⟨σ',H',I,q⟩:=h;exact ⟨σ',H',I.unwish,q⟩
 | cont=>obtain ⟨σ',H',I,q⟩:=h;exact ⟨σ',H',I.unwish,q⟩
 | ret u=>obtain ⟨v,σ',H',I,r,q⟩:=h;exact ⟨v,σ',H',I.unwish,r,q⟩
theorem PSs.nox{st:List Stmt}{t:TS}(h:PSs X.nox st t):PSs X st t:=fun pins s σ H D I hw=>
 cL (h pins s σ H D (I.wish _) hw) (fun _ _ q=>q.unwish) fun _ _ z=>dJ z
end
section
variable {X:Cx}{st:Stmt}{rest:List Stmt}{t u:TS}{e:Expr}{te:TE}{pos:Pos}
noncomputable def Apg:TS:=fun D σ H=>D.nx σ H
noncomputable def Aq9(t u:TS):TS:=fun D σ H=>t { D with nx:=u D } σ H
theorem Ai2:PSs X [] Apg:=fun _ _ σ H _ I h=>jK ⟨σ,H,I,h⟩
theorem Afc(h1:PS X st t)(h2:PSs X rest u):PSs X (st::rest) (Aq9 t u):=by
 intro pins s σ H D I h
 refine iY (thn (h1 pins s σ H { D with nx:=u D } I h) fun f s1 q=>?_)
 cases f with
 | next=>
  obtain ⟨σ',H',I',q⟩:=q
  exact h2 pins s1 σ' H' D I' q
 | ret v=>exact q
 | brk=>exact q
 | cont=>exact q
theorem Ai0(h1:PS X st t):PSs X [st] t:=by
 intro pins s σ H D I h
 refine iY (thn (h1 pins s σ H D I h) fun f s1 q=>?_)
 cases f with
 | next=>exact jK q
 | ret v=>exact q
 | brk=>exact q
 | cont=>exact q
theorem Inv.quiet{pins:List (Addr×Obj)}{σ:St}{H:Hp}{s:aI}(I:Inv X pins σ H s):interactive X.env=false:=by simp[interactive,I.ok.kind]
noncomputable def Apy(te:TE):TS:=fun D σ H=>te σ H fun _ H1=>D.nx σ H1
theorem Aj7(he:PE X e te)(hs:swapsWith e none pos.line X.env=pure false:=by rfl):PS X (.Expr e pos) (Apy te):=by
 intro pins s σ H D I h
 exact wpAny_Expr_any (thn (he pins s σ H _ I h) fun v s1 zz=>by obtain ⟨x,H1,I1,r1,q1⟩:=zz;exact ⟨σ,H1,I1,q1⟩) I.quiet hs
noncomputable def Arj(te:TE):TS:=fun D σ H=>te σ H D.rt
theorem Aml(he:PE X e te):PS X (.Return (some e) pos) (Arj te):=by
 intro pins s σ H D I h
 exact wpAny_Return_some (thn (he pins s σ H _ I h) fun v s1 zz=>by obtain ⟨x,H1,I1,r1,q1⟩:=zz;exact ⟨x,σ,H1,I1,r1,q1⟩)
noncomputable def Ar5(c:TT)(t u:TS):TS:=fun D σ H=>c σ H fun b H1=>if b=true then t D σ H1 else u D σ H1
theorem Aqi{c:Expr}{a b:List Stmt}{tc:TT}(hc:PT X c tc)(ha:PSs X a t)(hb:PSs X b u):PS X (.If c a b pos) (Ar5 tc t u):=by
 intro pins s σ H D I h
 refine wpAny_If (thn (hc pins s σ H _ I h) fun d s1 zz=>?_)
 obtain ⟨H1,I1,q1⟩:=zz
 cases d with
 | true=>exact ha pins s1 σ H1 D I1 q1
 | false=>exact hb pins s1 σ H1 D I1 q1
noncomputable def Amb:TS:=fun _ _ _=>False
theorem Afo:PS X st Amb:=fun _ _ _ _ _ _ h=>h.elim
end
abbrev TG:=V->St->Hp->(St->Hp->Prop)->Prop
abbrev TGs:=List V->St->Hp->(St->Hp->Prop)->Prop
noncomputable def PG(X:Cx)(target:Expr)(t:TG):Prop:=
 ∀ (pins:List (Addr×Obj)) (s:aI) (σ:St) (H:Hp) (v:V) (u:aE) (Q:St->Hp->Prop),Inv X pins σ H s->RelV v u->t v σ H Q ->
  wpAny (model X.prog X.w) X.A (assign target X.env u) (fun _ s'=>∃ σ' H',Inv X pins σ' H' s'/\Q σ' H') X.xe s
noncomputable def PGs(X:Cx)(ts:List Expr)(t:TGs):Prop:=
 ∀ (pins:List (Addr×Obj)) (s:aI) (σ:St) (H:Hp) (vs:List V) (us:List aE) (Q:St->Hp->Prop),Inv X pins σ H s->Vals vs us->t vs σ H Q ->
  wpAny (model X.prog X.w) X.A (assignInOrder ((assignEach ts X.env).map (·.2)) us) (fun _ s'=>∃ σ' H',Inv X pins σ' H' s'/\Q σ' H') X.xe s
abbrev Anu:=V->V->V->Hp->(Hp->Prop)->Prop
noncomputable def Ap6(X:Cx)(t:Anu):Prop:=
 ∀ (pins:List (Addr×Obj)) (s:aI) (σ:St) (H:Hp) (o i v:V) (ov iv u:aE) (Q:Hp->Prop),Inv X pins σ H s->RelV o ov->RelV i iv->RelV v u->t o i v H Q ->
  wpAny (model X.prog X.w) X.A (setItem ov iv u) (fun _ s'=>∃ H',Inv X pins σ H' s'/\Q H') X.xe s
section
variable {X:Cx}{pos:Pos}
noncomputable def Wy(i:Nat):TG:=fun v σ H Q=>Q (σ.set i (some v)) H
theorem Adi{i:Nat}{x:Str}(hN:X.N.Nodup)(hi:X.N[i]? = some x)(hx:Loc X.env.scope x)(hf:X.fn x=true\/X.env.scope.names.lookup x=some .local:=by first | exact .inl rfl | exact .inr rfl | assumption):PG X (.Name x pos) (Wy i):=by
 intro pins s σ H v u Q I r h
 exact wpAny_assign_Name (R0 I hN hi hx r (fun s' I'=>⟨_,H,I',h⟩) hf)
noncomputable def gNil:TGs:=fun vs σ H Q=>vs=[]/\Q σ H
noncomputable def gCons(t:TG)(u:TGs):TGs:=fun vs σ H Q=>∃ v r,vs=v::r/\t v σ H fun σ' H'=>u r σ' H' Q
theorem Akj:PGs X [] gNil:=by
 intro pins s σ H vs us Q I r h
 obtain ⟨e,h⟩:=h
 subst e
 cases r
 exact assignInOrder_nil ⟨σ,H,I,h⟩
theorem Aig{e:Expr}{es:List Expr}{t:TG}{u:TGs}(h1:PG X e t)(h2:PGs X es u)
  (hs:(assignEach (e::es) X.env).map (·.2)=assign e X.env::(assignEach es X.env).map (·.2):=by rfl):PGs X (e::es) (gCons t u):=by
 intro pins s σ H vs us Q I r h
 obtain ⟨v,vr,e1,h⟩:=h
 subst e1
 cases r with
 | cons r rr=>
  rw[hs]
  refine assignInOrder_cons (thn (h1 pins s σ H _ _ _ I r h) fun _ s1 zz=>?_)
  obtain ⟨σ1,H1,I1,q1⟩:=zz
  exact h2 pins s1 σ1 H1 _ _ Q I1 rr q1
noncomputable def gTup(K:aC)(n:Nat)(t:TGs):TG:=fun v σ H Q=>∃ a xs,v = .ref a/\SqT K H a xs/\xs.length=n/\t xs σ H Q
theorem Anw{es:List Expr}{k:Nat}{t:TGs}{n:Nat}(hc:X.calm=true)(h:PGs X es t)
  (hn:(assignEach es X.env).length=n:=by rfl) (hst:(assignEach es X.env).findIdx? (·.1)=none:=by rfl):PG X (.Tuple es k pos) (gTup X.K n t):=by
 intro pins s σ H v u Q I r hw
 obtain ⟨a,xs,e1,hq,hl,hw⟩:=hw
 subst e1
 cases r
 obtain ⟨its,rv,ht,hz⟩:=I.tuple hq
 refine assign_Tuple_tuple (I.ok.hd hc) ht (by simp[hn,<- hl,rv.length]) hst fun h' hx=>?_
 have I1:Inv X pins σ H { s with heap:=h' }:=I.kept (t':=s.toks) fun b o e=>hx b o (bY (aV e)) e
 exact h pins _ σ H xs _ Q I1 (by simpa using rv) hw
noncomputable def gSub(to ti:TE)(t:Anu):TG:=fun v σ H Q=>to σ H fun o H1=>ti σ H1 fun i H2=>t o i v H2 fun H3=>Q σ H3
theorem Al3{o i:Expr}{to ti:TE}{t:Anu}(ho:PE X o to)(hi:PE X i ti)(hs:Ap6 X t)
  (ha:∀ v,assign (.Subscript o i pos) X.env v=(do
   let ov <- holding [v] (eval o X.env)
   let iv <- holding [v,ov] (eval i X.env)
   standAt pos
   holding [v,ov,iv] (setItem ov iv v)
   release [v,ov,iv] []):=by intro _;rfl):PG X (.Subscript o i pos) (gSub to ti t):=by
 intro pins s σ H v u Q I r h
 rw[ha]
 refine aG (gC (thn (ho pins s σ H _ I h) fun ov s1 zz=>?_))
 obtain ⟨x,H1,I1,r1,q1⟩:=zz
 refine aG (gC (thn (hi pins s1 σ H1 _ I1 q1) fun iv s2 zz=>?_))
 obtain ⟨y,H2,I2,r2,q2⟩:=zz
 refine aG (jB (aG (gC (thn (hs pins s2 σ H2 x y v ov iv u _ I2 r1 r2 r q2) fun _ s3 zz=>?_))))
 obtain ⟨H3,I3,q3⟩:=zz
 exact wpAny_release ⟨σ,H3,I3,q3⟩
noncomputable def Ai4(te:TE)(g:TG):TS:=fun D σ H=>te σ H fun x H1=>g x σ H1 D.nx
theorem Am3{tg e:Expr}{te:TE}{g:TG}(he:PE X e te)(hg:PG X tg g)(hs:swapsWithSole [tg] e pos.line X.env=pure false:=by rfl)(hw:swappedStores [tg] e X.env=pure none:=by rfl)
  (h1:(assignEach [tg] X.env).map (·.2)=[assign tg X.env]:=by rfl):PS X (.Assign [tg] e pos) (Ai4 te g):=by
 intro pins s σ H D I h
 refine wpAny_Assign_stores (thn (he pins s σ H _ I h) fun v s1 zz=>zz.elim fun x H1 I1 r1 q1=>?_) hs hw
 rw[h1]
 exact thn (hg pins s1 σ H1 x v _ I1 r1 q1) fun _ s2 q=>q
theorem Aod{i:Nat}{x:Str}{e:Expr}{te:TE}{pos':Pos}(hN:X.N.Nodup)(hi:X.N[i]? = some x)(hx:Loc X.env.scope x)(he:PE X e te)(hs:swapsWith e (some (.Name x pos')) pos.line X.env=pure false:=by rfl)(hf:X.fn x=true\/X.env.scope.names.lookup x=some .local:=by first | exact .inl rfl | exact .inr rfl | assumption) :
  PS X (.Assign [.Name x pos'] e pos) (Ai4 te (Wy i)):=by
 intro pins s σ H D I h
 refine oK (thn (he pins s σ H _ I h) fun v s1 zz=>zz.elim fun y H1 I1 r1 q1=>?_) hs
 exact R0 I1 hN hi hx r1 (fun s2 I2=>⟨_,H1,I2,q1⟩) hf
end
section
variable {X:Cx}{pos:Pos}
end
structure It where
 go:Nat->Hp->Prop
 yld:Nat->Hp->V->Hp->Prop
 stop:Nat->Hp->Prop
noncomputable def Mm(X:Cx)(pins:List (Addr×Obj))(H:Hp)(b:Addr):Prop:=
 H b=none/\b≠X.env.locals/\b∉X.fs/\(b∈X.ex\/X.s₀.heap.objs.size<=b)/\(∀ x c,X.env.cells.lookup x=some c->c≠b)/\∀ p∈X.pn++pins,p.1≠b
theorem Inv.fpOk{X:Cx}{pins:List (Addr×Obj)}{σ:St}{H H':Hp}{s:aI}{b:Addr}(I:Inv X pins σ H s)(hb:s.heap.objs.size<=b)(hn:H' b=none):Mm X pins H' b:=by
 refine ⟨hn,gO (aU I.lt hb),I.nofs hb,.inr (cC I.sz hb),fun x c e z=>?_,fun p hp z=>?_⟩
 ·obtain ⟨v,q⟩:=I.cell x c e
  exact absurd (aU q.lt (by rw[z];exact hb)) (dO _)
 ·exact absurd (aU (aV (I.pin p hp).1) (by rw[z];exact hb)) (dO _)
structure Turn(P:bN)(w:bW)(K:aC)(tg:Expr)(J:It)(fp:List Addr)(it:Addr)(tn:Nat->Heap->Prop):Prop where
 mem:it∈fp
 obj:∀ i h,tn i h->∀ b∈fp,∃ o,h.get? b=some o/\∀ v,o.data≠.cell v
 keep:∀ i h h',tn i h->(∀ b∈fp,∀ o,h.get? b=some o->h'.get? b=some o)->tn i h'
 item:∀ (X:Cx),X.prog=P->X.w=w->X.K=K->X.calm=true->∀ (i:Nat) (pins:List (Addr×Obj)) (s:aI) (σ:St) (H:Hp) (E:aE->aI->Prop),Inv X pins σ H s->(∀ b∈fp,Mm X pins H b)->tn i s.heap->J.go i H ->
  wpAny (model P w) X.A (pyNext (.ref it)) (fun r s1=>∃ u,r=some u /\
   wpAny (model P w) X.A (letOwnedTupleGo tg (.ref it) u) (fun _ s2=>∃ x H',Inv X pins σ H' s2/\RelV x u/\J.yld i H x H'/\tn (i+1) s2.heap/\∀ b∈fp,H' b=none) E s1) E s
 done:∀ (X:Cx),X.prog=P->X.w=w->X.K=K->X.calm=true->∀ (i:Nat) (pins:List (Addr×Obj)) (s:aI) (σ:St) (H:Hp) (E:aE->aI->Prop),Inv X pins σ H s->(∀ b∈fp,Mm X pins H b)->tn i s.heap->J.stop i H ->
  wpAny (model P w) X.A (pyNext (.ref it)) (fun r s1=>r=none/\Inv X pins σ H s1) E s
 self:∀ (A:cK) (i:Nat) (s:aI) (Q:aE->aI->Prop) (E:aE->aI->Prop),tn i s.heap->Q (.ref it) s->wpAny (model P w) A (pyIter (.ref it)) Q E s
abbrev TI:=St->Hp->(It->Hp->Prop)->Prop
inductive PIE(X:Cx)(pins:List (Addr×Obj))(σ:St)(tg:Expr)(R:It->Hp->Prop)(itv:aE)(s2:aI):Prop
 | mk (it:Addr) (fp:List Addr) (tn:Nat->Heap->Prop) (J:It) (H':Hp) (h0:itv = .ref it) (h1:Inv X pins σ H' s2) (h2:Turn X.prog X.w X.K tg J fp it tn) (h3:tn 0 s2.heap) (h4:(∀ b∈fp,Mm X pins H' b)) (h5:R J H'):PIE X pins σ tg R itv s2
noncomputable def PI(X:Cx)(tg iter:Expr)(wi:TI):Prop:=
 ∀ (pins:List (Addr×Obj)) (s:aI) (σ:St) (H:Hp) (R:It->Hp->Prop),Inv X pins σ H s->wi σ H R ->
  wpAny (model X.prog X.w) X.A (eval iter X.env) (fun v s1=>wpAny (model X.prog X.w) X.A (pyIter v) (PIE X pins σ tg R) X.xe s1) X.xe s
theorem Abm{M:qC}{A:cK}{E:aE->aI->Prop}{s:aI}{tg:Expr}{it:Addr}{u:aE}{o:Obj}{n:String}{vs:Array aE}{Q:Unit->aI->Prop}(ho:s.heap.get? it=some o)(hc:o.cls = .type n)(hd:o.data = .fields vs)
  (hn:["enumerate","zip","dict_itemiterator","dict_reverseitemiterator","odict_iterator","itertools.zip_longest","itertools.pairwise"].contains n=false) (hQ:Q () s):wpAny M A (letOwnedTupleGo tg (.ref it) u) Q E s:=by
 unfold letOwnedTupleGo
 cases tg <;> first
  | exact bD hQ
  | (cases u <;> first
    | exact bD hQ
    | (refine aG (wpAny_load ho ?_)
       rw[hc,hd]
       show wpAny M A (if (["enumerate","zip","dict_itemiterator","dict_reverseitemiterator","odict_iterator","itertools.zip_longest","itertools.pairwise"].contains n&&vs[0]? == some (rawInt _))=true then _ else _) Q E s
       rw[if_neg (by intro h;rw[hn,iM] at h;cases h)]
       exact bD hQ))
noncomputable def Itl(K:aC)(a:Addr):It:=
 ⟨fun i H=>∃ xs x,SqL K H a xs/\xs[i]? = some x,fun i H x H'=>H'=H/\∀ xs,SqL K H a xs->xs[i]? = some x,fun i H=>∃ xs,SqL K H a xs/\xs.length<=i⟩
noncomputable def Itt(K:aC)(a:Addr):It:=
 ⟨fun i H=>∃ xs x,SqT K H a xs/\xs[i]? = some x,fun i H x H'=>H'=H/\∀ xs,SqT K H a xs->xs[i]? = some x,fun i H=>∃ xs,SqT K H a xs/\xs.length<=i⟩
noncomputable def Itr(lo:Int)(n:Nat):It:=⟨fun i _=>i < n,fun i H x H'=>H'=H/\x = .int (lo+i),fun i _=>n<=i⟩
theorem Aea{P:bN}{w:bW}{K:aC}{tg:Expr}(a it:Addr):Turn P w K tg (Itl K a) [it] it (fun i h=>h.IsListIter it a i) where
 mem:=by simp
 obj:=fun i h st b hb=>by
  have e:b=it:=by simpa using hb
  subst e
  obtain ⟨o,e,c,d⟩:=st
  exact ⟨o,e,fun v z=>by rw[d] at z;cases z⟩
 keep:=fun i h h' st k=>st.at fun o e=>k it (by simp) o e
 item:=by
  intro X hP hw hK hc i pins s σ H E I hf st hg
  subst hP hw hK
  obtain ⟨xs,x,hq,hx⟩:=hg
  obtain ⟨its,rv,p,hz⟩:=I.list hq
  obtain ⟨u,hu,ru⟩:=rv.get hx
  obtain ⟨f0,f1,f2,f3,f4,f5⟩:=hf it (by simp)
  refine wpAny_pyNext_list_item st p.isList (x:=u) (by simpa using hu) fun h' st' sb=>?_
  have I1:Inv X pins σ H { s with heap:=h' }:=I.turned (t':=s.toks) (fun b o hb e=>(sb.2 b hb).trans e) f0 f1 f3 f4 f5
  obtain ⟨o,e,c,d⟩:=id st'
  exact ⟨u,rfl,Abm (s:={ s with heap:=h' }) e c d (by decide) ⟨x,H,I1,ru,⟨rfl,fun ys hy=>by rw[I.list_inj hy hq];exact hx⟩,st',fun b hb=>(hf b hb).1⟩⟩
 done:=by
  intro X hP hw hK hc i pins s σ H E I hf st hg
  subst hP hw hK
  obtain ⟨xs,hq,hx⟩:=hg
  obtain ⟨its,rv,p,hz⟩:=I.list hq
  obtain ⟨f0,f1,f2,f3,f4,f5⟩:=hf it (by simp)
  have hl:=rv.length
  exact wpAny_pyNext_list_end (I.ok.hd hc) st p.isList (by simp;omega) fun h' eb=>⟨rfl,I.turned (t':=s.toks) (fun b o hb e=>eb b o hb e) f0 f1 f3 f4 f5⟩
 self:=fun _ _ _ _ _ st h=>wpAny_pyIter_listiter st h
theorem Aa2{P:bN}{w:bW}{K:aC}{tg:Expr}(a it:Addr):Turn P w K tg (Itt K a) [it] it (fun i h=>h.IsTupleIter it a i) where
 mem:=by simp
 obj:=fun i h st b hb=>by
  have e:b=it:=by simpa using hb
  subst e
  obtain ⟨o,e,c,d⟩:=st
  exact ⟨o,e,fun v z=>by rw[d] at z;cases z⟩
 keep:=fun i h h' st k=>st.at fun o e=>k it (by simp) o e
 item:=by
  intro X hP hw hK hc i pins s σ H E I hf st hg
  subst hP hw hK
  obtain ⟨xs,x,hq,hx⟩:=hg
  obtain ⟨its,rv,p,hz⟩:=I.tuple hq
  obtain ⟨u,hu,ru⟩:=rv.get hx
  obtain ⟨f0,f1,f2,f3,f4,f5⟩:=hf it (by simp)
  refine wpAny_pyNext_tuple_item st (show s.heap.IsTuple a its.toArray from p) (x:=u) (by simpa using hu) fun h' st' sb=>?_
  have I1:Inv X pins σ H { s with heap:=h' }:=I.turned (t':=s.toks) (fun b o hb e=>(sb.2 b hb).trans e) f0 f1 f3 f4 f5
  obtain ⟨o,e,c,d⟩:=id st'
  exact ⟨u,rfl,Abm (s:={ s with heap:=h' }) e c d (by decide) ⟨x,H,I1,ru,⟨rfl,fun ys hy=>by rw[I.tuple_inj hy hq];exact hx⟩,st',fun b hb=>(hf b hb).1⟩⟩
 done:=by
  intro X hP hw hK hc i pins s σ H E I hf st hg
  subst hP hw hK
  obtain ⟨xs,hq,hx⟩:=hg
  obtain ⟨its,rv,p,hz⟩:=I.tuple hq
  obtain ⟨f0,f1,f2,f3,f4,f5⟩:=hf it (by simp)
  have hl:=rv.length
  exact wpAny_pyNext_tuple_end (I.ok.hd hc) st (show s.heap.IsTuple a its.toArray from p) (by simp;omega) fun h' eb=>⟨rfl,I.turned (t':=s.toks) (fun b o hb e=>eb b o hb e) f0 f1 f3 f4 f5⟩
 self:=fun _ _ _ _ _ st h=>wpAny_pyIter_tupleiter st h
theorem Aag{P:bN}{w:bW}{K:aC}{tg:Expr}(it:Addr)(lo:Int)(n:Nat):Turn P w K tg (Itr lo n) [it] it (fun i h=>IsRangeIter h it (lo+(i:Nat) * 1) ((n:Int) - (i:Nat)) 1) where
 mem:=by simp
 obj:=fun i h st b hb=>by
  have e:b=it:=by simpa using hb
  subst e
  exact ⟨_,st,fun v z=>by
   have z':Data.fields _=Data.cell v:=z
   cases z'⟩
 keep:=fun i h h' st k=>k it (by simp) _ st
 item:=by
  intro X hP hw hK hc i pins s σ H E I hf st hg
  subst hP hw hK
  obtain ⟨f0,f1,f2,f3,f4,f5⟩:=hf it (by simp)
  have W:=Walks.range (prog:=X.prog) (w:=X.w) (I.ok.hd hc) it lo 1 n
  refine W.item i s _ _ hg st fun v h' tk hv st' kk=>?_
  obtain ⟨t,rfl⟩:=hv
  have I1:Inv X pins σ H { s with heap:=h',toks:=tk }:=I.turned (fun b o hb e=>kk b o (by simpa using hb) e) f0 f1 f3 f4 f5
  refine ⟨_,rfl,Abm (s:={ s with heap:=h',toks:=tk }) (n := "range_iterator") st' rfl rfl (by decide) ⟨.int (lo+i),H,I1,⟨t,?_⟩,⟨rfl,rfl⟩,st',fun b hb=>(hf b hb).1⟩⟩
  rw[Int.mul_one]
 done:=by
  intro X hP hw hK hc i pins s σ H E I hf st hg
  subst hP hw hK
  obtain ⟨f0,f1,f2,f3,f4,f5⟩:=hf it (by simp)
  exact wpAny_pyNext_range_end (I.ok.hd hc) st (by have:n<=i:=hg;omega) fun h' eb=>⟨rfl,I.turned (t':=s.toks) (fun b o hb e=>eb b o hb e) f0 f1 f3 f4 f5⟩
 self:=fun _ _ _ _ _ st h=>wpAny_pyIter_rangeiter st h
section
variable {X:Cx}{tg:Expr}
noncomputable def Apo(K:aC)(tl:TE):TI:=fun σ H R=>tl σ H fun x H1=>∃ a,x = .ref a/\(∃ xs,SqL K H1 a xs)/\R (Itl K a) H1
noncomputable def Ar8(K:aC)(tl:TE):TI:=fun σ H R=>tl σ H fun x H1=>∃ a,x = .ref a/\(∃ xs,SqT K H1 a xs)/\R (Itt K a) H1
theorem Aj2{l:Expr}{tl:TE}(hl:PE X l tl):PI X tg l (Apo X.K tl):=by
 intro pins s σ H R I h
 refine thn (hl pins s σ H _ I h) fun v s1 zz=>?_
 obtain ⟨x,H1,I1,r1,q1⟩:=zz
 obtain ⟨a,e,⟨xs,hq⟩,q⟩:=q1
 subst e
 cases r1
 obtain ⟨its,rv,p,hz⟩:=I1.list hq
 refine oM p.isList ?_
 refine ⟨s1.heap.objs.size,[s1.heap.objs.size],_,_,H1,rfl,I1.kept (t':=s1.toks) fun b o e=>aF _ e,Aea a _,⟨_,aW _ rfl,rfl,rfl⟩,fun b hb=>?_,q⟩
 have e:b=s1.heap.objs.size:=by simpa using hb
 subst e
 exact I1.fpOk (bB _) (I1.hok.fresh (bB _))
theorem Amx{l:Expr}{tl:TE}(hl:PE X l tl):PI X tg l (Ar8 X.K tl):=by
 intro pins s σ H R I h
 refine thn (hl pins s σ H _ I h) fun v s1 zz=>?_
 obtain ⟨x,H1,I1,r1,q1⟩:=zz
 obtain ⟨a,e,⟨xs,hq⟩,q⟩:=q1
 subst e
 cases r1
 obtain ⟨its,rv,p,hz⟩:=I1.tuple hq
 refine kE (show s1.heap.IsTuple a its.toArray from p) ?_
 refine ⟨s1.heap.objs.size,[s1.heap.objs.size],_,_,H1,rfl,I1.kept (t':=s1.toks) fun b o e=>aF _ e,Aa2 a _,⟨_,aW _ rfl,rfl,rfl⟩,fun b hb=>?_,q⟩
 have e:b=s1.heap.objs.size:=by simpa using hb
 subst e
 exact I1.fpOk (bB _) (I1.hok.fresh (bB _))
theorem Afe{pins:List (Addr×Obj)}{σ:St}{H:Hp}{s:aI}{R:It->Hp->Prop}{E:aE->aI->Prop}{lo hi:Int}{t u v:Tok}{tk:Nat}(I:Inv X pins σ H s)(h1:-(2 ^ 62)<=lo)(h2:lo < 2 ^ 62)(h3:-(2 ^ 62)<=hi)(h4:hi < 2 ^ 62)
  (q:R (Itr lo (hi - lo).toNat) H):wpAny (model X.prog X.w) X.A (pyIter (.ref s.heap.objs.size)) (PIE X pins σ tg R) E { s with heap:=s.heap.push { cls:=.type "range",data:=.fields #[.int lo t,.int hi u,.int 1 v] },toks:=tk }:=by
 refine wpAny_pyIter_range (IsRange.new ..) (small_one h1 h2 h3 h4) ?_
 have I1:Inv X pins σ H { s with heap:=s.heap.push { cls:=.type "range",data:=.fields #[.int lo t,.int hi u,.int 1 v] },toks:=tk }:=I.kept fun b o e=>aF _ e
 refine ⟨(s.heap.push { cls:=.type "range",data:=.fields #[.int lo t,.int hi u,.int 1 v] }).objs.size,[(s.heap.push { cls:=.type "range",data:=.fields #[.int lo t,.int hi u,.int 1 v] }).objs.size],_,_,H,rfl,
  I1.kept (t':=tk) fun b o e=>aF _ e,Aag _ lo (hi - lo).toNat,?_,fun b hb=>?_,q⟩
 ·have e1:lo+((0:Nat):Int) * 1=lo:=by simp
  have e2:(((hi - lo).toNat:Nat):Int) - ((0:Nat):Int)=lF.Range.rangeSize lo hi 1:=by rw[rangeSize_one];split <;> omega
  show IsRangeIter _ _ (lo+((0:Nat):Int) * 1) ((((hi - lo).toNat:Nat):Int) - ((0:Nat):Int)) 1
  rw[e1,e2]
  exact aW _ rfl
 ·have e:b=(s.heap.push { cls:=.type "range",data:=.fields #[.int lo t,.int hi u,.int 1 v] }).objs.size:=by simpa using hb
  subst e
  exact I1.fpOk (bB _) (I1.hok.fresh (bB _))
noncomputable def Aox(ta:TA):TI:=fun σ H R=>ta σ H fun vs H1=>∃ j:Int,vs=[.int j]/\-(2 ^ 62)<=j/\j < 2 ^ 62/\R (Itr 0 j.toNat) H1
theorem Ae1{a:Expr}{ta:TA}{p pos:Pos}(hg:Gl X "range")(hm:X.mg "range" = none)(ha:PA X [a] ta)(hs:aS [a] X.env=[(false,eval a X.env)]:=by rfl):PI X tg (.Call (.Name "range" p) [a] [] pos) (Aox ta):=by
 intro pins s σ H R I h
 refine Call_ (Na I hg hm boot_range (eA (thn (ha pos pins s σ H _ I h) fun us s1 zz=>zz.elim fun vs H1 I1 r1 q1=>?_) hs rfl))
 obtain ⟨j,e,q1,q2,q⟩:=q1
 subst e
 cases r1 with
 | cons r rr=>
  cases rr
  obtain ⟨t,rfl⟩:=r
  exact call_range_1 (Afe I1 (by omega) (by omega) q1 q2 (by simpa using q))
noncomputable def Arx(wi:TI)(g:TG)(tb:TS):TS:=fun D σ H=>wi σ H fun J H1=>∃ W:Nat->Nat->St->Hp->Prop,(∃ m,W 0 m σ H1)/\∀ i m σ H,W i m σ H ->
 (J.stop i H/\D.nx σ H)\/(J.go i H/\∃ N:St->Hp->Prop,(∀ σ' H',N σ' H'->∃ m',m' < m/\W (i+1) m' σ' H')/\∀ x H',J.yld i H x H'->g x σ H' fun σ2 H2=>tb { D with nx:=N,ct:=N,bk:=D.nx } σ2 H2)
noncomputable def R9(fp:List Addr)(h:Heap):List (Addr×Obj):=fp.filterMap fun b=>(h.get? b).map fun o=>(b,o)
theorem Kq{fp:List Addr}{h:Heap}{b:Addr}{o:Obj}(hb:b∈fp)(e:h.get? b=some o):(b,o)∈R9 fp h:=List.mem_filterMap.mpr ⟨b,hb,by rw[e];rfl⟩
theorem Ad6{fp:List Addr}{h:Heap}{p:Addr×Obj}(hp:p∈R9 fp h):p.1∈fp/\h.get? p.1=some p.2:=by
 obtain ⟨b,hb,e⟩:=List.mem_filterMap.mp hp
 cases q:h.get? b with
 | none=>rw[q] at e;cases e
 | some o=>
  rw[q] at e
  have e':(b,o)=p:=bQ e
  subst e'
  exact ⟨hb,q⟩
theorem Inv.pinned{pins:List (Addr×Obj)}{σ:St}{H:Hp}{s:aI}{fp:List Addr}(I:Inv X pins σ H s)(hf:∀ b∈fp,Mm X pins H b)(ho:∀ b∈fp,∃ o,s.heap.get? b=some o/\∀ v,o.data≠.cell v):Inv X (pins++R9 fp s.heap) σ H s:=
 I.pins_of fun p hp=>(fW.mp hp).elim (fun z=>I.pin p (bR _ z)) fun z=>by
  obtain ⟨hb,e⟩:=Ad6 z
  obtain ⟨f0,f1,f2,_⟩:=hf p.1 hb
  obtain ⟨o,e',d⟩:=ho p.1 hb
  rw[e] at e';cases e'
  exact ⟨e,f0,f1,f2,d⟩
theorem Inv.unpinned{pins pl:List (Addr×Obj)}{σ:St}{H:Hp}{s:aI}(I:Inv X (pins++pl) σ H s):Inv X pins σ H s:=I.pins_of fun p hp=>I.pin p (bR _ (dY _ hp))
theorem Anb{iter:Expr}{body:List Stmt}{wi:TI}{g:TG}{tb:TS}{pos:Pos}(hp:PassesOwn (model X.prog X.w) X.A X.env X.xe)(hc:X.calm=true)(hi:PI X tg iter wi)(hg:PG X tg g)(hb:PSs X body tb)
  (hs:∀ x,foldedSetIterable iter X.env x=pure x:=by intro _;rfl):PS X (.For tg iter body [] pos) (Arx wi g tb):=by
 intro pins s σ H D I h
 refine wpAny_For (thn (hi pins s σ H _ I h) fun v s1 h1=>thn h1 fun itv s2 h2=>?_) hs
 obtain ⟨it,fp,tn,J,H2,e,I2,T,st2,f2,W,⟨m0,w0⟩,turn⟩:=h2
 subst e
 have stat:∀ {H':Hp},(∀ b∈fp,H' b=none)->∀ b∈fp,Mm X pins H' b:=fun hn b hb=>⟨hn b hb,(f2 b hb).2⟩
 refine codeAny_forLoop_any (fun n s'=>∃ i σ' H',Inv X pins σ' H' s'/\tn i s'.heap/\(∀ b∈fp,H' b=none)/\W i n σ' H') ?_ m0 ⟨0,σ,H2,I2,st2,fun b hb=>(f2 b hb).1,w0⟩
 rintro n s3 ⟨i,σ3,H3,I3,st3,fr3,w3⟩
 rcases turn i n σ3 H3 w3 with ⟨stop,qn⟩ | ⟨go,N,hN,step⟩
 ·refine iB hp (thn (T.done X rfl rfl rfl hc i pins s3 σ3 H3 X.xe I3 (stat fr3) st3 stop) fun r s4 zz=>?_)
  obtain ⟨hr,I4⟩:=zz
  subst hr
  exact jK ⟨σ3,H3,I4,qn⟩
 ·refine iB hp (thn (T.item X rfl rfl rfl hc i pins s3 σ3 H3 X.xe I3 (stat fr3) st3 go) fun r s4 zz=>?_)
  obtain ⟨u,hr,h4⟩:=zz
  subst hr
  refine iB hp (thn h4 fun _ s5 zz=>?_)
  obtain ⟨x,H5,I5,r5,y5,st5,fr5⟩:=zz
  have I5':=I5.pinned (stat fr5) (T.obj _ _ st5)
  refine iB hp (thn (hg _ s5 σ3 H5 x u _ I5' r5 (step x H5 y5)) fun _ s6 zz=>?_)
  obtain ⟨σ6,H6,I6,q6⟩:=zz
  refine iB hp (thn (hb _ s6 σ6 H6 _ I6 q6) fun f s7 q7=>?_)
  have again:∀ {σ7:St} {H7:Hp},Inv X (pins++R9 fp s5.heap) σ7 H7 s7->N σ7 H7->∃ m,m < n/\∃ i σ' H',Inv X pins σ' H' s7/\tn i s7.heap/\(∀ b∈fp,H' b=none)/\W i m σ' H':=fun {σ7 H7} I7 n7=>by
   obtain ⟨m',hm,w7⟩:=hN σ7 H7 n7
   refine ⟨m',hm,i+1,σ7,H7,I7.unpinned,T.keep _ _ _ st5 fun b hb o e=>(I7.pin (b,o) (bR _ (bR _ (Kq hb e)))).1,fun b hb=>?_,w7⟩
   obtain ⟨o,e,d⟩:=T.obj _ _ st5 b hb
   exact (I7.pin (b,o) (bR _ (bR _ (Kq hb e)))).2.1
  cases f with
  | next=>obtain ⟨σ7,H7,I7,n7⟩:=q7;exact again I7 n7
  | cont=>obtain ⟨σ7,H7,I7,n7⟩:=q7;exact again I7 n7
  | brk=>obtain ⟨σ7,H7,I7,q7⟩:=q7;exact ⟨σ7,H7,I7.unpinned,q7⟩
  | ret v=>obtain ⟨x7,σ7,H7,I7,r7,q7⟩:=q7;exact ⟨x7,σ7,H7,I7.unpinned,r7,q7⟩
end
abbrev R2:=V->V->Hp->VK->Prop
noncomputable def OpR(X:Cx)(f:aE->aE->Sem aE)(r:R2):Prop:=
 ∀ (pins:List (Addr×Obj)) (s:aI) (σ:St) (H:Hp) (x y:V) (v u:aE) (Q:VK),Inv X pins σ H s->RelV x v->RelV y u->r x y H Q ->
  wpAny (model X.prog X.w) X.A (f v u) (EP X pins σ Q) X.xe s
noncomputable def UnR(X:Cx)(f:aE->Sem aE)(r:V->Hp->VK->Prop):Prop:=
 ∀ (pins:List (Addr×Obj)) (s:aI) (σ:St) (H:Hp) (x:V) (v:aE) (Q:VK),Inv X pins σ H s->RelV x v->r x H Q ->
  wpAny (model X.prog X.w) X.A (f v) (EP X pins σ Q) X.xe s
noncomputable def CallR(X:Cx)(f:aE)(r:List V->Hp->VK->Prop):Prop:=
 ∀ (pins:List (Addr×Obj)) (s:aI) (σ:St) (H:Hp) (xs:List V) (us:List aE) (Q:VK),Inv X pins σ H s->Vals xs us->r xs H Q ->
  wpAny (model X.prog X.w) X.A (call f us) (EP X pins σ Q) X.xe s
noncomputable def Ar4(X:Cx)(r:V->Hp->(Bool->Hp->Prop)->Prop):Prop:=
 ∀ (pins:List (Addr×Obj)) (s:aI) (σ:St) (H:Hp) (x:V) (v:aE) (Q:Bool->Hp->Prop),Inv X pins σ H s->RelV x v->r x H Q ->
  wpAny (model X.prog X.w) X.A (truthy v) (TP X pins σ Q) X.xe s
noncomputable def tOp(r:R2)(ta tb:TE):TE:=fun σ H Q=>ta σ H fun x H1=>tb σ H1 fun y H2=>r x y H2 Q
noncomputable def tUn(r:V->Hp->VK->Prop)(ta:TE):TE:=fun σ H Q=>ta σ H fun x H1=>r x H1 Q
noncomputable def rI(C:Int->Int->Prop)(g:Int->Int->V):R2:=fun x y H Q=>∃ i j,x = .int i/\y = .int j/\C i j/\Q (g i j) H
noncomputable def rI0(g:Int->Int->V):R2:=fun x y H Q=>∃ i j,x = .int i/\y = .int j/\Q (g i j) H
noncomputable def rU(g:Int->V):V->Hp->VK->Prop:=fun x H Q=>∃ i,x = .int i/\Q (g i) H
section
variable {X:Cx}{a b c:Expr}{ta tb tc:TE}{pos:Pos}
theorem An9(ha:PE X a ta)(hb:PE X b tb){pins:List (Addr×Obj)}{s:aI}{σ:St}{H:Hp}{R:V->V->Hp->Prop}(I:Inv X pins σ H s)
  (h:ta σ H fun x H1=>tb σ H1 fun y H2=>R x y H2) {Q:aE->aI->Prop} {f:aE->aE->Sem aE}
  (hf:∀ v u s2 x y H2,Inv X pins σ H2 s2->RelV x v->RelV y u->R x y H2->wpAny (model X.prog X.w) X.A (f v u) Q X.xe s2) :
  wpAny (model X.prog X.w) X.A (eval a X.env) (fun v s₁=>wpAny (model X.prog X.w) X.A (eval b X.env) (fun u s₂=>wpAny (model X.prog X.w) X.A (f v u) Q X.xe s₂) X.xe s₁) X.xe s:=by
 refine thn (ha pins s σ H _ I h) fun v s1 zz=>?_
 obtain ⟨x,H1,I1,r1,q1⟩:=zz
 refine thn (hb pins s1 σ H1 _ I1 q1) fun u s2 zz=>?_
 obtain ⟨y,H2,I2,r2,q2⟩:=zz
 exact hf v u s2 x y H2 I2 r1 r2 q2
theorem Aoo{op:Operator}{r:R2}(ho:OpR X (eL op) r)(ha:PE X a ta)(hb:PE X b tb):PE X (.BinOp a op b pos) (tOp r ta tb):=by
 intro pins s σ H Q I h
 exact wpAny_BinOp (An9 ha hb I h fun v u s2 x y H2 I2 rx ry q=>ho pins s2 σ H2 x y v u Q I2 rx ry q)
theorem Aqa{op:UnaryOp}{r:V->Hp->VK->Prop}(ho:UnR X (unaryOp op) r)(ha:PE X a ta):PE X (.UnaryOp op a pos) (tUn r ta):=by
 intro pins s σ H Q I h
 exact UnaryOp_ (thn (ha pins s σ H _ I h) fun v s1 zz=>by obtain ⟨x,H1,I1,r1,q1⟩:=zz;exact ho pins s1 σ H1 x v Q I1 r1 q1)
theorem opI{f:aE->aE->Sem aE}{C:Int->Int->Prop}{g:Int->Int->Int}
  (rule:∀ (i j:Int) (t u:Tok) (s:aI) (Q:aE->aI->Prop) (E:aE->aI->Prop),C i j->Q (.int (g i j) s.toks) { s with toks:=s.toks+1 }->wpAny (model X.prog X.w) X.A (f (.int i t) (.int j u)) Q E s) :
  OpR X f (rI C fun i j=>.int (g i j)):=by
 intro pins s σ H x y v u Q I rx ry h
 obtain ⟨i,j,rfl,rfl,hc,q⟩:=h
 obtain ⟨t,rfl⟩:=rx
 obtain ⟨t',rfl⟩:=ry
 exact rule i j t t' s _ _ hc ⟨.int (g i j),H,I.tok _,⟨_,rfl⟩,q⟩
theorem Apv{f:aE->aE->Sem aE}{g:Int->Int->Int}
  (rule:∀ (i j:Int) (t u:Tok) (s:aI) (Q:aE->aI->Prop) (E:aE->aI->Prop),Q (.int (g i j) s.toks) { s with toks:=s.toks+1 }->wpAny (model X.prog X.w) X.A (f (.int i t) (.int j u)) Q E s) :
  OpR X f (rI0 fun i j=>.int (g i j)):=by
 intro pins s σ H x y v u Q I rx ry h
 obtain ⟨i,j,rfl,rfl,q⟩:=h
 obtain ⟨t,rfl⟩:=rx
 obtain ⟨t',rfl⟩:=ry
 exact rule i j t t' s _ _ ⟨.int (g i j),H,I.tok _,⟨_,rfl⟩,q⟩
theorem Alh{f:aE->aE->Sem aE}{g:Int->Int->Bool}
  (rule:∀ (i j:Int) (t u:Tok) (s:aI) (Q:aE->aI->Prop) (E:aE->aI->Prop),Q (.bool (g i j)) s->wpAny (model X.prog X.w) X.A (f (.int i t) (.int j u)) Q E s) :
  OpR X f (rI0 fun i j=>.bl (g i j)):=by
 intro pins s σ H x y v u Q I rx ry h
 obtain ⟨i,j,rfl,rfl,q⟩:=h
 obtain ⟨t,rfl⟩:=rx
 obtain ⟨t',rfl⟩:=ry
 exact rule i j t t' s _ _ ⟨.bl (g i j),H,I,rfl,q⟩
noncomputable def Apf(i j:Int):Prop:=0<=j/\j<=1000000/\i.natAbs < 2 ^ 64
noncomputable def CMul(i j:Int):Prop:=(-(2 ^ 64) < i/\i < 2 ^ 64)\/(-(2 ^ 64) < j/\j < 2 ^ 64)
theorem CMul.ok{i j:Int}(h:CMul i j):IntMulOk i j:=by
 rcases h with ⟨h1,h2⟩ | ⟨h1,h2⟩
 ·exact .of_left (intBits_le_64 h1 h2)
 ·exact .of_right (intBits_le_64 h1 h2)
theorem Am9:OpR X (eL .Add) (rI0 fun i j=>.int (i+j)):=Apv fun _ _ _ _ _ _ _ q=>add_int q
theorem Je:OpR X (eL .Sub) (rI0 fun i j=>.int (i - j)):=Apv fun _ _ _ _ _ _ _ q=>sub_int q
theorem Al7:OpR X (eL .Mult) (rI CMul fun i j=>.int (i * j)):=opI fun _ _ _ _ _ _ _ hc q=>mul_int q hc.ok
theorem Lb:OpR X (eL .Mod) (rI (fun _ j=>0 < j) fun i j=>.int (i % j)):=opI fun i j _ _ _ _ _ hc q=>by
 have h1:(0:Int) < j:=hc
 exact mod_int' (by omega) (by rw[Int.fmod_eq_emod_of_nonneg i (by omega)];exact q)
theorem Sa:OpR X (eL .Pow) (rI Apf fun i j=>.int (i ^ j.toNat)):=opI fun _ _ _ _ _ _ _ hc q=>pow_int_small hc.1 hc.2.1 hc.2.2 q
theorem unI{f:aE->Sem aE}{g:Int->Int}
  (rule:∀ (i:Int) (t:Tok) (s:aI) (Q:aE->aI->Prop) (E:aE->aI->Prop),Q (.int (g i) s.toks) { s with toks:=s.toks+1 }->wpAny (model X.prog X.w) X.A (f (.int i t)) Q E s) :
  UnR X f (rU fun i=>.int (g i)):=by
 intro pins s σ H x v Q I rx h
 obtain ⟨i,rfl,q⟩:=h
 obtain ⟨t,rfl⟩:=rx
 exact rule i t s _ _ ⟨.int (g i),H,I.tok _,⟨_,rfl⟩,q⟩
theorem Amv:UnR X (unaryOp .USub) (rU fun i=>.int (-i)):=unI fun _ _ _ _ _ q=>neg_int q
end
section
variable {X:Cx}{a b c:Expr}{ta tb tc:TE}{pos:Pos}
theorem Agh{pins:List (Addr×Obj)}{σ:St}{H:Hp}{s:aI}{Q:VK}{k k':Bool}(I:Inv X pins σ H s)(q:Q (.bl k) H)(e:k=k'):EP X pins σ Q (.bool k') s:=by
 subst e
 exact ⟨.bl k,H,I,rfl,q⟩
theorem Aqc:OpR X (dE .Lt) (rI0 fun i j=>.bl (decide (i < j))):=Alh fun _ _ _ _ _ _ _ q=>lt_int q
theorem K7:OpR X (dE .LtE) (rI0 fun i j=>.bl (decide (i<=j))):=Alh fun _ _ _ _ _ _ _ q=>le_int q
theorem Alq:OpR X (dE .Gt) (rI0 fun i j=>.bl (decide (j < i))):=Alh fun _ _ _ _ _ _ _ q=>gt_int q
theorem Apt:OpR X (dE .GtE) (rI0 fun i j=>.bl (decide (j<=i))):=Alh fun _ _ _ _ _ _ _ q=>ge_int q
theorem Al4:OpR X (dE .Is) (fun x y H Q=>y = .non/\Q (.bl (decide (x = .non))) H):=by
 intro pins s σ H x y v u Q I rx ry h
 obtain ⟨rfl,q⟩:=h
 cases ry
 refine is_none_gen (Agh I q ?_)
 cases x <;> first
  | (cases rx;rfl)
  | (obtain ⟨t,rfl⟩:=rx;rfl)
theorem Ajo:OpR X (dE .IsNot) (fun x y H Q=>y = .non/\Q (.bl (!decide (x = .non))) H):=by
 intro pins s σ H x y v u Q I rx ry h
 obtain ⟨rfl,q⟩:=h
 cases ry
 refine isnot_none_gen (Agh I q ?_)
 cases x <;> first
  | (cases rx;rfl)
  | (obtain ⟨t,rfl⟩:=rx;rfl)
theorem OpR.or{f:aE->aE->Sem aE}{r r':R2}(h:OpR X f r)(h':OpR X f r'):OpR X f (fun x y H Q=>r x y H Q\/r' x y H Q):=by
 intro pins s σ H x y v u Q I rx ry q
 rcases q with q | q
 ·exact h pins s σ H x y v u Q I rx ry q
 ·exact h' pins s σ H x y v u Q I rx ry q
theorem Bp(b:Expr){op:CmpOp}(h:op≠.In:=by decide)(h2:op≠.NotIn:=by decide):behindInMarks op b=false:=by
 have e1:(op == CmpOp.In)=false:=by cases op <;> first | rfl | exact absurd rfl h
 have e2:(op == CmpOp.NotIn)=false:=by cases op <;> first | rfl | exact absurd rfl h2
 cases b <;> simp[behindInMarks,e1,e2]
theorem Akk{op:CmpOp}{r:R2}(ho:OpR X (dE op) r)(ha:PE X a ta)(hb:PE X b tb)(hm:behindInMarks op b=false):PE X (.Compare a [op] [b] pos) (tOp r ta tb):=by
 intro pins s σ H Q I h
 exact wpAny_Compare1 (An9 ha hb I h fun v u s2 x y H2 I2 rx ry q=>ho pins s2 σ H2 x y v u Q I2 rx ry q) hm
noncomputable def Als(t:TE):TT:=fun σ H Q=>t σ H fun x H'=>∃ k,x = .bl k/\Q k H'
theorem Ajn{op:CmpOp}{r:R2}(ho:OpR X (dE op) r)(ha:PE X a ta)(hb:PE X b tb)(hm:behindInMarks op b=false):PT X (.Compare a [op] [b] pos) (Als (tOp r ta tb)):=by
 intro pins s σ H Q I h
 refine wpAny_isTrue_Compare1 (thn (ha pins s σ H _ I h) fun v s1 zz=>zz.elim fun x H1 I1 r1 q1=>thn (hb pins s1 σ H1 _ I1 q1) fun u s2 ⟨y,H2,I2,r2,q2⟩=>
  thn (ho pins s2 σ H2 x y v u _ I2 r1 r2 q2) fun c s3 zz=>zz.elim fun z H3 I3 r3 zq=>?_) hm
 obtain ⟨k,e,q3⟩:=zq
 subst e
 cases r3
 exact fD ⟨H3,I3,q3⟩
noncomputable def Aga(r r':R2)(ta tb tc:TE):TE:=fun σ H Q=>ta σ H fun x H1=>tb σ H1 fun y H2=>r x y H2 fun z H3=>∃ k,z = .bl k /\
 (if k=true then tc σ H3 fun w' H4=>r' y w' H4 Q else Q (.bl false) H3)
theorem Ahd{op op':CmpOp}{r r':R2}(ho:OpR X (dE op) r)(ho':OpR X (dE op') r')(ha:PE X a ta)(hb:PE X b tb)(hc:PE X c tc)
  (hm:lastMarks [op,op'] [b,c]=false:=by with_unfolding_all rfl):PE X (.Compare a [op,op'] [b,c] pos) (Aga r r' ta tb tc):=by
 intro pins s σ H Q I h
 refine Compare_chain (thn (ha pins s σ H _ I h) fun v s1 zz=>zz.elim fun x H1 I1 r1 q1=>chain_link (thn (hb pins s1 σ H1 _ I1 q1) fun u s2 ⟨y,H2,I2,r2,q2⟩=>
  thn (ho pins s2 σ H2 x y v u _ I2 r1 r2 q2) fun d s3 zz=>zz.elim fun z H3 I3 r3 zq=>?_)) hm
 obtain ⟨k,e,q3⟩:=zq
 subst e
 cases r3
 refine fD ?_
 cases k with
 | false=>exact ite_ff ⟨.bl false,H3,I3,rfl,q3⟩
 | true=>exact ite_tt (chain_last (thn (hc pins s3 σ H3 _ I3 q3) fun w' s4 zz=>by obtain ⟨z',H4,I4,r4,q4⟩:=zz;exact ho' pins s4 σ H4 y z' u w' Q I4 r2 r4 q4))
noncomputable def An2(K:aC)(x:V)(H:Hp)(k:Bool):Prop:=
 match x with
 | .non=>k=false
 | .bl b=>k=b
 | .int i=>k=(i != 0)
 | .str y=>y.length<=sizeLine/\k=((y.length:Int) != 0)
 | .byt y=>y.size<=sizeLine/\k=((y.size:Int) != 0)
 | .ref p=>(∃ xs,SqL K H p xs/\k = !xs.isEmpty)\/(∃ xs,SqT K H p xs/\k = !xs.isEmpty)\/∃ kvs,H p=some (.dK kvs)/\k = !kvs.isEmpty
 | _=>False
theorem Aaw{κ:Type}{kvs:List (κ×V)}{vs:List (κ×aE)}(r:KV kvs vs):(!vs.isEmpty) = !kvs.isEmpty:=by
 cases r <;> rfl
theorem Qg{xs:List V}{its:List aE}(r:Vals xs its):(!its.toArray.isEmpty) = !xs.isEmpty:=by
 cases r <;> simp
theorem Oq:(sizeLine:Nat) < 2 ^ 63:=by rw[kW];decide
theorem Amw:Ar4 X (fun x H Q=>∃ k,An2 X.K x H k/\Q k H):=by
 intro pins s σ H x v Q I rx h
 obtain ⟨k,e,q⟩:=h
 have hl:=Oq
 have hs:sizeLine=16777216:=kW
 cases x with
 | non=>
  cases rx
  have e':k=false:=e
  subst e'
  exact truthy_none ⟨H,I,q⟩
 | bl b=>
  cases rx
  have e':k=b:=e
  subst e'
  exact fD ⟨H,I,q⟩
 | int i=>
  obtain ⟨t,rfl⟩:=rx
  have e':k=(i != 0):=e
  subst e'
  exact PySem.P.truthy_int ⟨H,I,q⟩
 | str y=>
  obtain ⟨t,rfl⟩:=rx
  obtain ⟨hy,e'⟩:y.length<=sizeLine/\k=((y.length:Int) != 0):=e
  subst e'
  exact PySem.P.truthy_str (by omega) ⟨H,I.tok _,q⟩
 | byt y=>
  obtain ⟨t,rfl⟩:=rx
  obtain ⟨hy,e'⟩:y.size<=sizeLine/\k=((y.size:Int) != 0):=e
  subst e'
  exact PySem.W.truthy_bytes (by omega) ⟨H,I.tok _,q⟩
 | ref p=>
  cases rx
  have e':(∃ xs,SqL X.K H p xs/\k = !xs.isEmpty)\/(∃ xs,SqT X.K H p xs/\k = !xs.isEmpty)\/∃ kvs,H p=some (.dK kvs)/\k = !kvs.isEmpty:=e
  rcases e' with ⟨xs,hx,e'⟩ | ⟨xs,hx,e'⟩ | ⟨kvs,hx,e'⟩
  ·subst e'
   obtain ⟨its,r,pl,hz⟩:=I.list hx
   have hlen:=r.length
   exact wpAny_truthy_list pl.isList (by simp only[bK];omega) ⟨H,I.tok _,by rw[Qg r];exact q⟩
  ·subst e'
   obtain ⟨its,r,pl,hz⟩:=I.tuple hx
   have hlen:=r.length
   exact truthy_tuple pl (by simp only[bK];omega) ⟨H,I.tok _,by rw[Qg r];exact q⟩
  ·subst e'
   obtain ⟨hz,hS,vs,r,m⟩:kvs.length<=sizeLine/\(p == sysModules)=false/\∃ vs,KV kvs vs/\s.heap.DictOf (Co X.prog X.w) p vs:=I.hok p _ hx
   have hlen:kvs.length=vs.length:=lL r
   exact wpAny_truthy_dict hS m (by omega) ⟨H,I.tok _,by rw[Aaw r];exact q⟩
 | _=>exact (show False from e).elim
theorem Agr(ha:PE X a ta)(he:∀ whole,isTrue a X.env whole=(do let v <- whole;standAt a.pos;holding [v] (truthy v))) :
  PT X a (fun σ H Q=>ta σ H fun x H'=>∃ k,An2 X.K x H' k/\Q k H'):=by
 intro pins s σ H Q I h
 exact isTrue_plain (thn (ha pins s σ H _ I h) fun v s1 zz=>by obtain ⟨x,H1,I1,r1,q1⟩:=zz;exact Amw pins s1 σ H1 x v Q I1 r1 q1) (he _)
theorem Aae:OpR X (eL .Add) (fun x y H Q=>∃ i j,x = .str i/\y = .str j/\i.length+j.length<=sizeLine/\Q (.str (i++j)) H):=by
 intro pins s σ H x y v u Q I rx ry h
 obtain ⟨i,j,rfl,rfl,hz,q⟩:=h
 obtain ⟨t,rfl⟩:=rx
 obtain ⟨t',rfl⟩:=ry
 exact add_str (fun t' tk=>⟨.str (i++j),H,I.tok _,⟨_,rfl⟩,q⟩) hz
theorem Nr{x:V}{us:List aE}(r:Vals [x] us):∃ u,us=[u]/\RelV x u:=by
 cases r with
 | cons r1 r2=>cases r2;exact ⟨_,rfl,r1⟩
theorem Af6{x y:V}{us:List aE}(r:Vals [x,y] us):∃ u w',us=[u,w']/\RelV x u/\RelV y w':=by
 cases r with
 | cons r1 r2=>
  cases r2 with
  | cons r3 r4=>cases r4;exact ⟨_,_,rfl,r1,r3⟩
theorem Xi:CallR X (.builtin "abs") (fun xs H Q=>∃ i,xs=[.int i]/\Q (.int (if i < 0 then -i else i)) H):=by
 intro pins s σ H xs us Q I r h
 obtain ⟨i,rfl,q⟩:=h
 obtain ⟨u,rfl,t,rfl⟩:=Nr r
 exact call_abs_int fun u tk=>⟨.int (if i < 0 then -i else i),H,I.tok _,⟨_,rfl⟩,q⟩
theorem Up(hc:X.calm=true):CallR X (.builtin "max") (fun xs H Q=>∃ i j,xs=[.int i,.int j]/\Q (.int (if j > i then j else i)) H):=by
 intro pins s σ H xs us Q I r h
 obtain ⟨i,j,rfl,q⟩:=h
 obtain ⟨u,w',rfl,⟨t,rfl⟩,⟨t',rfl⟩⟩:=Af6 r
 refine max_two_ints (I.ok.hd hc) fun h' tk k=>⟨_,H,I.kept k,?_,q⟩
 by_cases hj:j > i
 ·rw[if_pos hj,if_pos hj];exact ⟨_,rfl⟩
 ·rw[if_neg hj,if_neg hj];exact ⟨_,rfl⟩
theorem Me:CallR X (.type "int") (fun xs H Q=>(∃ i,xs=[.int i]/\Q (.int i) H)\/∃ k,xs=[.bl k]/\Q (.int (if k then 1 else 0)) H):=by
 intro pins s σ H xs us Q I r h
 rcases h with ⟨i,rfl,q⟩ | ⟨k,rfl,q⟩
 ·obtain ⟨u,rfl,t,rfl⟩:=Nr r
  exact call_int_int ⟨.int i,H,I,⟨_,rfl⟩,q⟩
 ·obtain ⟨u,rfl,r1⟩:=Nr r
  cases r1
  exact call_int_bool ⟨.int (if k then 1 else 0),H,I.tok _,⟨_,rfl⟩,q⟩
noncomputable def Ao8(K:aC)(x:V)(H:Hp)(n:Nat):Prop:=
 match x with
 | .str y=>y.length<=sizeLine/\n=y.length
 | .byt y=>y.size<=sizeLine/\n=y.size
 | .ref p=>(∃ xs,SqL K H p xs/\n=xs.length)\/∃ xs,SqT K H p xs/\n=xs.length
 | _=>False
theorem E7:CallR X (.builtin "len") (fun xs H Q=>∃ x n,xs=[x]/\Ao8 X.K x H n/\Q (.int n) H):=by
 intro pins s σ H xs us Q I r h
 obtain ⟨x,n,rfl,e,q⟩:=h
 obtain ⟨u,rfl,rx⟩:=Nr r
 have hl:=Oq
 have hs:sizeLine=16777216:=kW
 cases x with
 | str y=>
  obtain ⟨t,rfl⟩:=rx
  obtain ⟨hy,e'⟩:y.length<=sizeLine/\n=y.length:=e
  subst e'
  exact len_str (by omega) ⟨.int _,H,I.tok _,⟨_,rfl⟩,q⟩
 | byt y=>
  obtain ⟨t,rfl⟩:=rx
  obtain ⟨hy,e'⟩:y.size<=sizeLine/\n=y.size:=e
  subst e'
  exact PySem.W.len_bytes (by omega) ⟨.int _,H,I.tok _,⟨_,rfl⟩,q⟩
 | ref p=>
  cases rx
  have e':(∃ xs,SqL X.K H p xs/\n=xs.length)\/∃ xs,SqT X.K H p xs/\n=xs.length:=e
  rcases e' with ⟨xs,hx,e'⟩ | ⟨xs,hx,e'⟩
  ·subst e'
   obtain ⟨its,r',pl,hz⟩:=I.list hx
   have hlen:=r'.length
   exact Calls.call_len_list pl.isList (by simp only[bK];omega) ⟨.int xs.length,H,I.tok _,⟨_,by simp only[bK];rw[hlen]⟩,q⟩
  ·subst e'
   obtain ⟨its,r',pl,hz⟩:=I.tuple hx
   have hlen:=r'.length
   exact len_tuple pl (by simp only[bK];omega) ⟨.int xs.length,H,I.tok _,⟨_,by simp only[bK];rw[hlen]⟩,q⟩
 | _=>exact (show False from e).elim
end
structure ObjM(h:Heap)(x dx C:Addr)(mA:Str->Option aE):Prop where
 obj:h.get? x=some (eP C dx)
 ns:h.Ns1 dx mA
 ne:dx≠x
theorem Uw{h:Heap}{dx:Addr}{mA:Str->Option aE}(n:h.Ns1 dx mA):∃ od,h.get? dx=some od/\∀ name,kF name od=some (mA name):=by
 obtain ⟨o,es,ep,ho,hd,hk,_,hm⟩:=n
 refine ⟨o,ho,fun name=>?_⟩
 have e:=hm name
 unfold nsFind findBy at e
 rw[<- Array.find?_toList] at e
 unfold kF
 rw[hd]
 dsimp only
 split
 ·rename_i y q
  rw[q] at e
  exact congrArg some e
 ·rename_i q
  rw[q] at e
  have a:es.toList.any (·.refKey)=false:=by
   rw[List.any_eq_false]
   intro y hy
   obtain ⟨z,t,hkey⟩:=hk y (Array.mem_toList_iff.mp hy)
   simp[DictEntry.refKey,hkey]
  have a':¬ es.toList.any (·.refKey)=true:=by rw[a];exact eW
  rw[if_neg a']
  exact congrArg some e
theorem ObjM.look{h:Heap}{x dx C:Addr}{mA:Str->Option aE}(I:ObjM h x dx C mA):∃ od,fP h x (eP C dx) C (some od)/\∀ name,kF name od=some (mA name):=
 let ⟨od,ho,hl⟩:=Uw I.ns
 ⟨od,⟨I.obj,rfl,rfl,ho⟩,hl⟩
section
variable {prog:bN}{w:bW}{A:cK}{E:aE->aI->Prop}{s:aI}{K:aC}{x dx C f:Addr}{mA:Str->Option aE}{name:Str}{v:aE}
theorem Ai3{expr:Bool}{Q:aE->aI->Prop}(X:K.In s.heap)(I:ObjM s.heap x dx C mA)(hg:gP K C name=true)(hh:fE K C=true)
  (ha:aY K (.ref C) name=some none) (hv:mA name=some v) (hv':pC v=true) (h:Q v { s with toks:=s.toks+1 }) :
  wpAny (model prog w) A (getAttr (.ref x) name expr) Q E s:=by
 obtain ⟨od,J,hl⟩:=I.look
 exact PySem.W.get_value X J (jV hg).1 (nL hh ha rfl (by rw[hl,hv])) hv' h
theorem Agq{pl:Sem Bool}{Q:aE×List aE->aI->Prop}(X:K.In s.heap)(I:ObjM s.heap x dx C mA)(hg:gP K C name=true)
  (hf:aY K (.ref C) name=some (some (.ref f))) (ht:cX K (.ref f)=true) (hv:mA name=none) (h:Q (.ref f,[.ref x]) s) :
  wpAny (model prog w) A (getMethod (.ref x) name pl) Q E s:=by
 obtain ⟨od,J,hl⟩:=I.look
 exact PySem.W.method_fn X J (jV hg).1 (jV hg).2 hf (beq_iff_eq.mp ht) (by show (kF name od).map (·.isSome)=some false;rw[hl,hv];rfl) h
theorem Aj9{ns:List Str}{Q:Unit->aI->Prop}(X:K.In s.heap)(I:ObjM s.heap x dx C mA)
  (hs:aY K (.ref C) "__setattr__" = some (some (.builtin "object.__setattr__"))) (hp:kX K C=true) (ht:mM K C name=some none) (hh:fE K C=true)
  (hw:oJ mA ns) (hsz:ns.length<=sizeLine)
  (h:∀ h',ObjM h' x dx C (fun y=>if y=name then some v else mA y)->iL dx s.heap h'->Q () { s with heap:=h',toks:=s.toks+2 }) :
  wpAny (model prog w) A (setAttr (.ref x) name v) Q E s:=by
 obtain ⟨od,J,hl⟩:=I.look
 refine oN X J hs (PySem.W.osa_open (s:={ s with toks:=s.toks+1 }) (r:=none) X J hp ht fun b=>?_)
 obtain ⟨cd,hc,hd'⟩:=gQ hh
 have hx:s.heap.get? x=some ⟨.ref C,some dx,.plain,#[]⟩:=I.obj
 refine aG (bD (aG (aG (mY hx (aG (dW (s:={ s with toks:=s.toks+1 }) (nM X hc) ?_))))))
 rw[hd']
 refine bD (a:=some dx) (aG (bD (aG ?_)))
 refine wpAny_nsSet1 (s:={ s with toks:=s.toks+1 }) I.ns fun h' hn2 hs2=>?_
 obtain ⟨oD,esD,epD,hoD,hdD,hcD⟩:=hn2.count (oO name v hw)
 refine aG (pD hoD (by rw[hdD];exact pE (cC hcD (by rw[aL];omega))) ?_)
 exact bD (h _ ⟨(hs2.2 _ (cR I.ne)).trans I.obj,hn2,I.ne⟩ hs2)
theorem Aib{R:Result->aI->Prop}{vs:List aE}{kw:List (Str×aE)}(X:K.In s.heap)(hm:mN K C=true)
  (hi:aY K (.ref C) "__init__" = some (some (.ref f))) (hf:mZ K (.ref f)=some (.type "function"))
  (h:jC (model prog w) (A.under (.builtin "type.__call__" ⟨.ref C::vs,kw⟩)) (.call (.ref f) ⟨.ref (s.heap.objs.size+1)::vs,kw⟩) (PySem.W.InitBack (s.heap.objs.size+1) R)
   { s with heap:=(s.heap.push dL).push (eP C s.heap.objs.size) }) :
  jC (model prog w) A (.call (.ref C) ⟨vs,kw⟩) R s:=by
 obtain ⟨hh,g,d,t,os⟩:=s
 exact PySem.W.make_core (PySem.W.makes_of X hm) (gI X hi) (fun self=>PySem.W.bind_fn X self hf) (.inl rfl) h
end
noncomputable def Jl(f:Str)(v:V):List (Str×V)->List (Str×V)
 | []=>[(f,v)]
 | (g,x)::r=>if g=f then (g,v)::r else (g,x)::Jl f v r
theorem O9(f g:Str)(v:V):∀ fs:List (Str×V),(Jl f v fs).lookup g=if g=f then some v else fs.lookup g
 | []=>by
  show eT g [(f,v)]=_
  by_cases h:g=f
  ·have hb:(g == f)=true:=beq_iff_eq.mpr h
   simp only[eT,hb,if_pos h]
  ·have hb:(g == f)=false:=beq_eq_false_iff_ne.mpr h
   simp only[eT,hb,if_neg h]
 | (k,x)::r=>by
  have ih:=O9 f g v r
  rw[show Jl f v ((k,x)::r)=(if k=f then (k,v)::r else (k,x)::Jl f v r) from rfl]
  by_cases hk:k=f
  ·rw[if_pos hk]
   by_cases h:g=k
   ·have hb:(g == k)=true:=beq_iff_eq.mpr h
    simp only[eT,hb,if_pos (h.trans hk)]
   ·have hb:(g == k)=false:=beq_eq_false_iff_ne.mpr h
    simp only[eT,hb,if_neg (fun e:g=f=>h (e.trans hk.symm))]
  ·rw[if_neg hk]
   by_cases h:g=k
   ·have hb:(g == k)=true:=beq_iff_eq.mpr h
    simp only[eT,hb,if_neg (fun e:g=f=>hk (h.symm.trans e))]
   ·have hb:(g == k)=false:=beq_eq_false_iff_ne.mpr h
    simp only[eT,hb]
    exact ih
theorem Oj(f:Str)(v:V):∀ fs:List (Str×V),f∈(Jl f v fs).map (·.1)/\∀ g,g∈fs.map (·.1)->g∈(Jl f v fs).map (·.1)
 | []=>⟨by simp[Jl],fun g h=>by simp at h⟩
 | (k,x)::r=>by
  obtain ⟨i1,i2⟩:=Oj f v r
  rw[show Jl f v ((k,x)::r)=(if k=f then (k,v)::r else (k,x)::Jl f v r) from rfl]
  by_cases hk:k=f
  ·rw[if_pos hk]
   subst hk
   exact ⟨by simp,fun g h=>by simpa using h⟩
  ·rw[if_neg hk]
   refine ⟨?_,fun g h=>?_⟩
   ·rw[aP]
    exact bI _ i1
   ·rw[aP] at h ⊢
    rcases cB.mp h with e | e
    ·exact cB.mpr (.inl e)
    ·exact bI _ (i2 g e)
theorem Pg(f:Str)(v:V):∀ fs:List (Str×V),(Jl f v fs).length<=fs.length+1
 | []=>by simp[Jl]
 | (k,x)::r=>by
  have ih:=Pg f v r
  rw[show Jl f v ((k,x)::r)=(if k=f then (k,v)::r else (k,x)::Jl f v r) from rfl]
  by_cases hk:k=f
  ·rw[if_pos hk,aL,aL];omega
  ·rw[if_neg hk,aL,aL];omega
theorem RelO.some_of{v:V}{o:Option aE}(r:RelO (some v) o):∃ u,o=some u/\RelV v u:=by
 cases o with
 | none=>exact (show False from r).elim
 | some u=>exact ⟨u,rfl,r⟩
theorem RelO.none_of{o:Option aE}(r:RelO none o):o=none:=by
 cases o with
 | none=>rfl
 | some u=>exact (show False from r).elim
theorem U8{v:V}{u:aE}(r:RelV v u):pC u=true:=by
 cases v with
 | non=>cases (show u=dF from r);rfl
 | bl b=>cases (show u=nX b from r);rfl
 | int i=>obtain ⟨t,e⟩:=(show ∃ t,u=mB i t from r);cases e;rfl
 | str x=>obtain ⟨t,e⟩:=(show ∃ t,u=mC x t from r);cases e;rfl
 | byt b=>obtain ⟨t,e⟩:=(show ∃ t,u=rE b t from r);cases e;rfl
 | flt b=>obtain ⟨t,e⟩:=(show ∃ t,u=pP b t from r);cases e;rfl
 | ref a=>cases (show u=bE a from r);rfl
 | ty n=>cases (show u=mI n from r);rfl
section
variable {P:bN}{w:bW}{H H':Hp}{h h':Heap}{a C dx:Addr}{fs fs':List (Str×V)}
theorem P7(hok:HOk P w H h)(e:H a=some (.ins C dx fs)):∃ mA,ObjM h a dx C mA/\(∀ f,RelO (fs.lookup f) (mA f))/\oJ mA (fs.map (·.1))/\fs.length<=1000/\H dx=some (.own a):=by
 obtain ⟨d,z,ne,ob,mA,n,r,q⟩:=(show ObjOk P w H h a (.ins C dx fs) from hok a _ e)
 exact ⟨mA,⟨ob,n,ne⟩,r,q,z,d⟩
end
structure Cls(K:aC)(C:Addr):Prop where
 pg:gP K C kB=true
 hd:fE K C=true
 po:kX K C=true
 sa:aY K (.ref C) "__setattr__" = some (some (.builtin "object.__setattr__"))
theorem Cls.get{K:aC}{C:Addr}(c:Cls K C)(f:Str):gP K C f=true:=c.pg
noncomputable def NoAttr(K:aC)(C:Addr)(f:Str):Prop:=aY K (.ref C) f=some none
theorem NoAttr.taker{K:aC}{C:Addr}{f:Str}(n:NoAttr K C f):mM K C f=some none:=by
 unfold mM
 rw[show aY K (.ref C) f=some none from n]
 rfl
structure Con(K:aC)(C:Addr)(f:Str)(v:V)(u:aE):Prop where
 at_:aY K (.ref C) f=some (some u)
 rel:RelV v u
 get:fF K u "__get__" = some none
 cp:PySem.W.copiedNames.contains f=false
structure Meth(K:aC)(C:Addr)(m:Str)(f:Addr):Prop where
 at_:aY K (.ref C) m=some (some (.ref f))
 fn:cX K (.ref f)=true
 kp:aZ K (.ref f)=true
section
variable {X:Cx}{pins:List (Addr×Obj)}{σ:St}{H:Hp}{s:aI}{a C dx:Addr}{fs:List (Str×V)}{f:Str}{v:V}{A:cK}{E:aE->aI->Prop}
theorem Aa0{b:Bool}{Q:aE->aI->Prop}(I:Inv X pins σ H s)(e:H a=some (.ins C dx fs))(c:Cls X.K C)(n:NoAttr X.K C f)(l:fs.lookup f=some v)
  (h:∀ u s',Inv X pins σ H s'->RelV v u->Q u s'):wpAny (model X.prog X.w) A (getAttr (.ref a) f b) Q E s:=by
 obtain ⟨mA,O,r,_,_,_⟩:=P7 I.hok e
 obtain ⟨u,hu,ru⟩:=RelO.some_of (v:=v) (o:=mA f) (by rw[<- l];exact r f)
 exact Ai3 I.kIn O (c.get f) c.hd n hu (U8 ru) (h u _ (I.tok _) ru)
theorem Mx{m:Str}{g:Addr}{pl:Sem Bool}{Q:aE×List aE->aI->Prop}(I:Inv X pins σ H s)(e:H a=some (.ins C dx fs))(c:Cls X.K C)(k:Meth X.K C m g)(l:fs.lookup m=none)
  (h:Q (.ref g,[.ref a]) s):wpAny (model X.prog X.w) A (getMethod (.ref a) m pl) Q E s:=by
 obtain ⟨mA,O,r,_,_,_⟩:=P7 I.hok e
 have hn:mA m=none:=RelO.none_of (by rw[<- l];exact r m)
 exact Agq I.kIn O (c.get m) k.at_ k.fn hn h
theorem Aat{y:V}{u:aE}{Q:Unit->aI->Prop}(I:Inv X pins σ H s)(e:H a=some (.ins C dx fs))(c:Cls X.K C)(n:NoAttr X.K C f)(hl:fs.length < 1000)(ry:RelV y u)
  (h:∀ s',Inv X pins σ (upd H a (.ins C dx (Jl f y fs))) s'->Q () s'):wpAny (model X.prog X.w) A (setAttr (.ref a) f u) Q E s:=by
 obtain ⟨mA,O,r,wi,_,ho⟩:=P7 I.hok e
 have hz:(fs.map (·.1)).length<=sizeLine:=by rw[bF,kW];omega
 refine Aj9 I.kIn O c.sa c.po n.taker c.hd wi hz fun h' O' sb=>h _ ?_
 have hd:∃ o,h'.get? dx=some o:=let ⟨o,_,_,e',_⟩:=O'.ns;⟨o,e'⟩
 refine I.write (x:=a) (e:=dx) (by rw[e];exact dX) (.inr ho) (fun b q hb z=>(sb.2 b hb).trans z) hd ?_
 refine ⟨by rw[Bc O.ne];exact ho,?_,O.ne,O'.obj,_,O'.ns,fun g=>?_,fun g hg=>?_⟩
 ·have:=Pg f y fs;omega
 ·show RelO ((Jl f y fs).lookup g) (if g=f then some u else mA g)
  rw[O9]
  by_cases q:g=f
  ·rw[if_pos q,if_pos q];exact ry
  ·rw[if_neg q,if_neg q];exact r g
 ·by_cases q:g=f
  ·rw[q];exact (Oj f y fs).1
  ·refine (Oj f y fs).2 g (wi g fun z=>hg ?_)
   show (if g=f then some u else mA g)=none
   rw[if_neg q];exact z
theorem Inv.made(I:Inv X pins σ H s):Inv X pins σ (upd (upd H s.heap.objs.size (.own (s.heap.objs.size+1))) (s.heap.objs.size+1) (.ins C s.heap.objs.size []))
  { s with heap:=(s.heap.push dL).push (eP C s.heap.objs.size) }:=by
 have e1:(s.heap.push dL).get? s.heap.objs.size=some dL:=aW s.heap rfl
 have e2:((s.heap.push dL).push (eP C s.heap.objs.size)).get? (s.heap.objs.size+1)=some (eP C s.heap.objs.size):=by
  have:=aW (s.heap.push dL) (o:=eP C s.heap.objs.size) rfl
  rwa [eD] at this
 have e3:(s.heap.push dL).Ns s.heap.objs.size (fun _=>none):=⟨dL,#[],_,e1,rfl,(fun e he=>absurd he (by simp)),fun _=>rfl⟩
 have I1:=I.laid (a:=s.heap.objs.size) (o:=.own (s.heap.objs.size+1)) (h':=s.heap.push dL) (t':=s.toks) (fun b u q=>aF _ q) (bB _) ⟨_,e1⟩
 refine I1.laid (a:=s.heap.objs.size+1) (o:=.ins C s.heap.objs.size []) (t':=s.toks) (fun b u q=>aF _ q) (oP (eD _ _)) ?_
 have ne:s.heap.objs.size≠s.heap.objs.size+1:=bY (fQ _)
 refine ⟨by rw[Bc ne,upd_same],kY _,ne,e2,fun _=>none,(oQ e3).at fun o q=>aF _ q,fun _=>dX,fun y hy=>absurd rfl hy⟩
theorem Ac5{prog:bN}{w:bW}{env:Env}{e:Expr}{f:Str}{pos:Pos}{s:aI}{Q:aE->aI->Prop}(hb:attributeBase e f env (eval e env)=eval e env)
  (h:wpAny (model prog w) A (eval e env) (fun o s₁=>wpAny (model prog w) A (getAttr o f true) Q E s₁) E s):wpAny (model prog w) A (eval (.Attribute e f pos) env) Q E s:=
 Attribute_any_ h (by rw[arm_eval_Attribute,hb])
end
inductive FldR(K:aC)(f:Str)(Q:VK)(x:V)(H1:Hp):Prop
 | mk (a:_) (C:_) (dx:_) (fs:_) (v:_) (h0:x = .ref a) (h1:H1 a=some (.ins C dx fs)) (h2:Cls K C) (h3:NoAttr K C f) (h4:fs.lookup f=some v) (h5:Q v H1):FldR K f Q x H1
noncomputable def Aq0(K:aC)(ta:TE)(f:Str):TE:=fun σ H Q=>ta σ H (FldR K f Q)
noncomputable def Aq5(K:aC)(ta tv:TE)(f:Str):TS:=fun D σ H=>tv σ H fun y H1=>ta σ H1 fun x H2=>∃ a C dx fs,x = .ref a/\H2 a=some (.ins C dx fs)/\Cls K C/\NoAttr K C f/\fs.length < 1000 /\
 D.nx σ (upd H2 a (.ins C dx (Jl f y fs)))
section
variable {X:Cx}{o e value:Expr}{f:Str}{pos pos' tpos:Pos}{ta tv:TE}
theorem Anp(he:PE X e ta)(hb:attributeBase e f X.env (eval e X.env)=eval e X.env):PE X (.Attribute e f pos) (Aq0 X.K ta f):=by
 intro pins s σ H Q I h
 refine Ac5 hb (thn (he pins s σ H _ I h) fun u s1 zz=>?_)
 obtain ⟨x,H1,I1,rx,a,C,dx,fs,v,ex,ea,c,n,l,q⟩:=zz
 subst ex
 obtain rfl:u=bE a:=rx
 exact Aa0 I1 ea c n l fun u' s2 I2 ru=>⟨v,H1,I2,ru,q⟩
theorem Amf(ha:PE X o ta)(hv:PE X value tv)(hs:swapsWith value (some (.Attribute o f pos')) pos.line X.env=pure false):PS X (.Assign [.Attribute o f pos'] value pos) (Aq5 X.K ta tv f):=by
 intro pins s σ H D I h
 refine iT (thn (hv pins s σ H _ I h) fun u s1 zz=>zz.elim fun y H1 I1 ry q=>thn (ha pins s1 σ H1 _ I1 q) fun ov s2 zz=>zz.elim fun x H2 I2 rx zq=>?_) hs
 obtain ⟨a,C,dx,fs,ex,ea,c,n,l,q2⟩:=zq
 subst ex
 obtain rfl:ov=bE a:=rx
 exact Aat I2 ea c n l ry fun s3 I3=>⟨σ,_,I3,q2⟩
end
section
variable {X:Cx}{pins:List (Addr×Obj)}{σ:St}{H:Hp}{s:aI}{A:cK}{E:aE->aI->Prop}{Q:aE->aI->Prop}{c:aE}{b:Bool}
inductive TyOf(K:aC)(H:Hp):V->aE->Prop where
 | non:TyOf K H .non (.type "NoneType")
 | bl (x:Bool):TyOf K H (.bl x) (.type "bool")
 | int (i:Int):TyOf K H (.int i) (.type "int")
 | str (x:Str):TyOf K H (.str x) (.type "str")
 | flt (x:UInt64):TyOf K H (.flt x) (.type "float")
 | lst {a:Addr} {xs:List V} (e:H a=some (.lst xs)):TyOf K H (.ref a) (.type "list")
 | frz {a:Addr} {o:Obj} {xs:List V} (e:H a=some (.frz o (.lst xs))):TyOf K H (.ref a) (.type "list")
 | tup {a:Addr} {xs:List V} (e:H a=some (.tup xs)):TyOf K H (.ref a) (.type "tuple")
 | dK {a:Addr} {kvs:List (Key×V)} (e:H a=some (.dK kvs)):TyOf K H (.ref a) (.type "dict")
 | dT {a:Addr} {kvs:List (List Key×V)} (e:H a=some (.dT kvs)):TyOf K H (.ref a) (.type "dict")
 | ins {a C dx:Addr} {fs:List (Str×V)} (e:H a=some (.ins C dx fs)) (cl:Cls K C) (ha:aY K (.ref C) "__class__" = some (some (.builtin "object.__class__")))
   (hn:fF K (.builtin "object.__class__") "__get__" = some (some (.builtin "getset_descriptor.__get__"))) (htk:mO K (.builtin "object.__class__")=some true)
   (hm:nS K C (.type "object")=some true):TyOf K H (.ref a) (.ref C)
theorem Jz{x:V}{u t:aE}(I:Inv X pins σ H s)(rx:RelV x u)(ty:TyOf X.K H x t)(e:cY X.K t c=some b)(h:∀ tk,Q (.bool b) { s with toks:=tk }) :
  wpAny (model X.prog X.w) A (call (.builtin "isinstance") [u,c]) Q E s:=by
 cases ty with
 | non=>cases (show u=dF from rx);exact cT PySem.W.kitx_none I.kIn dX e (fun z=>nomatch z) h
 | bl y=>cases (show u=nX y from rx);exact cT PySem.W.kitx_bool I.kIn dX e (fun z=>nomatch z) h
 | int i=>obtain ⟨t,q⟩:=(show ∃ t,u=mB i t from rx);cases q;exact cT PySem.W.kitx_int I.kIn dX e (fun z=>nomatch z) h
 | str y=>obtain ⟨t,q⟩:=(show ∃ t,u=mC y t from rx);cases q;exact cT PySem.W.kitx_str I.kIn dX e (fun z=>nomatch z) h
 | flt y=>obtain ⟨t,q⟩:=(show ∃ t,u=pP y t from rx);cases q;exact cT PySem.W.kitx_float I.kIn dX e (fun z=>nomatch z) h
 | @lst a xs ea=>
  cases (show u=bE a from rx)
  obtain ⟨_,_,n,_,h1⟩:=(show ObjOk X.prog X.w H s.heap a (.lst xs) from I.hok a _ ea)
  exact cT kZ I.kIn ⟨_,h1,rfl⟩ e (fun z=>nomatch z) h
 | @frz a ob xs ea=>
  cases (show u=bE a from rx)
  obtain ⟨_,_,_,n,_,h1⟩:=(show ObjOk X.prog X.w H s.heap a (.frz ob (.lst xs)) from I.hok a _ ea)
  exact cT kZ I.kIn ⟨_,h1,rfl⟩ e (fun z=>nomatch z) h
 | @tup a xs ea=>
  cases (show u=bE a from rx)
  obtain ⟨_,_,_,p⟩:=(show ObjOk X.prog X.w H s.heap a (.tup xs) from I.hok a _ ea)
  obtain ⟨o,h1,h2,_⟩:=p
  exact cT nZ I.kIn ⟨o,h1,(kS h2).1⟩ e (fun z=>nomatch z) h
 | @dK a kvs ea=>
  cases (show u=bE a from rx)
  obtain ⟨_,_,vs,_,p⟩:=(show ObjOk X.prog X.w H s.heap a (.dK kvs) from I.hok a _ ea)
  obtain ⟨o,es,ep,h1,h2,_⟩:=p
  exact cT oR I.kIn ⟨o,h1,h2.1⟩ e (fun z=>nomatch z) h
 | @dT a kvs ea=>
  cases (show u=bE a from rx)
  obtain ⟨_,_,xs,_,o,es,ep,h1,h2,_⟩:=(show ObjOk X.prog X.w H s.heap a (.dT kvs) from I.hok a _ ea)
  exact cT oR I.kIn ⟨o,h1,h2.1⟩ e (fun z=>nomatch z) h
 | @ins a C dx fs ea cl ha hn htk hm=>
  cases (show u=bE a from rx)
  obtain ⟨mA,O,_⟩:=P7 I.hok ea
  obtain ⟨od,J,_⟩:=O.look
  exact cT (PySem.W.kitx_own (cl.get _) cl.hd ha hn htk hm) I.kIn J e (fun z=>nomatch z) h
end
structure Room(k:Nat)(A:cK):Prop where
 hd:A.handled=none
 dp:A.depth+3 * k+5 < recursionLimit
 un:A.units+16 * k+200 < cLine
theorem Room.mono{j k:Nat}{A:cK}(r:Room k A)(h:j<=k):Room j A:=⟨r.hd,by have:=r.dp;omega,by have:=r.un;omega⟩
theorem Room.deeper{k:Nat}{A:cK}(r:Room (k+1) A)(env:Env):Room k (A.deeper env):=
 ⟨r.hd,by have:=r.dp;show A.depth+1+3 * k+5 < _;omega,by have:=r.un;show A.units+3+16 * k+200 < _;omega⟩
theorem Abb{A:cK}{C:Addr}{us:List aE}{kw:List (Str×aE)}:(A.under (.builtin "type.__call__" ⟨.ref C::us,kw⟩)).depth=A.depth+1:=by
 first | rfl | simp[oS,Code.weight,Code.isCreation,Code.isGuard,Code.isCaller,rF,oU,guardIds]
theorem Aa5{A:cK}{C:Addr}{us:List aE}{kw:List (Str×aE)}:(A.under (.builtin "type.__call__" ⟨.ref C::us,kw⟩)).units=A.units+1:=by
 first | rfl | simp[oS,Code.cUnits,rF,oU]
theorem Room.make{k:Nat}{A:cK}(r:Room (k+1) A)(C:Addr)(us:List aE)(kw:List (Str×aE)):Room k (A.under (.builtin "type.__call__" ⟨.ref C::us,kw⟩)):=
 ⟨r.hd,by have:=r.dp;rw[Abb];omega,by have:=r.un;rw[Aa5];omega⟩
theorem Room.depth{k:Nat}{A:cK}(r:Room k A):A.depth < recursionLimit:=by have:=r.dp;omega
theorem Room.units{k:Nat}{A:cK}(r:Room k A):A.units+64 < cLine:=by have:=r.un;omega
noncomputable def Ajl:TA:=fun _ H Q=>Q [] H
noncomputable def Agl(ta:TE)(tr:TA):TA:=fun σ H Q=>ta σ H fun x H1=>tr σ H1 fun xs H2=>Q (x::xs) H2
section
variable {X:Cx}{e:Expr}{es:List Expr}{te:TE}{t:TA}{pos:Pos}
theorem Ot:PA X [] Ajl:=fun _ _ _ _ H Q I h=>iN ⟨[],H,I,.nil,h⟩
theorem Gv(ha:PE X e te)(hr:PA X es t)(hs:aS (e::es) X.env=(false,eval e X.env)::aS es X.env:=by rfl):PA X (e::es) (Agl te t):=by
 intro pos pins s σ H Q I h
 rw[hs]
 show wpAny _ _ (spliced ((false,eval e X.env)::backTo pos (aS es X.env))) _ _ s
 refine iC (thn (ha pins s σ H _ I h) fun u s1 zz=>?_)
 obtain ⟨x,H1,I1,r1,q1⟩:=zz
 refine thn (hr pos pins s1 σ H1 _ I1 q1) fun us s2 zz=>?_
 obtain ⟨xs,H2,I2,r2,q2⟩:=zz
 exact ⟨x::xs,H2,I2,.cons r1 r2,q2⟩
noncomputable def Ark(t:TA):TE:=fun σ H Q=>t σ H fun xs H1=>xs.length<=sizeLine/\∀ p,H1 p=none->Q (.ref p) (upd H1 p (.tup xs))
noncomputable def Aq2(t:TA):TE:=fun σ H Q=>t σ H fun xs H1=>xs.length<=sizeLine/\∀ p,H1 p=none->Q (.ref p) (upd H1 p (.lst xs))
theorem Af9{x1}(h:PA X es t):PE X (.Tuple es x1 pos) (Ark t):=by
 intro pins s σ H Q I hq
 refine wpAny_Tuple_spliced (thn (h pos pins s σ H _ I hq) fun us s1 zz=>zz.elim fun xs H1 I1 r zq=>⟨by rw[<- r.length];exact zq.1,?_⟩)
 obtain ⟨z,q⟩:=zq
 have hf:H1 s1.heap.objs.size=none:=I1.hok.fresh (bB _)
 refine ⟨.ref s1.heap.objs.size,upd H1 s1.heap.objs.size (.tup xs),I1.laid (t':=s1.toks) (fun b u e=>aF _ e) (bB _) ?_,rfl,q _ hf⟩
 exact ⟨z,us,r,⟨_,aW _ rfl,rfl,_,rfl⟩⟩
theorem Aoc(h:PA X es t):PE X (.List es pos) (Aq2 t):=by
 intro pins s σ H Q I hq
 refine wpAny_List_spliced (thn (h pos pins s σ H _ I hq) fun us s1 zz=>zz.elim fun xs H1 I1 r zq=>⟨by rw[<- r.length];exact zq.1,?_⟩)
 obtain ⟨z,q⟩:=zq
 have hf:H1 s1.heap.objs.size=none:=I1.hok.fresh (bB _)
 refine ⟨.ref s1.heap.objs.size,upd H1 s1.heap.objs.size (.lst xs),I1.laid (t':=s1.toks) (fun b u e=>aF _ e) (bB _) ?_,rfl,q _ hf⟩
 exact ⟨z,us,0,r,aW _ rfl⟩
end
abbrev Sp:=List V->Hp->VK->XK->Prop
abbrev CXT:=List Env->Hp->aI->XK->aE->aI->Prop
structure Env0(P:bN)(w:bW)(K:aC)(mg:Str->Option aE)(base:Heap)(A:cK)(outer:List Env)(s:aI)(H:Hp):Prop where
 frames:A.frames=some outer
 mod:Mod K mg base
 bs:∀ b o,base.get? b=some o->s.heap.get? b=some o/\H b=none
 bsz:base.objs.size<=s.heap.objs.size
 funs:s.heap.FunFrames base outer
 frf:∀ b∈frs outer,H b=none
 hok:HOk P w H s.heap
 bare:jX s.gens
inductive CE(outer:List Env)(P:bN)(w:bW)(H:Hp)(s:aI)(Q:VK)(u:aE)(s':aI):Prop
 | mk (v:V) (H':Hp) (os:s'.os=s.os) (bare:jX s'.gens) (un:Un (frs outer) [] H H' s.heap s'.heap) (hok:HOk P w H' s'.heap) (r:RelV v u) (q:Q v H'):CE outer P w H s Q u s'
noncomputable def CR(CX:CXT)(outer:List Env)(P:bN)(w:bW)(H:Hp)(s:aI)(Q:VK)(E:XK)(r:Result)(s':aI):Prop:=
 match r with
 | .ok (.ret u)=>CE outer P w H s Q u s'
 | .ok _=>False
 | .error e=>CX outer H s E e s'
structure FnOk(P:bN)(w:bW)(K:aC)(mg:Str->Option aE)(base:Heap)(CX:CXT)(k:Nat)(f:Addr)(fd:bM)(ps:List Str)(sp:Sp):Prop where
 len:∀ vs H Q E,sp vs H Q E->vs.length=ps.length
 run:∀ (A:cK) (outer:List Env) (s:aI) (H:Hp) (args:Args) (us:List aE) (vs:List V) (Q:VK) (E:XK),Room k A->Env0 P w K mg base A outer s H->lB s fd args (ps.zip us)->Vals vs us->sp vs H Q E ->
  jC (model P w) A (.call (.ref f) args) (CR CX outer P w H s Q E) s
theorem Env0.make{P:bN}{w:bW}{K:aC}{mg:Str->Option aE}{base:Heap}{A:cK}{outer:List Env}{s:aI}{H:Hp}(e:Env0 P w K mg base A outer s H)(C:Addr)(us:List aE)(kw:List (Str×aE)) :
  Env0 P w K mg base (A.under (.builtin "type.__call__" ⟨.ref C::us,kw⟩)) outer s H:=⟨by first | exact e.frames | (simpa[oS,Code.envs,oU,pushEnvs] using e.frames),e.mod,e.bs,e.bsz,e.funs,e.frf,e.hok,e.bare⟩
section
variable {X:Cx}{pins:List (Addr×Obj)}{σ:St}{H:Hp}{s s':aI}
theorem Inv.env0(I:Inv X pins σ H s):Env0 X.prog X.w X.K X.mg X.base X.A X.stack s H:=
 ⟨I.ok.frames,I.ok.mod,I.bs,cC I.ok.bsz I.sz,I.stack,I.stkFree,I.hok,I.bare⟩
theorem Inv.after{Q:VK}{u:aE}(I:Inv X pins σ H s)(h:CE X.stack X.prog X.w H s Q u s'):EP X pins σ Q u s':=by
 obtain ⟨v,H',os,bare,un,hok,r,q⟩:=h
 obtain ⟨hh,g,d,t,os'⟩:=s'
 obtain rfl:os'=s.os:=os
 exact ⟨v,H',I.call (h':=hh) (g':=g) (d':=d) (t':=t) (ch:=[]) un hok bare (fun b z=>absurd z (by simp)),r,q⟩
end
noncomputable def Apa(sp:Sp)(dvs:List V)(E:XK)(t:TA):TE:=fun σ H Q=>t σ H fun vs H1=>sp (vs++dvs) H1 Q E
noncomputable def Agp(C:Addr)(m:Str)(sp:Sp)(dvs:List V)(E:XK)(ta:TE)(t:TA):TE:=fun σ H Q=>ta σ H fun x H1=>∃ a dx fs,x = .ref a/\H1 a=some (.ins C dx fs)/\fs.lookup m=none /\
 t σ H1 fun vs H2=>sp (x::(vs++dvs)) H2 Q E
noncomputable def Alx(C:Addr)(sp:Sp)(dvs:List V)(E:XK)(t:TA):TE:=fun σ H Q=>t σ H fun vs H1=>∀ x dx,H1 x=none->H1 dx=none->dx≠x ->
 sp (.ref x::(vs++dvs)) (upd (upd H1 dx (.own x)) x (.ins C dx [])) (fun v H2=>v = .non/\Q (.ref x) H2) E
noncomputable def Binds(K:aC)(fd:bM)(ps:List Str)(ds:List aE):Prop:=
 ∀ (s:aI) (us:List aE),K.In s.heap->(us++ds).length=ps.length->lB s fd ⟨us,[]⟩ (ps.zip (us++ds))
theorem Binds.all{K:aC}{fd:bM}{ps:List Str}(h:∀ us:List aE,us.length=ps.length->bindArgs fd ⟨us,[]⟩=pure (ps.zip us)):Binds K fd ps []:=fun s us _ hl=>by
 rw[aX] at hl ⊢
 exact .of_eq (h us hl)
noncomputable def M8(CX:CXT)(X:Cx)(E:XK):Prop:=∀ (pins:List (Addr×Obj)) (σ:St) (H:Hp) (s:aI) (e:aE) (s':aI),Inv X pins σ H s->CX X.stack H s E e s'->X.xe e s'
section
variable {X:Cx}{CX:CXT}{k:Nat}{f C:Addr}{fd:bM}{ps:List Str}{sp:Sp}{dvs:List V}{ds:List aE}{E:XK}{x m:Str}{p pos apos:Pos}{e o:Expr}{es:List Expr}{ta:TE}{t:TA}
theorem Abf{pins:List (Addr×Obj)}{σ:St}{H:Hp}{s:aI}{Q:VK}{us:List aE}{vs:List V}(F:FnOk X.prog X.w X.K X.mg X.base CX k f fd ps sp)(hr:Room k X.A)(hb:Binds X.K fd ps ds)(hd:Vals dvs ds)(hx:M8 CX X E)
  (I:Inv X pins σ H s) (r:Vals vs us) (h:sp (vs++dvs) H Q E):wpAny (model X.prog X.w) X.A (call (.ref f) us) (EP X pins σ Q) X.xe s:=by
 have r2:Vals (vs++dvs) (us++ds):=r.append hd
 have hl:(us++ds).length=ps.length:=by rw[<- r2.length];exact F.len _ _ _ _ h
 refine iD (iO (F.run X.A X.stack s H ⟨us,[]⟩ (us++ds) (vs++dvs) Q E hr I.env0 (hb s us I.kIn hl) r2 h) fun r s' hq=>?_)
 cases r with
 | error e=>exact hx pins σ H s e s' I hq
 | ok fl=>
  cases fl with
  | ret u=>exact I.after hq
  | next=>exact dJ hq
  | brk=>exact dJ hq
  | cont=>exact dJ hq
theorem Aje(F:FnOk X.prog X.w X.K X.mg X.base CX k f fd ps sp)(hr:Room k X.A)(hg:Gl X x)(hm:X.mg x=some (.ref f))(hk:aZ X.K (.ref f)=true)(hb:Binds X.K fd ps ds)(hd:Vals dvs ds)(hx:M8 CX X E)
  (ha:PA X (e::es) t) (hdb:(x == ("__debug__" : Str))=false:=by decide) (he:aS (e::es) X.env=(false,eval e X.env)::aS es X.env:=by rfl) (hpl:(backTo pos (aS es X.env)).any (·.1)=false:=by rfl) :
  PE X (.Call (.Name x p) (e::es) [] pos) (Apa sp dvs E t):=by
 intro pins s σ H Q I h
 refine eG (Mh I hg hm ?_ hdb)
 refine iE (h₀:=X.base) I.ok.mod.kin hk (thn (ha pos pins s σ H _ I h) fun us s1 zz=>zz.elim fun vs H1 I1 r q=>⟨I1.kIn,?_⟩) he hpl
 exact Abf F hr hb hd hx I1 r q
theorem Ajb{pl:Sem Bool}(he:PE X o ta)(c:Cls X.K C)(hm:Meth X.K C m f)(F:FnOk X.prog X.w X.K X.mg X.base CX k f fd ps sp)(hr:Room k X.A)(hb:Binds X.K fd ps ds)(hd:Vals dvs ds)(hx:M8 CX X E)(ha:PA X (e::es) t)
  (hst:aS (e::es) X.env=(false,eval e X.env)::aS es X.env:=by rfl) (hpl:(backTo pos (aS es X.env)).any (·.1)=false:=by rfl)
  (ht:eval (.Call (.Attribute o m apos) (e::es) [] pos) X.env=(do
   let ov <- eval o X.env
   standAt apos.atName
   let (f,first) <- holding [ov] (getMethod ov m pl)
   callWith pos f first (backTo pos (aS (e::es) X.env)) (backToKw pos (keywordEach [] X.env))):=by rfl) :
  PE X (.Call (.Attribute o m apos) (e::es) [] pos) (Agp C m sp dvs E ta t):=by
 intro pins s σ H Q I h
 refine gE (pl:=pl) (thn (he pins s σ H _ I h) fun u s1 zz=>zz.elim fun x H1 I1 rx zq=>?_) ht
 obtain ⟨a,dx,fs,ex,ea,l,q⟩:=zq
 subst ex
 obtain rfl:u=bE a:=rx
 refine Mx I1 ea c hm l ?_
 refine iE (first:=[.ref a]) (h₀:=X.base) I.ok.mod.kin hm.kp (thn (ha pos pins s1 σ H1 _ I1 q) fun us s2 zz=>zz.elim fun vs H2 I2 r q2=>⟨I2.kIn,?_⟩) hst hpl
 exact Abf (us:=.ref a::us) (vs:=.ref a::vs) F hr hb hd hx I2 (.cons rfl r) q2
theorem Af4{pl:Sem Bool}(he:PE X o ta)(c:Cls X.K C)(hm:Meth X.K C m f)(F:FnOk X.prog X.w X.K X.mg X.base CX k f fd ps sp)(hr:Room k X.A)(hb:Binds X.K fd ps ds)(hd:Vals dvs ds)(hx:M8 CX X E)
  (ht:eval (.Call (.Attribute o m apos) [] [] pos) X.env=(do
   let ov <- eval o X.env
   standAt apos.atName
   let (f,first) <- holding [ov] (getMethod ov m pl)
   callWith pos f first (backTo pos (aS [] X.env)) (backToKw pos (keywordEach [] X.env))):=by rfl) :
  PE X (.Call (.Attribute o m apos) [] [] pos) (Agp C m sp dvs E ta Ajl):=by
 intro pins s σ H Q I h
 refine gE (pl:=pl) (thn (he pins s σ H _ I h) fun u s1 zz=>zz.elim fun x H1 I1 rx zq=>?_) ht
 obtain ⟨a,dx,fs,ex,ea,l,q⟩:=zq
 subst ex
 obtain rfl:u=bE a:=rx
 refine Mx I1 ea c hm l ?_
 exact nN (first:=[.ref a]) I1.kIn hm.kp (Abf (us:=[.ref a]) (vs:=[.ref a]) F hr hb hd hx I1 (.cons rfl .nil) q)
structure Mk(K:aC)(C f:Addr):Prop where
 makes:mN K C=true
 init:aY K (.ref C) "__init__" = some (some (.ref f))
 fn:cX K (.ref f)=true
 kp:aZ K (.ref C)=true
theorem Afm{pins:List (Addr×Obj)}{σ:St}{H:Hp}{s:aI}{Q:VK}{us:List aE}{vs:List V}(M:Mk X.K C f)(F:FnOk X.prog X.w X.K X.mg X.base CX k f fd ps sp)(hr:Room (k+1) X.A)(hb:Binds X.K fd ps ds)(hd:Vals dvs ds)
  (hx:M8 CX X E) (I:Inv X pins σ H s) (r:Vals vs us)
  (h:∀ x dx,H x=none->H dx=none->dx≠x->sp (.ref x::(vs++dvs)) (upd (upd H dx (.own x)) x (.ins C dx [])) (fun v H2=>v = .non/\Q (.ref x) H2) E) :
  wpAny (model X.prog X.w) X.A (call (.ref C) us) (EP X pins σ Q) X.xe s:=by
 have hq:=h (s.heap.objs.size+1) s.heap.objs.size (I.hok.fresh (jD _)) (I.hok.fresh (bB _)) (bY (fQ _))
 have I2:=Inv.made (C:=C) I
 have r2:Vals (V.ref (s.heap.objs.size+1)::(vs++dvs)) (bE (s.heap.objs.size+1)::(us++ds)):=.cons rfl (r.append hd)
 have hl:(bE (s.heap.objs.size+1)::us++ds).length=ps.length:=by
  have e:=r2.length
  rw[F.len _ _ _ _ hq] at e
  exact e.symm
 refine iD (Aib (f:=f) I.kIn M.makes M.init (beq_iff_eq.mp M.fn) (iO (F.run _ X.stack _ _ ⟨bE (s.heap.objs.size+1)::us,[]⟩ (bE (s.heap.objs.size+1)::(us++ds)) _ _ E (hr.make C us [])
  (I2.env0.make C us []) (hb _ (bE (s.heap.objs.size+1)::us) I2.kIn hl) r2 hq) fun r s' hq'=>?_))
 cases r with
 | error e=>exact hx pins σ _ _ e s' I2 hq'
 | ok fl=>
  cases fl with
  | ret u=>
   obtain ⟨v,H',I3,rv,ev,q3⟩:=I2.after hq'
   subst ev
   exact ⟨rv,⟨V.ref (s.heap.objs.size+1),H',I3,rfl,q3⟩⟩
  | next=>exact dJ hq'
  | brk=>exact dJ hq'
  | cont=>exact dJ hq'
theorem Ag2(M:Mk X.K C f)(F:FnOk X.prog X.w X.K X.mg X.base CX k f fd ps sp)(hr:Room (k+1) X.A)(hg:Gl X x)(hm:X.mg x=some (.ref C))(hb:Binds X.K fd ps ds)(hd:Vals dvs ds)(hx:M8 CX X E)
  (hdb:(x == ("__debug__" : Str))=false:=by decide):PE X (.Call (.Name x p) [] [] pos) (Alx C sp dvs E Ajl):=by
 intro pins s σ H Q I h
 refine eG (Mh I hg hm ?_ hdb)
 exact nN I.kIn M.kp (Afm (us:=[]) M F hr hb hd hx I .nil h)
end
section
variable {X:Cx}{CX:CXT}{k:Nat}{f C:Addr}{fd:bM}{ps ks:List Str}{sp:Sp}{E:XK}{x m:Str}{p pos apos kpos:Pos}{e o:Expr}{es:List Expr}{kws:List iP}{te ta:TE}{t tk:TA}{nm:Option Str}
structure KBinds(K:aC)(fd:bM)(ps ks:List Str)(g:List aE->List aE->List aE)(gV:List V->List V->List V):Prop where
 to:∀ (s:aI) (us ws:List aE),K.In s.heap->(g us ws).length=ps.length->lB s fd ⟨us,ks.zip ws⟩ (ps.zip (g us ws))
 rel:∀ {vs:List V} {us:List aE} {zs:List V} {ws:List aE},Vals vs us->Vals zs ws->Vals (gV vs zs) (g us ws)
variable {g:List aE->List aE->List aE}{gV:List V->List V->List V}
end
structure FnScope(N P:List Str)(sc:iK):Prop where
 kind:sc.kind = .function
 co:sc.isCoroutine=false
 gen:sc.isGenerator=false
 nd:N.Nodup
 pre:N.take P.length=P
 par:∀ x∈P,sc.names.lookup x=some .local\/sc.names.lookup x=some .cell
 nofree:∀ y∈sc.names,y.2≠.free
theorem Ut{kindOf:Str->Option iQ}{x:Str}:∀ {binds:List (Str×aE)} {m:Str->Option aE},(∀ v,(x,v)∉binds)->bindL kindOf binds m x=m x
 | [],_,_=>rfl
 | (n,v)::r,m,h=>by
  unfold bindL
  rw[Ut fun w hw=>h w (bI _ hw)]
  split
  ·have:x≠n:=by rintro rfl;exact h v cD
   simp[this]
  ·rfl
theorem Va{kindOf:Str->Option iQ}{x:Str}:∀ {binds:List (Str×aE)} {m:Str->Option aE},(∀ v,(x,v)∉binds)->bindC kindOf binds m x=m x
 | [],_,_=>rfl
 | (n,v)::r,m,h=>by
  unfold bindC
  rw[Va fun w hw=>h w (bI _ hw)]
  split
  ·rfl
  ·have:x≠n:=by rintro rfl;exact h v cD
   simp[this]
theorem T6{kindOf:Str->Option iQ}{x:Str}{v:aE}:∀ {P:List Str} {vs:List aE} {i:Nat} {m:Str->Option aE},P.Nodup->P[i]? = some x->vs[i]? = some v->kindOf x=some .local ->
  bindL kindOf (P.zip vs) m x=some v
 | [],_,_,_,_,h,_,_=>by simp at h
 | _::_,[],_,_,_,_,h,_=>by simp at h
 | p::P,w::vs,0,m,nd,h1,h2,hk=>by
  simp at h1 h2;subst h1;subst h2
  show bindL kindOf ((p,w)::P.zip vs) m p=_
  unfold bindL
  rw[Ut fun v hv=>(jL.mp nd).1 (jM hv).1,if_pos hk]
  simp
 | p::P,w::vs,i+1,m,nd,h1,h2,hk=>by
  show bindL kindOf ((p,w)::P.zip vs) m x=_
  unfold bindL
  exact T6 (i:=i) (jL.mp nd).2 (by simpa using h1) (by simpa using h2) hk
theorem U6{kindOf:Str->Option iQ}{x:Str}{v:aE}:∀ {P:List Str} {vs:List aE} {i:Nat} {m:Str->Option aE},P.Nodup->P[i]? = some x->vs[i]? = some v->kindOf x≠some .local ->
  bindC kindOf (P.zip vs) m x=some v
 | [],_,_,_,_,h,_,_=>by simp at h
 | _::_,[],_,_,_,_,h,_=>by simp at h
 | p::P,w::vs,0,m,nd,h1,h2,hk=>by
  simp at h1 h2;subst h1;subst h2
  show bindC kindOf ((p,w)::P.zip vs) m p=_
  unfold bindC
  rw[Va fun v hv=>(jL.mp nd).1 (jM hv).1,if_neg hk]
  simp
 | p::P,w::vs,i+1,m,nd,h1,h2,hk=>by
  show bindC kindOf ((p,w)::P.zip vs) m x=_
  unfold bindC
  exact U6 (i:=i) (jL.mp nd).2 (by simpa using h1) (by simpa using h2) hk
noncomputable def start(N:List Str)(vs:List V):St:=vs.map some++aT (N.length - vs.length) none
noncomputable def Vu(CX:CXT)(P:bN)(w:bW)(K:aC)(mg:Str->Option aE)(base:Heap)(N:List Str)(qual:Str)(scope:iK)(f:Addr)(cd:aE)(A:cK)(outer:List Env)(s:aI)(H:Hp)(E:XK):Cx where
 prog:=P
 w:=w
 K:=K
 mg:=mg
 base:=base
 A:=A.deeper (envOfC qual scope s.heap.objs.size f cd)
 N:=N
 s₀:=s
 H₀:=H
 env:=envOfC qual scope s.heap.objs.size f cd
 outer:=outer
 stack:=envOfC qual scope s.heap.objs.size f cd::outer
 ex:=[]
 calm:=true
 fn:=fun _=>true
 pn:=[]
 xe:=fun e s'=>wpAny (model P w) (A.deeper (envOfC qual scope s.heap.objs.size f cd)) (leaving (envOfC qual scope s.heap.objs.size f cd) e) (fun _ s''=>CX outer H s E e s'') (fun e' s''=>CX outer H s E e' s'') s'
theorem Xc{sc:iK}{n:Nat}{x:Str}(h:sc.names.lookup x=some .cell):∃ c,(cellsFrom n sc.names []).lookup x=some c:=by
 have q:=iR sc.names n [] (.inl h)
 exact lP.mp q
theorem Ui{CX:CXT}{P:bN}{w:bW}{K:aC}{mg:Str->Option aE}{base:Heap}{N ps:List Str}{qual:Str}{scope:iK}{f:Addr}{cd:aE}{A:cK}{outer:List Env}{s s1:aI}{H:Hp}{E:XK}{us:List aE}{vs:List V}
  (S:FnScope N ps scope) (hd:A.handled=none) (e0:Env0 P w K mg base A outer s H) (hl:vs.length=ps.length) (r:Vals vs us)
  (x:InCallC s s.heap.objs.size (bindL (envOfC qual scope s.heap.objs.size f cd).kindOf (ps.zip us) fun _=>none) (cellsFrom (s.heap.objs.size+1) scope.names []) (bindC (envOfC qual scope s.heap.objs.size f cd).kindOf (ps.zip us) fun _=>none) s1) :
  Inv (Vu CX P w K mg base N qual scope f cd A outer s H E) [] (start N vs) H s1:=by
 have hpl:ps.length<=N.length:=by have:=congrArg lD S.pre;rw[gR] at this;omega
 obtain ⟨h1,tk,rfl,hk⟩:=x.done
 have noA:∀ b:Addr,b∉(Vu CX P w K mg base N qual scope f cd A outer s H E).ex:=fun b z=>absurd (show b∈([]:List Addr) from z) (by simp)
 refine ⟨⟨e0.mod,S.kind,rfl,rfl,bB _,fun y z c h1 h2=>?_,fun y hy=>?_,fun y c _ h=>?_,fun _=>hd,nA e0.frames,.inr ⟨rfl,rfl⟩,fun b z=>absurd z (noA b),e0.bs,e0.bsz,fun b _ _=>noA b,fun b z=>absurd z (noA b),e0.funs,e0.frf⟩,
  rfl,e0.bare,Un.kept hk,⟨_,x.toInCall.ns,fun i y v h1 h2 h3=>?_⟩,fun y c h=>⟨_,x.cell y c h⟩,e0.hok.fresh (bB _),fun y c h=>?_,fun p hp=>absurd (show p∈([]:List (Addr×Obj)) from hp) (by simp),e0.hok.kept hk,?_⟩
 ·exact name_of_addr x.apart (fL h1) (fL h2)
 ·have hy:scope.names.lookup y=some .cell\/scope.names.lookup y=some .free:=hy
  rcases hy with hy | hy
  ·exact Xc hy
  ·exact absurd rfl (S.nofree _ (fL hy))
 ·exact jY (x.above y c (fL h))
 ·have hi:i < vs.length:=by
   unfold start at h2
   by_cases hi:i < vs.length
   ·exact hi
   ·rw[cO (by simpa using hi)] at h2
    rw[List.getElem?_replicate] at h2
    split at h2 <;> cases h2
  have ha:vs[i]? = some v:=by
   unfold start at h2
   rw[bJ (by simpa using hi),bV] at h2
   cases e:vs[i]? with
   | none=>rw[e] at h2;cases h2
   | some a=>rw[e] at h2;cases h2;rfl
  obtain ⟨u,hu,rv⟩:=r.get ha
  have hp:ps[i]? = some y:=by
   rw[<- S.pre,List.getElem?_take_of_lt (by omega)];exact h1
  have ndP:ps.Nodup:=by rw[<- S.pre];exact S.nd.sublist (List.take_sublist _ _)
  refine ⟨u,rv,?_⟩
  rcases S.par y (fG hp) with k | k
  ·exact .inl ⟨k,T6 ndP hp hu k⟩
  ·obtain ⟨c,e⟩:=Xc (n:=s.heap.objs.size+1) k
   refine .inr ⟨.inl k,c,e,?_⟩
   have q:=x.cell y c e
   rw[U6 ndP hp hu (by show scope.names.lookup y≠_;rw[k];decide)] at q
   exact q
 ·exact e0.hok.fresh (jY (x.above y c (fL h)))
 ·unfold start
  show _=N.length
  rw[cG,bF,iV]
  omega
theorem Aop{CX:CXT}{P:bN}{w:bW}{K:aC}{mg:Str->Option aE}{base:Heap}{k:Nat}{f:Addr}{name qual:Str}{params:Arguments}{body:List Stmt}{scope:iK}{dV kV doc pm cdv ct oc:aE}{an od:Option Addr}
  {osl:Array (Option aE)} {N ps:List Str} {sp:Sp} (lk:K.lookup f=some ⟨oc,od,.func (bH name qual params body scope dV kV doc pm an cdv ct),osl⟩) (hcd:bC K cdv qual=true) (S:FnScope N ps scope)
  (len:∀ vs H Q E,sp vs H Q E->vs.length=ps.length)
  (hbody:∀ (A:cK) (outer:List Env) (s:aI) (H:Hp) (vs:List V) (Q:VK) (E:XK),Room k (A.deeper (envOfC qual scope s.heap.objs.size f cdv))->sp vs H Q E ->
   ∃ t,PSs (Vu CX P w K mg base N qual scope f cdv A outer s H E) body t/\t { nx:=fun _ H'=>Q .non H',rt:=Q } (start N vs) H) :
  FnOk P w K mg base CX (k+1) f (bH name qual params body scope dV kV doc pm an cdv ct) ps sp:=by
 refine ⟨len,fun A outer s H args us vs Q E hr e0 hb r hsp=>?_⟩
 have hl:=len _ _ _ _ hsp
 have KX:K.In s.heap:=e0.mod.kin.keeps fun b o e=>(e0.bs b o e).1
 have lim:s.heap.NoLimit:=e0.mod.nolimit.keeps fun b o e=>(e0.bs b o e).1
 have hkind:∀ y∈ps.zip us,scope.names.lookup y.1=some .local\/(scope.names.lookup y.1=some .cell/\((cellsFrom (s.heap.objs.size+1) scope.names []).lookup y.1).isSome=true):=fun ⟨n,v⟩ hy=>by
  rcases S.par n (jM hy).1 with q | q
  ·exact .inl q
  ·exact .inr ⟨q,iR _ _ _ (.inl q)⟩
 refine mT hr.depth (KX _ _ lk) rfl S.co S.gen rfl (oA KX hcd) (hb _ _ _ _ ?_)
 refine kH S.kind hkind fun env he s1 x=>?_
 subst he
 refine ⟨lim.keeps x.toInCall.keep,codeAny_func ?_⟩
 obtain ⟨t,ht,hq⟩:=hbody A outer s H vs Q E (hr.deeper _) hsp
 have I:Inv (Vu CX P w K mg base N qual scope f cdv A outer s H E) [] (start N vs) H s1:=Ui S hr.hd e0 hl r x
 refine cL (ht [] s1 (start N vs) H _ I hq) (fun fl s' hs=>?_) fun e s' hs=>hs
 have fin:∀ {σ':St} {H':Hp} {v:V} {u:aE},Inv (Vu CX P w K mg base N qual scope f cdv A outer s H E) [] σ' H' s'->RelV v u->Q v H'->CE outer P w H s Q u s':=
  fun {σ' H' v u} J rv q=>⟨v,H',J.os,J.bare,J.base,J.hok,rv,q⟩
 cases fl with
 | ret u=>
  obtain ⟨v,σ',H',J,rv,q⟩:=hs
  exact fin J rv q
 | next=>
  obtain ⟨σ',H',J,q⟩:=hs
  exact fin (v:=V.non) (u:=dF) J rfl q
 | brk=>
  obtain ⟨_,_,_,q⟩:=hs
  exact dJ q
 | cont=>
  obtain ⟨_,_,_,q⟩:=hs
  exact dJ q
section
variable {X:Cx}{x:Str}{p pos:Pos}{e:Expr}{es:List Expr}{t:TA}{id T:String}{r:List V->Hp->VK->Prop}
noncomputable def tCB(r:List V->Hp->VK->Prop)(t:TA):TE:=fun σ H Q=>t σ H fun vs H1=>r vs H1 Q
theorem Lu(hc:CallR X (.builtin id) r)(hg:Gl X x)(hm:X.mg x=none)(hv:eC x=some (.builtin id))(ha:PA X (e::es) t)(hn:x ≠ "__name__" := by decide)(hdb:(x == ("__debug__" : Str))=false:=by decide)
  (he:aS (e::es) X.env=(false,eval e X.env)::aS es X.env:=by rfl) (hpl:(backTo pos (aS es X.env)).any (·.1)=false:=by rfl):PE X (.Call (.Name x p) (e::es) [] pos) (tCB r t):=by
 intro pins s σ H Q I h
 refine eG (Na I hg hm hv ?_ hn hdb)
 exact PyProof.Rows.callWith_builtin1 (thn (ha pos pins s σ H _ I h) fun us s1 zz=>by obtain ⟨vs,H1,I1,r1,q1⟩:=zz;exact hc pins s1 σ H1 vs us Q I1 r1 q1) he hpl
theorem Aet(hc:CallR X (.type T) r)(hg:Gl X x)(hm:X.mg x=none)(hv:eC x=some (.type T))(ha:PA X (e::es) t)(hn:x ≠ "__name__" := by decide)(hdb:(x == ("__debug__" : Str))=false:=by decide)
  (he:aS (e::es) X.env=(false,eval e X.env)::aS es X.env:=by rfl) (hpl:(backTo pos (aS es X.env)).any (·.1)=false:=by rfl):PE X (.Call (.Name x p) (e::es) [] pos) (tCB r t):=by
 intro pins s σ H Q I h
 refine eG (Na I hg hm hv ?_ hn hdb)
 exact eA (thn (ha pos pins s σ H _ I h) fun us s1 zz=>by obtain ⟨vs,H1,I1,r1,q1⟩:=zz;exact hc pins s1 σ H1 vs us Q I1 r1 q1) he hpl
end
end L2
namespace HT
open PySem PyProof.Rows
section
open PySem.SeqAt
open PySem.AutoSeq1 (wpAny_loadPart')
open PySem.MeetsSeq PySem.MeetsSeq2 PySem.MeetsSeq3
end
section
variable {prog:bN}{w:bW}{A:cK}{E:aE->aI->Prop}{s:aI}
theorem Aka{t b:Addr}{vs ws:List aE}{Q:aE->aI->Prop}(ht:IsTup s.heap t vs.toArray)(hb:IsTup s.heap b ws.toArray)(hv:vs≠[])
  (h1:ws=[]->Q (.ref t) s) (h2:ws≠[]->Q (.ref s.heap.objs.size) { s with heap:=s.heap.push { cls:=.type "tuple",data:=.seq (vs++ws).toArray } })
  (hsz:vs.length+ws.length<=sizeLine):wpAny (model prog w) A (eL .Add (.ref t) (.ref b)) Q E s:=by
 obtain ⟨⟨cls,dd,data,sl⟩,ho,hc,n,hd⟩:=id ht
 obtain ⟨⟨cls2,dd2,data2,sl2⟩,ho2,hc2,n2,hd2⟩:=id hb
 simp only at hc hd hc2 hd2
 subst hc hd hc2 hd2
 have e:vs.toArray++ws.toArray=(vs++ws).toArray:=by simp
 by_cases hw:ws=[]
 ·exact oV ⟨_,ho,rfl⟩ ⟨_,ho2,rfl⟩ mD nT iS iG (gZ _ _)
   (tuple_addW1 t b vs.toArray ws.toArray n n2 dd dd2 sl sl2 (by simpa using hv) (by simp[hw])) ⟨ho,ho2,h1 hw⟩
 ·refine oV ⟨_,ho,rfl⟩ ⟨_,ho2,rfl⟩ mD nT iS iG (gZ _ _)
   (tuple_addW2 t b vs.toArray ws.toArray n n2 dd dd2 sl sl2 (by simpa using hv) (by simpa using hw) (by rw[bK,bK];exact hsz)) ⟨ho,ho2,?_⟩
  rw[e]
  exact h2 hw
noncomputable def sIx(n d:Nat):Option Int->Nat
 | none=>d
 | some v=>if v < 0 then (v+(n:Int)).toNat else min v.toNat n
theorem Agf(n d:Nat):sIx n d none=d:=rfl
theorem Ajv(n d k:Nat):sIx n d (some (k:Int))=min k n:=by
 show (if (k:Int) < 0 then ((k:Int)+(n:Int)).toNat else min (k:Int).toNat n)=min k n
 rw[if_neg (by omega),fH]
end
end HT
namespace L2
open PySem PySem.Spec PyProof.Rows
abbrev TO:=St->Hp->(Option Int->Hp->Prop)->Prop
noncomputable def PO(X:Cx)(e:Option Expr)(t:TO):Prop:=
 ∀ (pins:List (Addr×Obj)) (s:aI) (σ:St) (H:Hp) (Q:Option Int->Hp->Prop),Inv X pins σ H s->t σ H Q ->
  wpAny (model X.prog X.w) X.A (evalPart e X.env) (fun u s'=>∃ o H',Inv X pins σ H' s'/\IsPart u o/\Q o H') X.xe s
noncomputable def Akt:TO:=fun _ H Q=>Q none H
noncomputable def Apb(t:TE):TO:=fun σ H Q=>t σ H fun x H1=>∃ i,x = .int i/\Q (some i) H1
theorem Sh{ns:List Int}:∀ {us:List aE},Vals (ns.map V.int) us->mJ us ns:=by
 induction ns with
 | nil=>intro us r;rw[bL] at r;cases r;exact .nil
 | cons n ns ih=>
  intro us r
  rw[aP] at r
  cases r with
  | cons r1 r2=>
   obtain ⟨t,e⟩:=r1
   subst e
   exact .cons n t (ih r2)
section
variable {X:Cx}{e:Expr}{te:TE}{lo hi:Option Expr}{tl th:TO}{pos p2:Pos}
theorem Ajq:PO X none Akt:=by
 intro pins s σ H Q I h
 rw[evalPart_none]
 exact bD ⟨none,H,I,.none,h⟩
theorem Aj8(h:PE X e te):PO X (some e) (Apb te):=by
 intro pins s σ H Q I hw
 rw[evalPart_some]
 refine thn (h pins s σ H _ I hw) fun u s1 zz=>?_
 obtain ⟨x,H1,I1,r1,q1⟩:=zz
 obtain ⟨i,rfl,q⟩:=q1
 obtain ⟨t,rfl⟩:=r1
 exact ⟨some i,H1,I1,.int i t,q⟩
noncomputable def SlR(X:Cx)(r:V->Option Int->Option Int->Hp->VK->Prop):Prop:=
 ∀ (pins:List (Addr×Obj)) (s:aI) (σ:St) (H:Hp) (x:V) (v vl vu:aE) (lo hi:Option Int) (sl:Addr) (Q:VK),Inv X pins σ H s->RelV x v->s.heap.IsSliceOf sl vl vu .none->IsPart vl lo->IsPart vu hi->r x lo hi H Q ->
  ∃ T id,typeLookup (.type T) "__getitem__" = pure (some (.builtin id))/\s.TypeIs v T/\wpAny (model X.prog X.w) X.A (getItem v (.ref sl)) (EP X pins σ Q) X.xe s
noncomputable def tSl(r:V->Option Int->Option Int->Hp->VK->Prop)(te:TE)(tl th:TO):TE:=fun σ H Q=>te σ H fun x H1=>tl σ H1 fun l H2=>th σ H2 fun u H3=>r x l u H3 Q
theorem Ag3{r:V->Option Int->Option Int->Hp->VK->Prop}(hr:SlR X r)(he:PE X e te)(hl:PO X lo tl)(hu:PO X hi th):PE X (.Subscript e (.Slice lo hi none p2) pos) (tSl r te tl th):=by
 intro pins s σ H Q I h
 refine Subscript_ (thn (he pins s σ H _ I h) fun v s1 zz=>?_)
 obtain ⟨x,H1,I1,r1,q1⟩:=zz
 refine wpAny_Slice (thn (hl pins s1 σ H1 _ I1 q1) fun vl s2 ⟨l,H2,I2,pl,q2⟩=>thn (hu pins s2 σ H2 _ I2 q2) fun vu s3 zz=>?_)
 obtain ⟨u,H3,I3,pu,q3⟩:=zz
 rw[evalPart_none]
 refine bD ?_
 have I4:Inv X pins σ H3 { s3 with heap:=s3.heap.push { cls:=.type "slice",data:=.fields #[vl,vu,.none] } }:=I3.kept (t':=s3.toks) fun b ob q=>aF _ q
 obtain ⟨T,id,hT,ht,hg⟩:=hr pins { s3 with heap:=s3.heap.push { cls:=.type "slice",data:=.fields #[vl,vu,.none] } } σ H3 x v vl vu l u s3.heap.objs.size Q I4 r1 (Heap.IsSliceOf.new ..) pl pu q3
 show wpAny (model X.prog X.w) X.A (subscriptTail e (.Slice lo hi none p2) v (.ref s3.heap.objs.size)) (EP X pins σ Q) X.xe { s3 with heap:=s3.heap.push { cls:=.type "slice",data:=.fields #[vl,vu,.none] } }
 exact tail_any (ops:=[.ref s3.heap.objs.size,v]) ht hT hg (by with_unfolding_all rfl)
noncomputable def Adv(xs:List V)(lo hi:Option Int):List V:=(xs.drop (HT.sIx xs.length 0 lo)).take (HT.sIx xs.length xs.length hi - HT.sIx xs.length 0 lo)
theorem W4(xs:List V)(lo hi:Option Int):(Adv xs lo hi).length<=xs.length:=by
 unfold Adv
 rw[gR,List.length_drop]
 omega
inductive rCatT(K:aC)(x y:V)(H:Hp)(Q:VK):Prop
 | mk (a:_) (b:_) (xs:_) (ys:_) (h0:x = .ref a) (h1:y = .ref b) (h2:SqT K H a xs) (h3:SqT K H b ys) (h4:xs≠[]) (h5:xs.length+ys.length<=sizeLine) (h6:(ys=[]->Q (.ref a) H)) (h7:(ys≠[]->∀ p,H p=none->Q (.ref p) (upd H p (.tup (xs++ys))))):rCatT K x y H Q
theorem Vals.nil_iff{xs:List V}{us:List aE}(r:Vals xs us):us=[]↔xs=[]:=by
 cases r with
 | nil=>simp
 | cons _ _=>simp
theorem Ajm:OpR X (eL .Add) (rCatT X.K):=by
 intro pins s σ H x y v u Q I rx ry h
 obtain ⟨a,b,xs,ys,rfl,rfl,ha,hb,hx,hz,q1,q2⟩:=h
 cases rx
 cases ry
 obtain ⟨its,r1,p1,_⟩:=I.tuple ha
 obtain ⟨its2,r2,p2,_⟩:=I.tuple hb
 refine HT.Aka p1 p2 (fun z=>hx (r1.nil_iff.mp z)) (fun z=>⟨.ref a,H,I,rfl,q1 (r2.nil_iff.mp z)⟩) (fun z=>?_) (by rw[<- r1.length,<- r2.length];exact hz)
 refine ⟨.ref s.heap.objs.size,_,I.laid (t':=s.toks) (o:=.tup (xs++ys)) (fun b ob q=>aF _ q) (bB _) ?_,rfl,q2 (fun w=>z (r2.nil_iff.mpr w)) _ (I.hok.fresh (bB _))⟩
 exact ⟨by rw[cG];exact hz,_,r1.append r2,TupN.new _ _⟩
end
noncomputable def ixN(n:Nat)(i:Int):Option Nat:=if 0<=i then (if i < n then some i.toNat else none) else if -(n:Int)<=i then some (i+n).toNat else none
noncomputable def atI{α:Type}(xs:List α)(i:Int):Option α:=(ixN xs.length i).bind fun j=>xs[j]?
theorem Ab0{n:Nat}{i:Int}{j:Nat}(h:ixN n i=some j):seqIndex? i n=some j/\j < n/\-(n:Int)<=i/\i < n:=by
 unfold ixN at h
 by_cases h0:0<=i
 ·rw[if_pos h0] at h
  by_cases h1:i < n
  ·rw[if_pos h1] at h
   have e:i.toNat=j:=bQ h
   exact ⟨by rw[pQ h0 h1,e],by omega,by omega,h1⟩
  ·rw[if_neg h1] at h;cases h
 ·rw[if_neg h0] at h
  by_cases h1:-(n:Int)<=i
  ·rw[if_pos h1] at h
   have e:(i+n).toNat=j:=bQ h
   exact ⟨by rw[oW (by omega) h1,e],by omega,h1,by omega⟩
  ·rw[if_neg h1] at h;cases h
theorem Vl{α:Type}{xs:List α}{i:Int}{v:α}(h:atI xs i=some v):∃ j,seqIndex? i xs.length=some j/\xs[j]? = some v/\j < xs.length/\-(xs.length:Int)<=i/\i < xs.length:=by
 unfold atI at h
 cases e:ixN xs.length i with
 | none=>rw[e] at h;cases h
 | some j=>
  rw[e] at h
  obtain ⟨h1,h2,h3,h4⟩:=Ab0 e
  exact ⟨j,h1,h,h2,h3,h4⟩
noncomputable def Ack(b:Expr):Prop:=∀ o i,subscripted b false o i=operate [o,i] (getItem o i)
noncomputable def IxR(X:Cx)(r:R2):Prop:=
 ∀ (value slice:Expr) (pins:List (Addr×Obj)) (s:aI) (σ:St) (H:Hp) (x y:V) (v u:aE) (Q:VK),Inv X pins σ H s->RelV x v->RelV y u->r x y H Q ->
  subscripted slice false v u=operate [v,u] (getItem v u)->wpAny (model X.prog X.w) X.A (subscriptTail value slice v u) (EP X pins σ Q) X.xe s
noncomputable def MtR(X:Cx)(id:String)(r:V->List V->Hp->VK->Prop):Prop:=
 ∀ (pins:List (Addr×Obj)) (s:aI) (σ:St) (H:Hp) (x:V) (xs:List V) (v:aE) (us:List aE) (Q:VK),Inv X pins σ H s->RelV x v->Vals xs us->r x xs H Q ->
  wpAny (model X.prog X.w) X.A (call (.builtin id) (v::us)) (EP X pins σ Q) X.xe s
section
variable {X:Cx}{a b:Expr}{ta tb:TE}{pos:Pos}
theorem IxR.or{r r':R2}(h:IxR X r)(h':IxR X r'):IxR X (fun x y H Q=>r x y H Q\/r' x y H Q):=by
 intro value slice pins s σ H x y v u Q I rx ry q hs
 rcases q with q | q
 ·exact h value slice pins s σ H x y v u Q I rx ry q hs
 ·exact h' value slice pins s σ H x y v u Q I rx ry q hs
theorem Api{r:R2}(hr:IxR X r)(ha:PE X a ta)(hb:PE X b tb)(hs:Ack b):PE X (.Subscript a b pos) (tOp r ta tb):=by
 intro pins s σ H Q I h
 exact Subscript_ (An9 ha hb I h fun v u s2 x y H2 I2 rx ry q=>hr a b pins s2 σ H2 x y v u Q I2 rx ry q (hs _ _))
inductive rIxL(K:aC)(x y:V)(H:Hp)(Q:VK):Prop
 | mk (p:_) (xs:_) (i:_) (v:_) (h0:x = .ref p) (h1:y = .int i) (h2:SqL K H p xs) (h3:atI xs i=some v) (h4:Q v H):rIxL K x y H Q
inductive rIxT(K:aC)(x y:V)(H:Hp)(Q:VK):Prop
 | mk (p:_) (xs:_) (i:_) (v:_) (h0:x = .ref p) (h1:y = .int i) (h2:SqT K H p xs) (h3:atI xs i=some v) (h4:Q v H):rIxT K x y H Q
noncomputable def Aou:R2:=fun x y H Q=>∃ z i c,x = .str z/\y = .int i/\z.length<=sizeLine/\atI z.cps.toList i=some c/\Q (.str ⟨#[c]⟩) H
theorem Ajr:IxR X (rIxL X.K):=by
 intro value slice pins s σ H x y v u Q I rx ry h hs
 obtain ⟨p,xs,i,z,rfl,rfl,hq,he,q⟩:=h
 cases rx
 obtain ⟨t,rfl⟩:=ry
 obtain ⟨its,r,pl,hz⟩:=I.list hq
 obtain ⟨j,h1,h2,h3,h4,h5⟩:=Vl he
 obtain ⟨w,ew,rw'⟩:=r.get h2
 have hl:=r.length
 have hn:=Oq
 have fin:EP X pins σ Q w s:=⟨z,H,I,rw',q⟩
 by_cases h0:0<=i
 ·have hj:i.toNat=j:=by
   rw[pQ h0 h5] at h1
   exact bQ h1
  exact item_listR pl.isList h0 (by omega) (by rw[hj];simpa using ew) fin hs
 ·have hj:(i+(its.toArray.size:Int)).toNat=j:=by
   rw[oW (by omega) h4] at h1
   rw[bK,<- hl]
   exact bQ h1
  exact mK (x:=w) pl.isList.typeIs oX.lookup
   (wpAny_getItem_list_neg (Q:=fun r s'=>r=w/\EP X pins σ Q r s') pl.isList (by omega) (by rw[bK] <;> omega) (by omega) (by rw[hj];simpa using ew) ⟨rfl,fin⟩) hs
theorem Anl:IxR X (rIxT X.K):=by
 intro value slice pins s σ H x y v u Q I rx ry h hs
 obtain ⟨p,xs,i,z,rfl,rfl,hq,he,q⟩:=h
 cases rx
 obtain ⟨t,rfl⟩:=ry
 obtain ⟨its,r,pl,hz⟩:=I.tuple hq
 obtain ⟨j,h1,h2,h3,h4,h5⟩:=Vl he
 obtain ⟨w,ew,rw'⟩:=r.get h2
 have hl:=r.length
 have hn:=Oq
 have fin:EP X pins σ Q w s:=⟨z,H,I,rw',q⟩
 exact mK (x:=w) pl.typeIs slot_tuple_getitem.lookup
  (getItem_tuple (j:=j) (Q:=fun r s'=>r=w/\EP X pins σ Q r s') pl (by omega) (by omega) (by rw[bK,<- hl];exact h1) (by simpa using ew) ⟨rfl,fin⟩) hs
theorem Am8:IxR X Aou:=by
 intro value slice pins s σ H x y v u Q I rx ry h hs
 obtain ⟨z,i,c,rfl,rfl,hz,he,q⟩:=h
 obtain ⟨t,rfl⟩:=rx
 obtain ⟨t',rfl⟩:=ry
 obtain ⟨j,h1,h2,h3,h4,h5⟩:=Vl he
 have hl:z.cps.toList.length=z.length:=by simp[Str.length]
 rw[hl] at h1 h4 h5
 have hn:=Oq
 exact tail_any (typeIs_str s z t) slot_str_getitem.lookup (getItem_str (c:=c) (by
  have e1:decide (i < -(2 ^ 63:Int))=false:=decide_eq_false (by omega)
  have e2:decide (i ≥ 2 ^ 63)=false:=decide_eq_false (by omega)
  rw[e1,e2,Bool.or_false]) (by rw[h1];simpa using h2) ⟨.str ⟨#[c]⟩,H,I.tok _,⟨_,rfl⟩,q⟩) hs
noncomputable def rIx(K:aC):R2:=fun x y H Q=>rIxL K x y H Q\/rIxT K x y H Q\/Aou x y H Q
theorem Ap:IxR X (rIx X.K):=Ajr.or (Anl.or Am8)
theorem Aaa(its:List aE)(n j:Nat)(u:aE):fS (·.setIfInBounds j u) { cls:=.type "list",data:=.seq its.toArray n } = { cls:=.type "list",data:=.seq (its.set j u).toArray n }:=by
 simp[fS]
theorem Inv.lst{pins:List (Addr×Obj)}{σ:St}{H:Hp}{s:aI}{p:Addr}{xs:List V}(I:Inv X pins σ H s)(h:H p=some (.lst xs)) :
  ∃ (its:List aE) (n:Nat),Vals xs its/\s.heap.get? p=some { cls:=.type "list",data:=.seq its.toArray n }/\xs.length<=sizeLine:=by
 obtain ⟨z,its,n,r,e⟩:=I.hok p _ h
 exact ⟨its,n,r,e,z⟩
theorem Inv.lstUpd{pins:List (Addr×Obj)}{σ:St}{H:Hp}{s:aI}{p:Addr}{xs ys:List V}{its its':List aE}{n n':Nat}{f:Obj->Obj}(I:Inv X pins σ H s)(h:H p=some (.lst xs))
  (ho:s.heap.get? p=some { cls:=.type "list",data:=.seq its.toArray n }) (hf:f { cls:=.type "list",data:=.seq its.toArray n } = { cls:=.type "list",data:=.seq its'.toArray n' }) (r:Vals ys its') (hz:ys.length<=sizeLine) (t:Nat) :
  Inv X pins σ (upd H p (.lst ys)) { s with heap:=s.heap.update p f,toks:=t }:=by
 have e:(s.heap.update p f).get? p=some { cls:=.type "list",data:=.seq its'.toArray n' }:=by
  rw[dB f ho (by rw[hf] <;> rfl),hf]
 refine I.write (x:=p) (e:=p) (by rw[h];trivial) (.inl rfl) (fun b u hb q=>(cM _ _ (cR hb)).trans q) ⟨_,e⟩ ?_
 exact ⟨hz,its',n',r,e⟩
noncomputable def Ao1:V->V->V->Hp->(Hp->Prop)->Prop:=fun o i v H Q=>∃ p xs k j,o = .ref p/\i = .int k/\H p=some (.lst xs)/\ixN xs.length k=some j/\Q (upd H p (.lst (xs.set j v)))
theorem Aid:Ap6 X Ao1:=by
 intro pins s σ H o i v ov iv u Q I ro ri rv h
 obtain ⟨p,xs,k,j,rfl,rfl,hp,hj,q⟩:=h
 cases ro
 obtain ⟨t,rfl⟩:=ri
 obtain ⟨its,n,r,ho,hz⟩:=I.lst hp
 obtain ⟨h1,h2,h3,h4⟩:=Ab0 hj
 have hl:=r.length
 have hn:=Oq
 have I':Inv X pins σ (upd H p (.lst (xs.set j v))) { s with heap:=s.heap.update p (fS (·.setIfInBounds j u)) }:=
  I.lstUpd hp ho (Aaa its n j u) (r.set rv j) (by rw[jN];exact hz) s.toks
 by_cases h0:0<=k
 ·have hk:k.toNat=j:=by
   rw[pQ h0 h4] at h1
   exact bQ h1
  exact PySem.W.ki_setAt ho h0 (by omega) (by rw[bK,<- hl];exact h4) (by rw[hk];exact ⟨_,I',q⟩)
 ·have hk:(k+(its.toArray.size:Int)).toNat=j:=by
   rw[oW (by omega) h3] at h1
   rw[bK,<- hl]
   exact bQ h1
  exact PySem.W.ki_setBack ho (by omega) (by rw[bK,<- hl];exact h3) (by omega) (by rw[hk];exact ⟨_,I',q⟩)
theorem Ada(i:Int)(n:Nat):max 0 (min (if i < 0 then i+(n:Int) else i) (n:Int))=(((if i < 0 then (i+(n:Int)).toNat else min i.toNat n):Nat):Int):=by
 by_cases h:i < 0
 ·have hm:i+(n:Int)<=n:=by omega
  rw[if_pos h,if_pos h,pR hm,Int.ofNat_toNat,Int.max_comm]
 ·obtain ⟨k,rfl⟩:=Int.eq_ofNat_of_zero_le (Int.not_lt.mp h)
  rw[if_neg h,if_neg h,fH]
  rcases Nat.le_total k n with hk | hk
  ·rw[pS hk,pR (qX.mpr hk),pF (oB k)]
  ·rw[pG hk,Int.min_eq_right (qX.mpr hk),pF (oB n)]
theorem V4(lo hi:Option Int)(n:Nat):(sliceBounds lo hi none n).1=((HT.sIx n 0 lo:Nat):Int)/\(sliceBounds lo hi none n).2.1=((HT.sIx n n hi:Nat):Int)/\(sliceBounds lo hi none n).2.2=1:=by
 refine ⟨?_,?_,rfl⟩
 ·cases lo with
  | none=>rfl
  | some i=>exact Ada i n
 ·cases hi with
  | none=>rfl
  | some i=>exact Ada i n
theorem Su(its:List aE)(lo hi:Option Int):slicePick its.toArray lo hi none=((its.drop (HT.sIx its.length 0 lo)).take (HT.sIx its.length its.length hi - HT.sIx its.length 0 lo)).toArray:=by
 obtain ⟨h1,h2,h3⟩:=V4 lo hi its.toArray.size
 unfold slicePick
 rw[h1,h2,h3]
 simp only[sliceRange_one,pick_run,bK] <;> rfl
noncomputable def Aph(K:aC):V->Option Int->Option Int->Hp->VK->Prop:=fun x lo hi H Q=>∃ a xs,x = .ref a/\SqL K H a xs/\∀ p,H p=none->Q (.ref p) (upd H p (.lst (Adv xs lo hi)))
theorem Aix:SlR X (Aph X.K):=by
 intro pins s σ H x v vl vu lo hi sl Q I rx hs pl pu h
 obtain ⟨a,xs,rfl,hx,q⟩:=h
 cases rx
 obtain ⟨its,r,ht,hz⟩:=I.list hx
 have hlen:=r.length
 refine ⟨"list",_,oX.lookup,ht.isList.typeIs,?_⟩
 refine wpAny_getItem_list_slice ht.isList hs pl pu .none (by simp) ?_ (by rw[bK] <;> omega)
 rw[Su,<- hlen]
 refine ⟨.ref s.heap.objs.size,_,I.laid (t':=s.toks) (o:=.lst (Adv xs lo hi)) (fun b ob q=>aF _ q) (bB _) ?_,rfl,q _ (I.hok.fresh (bB _))⟩
 exact ⟨cC (W4 xs lo hi) hz,_,0,(r.drop (HT.sIx xs.length 0 lo)).take (HT.sIx xs.length xs.length hi - HT.sIx xs.length 0 lo),aW _ rfl⟩
theorem CallR.or{f:aE}{r r':List V->Hp->VK->Prop}(h:CallR X f r)(h':CallR X f r'):CallR X f (fun xs H Q=>r xs H Q\/r' xs H Q):=by
 intro pins s σ H xs us Q I rs q
 rcases q with q | q
 ·exact h pins s σ H xs us Q I rs q
 ·exact h' pins s σ H xs us Q I rs q
theorem Gx:CallR X (.type "tuple") (fun xs H Q=>∃ p ys,xs=[.ref p]/\((SqL X.K H p ys/\∀ l,H l=none->Q (.ref l) (upd H l (.tup ys)))\/(SqT X.K H p ys/\Q (.ref p) H))):=by
 intro pins s σ H xs us Q I r h
 obtain ⟨p,ys,rfl,h⟩:=h
 obtain ⟨u,rfl,rx⟩:=Nr r
 cases rx
 rcases h with ⟨hq,q⟩ | ⟨hq,q⟩
 ·obtain ⟨its,r',pl,hz⟩:=I.list hq
  have hlen:=r'.length
  refine call_tuple_list pl.isList (fun h' kp=>?_) (by simp only[bK] <;> omega)
  have I1:Inv X pins σ H { s with heap:=h' }:=I.kept (t':=s.toks) kp
  have I2:Inv X pins σ (upd H h'.objs.size (.tup ys)) { s with heap:=h'.push { cls:=.type "tuple",data:=.seq its.toArray } }:=
   I1.laid (t':=s.toks) (fun b o e=>aF _ e) (bB _) (show ObjOk X.prog X.w _ _ _ (.tup ys) from ⟨hz,its,r',TupN.new _ _⟩)
  exact ⟨.ref h'.objs.size,_,I2,rfl,q _ (I1.hok.fresh (bB _))⟩
 ·obtain ⟨its,r',pl,hz⟩:=I.tuple hq
  exact call_tuple_same pl ⟨.ref p,H,I,rfl,q⟩
noncomputable def tyV(K:aC)(T:String)(x:V)(H:Hp):Prop:=match x with
 | .str _=>T = "str"
 | .int _=>T = "int"
 | .ref p=>(T = "list" /\ ∃ xs,SqL K H p xs)\/(T = "tuple" /\ ∃ xs,SqT K H p xs) \/
   (T = "dict" /\ ((∃ kvs,H p=some (.dK kvs))\/∃ kvs,H p=some (.dT kvs)))\/(T = "set" /\ ∃ S n,H p=some (.set S n))
 | _=>False
theorem Amt{pins:List (Addr×Obj)}{σ:St}{H:Hp}{s:aI}{T:String}{x:V}{v:aE}(I:Inv X pins σ H s)(r:RelV x v)(ty:tyV X.K T x H) :
  s.TypeIs v T/\∀ a,v = .ref a->∃ ob,s.heap.get? a=some ob/\ob.dict=none:=by
 cases x with
 | str z=>
  obtain ⟨t,rfl⟩:=r
  cases (show T = "str" from ty)
  exact ⟨typeIs_str s z t,fun _ e=>nomatch e⟩
 | int i=>
  obtain ⟨t,rfl⟩:=r
  cases (show T = "int" from ty)
  exact ⟨qE s i t,fun _ e=>nomatch e⟩
 | ref p=>
  cases r
  rcases ty with ⟨rfl,xs,hq⟩ | ⟨rfl,xs,hq⟩ | ⟨rfl,hk⟩ | ⟨rfl,S,n,hk⟩
  ·obtain ⟨its,_,pl,_⟩:=I.list hq
   refine ⟨pl.isList.typeIs,fun a e=>?_⟩
   cases e
   obtain ⟨o,n,e,c,hd,_⟩:=pl
   exact ⟨o,e,hd⟩
  ·obtain ⟨its,_,⟨o,ho,hc,_⟩,_⟩:=I.tupleN hq
   obtain ⟨h1,h2⟩:=kS hc
   refine ⟨⟨o,ho,h1⟩,fun a e=>?_⟩
   cases e
   exact ⟨o,ho,h2⟩
  ·have z:∃ o,s.heap.get? p=some o/\o.ExactDict:=by
    rcases hk with ⟨kvs,hk⟩ | ⟨kvs,hk⟩
    ·obtain ⟨_,_,_,_,o,_,_,e,ex,_⟩:=I.hok p _ hk
     exact ⟨o,e,ex⟩
    ·obtain ⟨_,_,_,_,o,_,_,e,ex,_⟩:=I.hok p _ hk
     exact ⟨o,e,ex⟩
   obtain ⟨o,e,ex⟩:=z
   refine ⟨⟨o,e,ex.1⟩,fun a e2=>?_⟩
   cases e2
   exact ⟨o,e,ex.2.1⟩
  ·obtain ⟨o,_,_,_,e,ex,_⟩:=I.hok p _ hk
   refine ⟨⟨o,e,ex.1⟩,fun a e2=>?_⟩
   cases e2
   exact ⟨o,e,ex.2.1⟩
 | _=>exact dJ ty
noncomputable def tBM(K:aC)(T:String)(r:V->List V->Hp->VK->Prop)(to:TE)(t:TA):TE:=fun σ H Q=>to σ H fun x H1=>tyV K T x H1/\t σ H1 fun xs H2=>r x xs H2 Q
variable {o e:Expr}{es:List Expr}{to:TE}{t:TA}{name:Str}{apos cpos:Pos}{T id:String}{r:V->List V->Hp->VK->Prop}
theorem Aqd(pa:PlainAttrs T)(slot:Slot T name id)(hty:typeOf (.builtin id)=pure (.type "method_descriptor"))(hm:MtR X id r)(ho:PE X o to)(ha:PA X (e::es) t)
  (hbase:attributeBase o name X.env (eval o X.env)=eval o X.env:=by rfl)
  (hfew:((backTo cpos (aS (e::es) X.env)).all (fun x=>!x.1)&&(backToKw cpos (keywordEach [] X.env)).all (fun x=>x.1.isSome)
   && decide ((e::es).length+([]:List iP).length+(if ([]:List iP).isEmpty then 0 else 1) < 30))=true:=by rfl)
  (hline:(apos.endLine == cpos.line)=true:=by rfl) (hs:aS (e::es) X.env=(false,eval e X.env)::aS es X.env:=by rfl) (hplain:(backTo cpos (aS es X.env)).any (·.1)=false:=by rfl) :
  PE X (.Call (.Attribute o name apos) (e::es) [] cpos) (tBM X.K T r to t):=by
 intro pins s σ H Q I h
 refine wpAny_Call_method_late hbase hfew hline rfl (thn (ho pins s σ H _ I h) fun v s1 zz=>?_)
 obtain ⟨x,H1,I1,r1,ty,q1⟩:=zz
 obtain ⟨h1,h2⟩:=Amt I1 r1 ty
 refine ⟨T,id,pa,slot,hty,h1,h2,?_⟩
 have hA:=ha cpos pins s1 σ H1 _ I1 q1
 rw[hs] at hA ⊢
 refine dH (by show (false || (backTo cpos (aS es X.env)).any (·.1))=false;rw[hplain] <;> rfl) (jE ?_)
 exact thn hA fun us s2 zz=>by obtain ⟨vs,H2,I2,r2,q2⟩:=zz;exact hm pins s2 σ H2 x vs v us Q I2 r1 r2 q2
end
noncomputable def MtM(X:Cx)(id:String)(r:V->List V->Hp->VK->Prop):Prop:=
 ∀ (pins:List (Addr×Obj)) (s:aI) (σ:St) (H:Hp) (x:V) (xs:List V) (v:aE) (us:List aE) (Q:VK),Inv X pins σ H s->RelV x v->Vals xs us->r x xs H Q ->
  wpAny (model X.prog X.w) X.A (call (.builtin id) (v::us)) (EP X pins σ Q) X.xe s
theorem Vals.one{x:V}{us:List aE}(h:Vals [x] us):∃ u,us=[u]/\RelV x u:=by
 cases h with
 | cons r t=>cases t;exact ⟨_,rfl,r⟩
theorem Vals.two{x y:V}{us:List aE}(h:Vals [x,y] us):∃ u v,us=[u,v]/\RelV x u/\RelV y v:=by
 cases h with
 | cons r t=>obtain ⟨v,rfl,q⟩:=Vals.one t;exact ⟨_,v,rfl,r,q⟩
theorem Vals.eraseIdx{xs:List V}{us:List aE}(i:Nat)(h:Vals xs us):Vals (xs.eraseIdx i) (us.eraseIdx i):=by
 induction h generalizing i with
 | nil=>exact .nil
 | cons r t ih=>
  cases i with
  | zero=>exact t
  | succ i=>exact .cons r (ih i)
theorem Vals.rep{xs:List V}{us:List aE}(h:Vals xs us):∀ k:Nat,Vals (aT k xs).flatten (aT k us).flatten
 | 0=>.nil
 | k+1=>by
  rw[eF,eF,fI,fI]
  exact Vals.append h (Vals.rep h k)
theorem Tu{α:Type}:∀ (l:List α) (i:Nat),(l.eraseIdx i).length<=l.length
 | [],_=>bB _
 | _::_,0=>jD _
 | _::r,i+1=>Nat.succ_le_succ (Tu r i)
theorem Uv(its:List aE):∀ (k:Nat) (acc:List aE),
  qF (fun x1 x2=>x1++x2) acc.toArray (aT k its.toArray)=(acc++(aT k its).flatten).toArray
 | 0,acc=>by simp
 | k+1,acc=>by
  have e:acc.toArray++its.toArray=(acc++its).toArray:=by simp
  have e2:(acc++its)++(aT k its).flatten=acc++(aT (k+1) its).flatten:=by
   rw[eF,fI,cA]
  rw[<- e2,<- Uv its k (acc++its),<- e,eF,List.foldl_cons]
section
variable {X:Cx}{pins:List (Addr×Obj)}{σ:St}{H:Hp}{s:aI}{l b:Addr}{xs ys zs:List V}
theorem Inv.lset{its its':List aE}{n:Nat}{f:Array aE->Array aE}{t':Nat}(I:Inv X pins σ H s)(hH:H l=some (.lst xs))
  (e:s.heap.get? l=some { cls:=.type "list",data:=.seq its.toArray n }) (hf:f its.toArray=its'.toArray) (hv:Vals ys its') (hz:ys.length<=sizeLine) :
  Inv X pins σ (upd H l (.lst ys)) { s with heap:=s.heap.update l (fS f),toks:=t' }:=by
 have q:=PySem.IsL.update e f
 rw[hf] at q
 refine I.write (x:=l) (e:=l) (by rw[hH];exact trivial) (.inl rfl) (fun b' u hb hu=>(cM s.heap (fS f) (cR hb)).trans hu) ⟨_,q⟩ ?_
 exact ⟨hz,its',_,hv,q⟩
theorem Inv.lnew{its:List aE}{t':Nat}(I:Inv X pins σ H s)(hv:Vals ys its)(hz:ys.length<=sizeLine) :
  Inv X pins σ (upd H s.heap.objs.size (.lst ys)) { s with heap:=s.heap.push { cls:=.type "list",data:=.seq its.toArray },toks:=t' }:=
 I.laid (fun _ _ q=>aF _ q) (bB _) ⟨hz,its,0,hv,aW _ rfl⟩
theorem Inv.fresh(I:Inv X pins σ H s):H s.heap.objs.size=none:=I.hok.fresh (bB _)
theorem Inv.lstM(I:Inv X pins σ H s)(hH:H l=some (.lst xs)):xs.length<=sizeLine/\∃ (its:List aE) (n:Nat),Vals xs its/\xs.length=its.length/\s.heap.get? l=some { cls:=.type "list",data:=.seq its.toArray n }:=by
 obtain ⟨z,its,n,r,e⟩:=I.hok l _ hH
 exact ⟨z,its,n,r,r.length,e⟩
theorem Ahy{n:Nat}(h:n<=sizeLine):hG n=false:=by
 unfold hG
 exact decide_eq_false (by omega)
end
section
variable {X:Cx}
noncomputable def Aci:V->List V->Hp->VK->Prop:=fun x vs H Q=>∃ l xs y,x = .ref l/\vs=[y]/\H l=some (.lst xs)/\xs.length < sizeLine/\Q .non (upd H l (.lst (xs++[y])))
theorem Uq:MtM X "list.append" Aci:=by
 intro pins s σ H x vs v us Q I rx rv h
 obtain ⟨l,xs,y,rfl,rfl,hH,hz,q⟩:=h
 cases rx
 obtain ⟨u,rfl,ru⟩:=rv.one
 obtain ⟨z,its,n,r,hl,e⟩:=I.lstM hH
 refine oE F.slot_list_append ⟨_,e,rfl⟩ F.entry_list_append (F.args_list_append_2 _ _) (PySem.list_append l its.toArray n u (by rw[bK];omega)) ⟨e,?_⟩
 refine ⟨.non,_,I.lset (its':=its++[u]) hH e (by simp) (r.append (.cons ru .nil)) ?_,rfl,q⟩
 rw[cG,List.length_singleton]
 omega
inductive rPop  (x:V) (vs:List V) (H:Hp) (Q:VK):Prop
 | mk (l:_) (xs:_) (y:_) (h0:x = .ref l) (h1:vs=[]) (h2:H l=some (.lst xs)) (h3:xs[xs.length - 1]? = some y) (h4:Q y (upd H l (.lst xs.dropLast))):rPop  x vs H Q
inductive rPopAt  (x:V) (vs:List V) (H:Hp) (Q:VK):Prop
 | mk (l:_) (xs:_) (i:_) (k:_) (y:_) (h0:x = .ref l) (h1:vs=[.int i]) (h2:H l=some (.lst xs)) (h3:-(2 ^ 63)<=i) (h4:i < 2 ^ 63) (h5:seqIndex? i xs.length=some k) (h6:xs[k]? = some y) (h7:Q y (upd H l (.lst (xs.eraseIdx k)))):rPopAt  x vs H Q
theorem Agj:MtM X "list.pop" rPopAt:=by
 intro pins s σ H x vs v us Q I rx rv h
 obtain ⟨l,xs,i,k,y,rfl,rfl,hH,h1,h2,hk,hy,q⟩:=h
 cases rx
 obtain ⟨u,rfl,ru⟩:=rv.one
 obtain ⟨t,rfl⟩:=ru
 obtain ⟨z,its,n,r,hl,e⟩:=I.lstM hH
 obtain ⟨w,hw,rw'⟩:=r.get hy
 refine oE F.slot_list_pop ⟨_,e,rfl⟩ F.entry_list_pop (F.args_list_pop_2 _ _)
  (MeetsSeq.list_pop_at l its.toArray n i t k w (fitsIndex_both h1 h2) (by rw[bK,<- hl];exact hk) (by rw[<- mU];exact hw) (by rw[bK];omega)) ⟨e,?_⟩
 refine ⟨y,_,I.lset (its':=its.eraseIdx k) hH e ?_ (r.eraseIdx k) ?_,rw',q⟩
 ·show its.toArray.eraseIdxIfInBounds k=(its.eraseIdx k).toArray
  rw[List.eraseIdxIfInBounds_toArray]
 ·have:=Tu xs k
  omega
inductive rCat  (x y:V) (H:Hp) (Q:VK):Prop
 | mk (l:_) (b:_) (xs:_) (zs:_) (h0:x = .ref l) (h1:y = .ref b) (h2:H l=some (.lst xs)) (h3:H b=some (.lst zs)) (h4:xs.length+zs.length<=sizeLine) (h5:∀ p,H p=none->Q (.ref p) (upd H p (.lst (xs++zs)))):rCat  x y H Q
theorem Am6:OpR X (eL .Add) rCat:=by
 intro pins s σ H x y v u Q I rx ry h
 obtain ⟨l,b,xs,zs,rfl,rfl,hH,hB,hz,q⟩:=h
 cases rx
 cases ry
 obtain ⟨z,its,n,r,hl,e⟩:=I.lstM hH
 obtain ⟨z2,its2,n2,r2,hl2,e2⟩:=I.lstM hB
 refine PySem.P.add_list e e2 ?_ (by rw[bK,bK];omega)
 have ea:its.toArray++its2.toArray=(its++its2).toArray:=by simp
 rw[ea]
 exact ⟨.ref _,_,I.lnew (t':=s.toks) (r.append r2) (by rw[cG];omega),rfl,q _ I.fresh⟩
inductive rRep  (x y:V) (H:Hp) (Q:VK):Prop
 | mk (l:_) (k:_) (xs:_) (h0:x = .ref l) (h1:y = .int k) (h2:H l=some (.lst xs)) (h3:-(2 ^ 63)<=k) (h4:k < 2 ^ 63) (h5:xs.length * k.toNat<=sizeLine) (h6:∀ p,H p=none->Q (.ref p) (upd H p (.lst (aT k.toNat xs).flatten))):rRep  x y H Q
theorem Aj1{α:Type}(xs:List α)(k:Nat):(aT k xs).flatten.length=k * xs.length:=by
 induction k with
 | zero=>simp
 | succ k ih=>rw[eF,fI,cG,ih,Nat.succ_mul,Nat.add_comm]
theorem Amm:OpR X (eL .Mult) rRep:=by
 intro pins s σ H x y v u Q I rx ry h
 obtain ⟨l,k,xs,rfl,rfl,hH,h1,h2,hz,q⟩:=h
 cases rx
 obtain ⟨t,rfl⟩:=ry
 obtain ⟨z,its,n,r,hl,e⟩:=I.lstM hH
 have hlen:its.toArray.size * k.toNat<=sizeLine:=by rw[bK,<- hl];exact hz
 have hcap:¬ its.toArray.size * k.toNat > (2 ^ 63 - 1) / 8:=by
  have:(sizeLine:Nat)<=(2 ^ 63 - 1) / 8:=by decide
  omega
 have hfit:¬ (!Builtin.List.listFitsIndex k)=true:=by
  rw[fitsIndex_both h1 h2]
  exact eW
 have hlong:¬ hG (its.toArray.size * k.toNat)=true:=by
  rw[Ahy hlen]
  exact eW
 have hnew:qF (fun x1 x2=>x1++x2) #[] (aT (if its.toArray.isEmpty=true then 0 else k.toNat) its.toArray)=(aT k.toNat its).flatten.toArray:=by
  have f0:∀ m:Nat,qF (fun x1 x2=>x1++x2) #[] (aT m its.toArray)=(aT m its).flatten.toArray:=fun m=>by
   have:=Uv its m []
   rw[dS] at this
   exact this
  rw[f0]
  cases its with
  | nil=>simp
  | cons a r'=>rw[if_neg (by simp)]
 refine wpAny_binaryOp_repeat_ref (T := "list") (U := "int") (by decide) ⟨_,e,rfl⟩ (fun s'=>qE s' k t) noFill_list_mul F.fills_int_mul pT repeat_list F.slot_int_index.lookup
  (oE pT (qE s k t) F.entry_int_rmul (F.args_int_rmul_2 _ _) (int___rmul___int_list k t l its.toArray n)
   ⟨e,rfl,⟨_,e,rfl⟩,oE F.slot_list_mul ⟨_,e,rfl⟩ F.entry_list_mul (F.args_list_mul_2 _ _) (AutoListH.list___mul___list_int_3 l its.toArray n k t hfit hcap hlong) ⟨e,?_⟩⟩)
 rw[hnew]
 exact ⟨.ref _,_,I.lnew (t':=s.toks) (r.rep k.toNat) (by rw[Aj1,Nat.mul_comm];exact hz),rfl,q _ I.fresh⟩
end
section
variable {prog:bN}{w:bW}{A:cK}{E:aE->aI->Prop}{s:aI}
end
section
variable {X:Cx}
end
end L2
namespace Att
open PySem PySem.W PySem.Calls PyProof.Rows
theorem P2{P:nB}{h:Heap}:∀ (ns:List Int) (vs:List aE),WellAll P h vs (ns.map WData.int)->mJ vs ns:=by
 intro ns
 induction ns with
 | nil=>
  intro vs w
  rw[bL] at w
  cases w
  exact .nil
 | cons n ns ih=>
  intro vs w
  rw[aP] at w
  cases w with
  | cons a b=>
   cases a
   exact .cons _ _ (ih _ b)
theorem Ae0{l:jF}{n:Nat}(hn:l.most=some n){P:nB}{h:Heap}{args:List WData}{vals:List aE}
  (hpre:l.row.toRowW.claim.pre args=true) (hwl:WellAll P h vals args) :
  ∃ a vs ns,vals=[bE a]/\args=[WData.list (ns.map WData.int)]/\h.get? a=some { cls:=.type "list",data:=.seq vs.toArray }/\mJ vs ns/\ns.length<=n:=by
 have hsh:WShape.hasAll [] args [.list .int]=true:=(pre_splitW hpre).1
 have hc:l.pre.holds [] { args:=args } = true:=(pre_splitW hpre).2
 obtain ⟨d,r,rfl,h1,h2⟩:=hasAllW_cons hsh
 obtain rfl:=hasAllW_nil h2
 obtain ⟨xs,rfl,h3⟩:=hasW_list h1
 obtain ⟨ns,rfl⟩:=items_int h3
 have hlen:ns.length<=n:=by
  unfold jF.pre at hc
  have h4:(WTm.not (.lt (.lit (.int (n:Int))) (.len (.arg 0)))).holds [] { args:=[.list (ns.map .int)] } = true:=by
   have h4:=(holds_andW hc).1
   rw[hn] at h4
   exact h4
  have h5:=condW_of h4 (w_not (w_lt w_lit (w_len_list (w_arg rfl))))
  rw[bF] at h5
  refine Nat.le_of_not_lt fun q=>?_
  have q':(n:Int) < ((ns.length:Nat):Int):=by omega
  first
   | (rw[decide_eq_true q'] at h5;exact absurd h5 (by decide))
   | (simp at h5;omega)
 cases hwl with
 | cons w1 w2=>
  cases w2
  cases w1 with
  | list ho hall=>exact ⟨_,_,ns,rfl,rfl,ho,P2 ns _ hall,hlen⟩
theorem Aec(l:jF)(args:List WData):l.row.toRowW.claim.post args (.bool true) args=true:=
 postW_of (r:=l.row.toRowW) (X:=(true == true))
  (show rK [] (.bool true) .bool=true by first | rfl | decide | simp[rK,WShape.arms,WShape.armsAll])
  (show (WTm.eq .res (.lit (.bool true))).value [] { args:=args,res:=some (.bool true),after:=args } = some (.bool (true == true)) from w_eq_bool (w_res rfl) w_lit) rfl
theorem Xn{l:jF}{n:Nat}{q:bN}{loose:List Str}{XP:(Str->Option aE)->Heap->Prop}{YP:bW->Heap->Prop}{d:DefRec}
  (hn:l.most=some n) (hdf:d.params.defaults=[])
  (call:∀ (w:bW) (s₀ s₁:aI) (mg mb:Str->Option aE) (fa:Addr) (o:Obj) (pm cd doc:aE) (a:Addr) (vs:List aE) (ns:List Int),
   Ground q loose [] XP w s₀ mg mb s₁.heap->YP w s₁.heap ->
   s₁.heap.get? fa=some o->o.data = .func (docDef d.name d.params d.body d.scope pm cd doc)->s₁.heap.CodeRec cd d.name->mg d.name=some (.ref fa) ->
   s₁.heap.get? a=some { cls:=.type "list",data:=.seq vs.toArray }->mJ vs ns->ns.length<=n->s₁.gens=#[] ->
   jC (model l.prog w) callerA (.call (.ref fa) ⟨[.ref a],[]⟩) (fun r s'=>r = .ok (.ret (.bool true))/\OldK s₁.heap s'.heap/\s'.os=s₁.os/\jX s'.gens) s₁) :
  WalkO q loose XP YP l.row.toRowW d [] (fun f vs=>qG f vs):=by
 intro w s₀ s₁ mg mb G Y fa o pm cd doc dV kV ho hd hcd hD hmg hg args vals as hpre hlay hrd hwl hlo
 obtain rfl:dV = .none:=Dflts.none hD hdf
 obtain rfl:kV = .none:=Dflts.noKw hD
 obtain ⟨a,vs,ns,rfl,rfl,hobj,hints,hlen⟩:=Ae0 hn hpre hwl
 refine enter_call (iO (call w s₀ s₁ mg mb fa o pm cd doc a vs ns G Y ho (fd_plain hd) hcd hmg hobj hints hlen hg) fun r s' hq=>?_)
 obtain ⟨rfl,h2,h3,h4⟩:=hq
 exact ⟨.inl ⟨.bool true,.bool true,[],rfl,fun _=>rfl,.bool true,Aec l _,fun _=>⟨List.Pairwise.nil,fun _ hm=>(nomatch hm)⟩⟩,h2,h3,h4⟩
section
variable {prog:bN}{w:bW}{A:cK}{E:aE->aI->Prop}{s:aI}{K:Frag}
end
end Att
namespace L2
open PySem PySem.Spec PyProof.Rows
theorem Adl{vs:List aE}{ns:List Int}(h:mJ vs ns):Vals (ns.map V.int) vs:=by
 induction h with
 | nil=>exact .nil
 | cons n t h ih=>exact .cons ⟨t,rfl⟩ ih
noncomputable def Akq(H:Hp):Prop:=∀ b,H b=none\/∃ o xs,H b=some (.frz o (.lst xs))
theorem Ag9{P:bN}{w:bW}{K:aC}{mg mb:Str->Option aE}{CX:CXT}{k:Nat}{fa a:Addr}{fd:bM}{x:Str}{sp:Sp}{s₁:aI}{vs:List aE}{ns:List Int}
  (KX:K.In s₁.heap) (hns:s₁.heap.Ns aN mg) (hb:s₁.heap.Ns nY mb) (hbb:∀ x:Str,x ≠ "__name__" -> mb x=eC x) (hlim:s₁.heap.NoLimit) (hg:s₁.gens=#[])
  (ha:s₁.heap.get? a=some { cls:=.type "list",data:=.seq vs.toArray }) (hi:mJ vs ns) (hl:ns.length<=sizeLine) (hr:Room k callerA)
  (F:∀ base:Heap,K.In base->base.Ns aN mg->FnOk P w K mg base CX k fa fd [x] sp) (hbind:∀ (s:aI) (u:aE),lB s fd ⟨[u],[]⟩ [(x,u)])
  (hsp:∀ H:Hp,Akq H->SqL K H a (ns.map V.int)->sp [.ref a] H (fun v _=>v = .bl true) fun _ _ _=>False)
  (hCX:∀ H e s',CX [] H s₁ (fun _ _ _=>False) e s'->False) :
  jC (model P w) callerA (.call (.ref fa) ⟨[.ref a],[]⟩) (fun r s'=>r = .ok (.ret (.bool true))/\OldK s₁.heap s'.heap/\s'.os=s₁.os/\jX s'.gens) s₁:=by
 have rv:=Adl hi
 have lenV:=hi.length
 have core:∀ H:Hp,Akq H->SqL K H a (ns.map V.int)->HOk P w H s₁.heap->(∀ b,H b≠none->b=a)->(H a≠none->K.lookup a=none) ->
   jC (model P w) callerA (.call (.ref fa) ⟨[.ref a],[]⟩) (fun r s'=>r = .ok (.ret (.bool true))/\OldK s₁.heap s'.heap/\s'.os=s₁.os/\jX s'.gens) s₁:=by
  intro H hO hS hok hA hK
  have base_of:∀ {b:Addr} {o:Obj},s₁.heap.get? b=some o->H b=none->(Vw s₁.heap H).get? b=some o:=fun e n=>Agw e n
  have noA:∀ {b:Addr} {o:Obj} {es:Array DictEntry} {ep:Nat},s₁.heap.get? b=some o->o.data = .dict es ep->H b=none:=fun {b o es ep} e d=>by
   cases q:H b with
   | none=>rfl
   | some u=>
    have e':b=a:=hA b (by rw[q];simp)
    subst e'
    rw[ha] at e;cases e
    have d':Data.seq vs.toArray _=Data.dict es ep:=d
    cases d'
  have nsK:∀ {b:Addr} {m:Str->Option aE},s₁.heap.Ns b m->(Vw s₁.heap H).Ns b m:=fun {b m} ⟨o,es,ep,e,d,r⟩=>⟨o,es,ep,base_of e (noA e d),d,r⟩
  have hKb:K.In (Vw s₁.heap H):=fun b o e=>base_of (KX b o e) (by
   cases q:H b with
   | none=>rfl
   | some u=>
    have e':b=a:=hA b (by rw[q];simp)
    subst e'
    rw[hK (by rw[q];simp)] at e;cases e)
  have hM:Mod K mg (Vw s₁.heap H):=⟨hKb,nsK hns,⟨mb,nsK hb,hbb⟩,let ⟨mc,h1,h2⟩:=hlim;⟨mc,nsK h1,h2⟩⟩
  have e0:Env0 P w K mg (Vw s₁.heap H) callerA [] s₁ H:=⟨rfl,hM,fun b o e=>Alf e,oP (Adj _ _),trivial,fun b hb=>absurd (show b∈([]:List Addr) from hb) (by simp),hok,.of_eq hg⟩
  refine iO ((F _ hKb (nsK hns)).run callerA [] s₁ H ⟨[.ref a],[]⟩ [.ref a] [.ref a] _ _ hr e0 (hbind s₁ (.ref a)) (.cons rfl .nil) (hsp H hO hS)) fun r s' h=>?_
  cases r with
  | error e=>exact (hCX H e s' h).elim
  | ok fl=>
   cases fl with
   | next=>exact dJ h
   | brk=>exact dJ h
   | cont=>exact dJ h
   | ret u=>
    obtain ⟨v,H',os,bare,un,hok',r',q⟩:=h
    have q':v = .bl true:=q
    subst q'
    obtain rfl:u=nX true:=r'
    refine ⟨rfl,OldK.of_keep fun b o e=>?_,os,bare⟩
    cases q:H b with
    | none=>exact un.keep b o e q (by intro z;exact absurd (show b∈([]:List Addr) from z) (by simp)) (by simp)
    | some u=>
     rcases hO b with z | ⟨ob,xs,z⟩
     ·rw[q] at z;cases z
     ·have z2:=un.frzs b ob _ z
      obtain ⟨e1,_⟩:=hok b _ z
      obtain ⟨e2,_⟩:=hok' b _ z2
      rw[e] at e1;cases e1
      exact e2
 cases hk:K.lookup a with
 | some o=>
  have e:=KX a o hk
  rw[ha] at e
  cases e
  refine core (fun _=>none) (fun _=>.inl rfl) (.inr ⟨_,vs.toArray,_,hk,rfl,rfl,rfl,by rw[bK,lenV];exact hl,by simpa using rv⟩) (fun b u z=>by have z':(none:Option HO)=some u:=z;cases z') (fun b z=>absurd rfl z) fun z=>absurd rfl z
 | none=>
  refine core (fun b=>if b=a then some (.frz { cls:=.type "list",data:=.seq vs.toArray } (.lst (ns.map V.int))) else none) (fun b=>?_) (.inl (.inr ⟨{ cls:=.type "list",data:=.seq vs.toArray },if_pos rfl⟩)) (fun b u z=>?_) (fun b z=>?_) fun _=>hk
  ·by_cases hb:b=a
   ·exact .inr ⟨_,_,if_pos hb⟩
   ·exact .inl (if_neg hb)
  ·by_cases hb:b=a
   ·have z':=(if_pos hb).symm.trans z
    cases z'
    subst hb
    exact ⟨ha,by rw[bF];exact hl,vs,_,rv,ha⟩
   ·have z':=(if_neg hb).symm.trans z
    cases z'
  ·by_cases hb:b=a
   ·exact hb
   ·exact absurd (if_neg hb) z
theorem Ak6{l:jF}{n k:Nat}{q:bN}{loose:List Str}{XP:(Str->Option aE)->Heap->Prop}{YP:bW->Heap->Prop}{d:DefRec}{K:nB->aC}{CX:bW->CXT}{sp:bW->Sp}{x:Str}
  (hn:l.most=some n) (hn2:n<=sizeLine) (hdf:d.params.defaults=[]) (hr:Room k callerA)
  (hY:∀ (w:bW) (h:Heap),YP w h->(K w.params).In h)
  (F:∀ (w:bW) (mg:Str->Option aE) (fa:Addr) (h:Heap),(K w.params).In h->h.Ns aN mg->mg d.name=some (.ref fa) ->
   ∃ fd:bM,(∀ (s:aI) (u:aE),lB s fd ⟨[u],[]⟩ [(x,u)]) /\
    ∀ base:Heap,(K w.params).In base->base.Ns aN mg->FnOk l.prog w (K w.params) mg base (CX w) k fa fd [x] (sp w))
  (hsp:∀ (w:bW) (H:Hp) (a:Addr) (ns:List Int),ns.length<=n->Akq H->SqL (K w.params) H a (ns.map V.int)->sp w [.ref a] H (fun v _=>v = .bl true) fun _ _ _=>False)
  (hCX:∀ (w:bW) (H:Hp) (s:aI) (e:aE) (s':aI),CX w [] H s (fun _ _ _=>False) e s'->False) :
  qP q loose XP YP l.row.toRowW d [] (fun f vs=>qG f vs):=by
 refine Att.Xn hn hdf fun w s₀ s₁ mg mb fa o pm cd doc a vs ns G Y ho hd hcd hmg hobj hints hlen hg=>?_
 have KX:=hY w _ Y
 obtain ⟨fd,hb,hF⟩:=F w mg fa _ KX G.T.g hmg
 exact Ag9 KX G.T.g G.T.b G.T.builtins G.T.nolimit hg hobj hints (cC hlen hn2) hr hF hb (fun H hO hS=>hsp w H a ns hlen hO hS) fun H e s'=>hCX w H s₁ e s'
noncomputable def Az(s:Stmt)(j:Nat):Stmt:=match s with
 | .ClassDef _ _ _ body _ _ _ _ _ _ _=>body.getD j (.Pass ⟨0,0,0,0⟩)
 | _=>.Pass ⟨0,0,0,0⟩
noncomputable def Ba(s:Stmt):Arguments:=match s with
 | .FunctionDef _ a _ _ _ _ _ _ _ _=>a
 | _=>{ posonlyargs:=[],args:=[],vararg:=none,kwonlyargs:=[],kw_defaults:=[],kwarg:=none,defaults:=[] }
noncomputable def A0(s:Stmt):List Stmt:=match s with
 | .FunctionDef _ _ b _ _ _ _ _ _ _=>b
 | _=>[]
noncomputable def Ak(s:Stmt):iK:=match s with
 | .FunctionDef _ _ _ _ _ _ sc _ _ _=>sc
 | _=>{ kind:=.function,names:=[],isGenerator:=false,isCoroutine:=false }
abbrev CX0:CXT:=fun _ _ _ _ _ _=>False
abbrev E0:XK:=fun _ _ _=>False
theorem Ach{X:Cx}:M8 CX0 X E0:=fun _ _ _ _ _ _ _ h=>h.elim
inductive FunE(K:aC)(x qual:Str)(st:Stmt)(f:Addr)(fd:bM):Prop
 | mk (oc:aE) (od:Option Addr) (kV doc pm:aE) (an:Option Addr) (cdv ct:aE) (osl:Array (Option aE)) (h0:fd=bH x qual (Ba st) (A0 st) (Ak st) .none kV doc pm an cdv ct) (h1:K.lookup f=some ⟨oc,od,.func fd,osl⟩) (h2:bC K cdv qual=true):FunE K x qual st f fd
structure Fun(K:aC)(x qual:Str)(st:Stmt)(f:Addr)(fd:bM):Prop where
 ex:FunE K x qual st f fd
 kp:aZ K (.ref f)=true
section
variable {P:bN}{w:bW}{K:aC}{mg:Str->Option aE}{base:Heap}
theorem Fun.ok{x qual:Str}{st:Stmt}{f:Addr}{fd:bM}{N ps:List Str}{k:Nat}{sp:Sp}(F:Fun K x qual st f fd)(S:FnScope N ps (Ak st))(len:∀ vs H Q E,sp vs H Q E->vs.length=ps.length)
  (hbody:∀ (cdv:aE) (A:cK) (outer:List Env) (s:aI) (H:Hp) (vs:List V) (Q:VK) (E:XK),Room k (A.deeper (envOfC qual (Ak st) s.heap.objs.size f cdv))->sp vs H Q E ->
   ∃ t,PSs (Vu CX0 P w K mg base N qual (Ak st) f cdv A outer s H E).nox (A0 st) t/\t { nx:=fun _ H'=>Q .non H',rt:=Q } (start N vs) H):FnOk P w K mg base CX0 (k+1) f fd ps sp:=by
 obtain ⟨oc,od,kV,doc,pm,an,cdv,ct,osl,rfl,lk,hcd⟩:=F.ex
 refine Aop lk hcd S len fun A outer s H vs Q E hr hsp=>?_
 obtain ⟨t,h,q⟩:=hbody cdv A outer s H vs Q E hr hsp
 exact ⟨t,h.nox,q⟩
theorem Fun.binds{x qual:Str}{st:Stmt}{f:Addr}{fd:bM}{ps:List Str}(F:Fun K x qual st f fd)
  (h:∀ (kV doc pm:aE) (an:Option Addr) (cdv ct:aE) (us:List aE),us.length=ps.length->bindArgs (bH x qual (Ba st) (A0 st) (Ak st) .none kV doc pm an cdv ct) ⟨us,[]⟩=pure (ps.zip us)):Binds K fd ps []:=by
 obtain ⟨oc,od,kV,doc,pm,an,cdv,ct,osl,rfl,lk,hcd⟩:=F.ex
 exact .all (h kV doc pm an cdv ct)
theorem B5{x qual:Str}{st:Stmt}{f:Addr}{oc:aE}{od an:Option Addr}{osl:Array (Option aE)}{kV doc pm cdv ct:aE}(l:K.lookup f=some ⟨oc,od,.func (bH x qual (Ba st) (A0 st) (Ak st) .none kV doc pm an cdv ct),osl⟩)
  (c:bC K cdv qual=true) (k:aZ K (.ref f)=true):Fun K x qual st f (bH x qual (Ba st) (A0 st) (Ak st) .none kV doc pm an cdv ct):=⟨⟨oc,od,kV,doc,pm,an,cdv,ct,osl,rfl,l,c⟩,k⟩
end
theorem Ux{n:Nat}(h:n<=1000):n < sizeLine:=kI h (by decide)
section
variable {X:Cx}
end
theorem Adx{A B:Prop}(h:B):if false=true then A else B:=by
 rw[if_neg eW]
 exact h
theorem Aed{A B:Prop}(h:A):if true=true then A else B:=by
 rw[if_pos rfl]
 exact h
section
variable {κ:Type}[DecidableEq κ]
noncomputable def Ml(kvs:List (κ×V))(k:κ):Option V:=(kvs.find? fun kv=>decide (kv.1=k)).map (·.2)
noncomputable def Oy(kvs:List (κ×V))(k:κ)(v:V):List (κ×V):=
 if (kvs.any fun kv=>decide (kv.1=k))=true then kvs.map (fun kv=>if kv.1=k then (kv.1,v) else kv) else kvs++[(k,v)]
noncomputable def Qj(kvs:List (κ×V))(k:κ):List (κ×V):=kvs.filter fun kv=>decide (kv.1≠k)
theorem R1{p:κ×V}{r:List (κ×V)}{k:κ}(e:p.1=k):Ml (p::r) k=some p.2:=by simp[Ml,eQ,e]
theorem Rn{p:κ×V}{r:List (κ×V)}{k:κ}(e:¬ p.1=k):Ml (p::r) k=Ml r k:=by simp[Ml,eQ,e]
theorem Q5(k:κ):∀ kvs:List (κ×V),(kvs.any fun kv=>decide (kv.1=k))=(Ml kvs k).isSome
 | []=>rfl
 | p::r=>by
  rw[eU]
  by_cases e:p.1=k
  ·simp only[R1 e,decide_eq_true e,Bool.true_or,Option.isSome_some]
  ·rw[Rn e,decide_eq_false e,qQ];exact Q5 k r
theorem Po(kvs:List (κ×V))(k:κ)(v:V):(Oy kvs k v).length<=kvs.length+1:=by
 unfold Oy
 split
 ·rw[bF];omega
 ·rw[cG,aL,aM];omega
theorem RelO.isSome_eq{o:Option V}{u:Option aE}(r:RelO o u):o.isSome=u.isSome:=by
 cases o with
 | none=>cases u with
  | none=>rfl
  | some _=>exact (show False from r).elim
 | some _=>cases u with
  | none=>exact (show False from r).elim
  | some _=>rfl
theorem KV.val{kvs:List (κ×V)}{vs:List (κ×aE)}(r:KV kvs vs)(k:κ):RelO (Ml kvs k) (valueAt vs k):=by
 unfold KV at r
 induction r with
 | nil=>exact dX
 | @cons p q ps qs h t ih=>
  obtain ⟨h1,h2⟩:=h
  by_cases e:p.1=k
  ·have e':q.1=k:=h1.symm.trans e
   have b:valueAt (q::qs) k=some q.2:=by simp[valueAt,eQ,e']
   rw[R1 e,b];exact h2
  ·have e':¬ q.1=k:=fun z=>e (h1.trans z)
   have b:valueAt (q::qs) k=valueAt qs k:=by simp[valueAt,eQ,e']
   rw[Rn e,b];exact ih
theorem KV.any{kvs:List (κ×V)}{vs:List (κ×aE)}(r:KV kvs vs)(k:κ):(kvs.any fun kv=>decide (kv.1=k))=vs.any fun kv=>decide (kv.1=k):=by
 unfold KV at r
 induction r with
 | nil=>rfl
 | cons h t ih=>rw[eU,eU,ih,h.1]
theorem KV.repl{kvs:List (κ×V)}{vs:List (κ×aE)}(r:KV kvs vs)(k:κ){y:V}{u:aE}(ry:RelV y u) :
  KV (kvs.map fun kv=>if kv.1=k then (kv.1,y) else kv) (vs.map fun kv=>if kv.1=k then (kv.1,u) else kv):=by
 unfold KV at r ⊢
 induction r with
 | nil=>exact .nil
 | @cons p q ps qs h t ih=>
  rw[aP,aP]
  refine .cons ?_ ih
  obtain ⟨h1,h2⟩:=h
  by_cases e:p.1=k
  ·rw[if_pos e,if_pos (h1.symm.trans e)];exact ⟨h1,ry⟩
  ·rw[if_neg e,if_neg (fun z=>e (h1.trans z))];exact ⟨h1,h2⟩
theorem KV.put{kvs:List (κ×V)}{vs:List (κ×aE)}(r:KV kvs vs)(k:κ){y:V}{u:aE}(ry:RelV y u):KV (Oy kvs k y) (stored vs k u):=by
 unfold Oy stored
 rw[r.any k]
 by_cases e:(vs.any fun kv=>decide (kv.1=k))=true
 ·rw[if_pos e,if_pos e];exact r.repl k ry
 ·rw[if_neg e,if_neg e];exact rG r ⟨rfl,ry⟩
theorem KV.drop{kvs:List (κ×V)}{vs:List (κ×aE)}(r:KV kvs vs)(k:κ):KV (Qj kvs k) (without vs k):=by
 unfold KV at r ⊢
 unfold Qj without
 induction r with
 | nil=>exact .nil
 | @cons p q ps qs h t ih=>
  obtain ⟨h1,h2⟩:=h
  rw[eV,eV]
  by_cases e:p.1=k
  ·have a:¬ decide (p.1≠k)=true:=by simp[e]
   have b:¬ decide (q.1≠k)=true:=by simp[h1.symm.trans e]
   rw[if_neg a,if_neg b];exact ih
  ·have e':¬ q.1=k:=fun z=>e (h1.trans z)
   have a:decide (p.1≠k)=true:=by simp[e]
   have b:decide (q.1≠k)=true:=by simp[e']
   rw[if_pos a,if_pos b];exact .cons ⟨h1,h2⟩ ih
theorem KV.length{kvs:List (κ×V)}{vs:List (κ×aE)}(r:KV kvs vs):kvs.length=vs.length:=lL r
theorem Ahn(kvs:List (κ×V))(k:κ):(Qj kvs k).length<=kvs.length:=iW _ _
end
theorem Yu{P:bN}{w:bW}{k:Key}{u:aE}(r:RelV (kV k) u):(Co P w).is k u=true:=by
 cases k with
 | inl i=>obtain ⟨t,e⟩:=(show ∃ t,u=mB i t from r);subst e;exact Wt P w i t
 | inr x=>obtain ⟨t,e⟩:=(show ∃ t,u=mC x t from r);subst e;exact Xh P w x t
theorem Tz{P:bN}{w:bW}:∀ {ks:List Key} {us:List aE},Vals (ks.map kV) us->ItemsAre (Co P w) ks us
 | [],_,r=>by rw[bL] at r;cases r;exact .nil
 | k::ks,_,r=>by
  rw[aP] at r
  cases r with
  | cons h t=>exact .cons (Yu h) (Tz t)
abbrev KT(H:Hp):List (List Key×V)->List (List Key×Addr×aE)->Prop:=qB fun p q=>p.1=q.1/\H q.2.1=some (.tup (p.1.map kV))/\RelV p.2 q.2.2
theorem KT.val{H:Hp}{kvs:List (List Key×V)}{xs:List (List Key×Addr×aE)}(r:KT H kvs xs)(k:List Key):RelO (Ml kvs k) ((atKey xs k).map (·.2)):=by
 induction r with
 | nil=>exact dX
 | @cons p q ps qs h t ih=>
  obtain ⟨h1,_,h2⟩:=h
  by_cases e:p.1=k
  ·have e':q.1=k:=h1.symm.trans e
   have b:atKey (q::qs) k=some q.2:=by simp[atKey,eQ,e']
   rw[R1 e,b];exact h2
  ·have e':¬ q.1=k:=fun z=>e (h1.trans z)
   have b:atKey (q::qs) k=atKey qs k:=by simp[atKey,eQ,e']
   rw[Rn e,b];exact ih
theorem KT.repl{H:Hp}{kvs:List (List Key×V)}{xs:List (List Key×Addr×aE)}(r:KT H kvs xs)(k:List Key){y:V}{u:aE}(ry:RelV y u) :
  KT H (kvs.map fun kv=>if kv.1=k then (kv.1,y) else kv) (xs.map (putAt k u)):=by
 induction r with
 | nil=>exact .nil
 | @cons p q ps qs h t ih=>
  rw[aP,aP]
  refine .cons ?_ ih
  obtain ⟨h1,h2,h3⟩:=h
  unfold putAt
  by_cases e:p.1=k
  ·rw[if_pos e,if_pos (h1.symm.trans e)];exact ⟨h1,h2,ry⟩
  ·rw[if_neg e,if_neg (fun z=>e (h1.trans z))];exact ⟨h1,h2,h3⟩
theorem KT.put{H:Hp}{kvs:List (List Key×V)}{xs:List (List Key×Addr×aE)}(r:KT H kvs xs)(k:List Key){b:Addr}{y:V}{u:aE}(hb:H b=some (.tup (k.map kV)))(ry:RelV y u) :
  KT H (Oy kvs k y) (storedH xs k b u):=by
 have e:(kvs.any fun kv=>decide (kv.1=k))=(atKey xs k).isSome:=by
  rw[Q5,(r.val k).isSome_eq,gF]
 unfold Oy storedH
 rw[e]
 by_cases q:(atKey xs k).isSome=true
 ·rw[if_pos q,if_pos q];exact r.repl k ry
 ·rw[if_neg q,if_neg q];exact rG r ⟨rfl,hb,ry⟩
theorem KT.keeps{H H':Hp}{kvs:List (List Key×V)}{xs:List (List Key×Addr×aE)}(r:KT H kvs xs)(ht:∀ b ys,H b=some (.tup ys)->H' b=some (.tup ys)):KT H' kvs xs:=
 Paired.mapP r fun _ _ z=>⟨z.1,ht _ _ z.2.1,z.2.2⟩
section
variable {P:bN}{w:bW}{H:Hp}{h:Heap}{a:Addr}
theorem Aly{u:HO}(ok:HOk P w H h)(e:Rd H a u):ObjOk P w H h a u:=e.ok ok
theorem Yv{kvs:List (Key×V)}(ok:HOk P w H h)(e:Rd H a (.dK kvs)):kvs.length<=sizeLine/\(a == sysModules)=false/\∃ vs,KV kvs vs/\h.DictOf (Co P w) a vs:=
 show ObjOk P w H h a (.dK kvs) from Aly ok e
theorem Rx{kvs:List (Key×V)}(ok:HOk P w H h)(e:H a=some (.dK kvs)):kvs.length<=sizeLine/\(a == sysModules)=false/\∃ vs,KV kvs vs/\h.DictOf (Co P w) a vs:=Yv ok (.inl e)
theorem V7{ks:List Key}(ok:HOk P w H h)(e:H a=some (.tup (ks.map kV))):(tupleKind (Co P w)).is h ks a:=by
 obtain ⟨_,its,r,o,h1,h2,n,h3⟩:=(show ObjOk P w H h a (.tup (ks.map kV)) from ok a _ e)
 exact ⟨o,its.toArray,n,h1,(kS h2).1,h3,by simpa using Tz r⟩
theorem Ac7{kvs:List (List Key×V)}(ok:HOk P w H h)(e:Rd H a (.dT kvs)):kvs.length<=sizeLine/\(a == sysModules)=false /\
  ∃ xs,KT H kvs xs/\h.DictOfH (tupleKind (Co P w)) a xs:=by
 obtain ⟨z,y,xs,r,o,es,ep,h1,h2,h3,h4,h5⟩:=(show ObjOk P w H h a (.dT kvs) from Aly ok e)
 refine ⟨z,y,xs,r,o,es,ep,h1,h2,h3,h4,fun x hx=>?_,h5⟩
 have all:∀ {l:List (List Key×V)} {m:List (List Key×Addr×aE)},KT H l m->∀ x∈m,(tupleKind (Co P w)).is h x.1 x.2.1:=by
  intro l m q
  induction q with
  | nil=>intro x hx;exact nomatch hx
  | @cons p q ps qs hq t ih=>
   intro x hx
   rcases cB.mp hx with e | hx
   ·subst e
    exact V7 ok (by rw[<- hq.1];exact hq.2.1)
   ·exact ih x hx
 exact all r x hx
theorem Aoy{kvs:List (List Key×V)}(ok:HOk P w H h)(e:H a=some (.dT kvs)):kvs.length<=sizeLine/\(a == sysModules)=false /\
  ∃ xs,KT H kvs xs/\h.DictOfH (tupleKind (Co P w)) a xs:=Ac7 ok (.inl e)
end
noncomputable def DGet(H:Hp)(a:Addr)(y:V)(r:Option V):Prop:=
 (∃ kvs k,Rd H a (.dK kvs)/\y=kV k/\r=Ml kvs k)\/∃ kvs k b,Rd H a (.dT kvs)/\y = .ref b/\H b=some (.tup (k.map kV))/\r=Ml kvs k
noncomputable def DPut(H:Hp)(a:Addr)(y v:V)(H':Hp):Prop:=
 (∃ kvs k,H a=some (.dK kvs)/\y=kV k/\kvs.length < sizeLine/\H'=upd H a (.dK (Oy kvs k v))) \/
 ∃ kvs k b,H a=some (.dT kvs)/\y = .ref b/\H b=some (.tup (k.map kV))/\kvs.length < sizeLine/\H'=upd H a (.dT (Oy kvs k v))
theorem DGet.k{H:Hp}{a:Addr}{kvs:List (Key×V)}{k:Key}(e:H a=some (.dK kvs)):DGet H a (kV k) (Ml kvs k):=.inl ⟨kvs,k,.inl e,rfl,rfl⟩
theorem DPut.k{H:Hp}{a:Addr}{kvs:List (Key×V)}{k:Key}{v:V}(e:H a=some (.dK kvs))(hl:kvs.length < sizeLine):DPut H a (kV k) v (upd H a (.dK (Oy kvs k v))):=.inl ⟨kvs,k,e,rfl,hl,rfl⟩
section
variable {X:Cx}{pins:List (Addr×Obj)}{σ:St}{H:Hp}{s:aI}{a:Addr}{y v:V}{u r:aE}{o:Option V}{A:cK}{E:aE->aI->Prop}
theorem Inv.big(I:Inv X pins σ H s):sysModules < s.heap.objs.size:=by
 have h:aN < s.heap.objs.size:=(I.mod.glob.keeps I.bk).lt
 exact Nat.lt_trans (by decide) h
theorem Ar6{Q:aE->aI->Prop}(hu:A.units+1 < cLine)(I:Inv X pins σ H s)(g:DGet H a y o)(ry:RelV y u)(h:∀ s',Inv X pins σ H s'->Q (.bool o.isSome) s') :
  wpAny (model X.prog X.w) A (dE .In u (.ref a)) Q E s:=by
 rcases g with ⟨kvs,k,e,ey,l⟩ | ⟨kvs,k,b,e,ey,eb,l⟩
 ·subst ey
  obtain ⟨z,hd,vs,rel,dd⟩:=Yv I.hok e
  refine wpAny_in_of (Yu ry) hd dd.mapOf ?_
  rw[<- (rel.val k).isSome_eq,<- l]
  exact h _ (I.tok _)
 ·subst ey
  cases (show u=bE b from ry)
  obtain ⟨z,hd,xs,rel,dd⟩:=Ac7 I.hok e
  refine wpAny_in_heap (kJ hu) (V7 I.hok eb) hd dd ?_
  have q:=(rel.val k).isSome_eq
  rw[gF] at q
  rw[<- q,<- l]
  exact h _ (I.tok _)
theorem Akl{Q:aE->aI->Prop}(hu:A.units+1 < cLine)(I:Inv X pins σ H s)(g:DGet H a y o)(ry:RelV y u)(h:∀ s',Inv X pins σ H s'->Q (.bool (!o.isSome)) s') :
  wpAny (model X.prog X.w) A (dE .NotIn u (.ref a)) Q E s:=by
 rcases g with ⟨kvs,k,e,ey,l⟩ | ⟨kvs,k,b,e,ey,eb,l⟩
 ·subst ey
  obtain ⟨z,hd,vs,rel,dd⟩:=Yv I.hok e
  refine wpAny_notIn_of (Yu ry) hd dd.mapOf ?_
  rw[<- (rel.val k).isSome_eq,<- l]
  exact h _ (I.tok _)
 ·subst ey
  cases (show u=bE b from ry)
  obtain ⟨z,hd,xs,rel,dd⟩:=Ac7 I.hok e
  refine wpAny_notIn_heap (kJ hu) (V7 I.hok eb) hd dd ?_
  have q:=(rel.val k).isSome_eq
  rw[gF] at q
  rw[<- q,<- l]
  exact h _ (I.tok _)
theorem Vj{h':Heap}{t':Nat}{ob:HO}(I:Inv X pins σ H s)(mu:Mut (H a))(hs:iL a s.heap h')(he:∃ q,h'.get? a=some q)(new:ObjOk X.prog X.w (upd H a ob) h' a ob) :
  Inv X pins σ (upd H a ob) { s with heap:=h',toks:=t' }:=
 I.write (x:=a) (e:=a) mu (.inl rfl) (fun b q hb z=>(hs.2 b hb).trans z) he new
theorem Afr{P:bN}{w:bW}{H':Hp}{h':Heap}{kvs:List (Key×V)}{vs:List (Key×aE)}(z:kvs.length<=sizeLine)(hd:(a == sysModules)=false)(rel:KV kvs vs)(dd:h'.DictOf (Co P w) a vs) :
  ObjOk P w H' h' a (.dK kvs):=⟨z,hd,vs,rel,dd⟩
theorem Ad3{H':Hp}{Q:Unit->aI->Prop}(hu:A.units+1 < cLine)(I:Inv X pins σ H s)(g:DPut H a y v H')(ry:RelV y u)(rv:RelV v r)(h:∀ s',Inv X pins σ H' s'->Q () s') :
  wpAny (model X.prog X.w) A (setItem (.ref a) u r) Q E s:=by
 rcases g with ⟨kvs,k,e,ey,l,eH⟩ | ⟨kvs,k,b,e,ey,eb,l,eH⟩
 ·subst ey eH
  obtain ⟨z,hd,vs,rel,dd⟩:=Rx I.hok e
  have hz:vs.length<=sizeLine:=by rw[<- rel.length];exact z
  have hl:(Oy kvs k v).length<=sizeLine:=by have:=Po kvs k v;omega
  refine wpAny_setItem_pairs (hsz:=hz) (Yu ry) dd fun h' dd' hs=>h _ ?_
  have he:∃ q,h'.get? a=some q:=let ⟨q,_,_,hq,_⟩:=dd';⟨q,hq⟩
  exact Vj I (by rw[e];exact dX) hs he (Afr hl hd (rel.put k rv) dd')
 ·subst ey eH
  cases (show u=bE b from ry)
  obtain ⟨z,hd,xs,rel,dd⟩:=Aoy I.hok e
  have hz:xs.length<=sizeLine:=by rw[<- lL rel];exact z
  have hl:(Oy kvs k v).length<=sizeLine:=by have:=Po kvs k v;omega
  refine wpAny_setItem_heap (hsz:=hz) (kJ hu) (V7 I.hok eb) dd fun h' dd' hs=>h _ ?_
  obtain ⟨q,es,ep,hq,h2,h3,h4,_,h5⟩:=dd'
  refine Vj I (by rw[e];exact dX) hs ⟨q,hq⟩ ⟨hl,hd,_,(rel.put k eb rv).keeps fun c ys ec=>?_,q,es,ep,hq,h2,h3,h4,h5⟩
  rw[Bc (Afn ec e (fun z=>nomatch z))]
  exact ec
end
section
variable {X:Cx}{pins:List (Addr×Obj)}{σ:St}{H:Hp}{s:aI}{a:Addr}{kvs:List (Key×V)}{k:Key}{u:aE}{A:cK}{E:aE->aI->Prop}
theorem Aow{v:V}{more:List aE}{Q:aE->aI->Prop}(I:Inv X pins σ H s)(e:H a=some (.dK kvs))(ry:RelV (kV k) u)(l:Ml kvs k=some v)(hm:more=[]\/∃ x,more=[x])
  (h:∀ w' s',Inv X pins σ (upd H a (.dK (Qj kvs k))) s'->RelV v w'->Q w' s'):wpAny (model X.prog X.w) A (call (.builtin "dict.pop") (.ref a::u::more)) Q E s:=by
 obtain ⟨z,hd,vs,rel,dd⟩:=Rx I.hok e
 obtain ⟨w',hw,rw'⟩:=RelO.some_of (v:=v) (o:=valueAt vs k) (by rw[<- l];exact rel.val k)
 have hp:(keyPart u).isSome=true:=by
  cases k with
  | inl i=>obtain ⟨t,q⟩:=(show ∃ t,u=mB i t from ry);subst q;rfl
  | inr x=>obtain ⟨t,q⟩:=(show ∃ t,u=mC x t from ry);subst q;rfl
 have ha:argsOk "dict.pop" ⟨.ref a::u::more,[]⟩:=by
  rcases hm with q | ⟨x,q⟩
  ·subst q;exact PySem.F.args_dict_pop_2 _ _
  ·subst q;exact PySem.F.args_dict_pop_3 _ _ _
 refine jZ mV dd.typeIs PySem.F.entry_dict_pop ha (meets_dict_pop_there (Co X.prog X.w) a (Yu ry) more hm hp)
  ⟨vs,w',dd,by rw[<- rel.length];exact z,hw,fun h' dd' hs=>h w' _ ?_ rw'⟩
 have he:∃ q,h'.get? a=some q:=let ⟨q,_,_,hq,_⟩:=dd';⟨q,hq⟩
 exact Vj I (by rw[e];exact dX) hs he (Afr (cC (Ahn kvs k) z) hd (rel.drop k) dd')
theorem Aqg{Q:aE->aI->Prop}(I:Inv X pins σ H s)(e:Rd H a (.dK kvs))(h:∀ t s',Inv X pins σ H s'->Q (.int kvs.length t) s'):wpAny (model X.prog X.w) A (call (.builtin "len") [.ref a]) Q E s:=by
 obtain ⟨z,hd,vs,rel,dd⟩:=Yv I.hok e
 refine call_len_dict hd dd (by rw[<- rel.length];rw[kW] at z;omega) ?_
 rw[<- rel.length]
 exact h _ _ (I.tok _)
end
noncomputable def Ao9(td ty tv:TE):TS:=fun D σ H=>tv σ H fun v H1=>td σ H1 fun x H2=>ty σ H2 fun y H3=>∃ a H4,x = .ref a/\DPut H3 a y v H4/\D.nx σ H4
section
variable {X:Cx}{o i e value:Expr}{pos pos' tpos:Pos}{td ty tv:TE}
theorem Ai1(hu:X.A.units+1 < cLine)(ho:PE X o td)(hi:PE X i ty)(hv:PE X value tv)(hs:swapsWith value (some (.Subscript o i pos')) pos.line X.env=pure false) :
  PS X (.Assign [.Subscript o i pos'] value pos) (Ao9 td ty tv):=by
 intro pins s σ H D I h
 refine wpAny_Assign_Subscript (thn (hv pins s σ H _ I h) fun r s1 zz=>zz.elim fun v H1 I1 rv q1=>thn (ho pins s1 σ H1 _ I1 q1) fun u s2 zz=>zz.elim fun x H2 I2 rx q2=>thn (hi pins s2 σ H2 _ I2 q2) fun iv s3 zz=>zz.elim fun y H3 I3 ry zq=>?_) hs
 obtain ⟨a,H4,ex,g,q3⟩:=zq
 subst ex
 obtain rfl:u=bE a:=rx
 exact Ad3 hu I3 g ry rv fun s4 I4=>⟨σ,H4,I4,q3⟩
end
theorem Ago{P:bN}{w:bW}{H:Hp}(h:Heap)(hb:sysModules < h.objs.size):ObjOk P w H (h.push { cls:=.type "dict",data:=.dict #[] }) h.objs.size (.dK []):=
 ⟨kY _,beq_eq_false_iff_ne.mpr (cR (bY hb)),[],.nil,Heap.DictOf.new h⟩
noncomputable def Ant:TE:=fun _ H Q=>∀ p,H p=none->Q (.ref p) (upd H p (.dK []))
section
variable {X:Cx}{pos:Pos}
theorem Agg:PE X (.Dict [] [] pos) Ant:=fun pins s σ H Q I h=>
 wpAny_Dict_empty ⟨.ref s.heap.objs.size,_,I.laid (a:=s.heap.objs.size) (o:=.dK []) (t':=s.toks) (fun _ _ q=>aF _ q) (bB _) (Ago s.heap I.big),rfl,h _ (I.hok.fresh (bB _))⟩
end
structure M1(X:Cx)(o:Expr)(m:Str)(apos:Pos)(e:Expr)(cpos:Pos):Prop where
 base:attributeBase o m X.env (eval o X.env)=eval o X.env
 few:((backTo cpos (aS [e] X.env)).all (fun x=>!x.1)&&(backToKw cpos (keywordEach [] X.env)).all (fun x=>x.1.isSome)
  && decide (([e]:List Expr).length+([]:List iP).length+(if ([]:List iP).isEmpty then 0 else 1) < 30))=true
 line:(apos.endLine == cpos.line)=true
 trees:backTo cpos (aS [e] X.env)=[(false,eval e X.env)]
structure M2(X:Cx)(o:Expr)(m:Str)(apos:Pos)(e f:Expr)(cpos:Pos):Prop where
 base:attributeBase o m X.env (eval o X.env)=eval o X.env
 few:((backTo cpos (aS [e,f] X.env)).all (fun x=>!x.1)&&(backToKw cpos (keywordEach [] X.env)).all (fun x=>x.1.isSome)
  && decide (([e,f]:List Expr).length+([]:List iP).length+(if ([]:List iP).isEmpty then 0 else 1) < 30))=true
 line:(apos.endLine == cpos.line)=true
 trees:backTo cpos (aS [e,f] X.env)=[(false,eval e X.env),(false,eval f X.env)]
noncomputable def IsD(H:Hp)(a:Addr):Prop:=(∃ kvs,Rd H a (.dK kvs))\/∃ kvs,Rd H a (.dT kvs)
theorem Ru{X:Cx}{pins:List (Addr×Obj)}{σ:St}{H:Hp}{s:aI}{a:Addr}(I:Inv X pins σ H s)(d:IsD H a) :
  s.TypeIs (.ref a) "dict" /\ (∀ b,bE a = .ref b->∃ ob,s.heap.get? b=some ob/\ob.dict=none)/\(a == sysModules)=false:=by
 rcases d with ⟨kvs,e⟩ | ⟨kvs,e⟩
 ·obtain ⟨_,hd,vs,_,dd⟩:=Yv I.hok e
  refine ⟨dd.typeIs,fun b q=>?_,hd⟩
  cases q
  obtain ⟨ob,_,_,h1,h2,_⟩:=dd
  exact ⟨ob,h1,h2.2.1⟩
 ·obtain ⟨_,hd,xs,_,dd⟩:=Ac7 I.hok e
  refine ⟨dd.typeIs,fun b q=>?_,hd⟩
  cases q
  obtain ⟨ob,_,_,h1,h2,_⟩:=dd
  exact ⟨ob,h1,h2.2.1⟩
section
variable {X:Cx}{pins:List (Addr×Obj)}{σ:St}{H:Hp}{s:aI}{a:Addr}{y d:V}{u r:aE}{o:Option V}{A:cK}{E:aE->aI->Prop}
end
noncomputable def An0(td ty:TE):TE:=fun σ H Q=>td σ H fun x H1=>∃ a,x = .ref a/\IsD H1 a/\ty σ H1 fun y H2=>∃ kvs k v,H2 a=some (.dK kvs)/\y=kV k/\Ml kvs k=some v/\Q v (upd H2 a (.dK (Qj kvs k)))
section
variable {X:Cx}{o e f:Expr}{apos cpos:Pos}{td ty tx:TE}
theorem Afj(ho:PE X o td)(he:PE X e ty)(m:M1 X o "pop" apos e cpos):PE X (.Call (.Attribute o "pop" apos) [e] [] cpos) (An0 td ty):=by
 intro pins s σ H Q I h
 refine gG m.base m.few m.line eM mV PySem.F.type_dict_pop (thn (ho pins s σ H _ I h) fun u s1 zz=>zz.elim fun x H1 I1 rx zq=>?_)
 obtain ⟨a,ex,d,q1⟩:=zq
 subst ex
 obtain rfl:u=bE a:=rx
 obtain ⟨t1,t2,_⟩:=Ru I1 d
 refine ⟨t1,t2,?_⟩
 rw[m.trees]
 refine dH rfl (jE (iC (thn (he pins s1 σ H1 _ I1 q1) fun iv s2 zz=>zz.elim fun y H2 I2 ry zq=>iN ?_)))
 obtain ⟨kvs,k,v,ea,ey,l,q2⟩:=zq
 subst ey
 exact Aow I2 ea ry l (.inl rfl) fun w' s3 I3 rw'=>⟨v,_,I3,rw',q2⟩
end
section
variable {X:Cx}{pins:List (Addr×Obj)}{σ:St}{H:Hp}{s:aI}{a:Addr}{kvs:List (Key×V)}{A:cK}{E:aE->aI->Prop}
end
section
variable {X:Cx}{pins:List (Addr×Obj)}{σ:St}{H:Hp}{s:aI}{a:Addr}{y:V}{u:aE}{A:cK}{E:aE->aI->Prop}
end
end L2
namespace MR
open PySem PySem.Spec PyProof.Rows L2
inductive U where
 | non | bl (b:Bool) | int (i:Int) | str (x:Str) | tup (l:List U) | ref (n:Nat)
inductive HU where
 | lst (xs:List U) | ro (xs:List U) | dic (kvs:List (Key×U)) | rod (kvs:List (Key×U)) | ins (C:Str) (fs:List (Str×U)) | exc (C:Str) (fr:Bool) (fs:List (Str×U))
abbrev UH:=List HU
abbrev UE:=List (Option U)
section
variable (K:aC)(H:Hp)(α:List Addr)
mutual
noncomputable def RepU:U->V->Prop
 | .non,v=>v = .non
 | .bl b,v=>v = .bl b
 | .int i,v=>v = .int i
 | .str x,v=>v = .str x
 | .tup l,v=>∃ a xs,v = .ref a/\SqT K H a xs/\RepL l xs
 | .ref n,v=>∃ a,α[n]? = some a/\v = .ref a
noncomputable def RepL:List U->List V->Prop
 | [],xs=>xs=[]
 | u::l,xs=>∃ x r,xs=x::r/\RepU u x/\RepL l r
end
end
noncomputable def Stay(H H':Hp):Prop:=(∀ b xs,H b=some (.tup xs)->H' b=some (.tup xs))/\∀ b o u,H b=some (.frz o u)->H' b=some (.frz o u)
theorem Stay.refl(H:Hp):Stay H H:=⟨fun _ _ q=>q,fun _ _ _ q=>q⟩
theorem Stay.trans{H H1 H2:Hp}(a:Stay H H1)(b:Stay H1 H2):Stay H H2:=⟨fun c xs q=>b.1 c xs (a.1 c xs q),fun c o u q=>b.2 c o u (a.2 c o u q)⟩
theorem Stay.sqT{K:aC}{H H':Hp}{a:Addr}{xs:List V}(e:Stay H H')(h:SqT K H a xs):SqT K H' a xs:=by
 rcases h with (h | ⟨o,h⟩) | h
 ·exact .inl (.inl (e.1 _ _ h))
 ·exact .inl (.inr ⟨o,e.2 _ _ _ h⟩)
 ·exact .inr h
theorem Stay.new{H:Hp}{p:Addr}(h:H p=none)(o:HO):Stay H (upd H p o):=⟨fun b u q=>by rw[Bc (Bk q h)];exact q,fun b o u q=>by rw[Bc (Bk q h)];exact q⟩
theorem Stay.write{H:Hp}{p:Addr}{o:HO}(h:H p=some o)(m:Mut (some o))(o':HO):Stay H (upd H p o'):=
 ⟨fun b u q=>by rw[Bc (Afn q h (fun z=>by subst z;exact m))];exact q,fun b w u q=>by rw[Bc (Afn q h (fun z=>by subst z;exact m))];exact q⟩
structure Gr(H:Hp)(α:List Addr)(H':Hp)(α':List Addr):Prop where
 pre:∃ β,α' = α ++ β
 st:Stay H H'
theorem Gr.refl(H:Hp)(α:List Addr):Gr H α H α:=⟨⟨[],by simp⟩,.refl H⟩
theorem Gr.trans{H H1 H2:Hp}{α α1 α2:List Addr}(a:Gr H α H1 α1)(b:Gr H1 α1 H2 α2):Gr H α H2 α2:=by
 obtain ⟨⟨β,e⟩,s⟩:=a
 obtain ⟨⟨γ,e'⟩,s'⟩:=b
 exact ⟨⟨β ++ γ,by rw[e',e,cA]⟩,s.trans s'⟩
theorem Gr.at{H H':Hp}{α α':List Addr}(g:Gr H α H' α'){n:Nat}{a:Addr}(h:α[n]? = some a):α'[n]? = some a:=by
 obtain ⟨β,e⟩:=g.pre
 have hn:n < α.length:=(aR.mp h).1
 rw[e,bJ hn];exact h
section
variable {K:aC}{H H':Hp}{α α':List Addr}
mutual
theorem RepU.mono(g:Gr H α H' α'):∀ (u:U) (v:V),RepU K H α u v->RepU K H' α' u v
 | .non,_,h=>h
 | .bl _,_,h=>h
 | .int _,_,h=>h
 | .str _,_,h=>h
 | .tup l,v,h=>by
  unfold RepU at h ⊢
  obtain ⟨a,xs,e,s,r⟩:=h
  exact ⟨a,xs,e,g.st.sqT s,RepL.mono g l xs r⟩
 | .ref n,v,h=>by
  unfold RepU at h ⊢
  obtain ⟨a,e,q⟩:=h
  exact ⟨a,g.at e,q⟩
theorem RepL.mono(g:Gr H α H' α'):∀ (l:List U) (xs:List V),RepL K H α l xs->RepL K H' α' l xs
 | [],xs,h=>h
 | u::l,xs,h=>by
  unfold RepL at h ⊢
  obtain ⟨x,r,e,h1,h2⟩:=h
  exact ⟨x,r,e,RepU.mono g u x h1,RepL.mono g l r h2⟩
end
theorem RepL.length:∀ {l:List U} {xs:List V},RepL K H α l xs->l.length=xs.length
 | [],xs,h=>by unfold RepL at h;subst h;rfl
 | u::l,xs,h=>by
  unfold RepL at h
  obtain ⟨x,r,e,_,h2⟩:=h
  subst e
  simp[RepL.length h2]
theorem RepL.get:∀ {l:List U} {xs:List V} {i:Nat} {u:U},RepL K H α l xs->l[i]? = some u->∃ x,xs[i]? = some x/\RepU K H α u x
 | [],xs,i,u,h,e=>by simp at e
 | w::l,xs,i,u,h,e=>by
  unfold RepL at h
  obtain ⟨x,r,e',h1,h2⟩:=h
  subst e'
  cases i with
  | zero=>simp at e;subst e;exact ⟨x,rfl,h1⟩
  | succ i=>simpa using RepL.get (i:=i) h2 (by simpa using e)
theorem RepL.nil:RepL K H α [] []:=by unfold RepL;rfl
theorem RepL.cons{u:U}{l:List U}{x:V}{xs:List V}(h:RepU K H α u x)(t:RepL K H α l xs):RepL K H α (u::l) (x::xs):=by
 unfold RepL;exact ⟨x,xs,rfl,h,t⟩
theorem RepL.append:∀ {l l':List U} {xs ys:List V},RepL K H α l xs->RepL K H α l' ys->RepL K H α (l++l') (xs++ys)
 | [],l',xs,ys,h,t=>by unfold RepL at h;subst h;exact t
 | u::l,l',xs,ys,h,t=>by
  unfold RepL at h
  obtain ⟨x,r,e,h1,h2⟩:=h
  subst e
  exact .cons h1 (RepL.append h2 t)
theorem RepL.take:∀ {l:List U} {xs:List V} (n:Nat),RepL K H α l xs->RepL K H α (l.take n) (xs.take n)
 | [],xs,n,h=>by unfold RepL at h;subst h;simp[RepL.nil]
 | u::l,xs,0,h=>by simp[RepL.nil]
 | u::l,xs,n+1,h=>by
  unfold RepL at h
  obtain ⟨x,r,e,h1,h2⟩:=h
  subst e
  exact .cons h1 (RepL.take n h2)
theorem RepL.drop:∀ {l:List U} {xs:List V} (n:Nat),RepL K H α l xs->RepL K H α (l.drop n) (xs.drop n)
 | [],xs,n,h=>by unfold RepL at h;subst h;simp[RepL.nil]
 | u::l,xs,0,h=>h
 | u::l,xs,n+1,h=>by
  unfold RepL at h
  obtain ⟨x,r,e,h1,h2⟩:=h
  subst e
  exact RepL.drop n h2
theorem RepL.set{u:U}{x:V}(q:RepU K H α u x):∀ {l:List U} {xs:List V} (n:Nat),RepL K H α l xs->RepL K H α (l.set n u) (xs.set n x)
 | [],xs,n,h=>by unfold RepL at h;subst h;exact .nil
 | w::l,xs,0,h=>by
  unfold RepL at h
  obtain ⟨y,r,e,h1,h2⟩:=h
  subst e
  exact .cons q h2
 | w::l,xs,n+1,h=>by
  unfold RepL at h
  obtain ⟨y,r,e,h1,h2⟩:=h
  subst e
  exact .cons h1 (RepL.set q n h2)
theorem RepL.erase:∀ {l:List U} {xs:List V} (n:Nat),RepL K H α l xs->RepL K H α (l.eraseIdx n) (xs.eraseIdx n)
 | [],xs,n,h=>by unfold RepL at h;subst h;exact .nil
 | w::l,xs,0,h=>by
  unfold RepL at h
  obtain ⟨y,r,e,h1,h2⟩:=h
  subst e
  exact h2
 | w::l,xs,n+1,h=>by
  unfold RepL at h
  obtain ⟨y,r,e,h1,h2⟩:=h
  subst e
  exact .cons h1 (RepL.erase n h2)
theorem RepL.ints:∀ (ns:List Int),RepL K H α (ns.map U.int) (ns.map V.int)
 | []=>.nil
 | n::r=>.cons rfl (RepL.ints r)
end
noncomputable def RO(K:aC)(H:Hp)(a:Addr)(xs:List V):Prop:=
 (∃ o,H a=some (.frz o (.lst xs)))\/∃ (o:Obj) (its:Array aE) (n:Nat),K.lookup a=some o/\o.cls = .type "list" /\ o.dict=none/\o.data = .seq its n/\its.size<=sizeLine/\Vals xs its.toList
theorem RO.sq{K:aC}{H:Hp}{a:Addr}{xs:List V}(h:RO K H a xs):SqL K H a xs:=by
 rcases h with ⟨o,h⟩ | h
 ·exact .inl (.inr ⟨o,h⟩)
 ·exact .inr h
theorem RO.stay{K:aC}{H H':Hp}{a:Addr}{xs:List V}(st:Stay H H')(h:RO K H a xs):RO K H' a xs:=by
 rcases h with ⟨o,h⟩ | h
 ·exact .inl ⟨o,st.2 _ _ _ h⟩
 ·exact .inr h
inductive ExcIs(a Ca:Addr)(dd:Option Addr)(fr:Bool)(h:Heap):Prop
 | mk (o:Obj) (vs:Array aE) (h0:h.get? a=some o) (h1:o.cls = .ref Ca) (h2:o.dict=dd) (h3:o.data = .fields vs) (h4:1 < vs.size) (h5:o.slots=#[]) (h6:(fr=true->vs[1]? = some .none)):ExcIs a Ca dd fr h
noncomputable def DictIs(H:Hp)(dd:Option Addr)(vs:List (Str×V)):Prop:=match dd with
 | none=>vs=[]
 | some dx=>vs≠[]/\∃ od,H dx=some (.frz od (.xd vs))
theorem DictIs.stay{H H':Hp}{dd:Option Addr}{vs:List (Str×V)}(st:∀ b o ws,H b=some (.frz o (.xd ws))->H' b=some (.frz o (.xd ws)))(h:DictIs H dd vs):DictIs H' dd vs:=by
 cases dd with
 | none=>exact h
 | some dx=>obtain ⟨ne,od,q⟩:=h;exact ⟨ne,od,st _ _ _ q⟩
inductive InsRep(K:aC)(H:Hp)(α:List Addr)(a:Addr)(C:Str)(fs:List (Str×U)):Prop
 | mk (Ca:_) (dx:_) (vs:_) (h0:aO K aN C=some (some (.ref Ca))) (h1:H a=some (.ins Ca dx vs)) (h2:fs.map (·.1)=vs.map (·.1)) (h3:RepL K H α (fs.map (·.2)) (vs.map (·.2))):InsRep K H α a C fs
inductive ExcRep(K:aC)(H:Hp)(α:List Addr)(a:Addr)(C:Str)(fr:Bool)(fs:List (Str×U)):Prop
 | mk (Ca:_) (dd:_) (vs:_) (h0:aO K aN C=some (some (.ref Ca))) (h1:H a=some (.ext (ExcIs a Ca dd fr))) (h2:DictIs H dd vs) (h3:fs.map (·.1)=vs.map (·.1)) (h4:RepL K H α (fs.map (·.2)) (vs.map (·.2))):ExcRep K H α a C fr fs
noncomputable def HRep(K:aC)(H:Hp)(α:List Addr)(a:Addr):HU->Prop
 | .lst us=>∃ xs,H a=some (.lst xs)/\RepL K H α us xs
 | .ro us=>∃ xs,RO K H a xs/\RepL K H α us xs
 | .dic kvs=>∃ vs,H a=some (.dK vs)/\kvs.map (·.1)=vs.map (·.1)/\RepL K H α (kvs.map (·.2)) (vs.map (·.2))
 | .rod kvs=>∃ o vs,H a=some (.frz o (.dK vs))/\kvs.map (·.1)=vs.map (·.1)/\RepL K H α (kvs.map (·.2)) (vs.map (·.2))
 | .ins C fs=>InsRep K H α a C fs
 | .exc C fr fs=>ExcRep K H α a C fr fs
noncomputable def HU.isRo:HU->Bool
 | .ro _=>true
 | _=>false
structure Abs(K:aC)(H:Hp)(α:List Addr)(L:UH):Prop where
 len:α.length=L.length
 inj:∀ (i j:Nat) (a:Addr) (o o':HU),α[i]? = some a->α[j]? = some a->L[i]? = some o->L[j]? = some o'->i=j\/o.isRo=true\/o'.isRo=true
 rep:∀ (i:Nat) (a:Addr) (o:HU),α[i]? = some a->L[i]? = some o->HRep K H α a o
theorem Abs.addr{K:aC}{H:Hp}{α:List Addr}{L:UH}(A:Abs K H α L){n:Nat}{o:HU}(h:L[n]? = some o):∃ a,α[n]? = some a/\HRep K H α a o:=by
 have hn:n < α.length:=by rw[A.len];exact (aR.mp h).1
 exact ⟨α[n],cZ hn,A.rep n _ o (cZ hn) h⟩
theorem HRep.other{K:aC}{H H':Hp}{α α':List Addr}{a:Addr}{o:HU}(g:Gr H α H' α')(hs:o.isRo=true\/∀ u,H a=some u->H' a=some u)(h:HRep K H α a o):HRep K H' α' a o:=by
 cases o with
 | lst us=>obtain ⟨xs,e,r⟩:=h;exact ⟨xs,(hs.resolve_left (by simp[HU.isRo])) _ e,r.mono g⟩
 | ro us=>obtain ⟨xs,e,r⟩:=h;exact ⟨xs,e.stay g.st,r.mono g⟩
 | dic kvs=>obtain ⟨vs,e,k,r⟩:=h;exact ⟨vs,(hs.resolve_left (by simp[HU.isRo])) _ e,k,r.mono g⟩
 | rod kvs=>obtain ⟨o,vs,e,k,r⟩:=h;exact ⟨o,vs,(hs.resolve_left (by simp[HU.isRo])) _ e,k,r.mono g⟩
 | ins C fs=>obtain ⟨Ca,dx,vs,n,e,k,r⟩:=h;exact ⟨Ca,dx,vs,n,(hs.resolve_left (by simp[HU.isRo])) _ e,k,r.mono g⟩
 | exc C fr fs=>obtain ⟨Ca,dd,vs,n,e,d,k,r⟩:=h;exact ⟨Ca,dd,vs,n,(hs.resolve_left (by simp[HU.isRo])) _ e,d.stay fun b o ws q=>g.st.2 b o _ q,k,r.mono g⟩
theorem HRep.some{K:aC}{H:Hp}{α:List Addr}{a:Addr}{o:HU}(h:HRep K H α a o)(n:o.isRo=false):∃ u,H a=some u:=by
 cases o with
 | lst us=>obtain ⟨xs,e,r⟩:=h;exact ⟨_,e⟩
 | ro us=>simp[HU.isRo] at n
 | dic kvs=>obtain ⟨vs,e,k,r⟩:=h;exact ⟨_,e⟩
 | rod kvs=>obtain ⟨o,vs,e,k,r⟩:=h;exact ⟨_,e⟩
 | ins C fs=>obtain ⟨Ca,dx,vs,n',e,k,r⟩:=h;exact ⟨_,e⟩
 | exc C fr fs=>obtain ⟨Ca,dd,vs,n',e,k,r⟩:=h;exact ⟨_,e⟩
theorem Abs.new{K:aC}{H:Hp}{α:List Addr}{L:UH}{p:Addr}{o:HO}{u:HU}(A:Abs K H α L)(hp:H p=none)(hr:HRep K (upd H p o) (α ++ [p]) p u) :
  Abs K (upd H p o) (α ++ [p]) (L++[u])/\Gr H α (upd H p o) (α ++ [p]):=by
 have g:Gr H α (upd H p o) (α ++ [p]):=⟨⟨[p],rfl⟩,.new hp o⟩
 have hl:=A.len
 refine ⟨⟨by simp[hl],fun i j a o1 o2 e1 e2 e3 e4=>?_,fun i a o1 e1 e2=>?_⟩,g⟩
 ·have fresh:∀ (k:Nat) (o3:HU),α[k]? = some p->L[k]? = some o3->o3.isRo=true:=fun k o3 q1 q2=>by
   cases hh:o3.isRo with
   | true=>rfl
   | false=>
    obtain ⟨u3,q⟩:=(A.rep k p o3 q1 q2).some hh
    rw[hp] at q;cases q
  by_cases hi:i < α.length
  ·rw[bJ hi] at e1
   rw[bJ (by omega)] at e3
   by_cases hj:j < α.length
   ·rw[bJ hj] at e2
    rw[bJ (by omega)] at e4
    exact A.inj i j a o1 o2 e1 e2 e3 e4
   ·rw[cO (by omega)] at e2
    have:a=p:=by
     cases hk:j - α.length with
     | zero=>rw[hk] at e2;simp at e2;exact e2.symm
     | succ k=>rw[hk] at e2;simp at e2
    subst this
    exact .inr (.inl (fresh i o1 e1 e3))
  ·rw[cO (by omega)] at e1
   have hia:a=p/\i = α.length:=by
    cases hk:i - α.length with
    | zero=>rw[hk] at e1;simp at e1;exact ⟨e1.symm,by omega⟩
    | succ k=>rw[hk] at e1;simp at e1
   obtain ⟨rfl,hi'⟩:=hia
   by_cases hj:j < α.length
   ·rw[bJ hj] at e2
    rw[bJ (by omega)] at e4
    exact .inr (.inr (fresh j o2 e2 e4))
   ·rw[cO (by omega)] at e2
    have:j = α.length:=by
     cases hk:j - α.length with
     | zero=>omega
     | succ k=>rw[hk] at e2;simp at e2
    exact .inl (by omega)
 ·by_cases hi:i < α.length
  ·rw[bJ hi] at e1
   rw[bJ (by omega)] at e2
   refine (A.rep i a o1 e1 e2).other g ?_
   exact .inr fun u3 q=>by rw[Bc (Bk q hp)];exact q
  ·rw[cO (by omega)] at e1
   rw[cO (by omega)] at e2
   have h1:i - α.length=0:=by
    cases hk:i - α.length with
    | zero=>rfl
    | succ k=>rw[hk] at e1;simp at e1
   rw[h1] at e1
   rw[show i - L.length=0 by omega] at e2
   simp at e1 e2
   subst e1;subst e2
   exact hr
theorem Abs.put{K:aC}{H:Hp}{α:List Addr}{L:UH}{p:Addr}{n:Nat}{o0 o:HO}{u0 u:HU}(A:Abs K H α L)(hn:α[n]? = some p)(hL:L[n]? = some u0)(hro:u0.isRo=false)(hro':u.isRo=false)(hp:H p=some o0)(hm:Mut (some o0))(hr:HRep K (upd H p o) α p u) :
  Abs K (upd H p o) α (L.set n u)/\Gr H α (upd H p o) α:=by
 have g:Gr H α (upd H p o) α:=⟨⟨[],by simp⟩,.write hp hm o⟩
 have hl:=A.len
 have hlt:n < L.length:=(aR.mp hL).1
 have look:∀ (i:Nat) (o1:HU),(L.set n u)[i]? = some o1->∃ o2,L[i]? = some o2/\o2.isRo=o1.isRo/\(i≠n->o2=o1):=fun i o1 e=>by
  by_cases hi:n=i
  ·subst hi
   rw[bU hlt] at e
   cases e
   exact ⟨u0,hL,by rw[hro,hro'],fun z=>absurd rfl z⟩
  ·rw[bA hi] at e
   exact ⟨o1,e,rfl,fun _=>rfl⟩
 refine ⟨⟨by simp[hl],fun i j a o1 o2 e1 e2 e3 e4=>?_,fun i a o1 e1 e2=>?_⟩,g⟩
 ·obtain ⟨x1,q1,r1,_⟩:=look i o1 e3
  obtain ⟨x2,q2,r2,_⟩:=look j o2 e4
  rw[<- r1,<- r2]
  exact A.inj i j a x1 x2 e1 e2 q1 q2
 ·by_cases hi:n=i
  ·subst hi
   rw[bU hlt] at e2
   cases e2
   rw[hn] at e1;cases e1
   exact hr
  ·rw[bA hi] at e2
   refine (A.rep i a o1 e1 e2).other g ?_
   by_cases hap:a=p
   ·subst hap
    rcases A.inj i n a o1 u0 e1 hn e2 hL with z | z | z
    ·exact absurd z.symm hi
    ·exact .inl z
    ·rw[hro] at z;cases z
   ·exact .inr fun u3 q=>by rw[Bc hap];exact q
structure RepS(K:aC)(H:Hp)(α:List Addr)(δ:UE)(σ:L2.St):Prop where
 len:δ.length = σ.length
 at_:∀ (i:Nat) (u:U),δ[i]? = some (some u)->∃ v,σ[i]? = some (some v)/\RepU K H α u v
theorem RepS.mono{K:aC}{H H':Hp}{α α':List Addr}{δ:UE}{σ:L2.St}(g:Gr H α H' α')(h:RepS K H α δ σ):RepS K H' α' δ σ:=
 ⟨h.len,fun i u e=>let ⟨v,q,r⟩:=h.at_ i u e;⟨v,q,r.mono g⟩⟩
theorem RepS.set{K:aC}{H:Hp}{α:List Addr}{δ:UE}{σ:L2.St}(h:RepS K H α δ σ)(i:Nat){u:U}{v:V}(r:RepU K H α u v):RepS K H α (δ.set i (some u)) (σ.set i (some v)):=
 ⟨by simp[h.len],fun j w e=>by
  by_cases hj:i=j
  ·subst hj
   by_cases hi:i < δ.length
   ·rw[bU hi] at e
    cases e
    exact ⟨v,bU (by rw[<- h.len];exact hi),r⟩
   ·rw[dM (by simpa using hi)] at e;cases e
  ·rw[bA hj] at e
   obtain ⟨v',q,r'⟩:=h.at_ j w e
   exact ⟨v',by rw[bA hj];exact q,r'⟩⟩
theorem RepS.start{K:aC}{H:Hp}{α:List Addr}(N:List Str){us:List U}{vs:List V}(h:RepL K H α us vs):RepS K H α (us.map some++aT (N.length - us.length) none) (start N vs):=by
 have hl:=h.length
 refine ⟨by simp[L2.start,hl],fun i u e=>?_⟩
 by_cases hi:i < us.length
 ·rw[bJ (by simpa using hi),bV] at e
  cases q:us[i]? with
  | none=>rw[q] at e;simp at e
  | some w=>
   rw[q] at e
   simp at e
   subst e
   obtain ⟨x,e2,r⟩:=h.get q
   refine ⟨x,?_,r⟩
   unfold L2.start
   rw[bJ (by simp;omega),bV,e2];rfl
 ·rw[cO (by simpa using hi)] at e
  have:=fG e
  simp at this
abbrev FE:=UE->UH->Option (U×UH)
abbrev FT:=UE->UH->Option (Bool×UH)
abbrev FA:=UE->UH->Option (List U×UH)
inductive lE(K:aC)(f:FE)(σ:L2.St)(H:Hp)(Q:VK):Prop
 | mk (α:List Addr) (δ:UE) (L:UH) (A:Abs K H α L) (S:RepS K H α δ σ) (u:U) (L':UH) (e:f δ L=some (u,L')) (q:∀ v H' α',Gr H α H' α'->Abs K H' α' L'->RepU K H' α' u v->Q v H'):lE K f σ H Q
inductive lT(K:aC)(f:FT)(σ:L2.St)(H:Hp)(Q:Bool->Hp->Prop):Prop
 | mk (α:List Addr) (δ:UE) (L:UH) (A:Abs K H α L) (S:RepS K H α δ σ) (b:Bool) (L':UH) (e:f δ L=some (b,L')) (q:∀ H' α',Gr H α H' α'->Abs K H' α' L'->Q b H'):lT K f σ H Q
inductive lA(K:aC)(f:FA)(σ:L2.St)(H:Hp)(Q:List V->Hp->Prop):Prop
 | mk (α:List Addr) (δ:UE) (L:UH) (A:Abs K H α L) (S:RepS K H α δ σ) (us:List U) (L':UH) (e:f δ L=some (us,L')) (q:∀ vs H' α',Gr H α H' α'->Abs K H' α' L'->RepL K H' α' us vs->Q vs H'):lA K f σ H Q
noncomputable def PEF(X:Cx)(e:Expr)(f:FE):Prop:=PE X e (lE X.K f)
noncomputable def PTF(X:Cx)(e:Expr)(f:FT):Prop:=PT X e (lT X.K f)
noncomputable def PWF(X:Cx)(e:Expr)(f:FT):Prop:=PW X e (lT X.K f)
noncomputable def PAF(X:Cx)(es:List Expr)(f:FA):Prop:=PA X es (lA X.K f)
section
variable {X:Cx}{e:Expr}{es:List Expr}
theorem PE.imp{t t':TE}(h:PE X e t)(hi:∀ σ H Q,t' σ H Q->t σ H Q):PE X e t':=fun pins s σ H Q I q=>h pins s σ H Q I (hi σ H Q q)
theorem PT.imp{t t':TT}(h:PT X e t)(hi:∀ σ H Q,t' σ H Q->t σ H Q):PT X e t':=fun pins s σ H Q I q=>h pins s σ H Q I (hi σ H Q q)
theorem PW.imp{t t':TT}(h:PW X e t)(hi:∀ σ H Q,t' σ H Q->t σ H Q):PW X e t':=fun wh pins s σ H Q I q=>h wh pins s σ H Q I (hi σ H Q q)
theorem PA.imp{t t':TA}(h:PA X es t)(hi:∀ σ H Q,t' σ H Q->t σ H Q):PA X es t':=fun pos pins s σ H Q I q=>h pos pins s σ H Q I (hi σ H Q q)
end
noncomputable def Af(i:Nat):FE:=fun δ L=>(δ[i]?).join.map fun u=>(u,L)
noncomputable def fC(u:U):FE:=fun _ L=>some (u,L)
section
variable {X:Cx}{a b c e:Expr}{pos:Pos}
theorem Ah(i:Nat){x:Str}{pos:Pos}(hN:X.N[i]? = some x:=by rfl)(hv:Vis X.env.scope x:=by first | exact qY rfl | exact qH (qY rfl) | exact qH (qH rfl))
  (hd:(x == ("__debug__" : Str))=false:=by decide) (hcd:(x == ("__classdict__" : Str))=false:=by decide):PEF X (.Name x pos) (Af i):=by
 refine PE.imp (Amy hN hv hd hcd) ?_
 rintro σ H Q ⟨α,δ,L,A,S,u,L',e,q⟩
 unfold Af at e
 cases h:δ[i]? with
 | none=>rw[h] at e;simp at e
 | some o=>
  cases o with
  | none=>rw[h] at e;simp at e
  | some w=>
   rw[h] at e
   simp at e
   obtain ⟨rfl,rfl⟩:=e
   obtain ⟨v,hv,r⟩:=S.at_ i w h
   exact ⟨v,hv,q v H α (.refl _ _) A r⟩
theorem Aj4{v:V}{u:U}(h:PE X e (tC v))(r:∀ H α,RepU X.K H α u v):PEF X e (fC u):=by
 refine PE.imp h ?_
 rintro σ H Q ⟨α,δ,L,A,S,w,L',e,q⟩
 unfold fC at e
 cases e
 exact q v H α (.refl _ _) A (r H α)
theorem Aj{i:Int}{j pos}:PEF X (.Constant (.int i) j pos) (fC (.int i)):=Aj4 Aof fun _ _=>rfl
theorem Kw{b:Bool}{j pos}:PEF X (.Constant (.bool b) j pos) (fC (.bl b)):=Aj4 Ap0 fun _ _=>rfl
theorem Wk{j pos}:PEF X (.Constant .none j pos) (fC .non):=Aj4 Anq fun _ _=>rfl
theorem B2{x:Str}{j pos}:PEF X (.Constant (.str x) j pos) (fC (.str x)):=Aj4 Am7 fun _ _=>rfl
abbrev S2:=U->U->UH->Option (U×UH)
noncomputable def Di(K:aC)(r:R2)(sem:S2):Prop:=∀ (H:Hp) (α:List Addr) (L:UH) (u w:U) (x y:V) (z:U) (L':UH) (Q:VK),Abs K H α L->RepU K H α u x->RepU K H α w y->sem u w L=some (z,L') ->
 (∀ v H' α',Gr H α H' α'->Abs K H' α' L'->RepU K H' α' z v->Q v H')->r x y H Q
noncomputable def f2(sem:S2)(fa fb:FE):FE:=fun δ L=>(fa δ L).bind fun p=>(fb δ p.2).bind fun q=>sem p.1 q.1 q.2
theorem Abg{K:aC}{r:R2}{sem:S2}{fa fb:FE}(h:Di K r sem):∀ σ H Q,lE K (f2 sem fa fb) σ H Q->tOp r (lE K fa) (lE K fb) σ H Q:=by
 rintro σ H Q ⟨α,δ,L,A,S,z,L3,e,q⟩
 obtain ⟨⟨u,L1⟩,e1,e⟩:=aB.mp e
 obtain ⟨⟨w,L2⟩,e2,e3⟩:=aB.mp e
 refine ⟨α,δ,L,A,S,u,L1,e1,fun x H1 α1 g1 A1 r1=>⟨α1,δ,L1,A1,S.mono g1,w,L2,e2,fun y H2 α2 g2 A2 r2=>?_⟩⟩
 exact h H2 α2 L2 u w x y z L3 Q A2 (r1.mono g2) r2 e3 fun v H3 α3 g3 A3 r3=>q v H3 α3 (g1.trans (g2.trans g3)) A3 r3
theorem Br{op:Operator}{r:R2}{sem:S2}{fa fb:FE}(ho:OpR X (eL op) r)(h:Di X.K r sem)(ha:PEF X a fa)(hb:PEF X b fb):PEF X (.BinOp a op b pos) (f2 sem fa fb):=PE.imp (Aoo ho ha hb) (Abg h)
theorem G6{op:CmpOp}{r:R2}{sem:S2}{fa fb:FE}(ho:OpR X (dE op) r)(h:Di X.K r sem)(ha:PEF X a fa)(hb:PEF X b fb)(hm:behindInMarks op b=false):PEF X (.Compare a [op] [b] pos) (f2 sem fa fb):=PE.imp (Akk ho ha hb hm) (Abg h)
noncomputable def Ax(f:FE):FT:=fun δ L=>(f δ L).bind fun p=>match p.1 with | .bl k=>some (k,p.2) | _=>none
theorem Ali{K:aC}{t:TE}{f:FE}(ht:∀ σ H Q,lE K f σ H Q->t σ H Q):∀ σ H Q,lT K (Ax f) σ H Q->Als t σ H Q:=by
 rintro σ H Q ⟨α,δ,L,A,S,b,L1,e,q⟩
 obtain ⟨⟨u,L2⟩,e1,e⟩:=aB.mp e
 refine ht σ H _ ⟨α,δ,L,A,S,u,L2,e1,fun x H1 α1 g1 A1 r1=>?_⟩
 cases u with
 | bl k=>simp at e;obtain ⟨rfl,rfl⟩:=e;exact ⟨k,r1,q H1 α1 g1 A1⟩
 | _=>simp at e
theorem Bj{op:CmpOp}{r:R2}{sem:S2}{fa fb:FE}(ho:OpR X (dE op) r)(h:Di X.K r sem)(ha:PEF X a fa)(hb:PEF X b fb)(hm:behindInMarks op b=false):PTF X (.Compare a [op] [b] pos) (Ax (f2 sem fa fb)):=PT.imp (Ajn ho ha hb hm) (Ali (Abg h))
end
section
variable {X:Cx}{a b c e:Expr}{pos:Pos}{rest:List Expr}
noncomputable def Sy(f g:FT):FT:=fun δ L=>(f δ L).bind fun p=>if p.1=true then g δ p.2 else some (false,p.2)
noncomputable def fOr(f g:FT):FT:=fun δ L=>(f δ L).bind fun p=>if p.1=true then some (true,p.2) else g δ p.2
noncomputable def K4(f:FT):FT:=fun δ L=>(f δ L).map fun p=>(!p.1,p.2)
noncomputable def N6(f g:FE):FE:=fun δ L=>(f δ L).bind fun p=>match p.1 with | .bl k=>if k=true then g δ p.2 else some (.bl false,p.2) | _=>none
noncomputable def Aqy(f g:FE):FE:=fun δ L=>(f δ L).bind fun p=>match p.1 with | .bl k=>if k=true then some (.bl true,p.2) else g δ p.2 | _=>none
noncomputable def Ags(f:FE):FE:=fun δ L=>(f δ L).bind fun p=>match p.1 with | .bl k=>some (.bl (!k),p.2) | _=>none
noncomputable def fIf(c:FT)(f g:FE):FE:=fun δ L=>(c δ L).bind fun p=>if p.1=true then f δ p.2 else g δ p.2
theorem Lk{f:FT}(ha:PTF X a f):PWF X (.BoolOp .And [a] pos) f:=Akc ha
theorem Qe{f:FT}(ha:PTF X a f):PWF X (.BoolOp .Or [a] pos) f:=Am5 ha
theorem Mb{f g:FT}(ha:PTF X a f)(hb:PWF X (.BoolOp .And (b::rest) pos) g):PWF X (.BoolOp .And (a::b::rest) pos) (Sy f g):=by
 refine PW.imp (Am2 ha hb) ?_
 rintro σ H Q ⟨α,δ,L,A,S,z,L3,e,q⟩
 obtain ⟨⟨u,L1⟩,e1,e⟩:=aB.mp e
 refine ⟨α,δ,L,A,S,u,L1,e1,fun H1 α1 g1 A1=>?_⟩
 cases u with
 | true=>exact Aed ⟨α1,δ,L1,A1,S.mono g1,z,L3,e,fun H2 α2 g2 A2=>q H2 α2 (g1.trans g2) A2⟩
 | false=>cases e;exact Adx (q H1 α1 g1 A1)
theorem Ou{f g:FT}(ha:PTF X a f)(hb:PWF X (.BoolOp .Or (b::rest) pos) g):PWF X (.BoolOp .Or (a::b::rest) pos) (fOr f g):=by
 refine PW.imp (Ap1 ha hb) ?_
 rintro σ H Q ⟨α,δ,L,A,S,z,L3,e,q⟩
 obtain ⟨⟨u,L1⟩,e1,e⟩:=aB.mp e
 refine ⟨α,δ,L,A,S,u,L1,e1,fun H1 α1 g1 A1=>?_⟩
 cases u with
 | false=>exact Adx ⟨α1,δ,L1,A1,S.mono g1,z,L3,e,fun H2 α2 g2 A2=>q H2 α2 (g1.trans g2) A2⟩
 | true=>cases e;exact Aed (q H1 α1 g1 A1)
theorem PWF.pt{f:FT}(h:PWF X e f):PTF X e f:=PW.pt h
theorem Hl{f:FT}(ha:PTF X a f):PTF X (.UnaryOp .Not a pos) (K4 f):=by
 refine PT.imp (Amk ha) ?_
 rintro σ H Q ⟨α,δ,L,A,S,z,L3,e,q⟩
 obtain ⟨⟨u,L1⟩,e1,e⟩:=aH.mp e
 cases e
 exact ⟨α,δ,L,A,S,u,L1,e1,fun H1 α1 g1 A1=>q H1 α1 g1 A1⟩
theorem Vh{op}{f:FE}(h:PEF X a f):PEF X (.BoolOp op [a] pos) f:=Amu h
theorem Vr{f g:FE}(ha:PEF X a f)(hb:PEF X (.BoolOp .And (b::rest) pos) g):PEF X (.BoolOp .And (a::b::rest) pos) (N6 f g):=by
 refine PE.imp (Al6 ha hb) ?_
 rintro σ H Q ⟨α,δ,L,A,S,z,L3,e,q⟩
 obtain ⟨⟨u,L1⟩,e1,e⟩:=aB.mp e
 refine ⟨α,δ,L,A,S,u,L1,e1,fun v H1 α1 g1 A1 r1=>?_⟩
 cases u with
 | bl k=>
  cases k with
  | true=>exact ⟨true,r1,Aed ⟨α1,δ,L1,A1,S.mono g1,z,L3,e,fun v H2 α2 g2 A2 r=>q v H2 α2 (g1.trans g2) A2 r⟩⟩
  | false=>cases e;exact ⟨false,r1,Adx (q _ H1 α1 g1 A1 rfl)⟩
 | _=>simp at e
theorem Ana{f:FE}(ha:PEF X a f):PEF X (.UnaryOp .Not a pos) (Ags f):=by
 refine PE.imp (An4 ha) ?_
 rintro σ H Q ⟨α,δ,L,A,S,z,L3,e,q⟩
 obtain ⟨⟨u,L1⟩,e1,e⟩:=aB.mp e
 refine ⟨α,δ,L,A,S,u,L1,e1,fun v H1 α1 g1 A1 r1=>?_⟩
 cases u with
 | bl k=>cases e;exact ⟨k,r1,q _ H1 α1 g1 A1 rfl⟩
 | _=>simp at e
noncomputable def Ai:FA:=fun _ L=>some ([],L)
noncomputable def Ac(f:FE)(g:FA):FA:=fun δ L=>(f δ L).bind fun p=>(g δ p.2).map fun q=>(p.1::q.1,q.2)
theorem Ag:PAF X [] Ai:=by
 refine PA.imp Ot ?_
 rintro σ H Q ⟨α,δ,L,A,S,z,L3,e,q⟩
 cases e
 exact q [] H α (.refl _ _) A .nil
theorem Ae{es:List Expr}{f:FE}{g:FA}(ha:PEF X e f)(hr:PAF X es g)(hs:aS (e::es) X.env=(false,eval e X.env)::aS es X.env:=by rfl):PAF X (e::es) (Ac f g):=by
 refine PA.imp (Gv ha hr hs) ?_
 rintro σ H Q ⟨α,δ,L,A,S,z,L3,e,q⟩
 obtain ⟨⟨u,L1⟩,e1,e⟩:=aB.mp e
 obtain ⟨⟨us,L2⟩,e2,e⟩:=aH.mp e
 cases e
 exact ⟨α,δ,L,A,S,u,L1,e1,fun x H1 α1 g1 A1 r1=>⟨α1,δ,L1,A1,S.mono g1,us,L2,e2,fun xs H2 α2 g2 A2 r2=>q (x::xs) H2 α2 (g1.trans g2) A2 (.cons (r1.mono g2) r2)⟩⟩
noncomputable def Dk(n:Nat):Bool:=decide (n<=sizeLine)
noncomputable def G4(g:FA):FE:=fun δ L=>(g δ L).bind fun p=>if Dk p.1.length=true then some (.tup p.1,p.2) else none
noncomputable def Ct(g:FA):FE:=fun δ L=>(g δ L).bind fun p=>if Dk p.1.length=true then some (.ref p.2.length,p.2++[.lst p.1]) else none
theorem D7{n:Nat}(h:Dk n=true):n<=sizeLine:=of_decide_eq_true h
theorem Abs.tup{K:aC}{H:Hp}{α:List Addr}{L:UH}{p:Addr}{us:List U}{xs:List V}(A:Abs K H α L)(r:RepL K H α us xs)(hp:H p=none) :
  Gr H α (upd H p (.tup xs)) α/\Abs K (upd H p (.tup xs)) α L/\RepU K (upd H p (.tup xs)) α (.tup us) (.ref p):=by
 have g:Gr H α (upd H p (.tup xs)) α:=⟨⟨[],by simp⟩,.new hp _⟩
 refine ⟨g,⟨A.len,A.inj,fun i a o e1 e2=>(A.rep i a o e1 e2).other g (.inr fun u q=>by rw[Bc (Bk q hp)];exact q)⟩,?_⟩
 unfold RepU
 exact ⟨p,xs,rfl,.of upd_same,r.mono g⟩
theorem Abs.lst{K:aC}{H:Hp}{α:List Addr}{L:UH}{p:Addr}{us:List U}{xs:List V}(A:Abs K H α L)(r:RepL K H α us xs)(hp:H p=none) :
  Gr H α (upd H p (.lst xs)) (α ++ [p])/\Abs K (upd H p (.lst xs)) (α ++ [p]) (L++[.lst us])/\RepU K (upd H p (.lst xs)) (α ++ [p]) (.ref L.length) (.ref p):=by
 have g:Gr H α (upd H p (.lst xs)) (α ++ [p]):=⟨⟨[p],rfl⟩,.new hp _⟩
 obtain ⟨A',_⟩:=A.new (o:=.lst xs) (u:=.lst us) hp ⟨xs,upd_same,r.mono g⟩
 refine ⟨g,A',?_⟩
 unfold RepU
 exact ⟨p,by rw[<- A.len];simp,rfl⟩
theorem Gi{es:List Expr}{g:FA}{x1}(h:PAF X es g):PEF X (.Tuple es x1 pos) (G4 g):=by
 refine PE.imp (Af9 h) ?_
 rintro σ H Q ⟨α,δ,L,A,S,z,L3,e,q⟩
 obtain ⟨⟨us,L1⟩,e1,e⟩:=aB.mp e
 refine ⟨α,δ,L,A,S,us,L1,e1,fun xs H1 α1 g1 A1 r1=>?_⟩
 simp only at e
 split at e
 ·rename_i hs
  cases e
  refine ⟨by rw[<- r1.length];exact D7 hs,fun p hp=>?_⟩
  obtain ⟨g2,A2,r2⟩:=A1.tup r1 hp
  exact q _ _ α1 (g1.trans g2) A2 r2
 ·cases e
theorem Du{es:List Expr}{g:FA}(h:PAF X es g):PEF X (.List es pos) (Ct g):=by
 refine PE.imp (Aoc h) ?_
 rintro σ H Q ⟨α,δ,L,A,S,z,L3,e,q⟩
 obtain ⟨⟨us,L1⟩,e1,e⟩:=aB.mp e
 refine ⟨α,δ,L,A,S,us,L1,e1,fun xs H1 α1 g1 A1 r1=>?_⟩
 simp only at e
 split at e
 ·rename_i hs
  cases e
  refine ⟨by rw[<- r1.length];exact D7 hs,fun p hp=>?_⟩
  obtain ⟨g2,A2,r2⟩:=A1.lst r1 hp
  exact q _ _ _ (g1.trans g2) A2 r2
 ·cases e
abbrev SC:=List U->UH->Option (U×UH)
noncomputable def R4(K:aC)(r:List V->Hp->VK->Prop)(sem:SC):Prop:=∀ (H:Hp) (α:List Addr) (L:UH) (us:List U) (xs:List V) (z:U) (L':UH) (Q:VK),Abs K H α L->RepL K H α us xs->sem us L=some (z,L') ->
 (∀ v H' α',Gr H α H' α'->Abs K H' α' L'->RepU K H' α' z v->Q v H')->r xs H Q
noncomputable def B0(sem:SC)(g:FA):FE:=fun δ L=>(g δ L).bind fun p=>sem p.1 p.2
theorem Alu{K:aC}{r:List V->Hp->VK->Prop}{sem:SC}{g:FA}(h:R4 K r sem):∀ σ H Q,lE K (B0 sem g) σ H Q->tCB r (lA K g) σ H Q:=by
 rintro σ H Q ⟨α,δ,L,A,S,z,L3,e,q⟩
 obtain ⟨⟨us,L1⟩,e1,e⟩:=aB.mp e
 exact ⟨α,δ,L,A,S,us,L1,e1,fun xs H1 α1 g1 A1 r1=>h H1 α1 L1 us xs z L3 Q A1 r1 e fun v H2 α2 g2 A2 r2=>q v H2 α2 (g1.trans g2) A2 r2⟩
variable {x:Str}{p:Pos}{es:List Expr}{id T:String}{r:List V->Hp->VK->Prop}{sem:SC}{g:FA}
theorem Cz(hc:CallR X (.builtin id) r)(h:R4 X.K r sem)(hg:Gl X x)(hm:X.mg x=none)(hv:eC x=some (.builtin id))(ha:PAF X (e::es) g)(hn:x ≠ "__name__" := by decide)(hdb:(x == ("__debug__" : Str))=false:=by decide)
  (he:aS (e::es) X.env=(false,eval e X.env)::aS es X.env:=by rfl) (hpl:(backTo pos (aS es X.env)).any (·.1)=false:=by rfl) :
  PEF X (.Call (.Name x p) (e::es) [] pos) (B0 sem g):=PE.imp (Lu hc hg hm hv ha hn hdb he hpl) (Alu h)
theorem Fq(hc:CallR X (.type T) r)(h:R4 X.K r sem)(hg:Gl X x)(hm:X.mg x=none)(hv:eC x=some (.type T))(ha:PAF X (e::es) g)(hn:x ≠ "__name__" := by decide)(hdb:(x == ("__debug__" : Str))=false:=by decide)
  (he:aS (e::es) X.env=(false,eval e X.env)::aS es X.env:=by rfl) (hpl:(backTo pos (aS es X.env)).any (·.1)=false:=by rfl) :
  PEF X (.Call (.Name x p) (e::es) [] pos) (B0 sem g):=PE.imp (Aet hc hg hm hv ha hn hdb he hpl) (Alu h)
abbrev SM:=U->List U->UH->Option (U×UH)
noncomputable def Ak5(K:aC)(r:V->List V->Hp->VK->Prop)(sem:SM):Prop:=∀ (H:Hp) (α:List Addr) (L:UH) (u:U) (us:List U) (x:V) (xs:List V) (z:U) (L':UH) (Q:VK),Abs K H α L->RepU K H α u x->RepL K H α us xs->sem u us L=some (z,L') ->
 (∀ v H' α',Gr H α H' α'->Abs K H' α' L'->RepU K H' α' z v->Q v H')->r x xs H Q
noncomputable def tyU(T:String)(u:U)(L:UH):Bool:=match u with
 | .str _=>T == "str"
 | .int _=>T == "int"
 | .tup _=>T == "tuple"
 | .ref n=>match L[n]? with
  | some (.lst _)=>T == "list"
  | some (.ro _)=>T == "list"
  | some (.dic _)=>T == "dict"
  | _=>false
 | _=>false
theorem Amg{K:aC}{H:Hp}{α:List Addr}{L:UH}{u:U}{x:V}(A:Abs K H α L)(r:RepU K H α u x)(h:tyU T u L=true):tyV K T x H:=by
 cases u with
 | str y=>unfold RepU at r;subst r;simpa[tyU,tyV] using h
 | int i=>unfold RepU at r;subst r;simpa[tyU,tyV] using h
 | ref n=>
  unfold RepU at r
  obtain ⟨a,ea,rfl⟩:=r
  unfold tyU at h
  simp only at h
  cases q:L[n]? with
  | none=>rw[q] at h;simp at h
  | some o=>
   have hr:=A.rep n a o ea q
   rw[q] at h
   cases o with
   | lst us=>simp at h;obtain ⟨xs,e,_⟩:=hr;exact .inl ⟨h,xs,.of e⟩
   | ro us=>simp at h;obtain ⟨xs,e,_⟩:=hr;exact .inl ⟨h,xs,e.sq⟩
   | dic kvs=>simp at h;obtain ⟨vs,e,_⟩:=hr;exact .inr (.inr (.inl ⟨h,.inl ⟨vs,e⟩⟩))
   | rod kvs=>simp at h
   | ins C fs=>simp at h
   | exc C fr fs=>simp at h
 | non=>simp[tyU] at h
 | bl b=>simp[tyU] at h
 | tup l=>
  unfold RepU at r
  obtain ⟨a,ys,rfl,sq,_⟩:=r
  have hT:T = "tuple" := by simpa[tyU] using h
  exact .inr (.inl ⟨hT,ys,sq⟩)
noncomputable def Mr(T:String)(sem:SM)(f:FE)(g:FA):FE:=fun δ L=>(f δ L).bind fun p=>if tyU T p.1 p.2=true then (g δ p.2).bind fun q=>sem p.1 q.1 q.2 else none
theorem Apk{K:aC}{r:V->List V->Hp->VK->Prop}{sem:SM}{f:FE}{g:FA}(h:Ak5 K r sem):∀ σ H Q,lE K (Mr T sem f g) σ H Q->tBM K T r (lE K f) (lA K g) σ H Q:=by
 rintro σ H Q ⟨α,δ,L,A,S,z,L3,e,q⟩
 obtain ⟨⟨u,L1⟩,e1,e⟩:=aB.mp e
 simp only at e
 split at e
 ·rename_i ht
  obtain ⟨⟨us,L2⟩,e2,e⟩:=aB.mp e
  refine ⟨α,δ,L,A,S,u,L1,e1,fun x H1 α1 g1 A1 r1=>⟨Amg A1 r1 ht,α1,δ,L1,A1,S.mono g1,us,L2,e2,fun xs H2 α2 g2 A2 r2=>?_⟩⟩
  exact h H2 α2 L2 u us x xs z L3 Q A2 (r1.mono g2) r2 e fun v H3 α3 g3 A3 r3=>q v H3 α3 (g1.trans (g2.trans g3)) A3 r3
 ·cases e
section
variable {o e:Expr}{es:List Expr}{f:FE}{g:FA}{name:Str}{apos cpos:Pos}{T id:String}{r:V->List V->Hp->VK->Prop}{sem:SM}
theorem Ag5(pa:PlainAttrs T)(slot:Slot T name id)(hty:typeOf (.builtin id)=pure (.type "method_descriptor"))(hm:MtR X id r)(h:Ak5 X.K r sem)(ho:PEF X o f)(ha:PAF X (e::es) g)
  (hbase:attributeBase o name X.env (eval o X.env)=eval o X.env:=by rfl)
  (hfew:((backTo cpos (aS (e::es) X.env)).all (fun x=>!x.1)&&(backToKw cpos (keywordEach [] X.env)).all (fun x=>x.1.isSome)&&decide ((e::es).length+([]:List iP).length+(if ([]:List iP).isEmpty then 0 else 1) < 30))=true:=by rfl)
  (hline:(apos.endLine == cpos.line)=true:=by rfl) (hst:aS (e::es) X.env=(false,eval e X.env)::aS es X.env:=by rfl) (hpl:(backTo cpos (aS es X.env)).any (·.1)=false:=by rfl) :
  PEF X (.Call (.Attribute o name apos) (e::es) [] cpos) (Mr T sem f g):=
 PE.imp (Aqd pa slot hty hm ho ha hbase hfew hline hst hpl) (Apk h)
end
end
abbrev FN:=List U->UH->Option (U×UH)
inductive spF(K:aC)(n:Nat)(f:FN)(vs:List V)(H:Hp)(Q:VK)(E:XK):Prop
 | mk (α:List Addr) (L:UH) (us:List U) (A:Abs K H α L) (r:RepL K H α us vs) (hl:us.length=n) (u:U) (L':UH) (e:f us L=some (u,L')) (q:∀ v H' α',Gr H α H' α'->Abs K H' α' L'->RepU K H' α' u v->Q v H'):spF K n f vs H Q E
section
variable {X:Cx}{a b c e o:Expr}{es:List Expr}{pos p:Pos}{x:Str}{k:Nat}{f:Addr}{fd:bM}{ps:List Str}{F:FN}{g:FA}{fa fb fc:FE}
noncomputable def Bf(n:Nat)(F:FN)(g:FA):FE:=fun δ L=>(g δ L).bind fun p=>if p.1.length=n then F p.1 p.2 else none
theorem Av{n:Nat}(hF:FnOk X.prog X.w X.K X.mg X.base CX0 k f fd ps (spF X.K n F))(hr:Room k X.A)(hg:Gl X x)(hm:X.mg x=some (.ref f))(hk:aZ X.K (.ref f)=true)(hb:Binds X.K fd ps [])
  (ha:PAF X (e::es) g) (hdb:(x == ("__debug__" : Str))=false:=by decide) (he:aS (e::es) X.env=(false,eval e X.env)::aS es X.env:=by rfl) (hpl:(backTo pos (aS es X.env)).any (·.1)=false:=by rfl) :
  PEF X (.Call (.Name x p) (e::es) [] pos) (Bf n F g):=by
 refine PE.imp (Aje hF hr hg hm hk hb .nil Ach ha hdb he hpl) ?_
 rintro σ H Q ⟨α,δ,L,A,S,z,L3,e,q⟩
 obtain ⟨⟨us,L1⟩,e1,e⟩:=aB.mp e
 simp only at e
 split at e
 ·rename_i hl
  refine ⟨α,δ,L,A,S,us,L1,e1,fun xs H1 α1 g1 A1 r1=>?_⟩
  exact ⟨α1,L1,us,A1,by rw[aX];exact r1,hl,z,L3,e,fun v H2 α2 g2 A2 r2=>q v H2 α2 (g1.trans g2) A2 r2⟩
 ·cases e
theorem Aw{r:R2}{sem:S2}(hr:IxR X r)(h:Di X.K r sem)(ha:PEF X a fa)(hb:PEF X b fb)(hs:Ack b):PEF X (.Subscript a b pos) (f2 sem fa fb):=PE.imp (Api hr ha hb hs) (Abg h)
abbrev FO:=UE->UH->Option (Option Int×UH)
inductive lO(K:aC)(f:FO)(σ:L2.St)(H:Hp)(Q:Option Int->Hp->Prop):Prop
 | mk (α:List Addr) (δ:UE) (L:UH) (A:Abs K H α L) (S:RepS K H α δ σ) (i:Option Int) (L':UH) (e:f δ L=some (i,L')) (q:∀ H' α',Gr H α H' α'->Abs K H' α' L'->Q i H'):lO K f σ H Q
noncomputable def POF(X:Cx)(e:Option Expr)(f:FO):Prop:=PO X e (lO X.K f)
noncomputable def Oe:FO:=fun _ L=>some (none,L)
noncomputable def Yb(f:FE):FO:=fun δ L=>(f δ L).bind fun p=>match p.1 with | .int i=>some (some i,p.2) | _=>none
theorem PO.imp{e:Option Expr}{t t':TO}(h:PO X e t)(hi:∀ σ H Q,t' σ H Q->t σ H Q):PO X e t':=fun pins s σ H Q I q=>h pins s σ H Q I (hi σ H Q q)
theorem Afu:POF X none Oe:=by
 refine PO.imp Ajq ?_
 rintro σ H Q ⟨α,δ,L,A,S,z,L3,e,q⟩
 cases e
 exact q H α (.refl _ _) A
theorem Afp(h:PEF X e fa):POF X (some e) (Yb fa):=by
 refine PO.imp (Aj8 h) ?_
 rintro σ H Q ⟨α,δ,L,A,S,z,L3,e,q⟩
 obtain ⟨⟨u,L1⟩,e1,e⟩:=aB.mp e
 refine ⟨α,δ,L,A,S,u,L1,e1,fun x H1 α1 g1 A1 r1=>?_⟩
 cases u with
 | int i=>cases e;exact ⟨i,r1,q H1 α1 g1 A1⟩
 | _=>simp at e
abbrev SS:=U->Option Int->Option Int->UH->Option (U×UH)
noncomputable def Alr(K:aC)(r:V->Option Int->Option Int->Hp->VK->Prop)(sem:SS):Prop:=∀ (H:Hp) (α:List Addr) (L:UH) (u:U) (x:V) (lo hi:Option Int) (z:U) (L':UH) (Q:VK),Abs K H α L->RepU K H α u x->sem u lo hi L=some (z,L') ->
 (∀ v H' α',Gr H α H' α'->Abs K H' α' L'->RepU K H' α' z v->Q v H')->r x lo hi H Q
noncomputable def fSl(sem:SS)(f:FE)(l h:FO):FE:=fun δ L=>(f δ L).bind fun p=>(l δ p.2).bind fun q=>(h δ q.2).bind fun r=>sem p.1 q.1 r.1 r.2
theorem Aik{r:V->Option Int->Option Int->Hp->VK->Prop}{sem:SS}{lo hi:Option Expr}{fl fh:FO}{p2:Pos}(hr:SlR X r)(h:Alr X.K r sem)(he:PEF X e fa)(hl:POF X lo fl)(hu:POF X hi fh):PEF X (.Subscript e (.Slice lo hi none p2) pos) (fSl sem fa fl fh):=by
 refine PE.imp (Ag3 hr he hl hu) ?_
 rintro σ H Q ⟨α,δ,L,A,S,z,L3,e,q⟩
 obtain ⟨⟨u,L1⟩,e1,e⟩:=aB.mp e
 obtain ⟨⟨i,L2⟩,e2,e⟩:=aB.mp e
 obtain ⟨⟨j,L4⟩,e3,e⟩:=aB.mp e
 refine ⟨α,δ,L,A,S,u,L1,e1,fun x H1 α1 g1 A1 r1=>⟨α1,δ,L1,A1,S.mono g1,i,L2,e2,fun H2 α2 g2 A2=>⟨α2,δ,L2,A2,(S.mono g1).mono g2,j,L4,e3,fun H3 α3 g3 A3=>?_⟩⟩⟩
 exact h H3 α3 L4 u x i j z L3 Q A3 ((r1.mono g2).mono g3) e fun v H4 α4 g4 A4 r4=>q v H4 α4 (g1.trans (g2.trans (g3.trans g4))) A4 r4
noncomputable def Amc(f:FE):FE:=fun δ L=>(f δ L).bind fun p=>match p.1 with | .int i=>some (.int (-i),p.2) | _=>none
theorem Amj(ha:PEF X a fa):PEF X (.UnaryOp .USub a pos) (Amc fa):=by
 refine PE.imp (Aqa Amv ha) ?_
 rintro σ H Q ⟨α,δ,L,A,S,z,L3,e,q⟩
 obtain ⟨⟨u,L1⟩,e1,e⟩:=aB.mp e
 refine ⟨α,δ,L,A,S,u,L1,e1,fun x H1 α1 g1 A1 r1=>?_⟩
 cases u with
 | int i=>cases e;exact ⟨i,r1,q _ H1 α1 g1 A1 rfl⟩
 | _=>simp at e
noncomputable def Lq(s1 s2:S2)(fa fb fc:FE):FE:=fun δ L=>(fa δ L).bind fun p=>(fb δ p.2).bind fun q=>(s1 p.1 q.1 q.2).bind fun r=>match r.1 with
 | .bl k=>if k=true then (fc δ r.2).bind fun t=>s2 q.1 t.1 t.2 else some (.bl false,r.2)
 | _=>none
theorem Agb{K:aC}{r r':R2}{s1 s2:S2}(h1:Di K r s1)(h2:Di K r' s2):∀ σ H Q,lE K (Lq s1 s2 fa fb fc) σ H Q->Aga r r' (lE K fa) (lE K fb) (lE K fc) σ H Q:=by
 rintro σ H Q ⟨α,δ,L,A,S,z,L3,e,q⟩
 obtain ⟨⟨u,L1⟩,e1,e⟩:=aB.mp e
 obtain ⟨⟨w,L2⟩,e2,e⟩:=aB.mp e
 obtain ⟨⟨t,L4⟩,e3,e⟩:=aB.mp e
 refine ⟨α,δ,L,A,S,u,L1,e1,fun x H1 α1 g1 A1 r1=>⟨α1,δ,L1,A1,S.mono g1,w,L2,e2,fun y H2 α2 g2 A2 r2=>?_⟩⟩
 refine h1 H2 α2 L2 u w x y t L4 _ A2 (r1.mono g2) r2 e3 fun v H3 α3 g3 A3 r3=>?_
 cases t with
 | bl k=>
  refine ⟨k,r3,?_⟩
  cases k with
  | true=>
   obtain ⟨⟨s,L5⟩,e4,e⟩:=aB.mp e
   refine Aed ⟨α3,δ,L4,A3,((S.mono g1).mono g2).mono g3,s,L5,e4,fun y' H4 α4 g4 A4 r4=>?_⟩
   exact h2 H4 α4 L5 w s y y' z L3 Q A4 ((r2.mono g3).mono g4) r4 e fun v H5 α5 g5 A5 r5=>q v H5 α5 (g1.trans (g2.trans (g3.trans (g4.trans g5)))) A5 r5
  | false=>cases e;exact Adx (q _ H3 α3 (g1.trans (g2.trans g3)) A3 rfl)
 | _=>simp at e
theorem X4{op op':CmpOp}{r r':R2}{s1 s2:S2}(ho:OpR X (dE op) r)(ho':OpR X (dE op') r')(h1:Di X.K r s1)(h2:Di X.K r' s2)(ha:PEF X a fa)(hb:PEF X b fb)(hc:PEF X c fc)(hm:lastMarks [op,op'] [b,c]=false:=by with_unfolding_all rfl) :
  PEF X (.Compare a [op,op'] [b,c] pos) (Lq s1 s2 fa fb fc):=PE.imp (Ahd ho ho' ha hb hc hm) (Agb h1 h2)
noncomputable def Ae2(u:U)(L:UH):Option Bool:=match u with
 | .non=>some false
 | .bl b=>some b
 | .int i=>some (i != 0)
 | .str y=>if Dk y.length=true then some ((y.length:Int) != 0) else none
 | .tup l=>some (!l.isEmpty)
 | .ref n=>match L[n]? with
  | some (.lst xs)=>some (!xs.isEmpty)
  | some (.ro xs)=>some (!xs.isEmpty)
  | some (.dic kvs)=>some (!kvs.isEmpty)
  | _=>none
theorem Jc{α β:Type}{l:List α}{m:List β}(h:l.length=m.length):l.isEmpty=m.isEmpty:=by
 cases l <;> cases m <;> simp_all
theorem Ale{K:aC}{H:Hp}{α:List Addr}{L:UH}{u:U}{x:V}{k:Bool}(A:Abs K H α L)(r:RepU K H α u x)(h:Ae2 u L=some k):An2 K x H k:=by
 cases u with
 | non=>unfold RepU at r;subst r;exact (bQ h).symm
 | bl b=>unfold RepU at r;subst r;exact (bQ h).symm
 | int i=>unfold RepU at r;subst r;exact (bQ h).symm
 | str y=>
  unfold RepU at r;subst r
  unfold Ae2 at h
  simp only at h
  split at h
  ·rename_i hs;cases h;exact ⟨D7 hs,rfl⟩
  ·cases h
 | tup l=>
  unfold RepU at r
  obtain ⟨a,xs,rfl,s,r⟩:=r
  exact .inr (.inl ⟨xs,s,by rw[<- Jc r.length];exact (bQ h).symm⟩)
 | ref n=>
  unfold RepU at r
  obtain ⟨a,ea,rfl⟩:=r
  unfold Ae2 at h
  simp only at h
  cases q:L[n]? with
  | none=>rw[q] at h;simp at h
  | some o=>
   have hr:=A.rep n a o ea q
   rw[q] at h
   cases o with
   | lst us=>obtain ⟨xs,e,r⟩:=hr;exact .inl ⟨xs,.of e,by rw[<- Jc r.length];exact (bQ h).symm⟩
   | ro us=>obtain ⟨xs,e,r⟩:=hr;exact .inl ⟨xs,e.sq,by rw[<- Jc r.length];exact (bQ h).symm⟩
   | dic kvs=>obtain ⟨vs,e,ek,_⟩:=hr;exact .inr (.inr ⟨vs,e,by rw[<- Jc (show kvs.length=vs.length by simpa using congrArg lD ek)];exact (bQ h).symm⟩)
   | rod kvs=>simp at h
   | ins C fs=>simp at h
   | exc C fr fs=>simp at h
noncomputable def Hf(f:FE):FT:=fun δ L=>(f δ L).bind fun p=>(Ae2 p.1 p.2).map fun k=>(k,p.2)
theorem Ee(ha:PEF X a fa)(he:∀ whole,isTrue a X.env whole=(do let v <- whole;standAt a.pos;holding [v] (truthy v)):=by intro _;rfl):PTF X a (Hf fa):=by
 refine PT.imp (Agr ha he) ?_
 rintro σ H Q ⟨α,δ,L,A,S,z,L3,e,q⟩
 obtain ⟨⟨u,L1⟩,e1,e⟩:=aB.mp e
 obtain ⟨k,e2,e⟩:=aH.mp e
 cases e
 exact ⟨α,δ,L,A,S,u,_,e1,fun x H1 α1 g1 A1 r1=>⟨_,Ale A1 r1 e2,q H1 α1 g1 A1⟩⟩
end
inductive Fl where
 | nx (δ:UE) | rt (u:U) | bk (δ:UE) | ct (δ:UE)
abbrev FS:=UE->UH->Option (Fl×UH)
noncomputable def Post(K:aC)(D:Ends)(H:Hp)(α:List Addr)(fl:Fl)(L':UH):Prop:=match fl with
 | .nx δ'=>∀ σ' H' α',Gr H α H' α'->Abs K H' α' L'->RepS K H' α' δ' σ'->D.nx σ' H'
 | .bk δ'=>∀ σ' H' α',Gr H α H' α'->Abs K H' α' L'->RepS K H' α' δ' σ'->D.bk σ' H'
 | .ct δ'=>∀ σ' H' α',Gr H α H' α'->Abs K H' α' L'->RepS K H' α' δ' σ'->D.ct σ' H'
 | .rt u=>∀ v H' α',Gr H α H' α'->Abs K H' α' L'->RepU K H' α' u v->D.rt v H'
theorem Post.from{K:aC}{D:Ends}{H H1:Hp}{α α1:List Addr}{fl:Fl}{L':UH}(g:Gr H α H1 α1)(p:Post K D H α fl L'):Post K D H1 α1 fl L':=by
 cases fl with
 | nx δ=>exact fun σ' H' α' g'=>p σ' H' α' (g.trans g')
 | bk δ=>exact fun σ' H' α' g'=>p σ' H' α' (g.trans g')
 | ct δ=>exact fun σ' H' α' g'=>p σ' H' α' (g.trans g')
 | rt u=>exact fun v H' α' g'=>p v H' α' (g.trans g')
inductive lS(K:aC)(f:FS)(D:Ends)(σ:L2.St)(H:Hp):Prop
 | mk (α:List Addr) (δ:UE) (L:UH) (A:Abs K H α L) (S:RepS K H α δ σ) (fl:Fl) (L':UH) (e:f δ L=some (fl,L')) (q:Post K D H α fl L'):lS K f D σ H
noncomputable def PSF(X:Cx)(st:Stmt)(f:FS):Prop:=PS X st (lS X.K f)
noncomputable def S0(X:Cx)(st:List Stmt)(f:FS):Prop:=PSs X st (lS X.K f)
section
variable {X:Cx}{st:Stmt}{rest:List Stmt}{e:Expr}{pos:Pos}{f g:FS}{fe:FE}
theorem PS.imp{t t':TS}(h:PS X st t)(hi:∀ D σ H,t' D σ H->t D σ H):PS X st t':=fun pins s σ H D I q=>h pins s σ H D I (hi D σ H q)
theorem PSs.imp{sts:List Stmt}{t t':TS}(h:PSs X sts t)(hi:∀ D σ H,t' D σ H->t D σ H):PSs X sts t':=fun pins s σ H D I q=>h pins s σ H D I (hi D σ H q)
noncomputable def Cv:FS:=fun δ L=>some (.nx δ,L)
noncomputable def Be(f g:FS):FS:=fun δ L=>(f δ L).bind fun p=>match p.1 with | .nx δ'=>g δ' p.2 | fl=>some (fl,p.2)
theorem Dg:S0 X [] Cv:=by
 refine PSs.imp Ai2 ?_
 rintro D σ H ⟨α,δ,L,A,S,fl,L',e,q⟩
 cases e
 exact q σ H α (.refl _ _) A S
theorem Am(h1:PSF X st f)(h2:S0 X rest g):S0 X (st::rest) (Be f g):=by
 refine PSs.imp (Afc h1 h2) ?_
 rintro D σ H ⟨α,δ,L,A,S,fl,L',e,q⟩
 obtain ⟨⟨fl1,L1⟩,e1,e⟩:=aB.mp e
 refine ⟨α,δ,L,A,S,fl1,L1,e1,?_⟩
 cases fl1 with
 | nx δ1=>exact fun σ1 H1 α1 g1 A1 S1=>⟨α1,δ1,L1,A1,S1,fl,L',e,q.from g1⟩
 | rt u=>cases e;exact q
 | bk δ1=>cases e;exact q
 | ct δ1=>cases e;exact q
theorem An(h1:PSF X st f):S0 X [st] f:=Ai0 h1
noncomputable def Cg(f:FE):FS:=fun δ L=>(f δ L).map fun p=>(.rt p.1,p.2)
noncomputable def Fz(f:FE):FS:=fun δ L=>(f δ L).map fun p=>(.nx δ,p.2)
noncomputable def Apr:FS:=fun _ L=>some (.rt .non,L)
theorem A8(he:PEF X e fe):PSF X (.Return (some e) pos) (Cg fe):=by
 refine PS.imp (Aml he) ?_
 rintro D σ H ⟨α,δ,L,A,S,fl,L',e,q⟩
 obtain ⟨⟨u,L1⟩,e1,e⟩:=aH.mp e
 cases e
 exact ⟨α,δ,L,A,S,u,_,e1,fun v H1 α1 g1 A1 r1=>q v H1 α1 g1 A1 r1⟩
theorem Ie(he:PEF X e fe)(hs:swapsWith e none pos.line X.env=pure false:=by rfl):PSF X (.Expr e pos) (Fz fe):=by
 refine PS.imp (Aj7 he hs) ?_
 rintro D σ H ⟨α,δ,L,A,S,fl,L',e,q⟩
 obtain ⟨⟨u,L1⟩,e1,e⟩:=aH.mp e
 cases e
 exact ⟨α,δ,L,A,S,u,_,e1,fun v H1 α1 g1 A1 r1=>q σ H1 α1 g1 A1 (S.mono g1)⟩
noncomputable def Dh(c:FT)(f g:FS):FS:=fun δ L=>(c δ L).bind fun p=>if p.1=true then f δ p.2 else g δ p.2
theorem De{c:Expr}{a b:List Stmt}{tc:FT}(hc:PTF X c tc)(ha:S0 X a f)(hb:S0 X b g):PSF X (.If c a b pos) (Dh tc f g):=by
 refine PS.imp (Aqi hc ha hb) ?_
 rintro D σ H ⟨α,δ,L,A,S,fl,L',e,q⟩
 obtain ⟨⟨u,L1⟩,e1,e⟩:=aB.mp e
 refine ⟨α,δ,L,A,S,u,L1,e1,fun H1 α1 g1 A1=>?_⟩
 cases u with
 | true=>exact Aed ⟨α1,δ,L1,A1,S.mono g1,fl,L',e,q.from g1⟩
 | false=>exact Adx ⟨α1,δ,L1,A1,S.mono g1,fl,L',e,q.from g1⟩
noncomputable def Km:FS:=fun _ _=>none
theorem Ug:PSF X st Km:=by
 refine PS.imp Afo ?_
 rintro D σ H ⟨α,δ,L,A,S,fl,L',e,q⟩
 cases e
end
abbrev FG:=U->UE->UH->Option (UE×UH)
abbrev FGs:=List U->UE->UH->Option (UE×UH)
inductive lG(K:aC)(f:FG)(v:V)(σ:L2.St)(H:Hp)(Q:L2.St->Hp->Prop):Prop
 | mk (α:List Addr) (δ:UE) (L:UH) (u:U) (A:Abs K H α L) (S:RepS K H α δ σ) (r:RepU K H α u v) (δ':UE) (L':UH) (e:f u δ L=some (δ',L')) (q:∀ σ' H' α',Gr H α H' α'->Abs K H' α' L'->RepS K H' α' δ' σ'->Q σ' H'):lG K f v σ H Q
inductive lGs(K:aC)(f:FGs)(vs:List V)(σ:L2.St)(H:Hp)(Q:L2.St->Hp->Prop):Prop
 | mk (α:List Addr) (δ:UE) (L:UH) (us:List U) (A:Abs K H α L) (S:RepS K H α δ σ) (r:RepL K H α us vs) (δ':UE) (L':UH) (e:f us δ L=some (δ',L')) (q:∀ σ' H' α',Gr H α H' α'->Abs K H' α' L'->RepS K H' α' δ' σ'->Q σ' H'):lGs K f vs σ H Q
noncomputable def PGF(X:Cx)(e:Expr)(f:FG):Prop:=PG X e (lG X.K f)
noncomputable def Akv(X:Cx)(es:List Expr)(f:FGs):Prop:=PGs X es (lGs X.K f)
section
variable {X:Cx}{e:Expr}{es:List Expr}{pos:Pos}
theorem PG.imp{t t':TG}(h:PG X e t)(hi:∀ v σ H Q,t' v σ H Q->t v σ H Q):PG X e t':=fun pins s σ H v u Q I r q=>h pins s σ H v u Q I r (hi v σ H Q q)
theorem PGs.imp{t t':TGs}(h:PGs X es t)(hi:∀ v σ H Q,t' v σ H Q->t v σ H Q):PGs X es t':=fun pins s σ H v u Q I r q=>h pins s σ H v u Q I r (hi v σ H Q q)
noncomputable def gN(i:Nat):FG:=fun u δ L=>some (δ.set i (some u),L)
theorem Bg{i:Nat}{x:Str}(hN:X.N.Nodup)(hi:X.N[i]? = some x:=by rfl)(hx:Loc X.env.scope x:=by first | exact qY rfl | exact qH rfl)(hf:X.fn x=true\/X.env.scope.names.lookup x=some .local:=by first | exact .inl rfl | exact .inr rfl):PGF X (.Name x pos) (gN i):=by
 refine PG.imp (Adi (i:=i) hN hi hx hf) ?_
 rintro v σ H Q ⟨α,δ,L,u,A,S,r,δ',L',e,q⟩
 cases e
 exact q _ H α (.refl _ _) A (S.set i r)
noncomputable def gNil:FGs:=fun us δ L=>match us with | []=>some (δ,L) | _=>none
noncomputable def gCons(f:FG)(g:FGs):FGs:=fun us δ L=>match us with | []=>none | u::r=>(f u δ L).bind fun p=>g r p.1 p.2
theorem La:Akv X [] MR.gNil:=by
 refine PGs.imp Akj ?_
 rintro vs σ H Q ⟨α,δ,L,us,A,S,r,δ',L',e,q⟩
 cases us with
 | nil=>cases e;exact ⟨by unfold RepL at r;exact r,q σ H α (.refl _ _) A S⟩
 | cons u us=>cases e
theorem D9{f:FG}{g:FGs}(h1:PGF X e f)(h2:Akv X es g)(hs:(assignEach (e::es) X.env).map (·.2)=assign e X.env::(assignEach es X.env).map (·.2):=by rfl):Akv X (e::es) (MR.gCons f g):=by
 refine PGs.imp (Aig h1 h2 hs) ?_
 rintro vs σ H Q ⟨α,δ,L,us,A,S,r,δ',L',e,q⟩
 cases us with
 | nil=>cases e
 | cons u us=>
  unfold RepL at r
  obtain ⟨x,xs,rfl,r1,r2⟩:=r
  obtain ⟨⟨δ1,L1⟩,e1,e⟩:=aB.mp e
  refine ⟨x,xs,rfl,α,δ,L,u,A,S,r1,δ1,L1,e1,fun σ1 H1 α1 g1 A1 S1=>?_⟩
  exact ⟨α1,δ1,L1,us,A1,S1,r2.mono g1,δ',L',e,fun σ2 H2 α2 g2 A2 S2=>q σ2 H2 α2 (g1.trans g2) A2 S2⟩
noncomputable def gTup(n:Nat)(g:FGs):FG:=fun u δ L=>match u with | .tup us=>if us.length=n then g us δ L else none | _=>none
theorem Nl{k:Nat}{g:FGs}{n:Nat}(hc:X.calm=true)(h:Akv X es g)(hn:(assignEach es X.env).length=n:=by rfl)(hst:(assignEach es X.env).findIdx? (·.1)=none:=by rfl):PGF X (.Tuple es k pos) (MR.gTup n g):=by
 refine PG.imp (Anw hc h hn hst) ?_
 rintro v σ H Q ⟨α,δ,L,u,A,S,r,δ',L',e,q⟩
 cases u with
 | tup us=>
  unfold RepU at r
  obtain ⟨a,xs,rfl,s,r⟩:=r
  unfold MR.gTup at e
  simp only at e
  split at e
  ·rename_i hl
   exact ⟨a,xs,rfl,s,by rw[<- r.length];exact hl,α,δ,L,us,A,S,r,δ',L',e,q⟩
  ·cases e
 | _=>simp[MR.gTup] at e
noncomputable def Bh(fe:FE)(g:FG):FS:=fun δ L=>(fe δ L).bind fun p=>(g p.1 δ p.2).map fun q=>(.nx q.1,q.2)
theorem V6{tg:Expr}{fe:FE}{g:FG}(he:PEF X e fe)(hg:PGF X tg g)(hs:swapsWithSole [tg] e pos.line X.env=pure false:=by rfl)(hw:swappedStores [tg] e X.env=pure none:=by rfl)(h1:(assignEach [tg] X.env).map (·.2)=[assign tg X.env]:=by rfl) :
  PSF X (.Assign [tg] e pos) (Bh fe g):=by
 refine PS.imp (Am3 he hg hs hw h1) ?_
 rintro D σ H ⟨α,δ,L,A,S,fl,L',e,q⟩
 obtain ⟨⟨u,L1⟩,e1,e⟩:=aB.mp e
 obtain ⟨⟨δ2,L2⟩,e2,e⟩:=aH.mp e
 cases e
 exact ⟨α,δ,L,A,S,u,L1,e1,fun v H1 α1 g1 A1 r1=>⟨α1,δ,L1,u,A1,S.mono g1,r1,δ2,_,e2,fun σ2 H2 α2 g2 A2 S2=>q σ2 H2 α2 (g1.trans g2) A2 S2⟩⟩
theorem Ay{i:Nat}{x:Str}{fe:FE}{pos':Pos}(hN:X.N.Nodup)(he:PEF X e fe)(hi:X.N[i]? = some x:=by rfl)(hx:Loc X.env.scope x:=by first | exact qY rfl | exact qH rfl)
  (hs:swapsWith e (some (.Name x pos')) pos.line X.env=pure false:=by rfl) (hf:X.fn x=true\/X.env.scope.names.lookup x=some .local:=by first | exact .inl rfl | exact .inr rfl) :
  PSF X (.Assign [.Name x pos'] e pos) (Bh fe (gN i)):=by
 refine PS.imp (Aod (i:=i) hN hi hx he hs hf) ?_
 rintro D σ H ⟨α,δ,L,A,S,fl,L',e,q⟩
 obtain ⟨⟨u,L1⟩,e1,e⟩:=aB.mp e
 obtain ⟨⟨δ2,L2⟩,e2,e⟩:=aH.mp e
 cases e
 cases e2
 exact ⟨α,δ,L,A,S,u,_,e1,fun v H1 α1 g1 A1 r1=>q _ H1 α1 g1 A1 ((S.mono g1).set i r1)⟩
end
noncomputable def Gd(L:UH)(n:Nat):Option (List U):=match L[n]? with
 | some (.lst us)=>some us
 | _=>none
noncomputable def A7(L:UH)(n:Nat):Option (List U):=match L[n]? with
 | some (.lst us)=>some us
 | some (.ro us)=>some us
 | _=>none
inductive IU where
 | seq (us:List U) | ref (n:Nat) | enm (n:Nat) | zip2 (n m:Nat) | zipT (us:List U) (m:Nat) | zipL (n:Nat) (ws:List U)
noncomputable def Pa:Option U->Option U->Option U
 | some x,some y=>some (.tup [x,y])
 | _,_=>none
noncomputable def IU.at(i:IU)(k:Nat)(L:UH):Option (Option U):=match i with
 | .seq us=>some us[k]?
 | .ref n=>match L[n]? with
  | some (.lst us)=>some us[k]?
  | some (.ro us)=>some us[k]?
  | _=>none
 | .enm n=>(A7 L n).map fun us=>(us[k]?).map fun u=>.tup [.int k,u]
 | .zip2 n m=>(A7 L n).bind fun us=>(A7 L m).map fun ws=>Pa us[k]? ws[k]?
 | .zipT us m=>(A7 L m).map fun ws=>Pa us[k]? ws[k]?
 | .zipL n ws=>(A7 L n).map fun us=>Pa us[k]? ws[k]?
noncomputable def IU.size(i:IU)(L:UH):Nat:=match i with
 | .seq us=>us.length
 | .ref n=>match L[n]? with
  | some (.lst us)=>us.length
  | some (.ro us)=>us.length
  | _=>0
 | .enm n=>match A7 L n with
  | some us=>us.length
  | none=>0
 | .zip2 n m=>match A7 L n,A7 L m with
  | some us,some ws=>min us.length ws.length
  | _,_=>0
 | .zipT us m=>match A7 L m with
  | some ws=>min us.length ws.length
  | none=>0
 | .zipL n ws=>match A7 L n with
  | some us=>min us.length ws.length
  | none=>0
abbrev FI:=UE->UH->Option (IU×UH)
noncomputable def Nt(K:aC)(J:It)(i:IU)(H:Hp)(α:List Addr):Prop:=∀ (H2:Hp) (α2:List Addr) (L2:UH),Gr H α H2 α2->Abs K H2 α2 L2->∀ k:Nat,
 (∀ u,i.at k L2=some (some u)->J.go k H2/\∀ x H3,J.yld k H2 x H3->Gr H2 α2 H3 α2/\Abs K H3 α2 L2/\RepU K H3 α2 u x)/\(i.at k L2=some none->J.stop k H2)
inductive lI(K:aC)(f:FI)(σ:L2.St)(H:Hp)(R:It->Hp->Prop):Prop
 | mk (α:List Addr) (δ:UE) (L:UH) (A:Abs K H α L) (S:RepS K H α δ σ) (i:IU) (L':UH) (e:f δ L=some (i,L')) (q:∀ J H' α',Gr H α H' α'->Abs K H' α' L'->Nt K J i H' α'->R J H'):lI K f σ H R
noncomputable def PIF(X:Cx)(tg iter:Expr)(f:FI):Prop:=PI X tg iter (lI X.K f)
section
variable {X:Cx}{tg iter l:Expr}{pos:Pos}{fe:FE}
theorem PI.imp{t t':TI}(h:PI X tg iter t)(hi:∀ σ H R,t' σ H R->t σ H R):PI X tg iter t':=fun pins s σ H R I q=>h pins s σ H R I (hi σ H R q)
theorem PI.or{t t':TI}(h:PI X tg iter t)(h':PI X tg iter t'):PI X tg iter (fun σ H R=>t σ H R\/t' σ H R):=fun pins s σ H R I q=>by
 rcases q with q | q
 ·exact h pins s σ H R I q
 ·exact h' pins s σ H R I q
noncomputable def Pb(u:U)(L:UH):Option IU:=match u with
 | .tup us=>some (.seq us)
 | .ref n=>match L[n]? with
  | some (.lst _)=>some (.ref n)
  | some (.ro _)=>some (.ref n)
  | _=>none
 | _=>none
theorem Acj{K:aC}{H:Hp}{α:List Addr}{n:Nat}{a:Addr}(ea:α[n]? = some a):Nt K (Itl K a) (.ref n) H α:=by
 intro H2 α2 L2 g A2 k
 have ea2:=g.at ea
 have go:∀ (us:List U) (xs:List V),SqL K H2 a xs->RepL K H2 α2 us xs->(∀ ys,SqL K H2 a ys->True)->(∀ u,us[k]? = some u->(Itl K a).go k H2/\∀ x H3,(Itl K a).yld k H2 x H3->Gr H2 α2 H3 α2/\Abs K H3 α2 L2/\RepU K H3 α2 u x)/\(us[k]? = none->(Itl K a).stop k H2):=by
  intro us xs sq r _
  refine ⟨fun u eu=>?_,fun eu=>?_⟩
  ·obtain ⟨x,ex,rx⟩:=r.get eu
   refine ⟨⟨xs,x,sq,ex⟩,?_⟩
   rintro y H3 ⟨rfl,hy⟩
   have:=hy xs sq
   rw[ex] at this;cases this
   exact ⟨.refl _ _,A2,rx⟩
  ·exact ⟨xs,sq,by rw[<- r.length];exact cS.mp eu⟩
 unfold IU.at
 simp only
 cases q:L2[n]? with
 | none=>simp
 | some o=>
  have hr:=A2.rep n a o ea2 q
  cases o with
  | lst us=>
   obtain ⟨xs,e,r⟩:=hr
   obtain ⟨h1,h2⟩:=go us xs (.of e) r fun _ _=>trivial
   exact ⟨fun u eu=>h1 u (bQ eu),fun eu=>h2 (bQ eu)⟩
  | ro us=>
   obtain ⟨xs,e,r⟩:=hr
   obtain ⟨h1,h2⟩:=go us xs e.sq r fun _ _=>trivial
   exact ⟨fun u eu=>h1 u (bQ eu),fun eu=>h2 (bQ eu)⟩
  | dic kvs=>simp
  | rod kvs=>simp
  | ins C fs=>simp
  | exc C fr fs=>simp
theorem Ak9{K:aC}{H:Hp}{α:List Addr}{us:List U}{xs:List V}{a:Addr}(sq:SqT K H a xs)(r:RepL K H α us xs):Nt K (Itt K a) (.seq us) H α:=by
 intro H2 α2 L2 g A2 k
 have sq2:=g.st.sqT (K:=K) sq
 have r2:=r.mono g
 refine ⟨fun u eu=>?_,fun eu=>?_⟩
 ·obtain ⟨x,ex,rx⟩:=r2.get (bQ eu)
  refine ⟨⟨xs,x,sq2,ex⟩,?_⟩
  rintro y H3 ⟨rfl,hy⟩
  have:=hy xs sq2
  rw[ex] at this;cases this
  exact ⟨.refl _ _,A2,rx⟩
 ·exact ⟨xs,sq2,by rw[<- r2.length];exact cS.mp (bQ eu)⟩
theorem Aiz{K:aC}{H:Hp}{α:List Addr}(lo:Int)(n:Nat):Nt K (Itr lo n) (.seq ((iX n).map fun i=>U.int (lo+(i:Nat)))) H α:=by
 intro H2 α2 L2 g A2 k
 refine ⟨fun u eu=>?_,fun eu=>?_⟩
 ·have eu:=bQ eu
  rw[bV] at eu
  by_cases hk:k < n
  ·rw[nO hk] at eu
   simp at eu
   refine ⟨hk,?_⟩
   rintro x H3 ⟨rfl,rfl⟩
   subst eu
   exact ⟨.refl _ _,A2,rfl⟩
  ·rw[dM (by simpa using hk)] at eu
   simp at eu
 ·have:=cS.mp (bQ eu)
  show n<=k
  simpa using this
noncomputable def Cu(f:FE):FI:=fun δ L=>(f δ L).bind fun p=>(Pb p.1 p.2).map fun i=>(i,p.2)
theorem Dy(h:PEF X l fe):PIF X tg l (Cu fe):=by
 refine PI.imp (PI.or (Aj2 h) (Amx h)) ?_
 rintro σ H R ⟨α,δ,L,A,S,i,L3,e,q⟩
 obtain ⟨⟨u,L1⟩,e1,e⟩:=aB.mp e
 obtain ⟨j,e2,e⟩:=aH.mp e
 cases e
 cases u with
 | tup us=>
  cases e2
  refine .inr ⟨α,δ,L,A,S,_,_,e1,fun x H1 α1 g1 A1 r1=>?_⟩
  unfold RepU at r1
  obtain ⟨a,xs,rfl,sq,r⟩:=r1
  exact ⟨a,rfl,⟨xs,sq⟩,q _ H1 α1 g1 A1 (Ak9 sq r)⟩
 | ref n=>
  refine .inl ⟨α,δ,L,A,S,_,_,e1,fun x H1 α1 g1 A1 r1=>?_⟩
  unfold RepU at r1
  obtain ⟨a,ea,rfl⟩:=r1
  refine ⟨a,rfl,?_⟩
  unfold Pb at e2
  simp only at e2
  cases w:L1[n]? with
  | none=>simp only[w] at e2;cases e2
  | some o=>
   have hr:=A1.rep n a o ea w
   cases o with
   | lst us=>simp only[w] at e2;cases e2;obtain ⟨xs,e,r⟩:=hr;exact ⟨⟨xs,.of e⟩,q _ H1 α1 g1 A1 (Acj ea)⟩
   | ro us=>simp only[w] at e2;cases e2;obtain ⟨xs,e,r⟩:=hr;exact ⟨⟨xs,e.sq⟩,q _ H1 α1 g1 A1 (Acj ea)⟩
   | dic kvs=>simp only[w] at e2;cases e2
   | rod kvs=>simp only[w] at e2;cases e2
   | ins C fs=>simp only[w] at e2;cases e2
   | exc C fr fs=>simp only[w] at e2;cases e2
 | _=>cases e2
noncomputable def Fb(lo:Int)(n:Nat):List U:=(iX n).map fun i=>U.int (lo+(i:Nat))
noncomputable def Oc(g:FA):FI:=fun δ L=>(g δ L).bind fun p=>match p.1 with
 | [.int j]=>if -(2 ^ 62)<=j/\j < 2 ^ 62 then some (.seq (Fb 0 j.toNat),p.2) else none
 | _=>none
noncomputable def Aln(g:FA):FI:=fun δ L=>(g δ L).bind fun p=>match p.1 with
 | [.int i,.int j]=>if (-(2 ^ 62)<=i/\i < 2 ^ 62)/\-(2 ^ 62)<=j/\j < 2 ^ 62 then some (.seq (Fb i (j - i).toNat),p.2) else none
 | _=>none
theorem RepL.one{K:aC}{H:Hp}{α:List Addr}{u:U}{xs:List V}(h:RepL K H α [u] xs):∃ x,xs=[x]/\RepU K H α u x:=by
 unfold RepL at h
 obtain ⟨x,r,e,h1,h2⟩:=h
 unfold RepL at h2
 subst h2
 exact ⟨x,e,h1⟩
theorem RepL.two{K:aC}{H:Hp}{α:List Addr}{u w:U}{xs:List V}(h:RepL K H α [u,w] xs):∃ x y,xs=[x,y]/\RepU K H α u x/\RepU K H α w y:=by
 unfold RepL at h
 obtain ⟨x,r,e,h1,h2⟩:=h
 obtain ⟨y,e2,h3⟩:=h2.one
 subst e2
 exact ⟨x,y,e,h1,h3⟩
theorem Qx{a:Expr}{g:FA}{p pos:Pos}(hg:Gl X "range")(hm:X.mg "range" = none)(ha:PAF X [a] g)(hs:aS [a] X.env=[(false,eval a X.env)]:=by rfl):PIF X tg (.Call (.Name "range" p) [a] [] pos) (Oc g):=by
 refine PI.imp (Ae1 hg hm ha hs) ?_
 rintro σ H R ⟨α,δ,L,A,S,i,L3,e,q⟩
 obtain ⟨⟨us,L1⟩,e1,e⟩:=aB.mp e
 refine ⟨α,δ,L,A,S,us,L1,e1,fun xs H1 α1 g1 A1 r1=>?_⟩
 simp only at e
 split at e
 ·rename_i _ j
  split at e
  ·rename_i hj
   cases e
   obtain ⟨x,rfl,rx⟩:=r1.one
   unfold RepU at rx
   subst rx
   exact ⟨j,rfl,hj.1,hj.2,q _ H1 α1 g1 A1 (Aiz 0 _)⟩
  ·cases e
 ·cases e
noncomputable def N3(i:IU)(g:FG)(body:FS):Nat->Nat->UE->UH->Option (Fl×UH)
 | 0,_,_,_=>none
 | m+1,k,δ,L=>match i.at k L with
  | none=>none
  | some none=>some (.nx δ,L)
  | some (some u)=>(g u δ L).bind fun p=>(body p.1 p.2).bind fun q=>match q.1 with
   | .nx δ'=>N3 i g body m (k+1) δ' q.2
   | .ct δ'=>N3 i g body m (k+1) δ' q.2
   | .bk δ'=>some (.nx δ',q.2)
   | .rt w=>some (.rt w,q.2)
noncomputable def Rc(fi:FI)(g:FG)(body:FS):FS:=fun δ L=>(fi δ L).bind fun p=>N3 p.1 g body (p.1.size p.2+1) 0 δ p.2
inductive FI_(K:aC)(D:Ends)(H1:Hp)(α1:List Addr)(fl:Fl)(L':UH)(go:UE->UH->Option (Fl×UH))(σ2:_root_.L2.St)(H2:Hp):Prop
 | mk (α2:List Addr) (δ2:UE) (L2:UH) (g2:Gr H1 α1 H2 α2) (A2:Abs K H2 α2 L2) (S2:RepS K H2 α2 δ2 σ2) (e2:go δ2 L2=some (fl,L')) (q2:Post K D H2 α2 fl L'):FI_ K D H1 α1 fl L' go σ2 H2
theorem L9{body:List Stmt}{fi:FI}{g:FG}{fb:FS}(hp:PassesOwn (model X.prog X.w) X.A X.env X.xe)(hc:X.calm=true)(hi:PIF X tg iter fi)(hg:PGF X tg g)(hb:S0 X body fb)
  (hs:∀ x,foldedSetIterable iter X.env x=pure x:=by intro _;rfl):PSF X (.For tg iter body [] pos) (Rc fi g fb):=by
 refine PS.imp (Anb hp hc hi hg hb hs) ?_
 rintro D σ H ⟨α,δ,L,A,S,fl,L',e,q⟩
 obtain ⟨⟨it,L1⟩,e1,e⟩:=aB.mp e
 refine ⟨α,δ,L,A,S,it,L1,e1,fun J H1 α1 g1 A1 hJ=>?_⟩
 refine ⟨fun k m=>FI_ X.K D H1 α1 fl L' (N3 it g fb m k),⟨_,α1,δ,L1,.refl _ _,A1,S.mono g1,e,q.from g1⟩,?_⟩
 rintro k m σ2 H2 ⟨α2,δ2,L2,g2,A2,S2,e2,q2⟩
 cases m with
 | zero=>cases e2
 | succ m=>
  obtain ⟨hgo,hstop⟩:=hJ H2 α2 L2 g2 A2 k
  unfold N3 at e2
  cases hat:it.at k L2 with
  | none=>rw[hat] at e2;cases e2
  | some o=>
   cases o with
   | none=>
    rw[hat] at e2
    cases e2
    exact .inl ⟨hstop hat,q2 σ2 H2 α2 (.refl _ _) A2 S2⟩
   | some u=>
    rw[hat] at e2
    obtain ⟨go,yld⟩:=hgo u hat
    obtain ⟨⟨δ3,L3⟩,e3,e2⟩:=aB.mp e2
    obtain ⟨⟨fl4,L4⟩,e4,e2⟩:=aB.mp e2
    refine .inr ⟨go,FI_ X.K D H1 α1 fl L' (N3 it g fb m (k+1)),fun σ5 H5 h5=>⟨m,fQ _,h5⟩,fun x H3 y3=>?_⟩
    obtain ⟨g3,A3,r3⟩:=yld x H3 y3
    refine ⟨α2,δ2,L2,u,A3,S2.mono g3,r3,δ3,L3,e3,fun σ4 H4 α4 g4 A4 S4=>⟨α4,δ3,L3,A4,S4,fl4,L4,e4,?_⟩⟩
    have gA:=g2.trans (g3.trans g4)
    have gB:=g3.trans g4
    cases fl4 with
    | nx δ5=>exact fun σ5 H5 α5 g5 A5 S5=>⟨α5,δ5,L4,gA.trans g5,A5,S5,e2,q2.from (gB.trans g5)⟩
    | ct δ5=>exact fun σ5 H5 α5 g5 A5 S5=>⟨α5,δ5,L4,gA.trans g5,A5,S5,e2,q2.from (gB.trans g5)⟩
    | bk δ5=>cases e2;exact fun σ5 H5 α5 g5 A5 S5=>q2 σ5 H5 α5 (gB.trans g5) A5 S5
    | rt w=>cases e2;exact fun v H5 α5 g5 A5 r5=>q2 v H5 α5 (gB.trans g5) A5 r5
inductive WI_(K:aC)(D:Ends)(fl:Fl)(L':UH)(go:UE->UH->Option (Fl×UH))(σ2:_root_.L2.St)(H2:Hp):Prop
 | mk (α2:List Addr) (δ2:UE) (L2:UH) (A2:Abs K H2 α2 L2) (S2:RepS K H2 α2 δ2 σ2) (e2:go δ2 L2=some (fl,L')) (q2:Post K D H2 α2 fl L'):WI_ K D fl L' go σ2 H2
end
noncomputable def fnU(n m:Nat)(body:FS):FN:=fun us L=>if us.length=m then (body (us.map some++aT (n - us.length) none) L).bind fun p=>match p.1 with
 | .rt u=>some (u,p.2)
 | .nx _=>some (.non,p.2)
 | _=>none
 else none
section
variable {P:bN}{w:bW}{K:aC}{mg:Str->Option aE}{base:Heap}
theorem Fun.okF{x qual:Str}{st:Stmt}{f:Addr}{fd:bM}{N ps:List Str}{k:Nat}{body:FS}(F:Fun K x qual st f fd)(S:FnScope N ps (Ak st))
  (hbody:∀ (cdv:aE) (A:cK) (outer:List eN) (s:aI) (H:Hp) (E:XK),Room k (A.deeper (envOfC qual (Ak st) s.heap.objs.size f cdv))->S0 (Vu CX0 P w K mg base N qual (Ak st) f cdv A outer s H E).nox (A0 st) body) :
  FnOk P w K mg base CX0 (k+1) f fd ps (spF K ps.length (fnU N.length ps.length body)):=by
 refine F.ok S (fun vs H Q E ⟨α,L,us,A,r,hl,_,_,_,_⟩=>by rw[<- r.length];exact hl) (fun cdv A outer s H vs Q E hr h=>?_)
 obtain ⟨α,L,us,Ab,r,hl,u,L',e,q⟩:=h
 refine ⟨_,hbody cdv A outer s H E hr,?_⟩
 unfold fnU at e
 rw[if_pos hl] at e
 obtain ⟨⟨fl,L1⟩,e1,e⟩:=aB.mp e
 refine ⟨α,_,L,Ab,RepS.start N r,fl,L1,e1,?_⟩
 cases fl with
 | rt w=>cases e;exact q
 | nx δ=>cases e;exact fun σ' H' α' g' A' S'=>q .non H' α' g' A' rfl
 | bk δ=>cases e
 | ct δ=>cases e
end
section
variable {K:aC}{H:Hp}{α:List Addr}{L:UH}{u:U}{x:V}
theorem Sm{n:Nat}{us:List U}(h:Gd L n=some us):L[n]? = some (.lst us):=by
 unfold Gd at h
 split at h
 ·rename_i e;cases h;exact e
 ·cases h
theorem N8{n:Nat}{us:List U}(A:Abs K H α L)(h:Gd L n=some us):∃ a xs,α[n]? = some a/\H a=some (.lst xs)/\RepL K H α us xs:=by
 obtain ⟨a,ea,xs,e,r⟩:=A.addr (Sm h)
 exact ⟨a,xs,ea,e,r⟩
theorem Np{n:Nat}{us:List U}(A:Abs K H α L)(h:A7 L n=some us):∃ a xs,α[n]? = some a/\SqL K H a xs/\RepL K H α us xs:=by
 unfold A7 at h
 split at h
 ·rename_i e;cases h
  obtain ⟨a,ea,xs,e,r⟩:=A.addr e
  exact ⟨a,xs,ea,.of e,r⟩
 ·rename_i e;cases h
  obtain ⟨a,ea,xs,e,r⟩:=A.addr e
  exact ⟨a,xs,ea,e.sq,r⟩
 ·cases h
theorem Abs.setL{n:Nat}{a:Addr}{xs ys:List V}{us ws:List U}(A:Abs K H α L)(h:Gd L n=some us)(ea:α[n]? = some a)(e:H a=some (.lst xs))(r:RepL K H α ws ys) :
  Gr H α (upd H a (.lst ys)) α/\Abs K (upd H a (.lst ys)) α (L.set n (.lst ws)):=by
 have g:Gr H α (upd H a (.lst ys)) α:=⟨⟨[],by simp⟩,.write e (by exact trivial) _⟩
 obtain ⟨A',_⟩:=A.put (o:=.lst ys) (u:=.lst ws) ea (Sm h) rfl rfl e (by exact trivial) ⟨ys,upd_same,r.mono g⟩
 exact ⟨g,A'⟩
theorem RepU.ref_of{n:Nat}(A:Abs K H α L)(h:RepU K H α (.ref n) x):∃ a,α[n]? = some a/\x = .ref a:=by unfold RepU at h;exact h
end
noncomputable def Bs:S2:=fun u w L=>match u,w with
 | .int i,.int j=>some (.int (i+j),L)
 | .str a,.str b=>if Dk (a.length+b.length)=true then some (.str (a++b),L) else none
 | .tup a,.tup b=>if a.isEmpty=false/\Dk (a.length+b.length)=true then some (.tup (a++b),L) else none
 | .ref n,.ref m=>(Gd L n).bind fun a=>(Gd L m).bind fun b=>if Dk (a.length+b.length)=true then some (.ref L.length,L++[.lst (a++b)]) else none
 | _,_=>none
noncomputable def Ahg(K:aC):R2:=fun x y H Q=>rI0 (fun i j=>.int (i+j)) x y H Q\/(∃ i j,x = .str i/\y = .str j/\i.length+j.length<=sizeLine/\Q (.str (i++j)) H)\/rCatT K x y H Q\/rCat x y H Q
theorem D6{X:Cx}:OpR X (eL .Add) (Ahg X.K):=Am9.or (Aae.or (Ajm.or Am6))
theorem Dz{K:aC}:Di K (Ahg K) Bs:=by
 intro H α L u w x y z L' Q A ru rw e q
 unfold Bs at e
 split at e
 ·cases e
  unfold RepU at ru rw
  exact .inl ⟨_,_,ru,rw,q _ H α (.refl _ _) A rfl⟩
 ·split at e
  ·rename_i h
   cases e
   unfold RepU at ru rw
   exact .inr (.inl ⟨_,_,ru,rw,D7 h,q _ H α (.refl _ _) A rfl⟩)
  ·cases e
 ·rename_i a b
  split at e
  ·rename_i h
   cases e
   unfold RepU at ru rw
   obtain ⟨p,xs,rfl,s1,r1⟩:=ru
   obtain ⟨p2,ys,rfl,s2,r2⟩:=rw
   have e1:=r1.length
   have e2:=r2.length
   refine .inr (.inr (.inl ⟨p,p2,xs,ys,rfl,rfl,s1,s2,?_,by rw[<- e1,<- e2];exact D7 h.2,fun hy=>?_,fun hy l hl=>?_⟩))
   ·intro hx;subst hx
    cases a with
    | nil=>simp at h
    | cons _ _=>simp at e1
   ·subst hy
    have hb:b=[]:=by
     cases b with
     | nil=>rfl
     | cons _ _=>simp at e2
    subst hb
    refine q _ H α (.refl _ _) A ?_
    unfold RepU
    exact ⟨p,xs,rfl,s1,by rw[aX];exact r1⟩
   ·obtain ⟨g,A',r⟩:=A.tup (r1.append r2) hl
    exact q _ _ α g A' r
  ·cases e
 ·rename_i n m
  obtain ⟨a,ha,e⟩:=aB.mp e
  obtain ⟨b,hb,e⟩:=aB.mp e
  split at e
  ·rename_i h
   cases e
   obtain ⟨p,xs,e1,h1,r1⟩:=N8 A ha
   obtain ⟨p2,ys,e2,h2,r2⟩:=N8 A hb
   obtain ⟨p',e1',rfl⟩:=ru.ref_of A
   obtain ⟨p2',e2',rfl⟩:=rw.ref_of A
   rw[e1] at e1';cases e1'
   rw[e2] at e2';cases e2'
   refine .inr (.inr (.inr ⟨p,p2,xs,ys,rfl,rfl,h1,h2,by rw[<- r1.length,<- r2.length];exact D7 h,fun l hl=>?_⟩))
   obtain ⟨g,A',r⟩:=A.lst (r1.append r2) hl
   exact q _ _ _ g A' r
  ·cases e
 ·cases e
noncomputable def Ae8(C:Int->Int->Bool)(g:Int->Int->U):S2:=fun u w L=>match u,w with
 | .int i,.int j=>if C i j=true then some (g i j,L) else none
 | _,_=>none
theorem Agz{K:aC}{C:Int->Int->Prop}{Cb:Int->Int->Bool}{g:Int->Int->V}{g':Int->Int->U}(hC:∀ i j,Cb i j=true->C i j)(hg:∀ i j H α,RepU K H α (g' i j) (g i j)):Di K (rI C g) (Ae8 Cb g'):=by
 intro H α L u w x y z L' Q A ru rw e q
 unfold Ae8 at e
 split at e
 ·split at e
  ·rename_i h
   cases e
   unfold RepU at ru rw
   exact ⟨_,_,ru,rw,hC _ _ h,q _ H α (.refl _ _) A (hg _ _ _ _)⟩
  ·cases e
 ·cases e
noncomputable def Ro(g:Int->Int->U):S2:=fun u w L=>match u,w with
 | .int i,.int j=>some (g i j,L)
 | _,_=>none
theorem Qm{K:aC}{g:Int->Int->V}{g':Int->Int->U}(hg:∀ i j H α,RepU K H α (g' i j) (g i j)):Di K (rI0 g) (Ro g'):=by
 intro H α L u w x y z L' Q A ru rw e q
 unfold Ro at e
 split at e
 ·cases e
  unfold RepU at ru rw
  exact ⟨_,_,ru,rw,q _ H α (.refl _ _) A (hg _ _ _ _)⟩
 ·cases e
noncomputable def Dw:S2:=Ro fun i j=>.int (i - j)
theorem Gu{K:aC}:Di K (rI0 fun i j=>.int (i - j)) Dw:=Qm fun _ _ _ _=>rfl
noncomputable def Ir(i j:Int):Bool:=(decide (-(2 ^ 64) < i)&&decide (i < 2 ^ 64)) || (decide (-(2 ^ 64) < j)&&decide (j < 2 ^ 64))
noncomputable def Gn:S2:=fun u w L=>match u,w with
 | .int i,.int j=>if Ir i j=true then some (.int (i * j),L) else none
 | .str a,.int j=>if a.length<=1000/\-1000<=j/\j<=1000 then some (.str (qZ a j),L) else none
 | .ref n,.int k=>(Gd L n).bind fun a=>if -1000000<=k/\k<=1000000/\Dk (a.length * k.toNat)=true then some (.ref L.length,L++[.lst (aT k.toNat a).flatten]) else none
 | _,_=>none
noncomputable def Alw:R2:=fun x y H Q=>rI CMul (fun i j=>.int (i * j)) x y H Q\/(∃ a j,x = .str a/\y = .int j/\MulOk a j/\Q (.str (qZ a j)) H)\/rRep x y H Q
theorem Aay{X:Cx}:OpR X (eL .Mult) (fun x y H Q=>∃ a j,x = .str a/\y = .int j/\MulOk a j/\Q (.str (qZ a j)) H):=by
 intro pins s σ H x y v u Q I rx ry h
 obtain ⟨a,j,rfl,rfl,hok,q⟩:=h
 obtain ⟨t,rfl⟩:=rx
 obtain ⟨t',rfl⟩:=ry
 exact SB.mul hok fun t' k=>⟨.str (qZ a j),H,I.tok _,⟨_,rfl⟩,q⟩
theorem Ja{X:Cx}:OpR X (eL .Mult) Alw:=Al7.or (Aay.or Amm)
theorem RepL.flat{K:aC}{H:Hp}{α:List Addr}{us:List U}{xs:List V}(h:RepL K H α us xs):∀ k:Nat,RepL K H α (aT k us).flatten (aT k xs).flatten
 | 0=>.nil
 | k+1=>by rw[eF,eF,fI,fI];exact h.append (RepL.flat h k)
theorem Iu{K:aC}:Di K Alw Gn:=by
 intro H α L u w x y z L' Q A ru rw e q
 unfold Gn at e
 split at e
 ·rename_i i j
  split at e
  ·rename_i h
   cases e
   unfold RepU at ru rw
   refine .inl ⟨_,_,ru,rw,?_,q _ H α (.refl _ _) A rfl⟩
   simp only[Ir,jO,dA,decide_eq_true_eq] at h
   exact h
  ·cases e
 ·rename_i a j
  split at e
  ·rename_i h
   cases e
   unfold RepU at ru rw
   exact .inr (.inl ⟨_,_,ru,rw,mulOk_of 1000 1000 h.1 (by omega) (by omega) (by decide) (by decide),q _ H α (.refl _ _) A rfl⟩)
  ·cases e
 ·rename_i n k
  obtain ⟨a,ha,e⟩:=aB.mp e
  split at e
  ·rename_i h
   cases e
   obtain ⟨p,xs,e1,h1,r1⟩:=N8 A ha
   obtain ⟨p',e1',rfl⟩:=ru.ref_of A
   rw[e1] at e1';cases e1'
   unfold RepU at rw
   refine .inr (.inr ⟨p,k,xs,rfl,rw,h1,by omega,by omega,by rw[<- r1.length];exact D7 h.2.2,fun l hl=>?_⟩)
   obtain ⟨g,A',r⟩:=A.lst (r1.flat k.toNat) hl
   exact q _ _ _ g A' r
  ·cases e
 ·cases e
noncomputable def Af5(i j:Int):Prop:=0 < j/\j < 1152921504606846976
theorem Wv{X:Cx}:OpR X (eL .FloorDiv) (rI Af5 fun i j=>.int (i / j)):=opI fun i j _ _ _ _ _ hc q=>by
 have h1:(0:Int) < j:=hc.1
 have h2:j < 1152921504606846976:=hc.2
 refine floordiv_int (by omega) (by rw[Int.fdiv_eq_ediv_of_nonneg i (by omega)];exact q) (.inl (PyProof.noPylong_of_log2 ?_))
 have h3:j.natAbs.log2 < 60:=(Nat.log2_lt (by omega)).mpr (by omega)
 omega
noncomputable def T8(i j:Int):Bool:=decide (0 < j)&&decide (j < 1152921504606846976)
noncomputable def Wc:S2:=Ae8 T8 fun i j=>.int (i / j)
theorem Abr{K:aC}:Di K (rI Af5 fun i j=>.int (i / j)) Wc:=Agz (fun i j h=>by simpa[T8,Af5] using h) fun _ _ _ _=>rfl
noncomputable def Jg:S2:=Ae8 (fun _ j=>decide (0 < j)) fun i j=>.int (i % j)
theorem Im{K:aC}:Di K (rI (fun _ j=>0 < j) fun i j=>.int (i % j)) Jg:=Agz (fun i j h=>by simpa using h) fun _ _ _ _=>rfl
noncomputable def U4(i j:Int):Bool:=decide (0<=j)&&decide (j<=1000000)&&decide (i.natAbs < 2 ^ 64)
noncomputable def My:S2:=Ae8 U4 fun i j=>.int (i ^ j.toNat)
theorem Oa{K:aC}:Di K (rI Apf fun i j=>.int (i ^ j.toNat)) My:=Agz (fun i j h=>by simp[U4] at h;exact ⟨h.1.1,h.1.2,h.2⟩) fun _ _ _ _=>rfl
noncomputable def D8:S2:=Ro fun i j=>.bl (decide (i<=j))
noncomputable def Qr:S2:=Ro fun i j=>.bl (decide (j < i))
noncomputable def Aha:S2:=Ro fun i j=>.bl (decide (j<=i))
noncomputable def Ahq:S2:=Ro fun i j=>.bl (decide (i < j))
theorem Hz{K:aC}:Di K (rI0 fun i j=>.bl (decide (i<=j))) D8:=Qm fun _ _ _ _=>rfl
theorem Agn{K:aC}:Di K (rI0 fun i j=>.bl (decide (j < i))) Qr:=Qm fun _ _ _ _=>rfl
theorem Ams{K:aC}:Di K (rI0 fun i j=>.bl (decide (j<=i))) Aha:=Qm fun _ _ _ _=>rfl
theorem Aoh{K:aC}:Di K (rI0 fun i j=>.bl (decide (i < j))) Ahq:=Qm fun _ _ _ _=>rfl
noncomputable def mapO{β γ:Type}(f:β->Option γ):List β->Option (List γ)
 | []=>some []
 | u::r=>(f u).bind fun d=>(mapO f r).map fun ds=>d::ds
noncomputable def toP(L:UH):Nat->U->Option qI
 | 0,_=>none
 | _+1,.non=>some .none
 | _+1,.bl b=>some (.bool b)
 | _+1,.int i=>some (.int i)
 | _+1,.str x=>some (.str x)
 | n+1,.tup l=>(mapO (toP L n) l).map .tuple
 | n+1,.ref k=>(A7 L k).bind fun l=>(mapO (toP L n) l).map .list
section
variable {X:Cx}{pins:List (Addr×Obj)}{σ:L2.St}{H:Hp}{s:aI}{α:List Addr}{L:UH}
theorem Vf{n:Nat}(ih:∀ (u:U) (x:V) (v:aE) (d:qI),RepU X.K H α u x->RelV x v->toP L n u=some d->∃ as,Reads s.heap v d as):∀ (l:List U) (xs:List V) (vs:List aE) (ds:List qI),RepL X.K H α l xs->Vals xs vs->mapO (toP L n) l=some ds->∃ as,ReadsAll s.heap vs ds as
 | [],xs,vs,ds,r,hv,e=>by
  unfold RepL at r;subst r;cases hv;cases e;exact ⟨_,.nil⟩
 | u::l,xs,vs,ds,r,hv,e=>by
  unfold RepL at r
  obtain ⟨x,xr,rfl,r1,r2⟩:=r
  cases hv with
  | cons h1 h2=>
   obtain ⟨d,e1,e⟩:=aB.mp e
   obtain ⟨dr,e2,e⟩:=aH.mp e
   subst e
   obtain ⟨as,q1⟩:=ih u x _ d r1 h1 e1
   obtain ⟨bs,q2⟩:=Vf ih l xr _ dr r2 h2 e2
   exact ⟨_,.cons q1 q2⟩
theorem Ow(I:Inv X pins σ H s)(A:Abs X.K H α L):∀ (n:Nat) (u:U) (x:V) (v:aE) (d:qI),RepU X.K H α u x->RelV x v->toP L n u=some d->∃ as,Reads s.heap v d as
 | 0,_,_,_,_,_,_,e=>by cases e
 | n+1,u,x,v,d,r,hv,e=>by
  cases u with
  | non=>unfold RepU at r;subst r;cases hv;cases e;exact ⟨_,.none⟩
  | bl b=>unfold RepU at r;subst r;cases hv;cases e;exact ⟨_,.bool b⟩
  | int i=>unfold RepU at r;subst r;obtain ⟨t,rfl⟩:=hv;cases e;exact ⟨_,.int i t⟩
  | str y=>unfold RepU at r;subst r;obtain ⟨t,rfl⟩:=hv;cases e;exact ⟨_,.str y t⟩
  | tup l=>
   unfold RepU at r
   obtain ⟨a,xs,rfl,sq,r⟩:=r
   cases hv
   unfold toP at e
   obtain ⟨ds,e1,e⟩:=aH.mp e
   subst e
   obtain ⟨its,hv,⟨o,h1,h2,m,h3⟩,_⟩:=I.tuple sq
   obtain ⟨as,q⟩:=Vf (Ow I A n) l xs its ds r hv e1
   exact ⟨_,.tuple h1 h2 h3 (by simpa using q)⟩
  | ref k=>
   unfold RepU at r
   obtain ⟨a,ea,rfl⟩:=r
   cases hv
   unfold toP at e
   obtain ⟨l,hl,e⟩:=aB.mp e
   obtain ⟨ds,e1,e⟩:=aH.mp e
   subst e
   obtain ⟨a',xs,ea',sq,r⟩:=Np A hl
   rw[ea] at ea';cases ea'
   obtain ⟨its,hv,⟨o,m,h1,h2,_,h3⟩,_⟩:=I.list sq
   obtain ⟨as,q⟩:=Vf (Ow I A n) l xs its ds r hv e1
   exact ⟨_,.list h1 h2 h3 (by simpa using q)⟩
end
noncomputable def eqP(u w:U)(L:UH):Option Bool:=(toP L 8 u).bind fun d=>(toP L 8 w).bind fun e=>if eR d=true/\eR e=true then some (cW d e) else none
inductive rEqU(K:aC)(neg:Bool)(x y:V)(H:Hp)(Q:VK):Prop
 | mk (α:_) (L:_) (u:_) (w:_) (b:_) (h0:Abs K H α L) (h1:RepU K H α u x) (h2:RepU K H α w y) (h3:eqP u w L=some b) (h4:Q (.bl (if neg then !b else b)) H):rEqU K neg x y H Q
theorem Eb{X:Cx}(hu:X.A.units+64 < cLine):OpR X (dE .Eq) (rEqU X.K false):=by
 intro pins s σ H x y v u Q I rx ry h
 obtain ⟨α,L,a,b,k,A,ra,rb,e,q⟩:=h
 obtain ⟨d,e1,e⟩:=aB.mp e
 obtain ⟨d2,e2,e⟩:=aB.mp e
 split at e
 ·rename_i hs
  cases e
  obtain ⟨as,q1⟩:=Ow I A 8 a x v d ra rx e1
  obtain ⟨bs,q2⟩:=Ow I A 8 b y u d2 rb ry e2
  exact eq_dataH q1 q2 hs.1 hs.2 hu ⟨.bl _,H,I,rfl,q⟩
 ·cases e
theorem Lj{X:Cx}(hu:X.A.units+64 < cLine):OpR X (dE .NotEq) (rEqU X.K true):=by
 intro pins s σ H x y v u Q I rx ry h
 obtain ⟨α,L,a,b,k,A,ra,rb,e,q⟩:=h
 obtain ⟨d,e1,e⟩:=aB.mp e
 obtain ⟨d2,e2,e⟩:=aB.mp e
 split at e
 ·rename_i hs
  cases e
  obtain ⟨as,q1⟩:=Ow I A 8 a x v d ra rx e1
  obtain ⟨bs,q2⟩:=Ow I A 8 b y u d2 rb ry e2
  exact ne_dataH q1 q2 hs.1 hs.2 hu ⟨.bl _,H,I,rfl,q⟩
 ·cases e
noncomputable def Bm:S2:=fun u w L=>(eqP u w L).map fun b=>(.bl b,L)
noncomputable def Eh:S2:=fun u w L=>(eqP u w L).map fun b=>(.bl (!b),L)
theorem Ec{K:aC}:Di K (rEqU K false) Bm:=by
 intro H α L u w x y z L' Q A ru rw e q
 obtain ⟨b,e1,e⟩:=aH.mp e
 cases e
 exact ⟨α,_,u,w,b,A,ru,rw,e1,q _ H α (.refl _ _) A rfl⟩
theorem Lr{K:aC}:Di K (rEqU K true) Eh:=by
 intro H α L u w x y z L' Q A ru rw e q
 obtain ⟨b,e1,e⟩:=aH.mp e
 cases e
 exact ⟨α,_,u,w,b,A,ru,rw,e1,q _ H α (.refl _ _) A rfl⟩
noncomputable def Aql(neg:Bool):S2:=fun u w L=>match u,w with
 | .non,.non=>some (.bl (!neg),L)
 | .bl a,.bl b=>some (.bl (if neg then !(a == b) else a == b),L)
 | .int _,.non=>some (.bl neg,L)
 | .bl _,.non=>some (.bl neg,L)
 | .str _,.non=>some (.bl neg,L)
 | .tup _,.non=>some (.bl neg,L)
 | .ref _,.non=>some (.bl neg,L)
 | _,_=>none
noncomputable def isSome:U->Bool
 | .non=>false
 | _=>true
noncomputable def Ny:S2:=fun u w L=>match w with
 | .non=>some (.bl (isSome u),L)
 | _=>none
theorem Aip{K:aC}:Di K (fun x y H Q=>y = .non/\Q (.bl (!decide (x = .non))) H) Ny:=by
 intro H α L u w x y z L' Q A ru rw e q
 unfold Ny at e
 split at e
 ·cases e
  unfold RepU at rw
  refine ⟨rw,?_⟩
  have:(!decide (x=V.non))=isSome u:=by
   cases u with
   | non=>unfold RepU at ru;simp[ru,isSome]
   | bl b=>unfold RepU at ru;simp[ru,isSome]
   | int b=>unfold RepU at ru;simp[ru,isSome]
   | str b=>unfold RepU at ru;simp[ru,isSome]
   | tup b=>unfold RepU at ru;obtain ⟨_,_,rfl,_⟩:=ru;simp[isSome]
   | ref b=>unfold RepU at ru;obtain ⟨_,_,rfl⟩:=ru;simp[isSome]
  rw[this]
  exact q _ H α (.refl _ _) A rfl
 ·cases e
theorem RepL.atI{K:aC}{H:Hp}{α:List Addr}{us:List U}{xs:List V}{i:Int}{u:U}(r:RepL K H α us xs)(h:L2.atI us i=some u):∃ x,L2.atI xs i=some x/\RepU K H α u x:=by
 unfold L2.atI at h ⊢
 obtain ⟨j,e1,e2⟩:=aB.mp h
 obtain ⟨x,e3,r3⟩:=r.get e2
 exact ⟨x,by rw[<- r.length,e1];exact e3,r3⟩
noncomputable def Al:S2:=fun u w L=>match u,w with
 | .tup l,.int i=>(L2.atI l i).map fun z=>(z,L)
 | .ref n,.int i=>(A7 L n).bind fun l=>(L2.atI l i).map fun z=>(z,L)
 | .str x,.int i=>if Dk x.length=true then (L2.atI x.cps.toList i).map fun c=>(.str ⟨#[c]⟩,L) else none
 | _,_=>none
theorem Aq{K:aC}:Di K (rIx K) Al:=by
 intro H α L u w x y z L' Q A ru rw e q
 unfold Al at e
 split at e
 ·obtain ⟨c,e1,e⟩:=aH.mp e
  cases e
  unfold RepU at ru rw
  obtain ⟨a,xs,rfl,sq,r⟩:=ru
  obtain ⟨v,e2,r2⟩:=r.atI e1
  exact .inr (.inl ⟨a,xs,_,v,rfl,rw,sq,e2,q _ H α (.refl _ _) A r2⟩)
 ·obtain ⟨l,hl,e⟩:=aB.mp e
  obtain ⟨c,e1,e⟩:=aH.mp e
  cases e
  obtain ⟨a,xs,ea,sq,r⟩:=Np A hl
  obtain ⟨a',ea',rfl⟩:=ru.ref_of A
  rw[ea] at ea';cases ea'
  unfold RepU at rw
  obtain ⟨v,e2,r2⟩:=r.atI e1
  exact .inl ⟨a,xs,_,v,rfl,rw,sq,e2,q _ H α (.refl _ _) A r2⟩
 ·split at e
  ·rename_i hs
   obtain ⟨c,e1,e⟩:=aH.mp e
   cases e
   unfold RepU at ru rw
   exact .inr (.inr ⟨_,_,c,ru,rw,D7 hs,e1,q _ H α (.refl _ _) A rfl⟩)
  ·cases e
 ·cases e
noncomputable def Adr(l:List U)(lo hi:Option Int):List U:=(l.drop (HT.sIx l.length 0 lo)).take (HT.sIx l.length l.length hi - HT.sIx l.length 0 lo)
theorem RepL.cut{K:aC}{H:Hp}{α:List Addr}{us:List U}{xs:List V}(r:RepL K H α us xs)(lo hi:Option Int):RepL K H α (Adr us lo hi) (Adv xs lo hi):=by
 unfold Adr Adv
 rw[r.length]
 exact (r.drop _).take _
noncomputable def lenU(u:U)(L:UH):Option Nat:=match u with
 | .str y=>if Dk y.length=true then some y.length else none
 | .tup l=>some l.length
 | .ref n=>(A7 L n).map lD
 | _=>none
noncomputable def Cy:SC:=fun us L=>match us with
 | [u]=>(lenU u L).map fun (n:Nat)=>(U.int (n:Int),L)
 | _=>none
theorem Gy{K:aC}:R4 K (fun xs H Q=>∃ x n,xs=[x]/\Ao8 K x H n/\Q (.int n) H) Cy:=by
 intro H α L us xs z L' Q A r e q
 unfold Cy at e
 split at e
 ·rename_i u
  obtain ⟨n,e1,e⟩:=aH.mp e
  cases e
  obtain ⟨x,rfl,rx⟩:=r.one
  refine ⟨x,n,rfl,?_,q _ H α (.refl _ _) A rfl⟩
  cases u with
  | str y=>
   unfold lenU at e1
   simp only at e1
   split at e1
   ·rename_i hs;cases e1;unfold RepU at rx;subst rx;exact ⟨D7 hs,rfl⟩
   ·cases e1
  | tup l=>
   cases e1
   unfold RepU at rx
   obtain ⟨a,ys,rfl,sq,r2⟩:=rx
   exact .inr ⟨ys,sq,r2.length⟩
  | ref k=>
   obtain ⟨l,hl,e2⟩:=aH.mp e1
   subst e2
   obtain ⟨a,ys,ea,sq,r2⟩:=Np A hl
   obtain ⟨a',ea',rfl⟩:=rx.ref_of A
   rw[ea] at ea';cases ea'
   exact .inl ⟨ys,sq,r2.length⟩
  | _=>cases e1
 ·cases e
noncomputable def toI:U->Option Int
 | .int i=>some i
 | _=>none
theorem V5{K:aC}{H:Hp}{α:List Addr}:∀ {us:List U} {xs:List V} {ns:List Int},RepL K H α us xs->mapO toI us=some ns->xs=ns.map V.int
 | [],xs,ys,r,h=>by unfold RepL at r;subst r;cases h;rfl
 | u::us,xs,ys,r,h=>by
  unfold RepL at r
  obtain ⟨x,xr,rfl,r1,r2⟩:=r
  obtain ⟨y,e1,h⟩:=aB.mp h
  obtain ⟨yr,e2,h⟩:=aH.mp h
  subst h
  cases u <;> simp only[toI] at e1 <;> first
   | (cases e1;unfold RepU at r1;subst r1;rw[V5 r2 e2];rfl)
   | cases e1
section
variable {X:Cx}
theorem Aex(hc:X.calm=true):CallR X (.builtin "sum") (fun xs H Q=>∃ (p:Addr) (ns:List Int),xs=[.ref p]/\SqL X.K H p (ns.map V.int)/\Q (.int ns.sum) H):=by
 intro pins s σ H xs us Q I r h
 obtain ⟨p,ns,rfl,hq,q⟩:=h
 obtain ⟨u,rfl,rx⟩:=Nr r
 cases rx
 obtain ⟨its,r',pl,hz⟩:=I.list hq
 have hi:mJ its ns:=Sh r'
 obtain ⟨m,F⟩:=I.fr
 obtain ⟨xs,hx⟩:=hi.allInts.items
 have hl':s.heap.IsList p (intItems xs):=hx ▸ pl.isList
 refine sum_intListG (I.ok.hd hc) hl' fun h' tk t' hk=>?_
 have e1:ns=xs.toList.map (·.1):=by
  rw[<- nums_intItems,<- hx]
  exact (show numsOf its.toArray.toList=ns from hi.numsOf).symm
 have e2:preSum (numAt xs) xs.size=ns.sum:=by
  rw[preSum_eq,fT (by simp),e1]
 rw[e2]
 exact ⟨.int ns.sum,H,I.kept hk,⟨_,rfl⟩,q⟩
theorem Ady(hc:X.calm=true):CallR X (.builtin "sum") (fun xs H Q=>∃ (p:Addr) (ns:List Int),xs=[.ref p]/\SqT X.K H p (ns.map V.int)/\Q (.int ns.sum) H):=by
 intro pins s σ H xs us Q I r h
 obtain ⟨p,ns,rfl,hq,q⟩:=h
 obtain ⟨u,rfl,rx⟩:=Nr r
 cases rx
 obtain ⟨its,r',pl,hz⟩:=I.tuple hq
 have hi:mJ its ns:=Sh r'
 obtain ⟨xs,hx⟩:=hi.allInts.items
 have hl':s.heap.IsTuple p (intItems xs):=hx ▸ pl
 refine PySem.W.ktm_sumG (I.ok.hd hc) hl' fun h' tk t' hk=>?_
 have e1:ns=xs.toList.map (·.1):=by
  rw[<- nums_intItems,<- hx]
  exact (show numsOf its.toArray.toList=ns from hi.numsOf).symm
 have e2:preSum (numAt xs) xs.size=ns.sum:=by
  rw[preSum_eq,fT (by simp),e1]
 rw[e2]
 exact ⟨.int ns.sum,H,I.kept hk,⟨_,rfl⟩,q⟩
theorem Ad2(hc:X.calm=true):CallR X (.builtin "sum") (fun xs H Q=>(∃ (p:Addr) (ns:List Int),xs=[.ref p]/\SqL X.K H p (ns.map V.int)/\Q (.int ns.sum) H)\/∃ (p:Addr) (ns:List Int),xs=[.ref p]/\SqT X.K H p (ns.map V.int)/\Q (.int ns.sum) H):=(Aex hc).or (Ady hc)
end
noncomputable def Rf:SC:=fun us L=>match us with
 | [.ref n]=>(A7 L n).bind fun l=>(mapO toI l).map fun ns=>(.int ns.sum,L)
 | [.tup l]=>(mapO toI l).map fun ns=>(.int ns.sum,L)
 | _=>none
theorem Qd{K:aC}{H:Hp}{α:List Addr}{L:UH}{n:Nat}{l:List U}{x:V}(A:Abs K H α L)(hl:A7 L n=some l)(rx:RepU K H α (.ref n) x):∃ a ys,x = .ref a/\SqL K H a ys/\RepL K H α l ys:=by
 obtain ⟨a,ys,ea,sq,r2⟩:=Np A hl
 obtain ⟨a',ea',rfl⟩:=rx.ref_of A
 rw[ea] at ea';cases ea'
 exact ⟨a,ys,rfl,sq,r2⟩
theorem Akg{K:aC}:R4 K (fun xs H Q=>(∃ (p:Addr) (ns:List Int),xs=[.ref p]/\SqL K H p (ns.map V.int)/\Q (.int ns.sum) H)\/∃ (p:Addr) (ns:List Int),xs=[.ref p]/\SqT K H p (ns.map V.int)/\Q (.int ns.sum) H) Rf:=by
 intro H α L us xs z L' Q A r e q
 unfold Rf at e
 split at e
 ·obtain ⟨l,hl,e⟩:=aB.mp e
  obtain ⟨ns,e1,e⟩:=aH.mp e
  cases e
  obtain ⟨x,rfl,rx⟩:=r.one
  obtain ⟨a,ys,rfl,sq,r2⟩:=Qd A hl rx
  rw[V5 r2 e1] at sq
  exact .inl ⟨a,ns,rfl,sq,q _ H α (.refl _ _) A rfl⟩
 ·obtain ⟨ns,e1,e⟩:=aH.mp e
  cases e
  obtain ⟨x,rfl,rx⟩:=r.one
  unfold RepU at rx
  obtain ⟨a,ys,rfl,sq,r2⟩:=rx
  rw[V5 r2 e1] at sq
  exact .inr ⟨a,ns,rfl,sq,q _ H α (.refl _ _) A rfl⟩
 ·cases e
noncomputable def Vq:SC:=fun us L=>match us with
 | [.int i]=>some (.int (if i < 0 then -i else i),L)
 | _=>none
theorem Ab7{K:aC}:R4 K (fun xs H Q=>∃ i,xs=[.int i]/\Q (.int (if i < 0 then -i else i)) H) Vq:=by
 intro H α L us xs z L' Q A r e q
 unfold Vq at e
 split at e
 ·cases e
  obtain ⟨x,rfl,rx⟩:=r.one
  unfold RepU at rx
  exact ⟨_,by rw[rx],q _ H α (.refl _ _) A rfl⟩
 ·cases e
noncomputable def Gj:SC:=fun us L=>match us with
 | [.int i]=>some (.int i,L)
 | [.bl k]=>some (.int (if k then 1 else 0),L)
 | _=>none
theorem P9{K:aC}:R4 K (fun xs H Q=>(∃ i,xs=[.int i]/\Q (.int i) H)\/∃ k,xs=[.bl k]/\Q (.int (if k then 1 else 0)) H) Gj:=by
 intro H α L us xs z L' Q A r e q
 unfold Gj at e
 split at e
 ·cases e
  obtain ⟨x,rfl,rx⟩:=r.one
  unfold RepU at rx
  exact .inl ⟨_,by rw[rx],q _ H α (.refl _ _) A rfl⟩
 ·cases e
  obtain ⟨x,rfl,rx⟩:=r.one
  unfold RepU at rx
  exact .inr ⟨_,by rw[rx],q _ H α (.refl _ _) A rfl⟩
 ·cases e
noncomputable def semTuple:SC:=fun us L=>match us with
 | [.ref n]=>(A7 L n).map fun l=>(.tup l,L)
 | [.tup l]=>some (.tup l,L)
 | _=>none
theorem Ma{K:aC}:R4 K (fun xs H Q=>∃ p ys,xs=[.ref p]/\((SqL K H p ys/\∀ l,H l=none->Q (.ref l) (upd H l (.tup ys)))\/(SqT K H p ys/\Q (.ref p) H))) semTuple:=by
 intro H α L us xs z L' Q A r e q
 unfold semTuple at e
 split at e
 ·obtain ⟨l,hl,e⟩:=aH.mp e
  cases e
  obtain ⟨x,rfl,rx⟩:=r.one
  obtain ⟨a,ys,rfl,sq,r2⟩:=Qd A hl rx
  refine ⟨a,ys,rfl,.inl ⟨sq,fun p hp=>?_⟩⟩
  obtain ⟨g,A',r'⟩:=A.tup r2 hp
  exact q _ _ _ g A' r'
 ·cases e
  obtain ⟨x,rfl,rx⟩:=r.one
  have rx':=rx
  unfold RepU at rx
  obtain ⟨a,ys,rfl,sq,r2⟩:=rx
  exact ⟨a,ys,rfl,.inr ⟨sq,q _ H α (.refl _ _) A rx'⟩⟩
 ·cases e
noncomputable def Ei:SM:=fun u us L=>match u,us with
 | .ref n,[y]=>(Gd L n).bind fun l=>if decide (l.length < sizeLine)=true then some (.non,L.set n (.lst (l++[y]))) else none
 | _,_=>none
theorem Vp{K:aC}{H:Hp}{α:List Addr}{L:UH}{n:Nat}{l:List U}{x:V}(A:Abs K H α L)(hl:Gd L n=some l)(rx:RepU K H α (.ref n) x):∃ a ys,x = .ref a/\α[n]? = some a/\H a=some (.lst ys)/\RepL K H α l ys:=by
 obtain ⟨a,ys,ea,sq,r2⟩:=N8 A hl
 obtain ⟨a',ea',rfl⟩:=rx.ref_of A
 rw[ea] at ea';cases ea'
 exact ⟨a,ys,rfl,ea,sq,r2⟩
theorem Qv{K:aC}:Ak5 K Aci Ei:=by
 intro H α L u us x xs z L' Q A ru r e q
 unfold Ei at e
 split at e
 ·obtain ⟨l,hl,e⟩:=aB.mp e
  split at e
  ·rename_i hs
   cases e
   obtain ⟨y,rfl,ry⟩:=r.one
   obtain ⟨a,ys,rfl,ea,h,r2⟩:=Vp A hl ru
   obtain ⟨g,A'⟩:=A.setL hl ea h (r2.append (.cons ry .nil))
   exact ⟨a,ys,y,rfl,rfl,h,by rw[<- r2.length];exact of_decide_eq_true hs,q _ _ _ g A' rfl⟩
  ·cases e
 ·cases e
noncomputable def O0:SM:=fun u us L=>match u,us with
 | .ref n,[.int i]=>(Gd L n).bind fun l=>if -(2 ^ 63)<=i/\i < 2 ^ 63 then (seqIndex? i l.length).bind fun k=>(l[k]?).map fun y=>(y,L.set n (.lst (l.eraseIdx k))) else none
 | _,_=>none
theorem Ak1{K:aC}:Ak5 K rPopAt O0:=by
 intro H α L u us x xs z L' Q A ru r e q
 unfold O0 at e
 split at e
 ·obtain ⟨l,hl,e⟩:=aB.mp e
  split at e
  ·rename_i hs
   obtain ⟨k,ek,e⟩:=aB.mp e
   obtain ⟨y,ey,e⟩:=aH.mp e
   cases e
   obtain ⟨v,rfl,rv⟩:=r.one
   unfold RepU at rv
   subst rv
   obtain ⟨a,ys,rfl,ea,h,r2⟩:=Vp A hl ru
   obtain ⟨w,ew,rw⟩:=r2.get ey
   obtain ⟨g,A'⟩:=A.setL hl ea h (r2.erase k)
   exact ⟨a,ys,_,k,w,rfl,rfl,h,hs.1,hs.2,by rw[<- r2.length];exact ek,ew,q _ _ _ g A' (rw.mono g)⟩
  ·cases e
 ·cases e
noncomputable def gSub(fo fi:FE):FG:=fun v δ L=>(fo δ L).bind fun p=>(fi δ p.2).bind fun q=>match p.1,q.1 with
 | .ref n,.int k=>(Gd q.2 n).bind fun l=>(ixN l.length k).map fun j=>(δ,q.2.set n (.lst (l.set j v)))
 | _,_=>none
theorem Abk{X:Cx}{o i:Expr}{fo fi:FE}{pos:Pos}(ho:PEF X o fo)(hi:PEF X i fi)(ha:∀ v,assign (.Subscript o i pos) X.env v=(do let ov <- holding [v] (eval o X.env);let iv <- holding [v,ov] (eval i X.env);standAt pos;holding [v,ov,iv] (setItem ov iv v);release [v,ov,iv] []):=by intro _;rfl):PGF X (.Subscript o i pos) (MR.gSub fo fi):=by
 refine PG.imp (Al3 ho hi Aid ha) ?_
 rintro v σ H Q ⟨α,δ,L,u,A,S,r,δ',L',e,q⟩
 obtain ⟨⟨o',L1⟩,e1,e⟩:=aB.mp e
 obtain ⟨⟨i',L2⟩,e2,e⟩:=aB.mp e
 refine ⟨α,δ,L,A,S,o',L1,e1,fun x H1 α1 g1 A1 r1=>⟨α1,δ,L1,A1,S.mono g1,i',L2,e2,fun y H2 α2 g2 A2 r2=>?_⟩⟩
 simp only at e
 split at e
 ·obtain ⟨l,hl,e⟩:=aB.mp e
  obtain ⟨j,ej,e⟩:=aH.mp e
  cases e
  unfold RepU at r2
  subst r2
  obtain ⟨a,ys,rfl,ea,h,r3⟩:=Vp A2 hl (r1.mono g2)
  obtain ⟨g,A'⟩:=A2.setL hl ea h (r3.set ((r.mono g1).mono g2) j)
  exact ⟨a,ys,_,j,rfl,rfl,h,by rw[<- r3.length];exact ej,q _ _ _ (g1.trans (g2.trans g)) A' (((S.mono g1).mono g2).mono g)⟩
 ·cases e
noncomputable def Vz(u:U)(L:UH):Option String:=match u with
 | .non=>some "NoneType"
 | .bl _=>some "bool"
 | .int _=>some "int"
 | .str _=>some "str"
 | .tup _=>some "tuple"
 | .ref n=>match L[n]? with
  | some (.lst _)=>some "list"
  | some (.ro _)=>some "list"
  | some (.dic _)=>some "dict"
  | _=>none
noncomputable def isT(t c:String):Bool:=t == c || (t == "bool" && c == "int")
noncomputable def Vi:List String:=["NoneType","bool","int","str","tuple","list","dict"]
noncomputable def Kit(K:aC)(c:String):Prop:=∀ t∈Vi,cY K (.type t) (.type c)=some (isT t c)
theorem Aim{K:aC}{c:String}(h1:cY K (.type "NoneType") (.type c)=some (isT "NoneType" c))(h2:cY K (.type "bool") (.type c)=some (isT "bool" c))(h3:cY K (.type "int") (.type c)=some (isT "int" c))
  (h4:cY K (.type "str") (.type c)=some (isT "str" c)) (h5:cY K (.type "tuple") (.type c)=some (isT "tuple" c)) (h6:cY K (.type "list") (.type c)=some (isT "list" c)) (h7:cY K (.type "dict") (.type c)=some (isT "dict" c)):Kit K c:=by
 intro t ht
 simp only[Vi,cB,gS,or_false] at ht
 rcases ht with rfl | rfl | rfl | rfl | rfl | rfl | rfl <;> assumption
theorem Yt{K:aC}:Kit K "bool" := Aim (by with_unfolding_all rfl) (by with_unfolding_all rfl) (by with_unfolding_all rfl) (by with_unfolding_all rfl) (by with_unfolding_all rfl) (by with_unfolding_all rfl) (by with_unfolding_all rfl)
theorem Ur{K:aC}:Kit K "tuple" := Aim (by with_unfolding_all rfl) (by with_unfolding_all rfl) (by with_unfolding_all rfl) (by with_unfolding_all rfl) (by with_unfolding_all rfl) (by with_unfolding_all rfl) (by with_unfolding_all rfl)
noncomputable def TyV(K:aC)(H:Hp)(x:V)(t:String):Prop:=match x with
 | .non=>t = "NoneType"
 | .bl _=>t = "bool"
 | .int _=>t = "int"
 | .str _=>t = "str"
 | .ref a=>(t = "list" /\ ∃ xs,SqL K H a xs)\/(t = "tuple" /\ ∃ xs,SqT K H a xs)\/(t = "dict" /\ ∃ kvs,H a=some (.dK kvs))
 | _=>False
theorem Aft{X:Cx}{c:String}:CallR X (.builtin "isinstance") (fun xs H Q=>∃ x t b,xs=[x,.ty c]/\TyV X.K H x t/\cY X.K (.type t) (.type c)=some b/\Q (.bl b) H):=by
 intro pins s σ H xs us Q I r h
 obtain ⟨x,t,b,rfl,ty,e,q⟩:=h
 obtain ⟨u,w',rfl,rx,ry⟩:=Af6 r
 cases ry
 have fin:∀ tk,EP X pins σ Q (.bool b) { s with toks:=tk }:=fun tk=>⟨.bl b,H,I.tok _,rfl,q⟩
 cases x with
 | non=>cases ty;exact Jz I rx (.non) e fin
 | bl y=>cases ty;exact Jz I rx (.bl y) e fin
 | int y=>cases ty;exact Jz I rx (.int y) e fin
 | str y=>cases ty;exact Jz I rx (.str y) e fin
 | ref a=>
  cases (show u=bE a from rx)
  rcases ty with ⟨rfl,ys,sq⟩ | ⟨rfl,ys,sq⟩ | ⟨rfl,kvs,ea⟩
  ·obtain ⟨its,_,⟨o,n,h1,h2,_⟩,_⟩:=I.list sq
   exact cT kZ I.kIn ⟨o,h1,h2⟩ e (fun z=>nomatch z) fin
  ·obtain ⟨its,_,⟨o,h1,h2,_⟩,_⟩:=I.tuple sq
   exact cT nZ I.kIn ⟨o,h1,h2⟩ e (fun z=>nomatch z) fin
  ·exact Jz I rx (.dK ea) e fin
 | byt y=>cases ty
 | flt y=>cases ty
 | ty y=>cases ty
theorem Ad7{K:aC}{H:Hp}{α:List Addr}{L:UH}{u:U}{x:V}{t:String}(A:Abs K H α L)(r:RepU K H α u x)(h:Vz u L=some t):TyV K H x t/\t∈Vi:=by
 cases u with
 | non=>unfold RepU at r;subst r;cases h;exact ⟨rfl,by decide⟩
 | bl b=>unfold RepU at r;subst r;cases h;exact ⟨rfl,by decide⟩
 | int i=>unfold RepU at r;subst r;cases h;exact ⟨rfl,by decide⟩
 | str y=>unfold RepU at r;subst r;cases h;exact ⟨rfl,by decide⟩
 | tup l=>unfold RepU at r;obtain ⟨a,xs,rfl,sq,_⟩:=r;cases h;exact ⟨.inr (.inl ⟨rfl,xs,sq⟩),by decide⟩
 | ref n=>
  unfold RepU at r
  obtain ⟨a,ea,rfl⟩:=r
  unfold Vz at h
  simp only at h
  split at h
  ·rename_i e;cases h;obtain ⟨xs,h,_⟩:=A.rep n a _ ea e;exact ⟨.inl ⟨rfl,xs,.of h⟩,by decide⟩
  ·rename_i e;cases h;obtain ⟨xs,h,_⟩:=A.rep n a _ ea e;exact ⟨.inl ⟨rfl,xs,h.sq⟩,by decide⟩
  ·rename_i e;cases h;obtain ⟨xs,h,_⟩:=A.rep n a _ ea e;exact ⟨.inr (.inr ⟨rfl,xs,h⟩),by decide⟩
  ·cases h
noncomputable def Yo(c:String)(f:FE):FE:=fun δ L=>(f δ L).bind fun p=>(Vz p.1 p.2).map fun t=>(.bl (isT t c),p.2)
theorem Wb{X:Cx}{e:Expr}{fe:FE}{p p2 pos:Pos}{cn:Str}{c:String}(hk:Kit X.K c)(he:PEF X e fe)(hg:Gl X "isinstance")(hm:X.mg "isinstance" = none)(hg2:Gl X cn)(hm2:X.mg cn=none)(hv2:eC cn=some (.type c))
  (hn:cn ≠ "__name__" := by decide) (hdb:(cn == ("__debug__" : Str))=false:=by decide)
  (hs:aS [e,.Name cn p2] X.env=(false,eval e X.env)::aS [.Name cn p2] X.env:=by rfl) (hs2:aS [.Name cn p2] X.env=(false,eval (.Name cn p2) X.env)::aS [] X.env:=by rfl)
  (hpl:(backTo pos (aS [.Name cn p2] X.env)).any (·.1)=false:=by rfl):PEF X (.Call (.Name "isinstance" p) [e,.Name cn p2] [] pos) (Yo c fe):=by
 refine PE.imp (Lu (Aft (c:=c)) hg hm (by decide +kernel) (Gv he (Gv (Acb hg2 hm2 hv2 (v:=.ty c) rfl hn hdb) Ot hs2) hs) (by decide) (by decide) hs hpl) ?_
 rintro σ H Q ⟨α,δ,L,A,S,z,L3,e,q⟩
 obtain ⟨⟨u,L1⟩,e1,e⟩:=aB.mp e
 obtain ⟨t,e2,e⟩:=aH.mp e
 cases e
 refine ⟨α,δ,L,A,S,u,_,e1,fun x H1 α1 g1 A1 r1=>?_⟩
 obtain ⟨h1,h2⟩:=Ad7 A1 r1 e2
 exact ⟨x,t,_,rfl,h1,hk t h2,q _ H1 α1 g1 A1 rfl⟩
theorem Am1{K:aC}{F:FN}{H:Hp}{a:Addr}{ns:List Int}{E:XK}(ho:Akq H)(hS:SqL K H a (ns.map V.int))(h:∃ L',F [.ref 0] [.ro (ns.map U.int)]=some (.bl true,L')):spF K 1 F [.ref a] H (fun v _=>v = .bl true) E:=by
 obtain ⟨L',e⟩:=h
 have ro:RO K H a (ns.map V.int):=by
  rcases hS with (q | ⟨o,q⟩) | q
  ·rcases ho a with z | ⟨o,xs,z⟩
   ·rw[z] at q;cases q
   ·rw[z] at q;cases q
  ·exact .inl ⟨o,q⟩
  ·exact .inr q
 refine ⟨[a],[.ro (ns.map U.int)],[.ref 0],⟨rfl,fun i j b o o' e1 e2 e3 e4=>?_,fun i b o e1 e2=>?_⟩,.cons ?_ .nil,rfl,.bl true,L',e,fun v H' α' _ _ r=>r⟩
 ·cases i with
  | zero=>cases j with
   | zero=>exact .inl rfl
   | succ j=>simp at e2
  | succ i=>simp at e1
 ·cases i with
  | zero=>simp at e1 e2;subst e1;subst e2;exact ⟨_,ro,RepL.ints ns⟩
  | succ i=>simp at e1
 ·unfold RepU;exact ⟨a,rfl,rfl⟩
theorem M9(env:eN):∀ (names:List (Str×iQ)) (cs:List (Str×Addr)),(∀ y∈names,y.2 = .free->∃ c,env.cells.lookup y.1=some c)->(∀ x c,cs.lookup x=some c->env.cells.lookup x=some c) ->
  ∃ cl:List (Str×Addr),(forIn names cs fun (x:Str×iQ) r=>if (x.2 == gD)=true then do let c <- cellOf env x.1;pure (fX ((x.1,c)::r)) else pure (fX r):Sem (List (Str×Addr)))=pure cl /\
   (∀ x c,cl.lookup x=some c->env.cells.lookup x=some c)/\(∀ y∈names,y.2 = .free->∃ c,cl.lookup y.1=some c)/\∀ x,(∃ c,cs.lookup x=some c)->∃ c,cl.lookup x=some c
 | [],cs,_,h2=>⟨cs,rfl,h2,(fun _ h=>nomatch h),fun _ h=>h⟩
 | (n,k)::r,cs,h1,h2=>by
  cases hk:k == gD with
  | true=>
   have hk':k = .free:=by simpa using hk
   obtain ⟨c,hc⟩:=h1 (n,k) (cD ..) hk'
   have look:∀ x c',eT x ((n,c)::cs)=some c'->env.cells.lookup x=some c':=fun x c' e=>by
    rw[bX] at e
    cases hx:x == n with
    | true => rw [hx] at e; simp at e; subst e; have : x = n := by simpa using hx
              rw[this];exact hc
    | false=>rw[hx] at e;exact h2 x c' e
   obtain ⟨cl,e,p1,p2,p3⟩:=M9 env r ((n,c)::cs) (fun y hy=>h1 y (bI _ hy)) look
   refine ⟨cl,?_,p1,fun y hy hf=>?_,fun x hx=>?_⟩
   ·rw[jP]
    have e0:(cellOf env n:Sem Addr)=pure c:=by unfold cellOf;rw[hc]
    simp only[hk,if_true,e0]
    exact e
   ·rcases cB.mp hy with rfl | hy
    ·exact p3 n ⟨c,by simp⟩
    ·exact p2 y hy hf
   ·refine p3 x ?_
    rw[bX]
    cases hx':x == n with
    | true=>exact ⟨c,rfl⟩
    | false=>exact hx
  | false=>
   obtain ⟨cl,e,p1,p2,p3⟩:=M9 env r cs (fun y hy=>h1 y (bI _ hy)) h2
   refine ⟨cl,?_,p1,fun y hy hf=>?_,p3⟩
   ·rw[jP]
    simp only[hk,bT,if_false]
    exact e
   ·rcases cB.mp hy with rfl | hy
    ·rw[show k=gD from hf] at hk;cases hk
    ·exact p2 y hy hf
theorem Tb{scope:iK}{env:eN}(h:∀ y∈scope.names,y.2 = .free->∃ c,env.cells.lookup y.1=some c) :
  ∃ cl,closureFor scope env=pure cl/\(∀ x c,cl.lookup x=some c->env.cells.lookup x=some c)/\∀ y∈scope.names,y.2 = .free->∃ c,cl.lookup y.1=some c:=by
 obtain ⟨cl,e,p1,p2,_⟩:=M9 env scope.names [] h (fun x c e=>by simp at e)
 refine ⟨cl,?_,p1,p2⟩
 unfold closureFor
 show (forIn scope.names [] _ >>= fun cs=>pure cs)=pure cl
 have:(forIn scope.names ([]:List (Str×Addr)) (fun (x:Str×iQ) (r:List (Str×Addr))=>if (x.2 == gD)=true then do let c <- cellOf env x.1;pure (fX ((x.1,c)::r)) else pure (fX r)):Sem (List (Str×Addr))) >>= (fun cs=>pure cs)=pure cl:=by rw[e];rfl
 exact this
noncomputable def blk(X:Cx)(scope:iK)(cl:List (Str×Addr))(C:Addr)(N':List Str)(s2:aI)(H2:Hp)(fp:List Addr)(pins:List (Addr×Obj)):Cx:=
 { X with env:=compEnvC scope cl C X.env,N:=N',s₀:=s2,H₀:=H2,outer:=X.stack,ex:=fp,fn:=fun _=>false,pn:=X.pn++pins,xe:=fun _ _=>False }
theorem HOk.adopt{P:bN}{w:bW}{H:Hp}{h:Heap}{a:Addr}{o:HO}(x:HOk P w H h)(hn:H a=none)(new:ObjOk P w (upd H a o) h a o):HOk P w (upd H a o) h:=fun b u e=>by
 by_cases hb:b=a
 ·subst hb;rw[upd_same] at e;cases e;exact new
 ·rw[Bc hb] at e
  exact (x b u e).stay (fun c v _ q=>q) (fun c q=>by rw[Bc (Bk q hn)];exact q) fun c xs q=>by rw[Bc (Bk q hn)];exact q
theorem Un.adopt{fs ex:List Addr}{H H1:Hp}{h h1:Heap}{a:Addr}{o:HO}(u:Un fs ex H H1 h h1)(hn:H1 a=none)(ha:h.get? a=none):Un fs ex H (upd H1 a o) h h1 where
 keep:=u.keep
 slot:=u.slot
 free:=fun b ob q n hx=>by
  have:b≠a:=fun z=>by rw[z,ha] at q;cases q
  rw[Bc this];exact u.free b ob q n hx
 there:=u.there
 tups:=fun b xs q=>by have q':=u.tups b xs q;rw[Bc (Bk q' hn)];exact q'
 frzs:=fun b ob xs q=>by have q':=u.frzs b ob xs q;rw[Bc (Bk q' hn)];exact q'
 tbls:=fun b ps q=>by
  obtain ⟨m,q'⟩:=u.tbls b ps q
  exact ⟨m,by rw[Bc (Bk q' hn)];exact q'⟩
structure CompSc(X:Cx)(scope:iK)(N':List Str)(ix:List (Option Nat)):Prop where
 kind:scope.kind = .function
 cell:(scope.names.all fun y=>y.2 != .cell)=true
 loc:(scope.names.all fun y=>y.2 != .local || scope.names.lookup y.1 == some .local)=true
 free:(scope.names.all fun y=>y.2 != .free || (X.env.kindOf y.1 == some .cell || X.env.kindOf y.1 == some .free))=true
 ixs:((N'.zip ix).all fun p=>match p.2 with | none=>true | some i=>(X.N[i]? == some p.1)&&(scope.names.lookup p.1 == some .free))=true
 len:N'.length=ix.length
noncomputable def inner(ix:List (Option Nat))(σ:L2.St):L2.St:=ix.map fun o=>o.bind fun i=>(σ[i]?).join
noncomputable def Af8(J:It)(g:TG)(tt:TT)(te:TE)(σ':L2.St)(H:Hp)(Fin:List V->Hp->Prop):Prop:=∃ W:Nat->Nat->List V->L2.St->Hp->Prop,(∃ m,W 0 m [] σ' H)/\∀ i m acc σ1 H1,W i m acc σ1 H1 ->
 (J.stop i H1/\Fin acc H1)\/(J.go i H1/\∀ x H3,J.yld i H1 x H3->g x σ1 H3 fun σ2 H4=>tt σ2 H4 fun b H5=>
  if b=true then te σ2 H5 fun y H6=>acc.length < sizeLine/\∃ m',m' < m/\W (i+1) m' (acc++[y]) σ2 H6 else ∃ m',m' < m/\W (i+1) m' acc σ2 H5)
section
variable {X:Cx}{scope:iK}{N':List Str}{ix:List (Option Nat)}{pins:List (Addr×Obj)}{σ:L2.St}{H2:Hp}{s2:aI}{cl:List (Str×Addr)}{fp:List Addr}
theorem Ih{β:Type}{x:Str}{v:β}:∀ {l:List (Str×β)},l.lookup x=some v->(x,v)∈l
 | [],h=>by simp at h
 | (n,k)::r,h=>by
  rw[bX] at h
  cases hx:x == n with
  | true => rw [hx] at h; simp at h; have : x = n := by simpa using hx
            subst this;subst h;exact cD ..
  | false=>rw[hx] at h;exact bI _ (Ih h)
theorem H9{env:eN}{x:Str}:∀ {names:List (Str×iQ)} {k:iQ},(names.map fun (n,k)=>if (k == gD&&env.scope.kind == .function&&env.kindOf n == some .cell) then (n,nU) else (n,k)).lookup x=some k ->
  names.lookup x=some k\/(names.lookup x=some .free/\k = .cell)
 | [],k,h=>by simp at h
 | (n,k')::r,k,h=>by
  have ih:=@H9 env x r k
  rw[aP] at h
  cases hx:x == n with
  | true=>
   rw[bX,hx]
   simp only at h ⊢
   split at h
   ·rename_i hc
    rw[bX,hx] at h
    simp at h
    simp only[dA] at hc
    have:k' = .free:=by simpa using hc.1.1
    subst this
    exact .inr ⟨rfl,h.symm⟩
   ·rw[bX,hx] at h
    exact .inl h
  | false=>
   rw[bX,hx]
   simp only at h ⊢
   split at h
   ·rw[bX,hx] at h;exact ih h
   ·rw[bX,hx] at h;exact ih h
theorem Hb{env:eN}{x:Str}:∀ {names:List (Str×iQ)},names.lookup x=some .free ->
  (names.map fun (n,k)=>if (k == gD&&env.scope.kind == .function&&env.kindOf n == some .cell) then (n,nU) else (n,k)).lookup x=some .free\/(names.map fun (n,k)=>if (k == gD&&env.scope.kind == .function&&env.kindOf n == some .cell) then (n,nU) else (n,k)).lookup x=some .cell
 | [],h=>by simp at h
 | (n,k')::r,h=>by
  have ih:=@Hb env x r
  rw[aP]
  cases hx:x == n with
  | true=>
   rw[bX,hx] at h
   simp at h
   subst h
   simp only
   split
   ·right;rw[bX,hx]
   ·left;rw[bX,hx]
  | false=>
   rw[bX,hx] at h
   have:=ih h
   simp only
   split
   ·rw[bX,hx];exact this
   ·rw[bX,hx];exact this
theorem Aew(S:CompSc X scope N' ix)(hcalm:X.calm=true)(I2:Inv X pins σ H2 s2)(hcl:∀ x c,cl.lookup x=some c->X.env.cells.lookup x=some c)(hcl2:∀ y∈scope.names,y.2 = .free->∃ c,cl.lookup y.1=some c)
  (f2:∀ b∈fp,Mm X pins H2 b) (hfp:∀ b∈fp,b < s2.heap.objs.size) {C:Addr} {h4:Heap} {m:Str->Option aE} {t4:Nat} (hC:s2.heap.objs.size<=C) (hns:h4.Ns C m) (keep:∀ b o,s2.heap.get? b=some o->h4.get? b=some o) :
  Inv (blk X scope cl C N' s2 H2 fp pins) [] (inner ix σ) H2 { s2 with heap:=h4,toks:=t4 }:=by
 have hkindC:(relabel scope X.env).kind = .function:=S.kind
 have ok:(blk X scope cl C N' s2 H2 fp pins).Ok:=
  { mod:=I2.ok.mod
    kind:=hkindC
    glob:=I2.ok.glob
    blt:=I2.ok.blt
    above:=hC
    inj:=fun x y c e1 e2=>I2.ok.inj x y c (hcl x c e1) (hcl y c e2)
    has:=fun x h=>by
     have h':(relabel scope X.env).names.lookup x=some .cell\/(relabel scope X.env).names.lookup x=some .free:=h
     have hfree:scope.names.lookup x=some .free:=by
      rcases h' with h' | h'
      ·rcases H9 h' with q | ⟨q,_⟩
       ·have:=cU.mp S.cell _ (Ih q)
        simp at this
       ·exact q
      ·rcases H9 h' with q | ⟨q,z⟩
       ·exact q
       ·cases z
     exact hcl2 _ (Ih hfree) rfl
    cab:=fun x c h=>by cases h
    hd:=fun _=>I2.ok.hd hcalm
    frames:=I2.ok.frames
    stk:=.inl rfl
    exf:=fun b hb=>⟨bY (aU (hfp b hb) hC),fun x c e=>(f2 b hb).2.2.2.2.1 x c (hcl x c e)⟩
    bs:=fun b o e=>I2.bs b o e
    bsz:=cC I2.ok.bsz I2.sz
    noex:=fun b o e hb=>by
     rcases (f2 b hb).2.2.2.1 with z | z
     ·exact I2.ok.noex b o e z
     ·exact absurd (aU (aV (I2.ok.bs b o e).1) z) (dO _)
    exfs:=fun b hb z=>by
     rcases cB.mp (I2.stkSub b z) with q | q
     ·exact (f2 b hb).2.1 q
     ·exact (f2 b hb).2.2.1 q
    funs:=I2.stack
    frf:=I2.stkFree }
 obtain ⟨m0,hn0,hl0⟩:=id I2.loc
 refine ⟨ok,rfl,I2.bare,Un.kept keep,⟨m,hns,fun j x v e1 e2 e3=>?_⟩,fun x c e=>?_,I2.hok.fresh hC,fun x c e=>I2.freeC x c (hcl x c e),fun p hp=>?_,I2.hok.kept keep,?_⟩
 ·-- a name that the block takes along
  have e1':N'[j]? = some x:=e1
  have e2':(inner ix σ)[j]? = some (some v):=e2
  unfold inner at e2'
  rw[bV] at e2'
  cases hx:ix[j]? with
  | none=>rw[hx] at e2';simp at e2'
  | some o=>
   rw[hx] at e2'
   cases o with
   | none=>simp at e2'
   | some i=>
    simp at e2'
    have hz:(x,some i)∈N'.zip ix:=fG (i:=j) (by rw[List.getElem?_zip_eq_some];exact ⟨e1',hx⟩)
    have hz':=cU.mp S.ixs _ hz
    simp only[dA,beq_iff_eq] at hz'
    obtain ⟨hXN,hfr⟩:=hz'
    have hσ:σ[i]? = some (some v):=by
     cases q:σ[i]? with
     | none=>rw[q] at e2';simp at e2'
     | some o=>rw[q] at e2';simp at e2';rw[e2']
    have hk:=cU.mp S.free _ (Ih hfr)
    simp at hk
    have hvis:Vis X.env.scope x:=by
     rcases hk with q | q
     ·exact .inr (.inl q)
     ·exact .inr (.inr q)
    obtain ⟨u,r,look⟩:=hl0 i x v hXN hσ hvis
    rcases look with ⟨q,_⟩ | ⟨_,c,ec,hc⟩
    ·rcases hk with z | z
     ·rw[z] at q;cases q
     ·rw[z] at q;cases q
    ·obtain ⟨c',ec'⟩:=hcl2 _ (Ih hfr) rfl
     have:c'=c:=by have:=hcl x c' ec';rw[ec] at this;cases this;rfl
     subst this
     refine ⟨u,r,.inr ⟨?_,c',ec',?_⟩⟩
     ·rcases Hb (env:=X.env) hfr with q | q
      ·exact .inr q
      ·exact .inl q
     ·obtain ⟨oc,ho,hd⟩:=hc
      exact ⟨oc,keep _ _ ho,hd⟩
 ·obtain ⟨v,oc,ho,hd⟩:=I2.cell x c (hcl x c e)
  exact ⟨v,oc,keep _ _ ho,hd⟩
 ·have hp':p∈X.pn++pins:=by simpa[blk] using hp
  obtain ⟨q1,q2,q3,q4,q5⟩:=I2.pin p hp'
  refine ⟨keep _ _ q1,q2,bY (aU (aV q1) hC),fun z=>?_,q5⟩
  rcases cB.mp (I2.stkSub p.1 z) with q | q
  ·exact q3 q
  ·exact q4 q
 ·show (inner ix σ).length=N'.length
  rw[S.len];simp[inner]
end
section
variable {X:Cx}{scope:iK}{N':List Str}{ix:List (Option Nat)}{pins:List (Addr×Obj)}{σ:L2.St}{H2:Hp}{s2:aI}{cl:List (Str×Addr)}{fp:List Addr}
noncomputable def Uh(X':Cx)(ifs:List Expr)(tt:TT):Prop:=∀ (pins:List (Addr×Obj)) (s:aI) (σ:L2.St) (H:Hp) (Q:Bool->Hp->Prop) (E:aE->aI->Prop),Inv X' pins σ H s->tt σ H Q->(∀ e s,X'.xe e s->E e s) ->
 wpAny (model X'.prog X'.w) X'.A (forIn ifs true fun c r=>if r=true then do let ok <- isTrue c X'.env (eval c X'.env);pure (fX ok) else pure (fX r)) (TP X' pins σ Q) E s
noncomputable def Amn:TT:=fun _ H Q=>Q true H
theorem Ad4{X':Cx}:Uh X' [] Amn:=fun pins s σ H Q E I h _=>wpAny_tests_nil ⟨H,I,h⟩
theorem Tp{X':Cx}{c:Expr}{tt:TT}(h:PT X' c tt):Uh X' [c] tt:=fun pins s σ H Q E I q hE=>wpAny_tests_one (cL (h pins s σ H Q I q) (fun _ _ z=>z) hE)
noncomputable def D0(its:List aE)(n:Nat):Obj:={ cls:=.type "list",data:=.seq its.toArray n }
theorem Ad1{elt tg iter:Expr}{ifs:List Expr}{pos:Pos}{it D C:Addr}{J:It}{tn:Nat->Heap->Prop}{g:TG}{tt:TT}{te:TE}{Fin:List V->Hp->Prop}{R:Result->aI->Prop}{X':Cx}
  (hX:X'.A=X.A/\X'.prog=X.prog/\X'.w=X.w/\X'.K=X.K/\X'.calm=true/\∀ e s,¬ X'.xe e s) (T:Turn X.prog X.w X.K tg J fp it tn) (hg:PG X' tg g) (ht:Uh X' ifs tt) (he:PE X' elt te)
  (hD1:s2.heap.objs.size<=D) (hDC:D≠C) (hC:s2.heap.objs.size<=C) (hfp:∀ b∈fp,Mm X' [] H2 b/\b≠D) (hDf:∀ H,H D=none->Mm X' [] H D)
  {s:aI} {σ1:L2.St} {H1:Hp} {n0:Nat} (I:Inv X' [(D,D0 [] n0)] σ1 H1 s) (st:tn 0 s.heap) (fr:∀ b∈fp,H1 b=none) (hloop:Af8 J g tt te σ1 H1 Fin)
  (hR:∀ (s':aI) (σ':L2.St) (H':Hp) (acc:List V) (its:List aE) (n:Nat),Inv X' [(D,D0 its n)] σ' H' s'->Vals acc its->acc.length<=sizeLine->Fin acc H'->R (.ok .next) s') :
  jC (model X.prog X.w) X.A (.compLoop (.ListComp elt [⟨tg,iter,ifs,0⟩] scope pos) 0 (.ref it) (.ref D) X'.env) R s:=by
 obtain ⟨W,⟨m0,w0⟩,turn⟩:=hloop
 obtain ⟨hXA,hXp,hXw,hXK,hXc,hxe⟩:=hX
 have hfpo:∀ (o:Obj) (H:Hp),(∀ b∈fp,H b=none)->∀ b∈fp,Mm X' [(D,o)] H b:=fun o H hn b hb=>by
  obtain ⟨⟨_,q1,q2,q3,q4,q5⟩,q6⟩:=hfp b hb
  refine ⟨hn b hb,q1,q2,q3,q4,fun p hp=>?_⟩
  rcases fW.mp hp with z | z
  ·exact q5 p (dY _ z)
  ·have:p=(D,o):=by simpa using z
   rw[this];exact fun z=>q6 z.symm
 refine codeAny_loop rfl (fun n s=>∃ i acc its k σ1 H1,Inv X' [(D,D0 its k)] σ1 H1 s/\Vals acc its/\acc.length<=sizeLine/\tn i s.heap/\(∀ b∈fp,H1 b=none)/\W i n acc σ1 H1) (fun n s hI=>?_) m0 ⟨0,[],[],n0,σ1,H1,I,.nil,kY _,st,fr,w0⟩
 show wpAny _ X.A ((compTurn (.ListComp elt [⟨tg,iter,ifs,0⟩] scope pos) 0 (.ref it) (.ref D) X'.env).onRaise (fun x=>do noteFrame x X'.env;theTreesLotGoes x)) _ _ s
 refine wpAny_noted ?_
 rw[compTurn_list]
 obtain ⟨i,acc,its,k,σ1,H1,I,hv,hz,st,fr,w1⟩:=hI
 refine aG (jB (aG ?_))
 rcases turn i n acc σ1 H1 w1 with ⟨stop,fin⟩ | ⟨go,step⟩
 ·have h:=T.done X' hXp hXw hXK hXc i _ s σ1 H1 (notedBy (model X.prog X.w) X.A X'.env fun e s'=>R (.error e) s') I (hfpo _ H1 fr) st stop
  rw[hXA] at h
  refine thn h fun r s4 zz=>?_
  obtain ⟨hr,I4⟩:=zz
  subst hr
  exact bD (hR s4 σ1 H1 acc its k I4 hv hz fin)
 ·have h:=T.item X' hXp hXw hXK hXc i _ s σ1 H1 (notedBy (model X.prog X.w) X.A X'.env fun e s'=>R (.error e) s') I (hfpo _ H1 fr) st go
  rw[hXA] at h
  refine thn h fun r s4 zz=>?_
  obtain ⟨u,hr,h4⟩:=zz
  subst hr
  refine aG (thn h4 fun _ s5 zz=>?_)
  obtain ⟨x,H5,I5,r5,y5,st5,fr5⟩:=zz
  have I5':=I5.pinned (hfpo _ H5 fr5) (T.obj _ _ st5)
  have hg5:=hg _ s5 σ1 H5 x u _ I5' r5 (step x H5 y5)
  rw[hXp,hXw,hXA] at hg5
  refine aG (cL hg5 (fun _ s6 zz=>?_) fun e s z=>absurd z (hxe e s))
  obtain ⟨σ6,H6,I6,q6⟩:=zz
  have ht6:=ht _ s6 σ6 H6 _ (notedBy (model X.prog X.w) X.A X'.env fun e s'=>R (.error e) s') I6 q6 (fun e s z=>absurd z (hxe e s))
  rw[hXp,hXw,hXA] at ht6
  refine aG (thn ht6 fun b s7 zz=>?_)
  obtain ⟨H7,I7,q7⟩:=zz
  have back:∀ {σ8:L2.St} {H8:Hp} {s8:aI},Inv X' ([(D,D0 its k)]++R9 fp s5.heap) σ8 H8 s8->tn (i+1) s8.heap/\(∀ b∈fp,H8 b=none)/\s8.heap.get? D=some (D0 its k)/\H8 D=none:=fun {σ8 H8 s8} I8=>by
   refine ⟨T.keep _ _ _ st5 fun b hb o e=>(I8.pin (b,o) (bR _ (bR _ (Kq hb e)))).1,fun b hb=>?_,?_,?_⟩
   ·obtain ⟨o,e,d⟩:=T.obj _ _ st5 b hb
    exact (I8.pin (b,o) (bR _ (bR _ (Kq hb e)))).2.1
   ·exact (I8.pin (D,D0 its k) (bR _ (dY _ (eI.mpr rfl)))).1
   ·exact (I8.pin (D,D0 its k) (bR _ (dY _ (eI.mpr rfl)))).2.1
  cases b with
  | false=>
   obtain ⟨m',hm,w8⟩:=(q7:if false=true then _ else _)
   obtain ⟨st8,fr8,_,_⟩:=back I7
   refine bD ⟨rfl,m',hm,i+1,acc,its,k,σ6,H7,?_,hv,hz,st8,fr8,w8⟩
   exact I7.pins_of fun p hp=>I7.pin p (bR _ (dY _ hp))
  | true=>
   have q7':te σ6 H7 fun y H6=>acc.length < sizeLine/\∃ m',m' < n/\W (i+1) m' (acc++[y]) σ6 H6:=q7
   have he7:=he _ s7 σ6 H7 _ I7 q7'
   rw[hXp,hXw,hXA] at he7
   refine aG (aG (cL he7 (fun y s8 zz=>zz.elim fun v H8 I8 r8 zq=>?_) fun e s z=>absurd z (hxe e s)))
   obtain ⟨hlt,m',hm,w8⟩:=zq
   obtain ⟨st8,fr8,hDo,hDn⟩:=back I8
   have hlen:=hv.length
   have hisl:s8.heap.IsList D its.toArray:=⟨_,hDo,rfl,k,rfl⟩
   refine aG ?_
   obtain ⟨k',hd'⟩:∃ k',fS (·.push y) (D0 its k)=D0 (its++[y]) k':=⟨_,by simp[D0,fS];rfl⟩
   refine gT slot_list_append hisl.typeIs entry_list_append ?_ (args_list_append _ _)
   show wpAny _ _ (updateSeq D (·.push y) >>= fun _=>ret .none) _ _ s8
   refine aG (wpAny_updateSeq hDo rfl (bD ⟨.none,rfl,?_⟩))
   have hk9:∀ b o,b≠D->s8.heap.get? b=some o->(s8.heap.update D (fS (·.push y))).get? b=some o:=fun b o hb e=>(jW (h:=s8.heap) (a:=D) ..).2 b hb |>.trans e
   have hD9:(s8.heap.update D (fS (·.push y))).get? D=some (D0 (its++[y]) k'):=by
    rw[<- hd'];exact dB _ hDo (by rw[hd'];exact Obj.isFreed_of_seq (xs:=(its++[y]).toArray) (n:=k') rfl)
   have I8':Inv X' [] σ6 H8 s8:=I8.pins_of fun p hp=>by cases hp
   obtain ⟨d0,d1,d2,d3,d4,d5⟩:=hDf H8 hDn
   have I9:Inv X' [] σ6 H8 { s8 with heap:=s8.heap.update D (fS (·.push y)) }:=I8'.turned (t':=s8.toks) hk9 hDn d1 d3 d4 d5
   have I10:=I9.pins_of (pins':=[(D,D0 (its++[y]) k')]) fun p hp=>by
    have:p=(D,D0 (its++[y]) k'):=by simpa using hp
    subst this
    exact ⟨hD9,hDn,d1,d2,fun v z=>by simp[D0] at z⟩
   refine bD (bD ⟨rfl,m',hm,i+1,acc++[v],its++[y],k',σ6,H8,I10,Vals.append hv (.cons r8 .nil),by rw[cG];simp;omega,?_,fr8,w8⟩)
   refine T.keep _ _ _ st8 fun b hb o e=>hk9 b o (hfp b hb).2 e
end
section
variable {X:Cx}{scope:iK}{N':List Str}{ix:List (Option Nat)}
noncomputable def Aij(ix:List (Option Nat))(wi:TI)(g:TG)(tt:TT)(te:TE):TE:=fun σ H Q=>wi σ H fun J H1=>Af8 J g tt te (inner ix σ) H1 fun acc H2=>∀ p,H2 p=none->Q (.ref p) (upd H2 p (.lst acc))
theorem Tw{elt tg iter:Expr}{ifs:List Expr}{pos:Pos}{g:TG}{tt:TT}{te:TE}{pins:List (Addr×Obj)}{σ:L2.St}{H2:Hp}{s2:aI}{cl:List (Str×Addr)}{fp:List Addr}{it:Addr}{J:It}{tn:Nat->Heap->Prop}{E:aE->aI->Prop}{Fin:List V->Hp->Prop}{RR:aE->Addr->Result->aI->Prop}
  (S:CompSc X scope N' ix) (hcalm:X.calm=true) (hcl:∀ x c,cl.lookup x=some c->X.env.cells.lookup x=some c) (hcl2:∀ y∈scope.names,y.2 = .free->∃ c,cl.lookup y.1=some c)
  (hg:∀ C,PG (blk X scope cl C N' s2 H2 fp pins) tg g) (ht:∀ C,Uh (blk X scope cl C N' s2 H2 fp pins) ifs tt) (he:∀ C,PE (blk X scope cl C N' s2 H2 fp pins) elt te)
  (I2:Inv X pins σ H2 s2) (T:Turn X.prog X.w X.K tg J fp it tn) (st2:tn 0 s2.heap) (f2:∀ b∈fp,Mm X pins H2 b) (hloop:Af8 J g tt te (inner ix σ) H2 Fin)
  (hRR:∀ (D C:Addr) (s':aI) (H':Hp) (acc:List V),Inv X pins σ (upd H' D (.lst acc)) s'->H' D=none->(∃ m,s'.heap.Ns C m)->(upd H' D (.lst acc)) C=none->Mm X pins (upd H' D (.lst acc)) C->Fin acc H'->RR (.ref D) C (.ok .next) s') :
  wpAny (model X.prog X.w) X.A (newList []) (fun acc s₃=>wpAny (model X.prog X.w) X.A (newFunctionEnv scope X.env.globals cl [] X.env.qual none .none (some X.env)) (fun cenv s₄=>
   jC (model X.prog X.w) X.A (.compStart (.ListComp elt [⟨tg,iter,ifs,0⟩] scope pos) 0 (.ref it) acc { cenv with scope:=relabel scope X.env }) (RR acc cenv.locals) s₄) E s₃) E s2:=by
 have hcell:∀ y∈scope.names,y.2≠.cell:=fun y hy z=>by
  have:=cU.mp S.cell y hy
  rw[z] at this;simp at this
 refine eO (wpAny_newFunctionEnv hcell (by intro y hy;simp at hy) (fun h₁ hns₁ hsb₁=>?_) S.kind)
 dsimp only at hns₁ hsb₁ ⊢
 generalize hH2:s2.heap.push { cls:=.type "list",dict:=none,data:=.seq ([]:List aE).toArray } = HP at hns₁ hsb₁ ⊢
 have hCs:HP.objs.size=s2.heap.objs.size+1:=by rw[<- hH2,eD]
 have hDC:s2.heap.objs.size≠HP.objs.size:=by rw[hCs];exact bY (fQ _)
 have hCle:s2.heap.objs.size<=HP.objs.size:=by rw[hCs];exact jD _
 have old:∀ b o,s2.heap.get? b=some o->h₁.get? b=some o:=fun b o e=>hsb₁.extBut b o (bY (aU (aV e) hCle)) (aF _ (hH2 ▸ aF _ e))
 have hacc:h₁.get? s2.heap.objs.size=some (D0 [] 0):=hsb₁.extBut _ _ hDC (aF _ (hH2 ▸ aW _ rfl))
 have hfp:∀ b∈fp,b < s2.heap.objs.size:=fun b hb=>by
  obtain ⟨o,e,_⟩:=T.obj _ _ st2 b hb
  exact aV e
 generalize hDg:s2.heap.objs.size=D at hDC hacc
 generalize hCg:HP.objs.size=C at *
 have hDle:s2.heap.objs.size<=D:=oP hDg
 have hD2:s2.heap.get? D=none:=by
  cases q:s2.heap.get? D with
  | none=>rfl
  | some o=>exact absurd (aU (aV q) hDle) (dO _)
 have I4:=Aew (t4:=s2.toks+([]:List (Str×aE)).length) S hcalm I2 hcl hcl2 f2 hfp hCle hns₁ old
 have above:∀ a,s2.heap.objs.size<=a->a∉frs X.stack/\(∀ x c,X.env.cells.lookup x=some c->c≠a)/\(∀ p∈X.pn++pins,p.1≠a)/\a≠X.env.locals:=fun a ha=>by
  refine ⟨fun z=>?_,fun x c e z=>?_,fun p hp z=>?_,?_⟩
  ·rcases cB.mp (I2.stkSub a z) with q | q
   ·exact absurd (aU I2.lt (q ▸ ha)) (dO _)
   ·exact I2.nofs ha q
  ·obtain ⟨v,q⟩:=I2.cell x c e
   exact absurd (aU q.lt (z ▸ ha)) (dO _)
  ·exact absurd (aU (aV (I2.pin p hp).1) (z ▸ ha)) (dO _)
  ·intro z;exact absurd (aU I2.lt (z ▸ ha)) (dO _)
 have hfpX:∀ b∈fp,Mm (blk X scope cl C N' s2 H2 fp pins) [] H2 b/\b≠D:=fun b hb=>by
  obtain ⟨q0,q1,q2,q3,q4,q5⟩:=f2 b hb
  have hlt:=hfp b hb
  refine ⟨⟨q0,bY (aU hlt hCle),fun z=>?_,.inl hb,fun x c e=>q4 x c (hcl x c e),fun p hp=>q5 p (by simpa[blk] using hp)⟩,bY (aU hlt hDle)⟩
  rcases cB.mp (I2.stkSub b z) with q | q
  ·exact q1 q
  ·exact q2 q
 have hDf:∀ H:Hp,H D=none->Mm (blk X scope cl C N' s2 H2 fp pins) [] H D:=fun H hn=>by
  obtain ⟨a1,a2,a3,a4⟩:=above D hDle
  exact ⟨hn,hDC,a1,.inr hDle,fun x c e=>a2 x c (hcl x c e),fun p hp=>a3 p (by simpa[blk] using hp)⟩
 have hDn2:H2 D=none:=I2.hok.fresh hDle
 have I5:Inv (blk X scope cl C N' s2 H2 fp pins) [(D,D0 [] 0)] (inner ix σ) H2 { s2 with heap:=h₁,toks:=s2.toks+([]:List (Str×aE)).length }:=I4.pins_of fun p hp=>by
  have:p=(D,D0 [] 0):=by simpa using hp
  subst this
  obtain ⟨_,d1,d2,_⟩:=hDf H2 hDn2
  exact ⟨hacc,hDn2,d1,d2,fun v z=>by simp[D0] at z⟩
 have st5:tn 0 h₁:=T.keep _ _ _ st2 fun b _ o e=>old b o e
 have loop:jC (model X.prog X.w) X.A (.compLoop (.ListComp elt [⟨tg,iter,ifs,0⟩] scope pos) 0 (.ref it) (.ref D) (blk X scope cl C N' s2 H2 fp pins).env) (RR (.ref D) C) { s2 with heap:=h₁,toks:=s2.toks+([]:List (Str×aE)).length }:=by
  refine Ad1 (X':=blk X scope cl C N' s2 H2 fp pins) ⟨rfl,rfl,rfl,rfl,hcalm,fun _ _ z=>z⟩ T (hg C) (ht C) (he C) hDle hDC hCle hfpX hDf I5 st5 (fun b hb=>(f2 b hb).1) hloop ?_
  intro s' σ' H' acc its n I hv hz fin
  obtain ⟨hDo,hDn,_⟩:=I.pin (D,D0 its n) (bR _ (eI.mpr rfl))
  have hbase:Un (frs X.stack) fp H2 H' s2.heap s'.heap:=I.base
  have hok:HOk X.prog X.w (upd H' D (.lst acc)) s'.heap:=HOk.adopt I.hok hDn ⟨hz,its,n,hv,hDo⟩
  have IX:Inv X pins σ (upd H' D (.lst acc)) s':=I2.call' I.os (Un.adopt hbase hDn hD2) hok I.bare fun b hb=>⟨(f2 b hb).2.2.2.1,(f2 b hb).2.1,(f2 b hb).2.2.2.2.1,(f2 b hb).2.2.2.2.2⟩
  obtain ⟨m,hm,_⟩:=I.loc
  have hCn:(upd H' D (.lst acc)) C=none:=by rw[Bc (cR hDC)];exact I.free
  obtain ⟨a1,a2,a3,a4⟩:=above C hCle
  refine hRR D C s' H' acc IX hDn ⟨m,hm⟩ hCn ⟨hCn,a4,fun z=>?_,.inr (cC I2.sz hCle),a2,a3⟩ fin
  exact I2.nofs hCle z
 have e1:({ newEnv scope C X.env.globals cl X.env.qual none .none (some X.env) nY with scope:=relabel scope X.env }:eN)=(blk X scope cl C N' s2 H2 fp pins).env:=rfl
 exact codeAny_compStart_list loop (T.self _ 0 _ _ _ st5 loop)
theorem CompSc.names{scope:iK}(S:CompSc X scope N' ix):∀ x∈scope.names,x.2 = .local->scope.names.lookup x.1=some .local:=fun x hx hl=>by
 have:=cU.mp S.loc x hx
 rw[hl] at this
 simpa using this
theorem CompSc.clos{scope:iK}(S:CompSc X scope N' ix)(ok:X.Ok):∃ cl,closureFor scope X.env=pure cl/\(∀ x c,cl.lookup x=some c->X.env.cells.lookup x=some c)/\∀ y∈scope.names,y.2 = .free->∃ c,cl.lookup y.1=some c:=by
 refine Tb fun y hy hf=>?_
 have:=cU.mp S.free y hy
 rw[hf] at this
 simp at this
 exact ok.has y.1 this
theorem Ace{elt tg iter:Expr}{ifs:List Expr}{pos:Pos}{wi:TI}{g:TG}{tt:TT}{te:TE}(S:CompSc X scope N' ix)(hcalm:X.calm=true)(hi:PI X tg iter wi)
  (hg:∀ cl C s2 H2 fp pins,PG (blk X scope cl C N' s2 H2 fp pins) tg g) (ht:∀ cl C s2 H2 fp pins,Uh (blk X scope cl C N' s2 H2 fp pins) ifs tt) (he:∀ cl C s2 H2 fp pins,PE (blk X scope cl C N' s2 H2 fp pins) elt te)
  (hs:∀ x,foldedSetIterable iter X.env x=pure x:=by intro _;rfl):PE X (.ListComp elt [⟨tg,iter,ifs,0⟩] scope pos) (Aij ix wi g tt te):=by
 intro pins s σ H Q I h
 obtain ⟨cl,hclos,hcl,hcl2⟩:=S.clos I.ok
 rw[eval_ListComp]
 refine lQ (use:=none) rfl hs hclos S.kind S.names (thn (hi pins s σ H _ I h) fun v s1 h1=>thn h1 fun itv s2 h2=>?_)
 obtain ⟨it,fp,tn,J,H2,e,I2,T,st2,f2,loop⟩:=h2
 subst e
 refine Tw (RR:=fun acc C=>compPost (model X.prog X.w) X.A X.xe none (EP X pins σ Q) acc C) S hcalm hcl hcl2 (fun C=>hg cl C s2 H2 fp pins) (fun C=>ht cl C s2 H2 fp pins) (fun C=>he cl C s2 H2 fp pins) I2 T st2 f2 loop ?_
 intro D C s' H' acc IX hDn ⟨m,hm⟩ hCn hC fin
 refine ⟨m,hm,fun h' hsb=>?_⟩
 obtain ⟨c0,c1,c2,c3,c4,c5⟩:=hC
 exact ⟨.ref D,_,IX.turned (t':=s'.toks) (fun b o hb e=>hsb.2 b hb |>.trans e) c0 c1 c3 c4 c5,rfl,fin D hDn⟩
theorem Ai5{i:Nat}{y:Str}{py spos:Pos}{elt tg iter:Expr}{ifs:List Expr}{pos:Pos}{wi:TI}{g:TG}{tt:TT}{te:TE}(hN:X.N.Nodup)(hiN:X.N[i]? = some y)(hx:Loc X.env.scope y)(hf:X.fn y=true\/X.env.scope.names.lookup y=some .local)
  (S:CompSc X scope N' ix) (hcalm:X.calm=true) (hi:PI X tg iter wi)
  (hg:∀ cl C s2 H2 fp pins,PG (blk X scope cl C N' s2 H2 fp pins) tg g) (ht:∀ cl C s2 H2 fp pins,Uh (blk X scope cl C N' s2 H2 fp pins) ifs tt) (he:∀ cl C s2 H2 fp pins,PE (blk X scope cl C N' s2 H2 fp pins) elt te)
  (hsw:swapsWith (.ListComp elt [⟨tg,iter,ifs,0⟩] scope pos) (some (.Name y py)) spos.line X.env=pure true)
  (hs:∀ x,foldedSetIterable iter X.env x=pure x:=by intro _;rfl):PS X (.Assign [.Name y py] (.ListComp elt [⟨tg,iter,ifs,0⟩] scope pos) spos) (Ai4 (Aij ix wi g tt te) (Wy i)):=by
 intro pins s σ H Dn I h
 obtain ⟨cl,hclos,hcl,hcl2⟩:=S.clos I.ok
 rw[exec_Assign_Name_used _ _ _ _ hsw]
 refine aG (jB (aG ?_))
 show wpAny _ X.A (do let _ <- comprehension (.ListComp elt [⟨tg,iter,ifs,0⟩] scope pos) scope X.env _ (newList []) false (eval iter X.env) (some (assign (.Name y py) X.env))) _ _ s
 refine aG (cL (lQ (Q:=fun _ s'=>SP X pins Dn .next s') (use:=some (assign (.Name y py) X.env)) rfl hs hclos S.kind S.names (thn (hi pins s σ H _ I h) fun v s1 h1=>thn h1 fun itv s2 h2=>?_)) (fun _ s' hq=>bD (bD hq)) fun _ _ e=>e)
 obtain ⟨it,fp,tn,J,H2,e,I2,T,st2,f2,loop⟩:=h2
 subst e
 refine Tw (RR:=fun acc C=>compPost (model X.prog X.w) X.A X.xe (some (assign (.Name y py) X.env)) (fun _ s'=>SP X pins Dn .next s') acc C) S hcalm hcl hcl2 (fun C=>hg cl C s2 H2 fp pins) (fun C=>ht cl C s2 H2 fp pins) (fun C=>he cl C s2 H2 fp pins) I2 T st2 f2 loop ?_
 intro D C s' H' acc IX hDn ⟨m,hm⟩ hCn hC fin
 obtain ⟨c0,c1,c2,c3,c4,c5⟩:=hC
 obtain ⟨oC,es,ep,hoC,hdC,hrest⟩:=id hm
 have IP:Inv X (pins++[(C,oC)]) σ (upd H' D (.lst acc)) s':=IX.pins_of fun p hp=>by
  rcases fW.mp hp with z | z
  ·exact IX.pin p (bR _ z)
  ·have:p=(C,oC):=by simpa using z
   subst this
   exact ⟨hoC,c0,c1,c2,fun v z=>by rw[hdC] at z;cases z⟩
 have hq:Wy i (.ref D) σ (upd H' D (.lst acc)) Dn.nx:=fin D hDn
 refine thn (Adi (i:=i) (pos:=py) hN hiN hx hf (pins++[(C,oC)]) s' σ _ (.ref D) (.ref D) Dn.nx IP rfl hq) fun _ s'' zz=>?_
 obtain ⟨σ'',H'',I'',q''⟩:=zz
 obtain ⟨p1,p2,p3,p4,p5⟩:=I''.pin (C,oC) (bR _ (bR _ (eI.mpr rfl)))
 refine ⟨m,⟨oC,es,ep,p1,hdC,hrest⟩,fun h' hsb=>?_⟩
 exact ⟨σ'',H'',(I''.unpinned).turned (t':=s''.toks) (fun b o hb e=>hsb.2 b hb |>.trans e) p2 p3 c3 c4 c5,q''⟩
end
noncomputable def Ig(tt:Option FT):FT:=fun δ L=>match tt with
 | none=>some (true,L)
 | some f=>f δ L
noncomputable def Sl(it:IU)(g:FG)(tt:Option FT)(fe:FE):Nat->Nat->List U->UE->UH->Option (List U×UH)
 | 0,_,_,_,_=>none
 | m+1,k,acc,δ,L=>match it.at k L with
  | none=>none
  | some none=>some (acc,L)
  | some (some u)=>(g u δ L).bind fun p=>(Ig tt p.1 p.2).bind fun q=>if q.1=true then (fe p.1 q.2).bind fun r=>if decide (acc.length < sizeLine)=true then Sl it g tt fe m (k+1) (acc++[r.1]) p.1 r.2 else none
   else Sl it g tt fe m (k+1) acc p.1 q.2
noncomputable def Ib(ix:List (Option Nat))(δ:UE):UE:=ix.map fun o=>o.bind fun i=>(δ[i]?).join
noncomputable def By(ix:List (Option Nat))(fi:FI)(g:FG)(tt:Option FT)(fe:FE):FE:=fun δ L=>(fi δ L).bind fun p=>(Sl p.1 g tt fe (p.1.size p.2+1) 0 [] (Ib ix δ) p.2).map fun q=>(.ref q.2.length,q.2++[.lst q.1])
theorem RepS.inner{K:aC}{H:Hp}{α:List Addr}{δ:UE}{σ:L2.St}(S:RepS K H α δ σ)(ix:List (Option Nat)):RepS K H α (Ib ix δ) (MR.inner ix σ):=by
 refine ⟨by simp[Ib,MR.inner],fun j u e=>?_⟩
 unfold Ib at e
 unfold MR.inner
 rw[bV] at e ⊢
 cases hx:ix[j]? with
 | none=>rw[hx] at e;simp at e
 | some o=>
  rw[hx] at e
  cases o with
  | none=>simp at e
  | some i=>
   simp at e
   have:δ[i]? = some (some u):=by
    cases q:δ[i]? with
    | none=>rw[q] at e;simp at e
    | some o=>rw[q] at e;simp at e;rw[e]
   obtain ⟨v,hv,r⟩:=S.at_ i u this
   exact ⟨v,by simp[hv],r⟩
noncomputable def lTo(K:aC)(tt:Option FT):TT:=match tt with
 | none=>Amn
 | some f=>lT K f
inductive CI(K:aC)(it:IU)(g:FG)(tt:Option FT)(fe:FE)(H1:Hp)(α1:List Addr)(ys:List U)(L2:UH)(k m:Nat)(acc:List V)(σ2:_root_.L2.St)(H2:Hp):Prop
 | mk (α2:List Addr) (δ2:UE) (M:UH) (us:List U) (g2:Gr H1 α1 H2 α2) (A2:Abs K H2 α2 M) (S2:RepS K H2 α2 δ2 σ2) (r2:RepL K H2 α2 us acc) (e:Sl it g tt fe m k us δ2 M=some (ys,L2)):CI K it g tt fe H1 α1 ys L2 k m acc σ2 H2
theorem V9{K:aC}{ix:List (Option Nat)}{fi:FI}{g:FG}{tt:Option FT}{fe:FE}:∀ σ H Q,lE K (By ix fi g tt fe) σ H Q->Aij ix (lI K fi) (lG K g) (lTo K tt) (lE K fe) σ H Q:=by
 rintro σ H Q ⟨α,δ,L,A,S,z,L3,e,q⟩
 obtain ⟨⟨it,L1⟩,e1,e⟩:=aB.mp e
 obtain ⟨⟨ys,L2⟩,e2,e⟩:=aH.mp e
 cases e
 refine ⟨α,δ,L,A,S,it,L1,e1,fun J H1 α1 g1 A1 hJ=>?_⟩
 refine ⟨CI K it g tt fe H1 α1 ys L2,⟨_,α1,_,L1,[],.refl _ _,A1,(S.mono g1).inner ix,.nil,e2⟩,?_⟩
 rintro k m acc σ2 H2 ⟨α2,δ2,M,us,g2,A2,S2,r2,e3⟩
 cases m with
 | zero=>cases e3
 | succ m=>
  obtain ⟨hgo,hstop⟩:=hJ H2 α2 M g2 A2 k
  unfold Sl at e3
  cases hat:it.at k M with
  | none=>rw[hat] at e3;cases e3
  | some o=>
   cases o with
   | none=>
    rw[hat] at e3
    cases e3
    refine .inl ⟨hstop hat,fun p hp=>?_⟩
    obtain ⟨g3,A3,r3⟩:=A2.lst r2 hp
    exact q _ _ _ (g1.trans (g2.trans g3)) A3 r3
   | some u=>
    rw[hat] at e3
    obtain ⟨go,yld⟩:=hgo u hat
    obtain ⟨⟨δ3,L3⟩,e4,e3⟩:=aB.mp e3
    obtain ⟨⟨b,L4⟩,e5,e3⟩:=aB.mp e3
    refine .inr ⟨go,fun x H3 y3=>?_⟩
    obtain ⟨g3,A3,r3⟩:=yld x H3 y3
    refine ⟨α2,δ2,M,u,A3,S2.mono g3,r3,δ3,L3,e4,fun σ4 H4 α4 g4 A4 S4=>?_⟩
    have after:∀ H5 α5,Gr H4 α4 H5 α5->Abs K H5 α5 L4->(if b=true then lE K fe σ4 H5 (fun y H6=>acc.length < sizeLine/\∃ m',m' < m+1/\CI K it g tt fe H1 α1 ys L2 (k+1) m' (acc++[y]) σ4 H6) else ∃ m',m' < m+1/\CI K it g tt fe H1 α1 ys L2 (k+1) m' acc σ4 H5):=fun H5 α5 g5 A5=>by
     have gA:=g2.trans (g3.trans (g4.trans g5))
     have gB:=g3.trans (g4.trans g5)
     cases b with
     | false=>exact Adx ⟨m,fQ _,α5,δ3,L4,us,gA,A5,S4.mono g5,r2.mono gB,e3⟩
     | true=>
      obtain ⟨⟨w,L5⟩,e6,e3⟩:=aB.mp e3
      simp only at e3
      split at e3
      ·rename_i hlt
       refine Aed ⟨α5,δ3,L4,A5,S4.mono g5,w,L5,e6,fun y H6 α6 g6 A6 r6=>?_⟩
       exact ⟨by rw[<- r2.length];exact of_decide_eq_true hlt,m,fQ _,α6,δ3,L5,us++[w],gA.trans g6,A6,(S4.mono g5).mono g6,(r2.mono (gB.trans g6)).append (.cons r6 .nil),e3⟩
      ·cases e3
    cases tt with
    | none=>
     cases e5
     exact after H4 α4 (.refl _ _) A4
    | some f=>exact ⟨α4,δ3,L3,A4,S4,b,L4,e5,fun H5 α5 g5 A5=>after H5 α5 g5 A5⟩
section
variable {X:Cx}{scope:iK}{N':List Str}{ix:List (Option Nat)}{elt tg iter c:Expr}{pos:Pos}{fi:FI}{g:FG}{ft:FT}{fe:FE}
theorem Fw(S:CompSc X scope N' ix)(hcalm:X.calm=true)(hi:PIF X tg iter fi)(hg:∀ cl C s2 H2 fp pins,PGF (blk X scope cl C N' s2 H2 fp pins) tg g)(he:∀ cl C s2 H2 fp pins,PEF (blk X scope cl C N' s2 H2 fp pins) elt fe)
  (hs:∀ x,foldedSetIterable iter X.env x=pure x:=by intro _;rfl):PEF X (.ListComp elt [⟨tg,iter,[],0⟩] scope pos) (By ix fi g none fe):=
 PE.imp (Ace (g:=lG X.K g) (te:=lE X.K fe) (tt:=Amn) S hcalm hi hg (fun _ _ _ _ _ _=>Ad4) he hs) V9
theorem G0(S:CompSc X scope N' ix)(hcalm:X.calm=true)(hi:PIF X tg iter fi)(hg:∀ cl C s2 H2 fp pins,PGF (blk X scope cl C N' s2 H2 fp pins) tg g)(ht:∀ cl C s2 H2 fp pins,PTF (blk X scope cl C N' s2 H2 fp pins) c ft)(he:∀ cl C s2 H2 fp pins,PEF (blk X scope cl C N' s2 H2 fp pins) elt fe)
  (hs:∀ x,foldedSetIterable iter X.env x=pure x:=by intro _;rfl):PEF X (.ListComp elt [⟨tg,iter,[c],0⟩] scope pos) (By ix fi g (some ft) fe):=
 PE.imp (Ace (g:=lG X.K g) (te:=lE X.K fe) (tt:=lT X.K ft) S hcalm hi hg (fun _ _ _ _ _ _=>Tp (ht _ _ _ _ _ _)) he hs) (V9 (tt:=some ft))
theorem An8{K:aC}{i:Nat}{fc:FE}{t:TE}(ht:∀ σ H Q,lE K fc σ H Q->t σ H Q):∀ D σ H,lS K (Bh fc (gN i)) D σ H->Ai4 t (Wy i) D σ H:=by
 rintro D σ H ⟨α,δ,L,A,S,fl,L',e,q⟩
 obtain ⟨⟨u,L1⟩,e1,e⟩:=aB.mp e
 obtain ⟨⟨δ2,L2⟩,e2,e⟩:=aH.mp e
 cases e
 cases e2
 exact ht σ H _ ⟨α,δ,L,A,S,u,_,e1,fun v H1 α1 g1 A1 r1=>q _ H1 α1 g1 A1 ((S.mono g1).set i r1)⟩
theorem Adm{i:Nat}{y:Str}{py spos:Pos}(hN:X.N.Nodup)(S:CompSc X scope N' ix)(hcalm:X.calm=true)(hi:PIF X tg iter fi)(hg:∀ cl C s2 H2 fp pins,PGF (blk X scope cl C N' s2 H2 fp pins) tg g)(ht:∀ cl C s2 H2 fp pins,PTF (blk X scope cl C N' s2 H2 fp pins) c ft)(he:∀ cl C s2 H2 fp pins,PEF (blk X scope cl C N' s2 H2 fp pins) elt fe)
  (hiN:X.N[i]? = some y:=by rfl) (hx:Loc X.env.scope y:=by first | exact qY rfl | exact qH rfl) (hf:X.fn y=true\/X.env.scope.names.lookup y=some .local:=by first | exact .inl rfl | exact .inr rfl)
  (hsw:swapsWith (.ListComp elt [⟨tg,iter,[c],0⟩] scope pos) (some (.Name y py)) spos.line X.env=pure true:=by rfl)
  (hs:∀ x,foldedSetIterable iter X.env x=pure x:=by intro _;rfl):PSF X (.Assign [.Name y py] (.ListComp elt [⟨tg,iter,[c],0⟩] scope pos) spos) (Bh (By ix fi g (some ft) fe) (gN i)):=
 PS.imp (Ai5 (i:=i) (g:=lG X.K g) (te:=lE X.K fe) (tt:=lT X.K ft) hN hiN hx hf S hcalm hi hg (fun _ _ _ _ _ _=>Tp (ht _ _ _ _ _ _)) he hsw hs) (An8 (V9 (tt:=some ft)))
end
section
variable {X:Cx}{pins:List (Addr×Obj)}{σ:L2.St}{H:Hp}{s:aI}{h':Heap}
theorem Inv.turnNew{ch:List Addr}{p:Addr}{o:HO}{t':Nat}(I:L2.Inv X pins σ H s)(hch:∀ b∈ch,Mm X pins H b)(k:∀ b o,b∉ch->s.heap.get? b=some o->h'.get? b=some o)(hp:s.heap.objs.size<=p)(new:ObjOk X.prog X.w (upd H p o) h' p o) :
  L2.Inv X pins σ (upd H p o) { s with heap:=h',toks:=t' }:=by
 have hn:H p=none:=I.hok.fresh hp
 have nch:∀ b u,H b=some u->b∉ch:=fun b u e hb=>by rw[(hch b hb).1] at e;cases e
 have st:=Stay.new hn o
 refine I.step (g':=s.gens) (d':=s.drawn) (ch:=ch) (fun b hb=>?_) (fun b o _ _ hc e _=>k b o hc e) (fun b o _ _ hc e _=>⟨o.slots,k b o hc e⟩) (fun b u hc e n=>?_) (fun b u hc e=>⟨u,k b u hc e⟩) st.1 st.2 (fun b ps e=>⟨#[],?_⟩) (fun m hm=>?_) (fun b u e=>?_) I.bare
 ·obtain ⟨_,f1,_,f3,f4,f5⟩:=hch b hb
  exact ⟨f3,f1,f4,f5⟩
 ·rw[Bc (bY (aU (aV e) hp))];exact n
 ·rw[Bc (Bk e hn),e];simp
 ·obtain ⟨o1,es,ep,ho,r⟩:=hm
  exact ⟨o1,es,ep,k _ o1 (fun z=>(hch _ z).2.1 rfl) ho,r⟩
 ·by_cases hb:b=p
  ·subst hb;rw[upd_same] at e;cases e;exact new
  ·rw[Bc hb] at e
   refine (I.hok b u e).stay (fun c v hc q=>k c v ?_ q) (fun c q=>by rw[Bc (Bk q hn)];exact q) fun c xs q=>by rw[Bc (Bk q hn)];exact q
   rcases hc with z | z
   ·rw[z];exact nch b u e
   ·exact nch c _ z
end
theorem Aes(n l1 l2:Nat)(h1:l1 < n)(h2:l2 < n):nC (n+4) (n+2) (n+3) n (n+1) l1 l2:=by
 constructor <;> (intro q;exact absurd (show (_:Nat)=_ from q) (by omega))
section
variable {X:Cx}{elts:List Expr}{x1:Nat}{tpos:Pos}
theorem Aht:eC "zip" = some (.type "zip"):=by decide +kernel
noncomputable def Aot(g:FA):FI:=fun δ L=>(g δ L).bind fun p=>match p.1 with
 | [.ref n]=>(A7 p.2 n).map fun _=>(.enm n,p.2)
 | _=>none
noncomputable def Ary(g:FA):FI:=fun δ L=>(g δ L).bind fun p=>match p.1 with
 | [.ref n,.ref m]=>(A7 p.2 n).bind fun _=>(A7 p.2 m).map fun _=>(.zip2 n m,p.2)
 | _=>none
end
end MR
namespace HT
open PySem PySem.Spec PyProof.Rows
section
variable {prog:bN}{w:bW}{A:cK}{E:aE->aI->Prop}{s:aI}
end
end HT
namespace MR
open PySem PySem.Spec PyProof.Rows L2
section
variable {X:Cx}{e st:Expr}{fa fs:FE}{p2 pos:Pos}
noncomputable def Aq1(f:FE):FE:=fun δ L=>(f δ L).bind fun p=>match p.1 with | .ref n=>(A7 p.2 n).map fun l=>(.ref p.2.length,p.2++[.lst l.reverse]) | .tup l=>some (.tup l.reverse,p.2) | _=>none
end
structure ClsF(K:aC)(C:Str)(Ca:Addr):Prop where
 ns:aO K aN C=some (some (.ref Ca))
 cl:Cls K Ca
theorem ClsF.eq{K:aC}{C:Str}{Ca Cb:Addr}(T:ClsF K C Ca)(h:aO K aN C=some (some (.ref Cb))):Cb=Ca:=by
 have:=T.ns.symm.trans h
 simpa using this.symm
noncomputable def Pj(C:Str)(u:U)(L:UH):Option (Nat×List (Str×U)):=match u with
 | .ref n=>match L[n]? with
  | some (.ins C' fs)=>if C'=C then some (n,fs) else none
  | _=>none
 | _=>none
theorem Ni{C:Str}{u:U}{L:UH}{n:Nat}{fs:List (Str×U)}(h:Pj C u L=some (n,fs)):u = .ref n/\L[n]? = some (.ins C fs):=by
 unfold Pj at h
 split at h
 ·split at h
  ·rename_i e
   split at h
   ·rename_i hc
    cases h
    exact ⟨rfl,by rw[e,hc]⟩
   ·cases h
  ·cases h
 ·cases h
theorem Hy{K:aC}{H:Hp}{α:List Addr}{f:Str}:∀ {fs:List (Str×U)} {vs:List (Str×V)},fs.map (·.1)=vs.map (·.1)->RepL K H α (fs.map (·.2)) (vs.map (·.2))->(∀ u,fs.lookup f=some u->∃ v,vs.lookup f=some v/\RepU K H α u v)/\(fs.lookup f=none->vs.lookup f=none)
 | [],[],_,_=>⟨fun u h=>by simp at h,fun _=>rfl⟩
 | [],_::_,h,_=>by simp at h
 | _::_,[],h,_=>by simp at h
 | (g,u)::fs,(g',v)::vs,h,r=>by
  simp only[aP,jQ] at h
  obtain ⟨h1,h2⟩:=h
  subst h1
  simp only[aP] at r
  unfold RepL at r
  obtain ⟨x,xr,e,r1,r2⟩:=r
  cases e
  obtain ⟨i1,i2⟩:=Hy (f:=f) h2 r2
  rw[bX,bX]
  cases hq:f == g with
  | true=>exact ⟨fun w hw=>by cases hw;exact ⟨v,rfl,r1⟩,fun hw=>by cases hw⟩
  | false=>exact ⟨i1,i2⟩
noncomputable def Abd(f:Str)(v:U):List (Str×U)->List (Str×U)
 | []=>[(f,v)]
 | (g,x)::r=>if g=f then (g,v)::r else (g,x)::Abd f v r
theorem Abz{K:aC}{H:Hp}{α:List Addr}{f:Str}{u:U}{v:V}(ru:RepU K H α u v):∀ {fs:List (Str×U)} {vs:List (Str×V)},fs.map (·.1)=vs.map (·.1)->RepL K H α (fs.map (·.2)) (vs.map (·.2))->(Abd f u fs).map (·.1)=(Jl f v vs).map (·.1)/\RepL K H α ((Abd f u fs).map (·.2)) ((Jl f v vs).map (·.2))
 | [],[],_,_=>⟨rfl,.cons ru .nil⟩
 | [],_::_,h,_=>by simp at h
 | _::_,[],h,_=>by simp at h
 | (g,x)::fs,(g',y)::vs,h,r=>by
  simp only[aP,jQ] at h
  obtain ⟨h1,h2⟩:=h
  subst h1
  simp only[aP] at r
  unfold RepL at r
  obtain ⟨z,zr,e,r1,r2⟩:=r
  cases e
  obtain ⟨i1,i2⟩:=Abz (f:=f) ru h2 r2
  unfold Abd Jl
  by_cases hq:g=f
  ·simp only[hq,if_true,aP]
   exact ⟨by rw[h2],.cons ru r2⟩
  ·simp only[hq,if_false,aP]
   exact ⟨by rw[i1],.cons r1 i2⟩
section
variable {X:Cx}{o e value:Expr}{es:List Expr}{f m C x:Str}{p pos pos' apos:Pos}{Ca fa:Addr}{fd:bM}{ps:List Str}{k n:Nat}{F:FN}{fe fo fv:FE}{g:FA}
noncomputable def Kp(C f:Str)(fe:FE):FE:=fun δ L=>(fe δ L).bind fun p=>(Pj C p.1 p.2).bind fun q=>(q.2.lookup f).map fun v=>(v,p.2)
theorem Kk(T:ClsF X.K C Ca)(hn:NoAttr X.K Ca f)(he:PEF X e fe)(hb:attributeBase e f X.env (eval e X.env)=eval e X.env:=by rfl):PEF X (.Attribute e f pos) (Kp C f fe):=by
 refine PE.imp (Anp he hb) ?_
 rintro σ H Q ⟨α,δ,L,A,S,z,L3,ee,q⟩
 obtain ⟨⟨u,L1⟩,e1,ee⟩:=aB.mp ee
 obtain ⟨⟨n,fs⟩,e2,ee⟩:=aB.mp ee
 obtain ⟨w,e3,ee⟩:=aH.mp ee
 cases ee
 obtain ⟨rfl,hL⟩:=Ni e2
 refine ⟨α,δ,L,A,S,_,L1,e1,fun x H1 α1 g1 A1 r1=>?_⟩
 obtain ⟨a,ea,Cb,dx,vs,hns,ha,hk,rr⟩:=A1.addr hL
 obtain ⟨a',ea',rfl⟩:=r1.ref_of A1
 rw[ea] at ea';cases ea'
 have:=T.eq hns
 subst this
 obtain ⟨v,hv,rv⟩:=(Hy hk rr).1 _ e3
 exact ⟨a,Cb,dx,vs,v,rfl,ha,T.cl,hn,hv,q v H1 α1 g1 A1 rv⟩
noncomputable def Ain(C f:Str)(fo fv:FE):FS:=fun δ L=>(fv δ L).bind fun p=>(fo δ p.2).bind fun q=>(Pj C q.1 q.2).bind fun r=>if r.2.length < 1000 then some (.nx δ,q.2.set r.1 (.ins C (Abd f p.1 r.2))) else none
theorem Akn(T:ClsF X.K C Ca)(hn:NoAttr X.K Ca f)(ho:PEF X o fo)(hv:PEF X value fv)(hs:swapsWith value (some (.Attribute o f pos')) pos.line X.env=pure false:=by rfl):PSF X (.Assign [.Attribute o f pos'] value pos) (Ain C f fo fv):=by
 refine PS.imp (Amf ho hv hs) ?_
 rintro D σ H ⟨α,δ,L,A,S,fl,L',ee,q⟩
 obtain ⟨⟨u,L1⟩,e1,ee⟩:=aB.mp ee
 obtain ⟨⟨w,L2⟩,e2,ee⟩:=aB.mp ee
 obtain ⟨⟨n,fs⟩,e3,ee⟩:=aB.mp ee
 simp only at ee
 split at ee
 ·rename_i hlen
  cases ee
  obtain ⟨rfl,hL⟩:=Ni e3
  refine ⟨α,δ,L,A,S,u,L1,e1,fun y H1 α1 g1 A1 r1=>⟨α1,δ,L1,A1,S.mono g1,_,L2,e2,fun x H2 α2 g2 A2 r2=>?_⟩⟩
  obtain ⟨a,ea,Cb,dx,vs,hns,ha,hk,rr⟩:=A2.addr hL
  obtain ⟨a',ea',rfl⟩:=r2.ref_of A2
  rw[ea] at ea';cases ea'
  have:=T.eq hns
  subst this
  have hl:vs.length < 1000:=by
   have:=congrArg lD hk
   rw[bF,bF] at this
   omega
  have g3:Gr H2 α2 (upd H2 a (.ins Cb dx (Jl f y vs))) α2:=⟨⟨[],by simp⟩,.write ha (by exact trivial) _⟩
  obtain ⟨k1,k2⟩:=Abz (f:=f) ((r1.mono g2)) hk rr
  obtain ⟨A3,_⟩:=A2.put (o:=.ins Cb dx (Jl f y vs)) (u:=.ins C (Abd f u fs)) ea hL rfl rfl ha (by exact trivial) ⟨Cb,dx,_,hns,upd_same,k1,k2.mono g3⟩
  exact ⟨a,Cb,dx,vs,rfl,ha,T.cl,hn,hl,q _ _ α2 ((g1.trans g2).trans g3) A3 (((S.mono g1).mono g2).mono g3)⟩
 ·cases ee
noncomputable def Cd(C m:Str)(k:Nat)(F:FN)(fo:FE)(g:FA):FE:=fun δ L=>(fo δ L).bind fun p=>(Pj C p.1 p.2).bind fun r=>if r.2.lookup m=none then (g δ p.2).bind fun q=>if q.1.length+1=k then F (.ref r.1::q.1) q.2 else none else none
theorem Xx{K:aC}{E:XK}(T:ClsF K C Ca):∀ σ H Q,lE K (Cd C m n F fo g) σ H Q->Agp Ca m (spF K n F) [] E (lE K fo) (lA K g) σ H Q:=by
 rintro σ H Q ⟨α,δ,L,A,S,z,L3,ee,q⟩
 obtain ⟨⟨u,L1⟩,e1,ee⟩:=aB.mp ee
 obtain ⟨⟨j,fs⟩,e2,ee⟩:=aB.mp ee
 simp only at ee
 split at ee
 ·rename_i hno
  obtain ⟨⟨us,L2⟩,e3,ff⟩:=aB.mp ee
  simp only at ff
  split at ff
  ·rename_i hlen
   obtain ⟨rfl,hL⟩:=Ni e2
   refine ⟨α,δ,L,A,S,_,L1,e1,fun x H1 α1 g1 A1 r1=>?_⟩
   obtain ⟨a,ea,Cb,dx,vs,hns,ha,hk,rr⟩:=A1.addr hL
   obtain ⟨a',ea',hx⟩:=r1.ref_of A1
   rw[ea] at ea';cases ea'
   have:=T.eq hns
   subst this
   refine ⟨a,dx,vs,hx,ha,(Hy hk rr).2 hno,α1,δ,L1,A1,S.mono g1,us,L2,e3,fun xs H2 α2 g2 A2 r2=>?_⟩
   refine ⟨α2,L2,.ref j::us,A2,?_,by simpa using hlen,z,L3,ff,fun v H3 α3 g3 A3 r3=>q v H3 α3 (g1.trans (g2.trans g3)) A3 r3⟩
   rw[aX]
   exact .cons (r1.mono g2) r2
  ·cases ff
 ·cases ee
theorem Iy{pl:Sem Bool}(T:ClsF X.K C Ca)(hm:Meth X.K Ca m fa)(hF:FnOk X.prog X.w X.K X.mg X.base CX0 k fa fd ps (spF X.K n F))(hr:Room k X.A)(hb:Binds X.K fd ps [])(ho:PEF X o fo)(ha:PAF X (e::es) g)
  (hst:aS (e::es) X.env=(false,eval e X.env)::aS es X.env:=by rfl) (hpl:(backTo pos (aS es X.env)).any (·.1)=false:=by rfl)
  (ht:eval (.Call (.Attribute o m apos) (e::es) [] pos) X.env=(do
   let ov <- eval o X.env
   standAt apos.atName
   let (f,first) <- holding [ov] (getMethod ov m pl)
   callWith pos f first (backTo pos (aS (e::es) X.env)) (backToKw pos (keywordEach [] X.env))):=by rfl) :
  PEF X (.Call (.Attribute o m apos) (e::es) [] pos) (Cd C m n F fo g):=
 PE.imp (Ajb (pl:=pl) ho T.cl hm hF hr hb .nil Ach ha hst hpl ht) (Xx T)
theorem Gz{pl:Sem Bool}(T:ClsF X.K C Ca)(hm:Meth X.K Ca m fa)(hF:FnOk X.prog X.w X.K X.mg X.base CX0 k fa fd ps (spF X.K n F))(hr:Room k X.A)(hb:Binds X.K fd ps [])(ho:PEF X o fo)
  (ht:eval (.Call (.Attribute o m apos) [] [] pos) X.env=(do
   let ov <- eval o X.env
   standAt apos.atName
   let (f,first) <- holding [ov] (getMethod ov m pl)
   callWith pos f first (backTo pos (aS [] X.env)) (backToKw pos (keywordEach [] X.env))):=by rfl) :
  PEF X (.Call (.Attribute o m apos) [] [] pos) (Cd C m n F fo Ai):=
 PE.imp (Af4 (pl:=pl) ho T.cl hm hF hr hb .nil Ach ht) (fun σ H Q h=>by
  have h:=Xx (E:=E0) T σ H Q h
  obtain ⟨α,δ,L,A,S,u,L1,e1,h⟩:=h
  refine ⟨α,δ,L,A,S,u,L1,e1,fun x H1 α1 g1 A1 r1=>?_⟩
  obtain ⟨a,dx,vs,hx,ha,hl,α2,δ2,L2,A2,S2,us,L3,e3,h3⟩:=h x H1 α1 g1 A1 r1
  cases e3
  exact ⟨a,dx,vs,hx,ha,hl,h3 [] H1 α2 (.refl _ _) A2 .nil⟩)
noncomputable def Mv(C:Str)(k:Nat)(F:FN)(g:FA):FE:=fun δ L=>(g δ L).bind fun p=>if p.1.length+1=k then (F (.ref p.2.length::p.1) (p.2++[.ins C []])).bind fun q=>match q.1 with | .non=>some (.ref p.2.length,q.2) | _=>none else none
theorem Ah6{K:aC}{E:XK}(hns:aO K aN C=some (some (.ref Ca))):∀ σ H Q,lE K (Mv C n F g) σ H Q->Alx Ca (spF K n F) [] E (lA K g) σ H Q:=by
 rintro σ H Q ⟨α,δ,L,A,S,z,L3,ee,q⟩
 obtain ⟨⟨us,L1⟩,e1,ee⟩:=aB.mp ee
 simp only at ee
 split at ee
 ·rename_i hlen
  obtain ⟨⟨w,L2⟩,e2,ee⟩:=aB.mp ee
  cases w with
  | non=>
   cases ee
   refine ⟨α,δ,L,A,S,us,L1,e1,fun xs H1 α1 g1 A1 r1 x dx nx ndx nex=>?_⟩
   have ga:Gr H1 α1 (upd H1 dx (.own x)) α1:=⟨⟨[],by simp⟩,.new ndx _⟩
   have Aa:Abs K (upd H1 dx (.own x)) α1 L1:=⟨A1.len,A1.inj,fun i a o e1 e2=>(A1.rep i a o e1 e2).other ga (.inr fun u q=>by rw[Bc (Bk q ndx)];exact q)⟩
   have nx':(upd H1 dx (.own x)) x=none:=by rw[Bc (cR nex)];exact nx
   obtain ⟨Ab,gb⟩:=Aa.new (o:=.ins Ca dx []) (u:=.ins C []) nx' ⟨Ca,dx,[],hns,upd_same,rfl,.nil⟩
   have rx:RepU K (upd (upd H1 dx (.own x)) x (.ins Ca dx [])) (α1++[x]) (.ref L1.length) (.ref x):=by
    unfold RepU
    exact ⟨x,by rw[<- A1.len];simp,rfl⟩
   refine ⟨α1++[x],L1++[.ins C []],.ref L1.length::us,Ab,?_,by simpa using hlen,.non,L2,e2,fun v H3 α3 g3 A3 r3=>?_⟩
   ·rw[aX]
    exact .cons rx ((r1.mono ga).mono gb)
   ·have hv:v = .non:=by unfold RepU at r3;exact r3
    exact ⟨hv,q _ H3 α3 (g1.trans (ga.trans (gb.trans g3))) A3 (rx.mono g3)⟩
  | _=>cases ee
 ·cases ee
theorem Yi(hns:aO X.K aN C=some (some (.ref Ca)))(M:Mk X.K Ca fa)(hF:FnOk X.prog X.w X.K X.mg X.base CX0 k fa fd ps (spF X.K n F))(hr:Room (k+1) X.A)(hg:Gl X C)(hm:X.mg C=some (.ref Ca))(hb:Binds X.K fd ps [])
  (hdb:(C == ("__debug__" : Str))=false:=by decide):PEF X (.Call (.Name C p) [] [] pos) (Mv C n F Ai):=
 PE.imp (Ag2 M hF hr hg hm hb .nil Ach hdb) (fun σ H Q h=>by
  obtain ⟨α,δ,L,A,S,us,L1,e1,h⟩:=Ah6 (E:=E0) hns σ H Q h
  cases e1
  exact h [] H α (.refl _ _) A .nil)
end
end MR
namespace ZT
open PySem PySem.Spec PyProof.Rows
open Sem (wp)
noncomputable def SqK(b:Bool)(h:Heap)(l:Addr)(xs:Array aE):Prop:=match b with
 | true=>h.IsList l xs
 | false=>h.IsTuple l xs
noncomputable def ItK(b:Bool)(h:Heap)(jt l:Addr)(k:Nat):Prop:=match b with
 | true=>h.IsListIter jt l k
 | false=>h.IsTupleIter jt l k
theorem SqK.keep{b:Bool}{h h':Heap}{l:Addr}{xs:Array aE}(x:SqK b h l xs)(e:∀ o,h.get? l=some o->h'.get? l=some o):SqK b h' l xs:=by
 cases b with
 | true=>obtain ⟨o,ho,r⟩:=x;exact ⟨o,e _ ho,r⟩
 | false=>obtain ⟨o,ho,r⟩:=x;exact ⟨o,e _ ho,r⟩
theorem ItK.keep{b:Bool}{h h':Heap}{jt l:Addr}{k:Nat}(x:ItK b h jt l k)(e:∀ o,h.get? jt=some o->h'.get? jt=some o):ItK b h' jt l k:=by
 cases b with
 | true=>obtain ⟨o,ho,r⟩:=x;exact ⟨o,e _ ho,r⟩
 | false=>obtain ⟨o,ho,r⟩:=x;exact ⟨o,e _ ho,r⟩
theorem ItK.lt{b:Bool}{h:Heap}{jt l:Addr}{k:Nat}(x:ItK b h jt l k):jt < h.objs.size:=by
 cases b with
 | true=>obtain ⟨o,ho,r⟩:=x;exact aV ho
 | false=>obtain ⟨o,ho,r⟩:=x;exact aV ho
theorem ItK.obj{b:Bool}{h:Heap}{jt l:Addr}{k:Nat}(x:ItK b h jt l k):∃ o,h.get? jt=some o/\o.data = .fields #[.ref l,.int k 0]:=by
 cases b with
 | true=>obtain ⟨o,ho,_,r⟩:=x;exact ⟨o,ho,r⟩
 | false=>obtain ⟨o,ho,_,r⟩:=x;exact ⟨o,ho,r⟩
section
variable {prog:bN}{w:bW}{A:cK}{E:aE->aI->Prop}{s:aI}
theorem Ahi{jt t:Addr}{k:Nat}{its:Array aE}{v:aE}{Q:aE->aI->Prop}(hj:s.heap.IsTupleIter jt t k)(ht:s.heap.IsTuple t its)(hv:its[k]? = some v)
  (hQ:∀ h',h'.IsTupleIter jt t (k+1)->iL jt s.heap h'->Q v { s with heap:=h' }):wpAny (model prog w) A (cF (.ref jt)) Q E s:=by
 obtain ⟨ob,hob,hcl,hda⟩:=id hj
 obtain ⟨ot,hot,_,nt,hdt⟩:=ht
 unfold cF
 refine aG (fR (name:=mL "__next__") hj.typeIs eX (gT eX hj.typeIs kA ?_ (jR _)))
 show wpAny _ _ (field (.ref jt) 0 >>= _) _ _ s
 refine aG (cV hob hda (x:=.ref t) rfl ?_)
 show wpAny _ _ (if (bE t == dF)=true then _ else _) _ _ s
 rw[if_neg (show ¬ ((bE t == dF)=true) from (fun z=>eW z))]
 show wpAny _ _ (field (.ref jt) 1 >>= _) _ _ s
 refine aG (cV hob hda (x:=.int k 0) rfl ?_)
 show wpAny _ _ (seqItems? (.ref t) >>= fun z=>_) _ _ s
 refine aG (eY hot hdt ?_)
 simp only[fH,hv]
 refine aG (gJ hob hda (by simp) (bD ⟨v,rfl,bD (hQ _ ?_ (jW ..))⟩))
 exact ⟨_,dB _ hob (dN (dG hda _)),(Obj.cls_mapFields ..).trans hcl,by rw[dG hda];simp[rawInt]⟩
theorem Aic{jt t:Addr}{k:Nat}{its:Array aE}{Q:aE->aI->Prop}(hh:A.handled=none)(hj:s.heap.IsTupleIter jt t k)(ht:s.heap.IsTuple t its)(hv:its[k]? = none)
  (hE:∀ h' e,nD jt s.heap h'->(∃ ob,h'.get? e=some ob/\ob.cls = .type "StopIteration")->E (.ref e) { s with heap:=h' }):wpAny (model prog w) A (cF (.ref jt)) Q E s:=by
 obtain ⟨ob,hob,hcl,hda⟩:=id hj
 obtain ⟨ot,hot,_,nt,hdt⟩:=ht
 unfold cF
 refine aG (fR (name:=mL "__next__") hj.typeIs eX (gT eX hj.typeIs kA ?_ (jR _)))
 show wpAny _ _ (field (.ref jt) 0 >>= _) _ _ s
 refine aG (cV hob hda (x:=.ref t) rfl ?_)
 show wpAny _ _ (if (bE t == dF)=true then _ else _) _ _ s
 rw[if_neg (show ¬ ((bE t == dF)=true) from (fun z=>eW z))]
 show wpAny _ _ (field (.ref jt) 1 >>= _) _ _ s
 refine aG (cV hob hda (x:=.int k 0) rfl ?_)
 show wpAny _ _ (seqItems? (.ref t) >>= fun z=>_) _ _ s
 refine aG (eY hot hdt ?_)
 simp only[fH,hv]
 refine aG (qJ (aG (gJ hob hda (by simp) ?_)))
 show wpAny _ _ (newExc (.type "StopIteration") [] >>= fun z=>_) _ _ _
 refine aG ?_
 simp only[newExc,newTuple];refine aG (eO ?_ (by size_fits))
 refine aG (m:=firstArgMember _ _) (wpAny_of_eq (a:=dF) (by first | rfl | (simp only[firstArgMember];rfl)) (eO ?_ (by size_fits)))
 simp only[raiseNew];refine aG (wpAny_handled ?_)
 first | rw[show A.in1.handled=none from hh] | (rw[hh])
 exact aG (bD (wpAny_throw (hE _ _ (((jW ..).extBut.push _).push _) ⟨_,aW _ rfl,rfl⟩)))
theorem Aaj{b:Bool}{jt l:Addr}{k:Nat}{its:Array aE}{v:aE}{Q:aE->aI->Prop}(hj:ItK b s.heap jt l k)(hl:SqK b s.heap l its)(hv:its[k]? = some v)
  (hQ:∀ h',ItK b h' jt l (k+1)->iL jt s.heap h'->Q v { s with heap:=h' }):wpAny (model prog w) A (cF (.ref jt)) Q E s:=by
 cases b with
 | true=>exact wpAny_nextOf_list_item hj hl hv hQ
 | false=>exact Ahi hj hl hv hQ
theorem Afv{b:Bool}{jt l:Addr}{k:Nat}{its:Array aE}{Q:aE->aI->Prop}(hh:A.handled=none)(hj:ItK b s.heap jt l k)(hl:SqK b s.heap l its)(hv:its[k]? = none)
  (hE:∀ h' e,nD jt s.heap h'->(∃ ob,h'.get? e=some ob/\ob.cls = .type "StopIteration")->E (.ref e) { s with heap:=h' }):wpAny (model prog w) A (cF (.ref jt)) Q E s:=by
 cases b with
 | true=>exact wpAny_nextOf_list_end hh hj hl hv hE
 | false=>exact Aic hh hj hl hv hE
theorem SqK.but{b:Bool}{h h':Heap}{l c:Addr}{xs:Array aE}(x:SqK b h l xs)(e:nD c h h')(hne:l≠c):SqK b h' l xs:=x.keep fun o q=>e l o hne q
theorem ItK.but{b:Bool}{h h':Heap}{jt l c:Addr}{k:Nat}(x:ItK b h jt l k)(e:nD c h h')(hne:jt≠c):ItK b h' jt l k:=x.keep fun o q=>e jt o hne q
variable {b1 b2:Bool}{z TI TO j1 j2 l1 l2:Addr}{k1 k2:Nat}{xs ys:Array aE}{a b:aE}
theorem Ai6{x y:aE}{Q:aE->aI->Prop}(D:nC z TI TO j1 j2 l1 l2)(hz:kK s.heap z TI TO .none)(hI:fB s.heap TI (.ref j1) (.ref j2))(hO:fB s.heap TO a b)
  (h1:ItK b1 s.heap j1 l1 k1) (h2:ItK b2 s.heap j2 l2 k2) (g1:SqK b1 s.heap l1 xs) (g2:SqK b2 s.heap l2 ys) (hx:xs[k1]? = some x) (hy:ys[k2]? = some y)
  (hQ:∀ h',kK h' z TI TO (rawInt s.heap.objs.size)->fB h' TO x y->ItK b1 h' j1 l1 (k1+1)->ItK b2 h' j2 l2 (k2+1)->fB h' s.heap.objs.size x y->h'.objs.size=s.heap.objs.size+1 ->
   (∀ c o,c≠z->c≠TO->c≠j1->c≠j2->s.heap.get? c=some o->h'.get? c=some o)->Q (.ref s.heap.objs.size) { s with heap:=h' }) :
  wpAny (model prog w) A (lF.«zip.__next__» ⟨[.ref z],[]⟩) (fun fin s'=>∃ v,fin = .done (.ret v)/\Q v s') E s:=by
 show wpAny _ _ (field (.ref z) 2 >>= fun q=>_) _ _ _
 refine aG (cV hz rfl (x:=.bool false) rfl ?_);show wpAny _ _ (field (.ref z) 3 >>= _) _ _ _
 refine aG (cV hz rfl (x:=.ref TI) rfl (aG (eY hI rfl ?_)))
 show wpAny _ _ (dP (.ref z) >>= fun q=>_) _ _ _
 refine aG ?_;unfold dP
 refine aG (cV hz rfl (x:=.none) rfl (bD ?_));simp only[if_true]
 refine aG (qJ (aG (cV hz rfl (x:=.ref TO) rfl (aG (eZ hz (by simp) fun p1 z1 s1=>?_)))))
 replace z1:kK p1 z TI TO .ellipsis:=z1
 refine aG ?_;simp only[pH,pU,jP,qK]
 refine aG (aG (lR ?_));show wpAny _ _ (cF (.ref j1) >>= _) _ _ _
 refine aG (Aaj (h1.but s1.extBut D.i1z) (g1.but s1.extBut D.l1z) hx fun p2 i2 s2=>bD ?_)
 have O2:fB p2 TO a b:=s2.extBut _ _ D.TOi1 (s1.extBut _ _ D.TOz hO)
 refine aG (eY O2 rfl (aG (jG O2 fun p3 O3 s3=>?_)))
 replace O3:fB p3 TO x b:=O3
 refine aG (nE (bD ?_));refine aG (aG (lR ?_))
 show wpAny _ _ (cF (.ref j2) >>= fun q=>_) _ _ _
 refine aG (Aaj (((h2.but s1.extBut D.i2z).but s2.extBut D.i12.symm).but s3.extBut D.TOi2.symm) (((g2.but s1.extBut D.l2z).but s2.extBut D.l2i1).but s3.extBut D.l2TO) hy fun p4 i4 s4=>bD ?_)
 have O4:fB p4 TO x b:=s4.extBut _ _ D.TOi2 O3
 refine aG (eY O4 rfl (aG (jG O4 fun p5 O5 s5=>?_)))
 replace O5:fB p5 TO x y:=O5
 refine aG (nE (bD (bD ?_)));refine aG (eY O5 rfl (aG (wpAny_newTuple ?_)))
 have hsz:p5.objs.size=s.heap.objs.size:=by rw[s5.1,s4.1,s3.1,s2.1,s1.1]
 have z5:kK p5 z TI TO .ellipsis:=s5.extBut _ _ D.TOz.symm (s4.extBut _ _ D.i2z.symm (s3.extBut _ _ D.TOz.symm (s2.extBut _ _ D.i1z.symm z1)))
 have k5:∀ c o,c≠z->c≠TO->c≠j1->c≠j2->s.heap.get? c=some o->p5.get? c=some o:=fun c o c1 c2 c3 c4 e=>s5.extBut _ _ c2 (s4.extBut _ _ c4 (s3.extBut _ _ c2 (s2.extBut _ _ c3 (s1.extBut _ _ c1 e))))
 have i15:ItK b1 p5 j1 l1 (k1+1):=((i2.but s3.extBut D.TOi1.symm).but s4.extBut D.i12).but s5.extBut D.TOi1.symm
 have i25:ItK b2 p5 j2 l2 (k2+1):=i4.but s5.extBut D.TOi2.symm
 have zlt:z < p5.objs.size:=aV z5
 show wpAny _ _ (gX (.ref z) (.ref p5.objs.size) >>= fun q=>_) _ _ _
 refine aG ?_;unfold gX
 have z6:kK (p5.push { cls:=.type "tuple",data:=.seq #[x,y] }) z TI TO .ellipsis:=aF _ z5
 refine aG (eZ z6 (by simp) fun p7 z7 s7=>?_)
 replace z7:kK p7 z TI TO (rawInt p5.objs.size):=z7
 refine eZ z7 (by simp) fun p8 z8 s8=>?_
 replace z8:kK p8 z TI TO (rawInt p5.objs.size):=z8
 have up:∀ c o,c≠z->p5.get? c=some o->p8.get? c=some o:=fun c o c1 e=>s8.extBut _ _ c1 (s7.extBut _ _ c1 (aF _ e))
 have t8:fB p8 p5.objs.size x y:=s8.extBut _ _ (gO zlt) (s7.extBut _ _ (gO zlt) (aW _ rfl))
 have e8:p8.objs.size=p5.objs.size+1:=by rw[s8.1,s7.1,eD]
 rw[hsz] at z8 t8 e8
 refine bD ⟨_,rfl,?_⟩
 show Q (.ref p5.objs.size) _
 rw[hsz]
 exact hQ p8 z8 (up _ _ D.TOz O5) (i15.keep fun o e=>up _ o D.i1z e) (i25.keep fun o e=>up _ o D.i2z e) t8 e8 fun c o c1 c2 c3 c4 e=>up c o c1 (k5 c o c1 c2 c3 c4 e)
theorem An3{Q:Fin->aI->Prop}(hh:A.handled=none)(D:nC z TI TO j1 j2 l1 l2)(hz:kK s.heap z TI TO .none)(hI:fB s.heap TI (.ref j1) (.ref j2))(hO:fB s.heap TO a b)
  (h1:ItK b1 s.heap j1 l1 k1) (h2:ItK b2 s.heap j2 l2 k2) (g1:SqK b1 s.heap l1 xs) (g2:SqK b2 s.heap l2 ys) (hend:xs[k1]? = none\/ys[k2]? = none)
  (hE:∀ h' e,(∀ c o,c≠z->c≠TO->c≠j1->c≠j2->s.heap.get? c=some o->h'.get? c=some o)->(∃ ob,h'.get? e=some ob/\ob.cls = .type "StopIteration")->E (.ref e) { s with heap:=h' }) :
  wpAny (model prog w) A (lF.«zip.__next__» ⟨[.ref z],[]⟩) Q E s:=by
 show wpAny _ _ (field (.ref z) 2 >>= fun q=>_) _ _ _
 refine aG (cV hz rfl (x:=.bool false) rfl ?_);show wpAny _ _ (field (.ref z) 3 >>= _) _ _ _
 refine aG (cV hz rfl (x:=.ref TI) rfl (aG (eY hI rfl ?_)))
 show wpAny _ _ (dP (.ref z) >>= fun q=>_) _ _ _
 refine aG ?_;unfold dP
 refine aG (cV hz rfl (x:=.none) rfl (bD ?_));simp only[if_true]
 refine aG (qJ (aG (cV hz rfl (x:=.ref TO) rfl (aG (eZ hz (by simp) fun p1 z1 s1=>?_)))))
 replace z1:kK p1 z TI TO .ellipsis:=z1
 refine aG ?_;simp only[pH,pU,jP,qK]
 refine aG (aG (lR ?_));show wpAny _ _ (cF (.ref j1) >>= _) _ _ _
 cases hx:xs[k1]? with
 | none=>
  refine aG (Afv hh (h1.but s1.extBut D.i1z) (g1.but s1.extBut D.l1z) hx fun p2 e s2 he=>?_)
  obtain ⟨oe,hoe,hce⟩:=he
  have z2:kK p2 z TI TO .ellipsis:=s2 _ _ D.i1z.symm z1
  have hez:e≠z:=fun q=>by subst q;rw[z2] at hoe;cases hoe;simp at hce
  refine eZ z2 (by simp) fun p3 _ s3=>hE p3 e (fun c o c1 _ c3 _ q=>s3.extBut _ _ c1 (s2 _ _ c3 (s1.extBut _ _ c1 q))) ⟨oe,s3.extBut _ _ hez hoe,hce⟩
 | some x=>
  have hy:ys[k2]? = none:=by rcases hend with h | h;(rw[hx] at h;cases h);exact h
  refine aG (Aaj (h1.but s1.extBut D.i1z) (g1.but s1.extBut D.l1z) hx fun p2 i2 s2=>bD ?_)
  have O2:fB p2 TO a b:=s2.extBut _ _ D.TOi1 (s1.extBut _ _ D.TOz hO)
  refine aG (eY O2 rfl (aG (jG O2 fun p3 O3 s3=>?_)))
  refine aG (nE (bD ?_));refine aG (aG (lR ?_))
  show wpAny _ _ (cF (.ref j2) >>= fun q=>_) _ _ _
  refine aG (Afv hh (((h2.but s1.extBut D.i2z).but s2.extBut D.i12.symm).but s3.extBut D.TOi2.symm) (((g2.but s1.extBut D.l2z).but s2.extBut D.l2i1).but s3.extBut D.l2TO) hy fun p4 e s4 he=>?_)
  obtain ⟨oe,hoe,hce⟩:=he
  have z4:kK p4 z TI TO .ellipsis:=s4 _ _ D.i2z.symm (s3.extBut _ _ D.TOz.symm (s2.extBut _ _ D.i1z.symm z1))
  have hez:e≠z:=fun q=>by subst q;rw[z4] at hoe;cases hoe;simp at hce
  refine eZ z4 (by simp) fun p5 _ s5=>hE p5 e (fun c o c1 c2 c3 c4 q=>s5.extBut _ _ c1 (s4 _ _ c4 (s3.extBut _ _ c2 (s2.extBut _ _ c3 (s1.extBut _ _ c1 q))))) ⟨oe,s5.extBut _ _ hez hoe,hce⟩
theorem Ajw{x y:aE}{Q:Option aE->aI->Prop}(D:nC z TI TO j1 j2 l1 l2)(hz:kK s.heap z TI TO .none)(hI:fB s.heap TI (.ref j1) (.ref j2))(hO:fB s.heap TO a b)
  (h1:ItK b1 s.heap j1 l1 k1) (h2:ItK b2 s.heap j2 l2 k2) (g1:SqK b1 s.heap l1 xs) (g2:SqK b2 s.heap l2 ys) (hx:xs[k1]? = some x) (hy:ys[k2]? = some y)
  (hQ:∀ h',kK h' z TI TO (rawInt s.heap.objs.size)->fB h' TO x y->ItK b1 h' j1 l1 (k1+1)->ItK b2 h' j2 l2 (k2+1)->fB h' s.heap.objs.size x y->h'.objs.size=s.heap.objs.size+1 ->
   (∀ c o,c≠z->c≠TO->c≠j1->c≠j2->s.heap.get? c=some o->h'.get? c=some o)->Q (some (.ref s.heap.objs.size)) { s with heap:=h' }) :
  wpAny (model prog w) A (pyNext (.ref z)) Q E s:=by
 have ty:s.TypeIs (.ref z) "zip" := ⟨_,hz,rfl⟩
 unfold pyNext
 exact aG (lU (fR (name:=mL "__next__") ty jS (gT jS ty pI (Ai6 D hz hI hO h1 h2 g1 g2 hx hy fun h' q1 q2 q3 q4 q5 q6 q7=>bD (hQ h' q1 q2 q3 q4 q5 q6 q7)) (oY _))))
theorem Ano{Q:Option aE->aI->Prop}(hh:A.handled=none)(D:nC z TI TO j1 j2 l1 l2)(hz:kK s.heap z TI TO .none)(hI:fB s.heap TI (.ref j1) (.ref j2))(hO:fB s.heap TO a b)
  (h1:ItK b1 s.heap j1 l1 k1) (h2:ItK b2 s.heap j2 l2 k2) (g1:SqK b1 s.heap l1 xs) (g2:SqK b2 s.heap l2 ys) (hend:xs[k1]? = none\/ys[k2]? = none)
  (hQ:∀ h',(∀ c o,c≠z->c≠TO->c≠j1->c≠j2->s.heap.get? c=some o->h'.get? c=some o)->Q none { s with heap:=h' }):wpAny (model prog w) A (pyNext (.ref z)) Q E s:=by
 have ty:s.TypeIs (.ref z) "zip" := ⟨_,hz,rfl⟩
 unfold pyNext
 refine aG (lU (fR (name:=mL "__next__") ty jS (gT jS ty pI (An3 hh D hz hI hO h1 h2 g1 g2 hend fun h' e hk he=>?_) (oY _))))
 obtain ⟨ob,hob,hcl⟩:=he
 exact aG (wpAny_isInstance (T := "StopIteration") (b:=true) ⟨ob,hob,hcl⟩ isSubtype_stop (bD (hQ _ hk)))
end
abbrev zh1(c1:String)(h:Heap)(l1:Addr):Heap:=h.push { cls:=.type c1,data:=.fields #[.ref l1,.int 0 0] }
abbrev zh2(c1 c2:String)(h:Heap)(l1 l2:Addr):Heap:=(zh1 c1 h l1).push { cls:=.type c2,data:=.fields #[.ref l2,.int 0 0] }
abbrev zh3(c1 c2:String)(h:Heap)(l1 l2:Addr):Heap:=(zh2 c1 c2 h l1 l2).push { cls:=.type "tuple",data:=.seq #[.ref h.objs.size,.ref (zh1 c1 h l1).objs.size] }
abbrev zh4(c1 c2:String)(h:Heap)(l1 l2:Addr):Heap:=(zh3 c1 c2 h l1 l2).push { cls:=.type "tuple",data:=.seq #[.none,.none] }
abbrev zh5(c1 c2:String)(h:Heap)(l1 l2:Addr):Heap:=(zh4 c1 c2 h l1 l2).push { cls:=.type "zip",data:=.fields #[.none,.bool false,.bool false,.ref (zh2 c1 c2 h l1 l2).objs.size,.ref (zh3 c1 c2 h l1 l2).objs.size] }
theorem Anr (l1 l2 : Addr) (xs ys : Array aE) : Meets (lF.«zip.__new__» ⟨[.type "zip", .ref l1, .ref l2], []⟩) (fun _ R s => s.heap.IsTuple l1 xs /\ s.heap.IsTuple l2 ys /\
   R (.ok (.ret (.ref (zh4 "tuple_iterator" "tuple_iterator" s.heap l1 l2).objs.size))) { s with heap:=zh5 "tuple_iterator" "tuple_iterator" s.heap l1 l2 }):=
 .of_wp fun prog w A R s h=>by
  obtain ⟨hp,g,d,tk,os⟩:=s
  obtain ⟨t1,t2,h⟩:=h
  have hsub:=sub_zip
  have T1:rA (rH ⟨hp,g,d,tk,os⟩) l1 xs:=t1
  have T2:rA (rH ⟨hp.push { cls:=.type "tuple_iterator",data:=.fields #[.ref l1,.int 0 0] },g,d,tk,os⟩) l2 ys:=rA.push t2 _
  wp_walk using kE T1,kE T2
  exact ⟨_,rfl,h⟩
section
variable {prog:bN}{w:bW}{A:cK}{E:aE->aI->Prop}{s:aI}
theorem Air{l1 l2:Addr}{xs ys:Array aE}{Q:aE->aI->Prop}(t1:s.heap.IsTuple l1 xs)(t2:s.heap.IsTuple l2 ys)
  (h:∀ h',kK h' (s.heap.objs.size+4) (s.heap.objs.size+2) (s.heap.objs.size+3) .none->fB h' (s.heap.objs.size+2) (.ref s.heap.objs.size) (.ref (s.heap.objs.size+1)) ->
   fB h' (s.heap.objs.size+3) .none .none->ItK false h' s.heap.objs.size l1 0->ItK false h' (s.heap.objs.size+1) l2 0->(∀ c o,s.heap.get? c=some o->h'.get? c=some o)->Q (.ref (s.heap.objs.size+4)) { s with heap:=h' }) :
  wpAny (model prog w) A (call (.type "zip") [.ref l1,.ref l2]) Q E s:=by
 refine callType_new F.called_zip (by decide) (F.typeCall_zip_2 _ _) (F.newCall_zip_2 _ _) (fun obj=>F.args_object_init_3 obj _ _) F.entry_zip_new (Anr l1 l2 xs ys) ⟨t1,t2,?_⟩
 have z1:(zh1 "tuple_iterator" s.heap l1).objs.size=s.heap.objs.size+1:=eD ..
 have z2:(zh2 "tuple_iterator" "tuple_iterator" s.heap l1 l2).objs.size=s.heap.objs.size+2:=by rw[eD,z1]
 have z3:(zh3 "tuple_iterator" "tuple_iterator" s.heap l1 l2).objs.size=s.heap.objs.size+3:=by rw[eD,z2]
 have z4:(zh4 "tuple_iterator" "tuple_iterator" s.heap l1 l2).objs.size=s.heap.objs.size+4:=by rw[eD,z3]
 have q5:(zh5 "tuple_iterator" "tuple_iterator" s.heap l1 l2).get? (zh4 "tuple_iterator" "tuple_iterator" s.heap l1 l2).objs.size=some _:=aW _ rfl
 have q4:(zh5 "tuple_iterator" "tuple_iterator" s.heap l1 l2).get? (zh3 "tuple_iterator" "tuple_iterator" s.heap l1 l2).objs.size=some _:=aF _ (aW _ rfl)
 have q3:(zh5 "tuple_iterator" "tuple_iterator" s.heap l1 l2).get? (zh2 "tuple_iterator" "tuple_iterator" s.heap l1 l2).objs.size=some _:=aF _ (aF _ (aW _ rfl))
 have q2:(zh5 "tuple_iterator" "tuple_iterator" s.heap l1 l2).get? (zh1 "tuple_iterator" s.heap l1).objs.size=some _:=aF _ (aF _ (aF _ (aW _ rfl)))
 have q1:(zh5 "tuple_iterator" "tuple_iterator" s.heap l1 l2).get? s.heap.objs.size=some _:=aF _ (aF _ (aF _ (aF _ (aW _ rfl))))
 show _/\_
 rw[z2,z3,z4] at q5;rw[z1,z2] at q3;rw[z3] at q4
 rw[z1] at q2;rw[z4]
 exact ⟨⟨_,q5,rfl⟩,h _ q5 q3 q4 ⟨_,q1,rfl,rfl⟩ ⟨_,q2,rfl,rfl⟩ fun c o q=>aF _ (aF _ (aF _ (aF _ (aF _ q))))⟩
end
end ZT
namespace MR
open PySem PySem.Spec PyProof.Rows L2
noncomputable def SK(bb:Bool)(K:aC)(H:Hp)(a:Addr)(xs:List V):Prop:=match bb with
 | true=>SqL K H a xs
 | false=>SqT K H a xs
theorem SK.at{X:Cx}{pins:List (Addr×Obj)}{σ:L2.St}{H:Hp}{s:aI}{bb:Bool}{a:Addr}{xs:List V}(I:L2.Inv X pins σ H s)(h:SK bb X.K H a xs):∃ its:List aE,Vals xs its/\ZT.SqK bb s.heap a its.toArray/\xs.length<=sizeLine:=by
 cases bb with
 | true=>obtain ⟨its,r,p,z⟩:=I.list h;exact ⟨its,r,p.isList,z⟩
 | false=>obtain ⟨its,r,p,z⟩:=I.tuple h;exact ⟨its,r,p,z⟩
theorem SK.inj{X:Cx}{pins:List (Addr×Obj)}{σ:L2.St}{H:Hp}{s:aI}{bb:Bool}{a:Addr}{xs ys:List V}(I:L2.Inv X pins σ H s)(h:SK bb X.K H a xs)(h':SK bb X.K H a ys):xs=ys:=by
 cases bb with
 | true=>exact I.list_inj h h'
 | false=>exact I.tuple_inj h h'
noncomputable def Ans(b1 b2:Bool)(K:aC)(a b:Addr):It:=
 ⟨fun i H=>∃ xs ys x y,SK b1 K H a xs/\SK b2 K H b ys/\xs[i]? = some x/\ys[i]? = some y,fun i H z H'=>∃ p x y,H p=none/\z = .ref p/\H'=upd H p (.tup [x,y])/\(∀ xs,SK b1 K H a xs->xs[i]? = some x)/\∀ ys,SK b2 K H b ys->ys[i]? = some y,
  fun i H=>∃ xs ys,SK b1 K H a xs/\SK b2 K H b ys/\(xs.length<=i\/ys.length<=i)⟩
theorem Aep{b1 b2:Bool}{P:bN}{w:bW}{K:aC}{elts:List Expr}{x1}{pos:Pos}(a b z TI TO i1 i2:Addr)(D:nC z TI TO i1 i2 a b):Turn P w K (.Tuple elts x1 pos) (Ans b1 b2 K a b) [z,TI,TO,i1,i2] z
  (fun i h=>kK h z TI TO .none/\fB h TI (.ref i1) (.ref i2)/\(∃ u v,fB h TO u v)/\ZT.ItK b1 h i1 a i/\ZT.ItK b2 h i2 b i) where
 mem:=by simp
 obj:=fun i h st c hb=>by
  obtain ⟨h1,h2,⟨u,v,h3⟩,h4',h5'⟩:=st
  obtain ⟨o4,h4,d4⟩:=h4'.obj
  obtain ⟨o5,h5,d5⟩:=h5'.obj
  simp only[cB,gS,or_false] at hb
  rcases hb with rfl | rfl | rfl | rfl | rfl
  ·exact ⟨_,h1,fun v z=>by simp at z⟩
  ·exact ⟨_,h2,fun v z=>by simp at z⟩
  ·exact ⟨_,h3,fun v z=>by simp at z⟩
  ·exact ⟨_,h4,fun v z=>by rw[d4] at z;cases z⟩
  ·exact ⟨_,h5,fun v z=>by rw[d5] at z;cases z⟩
 keep:=fun i h h' st k=>by
  obtain ⟨h1,h2,⟨u,v,h3⟩,h4,h5⟩:=st
  exact ⟨k z (by simp) _ h1,k TI (by simp) _ h2,⟨u,v,k TO (by simp) _ h3⟩,h4.keep (k i1 (by simp)),h5.keep (k i2 (by simp))⟩
 item:=by
  intro X hP hw hK hc i pins s σ H E I hf st hg
  subst hP hw hK
  obtain ⟨h1,h2,⟨u0,v0,h3⟩,h4,h5⟩:=st
  obtain ⟨xs,ys,x,y,sq1,sq2,hx,hy⟩:=hg
  obtain ⟨its1,hv1,pl1,hz1⟩:=SK.at I sq1
  obtain ⟨its2,hv2,pl2,hz2⟩:=SK.at I sq2
  obtain ⟨u,hu,r⟩:=hv1.get hx
  obtain ⟨u',hu',r'⟩:=hv2.get hy
  refine ZT.Ajw D h1 h2 h3 h4 h5 pl1 pl2 (by simpa using hu) (by simpa using hu') fun h' o1 o2 o3 o4 o5 o6 o7=>?_
  refine ⟨_,rfl,?_⟩
  have hfr:H s.heap.objs.size=none:=I.hok.fresh (bB _)
  have I1:L2.Inv X pins σ (upd H s.heap.objs.size (.tup [x,y])) { s with heap:=h',toks:=s.toks }:=
   Inv.turnNew (ch:=[z,TI,TO,i1,i2]) I hf (fun c o hb q=>o7 c o (fun z=>hb (by simp[z])) (fun z=>hb (by simp[z])) (fun z=>hb (by simp[z])) (fun z=>hb (by simp[z])) q) (bB _)
    (show ObjOk X.prog X.w _ h' _ (.tup [x,y]) from ⟨by show 2<=sizeLine;decide,[u,u'],.cons r (.cons r' .nil),⟨_,o5,rfl,_,rfl⟩⟩)
  refine wpAny_letOwnedTupleGo_zip o1 fun h9 e2 sb2=>?_
  have hlt:∀ c∈[z,TI,TO,i1,i2],c < s.heap.objs.size:=fun c hb=>by
   simp only[cB,gS,or_false] at hb
   rcases hb with rfl | rfl | rfl | rfl | rfl
   ·exact aV h1
   ·exact aV h2
   ·exact aV h3
   ·exact h4.lt
   ·exact h5.lt
  have hnone:∀ c∈[z,TI,TO,i1,i2],(upd H s.heap.objs.size (.tup [x,y])) c=none:=fun c hb=>by rw[Bc (bY (hlt c hb))];exact (hf c hb).1
  obtain ⟨f0,f1,f2,f3,f4,f5⟩:=hf z (by simp)
  have I2:=I1.turned (t':=s.toks) (h':=h9) (it:=z) (fun c o hb q=>sb2.2 c hb |>.trans q) (hnone z (by simp)) f1 f3 f4 f5
  have hTI:fB h' TI (.ref i1) (.ref i2):=o7 TI _ D.TIz D.TITO D.TIi1 D.TIi2 h2
  refine ⟨.ref s.heap.objs.size,_,I2,rfl,⟨_,x,y,hfr,rfl,rfl,fun ys sq'=>?_,fun ys sq'=>?_⟩,⟨e2,(sb2.2 TI D.TIz).trans hTI,⟨_,_,(sb2.2 TO D.TOz).trans o2⟩,o3.keep (fun o q=>(sb2.2 i1 D.i1z).trans q),o4.keep (fun o q=>(sb2.2 i2 D.i2z).trans q)⟩,hnone⟩
  ·rw[SK.inj I sq' sq1];exact hx
  ·rw[SK.inj I sq' sq2];exact hy
 done:=by
  intro X hP hw hK hc i pins s σ H E I hf st hg
  subst hP hw hK
  obtain ⟨h1,h2,⟨u0,v0,h3⟩,h4,h5⟩:=st
  obtain ⟨xs,ys,sq1,sq2,hx⟩:=hg
  obtain ⟨its1,hv1,pl1,hz1⟩:=SK.at I sq1
  obtain ⟨its2,hv2,pl2,hz2⟩:=SK.at I sq2
  have hl1:=hv1.length
  have hl2:=hv2.length
  refine ZT.Ano (I.ok.hd hc) D h1 h2 h3 h4 h5 pl1 pl2 (by simp;omega) fun h' k=>⟨rfl,?_⟩
  have nch:∀ b u,H b=some u->b∉[z,TI,TO,i1,i2]:=fun b u e hb=>by rw[(hf b hb).1] at e;cases e
  have k':∀ b o,b∉[z,TI,TO,i1,i2]->s.heap.get? b=some o->h'.get? b=some o:=fun c o hb q=>k c o (fun z=>hb (by simp[z])) (fun z=>hb (by simp[z])) (fun z=>hb (by simp[z])) (fun z=>hb (by simp[z])) q
  refine I.step (g':=s.gens) (d':=s.drawn) (t':=s.toks) (ch:=[z,TI,TO,i1,i2]) (fun b hb=>?_) (fun b o _ _ hc e _=>k' b o hc e) (fun b o _ _ hc e _=>⟨o.slots,k' b o hc e⟩) (fun _ _ _ _ n=>n) (fun b u hc e=>⟨u,k' b u hc e⟩) (fun _ _ e=>e) (fun _ _ _ e=>e) (fun b ps e=>⟨#[],by rw[e];simp⟩) (fun m hm=>?_) (fun b u e=>?_) I.bare
  ·obtain ⟨_,f1,_,f3,f4,f5⟩:=hf b hb
   exact ⟨f3,f1,f4,f5⟩
  ·obtain ⟨o1,es,ep,ho,r⟩:=hm
   exact ⟨o1,es,ep,k' _ o1 (fun z=>(hf _ z).2.1 rfl) ho,r⟩
  ·refine (I.hok b u e).stay (fun c v hc q=>k' c v ?_ q) (fun _ q=>q) fun _ _ q=>q
   rcases hc with z | z
   ·rw[z];exact nch b u e
   ·exact nch c _ z
 self:=fun _ _ _ _ _ st h=>pJ st.1 h
section
variable {X:Cx}{elts:List Expr}{x1:Nat}{tpos:Pos}
noncomputable def Ap5(K:aC)(ta:TA):TI:=fun σ H R=>ta σ H fun vs H1=>∃ a b xs ys,vs=[.ref a,.ref b]/\SqT K H1 a xs/\SqT K H1 b ys/\R (Ans false false K a b) H1
theorem Ala{a b:Expr}{ta:TA}{p pos:Pos}(hg:Gl X "zip")(hm:X.mg "zip" = none)(ha:PA X [a,b] ta)(hs:aS [a,b] X.env=(false,eval a X.env)::aS [b] X.env:=by rfl)(hpl:(backTo pos (aS [b] X.env)).any (·.1)=false:=by rfl):PI X (.Tuple elts x1 tpos) (.Call (.Name "zip" p) [a,b] [] pos) (Ap5 X.K ta):=by
 intro pins s σ H R I h
 refine Call_ (Na I hg hm Aht (eA (thn (ha pos pins s σ H _ I h) fun us s1 ⟨vs,H1,I1,r1,q1⟩=>?_) hs hpl))
 obtain ⟨l1,l2,xs,ys,rfl,sq1,sq2,q⟩:=q1
 obtain ⟨u,u',rfl,ru,ru'⟩:=Af6 r1
 cases ru;cases ru'
 obtain ⟨its1,hv1,pl1,hz1⟩:=I1.tuple sq1
 obtain ⟨its2,hv2,pl2,hz2⟩:=I1.tuple sq2
 have lt1:l1 < s1.heap.objs.size:=by obtain ⟨o,e,_⟩:=pl1;exact aV e
 have lt2:l2 < s1.heap.objs.size:=by obtain ⟨o,e,_⟩:=pl2;exact aV e
 refine ZT.Air pl1 pl2 fun h' o1 o2 o3 o4 o5 o7=>?_
 have I2:L2.Inv X pins σ H1 { s1 with heap:=h' }:=I1.kept (t':=s1.toks) o7
 refine pJ o1 ⟨_,_,_,_,H1,rfl,I2,Aep (b1:=false) (b2:=false) l1 l2 _ _ _ _ _ (Aes _ _ _ lt1 lt2),⟨o1,o2,⟨_,_,o3⟩,o4,o5⟩,fun b hb=>?_,q⟩
 have hb':s1.heap.objs.size<=b:=by
  simp only[cB,gS,or_false] at hb
  rcases hb with rfl | rfl | rfl | rfl | rfl <;> first | exact pK _ _ | exact bB _
 exact L2.Inv.fpOk I1 hb' (I1.hok.fresh hb')
noncomputable def Ov(us ws:List U):List U:=(us.zip ws).map fun p=>.tup [p.1,p.2]
theorem Q8(us ws:List U)(k:Nat):(Ov us ws)[k]? = Pa us[k]? ws[k]?:=by
 unfold Ov
 rw[bV,List.zip,List.getElem?_zipWith]
 cases us[k]? <;> cases ws[k]? <;> rfl
theorem Afy{K:aC}{H:Hp}{α:List Addr}{a b:Addr}{us ws:List U}{xs ys:List V}(sa:SqT K H a xs)(sb:SqT K H b ys)(ra:RepL K H α us xs)(rb:RepL K H α ws ys):Nt K (Ans false false K a b) (.seq (Ov us ws)) H α:=by
 intro H2 α2 L2 g A2 k
 have mv:∀ (c:Addr) (vs:List U) (zs:List V),SqT K H c zs->RepL K H α vs zs->∃ zs2,SqT K H2 c zs2/\RepL K H2 α2 vs zs2:=fun c vs zs s r=>by
  have m:=(show RepU K H α (.tup vs) (.ref c) by unfold RepU;exact ⟨c,zs,rfl,s,r⟩).mono g
  unfold RepU at m
  obtain ⟨c',zs2,e,s2,r2⟩:=m
  cases e
  exact ⟨zs2,s2,r2⟩
 obtain ⟨xs2,sa2,ra2⟩:=mv a us xs sa ra
 obtain ⟨ys2,sb2,rb2⟩:=mv b ws ys sb rb
 refine ⟨fun u eu=>?_,fun eu=>?_⟩
 ·have eu:(Ov us ws)[k]? = some u:=by simpa[IU.at] using eu
  rw[Q8] at eu
  cases h1:us[k]? with
  | none=>rw[h1] at eu;simp[Pa] at eu
  | some u1=>
   cases h2:ws[k]? with
   | none=>rw[h1,h2] at eu;simp[Pa] at eu
   | some u2=>
    rw[h1,h2] at eu
    simp[Pa] at eu
    subst eu
    obtain ⟨x,hx,rx⟩:=ra2.get h1
    obtain ⟨y,hy,ry⟩:=rb2.get h2
    refine ⟨⟨xs2,ys2,x,y,sa2,sb2,hx,hy⟩,?_⟩
    rintro z H3 ⟨p,v,v',hp,rfl,rfl,hy1,hy2⟩
    have e1:=hy1 xs2 sa2
    have e2:=hy2 ys2 sb2
    rw[hx] at e1;cases e1
    rw[hy] at e2;cases e2
    exact A2.tup (.cons rx (.cons ry .nil)) hp
 ·have eu:(Ov us ws)[k]? = none:=by simpa[IU.at] using eu
  rw[Q8] at eu
  refine ⟨xs2,ys2,sa2,sb2,?_⟩
  cases h1:us[k]? with
  | none=>left;rw[<- ra2.length];exact cS.mp h1
  | some u1=>
   cases h2:ws[k]? with
   | none=>right;rw[<- rb2.length];exact cS.mp h2
   | some u2=>rw[h1,h2] at eu;simp[Pa] at eu
end
end MR
namespace MR
open PySem PySem.Spec PyProof.Rows PySem.Calls L2
theorem Akm{bs:List Bool}:∀ {us:List aE},Vals (bs.map V.bl) us->∀ (i:Nat) (v:aE),us[i]? = some v->∃ b,bs[i]? = some b/\v = .bool b:=by
 induction bs with
 | nil=>intro us r i v e;rw[bL] at r;cases r;simp at e
 | cons n ns ih=>
  intro us r i v e
  rw[aP] at r
  cases r with
  | cons r1 r2=>
   cases i with
   | zero=>simp at e;subst e;exact ⟨n,rfl,r1⟩
   | succ i=>simpa using ih r2 i v (by simpa using e)
theorem Ak0{bs:List Bool}:∀ {us:List aE},Vals (bs.map V.bl) us->us.length=bs.length:=by
 induction bs with
 | nil=>intro us r;rw[bL] at r;cases r;rfl
 | cons n ns ih=>
  intro us r
  rw[aP] at r
  cases r with
  | cons r1 r2=>simp[ih r2]
theorem Aiv(bs:List Bool):((iX bs.length).all fun i=>(bs[i]?).getD true)=bs.all id:=by
 rw[Bool.eq_iff_iff,cU,cU]
 constructor
 ·intro h b hb
  obtain ⟨i,hi,e⟩:=List.getElem_of_mem hb
  have:=h i (mX.mpr hi)
  simp only[cZ hi,mE,e] at this
  exact this
 ·intro h i hi
  have hi':=mX.mp hi
  simp only[cZ hi',mE]
  exact h _ (pL hi')
section
variable {X:Cx}
theorem Aiu{s:aI}{h':Heap}{o:Obj}(hk:∀ b x,b∉[s.heap.objs.size]->(s.heap.push o).get? b=some x->h'.get? b=some x):∀ b x,s.heap.get? b=some x->h'.get? b=some x:=
 fun b x e=>hk b x (fun hm=>by rw[eI.mp hm] at e;exact dO _ (aV e)) (aF _ e)
theorem Ad8(hc:X.calm=true):CallR X (.builtin "all") (fun xs H Q=>∃ (p:Addr) (bs:List Bool),xs=[.ref p]/\SqL X.K H p (bs.map V.bl)/\Q (.bl (bs.all id)) H):=by
 intro pins s σ H xs us Q I r h
 obtain ⟨p,bs,rfl,hq,q⟩:=h
 obtain ⟨u,rfl,rx⟩:=Nr r
 cases rx
 obtain ⟨its,r',pl,hz⟩:=I.list hq
 have hl:=pl.isList
 have hlt:p < s.heap.objs.size:=by obtain ⟨_,e,_⟩:=hl;exact aV e
 refine call_all_walk (oM hl ?_)
 refine ⟨s.heap.objs.size,[s.heap.objs.size,p],[s.heap.objs.size],its.toArray.size,_,_,fun i=>(bs[i]?).getD true,rfl,Walks.list (A:=cK.in1 _) (I.ok.hd hc) _ p (bY hlt) its.toArray,
  ⟨⟨_,aW _ rfl,rfl,rfl⟩,hl.push _⟩,fun i v s' Q' E' hP hQ=>?_,fun h' tk hk=>?_⟩
 ·obtain ⟨b,e,rfl⟩:=Akm r' i v (by simpa using hP)
  simp only[e,mE] at hQ
  exact fD hQ
 ·have e:((iX its.toArray.size).all fun i=>(bs[i]?).getD true)=bs.all id:=by
   rw[bK,Ak0 r'];exact Aiv bs
  rw[e]
  exact ⟨.bl (bs.all id),H,I.kept (Aiu hk),rfl,q⟩
end
noncomputable def toB:U->Option Bool
 | .bl b=>some b
 | _=>none
theorem Abp{K:aC}{H:Hp}{α:List Addr}:∀ {us:List U} {xs:List V} {bs:List Bool},RepL K H α us xs->mapO toB us=some bs->xs=bs.map V.bl
 | [],xs,ys,r,h=>by unfold RepL at r;subst r;cases h;rfl
 | u::us,xs,ys,r,h=>by
  unfold RepL at r
  obtain ⟨x,xr,rfl,r1,r2⟩:=r
  obtain ⟨y,e1,h⟩:=aB.mp h
  obtain ⟨yr,e2,h⟩:=aH.mp h
  subst h
  cases u <;> simp only[toB] at e1 <;> first
   | (cases e1;unfold RepU at r1;subst r1;rw[Abp r2 e2];rfl)
   | cases e1
noncomputable def Q3:SC:=fun us L=>match us with
 | [.ref n]=>(A7 L n).bind fun l=>(mapO toB l).map fun bs=>(.bl (bs.all id),L)
 | _=>none
theorem Ald{K:aC}:R4 K (fun xs H Q=>∃ (p:Addr) (bs:List Bool),xs=[.ref p]/\SqL K H p (bs.map V.bl)/\Q (.bl (bs.all id)) H) Q3:=by
 intro H α L us xs z L' Q A r e q
 unfold Q3 at e
 split at e
 ·obtain ⟨l,hl,e⟩:=aB.mp e
  obtain ⟨bs,e1,e⟩:=aH.mp e
  cases e
  obtain ⟨x,rfl,rx⟩:=r.one
  obtain ⟨a,ys,rfl,sq,r2⟩:=Qd A hl rx
  rw[Abp r2 e1] at sq
  exact ⟨a,bs,rfl,sq,q _ H α (.refl _ _) A rfl⟩
 ·cases e
section
variable {X:Cx}
end
end MR
namespace ZT
open PySem PySem.Spec PyProof.Rows
open Sem (wp)
section
variable {prog:bN}{w:bW}{A:cK}{E:aE->aI->Prop}{s:aI}
end
section
variable {prog:bN}{w:bW}{A:cK}{E:aE->aI->Prop}{s:aI}
end
end ZT
namespace MR
open PySem PySem.Spec PyProof.Rows L2
section
variable {X:Cx}{elts:List Expr}{x1:Nat}{tpos:Pos}
end
structure CompScC(X:Cx)(scope:iK)(N':List Str)(ix:List (Option Nat)):Prop where
 kind:scope.kind = .function
 own:(scope.names.all fun y=>scope.names.lookup y.1 == some y.2)=true
 free:(scope.names.all fun y=>y.2 != .free || (X.env.kindOf y.1 == some .cell || X.env.kindOf y.1 == some .free))=true
 ixs:((N'.zip ix).all fun p=>match p.2 with | none=>true | some i=>(X.N[i]? == some p.1)&&(scope.names.lookup p.1 == some .free))=true
 len:N'.length=ix.length
section
variable {X:Cx}{scope:iK}{N':List Str}{ix:List (Option Nat)}{pins:List (Addr×Obj)}{σ:L2.St}{H2:Hp}{s2:aI}{cl:List (Str×Addr)}{fp:List Addr}
end
section
variable {X:Cx}{scope:iK}{N':List Str}{ix:List (Option Nat)}{elt tg iter c:Expr}{pos:Pos}{fi:FI}{g:FG}{ft:FT}{fe:FE}
end
noncomputable def Its(x:Str):It:=⟨fun i _=>i < x.cps.size,fun i H v H'=>H'=H/\∃ c,x.cps[i]? = some c/\v = .str ⟨#[c]⟩,fun i _=>x.cps.size<=i⟩
theorem Afs{P:bN}{w:bW}{K:aC}{tg:Expr}(x:Str)(t:Tok)(it:Addr):Turn P w K tg (Its x) [it] it (fun i h=>h.IsStrIter it "str_ascii_iterator" x t i) where
 mem:=by simp
 obj:=fun i h st b hb=>by
  have e:b=it:=by simpa using hb
  subst e
  obtain ⟨o,e,c,d⟩:=st
  exact ⟨o,e,fun v z=>by rw[d] at z;cases z⟩
 keep:=fun i h h' st k=>by
  obtain ⟨o,e,r⟩:=st
  exact ⟨o,k it (by simp) o e,r⟩
 item:=by
  intro X hP hw hK hc i pins s σ H E I hf st hg
  subst hP hw hK
  obtain ⟨f0,f1,f2,f3,f4,f5⟩:=hf it (by simp)
  have hg:i < x.cps.size:=hg
  have hx:x.cps[i]? = some (x.cps[i]'hg):=kR hg
  refine wpAny_pyNext_ascii_item st hx fun h' st' sb=>?_
  have I1:Inv X pins σ H { s with heap:=h',toks:=s.toks+1 }:=I.turned (t':=s.toks+1) (fun b o hb e=>(sb.2 b hb).trans e) f0 f1 f3 f4 f5
  obtain ⟨o,e,c,d⟩:=id st'
  exact ⟨_,rfl,Abm (s:={ s with heap:=h',toks:=s.toks+1 }) e c d (by decide) ⟨.str ⟨#[x.cps[i]'hg]⟩,H,I1,⟨_,rfl⟩,⟨rfl,_,hx,rfl⟩,st',fun b hb=>(hf b hb).1⟩⟩
 done:=by
  intro X hP hw hK hc i pins s σ H E I hf st hg
  subst hP hw hK
  obtain ⟨f0,f1,f2,f3,f4,f5⟩:=hf it (by simp)
  have hx:x.cps[i]? = none:=Array.getElem?_eq_none hg
  exact wpAny_pyNext_ascii_end (I.ok.hd hc) st hx fun h' eb=>⟨rfl,I.turned (t':=s.toks) (fun b o hb e=>eb b o hb e) f0 f1 f3 f4 f5⟩
 self:=fun _ _ _ _ _ st h=>wpAny_pyIter_striter_ascii st h
noncomputable def Arv(tl:TE):TI:=fun σ H R=>tl σ H fun v H1=>∃ x:Str,v = .str x/\x.cps.all (· < 128)=true/\R (Its x) H1
section
variable {X:Cx}{tg:Expr}
theorem An5{l:Expr}{tl:TE}(hl:PE X l tl):PI X tg l (Arv tl):=by
 intro pins s σ H R I h
 refine thn (hl pins s σ H _ I h) fun v s1 ⟨x,H1,I1,r1,q1⟩=>?_
 obtain ⟨x,rfl,ha,q⟩:=q1
 obtain ⟨t,rfl⟩:=r1
 refine wpAny_pyIter_ascii ha ?_
 refine ⟨s1.heap.objs.size,[s1.heap.objs.size],_,_,H1,rfl,I1.kept (t':=s1.toks) fun b o e=>aF _ e,Afs x t _,⟨_,aW _ rfl,rfl,rfl⟩,fun b hb=>?_,q⟩
 have e:b=s1.heap.objs.size:=by simpa using hb
 subst e
 exact I1.fpOk (bB _) (I1.hok.fresh (bB _))
noncomputable def Aav(x:Str):List U:=x.cps.toList.map fun c=>.str ⟨#[c]⟩
noncomputable def Ms(f:FE):FI:=fun δ L=>(f δ L).bind fun p=>match p.1 with
 | .str x=>if x.cps.all (· < 128)=true then some (.seq (Aav x),p.2) else none
 | _=>none
theorem Ai7{K:aC}{H:Hp}{α:List Addr}(x:Str):Nt K (Its x) (.seq (Aav x)) H α:=by
 intro H2 α2 L2 g A2 k
 refine ⟨fun u eu=>?_,fun eu=>?_⟩
 ·have eu:(Aav x)[k]? = some u:=by simpa[IU.at] using eu
  unfold Aav at eu
  rw[bV] at eu
  obtain ⟨c,hc,eu⟩:=aH.mp eu
  subst eu
  have hc':x.cps[k]? = some c:=by simpa using hc
  have hk:k < x.cps.size:=by
   have:=(aR.mp hc).1
   simpa using this
  refine ⟨hk,?_⟩
  rintro y H3 ⟨rfl,c',hc2,rfl⟩
  rw[hc'] at hc2;cases hc2
  exact ⟨.refl _ _,A2,rfl⟩
 ·have eu:(Aav x)[k]? = none:=by simpa[IU.at] using eu
  unfold Aav at eu
  have:x.cps.toList.length<=k:=by simpa using eu
  show x.cps.size<=k
  simpa using this
theorem Wj{l:Expr}{f:FE}(hl:PEF X l f):PIF X tg l (Ms f):=by
 refine PI.imp (An5 hl) ?_
 rintro σ H R ⟨α,δ,L,A,S,i,L3,e,q⟩
 obtain ⟨⟨u,L1⟩,e1,e⟩:=aB.mp e
 simp only at e
 split at e
 ·split at e
  ·rename_i ha
   cases e
   refine ⟨α,δ,L,A,S,_,_,e1,fun x H1 α1 g1 A1 r1=>?_⟩
   unfold RepU at r1
   subst r1
   exact ⟨_,rfl,ha,q _ H1 α1 g1 A1 (Ai7 _)⟩
  ·cases e
 ·cases e
end
end MR
namespace ZT
open PySem PySem.Spec PyProof.Rows
open Sem (wp)
section
variable {prog:bN}{w:bW}{A:cK}{s:aI}{R:Result->aI->Prop}
variable {I:Addr}{fp wr:List Addr}{G:Array kC->Array kC->Prop}{n:Nat}{P:Nat->aE->Prop}{St:Nat->aI->Prop}
end
section
variable {prog:bN}{w:bW}{A:cK}{E:aE->aI->Prop}{s:aI}
variable {I:Addr}{fp wr:List Addr}{G:Array kC->Array kC->Prop}{n:Nat}{P:Nat->aE->Prop}{St:Nat->aI->Prop}
end
end ZT
namespace MR
open PySem PySem.Spec PyProof.Rows PySem.Calls L2
section
variable {X:Cx}
theorem Aac:eC "list" = some (.type "list"):=by decide +kernel
theorem Xb:eC "tuple" = some (.type "tuple"):=by decide +kernel
end
end MR
namespace ZT
open PySem PySem.Spec PyProof.Rows HT
section
variable {prog:bN}{w:bW}{A:cK}{E:aE->aI->Prop}{s:aI}
end
end ZT
namespace MR
open PySem PySem.Spec PyProof.Rows PySem.Calls L2
section
variable {X:Cx}{tg:Expr}
end
section
variable {X:Cx}
noncomputable def Alv(K:aC):R2:=fun x y H Q=>∃ a b ys,x = .ref a/\y = .ref b/\SqT K H a []/\SqT K H b ys/\Q (.ref b) H
theorem Ai8:OpR X (eL .Add) (Alv X.K):=by
 intro pins s σ H x y v u Q I rx ry h
 obtain ⟨a,b,ys,rfl,rfl,ha,hb,q⟩:=h
 cases rx
 cases ry
 obtain ⟨its,r1,p1,_⟩:=I.tuple ha
 obtain ⟨its2,r2,p2,_⟩:=I.tuple hb
 have he:its=[]:=r1.nil_iff.mpr rfl
 obtain ⟨⟨cls,dd,data,sl⟩,ho,hc,n,hd⟩:=id p1
 obtain ⟨⟨cls2,dd2,data2,sl2⟩,ho2,hc2,n2,hd2⟩:=id p2
 simp only at hc hd hc2 hd2
 subst hc hd hc2 hd2
 exact oV ⟨_,ho,rfl⟩ ⟨_,ho2,rfl⟩ mD nT iS iG (gZ _ _)
  (tuple_addW0 a b its.toArray its2.toArray n n2 dd dd2 sl sl2 (by simp[he])) ⟨ho,ho2,⟨.ref b,H,I,rfl,q⟩⟩
end
noncomputable def Dp:S2:=fun u w L=>match u,w with
 | .tup [],.tup b=>some (.tup b,L)
 | u,w=>Bs u w L
noncomputable def Alo(K:aC):R2:=fun x y H Q=>Ahg K x y H Q\/Alv K x y H Q
theorem Nx{X:Cx}:OpR X (eL .Add) (Alo X.K):=D6.or Ai8
theorem Lo{K:aC}:Di K (Alo K) Dp:=by
 intro H α L u w x y z L' Q A ru rw e q
 unfold Dp at e
 split at e
 ·cases e
  have rw':=rw
  unfold RepU at ru rw
  obtain ⟨a,xs,rfl,sq,r2⟩:=ru
  obtain ⟨b,ys,rfl,sq',r2'⟩:=rw
  unfold RepL at r2
  subst r2
  exact .inr ⟨a,b,ys,rfl,rfl,sq,sq',q _ H α (.refl _ _) A rw'⟩
 ·exact .inl (Dz H α L _ _ x y z L' Q A ru rw e q)
@[simp] theorem semAddA_int(i j:Int)(L:UH):Dp (.int i) (.int j) L=some (.int (i+j),L):=rfl
end MR
namespace MR
open PySem PyProof.Rows L2
section
variable {X:Cx}
end
end MR
namespace MR
open PySem PySem.W PyProof.Rows L2
end MR
namespace Att
open PySem PySem.W PySem.Calls PyProof.Rows L2 MR
end Att
namespace MR
open PySem PyProof.Rows L2
noncomputable def g0(us ws:List aE):List aE:=match us with | []=>ws | _=>[]
section
variable {X:Cx}{k:Nat}{f:Addr}{fd:bM}{p:Str}{ps:List Str}{x:Str}{pp pos kpos:Pos}{e:Expr}{kws:List iP}{nm:Option Str}
end
end MR
namespace MR
open PySem PySem.Spec PyProof.Rows PySem.Calls L2
section
variable {X:Cx}
end
section
variable {X:Cx}
end
end MR
namespace MR
open PySem PyProof.Rows L2
noncomputable def toK:U->Option Key
 | .int i=>some (.inl i)
 | .str x=>some (.inr x)
 | _=>none
theorem Vt{K:aC}{H:Hp}{α:List Addr}{u:U}{x:V}{k:Key}(r:RepU K H α u x)(h:toK u=some k):x=kV k:=by
 cases u <;> simp only[toK] at h <;> first | (cases h;unfold RepU at r;exact r) | cases h
noncomputable def Qo(kvs:List (Key×U))(k:Key):Option U:=(kvs.find? fun kv=>decide (kv.1=k)).map (·.2)
noncomputable def Ahk(kvs:List (Key×U))(k:Key)(v:U):List (Key×U):=
 if (kvs.any fun kv=>decide (kv.1=k))=true then kvs.map (fun kv=>if kv.1=k then (kv.1,v) else kv) else kvs++[(k,v)]
section
variable {K:aC}{H:Hp}{α:List Addr}
noncomputable def RepKV(K:aC)(H:Hp)(α:List Addr)(kvs:List (Key×U))(vs:List (Key×V)):Prop:=kvs.map (·.1)=vs.map (·.1)/\RepL K H α (kvs.map (·.2)) (vs.map (·.2))
theorem RepKV.nil:RepKV K H α [] []:=⟨rfl,.nil⟩
theorem RepKV.cons{kv:Key×U}{kvs:List (Key×U)}{vs:List (Key×V)}(h:RepKV K H α (kv::kvs) vs):∃ x vs',vs=(kv.1,x)::vs'/\RepU K H α kv.2 x/\RepKV K H α kvs vs':=by
 obtain ⟨h1,h2⟩:=h
 cases vs with
 | nil=>simp at h1
 | cons w vs'=>
  simp only[aP,jQ] at h1
  rw[aP,aP] at h2
  unfold RepL at h2
  obtain ⟨x,xr,hx,rx,r⟩:=h2
  injection hx with e1 e2
  subst e1
  refine ⟨w.2,vs',by rw[h1.1],rx,h1.2,?_⟩
  rw[e2];exact r
theorem RepKV.mk{k:Key}{u:U}{x:V}{kvs:List (Key×U)}{vs:List (Key×V)}(r:RepU K H α u x)(h:RepKV K H α kvs vs):RepKV K H α ((k,u)::kvs) ((k,x)::vs):=
 ⟨by simp[h.1],by rw[aP,aP];exact .cons r h.2⟩
theorem RepKV.val{k:Key}{u:U}:∀ {kvs:List (Key×U)} {vs:List (Key×V)},RepKV K H α kvs vs->Qo kvs k=some u->∃ x,Ml vs k=some x/\RepU K H α u x
 | [],vs,_,e=>by simp[Qo] at e
 | kv::kvs,vs,r,e=>by
  obtain ⟨x,vs',rfl,rx,r'⟩:=r.cons
  unfold Qo at e
  unfold Ml
  rw[eQ] at e ⊢
  by_cases h:kv.1=k
  ·simp only[h,decide_true,aD] at e ⊢
   cases e
   exact ⟨x,rfl,rx⟩
  ·simp only[h,decide_false] at e ⊢
   exact RepKV.val r' e
theorem RepKV.any{k:Key}:∀ {kvs:List (Key×U)} {vs:List (Key×V)},RepKV K H α kvs vs->(kvs.any fun kv=>decide (kv.1=k))=(vs.any fun kv=>decide (kv.1=k))
 | [],vs,r=>by
  obtain ⟨h1,_⟩:=r
  cases vs with
  | nil=>rfl
  | cons _ _=>simp at h1
 | kv::kvs,vs,r=>by
  obtain ⟨x,vs',rfl,rx,r'⟩:=r.cons
  rw[eU,eU,RepKV.any r']
theorem RepKV.len{kvs:List (Key×U)}{vs:List (Key×V)}(r:RepKV K H α kvs vs):kvs.length=vs.length:=by
 have:=congrArg lD r.1
 simpa using this
theorem RepKV.upd{k:Key}{u:U}{x:V}(ru:RepU K H α u x):∀ {kvs:List (Key×U)} {vs:List (Key×V)},RepKV K H α kvs vs->RepKV K H α (kvs.map fun kv=>if kv.1=k then (kv.1,u) else kv) (vs.map fun kv=>if kv.1=k then (kv.1,x) else kv)
 | [],vs,r=>by
  obtain ⟨h1,_⟩:=r
  cases vs with
  | nil=>exact .nil
  | cons _ _=>simp at h1
 | kv::kvs,vs,r=>by
  obtain ⟨y,vs',rfl,ry,r'⟩:=r.cons
  rw[aP,aP]
  by_cases h:kv.1=k
  ·rw[if_pos h,if_pos h]
   exact .mk ru (RepKV.upd ru r')
  ·rw[if_neg h,if_neg h]
   exact .mk ry (RepKV.upd ru r')
theorem RepKV.add{k:Key}{u:U}{x:V}(ru:RepU K H α u x):∀ {kvs:List (Key×U)} {vs:List (Key×V)},RepKV K H α kvs vs->RepKV K H α (kvs++[(k,u)]) (vs++[(k,x)])
 | [],vs,r=>by
  obtain ⟨h1,_⟩:=r
  cases vs with
  | nil=>exact .mk ru .nil
  | cons _ _=>simp at h1
 | kv::kvs,vs,r=>by
  obtain ⟨y,vs',rfl,ry,r'⟩:=r.cons
  exact .mk ry (RepKV.add ru r')
theorem RepKV.put{k:Key}{u:U}{x:V}{kvs:List (Key×U)}{vs:List (Key×V)}(ru:RepU K H α u x)(r:RepKV K H α kvs vs):RepKV K H α (Ahk kvs k u) (Oy vs k x):=by
 unfold Ahk Oy
 rw[r.any]
 split
 ·exact r.upd ru
 ·exact r.add ru
theorem RepKV.mono{H':Hp}{α':List Addr}{kvs:List (Key×U)}{vs:List (Key×V)}(r:RepKV K H α kvs vs)(g:Gr H α H' α'):RepKV K H' α' kvs vs:=⟨r.1,r.2.mono g⟩
end
noncomputable def E5(L:UH)(n:Nat):Option (List (Key×U)):=match L[n]? with
 | some (.dic kvs)=>some kvs
 | _=>none
theorem Mw{L:UH}{n:Nat}{kvs:List (Key×U)}(h:E5 L n=some kvs):L[n]? = some (.dic kvs):=by
 unfold E5 at h
 split at h
 ·rename_i e;cases h;exact e
 ·cases h
theorem Ga{K:aC}{H:Hp}{α:List Addr}{L:UH}{n:Nat}{x:V}{kvs:List (Key×U)}(A:Abs K H α L)(h:E5 L n=some kvs)(r:RepU K H α (.ref n) x):∃ a vs,x = .ref a/\α[n]? = some a/\H a=some (.dK vs)/\RepKV K H α kvs vs:=by
 unfold RepU at r
 obtain ⟨a,ea,rfl⟩:=r
 obtain ⟨vs,e,k1,k2⟩:=A.rep n a _ ea (Mw h)
 exact ⟨a,vs,rfl,ea,e,k1,k2⟩
theorem Abs.setD{K:aC}{H:Hp}{α:List Addr}{L:UH}{n:Nat}{a:Addr}{vs ws:List (Key×V)}{kvs kws:List (Key×U)}(A:Abs K H α L)(h:E5 L n=some kvs)(ea:α[n]? = some a)(e:H a=some (.dK vs))(r:RepKV K H α kws ws) :
  Gr H α (upd H a (.dK ws)) α/\Abs K (upd H a (.dK ws)) α (L.set n (.dic kws)):=by
 have g:Gr H α (upd H a (.dK ws)) α:=⟨⟨[],by simp⟩,.write e (by exact trivial) _⟩
 obtain ⟨A',_⟩:=A.put (o:=.dK ws) (u:=.dic kws) ea (Mw h) rfl rfl e (by exact trivial) ⟨ws,upd_same,(r.mono g).1,(r.mono g).2⟩
 exact ⟨g,A'⟩
section
variable {X:Cx}{o i value:Expr}{pos pos':Pos}{fo fi fv:FE}
noncomputable def fDNew:FE:=fun _ L=>some (.ref L.length,L++[.dic []])
theorem Qa:PEF X (.Dict [] [] pos) fDNew:=by
 refine PE.imp Agg ?_
 rintro σ H Q ⟨α,δ,L,A,S,z,L3,e,q⟩
 cases e
 intro p hp
 have g:Gr H α (upd H p (.dK [])) (α ++ [p]):=⟨⟨[p],rfl⟩,.new hp _⟩
 obtain ⟨A',_⟩:=A.new (o:=.dK []) (u:=.dic []) hp ⟨[],upd_same,rfl,.nil⟩
 refine q _ _ _ g A' ?_
 unfold RepU
 exact ⟨p,by rw[<- A.len];simp,rfl⟩
noncomputable def Mu(fo fi fv:FE):FS:=fun δ L=>(fv δ L).bind fun p=>(fo δ p.2).bind fun q=>(fi δ q.2).bind fun r=>match q.1 with
 | .ref n=>(toK r.1).bind fun k=>(E5 r.2 n).bind fun kvs=>if kvs.length < 1000000 then some (.nx δ,r.2.set n (.dic (Ahk kvs k p.1))) else none
 | _=>none
theorem Rz(hu:X.A.units+64 < cLine)(ho:PEF X o fo)(hi:PEF X i fi)(hv:PEF X value fv)(hs:swapsWith value (some (.Subscript o i pos')) pos.line X.env=pure false:=by rfl):PSF X (.Assign [.Subscript o i pos'] value pos) (Mu fo fi fv):=by
 refine PS.imp (Ai1 (by omega) ho hi hv hs) ?_
 rintro D σ H ⟨α,δ,L,A,S,fl,L',e,q⟩
 obtain ⟨⟨v,L1⟩,e1,e⟩:=aB.mp e
 obtain ⟨⟨u,L2⟩,e2,e⟩:=aB.mp e
 obtain ⟨⟨w,L3⟩,e3,e⟩:=aB.mp e
 refine ⟨α,δ,L,A,S,v,L1,e1,fun xv H1 α1 g1 A1 rv=>⟨α1,δ,L1,A1,S.mono g1,u,L2,e2,fun x H2 α2 g2 A2 rx=>⟨α2,δ,L2,A2,(S.mono g1).mono g2,w,L3,e3,fun y H3 α3 g3 A3 ry=>?_⟩⟩⟩
 simp only at e
 split at e
 ·obtain ⟨k,hk,e⟩:=aB.mp e
  obtain ⟨kvs,hd,e⟩:=aB.mp e
  split at e
  ·rename_i hl
   cases e
   obtain ⟨a,vs,rfl,ea,ha,rk⟩:=Ga A3 hd (rx.mono g3)
   have rv':=rv.mono (g2.trans g3)
   obtain ⟨g4,A4⟩:=A3.setD hd ea ha (rk.put (k:=k) rv')
   refine ⟨a,_,rfl,?_,q σ _ α3 ((g1.trans (g2.trans g3)).trans g4) A4 ((((S.mono g1).mono g2).mono g3).mono g4)⟩
   rw[Vt ry hk]
   exact DPut.k ha (by rw[<- rk.len];unfold sizeLine;omega)
  ·cases e
 ·cases e
end
theorem Aq6{β:Type}{P:List β->Prop}(h:P [])(us:List β)(hl:us.length=0):P us:=by
 cases us with
 | nil=>exact h
 | cons=>cases hl
theorem Ahv{β:Type}{n:Nat}{P:List β->Prop}(h:∀ (a:β) (us:List β),us.length=n->P (a::us))(us:List β)(hl:us.length=n+1):P us:=by
 cases us with
 | nil=>cases hl
 | cons a us=>exact h a us (Nat.succ.inj hl)
theorem O8{β:Type}{P:List β->Prop}(h:∀ a,P [a]):∀ us:List β,us.length=1->P us:=Ahv fun a=>Aq6 (h a)
theorem Mj{β:Type}{P:List β->Prop}(h:∀ a b,P [a,b]):∀ us:List β,us.length=2->P us:=Ahv fun a=>O8 (h a)
theorem Anx{β:Type}{P:List β->Prop}(h:∀ a b c,P [a,b,c]):∀ us:List β,us.length=3->P us:=Ahv fun a=>Mj (h a)
theorem Afw{β:Type}{P:List β->Prop}(h:∀ a b c d,P [a,b,c,d]):∀ us:List β,us.length=4->P us:=Ahv fun a=>Anx (h a)
theorem Aq7{β:Type}{P:List β->Prop}(h:∀ a b c d e,P [a,b,c,d,e]):∀ us:List β,us.length=5->P us:=Ahv fun a=>Afw (h a)
section
variable {X:Cx}{elts:List Expr}{x1:Nat}{tpos:Pos}
noncomputable def Ac0(g:FA):FI:=fun δ L=>(g δ L).bind fun p=>match p.1 with
 | [.tup us,.tup ws]=>some (.seq (Ov us ws),p.2)
 | _=>none
theorem Agm{a b:Expr}{g:FA}{p pos:Pos}(hg:Gl X "zip")(hm:X.mg "zip" = none)(ha:PAF X [a,b] g)(hs:aS [a,b] X.env=(false,eval a X.env)::aS [b] X.env:=by rfl)(hpl:(backTo pos (aS [b] X.env)).any (·.1)=false:=by rfl):PIF X (.Tuple elts x1 tpos) (.Call (.Name "zip" p) [a,b] [] pos) (Ac0 g):=by
 refine PI.imp (Ala hg hm ha hs hpl) ?_
 rintro σ H R ⟨α,δ,L,A,S,i,L3,e,q⟩
 obtain ⟨⟨us,L1⟩,e1,ee⟩:=aB.mp e
 simp only at ee
 split at ee
 ·cases ee
  refine ⟨α,δ,L,A,S,_,_,e1,fun xs H1 α1 g1 A1 r1=>?_⟩
  obtain ⟨x,y,rfl,rx,ry⟩:=r1.two
  unfold RepU at rx ry
  obtain ⟨a',ys,rfl,sq,r2⟩:=rx
  obtain ⟨b',ys',rfl,sq',r2'⟩:=ry
  exact ⟨a',b',ys,ys',rfl,sq,sq',q _ H1 α1 g1 A1 (Afy sq sq' r2 r2')⟩
 ·cases ee
end
end MR
namespace MR
open PySem L2
@[simp] theorem fVar_eq(i:Nat)(δ:UE)(L:UH):Af i δ L=(δ[i]?).join.map fun u=>(u,L):=rfl
@[simp] theorem fC_eq(u:U)(δ:UE)(L:UH):fC u δ L=some (u,L):=rfl
@[simp] theorem f2_eq(s:S2)(a b:FE)(δ:UE)(L:UH):f2 s a b δ L=(a δ L).bind fun p=>(b δ p.2).bind fun q=>s p.1 q.1 q.2:=rfl
@[simp] theorem fTest_eq(f:FE)(δ:UE)(L:UH):Ax f δ L=(f δ L).bind fun p=>match p.1 with | .bl k=>some (k,p.2) | _=>none:=rfl
@[simp] theorem fAnd_eq(f g:FT)(δ:UE)(L:UH):Sy f g δ L=(f δ L).bind fun p=>if p.1=true then g δ p.2 else some (false,p.2):=rfl
@[simp] theorem fOr_eq(f g:FT)(δ:UE)(L:UH):fOr f g δ L=(f δ L).bind fun p=>if p.1=true then some (true,p.2) else g δ p.2:=rfl
@[simp] theorem fNot_eq(f:FT)(δ:UE)(L:UH):K4 f δ L=(f δ L).map fun p=>(!p.1,p.2):=rfl
@[simp] theorem fAndV_eq(f g:FE)(δ:UE)(L:UH):N6 f g δ L=(f δ L).bind fun p=>match p.1 with | .bl k=>if k=true then g δ p.2 else some (.bl false,p.2) | _=>none:=rfl
@[simp] theorem Aqu(f g:FE)(δ:UE)(L:UH):Aqy f g δ L=(f δ L).bind fun p=>match p.1 with | .bl k=>if k=true then some (.bl true,p.2) else g δ p.2 | _=>none:=rfl
@[simp] theorem Agt(f:FE)(δ:UE)(L:UH):Ags f δ L=(f δ L).bind fun p=>match p.1 with | .bl k=>some (.bl (!k),p.2) | _=>none:=rfl
@[simp] theorem Arq(c:FT)(f g:FE)(δ:UE)(L:UH):fIf c f g δ L=(c δ L).bind fun p=>if p.1=true then f δ p.2 else g δ p.2:=rfl
@[simp] theorem fNil_eq(δ:UE)(L:UH):Ai δ L=some ([],L):=rfl
@[simp] theorem fCons_eq(f:FE)(g:FA)(δ:UE)(L:UH):Ac f g δ L=(f δ L).bind fun p=>(g δ p.2).map fun q=>(p.1::q.1,q.2):=rfl
@[simp] theorem Mf(g:FA)(δ:UE)(L:UH):G4 g δ L=(g δ L).bind fun p=>if Dk p.1.length=true then some (.tup p.1,p.2) else none:=rfl
@[simp] theorem fLst_eq(g:FA)(δ:UE)(L:UH):Ct g δ L=(g δ L).bind fun p=>if Dk p.1.length=true then some (.ref p.2.length,p.2++[.lst p.1]) else none:=rfl
@[simp] theorem fCall_eq(s:SC)(g:FA)(δ:UE)(L:UH):B0 s g δ L=(g δ L).bind fun p=>s p.1 p.2:=rfl
@[simp] theorem fOwn_eq(n:Nat)(F:FN)(g:FA)(δ:UE)(L:UH):Bf n F g δ L=(g δ L).bind fun p=>if p.1.length=n then F p.1 p.2 else none:=rfl
@[simp] theorem fMeth_eq(T:String)(s:SM)(f:FE)(g:FA)(δ:UE)(L:UH):Mr T s f g δ L=(f δ L).bind fun p=>if tyU T p.1 p.2=true then (g δ p.2).bind fun q=>s p.1 q.1 q.2 else none:=rfl
@[simp] theorem fPart_eq(f:FE)(δ:UE)(L:UH):Yb f δ L=(f δ L).bind fun p=>match p.1 with | .int i=>some (some i,p.2) | _=>none:=rfl
@[simp] theorem Aaz(δ:UE)(L:UH):Oe δ L=some (none,L):=rfl
@[simp] theorem Anz(s:SS)(f:FE)(l h:FO)(δ:UE)(L:UH):fSl s f l h δ L=(f δ L).bind fun p=>(l δ p.2).bind fun q=>(h δ q.2).bind fun r=>s p.1 q.1 r.1 r.2:=rfl
@[simp] theorem Aqp(f:FE)(δ:UE)(L:UH):Amc f δ L=(f δ L).bind fun p=>match p.1 with | .int i=>some (.int (-i),p.2) | _=>none:=rfl
@[simp] theorem fTru_eq(f:FE)(δ:UE)(L:UH):Hf f δ L=(f δ L).bind fun p=>(Ae2 p.1 p.2).map fun k=>(k,p.2):=rfl
@[simp] theorem Aqq(c:String)(f:FE)(δ:UE)(L:UH):Yo c f δ L=(f δ L).bind fun p=>(Vz p.1 p.2).map fun t=>(.bl (isT t c),p.2):=rfl
@[simp] theorem Eg(δ:UE)(L:UH):Cv δ L=some (.nx δ,L):=rfl
@[simp] theorem fSeq_eq(f g:FS)(δ:UE)(L:UH):Be f g δ L=(f δ L).bind fun p=>match p.1 with | .nx δ'=>g δ' p.2 | fl=>some (fl,p.2):=rfl
@[simp] theorem fRet_eq(f:FE)(δ:UE)(L:UH):Cg f δ L=(f δ L).map fun p=>(.rt p.1,p.2):=rfl
@[simp] theorem Rr(f:FE)(δ:UE)(L:UH):Fz f δ L=(f δ L).map fun p=>(.nx δ,p.2):=rfl
@[simp] theorem Apm(δ:UE)(L:UH):Apr δ L=some (.rt .non,L):=rfl
@[simp] theorem Cr(c:FT)(f g:FS)(δ:UE)(L:UH):Dh c f g δ L=(c δ L).bind fun p=>if p.1=true then f δ p.2 else g δ p.2:=rfl
@[simp] theorem Yp(i:Nat)(u:U)(δ:UE)(L:UH):gN i u δ L=some (δ.set i (some u),L):=rfl
@[simp] theorem Aqo(δ:UE)(L:UH):MR.gNil [] δ L=some (δ,L):=rfl
@[simp] theorem Aqh(f:FG)(g:FGs)(u:U)(r:List U)(δ:UE)(L:UH):MR.gCons f g (u::r) δ L=(f u δ L).bind fun p=>g r p.1 p.2:=rfl
@[simp] theorem Aqs(n:Nat)(g:FGs)(us:List U)(δ:UE)(L:UH):MR.gTup n g (.tup us) δ L=if us.length=n then g us δ L else none:=rfl
@[simp] theorem Aqn(a b:FE)(v:U)(δ:UE)(L:UH):MR.gSub a b v δ L=(a δ L).bind fun p=>(b δ p.2).bind fun q=>match p.1,q.1 with
 | .ref n,.int k=>(Gd q.2 n).bind fun l=>(ixN l.length k).map fun j=>(δ,q.2.set n (.lst (l.set j v)))
 | _,_=>none:=rfl
@[simp] theorem Dj(f:FE)(g:FG)(δ:UE)(L:UH):Bh f g δ L=(f δ L).bind fun p=>(g p.1 δ p.2).map fun q=>(.nx q.1,q.2):=rfl
@[simp] theorem Vn(fi:FI)(g:FG)(b:FS)(δ:UE)(L:UH):Rc fi g b δ L=(fi δ L).bind fun p=>N3 p.1 g b (p.1.size p.2+1) 0 δ p.2:=rfl
@[simp] theorem Ke(f:FE)(δ:UE)(L:UH):Cu f δ L=(f δ L).bind fun p=>(Pb p.1 p.2).map fun i=>(i,p.2):=rfl
@[simp] theorem Agx(g:FA)(δ:UE)(L:UH):Oc g δ L=(g δ L).bind fun p=>match p.1 with
 | [.int j]=>if -(2 ^ 62)<=j/\j < 2 ^ 62 then some (.seq (Fb 0 j.toNat),p.2) else none
 | _=>none:=rfl
@[simp] theorem Aad(i j:Int)(L:UH):Bs (.int i) (.int j) L=some (.int (i+j),L):=rfl
@[simp] theorem Y1(i j:Int)(L:UH):Dw (.int i) (.int j) L=some (.int (i - j),L):=rfl
@[simp] theorem Anm(i j:Int)(L:UH):Gn (.int i) (.int j) L=if Ir i j=true then some (.int (i * j),L) else none:=rfl
@[simp] theorem Ane(i j:Int)(L:UH):Wc (.int i) (.int j) L=if T8 i j=true then some (.int (i / j),L) else none:=rfl
@[simp] theorem Anh(i j:Int)(L:UH):Jg (.int i) (.int j) L=if decide (0 < j)=true then some (.int (i % j),L) else none:=rfl
@[simp] theorem Anv(i j:Int)(L:UH):My (.int i) (.int j) L=if U4 i j=true then some (.int (i ^ j.toNat),L) else none:=rfl
@[simp] theorem Aez(i j:Int)(L:UH):D8 (.int i) (.int j) L=some (.bl (decide (i<=j)),L):=rfl
@[simp] theorem Aom(i j:Int)(L:UH):Ahq (.int i) (.int j) L=some (.bl (decide (i < j)),L):=rfl
@[simp] theorem Aek(i j:Int)(L:UH):Qr (.int i) (.int j) L=some (.bl (decide (j < i)),L):=rfl
@[simp] theorem Aol(i j:Int)(L:UH):Aha (.int i) (.int j) L=some (.bl (decide (j<=i)),L):=rfl
@[simp] theorem O6(i j:Int)(L:UH):Bm (.int i) (.int j) L=some (.bl (i == j),L):=rfl
@[simp] theorem Aon(i j:Int)(L:UH):Eh (.int i) (.int j) L=some (.bl (!(i == j)),L):=rfl
@[simp] theorem Aps(i j:Bool)(L:UH):Bm (.bl i) (.bl j) L=some (.bl (i == j),L):=rfl
@[simp] theorem Aos(i j:Bool)(L:UH):Eh (.bl i) (.bl j) L=some (.bl (!(i == j)),L):=rfl
@[simp] theorem Ap9(i j:Bool)(L:UH):Aql false (.bl i) (.bl j) L=some (.bl (i == j),L):=rfl
@[simp] theorem Ud(l:List U)(i:Int)(L:UH):Al (.tup l) (.int i) L=(L2.atI l i).map fun z=>(z,L):=rfl
@[simp] theorem semIx_ref(n:Nat)(i:Int)(L:UH):Al (.ref n) (.int i) L=(A7 L n).bind fun l=>(L2.atI l i).map fun z=>(z,L):=rfl
@[simp] theorem truU_bl(b:Bool)(L:UH):Ae2 (.bl b) L=some b:=rfl
theorem A9{L:UH}{n:Nat}{us:List U}(h:L[n]? = some (.lst us)):A7 L n=some us:=by unfold A7;rw[h]
theorem Et{L:UH}{n:Nat}{us:List U}(h:L[n]? = some (.lst us)):Gd L n=some us:=by unfold Gd;rw[h]
theorem Bq{n:Nat}(h:n<=16777216):Dk n=true:=by unfold Dk sizeLine;exact decide_eq_true (by omega)
theorem Ag1{β:Type}{l:List β}{i:Int}(h0:0<=i)(h:i < l.length):L2.atI l i=l[i.toNat]?:=by
 unfold L2.atI ixN
 rw[if_pos h0,if_pos h];rfl
theorem Abw{i j:Int}(h1:-1000000000000000000<=i)(h2:i<=1000000000000000000):Ir i j=true:=by
 unfold Ir;simp only[jO,dA,decide_eq_true_eq];left;constructor <;> omega
theorem Nh{i j:Int}(h1:-1000000000000000000<=j)(h2:j<=1000000000000000000):Ir i j=true:=by
 unfold Ir;simp only[jO,dA,decide_eq_true_eq];right;constructor <;> omega
theorem W0{i j:Int}(h1:0 < j)(h2:j < 1152921504606846976):T8 i j=true:=by
 unfold T8;simp only[dA,decide_eq_true_eq];exact ⟨h1,h2⟩
noncomputable def Y7(g:FG)(body:FS)(u:U)(δ:UE)(L:UH)(R:UE->UH->Prop):Prop:=∃ δ1 L1,g u δ L=some (δ1,L1)/\∃ δ2 L2,(body δ1 L1=some (.nx δ2,L2)\/body δ1 L1=some (.ct δ2,L2))/\R δ2 L2
theorem R3{it:IU}{g:FG}{body:FS}{us:List U}(P:Nat->UE->UH->Prop)(hat:∀ k δ L,k<=us.length->P k δ L->it.at k L=some us[k]?)
  (step:∀ k u δ L,us[k]? = some u->P k δ L->Y7 g body u δ L (P (k+1))) :
  ∀ (m k:Nat) (δ:UE) (L:UH),us.length < m+k->k<=us.length->P k δ L->∃ δ' L',N3 it g body m k δ L=some (.nx δ',L')/\P us.length δ' L'
 | 0,k,δ,L,h1,h2,_=>by omega
 | m+1,k,δ,L,h1,h2,hP=>by
  have hk:=hat k δ L h2 hP
  unfold N3
  rw[hk]
  cases hu:us[k]? with
  | none=>
   have:k=us.length:=by have:=cS.mp hu;omega
   subst this
   exact ⟨δ,L,rfl,hP⟩
  | some u=>
   have hlt:k < us.length:=(aR.mp hu).1
   obtain ⟨δ1,L1,e1,δ2,L2,e2,hP2⟩:=step k u δ L hu hP
   obtain ⟨δ',L',e3,hP3⟩:=R3 P hat step m (k+1) δ2 L2 (by omega) (by omega) hP2
   refine ⟨δ',L',?_,hP3⟩
   rcases e2 with e2 | e2
   ·simp only[e1,aA,e2,e3]
   ·simp only[e1,aA,e2,e3]
theorem Abx{fi:FI}{g:FG}{body:FS}{us:List U}{δ:UE}{L L0:UH}(P:Nat->UE->UH->Prop)(hi:fi δ L=some (.seq us,L0))(h0:P 0 δ L0)(step:∀ k u δ L,us[k]? = some u->P k δ L->Y7 g body u δ L (P (k+1))) :
  ∃ δ' L',Rc fi g body δ L=some (.nx δ',L')/\P us.length δ' L':=by
 obtain ⟨δ',L',e,h⟩:=R3 (it:=.seq us) (g:=g) (body:=body) (us:=us) P (fun _ _ _ _ _=>rfl) step (us.length+1) 0 δ L0 (by omega) (by omega) h0
 exact ⟨δ',L',by rw[Vn,hi];exact e,h⟩
theorem P6{fi:FI}{g:FG}{body:FS}{us:List U}{n:Nat}{δ:UE}{L L0:UH}(P:Nat->UE->UH->Prop)(hi:fi δ L=some (.ref n,L0))(h0:P 0 δ L0)(hl:∀ k δ L,P k δ L->A7 L n=some us)(step:∀ k u δ L,us[k]? = some u->P k δ L->Y7 g body u δ L (P (k+1))) :
  ∃ δ' L',Rc fi g body δ L=some (.nx δ',L')/\P us.length δ' L':=by
 have hat:∀ k δ L,k<=us.length->P k δ L->(IU.ref n).at k L=some us[k]?:=fun k δ L _ hp=>by
  have:=hl k δ L hp
  unfold A7 at this
  unfold IU.at
  simp only
  split at this
  ·rename_i e;cases this;first | rw[e] | rfl
  ·rename_i e;cases this;first | rw[e] | rfl
  ·cases this
 have hsz:(IU.ref n).size L0=us.length:=by
  have:=hl 0 δ L0 h0
  unfold A7 at this
  unfold IU.size
  simp only
  split at this
  ·rename_i e;cases this;first | rw[e] | rfl
  ·rename_i e;cases this;first | rw[e] | rfl
  ·cases this
 obtain ⟨δ',L',e,h⟩:=R3 (it:=.ref n) (g:=g) (body:=body) (us:=us) P hat step (us.length+1) 0 δ L0 (by omega) (by omega) h0
 exact ⟨δ',L',by rw[Vn,hi];simp only[aA,hsz];exact e,h⟩
theorem Ej{L:UH}{n:Nat}{us:List U}(h:A7 L n=some us):Pb (.ref n) L=some (.ref n):=by
 unfold A7 at h
 unfold Pb
 simp only
 split at h
 ·rename_i e;first | rw[e] | rfl
 ·rename_i e;first | rw[e] | rfl
 ·cases h
theorem Sn{lo:Int}{n k:Nat}{u:U}(h:(Fb lo n)[k]? = some u):k < n/\u = .int (lo+k):=by
 unfold Fb at h
 rw[bV] at h
 by_cases hk:k < n
 ·rw[nO hk] at h
  simp at h
  exact ⟨hk,h.symm⟩
 ·rw[dM (by simpa using hk)] at h
  simp at h
theorem Rq{lo:Int}{n:Nat}:(Fb lo n).length=n:=by simp[Fb]
@[simp] theorem Apq(g:FA)(δ:UE)(L:UH):Aot g δ L=(g δ L).bind fun p=>match p.1 with
 | [.ref n]=>(A7 p.2 n).map fun _=>(.enm n,p.2)
 | _=>none:=rfl
@[simp] theorem Aqr(g:FA)(δ:UE)(L:UH):Ary g δ L=(g δ L).bind fun p=>match p.1 with
 | [.ref n,.ref m]=>(A7 p.2 n).bind fun _=>(A7 p.2 m).map fun _=>(.zip2 n m,p.2)
 | _=>none:=rfl
@[simp] theorem Aqt(f:FE)(δ:UE)(L:UH):Aq1 f δ L=(f δ L).bind fun p=>match p.1 with | .ref n=>(A7 p.2 n).map fun l=>(.ref p.2.length,p.2++[.lst l.reverse]) | .tup l=>some (.tup l.reverse,p.2) | _=>none:=rfl
@[simp] theorem Aqe(g:FA)(δ:UE)(L:UH):Aln g δ L=(g δ L).bind fun p=>match p.1 with
 | [.int i,.int j]=>if (-(2 ^ 62)<=i/\i < 2 ^ 62)/\(-(2 ^ 62)<=j/\j < 2 ^ 62) then some (.seq (Fb i (j - i).toNat),p.2) else none
 | _=>none:=by first | rfl | (unfold Aln;rfl)
theorem Ry{it:IU}{g:FG}{tt:Option FT}{fe:FE}{us:List U}(P:Nat->List U->UE->UH->Prop)(hat:∀ k acc δ L,k<=us.length->P k acc δ L->it.at k L=some us[k]?)
  (step:∀ k u acc δ L,us[k]? = some u->P k acc δ L->∃ δ1 L1,g u δ L=some (δ1,L1)/\∃ b L2,Ig tt δ1 L1=some (b,L2)/\(b=true->∃ r L3,fe δ1 L2=some (r,L3)/\acc.length < 16777216/\P (k+1) (acc++[r]) δ1 L3)/\(b=false->P (k+1) acc δ1 L2)) :
  ∀ (m k:Nat) (acc:List U) (δ:UE) (L:UH),us.length < m+k->k<=us.length->P k acc δ L->∃ ys δ' L',Sl it g tt fe m k acc δ L=some (ys,L')/\P us.length ys δ' L'
 | 0,k,acc,δ,L,h1,h2,_=>by omega
 | m+1,k,acc,δ,L,h1,h2,hP=>by
  have hk:=hat k acc δ L h2 hP
  unfold Sl
  rw[hk]
  cases hu:us[k]? with
  | none=>
   have:k=us.length:=by have:=cS.mp hu;omega
   subst this
   exact ⟨acc,δ,L,rfl,hP⟩
  | some u=>
   have hlt:k < us.length:=(aR.mp hu).1
   obtain ⟨δ1,L1,e1,b,L2,e2,h3,h4⟩:=step k u acc δ L hu hP
   cases b with
   | true=>
    obtain ⟨r,L3,e3,hl,hP2⟩:=h3 rfl
    obtain ⟨ys,δ',L',e4,hP3⟩:=Ry P hat step m (k+1) (acc++[r]) δ1 L3 (by omega) (by omega) hP2
    refine ⟨ys,δ',L',?_,hP3⟩
    have hz:decide (acc.length < sizeLine)=true:=decide_eq_true (by unfold sizeLine;omega)
    simp only[e1,aA,e2,e3,if_true,hz,e4]
   | false=>
    obtain ⟨ys,δ',L',e4,hP3⟩:=Ry P hat step m (k+1) acc δ1 L2 (by omega) (by omega) (h4 rfl)
    refine ⟨ys,δ',L',?_,hP3⟩
    simp only[e1,aA,e2,e4,bT,if_false]
theorem Afi{ix:List (Option Nat)}{fi:FI}{it:IU}{g:FG}{tt:Option FT}{fe:FE}{us:List U}{δ:UE}{L L0:UH}(P:Nat->List U->UE->UH->Prop)(hi:fi δ L=some (it,L0))(hsz:us.length<=it.size L0)(h0:P 0 [] (Ib ix δ) L0)
  (hat:∀ k acc δ L,k<=us.length->P k acc δ L->it.at k L=some us[k]?)
  (step:∀ k u acc δ L,us[k]? = some u->P k acc δ L->∃ δ1 L1,g u δ L=some (δ1,L1)/\∃ b L2,Ig tt δ1 L1=some (b,L2)/\(b=true->∃ r L3,fe δ1 L2=some (r,L3)/\acc.length < 16777216/\P (k+1) (acc++[r]) δ1 L3)/\(b=false->P (k+1) acc δ1 L2)) :
  ∃ ys δ' L',By ix fi g tt fe δ L=some (.ref L'.length,L'++[.lst ys])/\P us.length ys δ' L':=by
 obtain ⟨ys,δ',L',e,h⟩:=Ry P hat step (it.size L0+1) 0 [] (Ib ix δ) L0 (by omega) (by omega) h0
 refine ⟨ys,δ',L',?_,h⟩
 unfold By
 simp only[hi,aA,e,aD]
theorem Se{n k:Nat}{L:UH}{us:List U}(h:A7 L n=some us):(IU.ref n).at k L=some us[k]?:=by
 unfold A7 at h
 unfold IU.at
 simp only
 split at h
 ·rename_i e;cases h;first | rw[e] | rfl
 ·rename_i e;cases h;first | rw[e] | rfl
 ·cases h
theorem K8{n:Nat}{L:UH}{us:List U}(h:A7 L n=some us):(IU.ref n).size L=us.length:=by
 unfold A7 at h
 unfold IU.size
 simp only
 split at h
 ·rename_i e;cases h;first | rw[e] | rfl
 ·rename_i e;cases h;first | rw[e] | rfl
 ·cases h
theorem Ea{β:Type}{ix:List (Option Nat)}{fi:FI}{it:IU}{g:FG}{tt:Option FT}{fe:FE}{δ:UE}{L L0:UH}(as:List β)(rep:β->U)(f:β->Bool)(e:β->U)(E:UE->Prop)(hi:fi δ L=some (it,L0))(hsz:as.length<=it.size L0)(hl:as.length < 16777216)(h0:E (Ib ix δ))
  (hat:∀ k x,it.at k (L0++x)=some (as.map rep)[k]?)
  (step:∀ (a:β) δ x,a∈as->E δ->∃ δ1,g (rep a) δ (L0++x)=some (δ1,L0++x)/\E δ1/\∃ y,Ig tt δ1 (L0++x)=some (f a,L0++x++y)/\(f a=true->∃ z,fe δ1 (L0++x++y)=some (e a,L0++x++y++z))) :
  ∃ x,By ix fi g tt fe δ L=some (.ref (L0++x).length,L0++x++[.lst ((as.filter f).map e)]):=by
 obtain ⟨ys,δ',L',e1,⟨h1,h2,x,rfl⟩,h3⟩:=Afi (us:=as.map rep) (ix:=ix) (tt:=tt) (g:=g) (fe:=fe) (δ:=δ) (fun k acc δ L=>(acc=((as.take k).filter f).map e/\E δ/\∃ x,L=L0++x)/\acc.length<=k) hi (by simpa using hsz) ⟨⟨rfl,h0,[],by simp⟩,by simp⟩
  (fun k acc δ L _ zz=>by obtain ⟨⟨_,_,x,hx⟩,_⟩:=zz;rw[hx];exact hat k x)
  (fun k u acc δ L hu zz=>by
   obtain ⟨⟨ha,hE,x,hx⟩,hlen⟩:=zz
   subst hx
   rw[bV] at hu
   obtain ⟨a,hk,rfl⟩:=aH.mp hu
   have hk':=(aR.mp hk).1
   obtain ⟨δ1,g1,E1,y,t1,r1⟩:=step a δ x (fG hk) hE
   have ht:as.take (k+1)=as.take k++[a]:=by
    rw[lH,hk];rfl
   refine ⟨δ1,_,g1,f a,_,t1,fun hf=>?_,fun hf=>?_⟩
   ·obtain ⟨z,q⟩:=r1 hf
    refine ⟨_,_,q,by omega,⟨?_,E1,x++y++z,by simp⟩,by simp;omega⟩
    rw[ha,ht];simp[hf]
   ·refine ⟨⟨?_,E1,x++y,by simp⟩,by omega⟩
    rw[ha,ht];simp[hf])
 refine ⟨x,?_⟩
 rw[e1,h1]
 simp
theorem Fo{L x:UH}{n:Nat}{us:List U}(h:A7 L n=some us):A7 (L++x) n=some us:=by
 unfold A7 at h ⊢
 cases hn:L[n]? with
 | none=>rw[hn] at h;cases h
 | some o=>rw[bJ (aR.mp hn).1,hn];rw[hn] at h;exact h
noncomputable def Pl:Nat->U->Prop
 | _,.non=>True
 | _,.int _=>True
 | _,.str x=>eK x=true
 | n+1,.tup l=>∀ u∈l,Pl n u
 | _,_=>False
mutual
noncomputable def pd:U->qI
 | .non=>.none
 | .bl b=>.bool b
 | .int i=>.int i
 | .str x=>.str x
 | .tup l=>.tuple (pds l)
 | .ref _=>.none
noncomputable def pds:List U->List qI
 | []=>[]
 | u::r=>pd u::pds r
end
theorem Om{n:Nat}{l:List U}:Pl (n+1) (.tup l)↔∀ u∈l,Pl n u:=by rw[Pl]
theorem P4{L:UH}{n m:Nat}(ih:∀ u,Pl n u->toP L m u=some (pd u)):∀ l:List U,(∀ u∈l,Pl n u)->mapO (toP L m) l=some (pds l)
 | [],_=>rfl
 | u::r,h=>by
  simp only[mapO,ih u (h u (cD ..)),P4 ih r (fun x hx=>h x (bI _ hx)),aA,aD,pds]
theorem R8(L:UH):∀ (n m:Nat) (u:U),n < m->Pl n u->toP L m u=some (pd u)
 | n,0,u,h,_=>by omega
 | n,m+1,.non,_,_=>rfl
 | n,m+1,.int _,_,_=>rfl
 | n,m+1,.str _,_,_=>rfl
 | n,m+1,.bl _,_,h=>by cases n <;> exact absurd h (by simp[Pl])
 | n,m+1,.ref _,_,h=>by cases n <;> exact absurd h (by simp[Pl])
 | 0,m+1,.tup l,_,h=>absurd h (by simp[Pl])
 | n+1,m+1,.tup l,hm,h=>by
  have:=P4 (L:=L) (n:=n) (m:=m) (fun u hu=>R8 L n m u (by omega) hu) l (Om.mp h)
  show (mapO (toP L m) l).map qI.tuple=_
  rw[this]
  rfl
theorem P5{n:Nat}(ih:∀ u,Pl n u->fA (pd u)=true/\fU (pd u)<=n):∀ l:List U,(∀ u∈l,Pl n u)->oZ (pds l)=true/\pV (pds l)<=n
 | [],_=>⟨rfl,kY _⟩
 | u::r,h=>by
  obtain ⟨a1,a2⟩:=ih u (h u (cD ..))
  obtain ⟨b1,b2⟩:=P5 ih r (fun x hx=>h x (bI _ hx))
  refine ⟨by simp[pds,oZ,a1,b1],?_⟩
  simp only[pds,pV]
  omega
theorem Qz:∀ (n:Nat) (u:U),Pl n u->fA (pd u)=true/\fU (pd u)<=n
 | n,.non,_=>by simp[pd,fA,fU]
 | n,.int _,_=>by simp[pd,fA,fU]
 | n,.str x,h=>by
  have h':eK x=true:=by cases n <;> simpa[Pl] using h
  simp[pd,fA,fU,h']
 | n,.bl _,h=>by cases n <;> exact absurd h (by simp[Pl])
 | n,.ref _,h=>by cases n <;> exact absurd h (by simp[Pl])
 | 0,.tup l,h=>absurd h (by simp[Pl])
 | n+1,.tup l,h=>by
  obtain ⟨a,b⟩:=P5 (fun u hu=>Qz n u hu) l (Om.mp h)
  simp only[pd,fA,fU]
  exact ⟨a,by omega⟩
theorem Si{n:Nat}(ih:∀ u w,Pl n u->Pl n w->(cW (pd u) (pd w)=true↔u=w)):∀ l m:List U,(∀ u∈l,Pl n u)->(∀ u∈m,Pl n u)->(hU (pds l) (pds m)=true↔l=m)
 | [],[],_,_=>by simp[pds,hU]
 | [],_::_,_,_=>by simp[pds,hU]
 | _::_,[],_,_=>by simp[pds,hU]
 | u::l,w::m,h1,h2=>by
  simp only[pds,hU,dA,ih u w (h1 u (cD ..)) (h2 w (cD ..)),Si ih l m (fun x hx=>h1 x (bI _ hx)) (fun x hx=>h2 x (bI _ hx)),jQ]
theorem Ac4:∀ (n:Nat) (u w:U),Pl n u->Pl n w->(cW (pd u) (pd w)=true↔u=w)
 | n,.bl _,_,h,_=>by cases n <;> exact absurd h (by simp[Pl])
 | n,.ref _,_,h,_=>by cases n <;> exact absurd h (by simp[Pl])
 | n,_,.bl _,_,h=>by cases n <;> exact absurd h (by simp[Pl])
 | n,_,.ref _,_,h=>by cases n <;> exact absurd h (by simp[Pl])
 | 0,.tup _,_,h,_=>absurd h (by simp[Pl])
 | 0,_,.tup _,_,h=>absurd h (by simp[Pl])
 | n+1,.tup l,.tup m,h1,h2=>by
  simp only[pd,cW,U.tup.injEq]
  exact Si (fun u w=>Ac4 n u w) l m (Om.mp h1) (Om.mp h2)
 | n,.non,.non,_,_=>by simp[pd,cW]
 | n,.non,.int _,_,_=>by simp[pd,cW]
 | n,.non,.str _,_,_=>by simp[pd,cW]
 | n+1,.non,.tup _,_,_=>by simp[pd,cW]
 | n,.int _,.non,_,_=>by simp[pd,cW]
 | n,.int _,.int _,_,_=>by simp[pd,cW]
 | n,.int _,.str _,_,_=>by simp[pd,cW]
 | n+1,.int _,.tup _,_,_=>by simp[pd,cW]
 | n,.str _,.non,_,_=>by simp[pd,cW]
 | n,.str _,.int _,_,_=>by simp[pd,cW]
 | n,.str _,.str _,_,_=>by simp[pd,cW]
 | n+1,.str _,.tup _,_,_=>by simp[pd,cW]
 | n+1,.tup _,.non,_,_=>by simp[pd,cW]
 | n+1,.tup _,.int _,_,_=>by simp[pd,cW]
 | n+1,.tup _,.str _,_,_=>by simp[pd,cW]
noncomputable def eqB(u w:U):Bool:=cW (pd u) (pd w)
theorem Akp{u w:U}(h1:Pl 6 u)(h2:Pl 6 w):eqB u w=true↔u=w:=Ac4 6 u w h1 h2
theorem N4{u:U}(h1:Pl 6 u):eqB u u=true:=(Akp h1 h1).mpr rfl
theorem Ah9{u w:U}(L:UH)(h1:Pl 6 u)(h2:Pl 6 w):eqP u w L=some (eqB u w):=by
 obtain ⟨a1,a2⟩:=Qz 6 u h1
 obtain ⟨b1,b2⟩:=Qz 6 w h2
 have s1:eR (pd u)=true:=by unfold eR;rw[a1];simp;omega
 have s2:eR (pd w)=true:=by unfold eR;rw[b1];simp;omega
 unfold eqP
 simp only[R8 L 6 8 u (by decide) h1,R8 L 6 8 w (by decide) h2,aA,s1,s2,and_self,if_true,eqB]
theorem Nm{u w:U}(L:UH)(h1:Pl 6 u)(h2:Pl 6 w):Bm u w L=some (.bl (eqB u w),L):=by unfold Bm;rw[Ah9 L h1 h2];rfl
theorem Ww{u w:U}(L:UH)(h1:Pl 6 u)(h2:Pl 6 w):Eh u w L=some (.bl (!eqB u w),L):=by unfold Eh;rw[Ah9 L h1 h2];rfl
noncomputable def Apz(us ws:List U):Bool:=hU (pds us) (pds ws)
theorem Ajk{n m:Nat}{us ws:List U}{L:UH}(e1:A7 L n=some us)(e2:A7 L m=some ws)(h1:∀ u∈us,Pl 6 u)(h2:∀ u∈ws,Pl 6 u):eqP (.ref n) (.ref m) L=some (Apz us ws):=by
 obtain ⟨a1,a2⟩:=P5 (Qz 6) us h1
 obtain ⟨b1,b2⟩:=P5 (Qz 6) ws h2
 have s1:eR (.list (pds us))=true:=by unfold eR;simp[fA,fU,a1];omega
 have s2:eR (.list (pds ws))=true:=by unfold eR;simp[fA,fU,b1];omega
 have t1:toP L 8 (.ref n)=some (.list (pds us)):=by
  show (A7 L n).bind (fun l=>(mapO (toP L 7) l).map rJ)=_
  rw[e1]
  simp only[aA,P4 (fun u hu=>R8 L 6 7 u (by decide) hu) us h1,aD]
 have t2:toP L 8 (.ref m)=some (.list (pds ws)):=by
  show (A7 L m).bind (fun l=>(mapO (toP L 7) l).map rJ)=_
  rw[e2]
  simp only[aA,P4 (fun u hu=>R8 L 6 7 u (by decide) hu) ws h2,aD]
 unfold eqP
 simp only[t1,t2,aA,s1,s2,and_self,if_true,cW,Apz]
theorem Pl.int(n:Nat)(i:Int):Pl n (.int i):=by cases n <;> exact trivial
theorem Akx{g:FA}{δ:UE}{L L':UH}{j:Int}(hg:g δ L=some ([.int j],L'))(h0:0<=j)(h1:j < 1000000):Oc g δ L=some (.seq (Fb 0 j.toNat),L'):=by
 rw[Agx,hg]
 simp only[aA]
 rw[if_pos ⟨by omega,by omega⟩]
theorem Yr{g:FA}{δ:UE}{L L':UH}{n:Nat}(hg:g δ L=some ([.int n],L'))(h1:n < 1000000):Oc g δ L=some (.seq (Fb 0 n),L'):=by
 have:=Akx hg (by omega) (by omega)
 rwa [fH] at this
end MR
namespace Lw
open PySem L2 MR
end Lw
namespace MR
open PySem PySem.Spec PyProof.Rows L2
section
variable {X:Cx}{pins:List (Addr×Obj)}{σ:L2.St}{H H':Hp}{s:aI}
theorem Inv.freeze{a:Addr}{o:Obj}{kvs:List (Key×V)}(I:L2.Inv X pins σ H s)(e:H a=some (.dK kvs))(ho:s.heap.get? a=some o):L2.Inv X pins σ (upd H a (.frz o (.dK kvs))) s:=by
 have tp:∀ b u,H b=some u->(∀ ks,u≠.dK ks)->upd H a (.frz o (.dK kvs)) b=some u:=fun b u q n=>by
  rw[Bc (fun z=>by subst z;rw[e] at q;cases q;exact n _ rfl)];exact q
 refine I.un (t':=s.toks) (h':=s.heap) ⟨fun b ob q n _ _=>q,fun b ob q n _ _=>⟨ob.slots,q⟩,fun b ob q n _=>?_,fun b ob q _=>⟨ob,q⟩,fun b xs q=>tp b _ q fun ks z=>(nomatch z),fun b ob u q=>tp b _ q fun ks z=>(nomatch z),fun b ps q=>⟨#[],by rw[tp b _ q fun ks z=>(nomatch z)];simp⟩⟩ fun b u q=>?_
 ·rw[Bc (fun z=>by subst z;rw[e] at n;cases n)];exact n
 ·have own:∀ c,H c=some (.own b)->upd H a (.frz o (.dK kvs)) c=some (.own b):=fun c z=>tp c _ z fun ks z=>(nomatch z)
  have tups:∀ c xs,H c=some (.tup xs)->upd H a (.frz o (.dK kvs)) c=some (.tup xs):=fun c xs z=>tp c _ z fun ks z=>(nomatch z)
  by_cases hb:b=a
  ·subst hb
   rw[upd_same] at q
   cases q
   exact ⟨ho,(I.hok b _ e).stay (fun _ _ _ z=>z) own tups⟩
  ·rw[Bc hb] at q
   exact (I.hok b u q).stay (fun _ _ _ z=>z) own tups
noncomputable def Thaw(H H' H2:Hp):Prop:=∀ b,H2 b=H' b\/∃ o vs,H' b=some (.frz o (.dK vs))/\H2 b=some (.dK vs)/\∀ o u,H b≠some (.frz o u)
theorem Thaw.stay{H2:Hp}(t:Thaw H H' H2){b:Addr}{u:Option HO}(e:H' b=u)(n:∀ o ks,u≠some (.frz o (.dK ks))):H2 b=u:=by
 rcases t b with z | ⟨o,vs,z,_⟩
 ·rw[z];exact e
 ·rw[e] at z;exact absurd z (n _ _)
theorem Inv.thaw{pins0:List (Addr×Obj)}{σ0:L2.St}{s0:aI}{H2:Hp}(I0:L2.Inv X pins0 σ0 H s0)(I:L2.Inv X pins σ H' s)(t:Thaw H H' H2):L2.Inv X pins σ H2 s:=by
 have nn:∀ b,H' b=none->H2 b=none:=fun b e=>t.stay e fun _ _ z=>(nomatch z)
 refine ⟨I.ok,I.os,I.bare,⟨I.base.keep,I.base.slot,fun b o e n hx=>nn b (I.base.free b o e n hx),I.base.there,fun b xs e=>t.stay (I.base.tups b xs e) fun _ _ z=>(nomatch z),fun b o u e=>?_,fun b ps e=>?_⟩,I.loc,I.cell,nn _ I.free,fun x c e=>nn _ (I.freeC x c e),fun p hp=>?_,fun a o e=>?_,I.len⟩
 ·have h0:=I0.base.frzs b o u e
  rcases t b with z | ⟨o',vs,_,_,z⟩
  ·rw[z];exact I.base.frzs b o u e
  ·exact absurd h0 (z _ _)
 ·obtain ⟨more,q⟩:=I.base.tbls b ps e
  exact ⟨more,t.stay q fun _ _ z=>(nomatch z)⟩
 ·obtain ⟨h1,h2,h3⟩:=I.pin p hp
  exact ⟨h1,nn _ h2,h3⟩
 ·have own:∀ c,H' c=some (.own a)->H2 c=some (.own a):=fun c z=>t.stay z fun _ _ z=>(nomatch z)
  have tups:∀ c xs,H' c=some (.tup xs)->H2 c=some (.tup xs):=fun c xs z=>t.stay z fun _ _ z=>(nomatch z)
  rcases t a with z | ⟨o',vs,z1,z2,_⟩
  ·rw[z] at e
   exact (I.hok a o e).stay (fun _ _ _ z=>z) own tups
  ·rw[z2] at e
   cases e
   exact (show ObjOk X.prog X.w H' s.heap a (.dK vs) from (I.hok a _ z1).2).stay (fun _ _ _ z=>z) own tups
theorem Aja{e:Expr}{t:TE}(h:PE X e t):PE X e (fun σ H Q=>t σ H fun x H'=>∃ H2,Thaw H H' H2/\Q x H2):=fun pins s σ H Q I q=>
 thn (h pins s σ H _ I q) fun v s1 zz=>by obtain ⟨x,H1,I1,r,H2,th,q⟩:=zz;exact ⟨x,H2,Inv.thaw I I1 th,r,q⟩
end
section
variable {K:aC}{H H':Hp}{α:List Addr}
mutual
theorem RepU.via(g:∀ a xs,SqT K H a xs->SqT K H' a xs):∀ (u:U) (v:V),RepU K H α u v->RepU K H' α u v
 | .non,_,h=>h
 | .bl _,_,h=>h
 | .int _,_,h=>h
 | .str _,_,h=>h
 | .tup l,v,h=>by
  unfold RepU at h ⊢
  obtain ⟨a,xs,e,s,r⟩:=h
  exact ⟨a,xs,e,g _ _ s,RepL.via g l xs r⟩
 | .ref n,v,h=>by
  unfold RepU at h ⊢
  exact h
theorem RepL.via(g:∀ a xs,SqT K H a xs->SqT K H' a xs):∀ (l:List U) (xs:List V),RepL K H α l xs->RepL K H' α l xs
 | [],xs,h=>h
 | u::l,xs,h=>by
  unfold RepL at h ⊢
  obtain ⟨x,r,e,h1,h2⟩:=h
  exact ⟨x,r,e,RepU.via g u x h1,RepL.via g l r h2⟩
end
end
noncomputable def Lm:Option HU->Option HU->Option HU
 | some (.dic _),some (.rod kvs)=>some (.dic kvs)
 | _,x=>x
noncomputable def Ed:UH->UH->UH
 | [],L'=>L'
 | _::_,[]=>[]
 | .dic _::L,.rod kvs::L'=>.dic kvs::Ed L L'
 | _::L,x::L'=>x::Ed L L'
theorem Nk:∀ (L L':UH),(Ed L L').length=L'.length
 | [],L'=>by unfold Ed;rfl
 | a::L,[]=>by unfold Ed;rfl
 | a::L,x::L'=>by
  cases a <;> cases x <;> simp[Ed,Nk L L']
theorem Q1:∀ (L L':UH) (n:Nat),(Ed L L')[n]? = Lm L[n]? L'[n]?
 | [],L',n=>by
  unfold Ed
  cases h:L'[n]? <;> simp[Lm]
 | a::L,[],n=>by
  unfold Ed
  cases h:(a::L)[n]? with
  | none=>simp[Lm]
  | some w=>cases w <;> simp[Lm]
 | a::L,x::L',0=>by
  cases a <;> cases x <;> simp[Ed,Lm]
 | a::L,x::L',n+1=>by
  have:=Q1 L L' n
  cases a <;> cases x <;> simpa[Ed] using this
theorem Sj{a:Option HU}{x y:HU}(h:Lm a (some x)=some y):y.isRo=x.isRo/\(x.isRo=true->y=x):=by
 unfold Lm at h
 split at h
 ·rename_i h1 h2
  cases h2;cases h
  exact ⟨rfl,fun z=>(nomatch z)⟩
 ·cases h;exact ⟨rfl,fun _=>rfl⟩
theorem Lg{K:aC}{H H':Hp}{α α':List Addr}{L L':UH}(A:Abs K H α L)(g:Gr H α H' α')(A':Abs K H' α' L') :
  ∃ H2,Thaw H H' H2/\Gr H α H2 α'/\Abs K H2 α' (Ed L L')/\(∀ u v,RepU K H' α' u v->RepU K H2 α' u v):=by
 classical
 let T:Addr->Prop:=fun b=>∃ (n:Nat) (kvs kws:List (Key×U)),α'[n]? = some b/\L[n]? = some (HU.dic kvs)/\L'[n]? = some (HU.rod kws)
 let H2:Hp:=fun b=>if T b then (match H' b with | some (.frz o (.dK vs))=>some (.dK vs) | x=>x) else H' b
 have Tfrz:∀ b,T b->∃ o vs,H' b=some (.frz o (.dK vs)):=by
  rintro b ⟨n,kvs,kws,e1,e2,e3⟩
  obtain ⟨o,vs,q,_⟩:=A'.rep n b _ e1 e3
  exact ⟨o,vs,q⟩
 have Told:∀ b,T b->∃ vs,H b=some (.dK vs):=by
  rintro b ⟨n,kvs,kws,e1,e2,e3⟩
  obtain ⟨a,ea,vs,q,_⟩:=A.addr e2
  have:=g.at ea
  rw[e1] at this;cases this
  exact ⟨vs,q⟩
 have on:∀ b o vs,T b->H' b=some (.frz o (.dK vs))->H2 b=some (.dK vs):=fun b o vs t e=>by
  show (if T b then _ else _)=_
  rw[if_pos t,e]
 have off:∀ b,¬ T b->H2 b=H' b:=fun b t=>by
  show (if T b then _ else _)=_
  rw[if_neg t]
 have th:Thaw H H' H2:=fun b=>by
  by_cases t:T b
  ·obtain ⟨o,vs,e⟩:=Tfrz b t
   obtain ⟨ws,e0⟩:=Told b t
   exact .inr ⟨o,vs,e,on b o vs t e,fun o u z=>by rw[e0] at z;cases z⟩
  ·exact .inl (off b t)
 have sq:∀ a xs,SqT K H' a xs->SqT K H2 a xs:=fun a xs h=>by
  rcases h with (h | ⟨o,h⟩) | h
  ·exact .inl (.inl (th.stay h fun _ _ z=>(nomatch z)))
  ·exact .inl (.inr ⟨o,th.stay h fun _ _ z=>(nomatch z)⟩)
  ·exact .inr h
 have gr:Gr H α H2 α':=⟨g.pre,fun b xs q=>th.stay (g.st.1 b xs q) fun _ _ z=>(nomatch z),fun b o u q=>by
  rcases th b with z | ⟨_,_,_,_,z⟩
  ·rw[z];exact g.st.2 b o u q
  ·exact absurd q (z _ _)⟩
 refine ⟨H2,th,gr,⟨?_,fun i j a o o' e1 e2 e3 e4=>?_,fun i a o e1 e2=>?_⟩,fun u v r=>RepU.via sq u v r⟩
 ·rw[Nk];exact A'.len
 ·rw[Q1] at e3 e4
  cases q1:L'[i]? with
  | none=>rw[q1] at e3;unfold Lm at e3;split at e3 <;> cases e3;rename_i z;cases z
  | some x1=>
   cases q2:L'[j]? with
   | none=>rw[q2] at e4;unfold Lm at e4;split at e4 <;> cases e4;rename_i z;cases z
   | some x2=>
    rw[q1] at e3
    rw[q2] at e4
    rw[(Sj e3).1,(Sj e4).1]
    exact A'.inj i j a x1 x2 e1 e2 q1 q2
 ·rw[Q1] at e2
  cases q1:L'[i]? with
  | none=>rw[q1] at e2;unfold Lm at e2;split at e2 <;> cases e2;rename_i z;cases z
  | some x1=>
   rw[q1] at e2
   have hr:=A'.rep i a x1 e1 q1
   by_cases t:T a
   ·obtain ⟨o',vs,ef⟩:=Tfrz a t
    obtain ⟨n,kvs,kws,n1,n2,n3⟩:=id t
    rcases A'.inj i n a x1 _ e1 n1 q1 n3 with z | z | z
    ·subst z
     rw[q1] at n3;cases n3
     rw[n2] at e2
     cases e2
     obtain ⟨o2,ws,f1,f2,f3⟩:=hr
     exact ⟨ws,on a o2 ws t f1,f2,RepL.via sq _ _ f3⟩
    ·have:=(Sj e2).2 z
     subst this
     cases o with
     | ro us=>
      obtain ⟨xs,f1,f2⟩:=hr
      refine ⟨xs,?_,RepL.via sq _ _ f2⟩
      rcases f1 with ⟨o2,f1⟩ | f1
      ·rw[ef] at f1;cases f1
      ·exact .inr f1
     | _=>cases z
    ·cases z
   ·have same:o=x1:=by
     unfold Lm at e2
     split at e2
     ·rename_i h1 h2
      cases h2
      exact absurd ⟨i,_,_,e1,h1,q1⟩ t
     ·cases e2;rfl
    subst same
    have ea:=off a t
    cases o with
    | lst us=>obtain ⟨xs,f1,f2⟩:=hr;exact ⟨xs,by rw[ea];exact f1,RepL.via sq _ _ f2⟩
    | ro us=>
     obtain ⟨xs,f1,f2⟩:=hr
     refine ⟨xs,?_,RepL.via sq _ _ f2⟩
     rcases f1 with ⟨o2,f1⟩ | f1
     ·exact .inl ⟨o2,by rw[ea];exact f1⟩
     ·exact .inr f1
    | dic kvs=>obtain ⟨vs,f1,f2,f3⟩:=hr;exact ⟨vs,by rw[ea];exact f1,f2,RepL.via sq _ _ f3⟩
    | rod kvs=>obtain ⟨o2,vs,f1,f2,f3⟩:=hr;exact ⟨o2,vs,by rw[ea];exact f1,f2,RepL.via sq _ _ f3⟩
    | ins C fs=>obtain ⟨Ca,dx,vs,n,f1,f2,f3⟩:=hr;exact ⟨Ca,dx,vs,n,by rw[ea];exact f1,f2,RepL.via sq _ _ f3⟩
    | exc C fr fs=>obtain ⟨Ca,dd,vs,n,f1,f0,f2,f3⟩:=hr;exact ⟨Ca,dd,vs,n,by rw[ea];exact f1,f0.stay fun b o ws q=>th.stay q fun _ _ z=>(nomatch z),f2,RepL.via sq _ _ f3⟩
noncomputable def Jd(f:FE):FE:=fun δ L=>(f δ L).map fun p=>(p.1,Ed L p.2)
theorem Qc{X:Cx}{e:Expr}{f:FE}(h:PEF X e f):PEF X e (Jd f):=by
 refine PE.imp (Aja h) ?_
 rintro σ H Q ⟨α,δ,L,A,S,z,L3,e,q⟩
 obtain ⟨⟨z',L1⟩,e1,e⟩:=aH.mp e
 cases e
 refine ⟨α,δ,L,A,S,z',L1,e1,fun v H1 α1 g1 A1 r1=>?_⟩
 obtain ⟨H2,th,g2,A2,r2⟩:=Lg A g1 A1
 exact ⟨H2,th,q v H2 α1 g2 A2 (r2 _ _ r1)⟩
structure DObj(P:bN)(w:bW)(o:Obj)(kvs:List (Key×V))(vs:List (Key×aE))(ep:Nat):Prop where
 rel:KV kvs vs
 at_:∀ (h:Heap) (d:Addr),h.get? d=some o->h.DictAt (Co P w) d vs ep
noncomputable def Itv(d:Addr)(o:Obj)(xs:List V):It:=⟨fun i H=>(∃ u,H d=some (.frz o u))/\i < xs.length,fun i H x H'=>H'=H/\xs[i]? = some x,fun i H=>(∃ u,H d=some (.frz o u))/\xs.length<=i⟩
noncomputable def Iti(d:Addr)(o:Obj)(kvs:List (Key×V)):It:=⟨fun i H=>(∃ u,H d=some (.frz o u))/\i < kvs.length,fun i H x H'=>∃ p kv,H p=none/\x = .ref p/\kvs[i]? = some kv/\H'=upd H p (.tup [kV kv.1,kv.2]),fun i H=>(∃ u,H d=some (.frz o u))/\kvs.length<=i⟩
theorem Aki{P:bN}{w:bW}{k:Key}{v:aE}(h:(Co P w).is k v=true):RelV (kV k) v:=by
 rw[Yy] at h
 rcases C8 h with ⟨i,t,rfl,rfl⟩ | ⟨x,t,rfl,rfl⟩
 ·exact ⟨t,rfl⟩
 ·exact ⟨t,rfl⟩
theorem KV.at_:∀ {kvs:List (Key×V)} {vs:List (Key×aE)} {i:Nat} {p:Key×aE},KV kvs vs->vs[i]? = some p->∃ q,kvs[i]? = some q/\q.1=p.1/\RelV q.2 p.2
 | _,_,i,p,.nil,e=>by simp at e
 | _,_,0,p,.cons r t,e=>by simp at e;subst e;exact ⟨_,rfl,r⟩
 | _,_,i+1,p,.cons r t,e=>by simpa using KV.at_ (i:=i) t (by simpa using e)
section
variable {P:bN}{w:bW}{K:aC}{d it:Addr}{o:Obj}{kvs:List (Key×V)}{vs:List (Key×aE)}{ep:Nat}
theorem Aeo{tg:Expr}(D:DObj P w o kvs vs ep):Turn P w K tg (Itv d o (kvs.map fun kv=>kv.2)) [it] it (fun i h=>h.IsValIter it d i vs.length ep) where
 mem:=by simp
 obj:=fun i h st b hb=>by
  have e:b=it:=by simpa using hb
  subst e
  obtain ⟨o,e,c,d⟩:=st
  exact ⟨o,e,fun v z=>by rw[d] at z;cases z⟩
 keep:=fun i h h' st k=>st.at fun o e=>k it (by simp) o e
 item:=by
  intro X hP hw hK hc i pins s σ H E I hf st hg
  subst hP hw hK
  obtain ⟨⟨u,hd⟩,hi⟩:=hg
  have da:=D.at_ s.heap d (I.hok d _ hd).1
  have hl:=KV.length D.rel
  have hi':i < vs.length:=by rw[<- hl];simpa using hi
  obtain ⟨⟨k,x⟩,hx⟩:∃ p,vs[i]? = some p:=⟨vs[i],by simp[hi']⟩
  obtain ⟨q,hq,q1,q2⟩:=KV.at_ D.rel hx
  obtain ⟨f0,f1,f2,f3,f4,f5⟩:=hf it (by simp)
  refine wpAny_pyNext_values_item st da hx fun h' st' sb=>?_
  have I1:L2.Inv X pins σ H { s with heap:=h' }:=I.turned (t':=s.toks) (fun b o hb e=>(sb.2 b hb).trans e) f0 f1 f3 f4 f5
  refine ⟨x,rfl,letGo_valiter (s':={ s with heap:=h' }) st' ⟨q.2,H,I1,q2,⟨rfl,?_⟩,st',fun b hb=>(hf b hb).1⟩⟩
  rw[bV,hq]
  rfl
 done:=by
  intro X hP hw hK hc i pins s σ H E I hf st hg
  subst hP hw hK
  obtain ⟨⟨u,hd⟩,hi⟩:=hg
  have da:=D.at_ s.heap d (I.hok d _ hd).1
  have hl:=KV.length D.rel
  obtain ⟨f0,f1,f2,f3,f4,f5⟩:=hf it (by simp)
  exact wpAny_pyNext_values_end (I.ok.hd hc) st da (dM (by rw[<- hl];simpa using hi)) fun h' eb=>⟨rfl,I.turned (t':=s.toks) (fun b o hb e=>eb b o hb e) f0 f1 f3 f4 f5⟩
 self:=fun _ _ _ _ _ st h=>wpAny_pyIter_valiter st h
theorem Aas{elts:List Expr}{x1}{pos:Pos}(D:DObj P w o kvs vs ep):Turn P w K (.Tuple elts x1 pos) (Iti d o kvs) [it] it (fun i h=>∃ ok ov,IsItemIter h it d i vs.length ep ok ov) where
 mem:=by simp
 obj:=fun i h st b hb=>by
  have e:b=it:=by simpa using hb
  subst e
  obtain ⟨ok,ov,st⟩:=st
  exact ⟨_,st,fun v z=>by cases z⟩
 keep:=fun i h h' st k=>by
  obtain ⟨ok,ov,st⟩:=st
  exact ⟨ok,ov,k it (by simp) _ st⟩
 item:=by
  intro X hP hw hK hc i pins s σ H E I hf st hg
  subst hP hw hK
  obtain ⟨ok,ov,st⟩:=st
  obtain ⟨⟨u,hd⟩,hi⟩:=hg
  have da:=D.at_ s.heap d (I.hok d _ hd).1
  have hl:=KV.length D.rel
  have hi':i < vs.length:=by rw[<- hl];simpa using hi
  obtain ⟨⟨k,x⟩,hx⟩:∃ p,vs[i]? = some p:=⟨vs[i],by simp[hi']⟩
  obtain ⟨q,hq,q1,q2⟩:=KV.at_ D.rel hx
  obtain ⟨f0,f1,f2,f3,f4,f5⟩:=hf it (by simp)
  refine wpAny_pyNext_items_item st da hx fun key h' hkey ho hT hsz hk=>?_
  refine ⟨_,rfl,?_⟩
  have hfr:H s.heap.objs.size=none:=I.hok.fresh (bB _)
  have I1:L2.Inv X pins σ (upd H s.heap.objs.size (.tup [kV q.1,q.2])) { s with heap:=h',toks:=s.toks }:=
   Inv.turnNew (ch:=[it]) I hf (fun b o hb z=>hk b o (fun y=>hb (by simp[y])) z) (bB _)
    (show ObjOk X.prog X.w _ h' _ (.tup [kV q.1,q.2]) from ⟨by show 2<=sizeLine;decide,[key,x],.cons (by rw[q1];exact Aki hkey) (.cons q2 .nil),⟨_,hT,rfl,_,rfl⟩⟩)
  refine wpAny_letOwnedTupleGo_items (s:={ s with heap:=h' }) ho fun h2 e2 sb2=>?_
  have hne:it≠s.heap.objs.size:=bY (aV st)
  have hnone:(upd H s.heap.objs.size (.tup [kV q.1,q.2])) it=none:=by rw[Bc hne];exact f0
  have I2:=I1.turned (t':=s.toks) (h':=h2) (it:=it) (fun b o hb z=>sb2.2 b hb |>.trans z) hnone f1 f3 f4 f5
  exact ⟨.ref s.heap.objs.size,_,I2,rfl,⟨_,q,hfr,rfl,hq,rfl⟩,⟨_,_,e2⟩,fun b hb=>by
   have e:b=it:=by simpa using hb
   subst e;exact hnone⟩
 done:=by
  intro X hP hw hK hc i pins s σ H E I hf st hg
  subst hP hw hK
  obtain ⟨ok,ov,st⟩:=st
  obtain ⟨⟨u,hd⟩,hi⟩:=hg
  have da:=D.at_ s.heap d (I.hok d _ hd).1
  have hl:=KV.length D.rel
  obtain ⟨f0,f1,f2,f3,f4,f5⟩:=hf it (by simp)
  exact wpAny_pyNext_items_end (I.ok.hd hc) st da (dM (by rw[<- hl];exact hi)) fun h' eb=>⟨rfl,I.turned (t':=s.toks) (fun b o hb e=>eb b o hb e) f0 f1 f3 f4 f5⟩
 self:=fun A i s Q E st h=>by
  obtain ⟨ok,ov,st⟩:=st
  exact PySem.W.kcp_self st h
end
section
variable {X:Cx}{tg o e:Expr}{apos cpos:Pos}{td:TE}
structure M0(X:Cx)(o:Expr)(m:Str)(apos cpos:Pos):Prop where
 base:attributeBase o m X.env (eval o X.env)=eval o X.env
 few:((backTo cpos (aS [] X.env)).all (fun x=>!x.1)&&(backToKw cpos (keywordEach [] X.env)).all (fun x=>x.1.isSome)
  && decide (([]:List Expr).length+([]:List iP).length+(if ([]:List iP).isEmpty then 0 else 1) < 30))=true
 line:(apos.endLine == cpos.line)=true
 trees:backTo cpos (aS [] X.env)=[]
theorem Lz{pins:List (Addr×Obj)}{σ:L2.St}{H:Hp}{s:aI}{a:Addr}{kvs:List (Key×V)}(I:L2.Inv X pins σ H s)(e:H a=some (.dK kvs)) :
  (a == sysModules)=false/\∃ ob vs ep,s.heap.get? a=some ob/\DObj X.prog X.w ob kvs vs ep:=by
 obtain ⟨z,hd,vs,rel,ob,es,ep,h1,h2⟩:=Rx I.hok e
 exact ⟨hd,ob,vs,ep,h1,rel,fun h d hg=>⟨ob,es,hg,h2⟩⟩
noncomputable def Ap8(td:TE):TI:=fun σ H R=>td σ H fun x H1=>∃ a kvs,x = .ref a/\H1 a=some (.dK kvs)/\∀ ob,R (Itv a ob (kvs.map fun kv=>kv.2)) (upd H1 a (.frz ob (.dK kvs)))
noncomputable def Aoi(td:TE):TI:=fun σ H R=>td σ H fun x H1=>∃ a kvs,x = .ref a/\H1 a=some (.dK kvs)/\∀ ob,R (Iti a ob kvs) (upd H1 a (.frz ob (.dK kvs)))
theorem Acs{pins:List (Addr×Obj)}{σ:L2.St}{H:Hp}{s:aI}{a:Addr}{ob:Obj}{kvs:List (Key×V)}(I:L2.Inv X pins σ H s)(e:H a=some (.dK kvs)) :
  ∀ b∈[s.heap.objs.size],Mm X pins (upd H a (.frz ob (.dK kvs))) b:=fun b hb=>by
 have q:b=s.heap.objs.size:=by simpa using hb
 subst q
 have hn:=I.hok.fresh (bB _)
 exact L2.Inv.fpOk I (bB _) (by rw[Bc (fun z=>by rw[z,e] at hn;cases hn)];exact hn)
theorem Aks(hl:PE X o td)(m:M0 X o "values" apos cpos):PI X tg (.Call (.Attribute o "values" apos) [] [] cpos) (Ap8 td):=by
 intro pins s σ H R I h
 refine gG m.base m.few m.line eM dQ hV (thn (hl pins s σ H _ I h) fun u s1 zz=>zz.elim fun x H1 I1 rx zq=>?_)
 obtain ⟨a,kvs,ex,ea,q⟩:=zq
 subst ex
 obtain rfl:u=bE a:=rx
 obtain ⟨t1,t2,_⟩:=Ru I1 (.inl ⟨kvs,.inl ea⟩)
 refine ⟨t1,t2,?_⟩
 rw[m.trees]
 obtain ⟨hd,ob,vs,ep,ho,D⟩:=Lz I1 ea
 have da:=D.at_ _ _ ho
 refine dH rfl (gY ?_)
 refine jZ dQ t1 gU (gL _) (lJ (Co X.prog X.w) a hd) ⟨⟨vs,da.dictOf⟩,?_⟩
 have I2:L2.Inv X pins σ H1 { s1 with heap:=s1.heap.push { cls:=.type "dict_values",data:=.fields #[.ref a] } }:=I1.kept (t':=s1.toks) fun b o e=>aF _ e
 obtain ⟨hd,ob,vs,ep,ho,D⟩:=Lz I2 ea
 have da:=D.at_ _ _ ho
 refine wpAny_pyIter_values ⟨_,aW _ rfl,rfl,rfl⟩ da ?_
 have I3:=I2.kept (t':=s1.toks) (h':=(s1.heap.push { cls:=.type "dict_values",data:=.fields #[.ref a] }).push { cls:=.type "dict_valueiterator",data:=.fields #[.ref a,.int 0 0,.int vs.length 0,.int ep 0] }) fun b o e=>aF _ e
 exact ⟨_,[_],_,_,_,rfl,Inv.freeze I3 ea (aF _ ho),Aeo D,⟨_,aW _ rfl,rfl,rfl⟩,Acs I2 ea,q ob⟩
theorem Agv{elts:List Expr}{x1}{tpos:Pos}(hl:PE X o td)(m:M0 X o "items" apos cpos):PI X (.Tuple elts x1 tpos) (.Call (.Attribute o "items" apos) [] [] cpos) (Aoi td):=by
 intro pins s σ H R I h
 refine gG m.base m.few m.line eM mF PySem.F.type_dict_items (thn (hl pins s σ H _ I h) fun u s1 zz=>zz.elim fun x H1 I1 rx zq=>?_)
 obtain ⟨a,kvs,ex,ea,q⟩:=zq
 subst ex
 obtain rfl:u=bE a:=rx
 obtain ⟨t1,t2,_⟩:=Ru I1 (.inl ⟨kvs,.inl ea⟩)
 refine ⟨t1,t2,?_⟩
 rw[m.trees]
 obtain ⟨hd,ob,vs,ep,ho,D⟩:=Lz I1 ea
 have da:=D.at_ _ _ ho
 refine dH rfl (gY ?_)
 refine jZ mF t1 PySem.F.entry_dict_items (PySem.F.args_dict_items_1 _) (meets_dict_items (Co X.prog X.w) a hd) ⟨⟨vs,da.dictOf⟩,?_⟩
 have I2:L2.Inv X pins σ H1 { s1 with heap:=s1.heap.push { cls:=.type "dict_items",data:=.fields #[.ref a] } }:=I1.kept (t':=s1.toks) fun b o e=>aF _ e
 obtain ⟨hd,ob,vs,ep,ho,D⟩:=Lz I2 ea
 have da:=D.at_ _ _ ho
 refine wpAny_pyIter_items ⟨_,aW _ rfl,rfl,rfl⟩ da ?_
 have I3:=I2.kept (t':=s1.toks) (h':=(s1.heap.push { cls:=.type "dict_items",data:=.fields #[.ref a] }).push { cls:=.type "dict_itemiterator",data:=.fields #[.none,.bool false,.ref a,.int 0 0,.int vs.length 0,.int ep 0,.none,.none] }) fun b o e=>aF _ e
 exact ⟨_,[_],_,_,_,rfl,Inv.freeze I3 ea (aF _ ho),Aas D,⟨_,_,aW _ rfl⟩,Acs I2 ea,q ob⟩
end
noncomputable def kU:Key->U
 | .inl i=>.int i
 | .inr x=>.str x
theorem Anj{K:aC}{H:Hp}{α:List Addr}(k:Key):RepU K H α (kU k) (kV k):=by
 cases k <;> (unfold RepU kU kV;rfl)
noncomputable def Iw(kvs:List (Key×U)):List U:=kvs.map fun kv=>kv.2
noncomputable def Gm(kvs:List (Key×U)):List U:=kvs.map fun kv=>.tup [kU kv.1,kv.2]
noncomputable def G3(v:List (Key×U)->List U)(f:FE):FI:=fun δ L=>(f δ L).bind fun p=>match p.1 with
 | .ref n=>(E5 p.2 n).map fun kvs=>(.seq (v kvs),p.2.set n (.rod kvs))
 | _=>none
section
variable {K:aC}{H:Hp}{α:List Addr}{L:UH}{a:Addr}{ob:Obj}
theorem Wq:∀ {kvs:List (Key×U)} {vs:List (Key×V)} {k:Nat} {p:Key×U},RepKV K H α kvs vs->kvs[k]? = some p->∃ x,vs[k]? = some (p.1,x)/\RepU K H α p.2 x
 | [],vs,k,p,r,e=>by simp at e
 | kv::kvs,vs,0,p,r,e=>by
  obtain ⟨x,vs',rfl,rx,r'⟩:=r.cons
  simp at e;subst e
  exact ⟨x,rfl,rx⟩
 | kv::kvs,vs,k+1,p,r,e=>by
  obtain ⟨x,vs',rfl,rx,r'⟩:=r.cons
  simpa using Wq (k:=k) r' (by simpa using e)
theorem Ak4{u:HO}{us:List U}{xs:List V}(e:H a=some (.frz ob u))(r:RepL K H α us xs):Nt K (Itv a ob xs) (.seq us) H α:=by
 intro H2 α2 L2 g A2 k
 have e2:=g.st.2 _ _ _ e
 have r2:=r.mono g
 refine ⟨fun w eu=>?_,fun eu=>?_⟩
 ·have eu:us[k]? = some w:=by simpa[IU.at] using eu
  obtain ⟨x,hx,rx⟩:=r2.get eu
  refine ⟨⟨⟨u,e2⟩,(aR.mp hx).1⟩,?_⟩
  rintro y H3 ⟨rfl,hy⟩
  rw[hx] at hy;cases hy
  exact ⟨.refl _ _,A2,rx⟩
 ·have eu:us[k]? = none:=by simpa[IU.at] using eu
  exact ⟨⟨u,e2⟩,by rw[<- r2.length];exact cS.mp eu⟩
theorem Ajd{u:HO}{kvs:List (Key×U)}{vs:List (Key×V)}(e:H a=some (.frz ob u))(r:RepKV K H α kvs vs):Nt K (Iti a ob vs) (.seq (Gm kvs)) H α:=by
 intro H2 α2 L2 g A2 k
 have e2:=g.st.2 _ _ _ e
 have r2:=r.mono g
 refine ⟨fun w eu=>?_,fun eu=>?_⟩
 ·have eu:(Gm kvs)[k]? = some w:=by simpa[IU.at] using eu
  unfold Gm at eu
  rw[bV] at eu
  obtain ⟨p,hp,eu⟩:=aH.mp eu
  subst eu
  obtain ⟨x,hx,rx⟩:=Wq r2 hp
  refine ⟨⟨⟨u,e2⟩,(aR.mp hx).1⟩,?_⟩
  rintro y H3 ⟨q,kv,hq,rfl,hkv,rfl⟩
  rw[hx] at hkv;cases hkv
  exact A2.tup (.cons (Anj _) (.cons rx .nil)) hq
 ·have eu:(Gm kvs)[k]? = none:=by simpa[IU.at] using eu
  unfold Gm at eu
  have:kvs.length<=k:=by simpa using eu
  exact ⟨⟨u,e2⟩,by rw[<- r2.len];exact this⟩
theorem Aa8{n:Nat}{kvs:List (Key×U)}{vs:List (Key×V)}(A:Abs K H α L)(h:E5 L n=some kvs)(ea:α[n]? = some a)(e:H a=some (.dK vs))(r:RepKV K H α kvs vs)(ob:Obj) :
  Gr H α (upd H a (.frz ob (.dK vs))) α/\Abs K (upd H a (.frz ob (.dK vs))) α (L.set n (.rod kvs)):=by
 have g:Gr H α (upd H a (.frz ob (.dK vs))) α:=⟨⟨[],by simp⟩,.write e (by exact trivial) _⟩
 obtain ⟨A',_⟩:=A.put (o:=.frz ob (.dK vs)) (u:=.rod kvs) ea (Mw h) rfl rfl e (by exact trivial) ⟨ob,vs,upd_same,(r.mono g).1,(r.mono g).2⟩
 exact ⟨g,A'⟩
end
section
variable {X:Cx}{tg o:Expr}{apos cpos:Pos}{fo:FE}
theorem Ts{v:List (Key×U)->List U}{J:Addr->Obj->List (Key×V)->It}(hJ:∀ (H:Hp) (α:List Addr) (a:Addr) (ob:Obj) (u:HO) (kvs:List (Key×U)) (vs:List (Key×V)),H a=some (.frz ob u)->RepKV X.K H α kvs vs->Nt X.K (J a ob vs) (.seq (v kvs)) H α)
  {σ:L2.St} {H:Hp} {R:It->Hp->Prop} (h:lI X.K (G3 v fo) σ H R):lE X.K fo σ H fun x H1=>∃ a kvs,x = .ref a/\H1 a=some (.dK kvs)/\∀ ob,R (J a ob kvs) (upd H1 a (.frz ob (.dK kvs))):=by
 obtain ⟨α,δ,L,A,S,i,L3,e,q⟩:=h
 obtain ⟨⟨u,L1⟩,e1,e⟩:=aB.mp e
 simp only at e
 split at e
 ·obtain ⟨kvs,hd,e⟩:=aH.mp e
  cases e
  refine ⟨α,δ,L,A,S,_,_,e1,fun x H1 α1 g1 A1 r1=>?_⟩
  obtain ⟨a,vs,rfl,ea,ha,rk⟩:=Ga A1 hd r1
  refine ⟨a,vs,rfl,ha,fun ob=>?_⟩
  obtain ⟨g2,A2⟩:=Aa8 A1 hd ea ha rk ob
  exact q _ _ _ (g1.trans g2) A2 (hJ _ _ _ _ _ _ _ upd_same (rk.mono g2))
 ·cases e
noncomputable def Aoq(a:Addr)(ob:Obj)(vs:List (Key×V)):It:=Itv a ob (vs.map fun kv=>kv.2)
theorem Q6(ho:PEF X o fo)(m:M0 X o "values" apos cpos):PIF X tg (.Call (.Attribute o "values" apos) [] [] cpos) (G3 Iw fo):=
 PI.imp (Aks ho m) fun _ _ _ h=>Ts (J:=Aoq) (fun _ _ _ _ _ _ _ e r=>Ak4 e r.2) h
theorem U7{elts:List Expr}{x1}{tpos:Pos}(ho:PEF X o fo)(m:M0 X o "items" apos cpos):PIF X (.Tuple elts x1 tpos) (.Call (.Attribute o "items" apos) [] [] cpos) (G3 Gm fo):=
 PI.imp (Agv ho m) fun _ _ _ h=>Ts (J:=Iti) (fun _ _ _ _ _ _ _ e r=>Ajd e r) h
noncomputable def Ape:R2:=fun y x H Q=>∃ a r,x = .ref a/\DGet H a y r/\Q (.bl r.isSome) H
noncomputable def Acw:R2:=fun y x H Q=>∃ a r,x = .ref a/\DGet H a y r/\Q (.bl (!r.isSome)) H
theorem Abe(hu:X.A.units+64 < cLine):OpR X (dE .In) Ape:=by
 intro pins s σ H x y u w Q I rx ry h
 obtain ⟨a,r,rfl,g,q⟩:=h
 obtain rfl:w=bE a:=ry
 exact Ar6 (by omega) I g rx fun s' I'=>⟨.bl _,H,I',rfl,q⟩
theorem Oh(hu:X.A.units+64 < cLine):OpR X (dE .NotIn) Acw:=by
 intro pins s σ H x y u w Q I rx ry h
 obtain ⟨a,r,rfl,g,q⟩:=h
 obtain rfl:w=bE a:=ry
 exact Akl (by omega) I g rx fun s' I'=>⟨.bl _,H,I',rfl,q⟩
noncomputable def Gk:S2:=fun y x L=>match x with
 | .ref n=>(toK y).bind fun k=>(E5 L n).map fun kvs=>(.bl (Qo kvs k).isSome,L)
 | _=>none
noncomputable def C9:S2:=fun y x L=>match x with
 | .ref n=>(toK y).bind fun k=>(E5 L n).map fun kvs=>(.bl (!(Qo kvs k).isSome),L)
 | _=>none
theorem find_any(k:Key):∀ kvs:List (Key×U),(kvs.find? fun kv=>decide (kv.1=k)).isSome=kvs.any fun kv=>decide (kv.1=k)
 | []=>rfl
 | kv::kvs=>by
  rw[eQ,eU]
  by_cases h:kv.1=k
  ·simp[h]
  ·simp only[h,decide_false,qQ]
   exact find_any k kvs
theorem RepKV.some{K:aC}{H:Hp}{α:List Addr}{kvs:List (Key×U)}{vs:List (Key×V)}(r:RepKV K H α kvs vs)(k:Key):(Qo kvs k).isSome=(Ml vs k).isSome:=by
 have h1:(Qo kvs k).isSome=kvs.any fun kv=>decide (kv.1=k):=by
  unfold Qo
  rw[gF]
  exact find_any k kvs
 rw[h1,r.any,Q5]
theorem Vk{K:aC}:Di K Ape Gk:=by
 intro H α L u w x y z L' Q A ru rw' e q
 unfold Gk at e
 split at e
 ·obtain ⟨k,hk,e⟩:=aB.mp e
  obtain ⟨kvs,hd,e⟩:=aH.mp e
  cases e
  obtain ⟨a,vs,rfl,ea,ha,rk⟩:=Ga A hd rw'
  refine ⟨a,_,rfl,by rw[Vt ru hk];exact DGet.k ha,?_⟩
  rw[<- rk.some k]
  exact q _ H α (.refl _ _) A rfl
 ·cases e
theorem Nb{K:aC}:Di K Acw C9:=by
 intro H α L u w x y z L' Q A ru rw' e q
 unfold C9 at e
 split at e
 ·obtain ⟨k,hk,e⟩:=aB.mp e
  obtain ⟨kvs,hd,e⟩:=aH.mp e
  cases e
  obtain ⟨a,vs,rfl,ea,ha,rk⟩:=Ga A hd rw'
  refine ⟨a,_,rfl,by rw[Vt ru hk];exact DGet.k ha,?_⟩
  rw[<- rk.some k]
  exact q _ H α (.refl _ _) A rfl
 ·cases e
end
noncomputable def Ys(kvs:List (Key×U))(k:Key):List (Key×U):=kvs.filter fun kv=>decide (kv.1≠k)
theorem RepKV.drop{K:aC}{H:Hp}{α:List Addr}(k:Key):∀ {kvs:List (Key×U)} {vs:List (Key×V)},RepKV K H α kvs vs->RepKV K H α (Ys kvs k) (Qj vs k)
 | [],vs,r=>by
  have:=r.1
  cases vs with
  | nil=>exact .nil
  | cons _ _=>simp at this
 | kv::kvs,vs,r=>by
  obtain ⟨x,vs',rfl,rx,r'⟩:=r.cons
  unfold Ys Qj
  rw[eV,eV]
  by_cases h:kv.1=k
  ·simp only[h,ne_eq,not_true_eq_false,decide_false,bT,if_false]
   exact RepKV.drop k r'
  ·simp only[h,ne_eq,not_false_eq_true,decide_true,if_true]
   exact .mk rx (RepKV.drop k r')
noncomputable def Rp(fo fe:FE):FE:=fun δ L=>(fo δ L).bind fun p=>match p.1 with
 | .ref n=>(E5 p.2 n).bind fun _=>(fe δ p.2).bind fun q=>(toK q.1).bind fun k=>(E5 q.2 n).bind fun kvs=>(Qo kvs k).map fun u=>(u,q.2.set n (.dic (Ys kvs k)))
 | _=>none
theorem Ade{X:Cx}{o e:Expr}{apos cpos:Pos}{fo fe:FE}(ho:PEF X o fo)(he:PEF X e fe)(m:M1 X o "pop" apos e cpos):PEF X (.Call (.Attribute o "pop" apos) [e] [] cpos) (Rp fo fe):=by
 refine PE.imp (Afj ho he m) ?_
 rintro σ H Q ⟨α,δ,L,A,S,z,L3,e,q⟩
 obtain ⟨⟨u,L1⟩,e1,e⟩:=aB.mp e
 simp only at e
 split at e
 ·obtain ⟨kvs0,hd0,e⟩:=aB.mp e
  obtain ⟨⟨w,L2⟩,e2,e⟩:=aB.mp e
  obtain ⟨k,hk,e⟩:=aB.mp e
  obtain ⟨kvs,hd,e⟩:=aB.mp e
  obtain ⟨v,hv,e⟩:=aH.mp e
  cases e
  refine ⟨α,δ,L,A,S,_,L1,e1,fun x H1 α1 g1 A1 r1=>?_⟩
  obtain ⟨a,vs0,rfl,ea0,ha0,rk0⟩:=Ga A1 hd0 r1
  refine ⟨a,rfl,.inl ⟨vs0,.inl ha0⟩,α1,δ,L1,A1,S.mono g1,w,L2,e2,fun y H2 α2 g2 A2 r2=>?_⟩
  obtain ⟨a',vs,e',ea,ha,rk⟩:=Ga A2 hd (r1.mono g2)
  cases e'
  obtain ⟨x',hx',rx'⟩:=rk.val hv
  obtain ⟨g3,A3⟩:=A2.setD hd ea ha (rk.drop k)
  exact ⟨vs,k,x',ha,Vt r2 hk,hx',q _ _ _ (g1.trans (g2.trans g3)) A3 (rx'.mono g3)⟩
 ·cases e
end MR
namespace MR
open PySem PyProof.Rows L2
theorem Qy:∀ L:UH,Ed L L=L
 | []=>by unfold Ed;rfl
 | x::L=>by cases x <;> simp[Ed,Qy L]
theorem Tr:∀ (L L' x:UH),L.length=L'.length->Ed L (L'++x)=Ed L L'++x
 | [],[],x,_=>by simp[Ed]
 | [],y::L',x,h=>by simp at h
 | a::L,[],x,h=>by simp at h
 | a::L,y::L',x,h=>by
  have:=Tr L L' x (by simpa using h)
  cases a <;> cases y <;> simp[Ed,this]
theorem U0:∀ (L:UH) (n:Nat) (kvs:List (Key×U)),L[n]? = some (.dic kvs)->Ed L (L.set n (.rod kvs))=L
 | [],n,kvs,h=>by simp at h
 | x::L,0,kvs,h=>by
  simp at h;subst h
  simp[Ed,Qy]
 | x::L,n+1,kvs,h=>by
  have:=U0 L n kvs (by simpa using h)
  cases x <;> simp[Ed,this]
theorem Aj3{v:List (Key×U)->List U}{fo:FE}{δ:UE}{L:UH}{n:Nat}{kvs:List (Key×U)}(hf:fo δ L=some (.ref n,L))(hn:L[n]? = some (.dic kvs)):G3 v fo δ L=some (.seq (v kvs),L.set n (.rod kvs)):=by
 have hd:E5 L n=some kvs:=by unfold E5;rw[hn]
 unfold G3
 rw[hf]
 simp only[aA,hd,aD]
theorem Oo{β:Type}{ix:List (Option Nat)}{v:List (Key×U)->List U}{fo:FE}{g:FG}{tt:Option FT}{fe:FE}{δ:UE}{L:UH}{n:Nat}{kvs:List (Key×U)}(as:List β)(rep:β->U)(f:β->Bool)(e:β->U)(E:UE->Prop)(hf:fo δ L=some (.ref n,L))(hn:L[n]? = some (.dic kvs))(hv:v kvs=as.map rep)(hl:as.length < 16777216)(h0:E (Ib ix δ))
  (step:∀ (a:β) δ (M:UH),a∈as->E δ->∃ δ1,g (rep a) δ M=some (δ1,M)/\E δ1/\∃ y,Ig tt δ1 M=some (f a,M++y)/\(f a=true->∃ z,fe δ1 (M++y)=some (e a,M++y++z))) :
  ∃ x,Jd (By ix (G3 v fo) g tt fe) δ L=some (.ref (L++x).length,L++x++[.lst ((as.filter f).map e)]):=by
 have hi:=Aj3 (v:=v) hf hn
 rw[hv] at hi
 obtain ⟨x,q⟩:=Ea (ix:=ix) (g:=g) (tt:=tt) (fe:=fe) as rep f e E hi (by simp[IU.size]) hl h0 (fun k x=>rfl) (fun a δ x ha hE=>step a δ _ ha hE)
 refine ⟨x,?_⟩
 unfold Jd
 rw[q]
 have ln:(L.set n (.rod kvs)).length=L.length:=by simp
 simp only[aD]
 rw[cA,Tr _ _ _ ln.symm,U0 L n kvs hn,<- cA]
 simp
end MR
namespace MR
open PySem PySem.Spec PyProof.Rows PySem.Calls L2
noncomputable def Aa7:S2:=fun u w L=>match w with
 | .non=>some (.bl (!isSome u),L)
 | _=>none
theorem Aj0{K:aC}:Di K (fun x y H Q=>y = .non/\Q (.bl (decide (x = .non))) H) Aa7:=by
 intro H α L u w x y z L' Q A ru rw e q
 cases w with
 | non=>
  cases e
  unfold RepU at rw
  refine ⟨rw,?_⟩
  have:(decide (x=V.non)) = !isSome u:=by
   cases u with
   | non=>unfold RepU at ru;simp[ru,isSome]
   | bl b=>unfold RepU at ru;simp[ru,isSome]
   | int b=>unfold RepU at ru;simp[ru,isSome]
   | str b=>unfold RepU at ru;simp[ru,isSome]
   | tup b=>unfold RepU at ru;obtain ⟨_,_,rfl,_⟩:=ru;simp[isSome]
   | ref b=>unfold RepU at ru;obtain ⟨_,_,rfl⟩:=ru;simp[isSome]
  rw[this]
  exact q _ H α (.refl _ _) A (by unfold RepU;rfl)
 | _=>cases e
noncomputable def semSlL:SS:=fun u lo hi L=>match u with
 | .ref n=>(A7 L n).map fun l=>(.ref L.length,L++[.lst (Adr l lo hi)])
 | _=>none
theorem Ajz{K:aC}:Alr K (Aph K) semSlL:=by
 intro H α L u x lo hi z L' Q A ru e q
 cases u with
 | ref n=>
  obtain ⟨l,hl,e⟩:=aH.mp e
  cases e
  obtain ⟨a,xs,rfl,sq,r⟩:=Qd A hl ru
  refine ⟨a,xs,rfl,sq,fun p hp=>?_⟩
  obtain ⟨g,A',r'⟩:=A.lst (r.cut lo hi) hp
  exact q _ _ _ g A' r'
 | _=>cases e
noncomputable def Nj:SC:=fun us L=>match us with
 | [.int i,.int j]=>some (.int (if j > i then j else i),L)
 | _=>none
theorem Yk{K:aC}:R4 K (fun xs H Q=>∃ i j,xs=[.int i,.int j]/\Q (.int (if j > i then j else i)) H) Nj:=by
 intro H α L us xs z L' Q A r e q
 unfold Nj at e
 split at e
 ·rename_i i j
  cases e
  obtain ⟨x,y,rfl,r1,r2⟩:=r.two
  unfold RepU at r1 r2
  subst r1 r2
  exact ⟨i,j,rfl,q _ H α (.refl _ _) A (by unfold RepU;rfl)⟩
 ·cases e
end MR
namespace Lw
open PySem L2 MR
structure Ex(d:Nat)(L L':UH):Prop where
 le:L.length<=L'.length
 at_:∀ i,i < L.length->i≠d->L'[i]? = L[i]?
theorem Ex.refl(d:Nat)(L:UH):Ex d L L:=⟨bB _,fun _ _ _=>rfl⟩
theorem Ex.trans{d:Nat}{L L1 L2:UH}(a:Ex d L L1)(b:Ex d L1 L2):Ex d L L2:=
 ⟨cC a.le b.le,fun i h1 h2=>by rw[b.at_ i (aU h1 a.le) h2,a.at_ i h1 h2]⟩
theorem Ex.new(d:Nat)(L:UH)(x:List HU):Ex d L (L++x):=⟨by simp,fun i h _=>by rw[bJ h]⟩
theorem Ex.put(d:Nat)(L:UH)(o:HU):Ex d L (L.set d o):=⟨by simp,fun i _ h=>by rw[bA (cR h)]⟩
theorem Ex.set{d:Nat}{L L':UH}(h:Ex d L L'){n:Nat}(hn:L.length<=n)(o:HU):Ex d L (L'.set n o):=
 ⟨by rw[jN];exact h.le,fun i h1 h2=>by rw[bA (by omega)];exact h.at_ i h1 h2⟩
theorem Ex.get{d:Nat}{L L':UH}{i:Nat}{o:HU}(h:Ex d L L')(e:L[i]? = some o)(hi:i≠d):L'[i]? = some o:=by
 rw[h.at_ i (aR.mp e).1 hi];exact e
noncomputable def Gw(L L':UH):Prop:=∃ x,L'=L++x
theorem Gw.refl(L:UH):Gw L L:=⟨[],by simp⟩
theorem Gw.trans{L L1 M:UH}(a:Gw L L1)(b:Gw L1 M):Gw L M:=by obtain ⟨x,rfl⟩:=a;obtain ⟨y,rfl⟩:=b;exact ⟨x++y,by simp⟩
theorem Gw.new(L x:UH):Gw L (L++x):=⟨x,rfl⟩
theorem Gw.le{L L':UH}(h:Gw L L'):L.length<=L'.length:=by obtain ⟨x,rfl⟩:=h;simp
theorem Gw.get{L L':UH}(h:Gw L L'){n:Nat}{o:HU}(e:L[n]? = some o):L'[n]? = some o:=by
 obtain ⟨x,rfl⟩:=h
 rw[bJ (aR.mp e).1];exact e
theorem Gw.seq{L L':UH}(h:Gw L L'){n:Nat}{us:List U}(e:A7 L n=some us):A7 L' n=some us:=by
 obtain ⟨x,rfl⟩:=h;exact Fo e
theorem Gw.ex{L L':UH}(h:Gw L L')(d:Nat):Ex d L L':=by obtain ⟨x,rfl⟩:=h;exact Ex.new d L x
theorem U9{L:UH}{n:Nat}{l:List U}(u:U)(h:L[n]? = some (.lst l))(hl:l.length < 16777216):Ei (.ref n) [u] L=some (.non,L.set n (.lst (l++[u]))):=by
 show (Gd L n).bind _=_
 rw[Et h]
 simp only[aA]
 rw[if_pos (decide_eq_true (by unfold sizeLine;omega))]
theorem Wa{L:UH}{n:Nat}{l:List U}(h:L[n]? = some (.lst l)):tyU "list" (.ref n) L=true:=by simp[tyU,h]
theorem Kr{L:UH}{n:Nat}{l:List U}(h:L[n]? = some (.lst l)):Cy [.ref n] L=some (.int l.length,L):=by simp[Cy,lenU,A9 h]
theorem Au{f g:FS}{δ δ':UE}{L L':UH}(h:f δ L=some (.nx δ',L')):Be f g δ L=g δ' L':=by rw[fSeq_eq,h];rfl
theorem Ex.seq{d:Nat}{L L':UH}(h:Ex d L L'){n:Nat}{us:List U}(hn:n≠d)(e:A7 L n=some us):A7 L' n=some us:=by
 unfold A7 at e ⊢
 cases hq:L[n]? with
 | none=>rw[hq] at e;cases e
 | some o=>rw[h.get hq hn];rw[hq] at e;exact e
noncomputable def Ng:FS:=(Be (Bh (f2 Bs (f2 Al (Af 0) (fC (.int 2))) (fC (.int 1))) (MR.gSub (Af 0) (fC (.int 2)))) (Be (Dh (Sy (Ax (f2 Bm (f2 Al (Af 0) (fC (.int 1))) (fC (.int 1)))) (Ax (f2 Qr (f2 Al (Af 0) (fC (.int 0))) (fC (.int 0))))) (Be (Bh (f2 Jg (f2 Al (Af 0) (fC (.int 0))) (Af 1)) (gN 2)) (Be (Bh (f2 Wc (f2 Al (Af 0) (fC (.int 0))) (Af 1)) (MR.gSub (Af 0) (fC (.int 0)))) (Cg (Af 2)))) Cv) (Be (Bh (f2 Jg (f2 Gn (f2 Bs (f2 Bs (f2 Al (Af 0) (fC (.int 3))) (f2 Gn (fC (.int 6997)) (f2 Al (Af 0) (fC (.int 2))))) (fC (.int 11))) (fC (.int 48271))) (fC (.int 2147483647))) (gN 3)) (Be (Bh (f2 Jg (f2 Gn (f2 Jg (f2 Gn (Af 3) (Af 3)) (fC (.int 2147483629))) (fC (.int 40692))) (fC (.int 2147483399))) (gN 3)) (Cg (f2 Jg (f2 Wc (Af 3) (fC (.int 7))) (Af 1)))))))
noncomputable def Ao:FN:=fnU 4 2 Ng
noncomputable def Ks:FS:=(Bh (f2 Jg (f2 Bs (f2 Gn (Af 1) (fC (.int 48271))) (f2 Jg (Af 2) (fC (.int 2147483629)))) (fC (.int 2147483647))) (gN 1))
noncomputable def Sd:FS:=(Be (Bh (B0 Cy (Ac (Af 0) Ai)) (gN 1)) (Be (Rc (Cu (Af 0)) (gN 2) Ks) (Cg (Af 1))))
noncomputable def Hx:FN:=fnU 3 1 Sd
noncomputable def Kn:FS:=(Be (Dh (Ax (f2 Bm (Af 1) (fC (.int 0)))) (Cg (f2 Dw (Bf 2 Ao (Ac (Af 0) (Ac (fC (.int 4)) Ai))) (fC (.int 1)))) Cv) (Be (Dh (Ax (f2 Bm (Af 1) (fC (.int 1)))) (Cg (f2 Dw (Bf 2 Ao (Ac (Af 0) (Ac (fC (.int 41)) Ai))) (fC (.int 20)))) Cv) (Be (Bh (f2 Al (Ct (Ac (f2 Bs (f2 Gn (Bf 2 Ao (Ac (Af 0) (Ac (f2 My (fC (.int 10)) (fC (.int 5))) Ai))) (f2 My (fC (.int 10)) (fC (.int 5)))) (Bf 2 Ao (Ac (Af 0) (Ac (f2 My (fC (.int 10)) (fC (.int 5))) Ai)))) (Ac (f2 Dw (f2 My (fC (.int 10)) (fC (.int 10))) (fC (.int 1))) Ai))) (B0 Gj (Ac (f2 Bm (Bf 2 Ao (Ac (Af 0) (Ac (fC (.int 8)) Ai))) (fC (.int 0))) Ai))) (gN 2)) (Cg (f2 Gn (f2 Al (Ct (Ac (fC (.int 1)) (Ac (Amc (fC (.int 1))) Ai))) (Bf 2 Ao (Ac (Af 0) (Ac (fC (.int 2)) Ai)))) (Af 2))))))
noncomputable def Dx:FN:=fnU 3 2 Kn
noncomputable def Xa:FS:=(Be (Bh (B0 Nj (Ac (Af 0) (Ac (f2 Dw (fC (.int 0)) (Af 0)) Ai))) (gN 1)) (Cg (Ct (Ac (Af 1) (Ac (B0 Gj (Ac (f2 Aha (Af 1) (f2 My (fC (.int 10)) (fC (.int 18)))) Ai)) (Ac (fC (.int 0)) (Ac (f2 Jg (Af 0) (fC (.int 1999999913))) Ai)))))))
noncomputable def G1:FN:=fnU 2 1 Xa
structure Seed(L:UH)(d:Nat)(B:Int):Prop where
 ex:∃ (a b c e:Int),L[d]? = some (.lst [.int a,.int b,.int c,.int e])/\0<=a/\0<=c/\c<=B/\0<=e/\e < 1999999913
theorem Seed.lt{L:UH}{d:Nat}{B:Int}(h:Seed L d B):d < L.length:=by
 obtain ⟨a,b,c,e,h1,_⟩:=h.ex
 exact (aR.mp h1).1
theorem Seed.mono{L:UH}{d:Nat}{B B':Int}(h:Seed L d B)(hb:B<=B'):Seed L d B':=by
 obtain ⟨a,b,c,e,h1,h2,h3,h4,h5⟩:=h.ex
 exact ⟨a,b,c,e,h1,h2,h3,by omega,h5⟩
theorem Seed.new{L:UH}{d:Nat}{B:Int}(h:Seed L d B)(x:List HU):Seed (L++x) d B:=by
 obtain ⟨a,b,c,e,h1,h2⟩:=h.ex
 exact ⟨a,b,c,e,by rw[bJ (aR.mp h1).1];exact h1,h2⟩
theorem Seed.set{L:UH}{d:Nat}{B:Int}(h:Seed L d B){n:Nat}(hn:n≠d)(o:HU):Seed (L.set n o) d B:=by
 obtain ⟨a,b,c,e,h1,h2⟩:=h.ex
 exact ⟨a,b,c,e,by rw[bA hn];exact h1,h2⟩
theorem Seed.gw{L L':UH}{d:Nat}{B:Int}(h:Seed L d B)(g:Gw L L'):Seed L' d B:=by obtain ⟨x,rfl⟩:=g;exact h.new x
theorem C7{L:UH}{d:Nat}{B many:Int}(D:Seed L d B)(hB:B<=1000000000000)(h0:0 < many)(h1:many < 1000000000000000) :
  ∃ r L',Ao [.ref d,.int many] L=some (.int r,L')/\0<=r/\r < many/\Seed L' d (B+1)/\Ex d L L':=by
 obtain ⟨a,b,c,e,hd,ha,hc0,hc1,he0,he1⟩:=D.ex
 have hdl:d < L.length:=(aR.mp hd).1
 have q1:=A9 hd
 have q2:=Et hd
 have md:∀ x:Int,0<=x % many/\x % many < many:=fun x=>⟨mP _ (by omega),kL _ h0⟩
 have i0:∀ (x0 x1 x2 x3:U),L2.atI [x0,x1,x2,x3] 0=some x0:=fun _ _ _ _=>rfl
 have i1:∀ (x0 x1 x2 x3:U),L2.atI [x0,x1,x2,x3] 1=some x1:=fun _ _ _ _=>rfl
 have i2:∀ (x0 x1 x2 x3:U),L2.atI [x0,x1,x2,x3] 2=some x2:=fun _ _ _ _=>rfl
 have i3:∀ (x0 x1 x2 x3:U),L2.atI [x0,x1,x2,x3] 3=some x3:=fun _ _ _ _=>rfl
 have j0:ixN 4 0=some 0:=rfl
 have j2:ixN 4 2=some 2:=rfl
 have set1:∀ us:List U,A7 (L.set d (.lst us)) d=some us/\Gd (L.set d (.lst us)) d=some us:=fun us=>by
  have:(L.set d (.lst us))[d]? = some (.lst us):=bU hdl
  exact ⟨A9 this,Et this⟩
 have s1:=set1 [.int a,.int b,.int (c+1),.int e]
 have keep:∀ x:Int,0<=x->Seed (L.set d (.lst [.int x,.int b,.int (c+1),.int e])) d (B+1)/\Ex d L (L.set d (.lst [.int x,.int b,.int (c+1),.int e])):=fun x hx=>
  ⟨⟨x,b,c+1,e,bU hdl,hx,by omega,by omega,he0,he1⟩,Ex.put d L _⟩
 by_cases hb:b=1/\0 < a
 ·obtain ⟨rfl,hap⟩:=hb
  refine ⟨a % many,L.set d (.lst [.int (a / many),.int 1,.int (c+1),.int e]),?_,(md a).1,(md a).2,(keep (a / many) (pW (by omega) (by omega))).1,(keep (a / many) (pW (by omega) (by omega))).2⟩
  simp[Ao,fnU,Ng,q1,q2,i0,i1,i2,i3,j0,j2,s1,hap,h0,W0 h0 (by omega),aT]
 ·generalize hA:(e+6997 * (c+1)+11) * 48271 % 2147483647=A
  have hA0:0<=A/\A < 2147483647:=by rw[<- hA];exact ⟨mP _ (by decide),kL _ (by decide)⟩
  generalize hC:A * A % 2147483629 * 40692 % 2147483399=Cn
  have m1:Ir 6997 (c+1)=true:=Abw (by decide) (by decide)
  have m2:∀ x:Int,Ir x 48271=true:=fun x=>Nh (by decide) (by decide)
  have m3:Ir A A=true:=Abw (by omega) (by omega)
  have m4:∀ x:Int,Ir x 40692=true:=fun x=>Nh (by decide) (by decide)
  have d7:∀ x:Int,T8 x 7=true:=fun x=>W0 (by decide) (by decide)
  refine ⟨Cn / 7 % many,L.set d (.lst [.int a,.int b,.int (c+1),.int e]),?_,(md _).1,(md _).2,(keep a ha).1,(keep a ha).2⟩
  by_cases hb1:b=1
  ·have hna:¬ 0 < a:=fun z=>hb ⟨hb1,z⟩
   simp[Ao,fnU,Ng,q1,q2,i0,i1,i2,i3,j0,j2,s1,hb1,hna,h0,m1,m2,m3,m4,d7,hA,hC,aT]
   subst hb1
   simp[q1,q2,i0,i1,i2,i3,j2,s1,hna,h0,m1,m2,m3,m4,d7,hA,hC]
  ·simp[Ao,fnU,Ng,q1,q2,i0,i1,i2,i3,j0,j2,s1,hb1,h0,m1,m2,m3,m4,d7,hA,hC,aT]
theorem Abj(cell:Int)(L:UH):∃ L',G1 [.int cell] L=some (.ref L.length,L')/\Seed L' L.length 0/\Gw L L':=by
 have hmax:Nj [.int cell,.int (0 - cell)] L=some (.int (if 0 - cell > cell then 0 - cell else cell),L):=rfl
 generalize hn:(if 0 - cell > cell then 0 - cell else cell)=n at hmax
 have hn0:0<=n:=by rw[<- hn];split <;> omega
 have p18:U4 10 18=true:=rfl
 have hint:∀ k:Bool,Gj [.bl k] L=some (.int (if k then 1 else 0),L):=fun _=>rfl
 refine ⟨L++[.lst [.int n,.int (if decide (1000000000000000000<=n)=true then 1 else 0),.int 0,.int (cell % 1999999913)]],?_,⟨n,(if decide (1000000000000000000<=n)=true then 1 else 0),0,cell % 1999999913,by simp,hn0,by omega,by omega,mP _ (by decide),kL _ (by decide)⟩,Gw.new _ _⟩
 simp only[Int.zero_sub] at hmax
 simp[G1,fnU,Xa,hmax,p18,hint,Bq,aT]
theorem Aer{L:UH}{n:Nat}(ns:List Int)(hs:A7 L n=some (ns.map U.int)):∃ r,Hx [.ref n] L=some (.int r,L):=by
 obtain ⟨δ',L',e,hP⟩:=P6 (us:=ns.map U.int) (n:=n) (L0:=L) (L:=L) (δ:=[some (.ref n),some (.int ns.length),none]) (body:=Ks) (g:=gN 2) (fi:=Cu (Af 0))
  (fun _ δ' L'=>∃ y1 y2,δ'=[some (.ref n),some (.int y1),y2]/\L'=L)
  (by simp[Ej hs]) ⟨ns.length,none,rfl,rfl⟩
  (fun k δ L' ⟨_,_,_,hL⟩=>by rw[hL];exact hs)
  (fun k u δ L' hu ⟨y1,y2,hδ,hL⟩=>by
   subst hδ;subst hL
   rw[bV] at hu
   obtain ⟨c,_,rfl⟩:=aH.mp hu
   refine ⟨_,_,rfl,[some (.ref n),some (.int ((y1 * 48271+c % 2147483629) % 2147483647)),some (.int c)],_,.inl ?_,_,_,rfl,rfl⟩
   have m1:Ir y1 48271=true:=Nh (by decide) (by decide)
   simp[Ks,m1])
 obtain ⟨y1,y2,hδ,hL⟩:=hP
 subst hL
 refine ⟨y1,?_⟩
 have hlen:Cy [.ref n] L'=some (.int ns.length,L'):=by simp[Cy,lenU,hs]
 rw[hδ] at e
 simp[Hx,fnU,Sd,-Vn,hlen,e,aT]
theorem Amd(k:Bool)(L:UH):Gj [.bl k] L=some (.int (if k then 1 else 0),L):=rfl
theorem Q7{L:UH}{d:Nat}{B way:Int}(D:Seed L d B)(hB:B<=100000000000)(hw:way=0\/way=1\/way=2) :
  ∃ r L',Dx [.ref d,.int way] L=some (.int r,L')/\-9999999999<=r/\r<=9999999999/\Seed L' d (B+4)/\Ex d L L':=by
 rcases hw with rfl | rfl | rfl
 ·obtain ⟨r,L1,e1,a1,b1,D1,x1⟩:=C7 (many:=4) D (by omega) (by decide) (by decide)
  exact ⟨r - 1,L1,by simp[Dx,fnU,Kn,e1,aT],by omega,by omega,D1.mono (by omega),x1⟩
 ·obtain ⟨r,L1,e1,a1,b1,D1,x1⟩:=C7 (many:=41) D (by omega) (by decide) (by decide)
  exact ⟨r - 20,L1,by simp[Dx,fnU,Kn,e1,aT],by omega,by omega,D1.mono (by omega),x1⟩
 ·obtain ⟨r1,L1,e1,a1,b1,D1,x1⟩:=C7 (many:=100000) D (by omega) (by decide) (by decide)
  obtain ⟨r2,K2,e2,a2,b2,D2,x2⟩:=C7 (many:=100000) D1 (by omega) (by decide) (by decide)
  obtain ⟨r3,L3,e3,a3,b3,D3,x3⟩:=C7 (many:=8) (D2.new [HU.lst [.int (r1 * 100000+r2),.int 9999999999]]) (by omega) (by decide) (by decide)
  have hdl:=D2.lt
  have q3:A7 L3 K2.length=some [.int (r1 * 100000+r2),.int 9999999999]:=A9 (x3.get (i:=K2.length) (by simp) (by omega))
  have hg:∃ g:Int,L2.atI [U.int (r1 * 100000+r2),.int 9999999999] (if (r3 == 0)=true then 1 else 0)=some (.int g)/\0<=g/\g<=9999999999:=by
   by_cases h:r3=0
   ·exact ⟨9999999999,by simp[h];rfl,by decide,by decide⟩
   ·exact ⟨r1 * 100000+r2,by simp[h];rfl,by omega,by omega⟩
  obtain ⟨g,hg,g0,g1⟩:=hg
  obtain ⟨r4,L4,e4,a4,b4,D4,x4⟩:=C7 (many:=2) (D3.new [HU.lst [.int 1,.int (-1)]]) (by omega) (by decide) (by decide)
  have q4:A7 L4 L3.length=some [.int 1,.int (-1)]:=A9 (x4.get (i:=L3.length) (by simp) (by have:=D3.lt;omega))
  have hs:∃ sg:Int,L2.atI [U.int 1,.int (-1)] r4=some (.int sg)/\(sg=1\/sg = -1):=by
   have:r4=0\/r4=1:=by omega
   rcases this with rfl | rfl
   ·exact ⟨1,rfl,.inl rfl⟩
   ·exact ⟨-1,rfl,.inr rfl⟩
  obtain ⟨sg,hs,hsg⟩:=hs
  have p5:U4 10 5=true:=rfl
  have p10:U4 10 10=true:=rfl
  have m1:Ir r1 100000=true:=Nh (by decide) (by decide)
  have m2:Ir sg g=true:=Nh (by omega) (by omega)
  refine ⟨sg * g,L4,?_,by rcases hsg with rfl | rfl <;> omega,by rcases hsg with rfl | rfl <;> omega,D4.mono (by omega),x1.trans (x2.trans ((Ex.new d K2 _).trans (x3.trans ((Ex.new d L3 _).trans x4))))⟩
  simp only[beq_iff_eq] at hg
  simp[Dx,fnU,Kn,p5,p10,e1,m1,e2,Bq,e3,Amd,q3,hg,e4,q4,hs,m2,aT]
end Lw
namespace MR
open PySem PySem.Spec PyProof.Rows L2
inductive XObj(e Ca:Addr)(dd:Option Addr)(h:Heap)(vs:Array aE):Prop
 | mk (o:Obj) (h0:h.get? e=some o) (h1:o.cls = .ref Ca) (h2:o.dict=dd) (h3:o.data = .fields vs) (h4:1 < vs.size) (h5:o.slots=#[]):XObj e Ca dd h vs
inductive Tra(N:Nat)(e Ca:Addr)(dd:Option Addr)(fl:aE)(h:Heap):Prop
 | mk (vs:_) (T:_) (oT:_) (ts:_) (h0:XObj e Ca dd h vs) (h1:vs[1]? = some (.ref T)) (h2:N<=T) (h3:T≠e) (h4:h.get? T=some oT) (h5:oT.data = .fields ts) (h6:ts[3]? = some fl):Tra N e Ca dd fl h
noncomputable def Raw(e Ca:Addr)(dd:Option Addr)(h:Heap):Prop:=∃ vs,XObj e Ca dd h vs/\vs[1]? = some .none
noncomputable def Fly(N:Nat)(e Ca:Addr)(dd:Option Addr)(h:Heap):Prop:=N<=h.objs.size/\(Raw e Ca dd h\/∃ fl,Tra N e Ca dd fl h)
theorem XObj.excIs{e Ca:Addr}{dd:Option Addr}{h:Heap}{vs:Array aE}(x:XObj e Ca dd h vs):ExcIs e Ca dd false h:=by
 obtain ⟨o,h1,h2,h3,h4,h5,h6⟩:=x
 exact ⟨o,vs,h1,h2,h3,h4,h5,h6,fun z=>nomatch z⟩
theorem Fly.excIs{N:Nat}{e Ca:Addr}{dd:Option Addr}{h:Heap}(x:Fly N e Ca dd h):ExcIs e Ca dd false h:=by
 rcases x.2 with ⟨vs,q,_⟩ | ⟨_,vs,_,_,_,q,_⟩
 ·exact q.excIs
 ·exact q.excIs
structure Stp(N:Nat)(fs:List Addr)(e:Addr)(h h':Heap):Prop where
 keep:∀ b o,b < N->b∉fs->b≠e->h.get? b=some o->h'.get? b=some o
 slot:∀ b o,b∈fs->h.get? b=some o->∃ sl,h'.get? b=some { o with slots:=sl }
 all:∀ b o,h.get? b=some o->∃ o',h'.get? b=some o'
 sz:h.objs.size<=h'.objs.size
theorem Stp.refl{N:Nat}{fs:List Addr}{e:Addr}{h:Heap}:Stp N fs e h h:=⟨fun _ _ _ _ _ q=>q,fun b o _ q=>⟨o.slots,q⟩,fun _ o q=>⟨o,q⟩,bB _⟩
theorem Stp.trans{N:Nat}{fs:List Addr}{e:Addr}{h h1 h2:Heap}(x:Stp N fs e h h1)(y:Stp N fs e h1 h2):Stp N fs e h h2:=
 ⟨fun b o l n z q=>y.keep b o l n z (x.keep b o l n z q),fun b o m q=>let ⟨_,q1⟩:=x.slot b o m q;let ⟨sl,q2⟩:=y.slot b _ m q1;⟨sl,q2⟩,fun b o q=>let ⟨o1,q1⟩:=x.all b o q;y.all b o1 q1,cC x.sz y.sz⟩
theorem O7{h:Heap}{a b:Addr}{f:Obj->Obj}{o oa:Obj}(q:h.get? b=some o)(qa:h.get? a=some oa)(hf:(f oa).isFreed=false):∃ o',(h.update a f).get? b=some o':=by
 by_cases z:a=b
 ·subst z;exact ⟨_,dB f qa hf⟩
 ·exact ⟨o,(cM h f z).trans q⟩
section
variable {M:qC}{A:cK}{E:aE->aI->Prop}{s:aI}{base:Heap}{N:Nat}{env:eN}{outer:List eN}{L e Ca:Addr}{dd:Option Addr}
theorem Xo{o:Obj}{vs:Array aE}{h:Heap}{k:Nat}{x:aE}(hd:o.data = .fields vs)(hq:(o.cls = .ref Ca/\o.dict=dd)/\1 < vs.size/\o.slots=#[])(hg:h.get? e=some (o.mapFields (·.setIfInBounds k x))) :
  XObj e Ca dd h (vs.setIfInBounds k x):=by
 obtain ⟨cl,di,da,sl⟩:=o
 dsimp only at hd hq
 subst hd
 exact ⟨_,hg,hq.1.1,hq.1.2,rfl,by rw[Array.size_setIfInBounds];exact hq.2.1,hq.2.2⟩
theorem Agi{h:Heap}{l:List eN}{b:Addr}{o:Obj}{vs:Array aE}(fr:h.FunFrames base l)(q:h.get? b=some o)(hd:o.data = .fields vs):b∉frs l:=fun m=>by
 obtain ⟨_,o',ho,hnf⟩:=fr.mem m
 rw[q] at ho
 cases ho
 exact hnf vs hd
theorem Sk{head:aE}{hadNext:Bool}{vs:Array aE}{Q:Unit->aI->Prop}(hfr:A.frames=some (env::outer))(hf:env.frame=some L)
  (hN:N<=s.heap.objs.size) (fr:s.heap.FunFrames base (env::outer)) (hx:XObj e Ca dd s.heap vs)
  (hQ:∀ h',Tra N e Ca dd (rawInt L) h'->Stp N (frs (env::outer)) e s.heap h'->h'.FunFrames base (env::outer)->Q () { s with heap:=h' }) :
  wpAny M A (do setField (.ref e) 1 (<- nP head (<- frameOf env) .none (rawInt L) .none (<- entryPlaceOf L hadNext))) Q E s:=by
 obtain ⟨oe,he,hc,hdd,hd,hsz,hsl⟩:=hx
 have noFr:e∉frs (env::outer):=Agi fr he hd
 refine aG (wpAny_frameOf_fun hfr fr hf fun h1 so=>?_)
 refine aG (wpAny_entryPlaceOf fun pl hpl=>?_)
 unfold nP newFields
 refine aG (eO ?_ (hpl.sizeOk5 _ _ _ _ _))
 generalize hT:({ cls:=.type "traceback",dict:=none,data:=.fields ([head,.ref L,.none,rawInt L,.none]++(if pl.isEmpty then aT 6 dF else pl)).toArray }:Obj)=oT
 have e1:h1.get? e=some oe:=(so.2.1 e noFr).trans he
 have e2:(h1.push oT).get? e=some oe:=aF oT e1
 have z1:h1.objs.size=s.heap.objs.size:=so.1
 have hne:h1.objs.size≠e:=gO (aV e1)
 have hd3:=dG hd (·.setIfInBounds 1 (bE h1.objs.size))
 have e3:=dB (eB (·.setIfInBounds 1 (bE h1.objs.size))) e2 (dN hd3)
 have hTf:oT.isFreed=false:=by subst hT;rfl
 have t3:((h1.push oT).update e (eB (·.setIfInBounds 1 (bE h1.objs.size)))).get? h1.objs.size=some oT:=(cM _ _ (cR hne)).trans (aW h1 hTf)
 have up:∀ b o,b≠e->h1.get? b=some o->((h1.push oT).update e (eB (·.setIfInBounds 1 (bE h1.objs.size)))).get? b=some o:=fun b o hb q=>by
  rw[cM _ _ (cR hb)]
  exact aF oT q
 refine gJ e2 hd hsz (hQ _ ?_ ⟨fun b o _ hb hbe q=>up b o hbe ((so.2.1 b hb).trans q),fun b o hb q=>?_,fun b o q=>?_,?_⟩ (fr.of_keeps fun b o q hnf=>?_))
 ·refine ⟨_,h1.objs.size,oT,_,Xo hd ⟨⟨hc,hdd⟩,hsz,hsl⟩ e3,by simp[hsz],by rw[z1];exact hN,hne,t3,by subst hT;rfl,?_⟩
  first
   | (simp;done)
   | (rcases hpl with rfl | ⟨_,_,_,_,_,_,_,rfl⟩ <;> simp)
 ·obtain ⟨sl,q2⟩:=so.2.2 b o q
  exact ⟨sl,up b _ (fun z=>noFr (z ▸ hb)) q2⟩
 ·obtain ⟨sl,q2⟩:=so.2.2 b o q
  exact O7 (aF oT q2) e2 (dN (dG hd _))
 ·rw[fV,eD,z1];exact jD _
 ·obtain ⟨sl,q2⟩:=so.2.2 b o q
  exact ⟨_,up b _ (fun z=>by rw[z,he] at q;cases q;exact hnf vs hd) q2,rfl⟩
theorem Ae3{Q:Unit->aI->Prop}(hfr:A.frames=some (env::outer))(hf:env.frame=some L)(fr:s.heap.FunFrames base (env::outer))(F:Fly N e Ca dd s.heap)
  (hQ:∀ h',Tra N e Ca dd (rawInt L) h'->Stp N (frs (env::outer)) e s.heap h'->h'.FunFrames base (env::outer)->Q () { s with heap:=h' }):wpAny M A (noteFrame (.ref e) env) Q E s:=by
 unfold noteFrame
 simp only[hf]
 rcases F.2 with ⟨vs,hx,h1⟩ | ⟨fl,vs,T,oT,ts,hx,h1,hB,hne,hT,hdT,h3⟩
 ·obtain ⟨oe,he,hc,hdd,hd,hsz,hsl⟩:=id hx
  refine aG (cV he hd h1 ?_)
  rw[if_neg (by decide)]
  exact Sk hfr hf F.1 fr hx hQ
 ·obtain ⟨oe,he,hc,hdd,hd,hsz,hsl⟩:=id hx
  refine aG (cV he hd h1 ?_)
  rw[if_pos (show (bE T != dF)=true from by simp)]
  refine aG (cV hT hdT h3 ?_)
  by_cases hfl:(fl == rawInt L)=true
  ·rw[if_pos hfl]
   have hfl':fl=rawInt L:=by simpa using hfl
   subst hfl'
   exact bD (hQ s.heap ⟨vs,T,oT,ts,hx,h1,hB,hne,hT,hdT,h3⟩ .refl fr)
  rw[if_neg hfl]
  refine aG (gJ hT hdT (kM.mp h3).1 ?_)
  have other:∀ b,b≠T->(s.heap.update T (eB (·.setIfInBounds 3 dF))).get? b=s.heap.get? b:=fun b hb=>cM _ _ (cR hb)
  have noT:∀ b o,s.heap.get? b=some o->(∀ ws,o.data≠.fields ws)->b≠T:=fun b o q n z=>by
   rw[z,hT] at q;cases q;exact n ts hdT
  refine Sk (N:=N) (s:={ s with heap:=s.heap.update T (eB (·.setIfInBounds 3 dF)) }) hfr hf (by show N<=(s.heap.update T _).objs.size;rw[fV];exact F.1)
   (fr.of_keeps fun b o q n=>⟨o,(other b (noT b o q n)).trans q,rfl⟩) ⟨oe,(other e (cR hne)).trans he,hc,hdd,hd,hsz,hsl⟩ fun h' F' up fr'=>hQ h' F' ⟨fun b o l n z q=>?_,fun b o m q=>?_,fun b o q=>?_,?_⟩ fr'
  ·exact up.keep b o l n z ((other b (fun y=>absurd l (by rw[y];exact kN.mpr hB))).trans q)
  ·exact up.slot b o m ((other b fun y=>Agi fr hT hdT (y ▸ m)).trans q)
  ·obtain ⟨o1,q1⟩:=O7 (f:=eB (·.setIfInBounds 3 dF)) q hT (dN (dG hdT _))
   exact up.all b o1 q1
  ·have:=up.sz
   rw[show ({ s with heap:=s.heap.update T (eB (·.setIfInBounds 3 dF)) }:aI).heap.objs.size=s.heap.objs.size from fV _ _ _] at this
   exact this
theorem Pq{fl:aE}{frm:Option Addr}{l:List eN}{Q:Unit->aI->Prop}(fr:s.heap.FunFrames base l)(F:Tra N e Ca dd fl s.heap)
  (hQ:∀ h',Tra N e Ca dd (frm.elim dF fun f=>rawInt f) h'->Stp N (frs l) e s.heap h'->h'.FunFrames base l->Q () { s with heap:=h' }):wpAny M A (setFlight (.ref e) frm) Q E s:=by
 obtain ⟨vs,T,oT,ts,hx,h1,hB,hne,hT,hdT,h3⟩:=F
 obtain ⟨oe,he,hc,hdd,hd,hsz,hsl⟩:=id hx
 unfold setFlight
 refine aG (cV he hd h1 ?_)
 rw[if_pos (show (bE T != dF)=true from by simp)]
 have hs3:3 < ts.size:=(kM.mp h3).1
 have noT:∀ b o,s.heap.get? b=some o->(∀ ws,o.data≠.fields ws)->b≠T:=fun b o q n z=>by
  rw[z,hT] at q;cases q;exact n ts hdT
 have other:∀ b,b≠T->(s.heap.update T (eB (·.setIfInBounds 3 (frm.elim dF fun f=>rawInt f)))).get? b=s.heap.get? b:=fun b hb=>cM _ _ (cR hb)
 refine gJ hT hdT hs3 (hQ _ ?_ ⟨fun b o l n z q=>(other b (fun y=>absurd l (by rw[y];exact kN.mpr hB))).trans q,fun b o m q=>⟨o.slots,(other b fun y=>Agi fr hT hdT (y ▸ m)).trans q⟩,fun b o q=>O7 q hT (dN (dG hdT _)),by rw[fV];exact bB _⟩ (fr.of_keeps fun b o q n=>⟨o,(other b (noT b o q n)).trans q,rfl⟩))
 exact ⟨vs,T,_,_,⟨oe,(other e (cR hne)).trans he,hc,hdd,hd,hsz,hsl⟩,h1,hB,hne,dB _ hT (dN (dG hdT _)),dG hdT _,by simp[hs3]⟩
theorem Acm{Q:Unit->aI->Prop}(hfr:A.frames=some (env::outer))(hf:env.frame=some L)(fr:s.heap.FunFrames base (env::outer))(F:Fly N e Ca dd s.heap)
  (hQ:∀ h',Fly N e Ca dd h'->Stp N (frs (env::outer)) e s.heap h'->h'.FunFrames base (env::outer)->Q () { s with heap:=h' }):wpAny M A (noteFrame (.ref e) env) (fun _ s'=>wpAny M A (setFlight (.ref e) none) Q E s') E s:=by
 refine Ae3 hfr hf fr F fun h1 F1 u1 fr1=>?_
 refine Pq (s:={ s with heap:=h1 }) fr1 F1 fun h2 F2 u2 fr2=>hQ h2 ⟨cC F.1 (cC u1.sz u2.sz),.inr ⟨_,F2⟩⟩ (u1.trans u2) fr2
theorem Y4{Q:Unit->aI->Prop}(hfr:A.frames=some (env::outer))(hf:env.frame=some L)(fr:s.heap.FunFrames base (env::outer))(F:Fly N e Ca dd s.heap)
  (hQ:∀ h',Fly N e Ca dd h'->Stp N (frs (env::outer)) e s.heap h'->h'.FunFrames base (env::outer)->Q () { s with heap:=h' }):wpAny M A (leaving env (.ref e)) Q E s:=by
 unfold leaving
 exact aG (Acm hfr hf fr F hQ)
end
theorem Aco{P:bN}{w:bW}{H:Hp}{h h':Heap}{N:Nat}{fs:List Addr}{e Ca:Addr}{dd:Option Addr}(ok:HOk P w H h)(hf:∀ b∈fs,H b=none)(tr:∀ b o,H b=some o->b < N)(S:Stp N fs e h h')
  (me:H e=some (.ext (ExcIs e Ca dd false))) (x:ExcIs e Ca dd false h'):HOk P w H h':=fun a o q=>by
 by_cases ha:a=e
 ·subst ha
  rw[me] at q
  cases q
  obtain ⟨o,vs,h1,_,_,_,_,_,_⟩:=id x
  refine ⟨x,⟨o,h1⟩,fun h1 h2 z k=>?_⟩
  obtain ⟨o1,ws,q1,r1,r2,r3,r4,r5,r6⟩:=z
  exact ⟨o1,ws,k _ q1,r1,r2,r3,r4,r5,r6⟩
 ·refine (ok a o q).stay (fun b u hb z=>?_) (fun _ z=>z) fun _ _ z=>z
  have hbt:∃ ob,H b=some ob:=by
   rcases hb with hb | hb
   ·exact ⟨o,by rw[hb];exact q⟩
   ·exact ⟨_,hb⟩
  obtain ⟨ob,hob⟩:=hbt
  refine S.keep b u (tr b ob hob) (fun m=>by rw[hf b m] at hob;cases hob) ?_ z
  rintro rfl
  rcases hb with hb | hb
  ·exact ha hb.symm
  ·rw[me] at hb;cases hb
theorem Un.stp{fs fs':List Addr}{H H':Hp}{h0 h h':Heap}{N:Nat}{e:Addr}(u:Un fs [] H H' h0 h)(S:Stp N fs' e h h')(hN:∀ b o,h0.get? b=some o->b < N/\(b∉fs->b∉fs'))(hs:∀ b∈fs,b∈fs')(me:H' e≠none):Un fs [] H H' h0 h' where
 keep:=fun b o q n hb hx=>S.keep b o (hN b o q).1 ((hN b o q).2 hb) (fun z=>me (by rw[<- z];exact u.free b o q n hx)) (u.keep b o q n hb hx)
 slot:=fun b o q n hb hx=>by
  obtain ⟨sl,q1⟩:=u.slot b o q n hb hx
  obtain ⟨sl2,q2⟩:=S.slot b _ (hs b hb) q1
  exact ⟨sl2,q2⟩
 free:=u.free
 there:=fun b o q hx=>let ⟨o1,q1⟩:=u.there b o q hx;S.all b o1 q1
 tups:=u.tups
 frzs:=u.frzs
 tbls:=u.tbls
structure Bd(X:Cx)(pins:List (Addr×Obj))(N:Nat):Prop where
 s0:X.s₀.heap.objs.size<=N
 lo:X.env.locals < N
 ce:∀ x c,X.env.cells.lookup x=some c->c < N
 pi:∀ p∈X.pn++pins,p.1 < N
theorem Bd.of{X:Cx}{pins:List (Addr×Obj)}{σ:L2.St}{H:Hp}{s:aI}{N:Nat}(I:L2.Inv X pins σ H s)(h:s.heap.objs.size<=N):Bd X pins N:=
 ⟨cC I.sz h,aU I.lt h,fun x c q=>by
  obtain ⟨v,o,ho,_⟩:=I.cell x c q
  exact aU (aV ho) h,fun p hp=>aU (aV (I.pin p hp).1) h⟩
structure FlX(X:Cx)(pins:List (Addr×Obj))(σ:L2.St)(H:Hp)(e Ca:Addr)(dd:Option Addr)(N:Nat)(s:aI):Prop where
 inv:L2.Inv X pins σ H s
 bd:Bd X pins N
 fly:Fly N e Ca dd s.heap
 tr:∀ b o,H b=some o->b < N
 me:H e=some (.ext (ExcIs e Ca dd false))
section
variable {X:Cx}{pins:List (Addr×Obj)}{σ:L2.St}{H:Hp}{s:aI}{e Ca:Addr}{dd:Option Addr}{N:Nat}{h':Heap}
theorem Inv.stepX{t':Nat}(I:L2.Inv X pins σ H s)(bd:Bd X pins N)(tr:∀ b o,H b=some o->b < N)(me:H e=some (.ext (ExcIs e Ca dd false)))(S:Stp N (frs X.stack) e s.heap h')(fl:ExcIs e Ca dd false h'):L2.Inv X pins σ H { s with heap:=h',toks:=t' }:=by
 refine I.call (g':=s.gens) (d':=s.drawn) (t':=t') (h':=h') (ch:=(iX s.heap.objs.size).filter (N<=·)) ⟨fun b o q n hb hx=>?_,fun b o q n hb hx=>S.slot b o hb q,fun _ _ _ n _=>n,fun b o q _=>S.all b o q,fun _ _ z=>z,fun _ _ _ z=>z,fun b ps z=>⟨#[],by rw[z];simp⟩⟩ (Aco I.hok I.stkFree tr S me fl) I.bare (fun b hb=>?_)
 ·refine S.keep b o ?_ hb (fun z=>by rw[z,me] at n;cases n) q
  by_cases hl:b < N
  ·exact hl
  ·exact absurd (iA.mpr ⟨mX.mpr (aV q),by simpa using hl⟩) hx
 ·have hb:N<=b:=by simpa using (iA.mp hb).2
  refine ⟨.inr (cC bd.s0 hb),fun z=>absurd bd.lo (by rw[<- z];exact kN.mpr hb),fun x c q z=>absurd (bd.ce x c q) (by rw[z];exact kN.mpr hb),fun p hp z=>absurd (bd.pi p hp) (by rw[z];exact kN.mpr hb)⟩
theorem FlX.step(F:FlX X pins σ H e Ca dd N s)(S:Stp N (frs X.stack) e s.heap h')(fl:Fly N e Ca dd h'):FlX X pins σ H e Ca dd N { s with heap:=h' }:=
 ⟨Inv.stepX (t':=s.toks) F.inv F.bd F.tr F.me S fl.excIs,F.bd,fl,F.tr,F.me⟩
end
inductive CFl(P:bN)(w:bW)(K:aC)(outer:List eN)(H:Hp)(α:List Addr)(s:aI)(n:Nat)(L':UH)(e:aE)(s':aI):Prop
 | mk (ea:_) (Ca:_) (dd:_) (N:_) (H':_) (α':_) (h0:e = .ref ea) (h1:s'.os=s.os) (h2:jX s'.gens) (h3:Un (frs outer) [] H H' s.heap s'.heap) (h4:HOk P w H' s'.heap) (h5:s.heap.objs.size<=N) (h6:Fly N ea Ca dd s'.heap) (h7:(∀ b o,H' b=some o->b < N)) (h8:H' ea=some (.ext (ExcIs ea Ca dd false))) (h9:Gr H α H' α') (h10:Abs K H' α' L') (h11:α'[n]? = some ea):CFl P w K outer H α s n L' e s'
abbrev XN:=List U->UH->Option (Nat×UH)
structure FnX(P:bN)(w:bW)(K:aC)(mg:Str->Option aE)(base:Heap)(k:Nat)(f:Addr)(fd:bM)(ps:List Str)(x:XN):Prop where
 run:∀ (A:cK) (outer:List eN) (s:aI) (H:Hp) (args:Args) (us:List aE) (vs:List V) (α:List Addr) (L:UH) (ws:List U) (n:Nat) (L':UH),Room k A->Env0 P w K mg base A outer s H->lB s fd args (ps.zip us)->Vals vs us ->
  Abs K H α L->RepL K H α ws vs->ws.length=ps.length->x ws L=some (n,L')->jC (model P w) A (.call (.ref f) args) (fun r s'=>∃ e,r = .error e/\CFl P w K outer H α s n L' e s') s
abbrev XS:=UE->UH->Option (Nat×UE×UH)
abbrev XE:=UE->UH->Option (Nat×UH)
inductive FXP(X:Cx)(pins:List (Addr×Obj))(H:Hp)(α:List Addr)(n:Nat)(δ':UE)(L':UH)(e:aE)(s':aI):Prop
 | mk (ea:_) (Ca:_) (dd:_) (N:_) (σ':_) (H':_) (α':_) (h0:e = .ref ea) (h1:FlX X pins σ' H' ea Ca dd N s') (h2:Gr H α H' α') (h3:Abs X.K H' α' L') (h4:RepS X.K H' α' δ' σ') (h5:α'[n]? = some ea):FXP X pins H α n δ' L' e s'
theorem FXP.from{X:Cx}{pins:List (Addr×Obj)}{H H1:Hp}{α α1:List Addr}{n:Nat}{δ':UE}{L':UH}{e:aE}{s':aI}(g:Gr H α H1 α1)(h:FXP X pins H1 α1 n δ' L' e s'):FXP X pins H α n δ' L' e s':=by
 obtain ⟨ea,Ca,dd,N,σ',H',α',h1,h2,h3,r1,r2,r3⟩:=h
 exact ⟨ea,Ca,dd,N,σ',H',α',h1,h2,g.trans h3,r1,r2,r3⟩
noncomputable def PXE(X:Cx)(e:Expr)(x:XE):Prop:=∀ (pins:List (Addr×Obj)) (s:aI) (σ:L2.St) (H:Hp) (α:List Addr) (δ:UE) (L:UH) (n:Nat) (L':UH),L2.Inv X pins σ H s->Abs X.K H α L->RepS X.K H α δ σ->x δ L=some (n,L') ->
 wpAny (model X.prog X.w) X.A (eval e X.env) (fun _ _=>False) (FXP X pins H α n δ L') s
noncomputable def PXS(X:Cx)(st:Stmt)(x:XS):Prop:=∀ (pins:List (Addr×Obj)) (s:aI) (σ:L2.St) (H:Hp) (α:List Addr) (δ:UE) (L:UH) (n:Nat) (δ':UE) (L':UH),L2.Inv X pins σ H s->Abs X.K H α L->RepS X.K H α δ σ->x δ L=some (n,δ',L') ->
 wpAny (model X.prog X.w) X.A (exec st X.env) (fun _ _=>False) (FXP X pins H α n δ' L') s
noncomputable def Aan(X:Cx)(sts:List Stmt)(x:XS):Prop:=∀ (pins:List (Addr×Obj)) (s:aI) (σ:L2.St) (H:Hp) (α:List Addr) (δ:UE) (L:UH) (n:Nat) (δ':UE) (L':UH),L2.Inv X pins σ H s->Abs X.K H α L->RepS X.K H α δ σ->x δ L=some (n,δ',L') ->
 wpAny (model X.prog X.w) X.A (execs sts X.env) (fun _ _=>False) (FXP X pins H α n δ' L') s
section
variable {X:Cx}{e:Expr}{es:List Expr}{st:Stmt}{pins:List (Addr×Obj)}{s:aI}{σ:L2.St}{H:Hp}{α:List Addr}{δ:UE}{L L':UH}{E:aE->aI->Prop}
theorem PEF.go{f:FE}{u:U}{Q:aE->aI->Prop}(h:PEF X e f)(hx:∀ e s,X.xe e s->False)(I:L2.Inv X pins σ H s)(A:Abs X.K H α L)(S:RepS X.K H α δ σ)(hf:f δ L=some (u,L'))
  (q:∀ x v H' α' s',L2.Inv X pins σ H' s'->Gr H α H' α'->Abs X.K H' α' L'->RepU X.K H' α' u v->RelV v x->Q x s'):wpAny (model X.prog X.w) X.A (eval e X.env) Q E s:=
 cL (h pins s σ H (fun v H'=>∃ α',Gr H α H' α'/\Abs X.K H' α' L'/\RepU X.K H' α' u v) I ⟨α,δ,L,A,S,u,L',hf,fun v H' α' g A' r=>⟨α',g,A',r⟩⟩) (fun x s' ⟨v,H',I',rv,α',g,A',r⟩=>q x v H' α' s' I' g A' r rv) fun _ _ z=>(hx _ _ z).elim
theorem PTF.go{f:FT}{b:Bool}{Q:Bool->aI->Prop}(h:PTF X e f)(hx:∀ e s,X.xe e s->False)(I:L2.Inv X pins σ H s)(A:Abs X.K H α L)(S:RepS X.K H α δ σ)(hf:f δ L=some (b,L'))
  (q:∀ H' α' s',L2.Inv X pins σ H' s'->Gr H α H' α'->Abs X.K H' α' L'->Q b s'):wpAny (model X.prog X.w) X.A (isTrue e X.env (eval e X.env)) Q E s:=
 cL (h pins s σ H (fun b' H'=>b'=b/\∃ α',Gr H α H' α'/\Abs X.K H' α' L') I ⟨α,δ,L,A,S,b,L',hf,fun H' α' g A'=>⟨rfl,α',g,A'⟩⟩) (fun x s' ⟨H',I',hb,α',g,A'⟩=>by subst hb;exact q H' α' s' I' g A') fun _ _ z=>(hx _ _ z).elim
theorem PAF.go{f:FA}{us:List U}{pos:Pos}{Q:List aE->aI->Prop}(h:PAF X es f)(hx:∀ e s,X.xe e s->False)(I:L2.Inv X pins σ H s)(A:Abs X.K H α L)(S:RepS X.K H α δ σ)(hf:f δ L=some (us,L'))
  (q:∀ xs vs H' α' s',L2.Inv X pins σ H' s'->Gr H α H' α'->Abs X.K H' α' L'->RepL X.K H' α' us vs->Vals vs xs->Q xs s'):wpAny (model X.prog X.w) X.A (spliced (backTo pos (aS es X.env))) Q E s:=
 cL (h pos pins s σ H (fun vs H'=>∃ α',Gr H α H' α'/\Abs X.K H' α' L'/\RepL X.K H' α' us vs) I ⟨α,δ,L,A,S,us,L',hf,fun vs H' α' g A' r=>⟨α',g,A',r⟩⟩) (fun x s' ⟨vs,H',I',rv,α',g,A',r⟩=>q x vs H' α' s' I' g A' r rv) fun _ _ z=>(hx _ _ z).elim
end
section
variable {X:Cx}{e:Expr}{es:List Expr}{st:Stmt}{rest:List Stmt}{pos:Pos}
noncomputable def xNo:XS:=fun _ _=>none
noncomputable def Vs(f:FS)(x y:XS):XS:=fun δ L=>match x δ L with
 | some r=>some r
 | none=>match f δ L with
  | some (.nx δ',L')=>y δ' L'
  | _=>none
theorem Iz{x:XS}(h1:PXS X st x):Aan X [st] x:=by
 intro pins s σ H α δ L n δ' L' I A S q
 exact iY (cL (h1 pins s σ H α δ L n δ' L' I A S q) (fun _ _ z=>z.elim) fun _ _ z=>z)
noncomputable def xOf(x:XE):XS:=fun δ L=>(x δ L).map fun r=>(r.1,δ,r.2)
theorem Aio{x:XE}{δ δ':UE}{L L':UH}{n:Nat}(q:xOf x δ L=some (n,δ',L')):x δ L=some (n,L')/\δ' = δ:=by
 unfold xOf at q
 obtain ⟨r,h1,h2⟩:=aH.mp q
 cases h2
 exact ⟨h1,rfl⟩
theorem Adc{x:XE}(h:PXE X e x)(hs:swapsWith e none pos.line X.env=pure false:=by rfl):PXS X (.Expr e pos) (xOf x):=by
 intro pins s σ H α δ L n δ' L' I A S q
 obtain ⟨q,rfl⟩:=Aio q
 exact wpAny_Expr_any (cL (h pins s σ H α δ' L n L' I A S q) (fun _ _ z=>z.elim) fun _ _ z=>z) I.quiet hs
noncomputable def xIf(c:FT)(x y:XS):XS:=fun δ L=>match c δ L with
 | some (b,L1)=>if b=true then x δ L1 else y δ L1
 | none=>none
theorem Aca{c:Expr}{a b:List Stmt}{tc:FT}{x y:XS}(hc:PTF X c tc)(ha:Aan X a x)(hb:Aan X b y)(hx:∀ e s,X.xe e s->False:=by exact fun _ _ z=>z):PXS X (.If c a b pos) (xIf tc x y):=by
 intro pins s σ H α δ L n δ' L' I A S q
 unfold xIf at q
 split at q
 ·rename_i k L1 q1
  refine wpAny_If (hc.go hx I A S q1 fun H1 α1 s1 I1 g1 A1=>?_)
  cases k with
  | true=>exact cL (ha pins s1 σ H1 α1 δ L1 n δ' L' I1 A1 (S.mono g1) q) (fun _ _ z=>z.elim) fun _ _ z=>z.from g1
  | false=>exact cL (hb pins s1 σ H1 α1 δ L1 n δ' L' I1 A1 (S.mono g1) q) (fun _ _ z=>z.elim) fun _ _ z=>z.from g1
 ·cases q
theorem Ahl{sts:List Stmt}:Aan X sts xNo:=fun _ _ _ _ _ _ _ _ _ _ _ _ _ z=>nomatch z
end
section
variable {X:Cx}{e o:Expr}{es:List Expr}{p pos apos:Pos}{x m C:Str}{k n:Nat}{f fa Ca:Addr}{fd:bM}{ps:List Str}{F:XN}{g:FA}{fo:FE}
theorem Ani{pins:List (Addr×Obj)}{σ:L2.St}{H:Hp}{α:List Addr}{δ:UE}{L L':UH}{s:aI}{us:List aE}{vs:List V}{ws:List U}{r:Nat}{Q:aE->aI->Prop}(hF:FnX X.prog X.w X.K X.mg X.base k f fd ps F)(hr:Room k X.A)(hb:Binds X.K fd ps [])
  (I:L2.Inv X pins σ H s) (A:Abs X.K H α L) (S:RepS X.K H α δ σ) (rv:Vals vs us) (rl:RepL X.K H α ws vs) (hl:ws.length=ps.length) (q:F ws L=some (r,L')) :
  wpAny (model X.prog X.w) X.A (call (.ref f) us) Q (FXP X pins H α r δ L') s:=by
 have h1:us.length=ps.length:=by rw[<- rv.length,<- rl.length];exact hl
 have hbt:lB s fd ⟨us,[]⟩ (ps.zip us):=by have:=hb s us I.kIn (by rw[aX];exact h1);rwa [aX] at this
 refine iD (iO (hF.run X.A X.stack s H ⟨us,[]⟩ us vs α L ws r L' hr I.env0 hbt rv A rl hl q) fun res s' hq=>?_)
 obtain ⟨ev,rfl,ea,Cx,dd,N,H',α',rfl,os,bare,un,hok,hN,fl,tr,me,g',A',at'⟩:=hq
 refine ⟨ea,Cx,dd,N,σ,H',α',rfl,⟨?_,.of I hN,fl,tr,me⟩,g',A',S.mono g',at'⟩
 exact I.call' os un hok bare fun b z=>absurd z (by simp)
noncomputable def Jj(C m:Str)(k:Nat)(F:XN)(fo:FE)(g:FA):XE:=fun δ L=>(fo δ L).bind fun p=>(Pj C p.1 p.2).bind fun r=>if r.2.lookup m=none then (g δ p.2).bind fun q=>if q.1.length+1=k then F (.ref r.1::q.1) q.2 else none else none
theorem Nd{pl:Sem Bool}(T:ClsF X.K C Ca)(hm:Meth X.K Ca m fa)(hF:FnX X.prog X.w X.K X.mg X.base k fa fd ps F)(hr:Room k X.A)(hb:Binds X.K fd ps [])(ho:PEF X o fo)(ha:PAF X (e::es) g)
  (hn:n=ps.length:=by rfl) (hx:∀ e s,X.xe e s->False:=by exact fun _ _ z=>z) (hst:aS (e::es) X.env=(false,eval e X.env)::aS es X.env:=by rfl) (hpl:(backTo pos (aS es X.env)).any (·.1)=false:=by rfl)
  (ht:eval (.Call (.Attribute o m apos) (e::es) [] pos) X.env=(do
   let ov <- eval o X.env
   standAt apos.atName
   let (f,first) <- holding [ov] (getMethod ov m pl)
   callWith pos f first (backTo pos (aS (e::es) X.env)) (backToKw pos (keywordEach [] X.env))):=by rfl) :
  PXE X (.Call (.Attribute o m apos) (e::es) [] pos) (Jj C m n F fo g):=by
 intro pins s σ H α δ L r L' I A S q
 obtain ⟨⟨u,L1⟩,q1,qa⟩:=aB.mp q
 obtain ⟨⟨j,fs⟩,q2,qb⟩:=aB.mp qa
 simp only at qb
 split at qb
 ·rename_i hno
  obtain ⟨⟨ws,L2⟩,q3,qc⟩:=aB.mp qb
  simp only at qc
  split at qc
  ·rename_i hl
   obtain ⟨rfl,hL⟩:=Ni q2
   refine gE (pl:=pl) (ho.go hx I A S q1 fun x0 v H1 α1 s1 I1 g1 A1 r1 rv1=>?_) ht
   obtain ⟨a,ea,Cb,dx,vs,hns,hav,hk,rr⟩:=A1.addr hL
   obtain ⟨a',ea',rfl⟩:=r1.ref_of A1
   rw[ea] at ea';cases ea'
   have:=T.eq hns
   subst this
   obtain rfl:x0=bE a:=rv1
   refine Mx I1 hav T.cl hm ((Hy hk rr).2 hno) ?_
   refine iE (first:=[.ref a]) (h₀:=X.base) I.ok.mod.kin hm.kp (ha.go hx I1 A1 (S.mono g1) q3 fun us vs2 H2 α2 s2 I2 g2 A2 rl rv=>⟨I2.kIn,?_⟩) hst hpl
   refine cL (Ani (Q:=fun _ _=>False) (δ:=δ) (us:=.ref a::us) (vs:=.ref a::vs2) (ws:=.ref j::ws) hF hr hb I2 A2 ((S.mono g1).mono g2) (.cons rfl rv) (.cons ?_ rl) (by rw[aL];exact hl.trans hn) qc) (fun _ _ z=>z) fun _ _ z=>(z.from g2).from g1
   unfold RepU
   exact ⟨a,g2.at ea,rfl⟩
  ·cases qc
 ·cases qb
end
noncomputable def fnX(N m:Nat)(x:XS):XN:=fun us L=>if us.length=m then (x (us.map some++aT (N - us.length) none) L).map fun r=>(r.1,r.2.2) else none
section
variable {P:bN}{w:bW}{K:aC}{mg:Str->Option aE}{base:Heap}
theorem Fun.okX{x qual:Str}{st:Stmt}{f:Addr}{fd:bM}{N ps:List Str}{k:Nat}{body:XS}(F:Fun K x qual st f fd)(S:FnScope N ps (Ak st))
  (hbody:∀ (cdv:aE) (A:cK) (outer:List eN) (s:aI) (H:Hp) (E:XK),Room k (A.deeper (envOfC qual (Ak st) s.heap.objs.size f cdv))->Aan (Vu CX0 P w K mg base N qual (Ak st) f cdv A outer s H E).nox (A0 st) body) :
  FnX P w K mg base (k+1) f fd ps (fnX N.length ps.length body):=by
 obtain ⟨oc,od,kV,doc,pm,an,cdv,ct,osl,rfl,lk,hcd⟩:=F.ex
 refine ⟨fun A outer s H args us vs α L ws n L' hr e0 hb rv Ab rl hl q=>?_⟩
 unfold fnX at q
 rw[if_pos hl] at q
 obtain ⟨⟨n1,δ1,L1⟩,qb,q2⟩:=aH.mp q
 cases q2
 have hvl:vs.length=ps.length:=by rw[<- rl.length];exact hl
 have KX:K.In s.heap:=e0.mod.kin.keeps fun b o e=>(e0.bs b o e).1
 have lim:s.heap.NoLimit:=e0.mod.nolimit.keeps fun b o e=>(e0.bs b o e).1
 have hkind:∀ y∈ps.zip us,(Ak st).names.lookup y.1=some .local\/((Ak st).names.lookup y.1=some .cell/\((cellsFrom (s.heap.objs.size+1) (Ak st).names []).lookup y.1).isSome=true):=fun ⟨y,v⟩ hy=>by
  rcases S.par y (jM hy).1 with z | z
  ·exact .inl z
  ·exact .inr ⟨z,iR _ _ _ (.inl z)⟩
 refine mT hr.depth (KX _ _ lk) rfl S.co S.gen rfl (oA KX hcd) (hb _ _ _ _ ?_)
 refine kH S.kind hkind fun env he s1 xc=>?_
 subst he
 refine ⟨lim.keeps xc.toInCall.keep,codeAny_func ?_⟩
 have I:L2.Inv (Vu CX0 P w K mg base N qual (Ak st) f cdv A outer s H E0) [] (start N vs) H s1:=Ui S hr.hd e0 hvl rv xc
 refine cL (hbody cdv A outer s H E0 (hr.deeper _) [] s1 (start N vs) H α _ L n1 δ1 L1 (I.wish _) Ab (RepS.start N rl) qb) (fun _ _ z=>z.elim) fun e s' hs=>?_
 obtain ⟨ea,Ca,dd,Nn,σ',H',α',rfl,Fl,g',A',S',at'⟩:=hs
 refine Y4 (nA e0.frames) rfl Fl.inv.stack Fl.fly fun h2 fl2 st2 fr2=>?_
 have J:=Fl.inv
 refine ⟨_,rfl,ea,Ca,dd,Nn,H',α',rfl,J.os,J.bare,?_,Aco J.hok J.stkFree Fl.tr st2 Fl.me fl2.excIs,Fl.bd.s0,fl2,Fl.tr,Fl.me,g',A',at'⟩
 refine Un.stp (fs:=frs outer) J.base st2 (fun b o hb=>⟨aU (aV hb) Fl.bd.s0,fun nb m=>?_⟩) (fun b hb=>?_) (by rw[Fl.me];intro z;cases z)
 ·rcases cB.mp (J.stkSub b m) with z | z
  ·exact absurd (aV hb) (by rw[z];exact kN.mpr J.ok.above)
  ·exact nb z
 ·show b∈frs (_::outer)
  unfold frs
  rw[gW]
  exact bI _ hb
end
noncomputable def bmV:List aE:=[.type "ValueError",.type "Exception",.type "BaseException",.type "object"]
noncomputable def Ais(d:Data):Option ClassData:=match d with
 | .cls cd=>some cd
 | _=>none
theorem Ajx{d:Data}{cd:ClassData}(h:Ais d=some cd):d = .cls cd:=by
 unfold Ais at h
 split at h
 ·cases h;rfl
 ·cases h
noncomputable def Py(K:aC)(C:Addr):Bool:=match K.lookup C with
 | some o=>(o.cls == .type "type" && (match Ais o.data with | some cd=>!cd.hasDel&&(cd.mro.head? == some (.ref C)&&PySem.W.tailIn K bmV cd.mro.tail) | none=>false))&&(o.slots.toList.length == 6&&o.slots.toList[4]? == some (some (.builtin "ValueError.__new__")))
 | none=>false
inductive six_I(α:Type)(l:List α)(k:α):Prop
 | mk (k0:_) (k1:_) (k2:_) (k3:_) (k5:_) (h0:l=[k0,k1,k2,k3,k,k5]):six_I α l k
theorem six{α:Type}{l:List α}{k:α}(h:l.length=6)(e:l[4]? = some k):six_I α l k:=by
 rcases l with _ | ⟨k0,l⟩
 ·cases h
 rcases l with _ | ⟨k1,l⟩
 ·cases h
 rcases l with _ | ⟨k2,l⟩
 ·cases h
 rcases l with _ | ⟨k3,l⟩
 ·cases h
 rcases l with _ | ⟨k4,l⟩
 ·cases h
 rcases l with _ | ⟨k5,l⟩
 ·cases h
 rcases l with _ | ⟨_,l⟩
 ·cases e;exact ⟨k0,k1,k2,k3,k5,rfl⟩
 ·cases h
inductive exc_obj_I(h:Heap)(C:Addr):Prop
 | mk (nm:_) (qn:_) (N:_) (bs:_) (bm:_) (hdct:_) (sn:_) (sub:_) (ab:_) (col:_) (dd:_) (k0:_) (k1:_) (k2:_) (k3:_) (k5:_) (h0:h.get? C=some (excClassObj nm qn C N bs bm hdct sn sub ab col dd k0 k1 k2 k3 k5 "ValueError.__new__")) (h1:OwnTail h bmV bm):exc_obj_I h C
theorem N5{K:aC}{h:Heap}{C:Addr}(X:K.In h)(q:Py K C=true):exc_obj_I h C:=by
 unfold Py at q
 cases ho:K.lookup C with
 | none=>rw[ho] at q;cases q
 | some o=>
  rw[ho] at q
  obtain ⟨q1,q2⟩:=fJ.mp q
  obtain ⟨q1,q3⟩:=fJ.mp q1
  obtain ⟨q4,q5⟩:=fJ.mp q2
  obtain ⟨cls,dd,dat,⟨l⟩⟩:=o
  obtain ⟨k0,k1,k2,k3,k5,e6⟩:=six (beq_iff_eq.mp q4) (beq_iff_eq.mp q5)
  obtain rfl:l=_:=e6
  obtain rfl:=beq_iff_eq.mp q1
  cases hd:Ais dat with
  | none=>simp only[hd] at q3;cases q3
  | some cd=>
   simp only[hd] at q3
   obtain ⟨nm,bs,mro,ns,qn,hdt,sn,sub,ab,col,del⟩:=cd
   obtain rfl:=Ajx hd
   obtain ⟨q6,q7⟩:=fJ.mp q3
   obtain ⟨q7,ht⟩:=fJ.mp q7
   cases mro with
   | nil=>cases beq_iff_eq.mp q7
   | cons D bm=>
    cases beq_iff_eq.mp q7
    cases del with
    | true=>cases q6
    | false=>exact ⟨nm,qn,ns,bs,bm,hdt,sn,sub,ab,col,dd,k0,k1,k2,k3,k5,X _ _ ho,PySem.W.tail_of_in X ht⟩
abbrev Afb(rest:List aE):Obj:={ cls:=.type "tuple",data:=.seq rest.toArray }
abbrev Aa6(C t:Addr):Obj:={ cls:=.ref C,data:=.fields #[.ref t,.none,.none,.none,.bool false,.none] }
abbrev Jn(h:Heap)(C:Addr)(rest:List aE):Heap:=(h.push (Afb rest)).push (Aa6 C h.objs.size)
section
variable {prog:bN}{w:bW}{A:cK}{E:aE->aI->Prop}{K:aC}{C f:Addr}{rest:List aE}
theorem exHeap_e{h:Heap}:(Jn h C rest).get? (h.objs.size+1)=some (Aa6 C h.objs.size):=by
 have:=aW (h.push (Afb rest)) (o:=Aa6 C h.objs.size) rfl
 rwa [eD] at this
theorem Xz{h:Heap}{b:Addr}{o:Obj}(q:h.get? b=some o):(Jn h C rest).get? b=some o:=aF _ (aF _ q)
theorem Aey{h:Heap}{g:Array kC}{d:Drawn}{t:Nat}{os:fK}{Q:Fin->aI->Prop}(X:K.In h)(q:Py K C=true)(hf:aY K (.ref C) "__init__" = some (some (.ref f)))(ht:mZ K (.ref f)=some (.type "function"))(hl:rest.length<=sizeLine)
  (k:wpAny (model prog w) A (call (.ref f) (.ref (h.objs.size+1)::rest)) (fun r s'=>r = .none/\Q (.done (.ret (.ref (h.objs.size+1)))) s') E ⟨Jn h C rest,g,d,t,os⟩) :
  wpAny (model prog w) A (lF.«type.__call__» ⟨.ref C::rest,[]⟩) Q E ⟨h,g,d,t,os⟩:=by
 obtain ⟨nm,qn,N,bs,bm,hdct,sn,sub,ab,col,dd,k0,k1,k2,k3,k5,hC,T⟩:=N5 X q
 have FV:ExcBaseFacts "ValueError" "ValueError.__new__" "ValueError.__init__" bmV:=kO
 repeat (first | with_reducible refine gH hC ?_ | with_reducible refine wpAny_madeBy_exc hC ?_ | wp_step)
 refine codeAny_call_builtin_code (oF _ FV.quiet) (wpAny_check_new_subT FV T hC ?_)
 refine codeAny_exc_new_subT FV T hC ?_ hl
 show wpAny _ _ _ _ _ _
 have hC1:=aF { cls:=.ref C,data:=.fields #[.ref h.objs.size,.none,.none,.none,.bool false,.none] } (aF { cls:=.type "tuple",data:=.seq rest.toArray } hC)
 have X1:K.In (Jn h C rest):=X.keeps fun b o e=>Xz e
 have hget:((h.push { cls:=.type "tuple",data:=.seq rest.toArray }).push { cls:=.ref C,data:=.fields #[.ref h.objs.size,.none,.none,.none,.bool false,.none] }).get? (h.objs.size+1)=some { cls:=.ref C,data:=.fields #[.ref h.objs.size,.none,.none,.none,.bool false,.none] }:=exHeap_e
 have hcC:(bE C::bm).contains (.ref C)=true:=by simp
 unfold isInstance
 repeat (first | with_reducible refine gH hget ?_ | (with_reducible refine nQ hC1 ?_;rw[hcC]) | wp_step)
 show wpAny _ _ (typeLookup (.ref C) _) _ _ _
 refine dW (s:=⟨Jn h C rest,g,d,t,os⟩) (gI X1 hf) ?_
 refine gC (aG ?_)
 unfold bindSpecial
 refine aG (dW (s:=⟨Jn h C rest,g,d,t,os⟩) (PySem.W.looks_typeIn X1 ht) ?_)
 rw[if_pos (by decide)]
 refine bD (aG (cL k (fun r s' hr=>?_) fun _ _ x=>x))
 obtain ⟨rfl,hQ⟩:=hr
 wp_walk
 exact hQ
theorem Agu{s:aI}{Q:aE->aI->Prop}(X:K.In s.heap)(q:Py K C=true)(hf:aY K (.ref C) "__init__" = some (some (.ref f)))(ht:mZ K (.ref f)=some (.type "function"))(hl:rest.length<=sizeLine)
  (k:wpAny (model prog w) (A.under (.builtin "type.__call__" ⟨.ref C::rest,[]⟩)) (call (.ref f) (.ref (s.heap.objs.size+1)::rest)) (fun r s'=>r = .none/\Q (.ref (s.heap.objs.size+1)) s') E { s with heap:=Jn s.heap C rest }) :
  wpAny (model prog w) A (call (.ref C) rest) Q E s:=by
 obtain ⟨h,g,d,t,os⟩:=s
 obtain ⟨nm,qn,N,bs,bm,hdct,sn,sub,ab,col,dd,k0,k1,k2,k3,k5,hC,T⟩:=N5 X q
 have x1:=tc_lookup
 have x2:=tc_bind (.ref C)
 have hT:(⟨h,g,d,t,os⟩:aI).TypeIs (.ref C) "type" := ⟨_,hC,rfl⟩
 refine iD (codeAny_of_tree ?_)
 show wpAny _ _ (callAny (.ref C) _) _ _ _
 repeat (any_goals (first | assumption | with_reducible refine gH hC ?_ | wp_step))
 refine ⟨rfl,?_⟩
 exact codeAny_call_builtin_at (oF _ (by decide +kernel)) entry_typeCall (wpAny_check_type_call_sub hC (Aey X q hf ht hl k))
end
theorem Nu{P:bN}{w:bW}{H:Hp}{h:Heap}{e Ca:Addr}{dd:Option Addr}{fr:Bool}(x:ExcIs e Ca dd fr h):ObjOk P w H h e (.ext (ExcIs e Ca dd fr)):=by
 obtain ⟨o,vs,h1,_,_,_,_,_,_⟩:=id x
 refine ⟨x,⟨o,h1⟩,fun h1 h2 z k=>?_⟩
 obtain ⟨o1,ws,q1,r1,r2,r3,r4,r5,r6⟩:=z
 exact ⟨o1,ws,k _ q1,r1,r2,r3,r4,r5,r6⟩
structure MkX(K:aC)(C f:Addr):Prop where
 ex:Py K C=true
 init:aY K (.ref C) "__init__" = some (some (.ref f))
 fn:cX K (.ref f)=true
 kp:aZ K (.ref C)=true
noncomputable def Aob(Ca:Addr)(sp:Sp)(t:TA):TE:=fun σ H Q=>t σ H fun vs H1=>vs.length<=sizeLine/\∀ x,H1 x=none->sp (.ref x::vs) (upd H1 x (.ext (ExcIs x Ca none true))) (fun v H2=>v = .non/\Q (.ref x) H2) E0
section
variable {X:Cx}{k n:Nat}{f Ca:Addr}{fd:bM}{ps:List Str}{sp:Sp}{C x:Str}{p pos apos:Pos}{e:Expr}{es:List Expr}{t:TA}
theorem Aeu{pins:List (Addr×Obj)}{σ:L2.St}{H:Hp}{s:aI}{Q:VK}{us:List aE}{vs:List V}(M:MkX X.K Ca f)(F:FnOk X.prog X.w X.K X.mg X.base CX0 k f fd ps sp)(hr:Room (k+1) X.A)(hb:Binds X.K fd ps [])
  (I:L2.Inv X pins σ H s) (r:Vals vs us) (hz:vs.length<=sizeLine) (h:∀ x,H x=none->sp (.ref x::vs) (upd H x (.ext (ExcIs x Ca none true))) (fun v H2=>v = .non/\Q (.ref x) H2) E0) :
  wpAny (model X.prog X.w) X.A (call (.ref Ca) us) (EP X pins σ Q) X.xe s:=by
 have hq:=h (s.heap.objs.size+1) (I.hok.fresh (jD _))
 have x0:ExcIs (s.heap.objs.size+1) Ca none true (Jn s.heap Ca us):=⟨_,_,exHeap_e,rfl,rfl,rfl,by simp,rfl,fun _=>rfl⟩
 have I2:L2.Inv X pins σ (upd H (s.heap.objs.size+1) (.ext (ExcIs (s.heap.objs.size+1) Ca none true))) { s with heap:=Jn s.heap Ca us,toks:=s.toks }:=I.laid (fun b u q=>Xz q) (jD _) (Nu x0)
 have r2:Vals (V.ref (s.heap.objs.size+1)::vs) (bE (s.heap.objs.size+1)::us):=.cons rfl r
 have hl:(bE (s.heap.objs.size+1)::us++[]).length=ps.length:=by rw[aX,<- r2.length];exact F.len _ _ _ _ hq
 have hbt:=hb { s with heap:=Jn s.heap Ca us,toks:=s.toks } (bE (s.heap.objs.size+1)::us) I2.kIn hl
 rw[aX] at hbt
 refine Agu (f:=f) I.kIn M.ex M.init (beq_iff_eq.mp M.fn) (by rw[<- r.length];exact hz) ?_
 refine iD (iO (F.run _ X.stack _ _ ⟨_,[]⟩ _ _ _ E0 (hr.make Ca us []) (I2.env0.make Ca us []) hbt r2 hq) fun r s' hq'=>?_)
 cases r with
 | error e=>exact dJ hq'
 | ok fl=>
  cases fl with
  | ret u=>
   obtain ⟨v,H',I3,rv,ev,q3⟩:=I2.after hq'
   subst ev
   exact ⟨rv,⟨V.ref (s.heap.objs.size+1),H',I3,rfl,q3⟩⟩
  | next=>exact dJ hq'
  | brk=>exact dJ hq'
  | cont=>exact dJ hq'
theorem Af7(M:MkX X.K Ca f)(F:FnOk X.prog X.w X.K X.mg X.base CX0 k f fd ps sp)(hr:Room (k+1) X.A)(hg:Gl X x)(hm:X.mg x=some (.ref Ca))(hb:Binds X.K fd ps [])
  (ha:PA X (e::es) t) (hdb:(x == ("__debug__" : Str))=false:=by decide) (he:aS (e::es) X.env=(false,eval e X.env)::aS es X.env:=by rfl) (hpl:(backTo pos (aS es X.env)).any (·.1)=false:=by rfl) :
  PE X (.Call (.Name x p) (e::es) [] pos) (Aob Ca sp t):=by
 intro pins s σ H Q I h
 refine eG (Mh I hg hm ?_ hdb)
 refine iE (h₀:=X.base) I.ok.mod.kin M.kp (thn (ha pos pins s σ H _ I h) fun us s1 zz=>zz.elim fun vs H1 I1 r zq=>⟨I1.kIn,?_⟩) he hpl
 obtain ⟨z,q⟩:=zq
 exact Aeu M F hr hb I1 r z q
noncomputable def Jq(C:Str)(k:Nat)(F:FN)(g:FA):FE:=fun δ L=>(g δ L).bind fun p=>if p.1.length+1=k/\p.1.length<=100 then (F (.ref p.2.length::p.1) (p.2++[.exc C true []])).bind fun q=>match q.1 with | .non=>some (.ref p.2.length,q.2) | _=>none else none
theorem Rl{F:FN}{g:FA}(hns:aO X.K aN C=some (some (.ref Ca)))(M:MkX X.K Ca f)(hF:FnOk X.prog X.w X.K X.mg X.base CX0 k f fd ps (spF X.K n F))(hr:Room (k+1) X.A)(hg:Gl X C)(hm:X.mg C=some (.ref Ca))(hb:Binds X.K fd ps [])
  (ha:PAF X (e::es) g) (hdb:(C == ("__debug__" : Str))=false:=by decide) (he:aS (e::es) X.env=(false,eval e X.env)::aS es X.env:=by rfl) (hpl:(backTo pos (aS es X.env)).any (·.1)=false:=by rfl) :
  PEF X (.Call (.Name C p) (e::es) [] pos) (Jq C n F g):=by
 refine PE.imp (Af7 M hF hr hg hm hb ha hdb he hpl) ?_
 rintro σ H Q ⟨α,δ,L,A,S,z,L3,ee,q⟩
 obtain ⟨⟨us,L1⟩,e1,ee⟩:=aB.mp ee
 simp only at ee
 split at ee
 ·rename_i hlen
  obtain ⟨⟨w,L2⟩,e2,ee⟩:=aB.mp ee
  cases w with
  | non=>
   cases ee
   refine ⟨α,δ,L,A,S,us,L1,e1,fun xs H1 α1 g1 A1 r1=>⟨?_,fun x nx=>?_⟩⟩
   ·rw[<- r1.length];exact jY (Ux (by omega))
   obtain ⟨Ab,gb⟩:=A1.new (o:=.ext (ExcIs x Ca none true)) (u:=.exc C true []) nx ⟨Ca,none,[],hns,upd_same,rfl,rfl,.nil⟩
   have rx:RepU X.K (upd H1 x (.ext (ExcIs x Ca none true))) (α1++[x]) (.ref L1.length) (.ref x):=by
    unfold RepU
    exact ⟨x,by rw[<- A1.len];simp,rfl⟩
   refine ⟨α1++[x],L1++[.exc C true []],.ref L1.length::us,Ab,.cons rx (r1.mono gb),by simpa using hlen.1,.non,L2,e2,fun v H3 α3 g3 A3 r3=>?_⟩
   have hv:v = .non:=by unfold RepU at r3;exact r3
   exact ⟨hv,q _ H3 α3 (g1.trans (gb.trans g3)) A3 (rx.mono g3)⟩
  | _=>cases ee
 ·cases ee
end
noncomputable def Ag8(K:aC)(B:Addr):Bool:=match pX K (.ref B) (.type "type") "__init__" with
 | some (.val (.builtin id))=>id == "ValueError.__init__"
 | _=>false
structure BInit(K:aC)(B:Addr):Prop where
 sp:fF K (.ref B) "__getattribute__" = some (some (.builtin "type.__getattribute__"))
 rd:pY K B (.type "type")=true
 fd:Ag8 K B=true
theorem BInit.found{K:aC}{B:Addr}(b:BInit K B):pX K (.ref B) (.type "type") "__init__" = some (.val (.builtin "ValueError.__init__")):=by
 have h:=b.fd
 unfold Ag8 at h
 split at h
 ·rename_i id q
  rw[q,beq_iff_eq.mp h]
 ·cases h
noncomputable def Ang(K:aC)(t:TA):TE:=fun σ H Q=>t σ H fun vs H1=>∃ a Ca dd fr y,vs=[.ref a,y]/\H1 a=some (.ext (ExcIs a Ca dd fr))/\Py K Ca=true/\Q .non H1
section
variable {X:Cx}{B:Addr}{x:Str}{p pos apos:Pos}{a b:Expr}{t:TA}
theorem Y6{pins:List (Addr×Obj)}{σ:L2.St}{H:Hp}{s:aI}{Q:VK}{ea Ca:Addr}{dd:Option Addr}{fr:Bool}{v:aE}(I:L2.Inv X pins σ H s)(he:H ea=some (.ext (ExcIs ea Ca dd fr)))(hc:Py X.K Ca=true)(q:Q .non H) :
  wpAny (model X.prog X.w) X.A (call (.builtin "ValueError.__init__") [.ref ea,v]) (EP X pins σ Q) X.xe s:=by
 have x:=(I.hok ea _ he).1
 obtain ⟨o,vs,h1,h2,h3,h4,h5,h6,h7⟩:=id x
 obtain ⟨nm,qn,N,bs,bm,hdct,sn,sub,ab,col,dd',k0,k1,k2,k3,k5,hC,T⟩:=N5 I.kIn hc
 have FV:ExcBaseFacts "ValueError" "ValueError.__new__" "ValueError.__init__" bmV:=kO
 obtain ⟨h,g,d,tk,os⟩:=s
 refine iD (jH FV.init.plain FV.initEntry (wpAny_check_init_subT FV T hC h1 h2 ?_))
 unfold lF.«BaseException.__init__»
 dsimp only
 obtain ⟨v0,hv0⟩:∃ v0,vs[0]? = some v0:=⟨vs[0],kR (by omega)⟩
 unfold newTuple lF.BaseException.bexcPut
 rw[if_neg (by decide)]
 refine aG (eO ?_ (by show (1:Nat)<=sizeLine;decide))
 have e2:(h.push { cls:=.type "tuple",data:=.seq #[v] }).get? ea=some o:=aF _ h1
 have fin:∀ s':aI,s'=⟨(h.push { cls:=.type "tuple",data:=.seq #[v] }).update ea (eB (·.setIfInBounds 0 (bE h.objs.size))),g,d,tk,os⟩->EP X pins σ Q .none s':=fun s' hs=>by
  subst hs
  have hd3:=dG h4 (·.setIfInBounds 0 (bE h.objs.size))
  have e3:=dB (eB (·.setIfInBounds 0 (bE h.objs.size))) e2 (dN hd3)
  refine ⟨.non,H,?_,rfl,q⟩
  have hupd:upd H ea (.ext (ExcIs ea Ca dd fr))=H:=by
   funext b
   unfold upd
   split
   ·rename_i hb;rw[hb,he]
   ·rfl
  have J:=I.write (h':=(h.push { cls:=.type "tuple",data:=.seq #[v] }).update ea (eB (·.setIfInBounds 0 (bE h.objs.size)))) (x:=ea) (e:=ea) (o:=.ext (ExcIs ea Ca dd fr)) (t':=tk) (by rw[he];exact dX) (.inl rfl) (fun b u hb z=>by
   rw[cM _ _ (cR hb)]
   exact aF _ z) ⟨_,e3⟩ (Nu (by obtain ⟨o2,g1,g2,g3,g4,g5,g6⟩:=Xo h4 ⟨⟨h2,h3⟩,h5,h6⟩ e3;exact ⟨o2,_,g1,g2,g3,g4,g5,g6,fun z=>by rw[Array.getElem?_setIfInBounds_ne (by decide)];exact h7 z⟩))
  rw[hupd] at J
  exact J
 refine aG (aG (cV e2 h4 hv0 (aG (gJ e2 h4 (by omega) ?_))))
 cases v0 with
 | ref a0=>exact nE (bD (fin _ rfl))
 | _=>exact bD (bD (fin _ rfl))
theorem Ahx{pl:Sem Bool}(Bi:BInit X.K B)(hg:Gl X x)(hm:X.mg x=some (.ref B))(ha:PA X [a,b] t)(hdb:(x == ("__debug__" : Str))=false:=by decide)
  (hst:aS [a,b] X.env=(false,eval a X.env)::aS [b] X.env:=by rfl) (hpl:(backTo pos (aS [b] X.env)).any (·.1)=false:=by rfl)
  (ht:eval (.Call (.Attribute (.Name x p) "__init__" apos) [a,b] [] pos) X.env=(do
   let ov <- eval (.Name x p) X.env
   standAt apos.atName
   let (f,first) <- holding [ov] (getMethod ov "__init__" pl)
   callWith pos f first (backTo pos (aS [a,b] X.env)) (backToKw pos (keywordEach [] X.env))):=by rfl) :
  PE X (.Call (.Attribute (.Name x p) "__init__" apos) [a,b] [] pos) (Ang X.K t):=by
 intro pins s σ H Q I h
 refine gE (pl:=pl) (Mh I hg hm ?_ hdb) ht
 refine PySem.W.method_cls I.kIn Bi.sp (PySem.W.cls_value I.kIn Bi.rd Bi.found (by decide +kernel) ?_)
 have I1:=I.tok (s.toks+1)
 have hA:=ha pos pins { s with toks:=s.toks+1 } σ H _ I1 h
 rw[hst] at hA ⊢
 refine dH (by show (false || (backTo pos (aS [b] X.env)).any (·.1))=false;rw[hpl] <;> rfl) (jE ?_)
 refine thn hA fun us s2 zz=>zz.elim fun vs H2 I2 r2 zq=>?_
 obtain ⟨ea,Ca,dd,fr,y,hv,he,hc,q2⟩:=zq
 subst hv
 obtain ⟨u1,u2,rfl,ru1,ru2⟩:=r2.two
 obtain rfl:u1=bE ea:=ru1
 exact Y6 I2 he hc q2
noncomputable def AllX(K:aC)(Cs:List Str):Prop:=∀ C∈Cs,∀ Ca,aO K aN C=some (some (.ref Ca))->Py K Ca=true
noncomputable def Ob(Cs:List Str)(g:FA):FE:=fun δ L=>(g δ L).bind fun p=>match p.1 with
 | [.ref n,_]=>match p.2[n]? with
  | some (.exc C _ _)=>if C∈Cs then some (.non,p.2) else none
  | _=>none
 | _=>none
theorem Age{pl:Sem Bool}{Cs:List Str}{g:FA}(hC:AllX X.K Cs)(Bi:BInit X.K B)(hg:Gl X x)(hm:X.mg x=some (.ref B))(ha:PAF X [a,b] g)(hdb:(x == ("__debug__" : Str))=false:=by decide)
  (hst:aS [a,b] X.env=(false,eval a X.env)::aS [b] X.env:=by rfl) (hpl:(backTo pos (aS [b] X.env)).any (·.1)=false:=by rfl)
  (ht:eval (.Call (.Attribute (.Name x p) "__init__" apos) [a,b] [] pos) X.env=(do
   let ov <- eval (.Name x p) X.env
   standAt apos.atName
   let (f,first) <- holding [ov] (getMethod ov "__init__" pl)
   callWith pos f first (backTo pos (aS [a,b] X.env)) (backToKw pos (keywordEach [] X.env))):=by rfl) :
  PEF X (.Call (.Attribute (.Name x p) "__init__" apos) [a,b] [] pos) (Ob Cs g):=by
 refine PE.imp (Ahx (pl:=pl) Bi hg hm ha hdb hst hpl ht) ?_
 rintro σ H Q ⟨α,δ,L,A,S,z,L3,ee,q⟩
 obtain ⟨⟨us,L1⟩,e1,ee⟩:=aB.mp ee
 refine ⟨α,δ,L,A,S,us,L1,e1,fun xs H1 α1 g1 A1 r1=>?_⟩
 simp only at ee
 split at ee
 ·rename_i n w
  split at ee
  ·rename_i C fr fs hL
   split at ee
   ·rename_i hin
    cases ee
    obtain ⟨x1,x2,rfl,rx1,rx2⟩:=r1.two
    obtain ⟨a,ea,Ca,dd,vs,hns,ha,_⟩:=A1.addr hL
    obtain ⟨a',ea',rfl⟩:=rx1.ref_of A1
    rw[ea] at ea';cases ea'
    exact ⟨a,Ca,dd,fr,x2,rfl,ha,hC C hin Ca hns,q _ H1 α1 g1 A1 rfl⟩
   ·cases ee
  ·cases ee
 ·cases ee
end
theorem Ag7{M:qC}{A:cK}{E:aE->aI->Prop}{s:aI}{env:eN}{K:aC}{x:Sem aE}{Q:Flow->aI->Prop}{Ca ea:Addr}(hh:A.handled=none)
  (h:wpAny M A x (fun v s1=>∃ ea Ca dd,v = .ref ea/\K.In s1.heap/\Py K Ca=true/\ExcIs ea Ca dd true s1.heap/\E (.ref ea) s1) E s):wpAny M A (raiseStmt env (some x) none) Q E s:=by
 unfold raiseStmt
 refine aG (cL h (fun v s1 h1=>?_) fun _ _ z=>z)
 obtain ⟨ea,Ca,dd,rfl,X,hc,⟨o,vs,h1,h2,h3,h4,h5,h6,h7⟩,hE⟩:=h1
 obtain ⟨cl,di,da,sl⟩:=o
 dsimp only at h2 h3 h4 h6
 subst h2 h3 h4 h6
 obtain ⟨nm,qn,N,bs,bm,hdct,sn,sub,ab,col,dd',k0,k1,k2,k3,k5,hC,T⟩:=N5 X hc
 have hb:(bE Ca::bm).contains (.type "BaseException")=true:=by rw[List.contains_cons,T.hasType kO.hasBase,Bool.or_true]
 obtain ⟨hp,g,d,tk,os⟩:=s1
 have h8:=h7 rfl
 repeat (first | with_reducible refine gH h1 ?_ | with_reducible refine gH hC ?_ | (with_reducible refine nQ hC ?_;rw[hb]) | with_reducible refine cV h1 rfl h8 ?_ | wp_step)
 exact wpAny_raiseNew_none hh hE
noncomputable def Oz(Cs:List Str)(fe:FE):XS:=fun δ L=>(fe δ L).bind fun p=>match p.1 with
 | .ref n=>match p.2[n]? with
  | some (.exc C true fs)=>if C∈Cs then some (n,δ,p.2.set n (.exc C false fs)) else none
  | _=>none
 | _=>none
section
variable {X:Cx}{e:Expr}{pos:Pos}{fe:FE}{Cs:List Str}
theorem W8(hA:AllX X.K Cs)(he:PEF X e fe)(hc:X.calm=true:=by rfl)(hx:∀ e s,X.xe e s->False:=by exact fun _ _ z=>z):PXS X (.Raise (some e) none pos) (Oz Cs fe):=by
 intro pins s σ H α δ L n δ' L' I A S q
 obtain ⟨⟨u,L1⟩,q1,q2⟩:=aB.mp q
 simp only at q2
 split at q2
 ·rename_i m
  split at q2
  ·rename_i C fs hL
   split at q2
   ·rename_i hin
    cases q2
    rw[arm_exec_Raise]
    show wpAny _ _ (do standAt pos;raiseStmt X.env (some (do let v <- eval e X.env;standAt pos;pure v)) none) _ _ _
    refine aG (jB (Ag7 (K:=X.K) (Ca:=0) (ea:=0) (I.ok.hd hc) (aG (he.go hx I A S q1 fun x v H1 α1 s1 I1 g1 A1 r1 rv=>aG (jB (bD ?_))))))
    obtain ⟨a,ea,Ca,dd,vs,hns,ha,hd,hk,rr⟩:=A1.addr hL
    obtain ⟨a',ea',rfl⟩:=r1.ref_of A1
    rw[ea] at ea';cases ea'
    obtain rfl:x=bE a:=rv
    have hex:=(I1.hok a _ ha).1
    refine ⟨a,Ca,dd,rfl,I1.kIn,hA C hin Ca hns,hex,?_⟩
    obtain ⟨o,ws,h1,h2,h3,h4,h5,h6,h7⟩:=id hex
    have hxf:ExcIs a Ca dd false s1.heap:=⟨o,ws,h1,h2,h3,h4,h5,h6,fun z=>nomatch z⟩
    have g2:Gr H1 α1 (upd H1 a (.ext (ExcIs a Ca dd false))) α1:=⟨⟨[],by simp⟩,.write ha (by exact trivial) _⟩
    obtain ⟨A2,_⟩:=A1.put (o:=.ext (ExcIs a Ca dd false)) (u:=.exc C false fs) ea hL rfl rfl ha (by exact trivial) ⟨Ca,dd,vs,hns,upd_same,hd.stay (fun b o ws q=>g2.st.2 b o _ q),hk,rr.mono g2⟩
    have I2:=I1.write (h':=s1.heap) (t':=s1.toks) (x:=a) (e:=a) (o:=.ext (ExcIs a Ca dd false)) (by rw[ha];exact dX) (.inl rfl) (fun b u _ z=>z) ⟨_,h1⟩ (Nu hxf)
    refine ⟨a,Ca,dd,s1.heap.objs.size,σ,_,α1,rfl,⟨I2,.of I1 (bB _),⟨bB _,.inl ⟨ws,⟨o,h1,h2,h3,h4,h5,h6⟩,h7 rfl⟩⟩,fun b o2 hb=>I2.hok.lt hb,upd_same⟩,g1.trans g2,A2,(S.mono g1).mono g2,ea⟩
   ·cases q2
  ·cases q2
 ·cases q2
end
abbrev hld(X:Cx)(e:Addr):Cx:={ X with A:=X.A.mark (some (.ref e)),calm:=false }
theorem Ok.hld{X:Cx}(ok:X.Ok)(e:Addr):(hld X e).Ok:=
 ⟨ok.mod,ok.kind,ok.glob,ok.blt,ok.above,ok.inj,ok.has,ok.cab,(fun z=>(nomatch z)),ok.frames,ok.stk,ok.exf,ok.bs,ok.bsz,ok.noex,ok.exfs,ok.funs,ok.frf⟩
theorem Inv.hld{X:Cx}{pins:List (Addr×Obj)}{σ:L2.St}{H:Hp}{s:aI}(I:L2.Inv X pins σ H s)(e:Addr):L2.Inv (hld X e) pins σ H s:=⟨Ok.hld I.ok e,I.os,I.bare,I.base,I.loc,I.cell,I.free,I.freeC,I.pin,I.hok,I.len⟩
theorem Inv.unhld{X:Cx}{pins:List (Addr×Obj)}{σ:L2.St}{H:Hp}{s:aI}{e:Addr}(ok:X.Ok)(I:L2.Inv (MR.hld X e) pins σ H s):L2.Inv X pins σ H s:=⟨ok,I.os,I.bare,I.base,I.loc,I.cell,I.free,I.freeC,I.pin,I.hok,I.len⟩
theorem Ajc{X:Cx}{pins:List (Addr×Obj)}{σ:L2.St}{H:Hp}{s:aI}{M:qC}{A:cK}{E:aE->aI->Prop}{i:Nat}{n:Str}{pos:Pos}{Q:Unit->aI->Prop}(I:L2.Inv X pins σ H s)(hN:X.N.Nodup)(hi:X.N[i]? = some n)(hl:X.env.kindOf n=some .local)
  (q:∀ s',L2.Inv X pins (σ.set i none) H s'->Q () s'):wpAny M A (do bindName X.env n .none;unbindBehindTheSuite X.env n pos) Q E s:=by
 obtain ⟨m,hn,hloc⟩:=id I.loc
 have hcls:(X.env.scope.kind == .class || (X.env.scope.kind == .module&&X.env.locals != X.env.globals))=false:=by rw[I.ok.kind];rfl
 obtain ⟨oL,_,_,hoL,_⟩:=id hn
 refine wpAny_nameGoes_keeps hl hn hcls fun h' v hn' hs=>q _ ?_
 have far:∀ b o,X.s₀.heap.get? b=some o->b≠X.env.locals:=fun b o e=>bY (aU (aV e) I.ok.above)
 refine ⟨I.ok,I.os,I.bare,⟨fun b o e n hb hx=>(hs.2 b (far b o e)).trans (I.base.keep b o e n hb hx),fun b o e n hb hx=>?_,I.base.free,fun b o e hx=>?_,I.base.tups,I.base.frzs,I.base.tbls⟩,⟨_,hn',fun j y w e1 e2 e3=>?_⟩,fun y c e=>?_,I.free,I.freeC,fun p hp=>?_,fun b ob e=>?_,by simpa using I.len⟩
 ·obtain ⟨sl,e1⟩:=I.base.slot b o e n hb hx
  exact ⟨sl,(hs.2 b (far b o e)).trans e1⟩
 ·obtain ⟨o',e1⟩:=I.base.there b o e hx
  exact ⟨o',(hs.2 b (far b o e)).trans e1⟩
 ·have hj:j≠i:=by
   rintro rfl
   by_cases hz:j < σ.length
   ·rw[bU hz] at e2;cases e2
   ·rw[dM (by simpa using hz)] at e2;cases e2
  rw[bA (cR hj)] at e2
  obtain ⟨u,r,l⟩:=hloc j y w e1 e2 e3
  refine ⟨u,r,?_⟩
  rcases l with ⟨k,e⟩ | ⟨k,c,e,z⟩
  ·refine .inl ⟨k,?_⟩
   have:y≠n:=fun e=>hj (Qu hN e1 (e ▸ hi))
   simp[this,e]
  ·exact .inr ⟨k,c,e,z.sameBut hs (I.cne y c e)⟩
 ·obtain ⟨w,z⟩:=I.cell y c e
  exact ⟨w,z.sameBut hs (I.cne y c e)⟩
 ·obtain ⟨e,n,ne,nf,d⟩:=I.pin p hp
  exact ⟨(hs.2 p.1 ne).trans e,n,ne,nf,d⟩
 ·refine (I.hok b ob e).stay (fun c w hc z=>(hs.2 c ?_).trans z) (fun _ z=>z) fun _ _ z=>z
  rintro rfl
  rcases hc with hc | hc
  ·rw[<- hc,I.free] at e;cases e
  ·rw[I.free] at hc;cases hc
theorem RepS.unset{K:aC}{H:Hp}{α:List Addr}{δ:UE}{σ:L2.St}(h:RepS K H α δ σ)(i:Nat):RepS K H α (δ.set i none) (σ.set i none):=
 ⟨by simp[h.len],fun j w e=>by
  by_cases hj:i=j
  ·subst hj
   by_cases hi:i < δ.length
   ·rw[bU hi] at e;cases e
   ·rw[dM (by simpa using hi)] at e;cases e
  ·rw[bA hj] at e
   obtain ⟨v',q,r'⟩:=h.at_ j w e
   exact ⟨v',by rw[bA hj];exact q,r'⟩⟩
theorem Aao{M:qC}{A:cK}{E:aE->aI->Prop}{s:aI}{base:Heap}{N:Nat}{l:List eN}{e Ca:Addr}{dd:Option Addr}{Q:Unit->aI->Prop}(fr:s.heap.FunFrames base l)(F:Fly N e Ca dd s.heap)
  (hQ:∀ h',Fly N e Ca dd h'->Stp N (frs l) e s.heap h'->h'.FunFrames base l->Q () { s with heap:=h' }):wpAny M A (setFlight (.ref e) none) Q E s:=by
 rcases F.2 with ⟨vs,hx,h1⟩ | ⟨fl,T⟩
 ·obtain ⟨oe,he,hc,hdd,hd,hsz,hsl⟩:=id hx
  unfold setFlight
  refine aG (cV he hd h1 ?_)
  rw[if_neg (by decide)]
  exact bD (hQ s.heap F ⟨fun _ _ _ _ _ z=>z,fun b o _ z=>⟨o.slots,z⟩,fun b o z=>⟨o,z⟩,bB _⟩ fr)
 ·exact Pq fr T fun h2 F2 u2 fr2=>hQ h2 ⟨cC F.1 u2.sz,.inr ⟨_,F2⟩⟩ u2 fr2
noncomputable def AllM(K:aC)(Cs:List Str)(D:Addr):Prop:=∀ C∈Cs,∀ Ca,aO K aN C=some (some (.ref Ca))->nF K (.ref Ca) (.ref D)=some true
noncomputable def Xy(b:FS)(x:XS)(Cs:List Str)(i:Nat)(suite:FS):FS:=fun δ L=>match x δ L with
 | some (n,δ1,L1)=>match L1[n]? with
  | some (.exc C _ _)=>if C∈Cs then (suite (δ1.set i (some (.ref n))) L1).bind fun p=>match p.1 with
    | .nx δ2=>some (.nx (δ2.set i none),p.2)
    | _=>none
   else none
  | _=>none
 | none=>b δ L
section
variable {X:Cx}{body suite:List Stmt}{b0:Stmt}{x n:Str}{np hpos pos:Pos}{D:Addr}{Cs:List Str}{fb fs:FS}{xb:XS}{i:Nat}
theorem Ajj(hM:AllM X.K Cs D)(hN:X.N.Nodup)(hb:S0 X body fb)(hx:Aan X body xb)(hs:∀ e,S0 (hld X e) (b0::suite) fs)(hg:Gl X x)(hm:X.mg x=some (.ref D))
  (hi:X.N[i]? = some n:=by rfl) (hl:X.env.kindOf n=some .local:=by rfl) (hxe:∀ e s,X.xe e s->False:=by exact fun _ _ z=>z) (hst:X.stack=X.env::X.outer:=by rfl) (hfr:X.env.frame=some X.env.locals:=by rfl)
  (hdb:(x == ("__debug__" : Str))=false:=by decide):PSF X (.Try body [.ExceptHandler (some (.Name x np)) (some n) (b0::suite) hpos] [] [] pos) (Xy fb xb Cs i fs):=by
 intro pins s σ H E I h
 obtain ⟨α,δ,L,A,S,fl,L',ee,q⟩:=h
 refine wpAny_Try_except ?_
 unfold Xy at ee
 cases q1:xb δ L with
 | none=>
  rw[q1] at ee
  refine cL (hb pins s σ H E I ⟨α,δ,L,A,S,fl,L',ee,q⟩) (fun f s1 h1=>?_) fun _ _ z=>(hxe _ _ z).elim
  cases f with
  | next=>exact jK h1
  | ret v=>exact h1
  | brk=>exact h1
  | cont=>exact h1
 | some r=>
  obtain ⟨k,δ1,L1⟩:=r
  rw[q1] at ee
  simp only at ee
  split at ee
  ·rename_i C fr0 fs0 hL
   split at ee
   ·rename_i hin
    obtain ⟨⟨fl2,L2⟩,e2,e3⟩:=aB.mp ee
    cases fl2 with
    | nx δ2=>
     cases e3
     refine cL (hx pins s σ H α δ L k δ1 L1 I A S q1) (fun _ _ z=>z.elim) fun ev s1 hf=>?_
     obtain ⟨ea,Ca,dd,N,σ1,H1,α1,rfl,Fl,g1,A1,S1,at1⟩:=hf
     have hfrm:X.A.frames=some (X.env::X.outer):=by rw[<- hst];exact Fl.inv.ok.frames
     have hstk:s1.heap.FunFrames X.base (X.env::X.outer):=by rw[<- hst];exact Fl.inv.stack
     refine Acm hfrm hfr hstk Fl.fly fun h2 F2 u2 fr2=>?_
     have Fl2:=Fl.step (h':=h2) (by rw[hst];exact u2) F2
     have J2:=Inv.hld Fl2.inv ea
     obtain ⟨ox,vx,y1,y2,_⟩:=id F2.excIs
     obtain ⟨a,ea',Cb,dd',vs,hns,hav,_⟩:=A1.addr hL
     rw[at1] at ea';cases ea'
     have hCa:Cb=Ca:=by
      have hh:=Fl.me
      rw[hav] at hh
      have:=(Fl2.inv.hok ea _ hav).1
      obtain ⟨o3,_,z1,z2,_⟩:=this
      rw[y1] at z1;cases z1
      rw[y2] at z2;cases z2;rfl
     subst hCa
     have LT:nV (model X.prog X.w) h2 (typeOf (.ref ea)) (.ref Cb):=by
      have z:nV (model X.prog X.w) h2 (typeOf (.ref ea)) ox.cls:=(nV.ld y1).andThen .now
      rw[y2] at z
      exact z
     refine wpAny_handleBy_cons (codeAny_handlers_test ?_) (by intro z;cases z)
     refine Mh (X:=hld X ea) J2 hg hm ?_ hdb
     refine dW (s:={ s1 with heap:=h2 }) (PySem.W.exm_one Fl2.inv.kIn LT (hM C hin Cb hns)) ?_
     refine codeAny_handlers_suite_as ?_
     refine Aao (s:={ s1 with heap:=h2 }) fr2 F2 fun h3 F3 u3 fr3=>?_
     have Fl3:=Fl2.step (h':=h3) (by rw[hst];exact u3) F3
     have J3:=Inv.hld Fl3.inv ea
     refine R0 (X:=hld X ea) (v:=.ref ea) J3 hN hi (.inl hl) rfl (fun s4 J4=>?_) (.inr hl)
     refine cL (hs ea pins s4 _ H1 { nx:=fun σ2 H2=>∃ α2,Gr H1 α1 H2 α2/\Abs X.K H2 α2 L2/\RepS X.K H2 α2 δ2 σ2,rt:=fun _ _=>False } J4 ⟨α1,_,L1,A1,S1.set i (u:=.ref k) (v:=.ref ea) (by unfold RepU;exact ⟨ea,at1,rfl⟩),.nx δ2,L2,e2,fun σ2 H2 α2 g2 A2 S2=>⟨α2,g2,A2,S2⟩⟩) (fun f s5 h5=>?_) fun _ _ z=>(hxe _ _ z).elim
     cases f with
     | next=>
      obtain ⟨σ2,H2,J5,α2,g2,A2,S2⟩:=h5
      have I5:=Inv.unhld I.ok J5
      refine Ajc I5 hN hi hl fun s6 I6=>?_
      exact ⟨_,H2,I6,q _ H2 α2 (g1.trans g2) A2 (S2.unset i)⟩
     | ret v=>obtain ⟨_,_,_,_,_,z⟩:=h5;exact z.elim
     | brk=>obtain ⟨_,_,_,z⟩:=h5;exact z.elim
     | cont=>obtain ⟨_,_,_,z⟩:=h5;exact z.elim
    | rt w=>cases e3
    | bk w=>cases e3
    | ct w=>cases e3
   ·cases ee
  ·cases ee
end
noncomputable def Anf(K:aC)(C:Addr):Bool:=Py K C&&aY K (.ref C) "__getattribute__" == some (some (.builtin "BaseException.__getattribute__"))&&aY K (.ref C) "__getattr__" == some none &&
 qR K (.ref C) (.type "BaseException") == some true&&aY K (.ref C) "__class__" == some (some (.builtin "object.__class__"))&&nS K C (.type "object") == some true&&fE K C &&
 fF K (.builtin "object.__class__") "__get__" == some (some (.builtin "getset_descriptor.__get__"))&&mO K (.builtin "object.__class__") == some true
structure ExcA(K:aC)(C:Addr):Prop where
 ex:Py K C=true
 ga:aY K (.ref C) "__getattribute__" = some (some (.builtin "BaseException.__getattribute__"))
 gk:aY K (.ref C) "__getattr__" = some none
 sb:qR K (.ref C) (.type "BaseException")=some true
 cl:aY K (.ref C) "__class__" = some (some (.builtin "object.__class__"))
 mo:nS K C (.type "object")=some true
 hd:fE K C=true
 sg:fF K (.builtin "object.__class__") "__get__" = some (some (.builtin "getset_descriptor.__get__"))
 tk:mO K (.builtin "object.__class__")=some true
theorem Akf{K:aC}{C:Addr}(h:Anf K C=true):ExcA K C:=by
 unfold Anf at h
 simp only[dA,beq_iff_eq] at h
 obtain ⟨⟨⟨⟨⟨⟨⟨⟨a,b⟩,c⟩,d⟩,e⟩,f⟩,g⟩,i⟩,j⟩:=h
 exact ⟨a,b,c,d,e,f,g,i,j⟩
noncomputable def isX(C D:Str):Bool:=C == D || D == "BelowError" || D == "ValueError"
noncomputable def Aei(K:aC)(D:Str):Option aE:=match aO K aN D with
 | some (some (.ref a))=>some (.ref a)
 | some none=>if D == "ValueError" then some (.type "ValueError") else none
 | _=>none
noncomputable def Px(K:aC)(Cs Ds:List Str):Bool:=Cs.all fun C=>match aO K aN C with
 | some (some (.ref a))=>Anf K a&&Ds.all fun D=>match Aei K D with
  | some v=>cY K (.ref a) v == some (isX C D)&&(!isX C D || nF K (.ref a) v == some true)
  | none=>false
 | _=>false
section
variable {K:aC}{Cs Ds:List Str}
theorem Kg(T:Px K Cs Ds=true){C:Str}{Ca:Addr}(hC:C∈Cs)(hn:aO K aN C=some (some (.ref Ca))):ExcA K Ca/\∀ D∈Ds,∃ v,Aei K D=some v/\cY K (.ref Ca) v=some (isX C D)/\(isX C D=true->nF K (.ref Ca) v=some true):=by
 have h:=cU.mp T C hC
 rw[hn] at h
 simp only[dA] at h
 refine ⟨Akf h.1,fun D hD=>?_⟩
 have h2:=cU.mp h.2 D hD
 split at h2
 ·rename_i v hv
  simp only[dA,beq_iff_eq,jO,Bool.not_eq_true'] at h2
  exact ⟨v,hv,h2.1,fun z=>h2.2.resolve_left (by rw[z];exact Bool.noConfusion)⟩
 ·cases h2
theorem AllX.of(T:Px K Cs Ds=true):AllX K Cs:=fun C hC Ca hn=>(Kg T hC hn).1.ex
theorem Qs{D:Str}{Da:Addr}(h:aO K aN D=some (some (.ref Da))):Aei K D=some (.ref Da):=by unfold Aei;rw[h]
theorem AllM.sub{Es:List Str}{D:Str}{Da:Addr}(T:Px K Cs Ds=true)(hs:∀ C∈Es,C∈Cs)(hD:D∈Ds)(hn:aO K aN D=some (some (.ref Da)))(ha:Es.all (fun C=>isX C D)=true):AllM K Es Da:=fun C hC Ca hc=>by
 obtain ⟨v,hv,_,h2⟩:=(Kg T (hs C hC) hc).2 D hD
 rw[Qs hn] at hv
 cases hv
 exact h2 (cU.mp ha C hC)
end
section
variable {prog:bN}{w:bW}{A:cK}{E:aE->aI->Prop}{s:aI}{K:aC}{x C:Addr}{ox:Obj}{od:Option Obj}{name:Str}
theorem Agc{fill expr:Bool}{tk:Tok}{Q:aE->aI->Prop}(X:K.In s.heap)(T:ExcA K C)(I:fP s.heap x ox C od)
  (h:wpAny (model prog w) A.in1 (lF.«object.__getattribute__» ⟨[.ref x,.str name tk],[]⟩) (fun fin s'=>match fin with | .done (.ret v)=>wpAny (model prog w) A (handedOut v) Q E s' | _=>False) (fun _ _=>False) s) :
  wpAny (model prog w) A (getAttrBy (.ref x) (.str name tk) fill expr) Q E s:=by
 have FB:=PySem.F.attr_ValueError
 have hB:(nW "BaseException.__getattribute__" == nW "object.__getattribute__")=false:=by decide +kernel
 unfold getAttrBy
 refine gC (aG (I.type.here (aG ((gI X T.ga).here ?_))))
 dsimp only
 rw[hB,nG,if_neg (by decide)]
 unfold getAttrByItsOwn
 refine aG ((PySem.W.looks_hook X (mc:=.ref C) (r:=none) (by rw[if_pos (show onTheHeap (.ref C)=true from rfl)];exact T.gk)).here (aG (lU (gC ?_))))
 unfold callGetattribute
 rw[show (expr&&onTheHeap (nW "BaseException.__getattribute__"))=false from nG _,if_neg (by decide)]
 unfold boundAndCalled
 rw[FB.ga.bind]
 refine aG (bD ?_)
 show wpAny _ _ (call (.builtin "BaseException.__getattribute__") [.ref x,.str name tk]) _ _ _
 refine iD (jH FB.ga.plain PySem.F.entry_bexc_ga ?_)
 refine @oG (model prog w) _ _ s "BaseException.__getattribute__" "BaseException" "__getattribute__" (.ref x) [.str name tk] [] _ (by decide +kernel) (by decide +kernel) (I.type.andThen (PySem.W.looks_subIn X T.sb)) (PySem.F.args_bexc_ga (.ref x) (.str name tk)) ?_
 refine cL h (fun fin s' z=>?_) fun _ _ z=>z.elim
 rcases fin with (_ | _ | _ | _) | _ <;> first | exact z | exact z.elim
theorem Afx{r:lF.ObjectAttr.Found}{tk:Tok}{Q:Fin->aI->Prop}(X:K.In s.heap)(I:fP s.heap x ox C od)(hf:jT K C od name=some r)
  (h:match r with
   | .value v=>Q (.done (.ret v)) s
   | .bind g a=>wpAny (model prog w) A (call g [a,.ref x,.ref C]) (fun v s'=>Q (.done (.ret v)) s') E s
   | .missing=>False):wpAny (model prog w) A (lF.«object.__getattribute__» ⟨[.ref x,.str name tk],[]⟩) Q E s:=by
 unfold lF.«object.__getattribute__»
 refine aG (bD ?_)
 refine aG (bD ?_)
 refine aG (I.type.here (aG ((PySem.W.looks_find X I hf).here ?_)))
 cases r with
 | value v=>exact bD h
 | bind g a=>
  show wpAny _ _ (holding [a] (call g [a,.ref x,.ref C]) >>= ret) _ _ _
  exact aG (gC (cL h (fun v s' z=>bD z) fun _ _ z=>z))
 | missing=>exact h.elim
theorem Xj(T:ExcA K C):PySem.W.KitX K (.ref x) (.ref C) (fun h=>fP h x ox C od) where
 ty:=fun _ _ _ I=>I.type
 it:=fun _ _ X _=>by
  obtain ⟨cd,hc,_⟩:=gQ T.hd
  unfold qS at hc
  split at hc
  ·rename_i ho
   intro A' Q' E' s' k q
   unfold isType loadHead
   exact aG (mY (k _ _ (X _ _ ho)) (bD q))
  ·cases hc
 ne:=fun h tp dd its n sl X htp=>by
  obtain ⟨cd,hc,_⟩:=gQ T.hd
  refine Bool.eq_false_iff.mpr fun q=>?_
  have e:C=tp:=bE.inj (beq_iff_eq.mp q)
  subst e
  unfold qS at hc
  split at hc
  ·rename_i ho
   have z:=(X _ _ ho).symm.trans htp
   cases z
  ·cases hc
 ca:=fun {prog w A E Q s} X I k=>by
  have hf:jT K C od "__class__" = some (.bind (.builtin "getset_descriptor.__get__") (.builtin "object.__class__")):=by
   obtain ⟨cd,hc,_⟩:=gQ T.hd
   unfold jT
   rw[hc,aA,T.cl,aA]
   dsimp only
   rw[T.sg,aA]
   dsimp only
   rw[T.tk,aA]
  unfold getAttr? getAttrBy?
  refine aG (wpAny_mkText (aG (lU (Agc (s:={ s with toks:=s.toks+1 }) X T I (Afx (s:={ s with toks:=s.toks+1 }) X I hf ?_)))))
  refine iD (PySem.W.class_get (s:={ s with toks:=s.toks+1 }) X I T.mo ?_)
  exact pA rfl (bD k)
end
section
variable {X:Cx}{Cs Ds:List Str}
theorem Abv{P:bN}{w:bW}{H:Hp}{h:Heap}{a Ca:Addr}{dd:Option Addr}{fr:Bool}{vs:List (Str×V)}(ok:HOk P w H h)(he:H a=some (.ext (ExcIs a Ca dd fr)))(hd:DictIs H dd vs) :
  ∃ ox od,fP h a ox Ca od/\ox.dict=dd:=by
 obtain ⟨o,ws,h1,h2,h3,h4,_⟩:=(ok a _ he).1
 have no:nH o=true:=by unfold nH;rw[h4]
 cases dd with
 | none=>exact ⟨o,none,⟨h1,h2,no,by rw[h3];trivial⟩,h3⟩
 | some dx=>
  obtain ⟨_,od,q⟩:=hd
  exact ⟨o,some od,⟨h1,h2,no,by rw[h3];exact (ok dx _ q).1⟩,h3⟩
noncomputable def vOf:aE->Option V
 | .ref a=>some (.ref a)
 | .type T=>some (.ty T)
 | _=>none
inductive IsxR(K:aC)(xs:List V)(H:Hp)(Q:VK):Prop
 | mk (a:_) (Ca:_) (dd:_) (fr:_) (vs:_) (c:_) (v:_) (b:_) (h0:xs=[.ref a,v]) (h1:vOf c=some v) (h2:H a=some (.ext (ExcIs a Ca dd fr))) (h3:DictIs H dd vs) (h4:ExcA K Ca) (h5:cY K (.ref Ca) c=some b) (h6:Q (.bl b) H):IsxR K xs H Q
theorem Wz:CallR X (.builtin "isinstance") (IsxR X.K):=by
 intro pins s σ H xs us Q I r h
 obtain ⟨a,Ca,dd,fr,vs,c,v,b,rfl,hc,ha,hd,T,e,q⟩:=h
 obtain ⟨u,u2,rfl,rx,ry⟩:=r.two
 obtain rfl:u=bE a:=rx
 have hu:u2=c:=by
  cases c <;> simp[vOf] at hc <;> subst hc <;> exact ry
 subst hu
 obtain ⟨ox,od,J,_⟩:=Abv I.hok ha hd
 exact cT (Xj (ox:=ox) (od:=od) T) I.kIn J e (fun z=>nomatch z) fun tk=>⟨.bl b,H,I.tok _,rfl,q⟩
theorem Uo:∀ {ds:List Addr} {its:List aE},Vals (ds.map V.ref) its->its=ds.map bE
 | [],_,.nil=>rfl
 | _::ds,_,.cons r t=>by
  rw[Uo t]
  exact congrArg (· :: _) r
inductive IsxtR(K:aC)(xs:List V)(H:Hp)(Q:VK):Prop
 | mk (a Ca:Addr) (dd:Option Addr) (fr:Bool) (vs:List (Str×V)) (tp:Addr) (ds:List Addr) (b:Bool) (h0:xs=[.ref a,.ref tp]) (h1:H tp=some (.tup (ds.map V.ref))) (h2:H a=some (.ext (ExcIs a Ca dd fr))) (h3:DictIs H dd vs) (h4:ExcA K Ca) (h5:nI K (.ref Ca) (ds.map bE)=some b) (h6:Q (.bl b) H):IsxtR K xs H Q
theorem Aeb:CallR X (.builtin "isinstance") (IsxtR X.K):=by
 intro pins s σ H xs us Q I r h
 obtain ⟨a,Ca,dd,fr,vs,tp,ds,b,rfl,ht,ha,hd,T,e,q⟩:=h
 obtain ⟨u,u2,rfl,rx,ry⟩:=r.two
 obtain rfl:u=bE a:=rx
 obtain rfl:u2=bE tp:=ry
 obtain ⟨ox,od,J,_⟩:=Abv I.hok ha hd
 obtain ⟨_,its,rv,o,ho,hcl,n,hda⟩:=I.hok tp _ ht
 rw[Uo rv] at hda
 obtain ⟨cl,di,da,sl⟩:=o
 dsimp only at hcl hda
 obtain ⟨hcl,hdi⟩:=kS hcl
 subst hcl hda
 exact PySem.W.kia_tup (Xj (ox:=ox) (od:=od) T) I.kIn J ho e (fun z=>nomatch z) fun tk=>⟨.bl b,H,I.tok _,rfl,q⟩
noncomputable def Qf(Cs:List Str)(u:U)(L:UH):Option (Nat×Str×List (Str×U)):=match u with
 | .ref n=>match L[n]? with
  | some (.exc C _ fs)=>if C∈Cs then some (n,C,fs) else none
  | _=>none
 | _=>none
theorem Ri{u:U}{L:UH}{n:Nat}{C:Str}{fs:List (Str×U)}(h:Qf Cs u L=some (n,C,fs)):u = .ref n/\C∈Cs/\∃ fr,L[n]? = some (.exc C fr fs):=by
 unfold Qf at h
 split at h
 ·split at h
  ·rename_i e
   split at h
   ·rename_i hc
    cases h
    exact ⟨rfl,hc,_,e⟩
   ·cases h
  ·cases h
 ·cases h
noncomputable def R5(Cs:List Str)(D:Str)(f:FE):FE:=fun δ L=>(f δ L).bind fun p=>(Qf Cs p.1 p.2).map fun t=>(.bl (isX t.2.1 D),p.2)
theorem Ab3{σ:L2.St}{H:Hp}{Q:VK}{K:aC}{D:Str}{fe:FE}{c:aE}{v:V}(T:Px K Cs Ds=true)(hD:D∈Ds)(hc:Aei K D=some c)(hv:vOf c=some v)(h:lE K (R5 Cs D fe) σ H Q) :
  tCB (IsxR K) (Agl (lE K fe) (Agl (tC v) Ajl)) σ H Q:=by
 obtain ⟨α,δ,L,A,S,z,L3,e,q⟩:=h
 obtain ⟨⟨u,L1⟩,e1,e⟩:=aB.mp e
 obtain ⟨⟨n,C,fs⟩,e2,e⟩:=aH.mp e
 cases e
 obtain ⟨rfl,hC,fr,hL⟩:=Ri e2
 refine ⟨α,δ,L,A,S,_,_,e1,fun x H1 α1 g1 A1 r1=>?_⟩
 obtain ⟨a,ea,Ca,dd,vs,hns,ha,hd,hk,rr⟩:=A1.addr hL
 obtain ⟨a',ea',rfl⟩:=r1.ref_of A1
 rw[ea] at ea';cases ea'
 obtain ⟨TA,TD⟩:=Kg T hC hns
 obtain ⟨c',hc',hk',_⟩:=TD D hD
 rw[hc] at hc';cases hc'
 exact ⟨a,Ca,dd,fr,vs,c,v,_,rfl,hv,ha,hd,TA,hk',q _ H1 α1 g1 A1 rfl⟩
theorem Ah3{e:Expr}{fe:FE}{p p2 pos:Pos}{D:Str}{Da:Addr}(T:Px X.K Cs Ds=true)(hD:D∈Ds)(hns:aO X.K aN D=some (some (.ref Da)))(he:PEF X e fe)(hg:Gl X "isinstance")(hm:X.mg "isinstance" = none)(hg2:Gl X D)(hm2:X.mg D=some (.ref Da))
  (hdb:(D == ("__debug__" : Str))=false:=by decide)
  (hs:aS [e,.Name D p2] X.env=(false,eval e X.env)::aS [.Name D p2] X.env:=by rfl) (hs2:aS [.Name D p2] X.env=(false,eval (.Name D p2) X.env)::aS [] X.env:=by rfl)
  (hpl:(backTo pos (aS [.Name D p2] X.env)).any (·.1)=false:=by rfl):PEF X (.Call (.Name "isinstance" p) [e,.Name D p2] [] pos) (R5 Cs D fe):=
 PE.imp (Lu Wz hg hm (by decide +kernel) (Gv he (Gv (Acp hg2 hm2 (v:=.ref Da) rfl hdb) Ot hs2) hs) (by decide) (by decide) hs hpl) fun σ H Q h=>Ab3 T hD (Qs hns) rfl h
theorem Aj5{e:Expr}{fe:FE}{p p2 pos:Pos}(T:Px X.K Cs Ds=true)(hD:("ValueError" : Str)∈Ds)(hns:aO X.K aN "ValueError" = some none)(he:PEF X e fe)(hg:Gl X "isinstance")(hm:X.mg "isinstance" = none)(hg2:Gl X "ValueError")(hm2:X.mg "ValueError" = none)
  (hs:aS [e,.Name "ValueError" p2] X.env=(false,eval e X.env)::aS [.Name "ValueError" p2] X.env:=by rfl) (hs2:aS [.Name "ValueError" p2] X.env=(false,eval (.Name "ValueError" p2) X.env)::aS [] X.env:=by rfl)
  (hpl:(backTo pos (aS [.Name "ValueError" p2] X.env)).any (·.1)=false:=by rfl):PEF X (.Call (.Name "isinstance" p) [e,.Name "ValueError" p2] [] pos) (R5 Cs "ValueError" fe):=
 PE.imp (Lu Wz hg hm (by decide +kernel) (Gv he (Gv (Acb hg2 hm2 (u:=.type "ValueError") (by decide +kernel) (v:=.ty "ValueError") rfl) Ot hs2) hs) (by decide) (by decide) hs hpl) fun σ H Q h=>Ab3 (c:=.type "ValueError") T hD (by unfold Aei;rw[hns];rfl) rfl h
inductive Names(X:Cx):List Str->List Addr->List Expr->Prop where
 | nil:Names X [] [] []
 | cons {D:Str} {Da:Addr} {Dn:List Str} {ds:List Addr} {es:List Expr} {p2:Pos} (hns:aO X.K aN D=some (some (.ref Da))) (hg2:Gl X D) (hm2:X.mg D=some (.ref Da)) (t:Names X Dn ds es)
   (hdb:(D == ("__debug__" : Str))=false:=by decide) (hs:aS (.Name D p2::es) X.env=(false,eval (.Name D p2) X.env)::aS es X.env:=by rfl):Names X (D::Dn) (Da::ds) (.Name D p2::es)
theorem Names.pa{Dn:List Str}{ds:List Addr}{es:List Expr}(h:Names X Dn ds es):PA X es (fun _ H Q=>Q (ds.map V.ref) H):=by
 induction h with
 | nil=>exact Ot
 | cons hns hg2 hm2 t hdb hs ih=>exact Gv (Acp hg2 hm2 (v:=.ref _) rfl hdb) ih hs
theorem Names.kit{Dn:List Str}{ds:List Addr}{es:List Expr}(h:Names X Dn ds es)(T:Px X.K Cs Ds=true)(hD:∀ D∈Dn,D∈Ds){C:Str}{Ca:Addr}(hC:C∈Cs)(hn:aO X.K aN C=some (some (.ref Ca))) :
  nI X.K (.ref Ca) (ds.map bE)=some (Dn.any (isX C)):=by
 induction h with
 | nil=>rfl
 | cons hns hg2 hm2 t hdb hs ih=>
  obtain ⟨v,hv,hk,_⟩:=(Kg T hC hn).2 _ (hD _ cD)
  rw[Qs hns] at hv
  cases hv
  have ih:=ih fun D h=>hD D (bI _ h)
  simp only[aP,nI,eU]
  rw[hk]
  cases hb:isX C _ with
  | true=>simp
  | false=>simp[ih]
noncomputable def Adb(Cs Dn:List Str)(f:FE):FE:=fun δ L=>(f δ L).bind fun p=>(Qf Cs p.1 p.2).map fun t=>(.bl (Dn.any (isX t.2.1)),p.2)
theorem Names.len{Dn:List Str}{ds:List Addr}{es:List Expr}(h:Names X Dn ds es):ds.length=Dn.length:=by
 induction h with
 | nil=>rfl
 | cons _ _ _ _ _ _ ih=>simp[ih]
theorem Ajt{e:Expr}{fe:FE}{p p2 pos:Pos}{k:Nat}{Dn:List Str}{ds:List Addr}{es:List Expr}(T:Px X.K Cs Ds=true)(hD:∀ D∈Dn,D∈Ds)(hN:Names X Dn ds es)(he:PEF X e fe)(hg:Gl X "isinstance")(hm:X.mg "isinstance" = none)(hlen:Dn.length<=100:=by decide)
  (hs:aS [e,.Tuple es k p2] X.env=(false,eval e X.env)::aS [.Tuple es k p2] X.env:=by rfl) (hs2:aS [.Tuple es k p2] X.env=(false,eval (.Tuple es k p2) X.env)::aS [] X.env:=by rfl)
  (hpl:(backTo pos (aS [.Tuple es k p2] X.env)).any (·.1)=false:=by rfl):PEF X (.Call (.Name "isinstance" p) [e,.Tuple es k p2] [] pos) (Adb Cs Dn fe):=by
 refine PE.imp (Lu Aeb hg hm (by decide +kernel) (Gv he (Gv (Af9 hN.pa) Ot hs2) hs) (by decide) (by decide) hs hpl) ?_
 rintro σ H Q ⟨α,δ,L,A,S,z,L3,e,q⟩
 obtain ⟨⟨u,L1⟩,e1,e⟩:=aB.mp e
 obtain ⟨⟨n,C,fs⟩,e2,e⟩:=aH.mp e
 cases e
 obtain ⟨rfl,hC,fr,hL⟩:=Ri e2
 refine ⟨α,δ,L,A,S,_,_,e1,fun x H1 α1 g1 A1 r1=>⟨?_,fun tp ntp=>?_⟩⟩
 ·rw[bF,hN.len];exact jY (Ux (by omega))
 have g2:Gr H1 α1 (upd H1 tp (.tup (ds.map V.ref))) α1:=⟨⟨[],by simp⟩,.new ntp _⟩
 have A2:Abs X.K (upd H1 tp (.tup (ds.map V.ref))) α1 L1:=⟨A1.len,A1.inj,fun i a o e1 e2=>(A1.rep i a o e1 e2).other g2 (.inr fun u q=>by rw[Bc (Bk q ntp)];exact q)⟩
 obtain ⟨a,ea,Ca,dd,vs,hns,ha,hd,hk,rr⟩:=A2.addr hL
 obtain ⟨a',ea',rfl⟩:=r1.ref_of A1
 rw[ea] at ea';cases ea'
 exact ⟨a,Ca,dd,fr,vs,tp,ds,_,rfl,upd_same,ha,hd,(Kg T hC hns).1,hN.kit T hD hC hns,q _ _ α1 (g1.trans g2) A2 rfl⟩
end
section
variable {X:Cx}{e:Expr}{pos pos':Pos}{x:Str}{xe:XE}
theorem Aab(h:PXE X e xe)(hs:swapsWith e (some (.Name x pos')) pos.line X.env=pure false:=by rfl):PXS X (.Assign [.Name x pos'] e pos) (xOf xe):=by
 intro pins s σ H α δ L n δ' L' I A S q
 obtain ⟨q,rfl⟩:=Aio q
 exact oK (cL (h pins s σ H α δ' L n L' I A S q) (fun _ _ z=>z.elim) fun _ _ z=>z) hs
theorem Ol{st:Stmt}{rest:List Stmt}{y:XS}(h1:PXS X st y):Aan X (st::rest) (Vs Km y xNo):=by
 intro pins s σ H α δ L n δ' L' I A S q
 have q1:y δ L=some (n,δ',L'):=by
  unfold Vs at q
  cases h:y δ L with
  | some r=>rw[h] at q;exact q
  | none=>rw[h] at q;cases q
 exact iY (cL (h1 pins s σ H α δ L n δ' L' I A S q1) (fun _ _ z=>z.elim) fun _ _ z=>z)
end
end MR
namespace MR
open PySem PySem.Spec PyProof.Rows PySem.Calls L2
section
variable {X:Cx}
end
section
variable {X:Cx}
noncomputable def tJ:Str->List TE->L2.St->Hp->VK->Prop
 | out,[],_,H,Q=>out.length<=sizeLine/\Q (.str out) H
 | out,t::r,σ,H,Q=>t σ H fun v H1=>∃ x,v = .str x/\(out++x).length<=sizeLine/\tJ (out++x) r σ H1 Q
inductive PEs(X:Cx):List Expr->List TE->Prop
 | nil:PEs X [] []
 | cons {e:Expr} {t:TE} {es:List Expr} {ts:List TE} (h:PE X e t) (r:PEs X es ts):PEs X (e::es) (t::ts)
theorem Ad0{es:List Expr}{ts:List TE}(h:PEs X es ts):∀ (pins:List (Addr×Obj)) (s:aI) (σ:L2.St) (H:Hp) (Q:VK) (out:Str),Inv X pins σ H s ->
  tJ out ts σ H Q->wpAny (model X.prog X.w) X.A (joinParts out (evalEach es X.env)) (EP X pins σ Q) X.xe s:=by
 induction h with
 | nil=>
  intro pins s σ H Q out I q
  obtain ⟨hl,q⟩:=q
  exact joinParts_nil ⟨.str out,H,I.tok _,⟨_,rfl⟩,q⟩ hl
 | @cons e t es ts h r ih=>
  intro pins s σ H Q out I q
  show wpAny _ _ (joinParts out (eval e X.env::evalEach es X.env)) _ _ _
  refine joinParts_cons (thn (h pins s σ H _ I q) fun v s1 zz=>?_)
  obtain ⟨x,H1,I1,r1,y,ey,hl,q1⟩:=zz
  subst ey
  obtain ⟨t',rfl⟩:=r1
  exact ⟨hl,ih pins s1 σ H1 Q (out++y) I1 q1⟩
theorem Aev{v1 v2:Expr}{es:List Expr}{ts:List TE}{pos:Pos}(h:PEs X (v1::v2::es) ts):PE X (.JoinedStr (v1::v2::es) pos) (tJ kB ts):=fun pins s σ H Q I q=>
 JoinedStr_many (Ad0 h pins s σ H Q kB I q)
end
noncomputable def goJ:Str->List FE->UE->UH->Option (U×UH)
 | out,[],_,L=>some (.str out,L)
 | out,f::r,δ,L=>(f δ L).bind fun p=>match p.1 with
  | .str x=>if Dk (out++x).length=true then goJ (out++x) r δ p.2 else none
  | _=>none
noncomputable def Ly(fs:List FE):FE:=fun δ L=>goJ kB fs δ L
inductive PFs(X:Cx):List Expr->List FE->Prop
 | nil:PFs X [] []
 | cons {e:Expr} {f:FE} {es:List Expr} {fs:List FE} (h:PEF X e f) (r:PFs X es fs):PFs X (e::es) (f::fs)
theorem PFs.pes{X:Cx}{es:List Expr}{fs:List FE}(h:PFs X es fs):PEs X es (fs.map (lE X.K)):=by
 induction h with
 | nil=>exact .nil
 | cons h r ih=>exact .cons h ih
theorem Ae9{K:aC}:∀ (fs:List FE) (out:Str) (σ:L2.St) (H:Hp) (Q:VK) (α:List Addr) (δ:UE) (L:UH) (z:U) (L3:UH),Abs K H α L->RepS K H α δ σ->goJ out fs δ L=some (z,L3)->out.length<=sizeLine ->
  (∀ v H' α',Gr H α H' α'->Abs K H' α' L3->RepU K H' α' z v->Q v H')->tJ out (fs.map (lE K)) σ H Q
 | [],out,σ,H,Q,α,δ,L,z,L3,A,S,e,hl,q=>by
  cases e
  exact ⟨hl,q _ H α (.refl _ _) A (by unfold RepU;rfl)⟩
 | f::r,out,σ,H,Q,α,δ,L,z,L3,A,S,e,hl,q=>by
  unfold goJ at e
  obtain ⟨⟨u,L1⟩,e1,e⟩:=aB.mp e
  refine ⟨α,δ,L,A,S,u,L1,e1,fun x H1 α1 g1 A1 r1=>?_⟩
  simp only at e
  split at e
  ·split at e
   ·rename_i x' hc
    unfold RepU at r1
    subst r1
    exact ⟨x',rfl,D7 hc,Ae9 r (out++x') σ H1 Q α1 δ L1 z L3 A1 (S.mono g1) e (D7 hc) fun v H' α' g A' r'=>q v H' α' (g1.trans g) A' r'⟩
   ·cases e
  ·cases e
theorem Aej{X:Cx}{v1 v2:Expr}{es:List Expr}{fs:List FE}{pos:Pos}(h:PFs X (v1::v2::es) fs):PEF X (.JoinedStr (v1::v2::es) pos) (Ly fs):=by
 refine PE.imp (Aev h.pes) ?_
 rintro σ H Q ⟨α,δ,L,A,S,z,L3,e,q⟩
 exact Ae9 fs kB σ H Q α δ L z L3 A S e (kY _) q
end MR
namespace MR
open PySem PySem.Spec PyProof.Rows L2
noncomputable def Ao4(t:TE):TE:=fun σ H Q=>t σ H fun v H1=>∃ x,v = .str x/\(reprText x).length<=sizeLine/\Q (.str (reprText x)) H1
section
variable {X:Cx}
theorem Ai9{e:Expr}{t:TE}{pos:Pos}(h:PE X e t):PE X (.FormattedValue e 114 none pos) (Ao4 t):=by
 intro pins s σ H Q I q
 refine wpAny_FormattedValue_repr (thn (h pins s σ H _ I q) fun v s1 zz=>?_)
 obtain ⟨x,H1,I1,r1,a,ea,hl,q1⟩:=zz
 subst ea
 obtain ⟨t',rfl⟩:=r1
 refine wpAny_pyReprObj_str ?_ hl
 exact formatField_str (fun t'' tk=>⟨.str (reprText a),H1,I1.tok tk,⟨_,rfl⟩,q1⟩) hl
noncomputable def Um(f:FE):FE:=fun δ L=>(f δ L).bind fun p=>match p.1 with
 | .str x=>if Dk (reprText x).length=true then some (.str (reprText x),p.2) else none
 | _=>none
theorem Aiq{e:Expr}{f:FE}{pos:Pos}(h:PEF X e f):PEF X (.FormattedValue e 114 none pos) (Um f):=by
 refine PE.imp (Ai9 h) ?_
 rintro σ H Q ⟨α,δ,L,A,S,z,L3,e,q⟩
 obtain ⟨⟨u,L1⟩,e1,e⟩:=aB.mp e
 refine ⟨α,δ,L,A,S,u,L1,e1,fun x H1 α1 g1 A1 r1=>?_⟩
 simp only at e
 split at e
 ·split at e
  ·rename_i hc
   cases e
   unfold RepU at r1
   subst r1
   exact ⟨_,rfl,D7 hc,q _ _ _ g1 A1 (by unfold RepU;rfl)⟩
  ·cases e
 ·cases e
end
theorem Ahj(self:aE):pM self "__setattr__" bmV=pure ():=by kernel_rfl
theorem W5{h:Heap}{l:List aE}(self:aE)(T:OwnTail h bmV l):pM self "__setattr__" l=pure ():=by
 generalize hb:bmV=b at T
 induction T with
 | base=>rw[<- hb];exact Ahj self
 | own _ _ _ _ ih=>rw[PySem.refuseLoop_ref];exact ih
noncomputable def Ah4(K:aC)(Cs:List Str)(f:Str):Bool:=Cs.all fun C=>match aO K aN C with
 | some (some (.ref a))=>aY K (.ref a) f == some none&&aY K (.ref a) "__setattr__" == some (some (.builtin "object.__setattr__"))
 | _=>false
theorem Abi{K:aC}{Cs:List Str}{f C:Str}{Ca:Addr}(T:Ah4 K Cs f=true)(hC:C∈Cs)(hn:aO K aN C=some (some (.ref Ca))):aY K (.ref Ca) f=some none/\aY K (.ref Ca) "__setattr__" = some (some (.builtin "object.__setattr__")):=by
 have h:=cU.mp T C hC
 rw[hn] at h
 simpa only[dA,beq_iff_eq] using h
section
variable {prog:bN}{w:bW}{A:cK}{E:aE->aI->Prop}{s:aI}{K:aC}{x C:Addr}{name:Str}{v:aE}{vs:Array aE}
theorem Aj6{Q:Unit->aI->Prop}(X:K.In s.heap)(T:ExcA K C)(hf:aY K (.ref C) name=some none)(hs:aY K (.ref C) "__setattr__" = some (some (.builtin "object.__setattr__")))
  (hx:s.heap.get? x=some ⟨.ref C,none,.fields vs,#[]⟩)
  (h:∀ h',(∀ b o,b≠x->s.heap.get? b=some o->h'.get? b=some o)->h'.get? x=some ⟨.ref C,some s.heap.objs.size,.fields vs,#[]⟩->h'.Ns1 s.heap.objs.size (fun y=>if y=name then some v else none)->Q () { s with heap:=h',toks:=s.toks+2 }) :
  wpAny (model prog w) A (setAttr (.ref x) name v) Q E s:=by
 have I:fP s.heap x ⟨.ref C,none,.fields vs,#[]⟩ C none:=⟨hx,rfl,rfl,trivial⟩
 have SF:=PySem.F.store_object
 obtain ⟨cd,hc,hd⟩:=gQ T.hd
 refine oN X I hs ?_
 have hs1:({ s with toks:=s.toks+1 }:aI).heap=s.heap:=rfl
 have sub:nV (model prog w) s.heap (isInstance (.ref x) (.type "object")) true:=I.type.andThen (PySem.W.looks_mroIn X T.mo)
 refine jH SF.slot.plain SF.entry (@oG (model prog w) _ _ { s with toks:=s.toks+1 } "object.__setattr__" "object" "__setattr__" (.ref x) [.str name s.toks,v] [] _ SF.kind SF.split sub (SF.args (.ref x) (.str name s.toks) v) ?_)
 obtain ⟨nm,qn,N,bs,bm,hdct,sn,sub',ab,col,dd',k0,k1,k2,k3,k5,hC,OT⟩:=N5 X T.ex
 rw[PySem.W.osa_eq,refuse_eq]
 refine aG (aG (dW (s:={ s with toks:=s.toks+1 }) I.type (aG ?_)))
 refine wpAny_mroOf_exc (g:=s.gens) (d:=s.drawn) (t:=s.toks+1) (os:=s.os) hC ?_
 rw[refuseLoop_ref,W5 _ OT]
 refine bD (aG (dW (s:={ s with toks:=s.toks+1 }) I.type (aG (dW (s:={ s with toks:=s.toks+1 }) (gI X hf) ?_))))
 refine aG (bD (a:=none) ?_)
 show wpAny _ _ (iI (.ref x) (.ref C) (.str name s.toks) name v false) _ _ _
 unfold iI lF.ObjectAttr.ownDictForStores instanceDict
 refine aG (bD ?_)
 rw[if_neg (show ¬ ((bE C == mI "module")=true) from by simp)]
 refine aG ?_
 refine aG (mY hx ?_)
 refine aG (dW (s:={ s with toks:=s.toks+1 }) (nM X hc) ?_)
 rw[hd]
 show wpAny _ _ (do
  let d <- alloc { cls:=.type "dict",data:=.dict #[] }
  update x fun o=>{ o with dict:=some d }
  dictMade (.ref C) x d) _ _ _
 refine aG (wpAny_alloc ?_)
 have hx1:(s.heap.push { cls:=.type "dict",data:=.dict #[] }).get? x=some ⟨.ref C,none,.fields vs,#[]⟩:=aF _ hx
 refine aG (wpAny_update hx1 (bD ?_))
 have hne:x≠s.heap.objs.size:=bY (aV hx)
 have e2:((s.heap.push { cls:=.type "dict",data:=.dict #[] }).update x fun o=>{ o with dict:=some s.heap.objs.size }).get? x=some ⟨.ref C,some s.heap.objs.size,.fields vs,#[]⟩:=dB _ hx1 rfl
 have e1:((s.heap.push { cls:=.type "dict",data:=.dict #[] }).update x fun o=>{ o with dict:=some s.heap.objs.size }).get? s.heap.objs.size=some { cls:=.type "dict",data:=.dict #[] }:=(cM _ _ hne).trans (aW s.heap rfl)
 have n0:((s.heap.push { cls:=.type "dict",data:=.dict #[] }).update x fun o=>{ o with dict:=some s.heap.objs.size }).Ns1 s.heap.objs.size (fun _=>none):=oQ ⟨_,#[],_,e1,rfl,(fun e he=>absurd he (by simp)),fun _=>rfl⟩
 generalize hh2:((s.heap.push { cls:=.type "dict",data:=.dict #[] }).update x fun o=>{ o with dict:=some s.heap.objs.size })=h2 at *
 show wpAny _ _ (iZ s.heap.objs.size (.str name s.toks) name v) _ _ _
 unfold iZ
 refine aG (bD (aG ?_))
 refine wpAny_nsSet1 n0 fun h3 n3 sb=>?_
 obtain ⟨oD,esD,epD,hoD,hdD,hcD⟩:=n3.count (oO (ns:=[]) name v (fun y hy=>absurd rfl hy))
 refine aG (pD hoD (by rw[hdD];exact pE (cC hcD (by show 1<=sizeLine+1;decide))) ?_)
 refine bD (h h3 (fun b o hb q=>?_) ((sb.2 x hne).trans e2) n3)
 have hb2:b≠s.heap.objs.size:=bY (aV q)
 rw[sb.2 b hb2,<- hh2,cM _ _ (cR hb)]
 exact aF _ q
end
noncomputable def Ap2(K:aC)(to tv:TE)(f:Str):TS:=fun D σ H=>tv σ H fun y H1=>to σ H1 fun x H2=>∃ a Ca fr,x = .ref a/\H2 a=some (.ext (ExcIs a Ca none fr))/\ExcA K Ca/\aY K (.ref Ca) f=some none /\
 aY K (.ref Ca) "__setattr__" = some (some (.builtin "object.__setattr__"))/\∀ d od,H2 d=none->d≠a->D.nx σ (upd (upd H2 d (.frz od (.xd [(f,y)]))) a (.ext (ExcIs a Ca (some d) fr)))
section
variable {X:Cx}{o e value:Expr}{f:Str}{p pos pos':Pos}{to tv:TE}
theorem Aiy(ho:PE X o to)(hv:PE X value tv)(hs:swapsWith value (some (.Attribute o f pos')) pos.line X.env=pure false:=by rfl):PS X (.Assign [.Attribute o f pos'] value pos) (Ap2 X.K to tv f):=by
 intro pins s σ H D I h
 refine iT (thn (hv pins s σ H _ I h) fun u s1 ⟨y,H1,I1,ry,q⟩=>thn (ho pins s1 σ H1 _ I1 q) fun ov s2 ⟨x,H2,I2,rx,a,Ca,fr,ex,ea,T,hf,hsa,q2⟩=>?_) hs
 subst ex
 obtain rfl:ov=bE a:=rx
 obtain ⟨ob,vs,h1,h2,h3,h4,h5,h6,h7⟩:=(I2.hok a _ ea).1
 obtain ⟨cl,di,da,sl⟩:=ob
 dsimp only at h2 h3 h4 h6
 subst h2 h3 h4 h6
 refine Aj6 I2.kIn T hf hsa h1 fun h' k hx hn=>?_
 have hfr:H2 s2.heap.objs.size=none:=I2.hok.fresh (bB _)
 have hne:s2.heap.objs.size≠a:=gO (aV h1)
 obtain ⟨od,es,ep,ho',hrest⟩:=id hn
 have hfd:od.isFreed=false:=(Heap.get?_some_iff.mp ho').2
 have e1:(s2.heap.push od).get? s2.heap.objs.size=some od:=aW s2.heap hfd
 have nx:(s2.heap.push od).Ns1 s2.heap.objs.size (fun z=>if z=f then some u else none):=⟨od,es,ep,e1,hrest⟩
 have rel:∀ g,RelO (eT g [(f,y)]) (if g=f then some u else none):=fun g=>by
  rw[bX]
  by_cases hg:g=f
  ·subst hg;simp;exact ry
  ·have:(g == f)=false:=by simpa using hg
   rw[this,if_neg hg]
   exact dX
 have J1:=I2.laid (a:=s2.heap.objs.size) (o:=.frz od (.xd [(f,y)])) (h':=s2.heap.push od) (t':=s2.toks) (fun b u q=>aF _ q) (bB _) ⟨e1,_,nx,rel⟩
 have hxI:ExcIs a Ca (some s2.heap.objs.size) fr h':=⟨_,vs,hx,rfl,rfl,rfl,h5,rfl,h7⟩
 have J2:=J1.write (h':=h') (x:=a) (e:=a) (o:=.ext (ExcIs a Ca (some s2.heap.objs.size) fr)) (t':=s2.toks+2) (by rw[Bc (cR hne),ea];exact dX) (.inl rfl) (fun b w hb z=>by
  rcases Heap.get?_push_cases z with ⟨hd,ho2⟩ | z2
  ·subst hd;subst ho2;exact ho'
  ·exact k b w hb z2) ⟨_,hx⟩ (Nu hxI)
 exact ⟨σ,_,J2,q2 _ od hfr hne⟩
end
noncomputable def Acz(Cs:List Str)(f:Str)(fo fv:FE):FS:=fun δ L=>(fv δ L).bind fun p=>(fo δ p.2).bind fun q=>match q.1 with
 | .ref n=>match q.2[n]? with
  | some (.exc C fr [])=>if C∈Cs then some (.nx δ,q.2.set n (.exc C fr [(f,p.1)])) else none
  | _=>none
 | _=>none
section
variable {X:Cx}{o e value:Expr}{f:Str}{p pos pos':Pos}{fo fv fe:FE}{Cs Ds:List Str}
theorem Afa(T:Px X.K Cs Ds=true)(F:Ah4 X.K Cs f=true)(ho:PEF X o fo)(hv:PEF X value fv)(hs:swapsWith value (some (.Attribute o f pos')) pos.line X.env=pure false:=by rfl) :
  PSF X (.Assign [.Attribute o f pos'] value pos) (Acz Cs f fo fv):=by
 refine PS.imp (Aiy ho hv hs) ?_
 rintro D σ H ⟨α,δ,L,A,S,fl,L',ee,q⟩
 obtain ⟨⟨u,L1⟩,e1,ee⟩:=aB.mp ee
 obtain ⟨⟨w,L2⟩,e2,ee⟩:=aB.mp ee
 simp only at ee
 split at ee
 ·rename_i n
  split at ee
  ·rename_i C fr hL
   split at ee
   ·rename_i hC
    cases ee
    refine ⟨α,δ,L,A,S,u,L1,e1,fun y H1 α1 g1 A1 r1=>⟨α1,δ,L1,A1,S.mono g1,_,L2,e2,fun x H2 α2 g2 A2 r2=>?_⟩⟩
    obtain ⟨a,ea,Ca,dd,vs,hns,ha,hd,hk,rr⟩:=A2.addr hL
    obtain ⟨a',ea',rfl⟩:=r2.ref_of A2
    rw[ea] at ea';cases ea'
    have hvs:vs=[]:=by
     cases vs with
     | nil=>rfl
     | cons z zs=>simp at hk
    subst hvs
    have hdn:dd=none:=by
     cases dd with
     | none=>rfl
     | some dx=>exact absurd rfl hd.1
    subst hdn
    obtain ⟨TA,_⟩:=Kg T hC hns
    obtain ⟨F1,F2⟩:=Abi F hC hns
    refine ⟨a,Ca,fr,rfl,ha,TA,F1,F2,fun d od nd hne=>?_⟩
    have ga:Gr H2 α2 (upd H2 d (.frz od (.xd [(f,y)]))) α2:=⟨⟨[],by simp⟩,.new nd _⟩
    have Aa:Abs X.K (upd H2 d (.frz od (.xd [(f,y)]))) α2 L2:=⟨A2.len,A2.inj,fun i b o' e1 e2=>(A2.rep i b o' e1 e2).other ga (.inr fun v z=>by rw[Bc (Bk z nd)];exact z)⟩
    have ha':(upd H2 d (.frz od (.xd [(f,y)]))) a=some (.ext (ExcIs a Ca none fr)):=by rw[Bc (cR hne)];exact ha
    have gb:Gr (upd H2 d (.frz od (.xd [(f,y)]))) α2 (upd (upd H2 d (.frz od (.xd [(f,y)]))) a (.ext (ExcIs a Ca (some d) fr))) α2:=⟨⟨[],by simp⟩,.write ha' (by exact trivial) _⟩
    have hdd:DictIs (upd (upd H2 d (.frz od (.xd [(f,y)]))) a (.ext (ExcIs a Ca (some d) fr))) (some d) [(f,y)]:=⟨by simp,od,by rw[Bc hne,upd_same]⟩
    obtain ⟨Ab,_⟩:=Aa.put (o:=.ext (ExcIs a Ca (some d) fr)) (u:=.exc C fr [(f,u)]) ea hL rfl rfl ha' (by exact trivial) ⟨Ca,some d,[(f,y)],hns,upd_same,hdd,rfl,.cons (((r1.mono g2).mono ga).mono gb) .nil⟩
    exact q _ _ α2 ((g1.trans g2).trans (ga.trans gb)) Ab ((((S.mono g1).mono g2).mono ga).mono gb)
   ·cases ee
  ·cases ee
 ·cases ee
inductive FldXR(K:aC)(f:Str)(Q:VK)(x:V)(H1:Hp):Prop
 | mk (a:_) (Ca:_) (dx:_) (fr:_) (vs:_) (od:_) (v:_) (h0:x = .ref a) (h1:H1 a=some (.ext (ExcIs a Ca (some dx) fr))) (h2:H1 dx=some (.frz od (.xd vs))) (h3:ExcA K Ca) (h4:aY K (.ref Ca) f=some none) (h5:vs.lookup f=some v) (h6:Q v H1):FldXR K f Q x H1
noncomputable def Aqm(K:aC)(t:TE)(f:Str):TE:=fun σ H Q=>t σ H (FldXR K f Q)
theorem Ake{t:TE}(he:PE X e t)(hb:attributeBase e f X.env (eval e X.env)=eval e X.env:=by rfl):PE X (.Attribute e f pos) (Aqm X.K t f):=by
 intro pins s σ H Q I h
 refine Ac5 hb (thn (he pins s σ H _ I h) fun u s1 zz=>?_)
 obtain ⟨x,H1,I1,rx,a,Ca,dx,fr,vs,od,v,ex,ea,ed,T,hf,hl,q⟩:=zz
 subst ex
 obtain rfl:u=bE a:=rx
 obtain ⟨ob,ws,h1,h2,h3,h4,_⟩:=(I1.hok a _ ea).1
 obtain ⟨hod,mA,hn,hr⟩:=I1.hok dx _ ed
 have J:fP s1.heap a ob Ca (some od):=⟨h1,h2,by unfold nH;rw[h4],by rw[h3];exact hod⟩
 obtain ⟨od2,ho2,hlk⟩:=Uw hn
 rw[hod] at ho2
 cases ho2
 have hv:=hr f
 rw[hl] at hv
 cases hm:mA f with
 | none=>rw[hm] at hv;exact hv.elim
 | some v'=>
  rw[hm] at hv
  have hfo:jT X.K Ca (some od) f=some (.value v'):=nL T.hd hf rfl (by rw[hlk,hm])
  unfold getAttr
  refine aG (wpAny_mkText ?_)
  refine Agc (s:={ s1 with toks:=s1.toks+1 }) I1.kIn T J (Afx (s:={ s1 with toks:=s1.toks+1 }) I1.kIn J hfo ?_)
  exact pA (U8 hv) ⟨v,H1,I1.tok _,hv,q⟩
noncomputable def Mp(Cs:List Str)(f:Str)(fe:FE):FE:=fun δ L=>(fe δ L).bind fun p=>(Qf Cs p.1 p.2).bind fun t=>(t.2.2.lookup f).map fun v=>(v,p.2)
theorem Ac2(T:Px X.K Cs Ds=true)(F:Ah4 X.K Cs f=true)(he:PEF X e fe)(hb:attributeBase e f X.env (eval e X.env)=eval e X.env:=by rfl):PEF X (.Attribute e f pos) (Mp Cs f fe):=by
 refine PE.imp (Ake he hb) ?_
 rintro σ H Q ⟨α,δ,L,A,S,z,L3,ee,q⟩
 obtain ⟨⟨u,L1⟩,e1,ee⟩:=aB.mp ee
 obtain ⟨⟨n,C,fs⟩,e2,ee⟩:=aB.mp ee
 obtain ⟨w,e3,ee⟩:=aH.mp ee
 cases ee
 obtain ⟨rfl,hC,fr,hL⟩:=Ri e2
 refine ⟨α,δ,L,A,S,_,_,e1,fun x H1 α1 g1 A1 r1=>?_⟩
 obtain ⟨a,ea,Ca,dd,vs,hns,ha,hd,hk,rr⟩:=A1.addr hL
 obtain ⟨a',ea',rfl⟩:=r1.ref_of A1
 rw[ea] at ea';cases ea'
 obtain ⟨v,hv,rv⟩:=(Hy hk rr).1 _ e3
 cases dd with
 | none=>
  have hd:vs=[]:=hd
  subst hd
  cases hv
 | some dx=>
  obtain ⟨_,od,hdx⟩:=hd
  exact ⟨a,Ca,dx,fr,vs,od,v,rfl,ha,hdx,(Kg T hC hns).1,(Abi F hC hns).1,hv,q v H1 α1 g1 A1 rv⟩
end
end MR
namespace ZT
open PySem PySem.Spec PyProof.Rows PySem.W
open Sem (wp)
section
variable {prog:bN}{w:bW}{A:cK}{E:aE->aI->Prop}{s:aI}{T:String}{r d:Addr}{n:Nat}{P:Nat->aE->Prop}{OK:Heap->Prop}
theorem Xf{Q:List aE->aI->Prop}(K:KdlSrc prog w T r d n P OK)(hh:A.handled=none)(hok:OK s.heap)
  (hQ:∀ (h':Heap) (tk:Nat) (acc:Array aE),(∀ b o,s.heap.get? b=some o->h'.get? b=some o)->ItemsOf P acc n->Q acc.toList { s with heap:=h',toks:=tk }) (hn:n<=sizeLine):wpAny (model prog w) A (collect (.ref r)) Q E s:=by
 have hlt:=K.there _ hok
 unfold collect
 refine aG (wpAny_runValue (mQ PySem.F.entry_proto_collect ?_))
 rw[jI PySem.F.plain_proto_collect _]
 show wpAny _ A.in1 (newList [] >>= fun l=>again (.builtin "list.__iadd__" ⟨[l,.ref r],[]⟩)) _ _ s
 refine aG (eO ?_)
 refine bD ⟨plainId_quiet mG _,mQ PySem.F.entry_list_iadd ?_⟩
 rw[jI mG _]
 have hS₁:(s.heap.push { cls:=.type "list",data:=.seq ([]:List aE).toArray }).get? s.heap.objs.size=some { cls:=.type "list",data:=.seq ([]:List aE).toArray }:=aW _ rfl
 show wpAny _ A.in1 (lF.List.listExtendWith (.ref s.heap.objs.size) (.ref r) (.ref s.heap.objs.size)) _ _ _
 refine kdl_extend (R:=wants _ E) (s:={ s with heap:=s.heap.push { cls:=.type "list",data:=.seq ([]:List aE).toArray } }) K hh (K.keep _ _ hok fun b _ o e=>aF _ e) s.heap.objs.size (gO hlt.1) (gO hlt.2) _ _ hS₁ (fun h' tk acc' c' hk hS' hacc=>?_) hn
 show wpAny _ A (load s.heap.objs.size >>= _) _ _ _
 refine aG (wpAny_load hS' ?_)
 exact bD (hQ h' tk acc' (fun b o e=>hk b o (bY (aV e)) (aF _ e)) hacc)
theorem Sf{Q₁:aE->aI->Prop}(K:KdlSrc prog w T r d n P OK)(hh:A.handled=none)(hok:OK s.heap)
  (h:∀ (h':Heap) (tk:Nat) (acc:Array aE),(∀ b o,s.heap.get? b=some o->h'.get? b=some o)->ItemsOf P acc n->Q₁ (.ref h'.objs.size) { s with heap:=h'.push { cls:=.type "tuple",data:=.seq acc },toks:=tk }) (hsz:n<=sizeLine) :
  jC (model prog w) A (.call (.builtin "tuple.__new__") ⟨[.type "tuple",.ref r],[]⟩) (wants Q₁ E) s:=by
 refine codeAny_of_tree ?_
 show wpAny _ A.in1 (do checkBuiltinCall "tuple.__new__" ⟨[.type "tuple",.ref r],[]⟩;again (.builtin "tuple.__new__" ⟨[.type "tuple",.ref r],[]⟩)) _ _ s
 refine aG (wpAny_of_eq (PySem.F.newCall_tuple_1 _) (bD ⟨plainId_quiet mH _,mQ PySem.F.entry_tuple_new ?_⟩))
 rw[jI mH _]
 have hsub:=sub_tuple_self
 have hinit:=init_tuple_lookup
 have hmh:=madeHere_tuple
 have hTI:=K.type s hok
 have hnt:=K.notTuple
 wp_walk using wpAny_typeOf hTI,Xf (A:=A.in1) (hn:=hsz) K hh hok
 intro h' tk acc hm hacc
 show wpAny _ _ (lV acc.toList.toArray >>= fun v=>ret v) _ _ _
 unfold lV
 refine aG (eO ?_ (by show acc.toList.toArray.size<=sizeLine;simp only[Array.toArray_toList];rw[hacc.1];exact hsz))
 refine bD ?_
 have e:acc.toList.toArray=acc:=by simp
 rw[e]
 exact h h' tk acc hm hacc
theorem Qt{Q:aE->aI->Prop}(K:KdlSrc prog w T r d n P OK)(hh:A.handled=none)(hok:OK s.heap)
  (hQ:∀ (h':Heap) (tk:Nat) (acc:Array aE),(∀ b o,s.heap.get? b=some o->h'.get? b=some o)->ItemsOf P acc n->Q (.ref h'.objs.size) { s with heap:=h'.push { cls:=.type "tuple",data:=.seq acc },toks:=tk }) (hsz:n<=sizeLine) :
  wpAny (model prog w) A (call (.type "tuple") [.ref r]) Q E s:=by
 refine callType_codes (Q₁:=fun obj s₁=>s₁.TypeIs obj "tuple" /\ Q obj s₁) PySem.F.called_tuple (PySem.F.typeCall_tuple_1 _) PySem.F.entry_object_init
  (Sf (hsz:=hsz) K hh hok fun h' tk acc hm hacc=>⟨⟨_,aW _ rfl,rfl⟩,hQ h' tk acc hm hacc⟩) fun obj s₁ h₁=>?_
 exact ⟨h₁.1,PySem.F.args_object_init_2 obj _,object_init_meets PySem.F.called_tuple.init.lookup PySem.F.called_tuple.made (by decide) prog w A.in1 _ s₁ ⟨h₁.1,rfl,h₁.2⟩⟩
end
end ZT
namespace MR
open PySem PySem.Spec PyProof.Rows PySem.Calls L2
theorem Wl:∀ {kvs:List (Key×V)} {vs:List (Key×aE)},KV kvs vs->Vals (kvs.map (·.2)) (vs.map (·.2))
 | _,_,.nil=>.nil
 | _,_,.cons r t=>.cons r.2 (Wl t)
theorem Rh{vs:List (Key×aE)}{acc:Array aE}(h:ItemsOf (fun i v=>∃ k,vs[i]? = some (k,v)) acc vs.length):acc.toList=vs.map (·.2):=
 PySem.W.kdl_vals_eq acc.toList (by rw[jU];exact h.1) fun j v e=>h.2 j v (by rw[<- mU];exact e)
section
variable {X:Cx}{o:Expr}{apos cpos p pos:Pos}{td:TE}{fo:FE}
noncomputable def Am0(td:TE):TE:=fun σ H Q=>td σ H fun x H1=>∃ a kvs,x = .ref a/\H1 a=some (.dK kvs)/\∀ l,H1 l=none->Q (.ref l) (upd H1 l (.lst (kvs.map (·.2))))
noncomputable def An1(td:TE):TE:=fun σ H Q=>td σ H fun x H1=>∃ a kvs,x = .ref a/\H1 a=some (.dK kvs)/\∀ l,H1 l=none->Q (.ref l) (upd H1 l (.tup (kvs.map (·.2))))
theorem Aho(hc:X.calm=true)(hgL:Gl X "list")(hmL:X.mg "list" = none)(hl:PE X o td)(m:M0 X o "values" apos cpos)
  (hs2:aS [.Call (.Attribute o "values" apos) [] [] cpos] X.env=[(false,eval (.Call (.Attribute o "values" apos) [] [] cpos) X.env)]:=by rfl):PE X (.Call (.Name "list" p) [.Call (.Attribute o "values" apos) [] [] cpos] [] pos) (Am0 td):=by
 intro pins s σ H Q I h
 refine eG (Na I hgL hmL Aac ?_)
 refine eA ?_ hs2 rfl
 rw[hs2]
 refine iC ?_
 refine gG m.base m.few m.line eM dQ hV (thn (hl pins s σ H _ I h) fun u s1 zz=>zz.elim fun x H1 I1 rx zq=>?_)
 obtain ⟨a,kvs,ex,ea,q⟩:=zq
 subst ex
 obtain rfl:u=bE a:=rx
 obtain ⟨t1,t2,_⟩:=Ru I1 (.inl ⟨kvs,.inl ea⟩)
 refine ⟨t1,t2,?_⟩
 rw[m.trees]
 obtain ⟨hd,ob,vs,ep,ho,D⟩:=Lz I1 ea
 have da:=D.at_ _ _ ho
 refine dH rfl (gY ?_)
 refine jZ dQ t1 gU (gL _) (lJ (Co X.prog X.w) a hd) ⟨⟨vs,da.dictOf⟩,?_⟩
 refine iN ?_
 have I2:L2.Inv X pins σ H1 { s1 with heap:=s1.heap.push { cls:=.type "dict_values",data:=.fields #[.ref a] } }:=I1.kept (t':=s1.toks) fun b o e=>aF _ e
 have hz:kvs.length<=sizeLine:=(Rx I1.hok ea).1
 have hl:=KV.length D.rel
 refine PySem.W.kdl_call (oH (knd:=Co X.prog X.w) (kvs:=vs) (ep:=ep)) (I2.ok.hd hc) ⟨⟨_,aW _ rfl,rfl,rfl⟩,da.push _⟩ (by rw[<- hl];exact hz) fun h' tk acc c' hk hS hacc=>?_
 have hacc':=Rh hacc
 have hacc2:acc=(vs.map (·.2)).toArray:=by rw[<- hacc']
 have new:ObjOk X.prog X.w (upd H1 (s1.heap.push { cls:=.type "dict_values",data:=.fields #[.ref a] }).objs.size (.lst (kvs.map (·.2)))) h' (s1.heap.push { cls:=.type "dict_values",data:=.fields #[.ref a] }).objs.size (.lst (kvs.map (·.2))):=
  ⟨by rw[bF];exact hz,vs.map (·.2),c',Wl D.rel,by rw[hS,hacc2]⟩
 exact ⟨.ref _,_,I2.laid (t':=tk) hk (bB _) new,rfl,q _ (I2.hok.fresh (bB _))⟩
theorem Ail(hc:X.calm=true)(hgL:Gl X "tuple")(hmL:X.mg "tuple" = none)(hl:PE X o td)(m:M0 X o "values" apos cpos)
  (hs2:aS [.Call (.Attribute o "values" apos) [] [] cpos] X.env=[(false,eval (.Call (.Attribute o "values" apos) [] [] cpos) X.env)]:=by rfl):PE X (.Call (.Name "tuple" p) [.Call (.Attribute o "values" apos) [] [] cpos] [] pos) (An1 td):=by
 intro pins s σ H Q I h
 refine eG (Na I hgL hmL Xb ?_)
 refine eA ?_ hs2 rfl
 rw[hs2]
 refine iC ?_
 refine gG m.base m.few m.line eM dQ hV (thn (hl pins s σ H _ I h) fun u s1 zz=>zz.elim fun x H1 I1 rx zq=>?_)
 obtain ⟨a,kvs,ex,ea,q⟩:=zq
 subst ex
 obtain rfl:u=bE a:=rx
 obtain ⟨t1,t2,_⟩:=Ru I1 (.inl ⟨kvs,.inl ea⟩)
 refine ⟨t1,t2,?_⟩
 rw[m.trees]
 obtain ⟨hd,ob,vs,ep,ho,D⟩:=Lz I1 ea
 have da:=D.at_ _ _ ho
 refine dH rfl (gY ?_)
 refine jZ dQ t1 gU (gL _) (lJ (Co X.prog X.w) a hd) ⟨⟨vs,da.dictOf⟩,?_⟩
 refine iN ?_
 have I2:L2.Inv X pins σ H1 { s1 with heap:=s1.heap.push { cls:=.type "dict_values",data:=.fields #[.ref a] } }:=I1.kept (t':=s1.toks) fun b o e=>aF _ e
 have hz:kvs.length<=sizeLine:=(Rx I1.hok ea).1
 have hl:=KV.length D.rel
 refine ZT.Qt (oH (knd:=Co X.prog X.w) (kvs:=vs) (ep:=ep)) (I2.ok.hd hc) ⟨⟨_,aW _ rfl,rfl,rfl⟩,da.push _⟩ (fun h' tk acc hk hacc=>?_) (by rw[<- hl];exact hz)
 have hacc':=Rh hacc
 have hacc2:acc=(vs.map (·.2)).toArray:=by rw[<- hacc']
 have I3:L2.Inv X pins σ H1 { s1 with heap:=h',toks:=tk }:=I2.kept (t':=tk) hk
 have I4:L2.Inv X pins σ (upd H1 h'.objs.size (.tup (kvs.map (·.2)))) { s1 with heap:=h'.push { cls:=.type "tuple",data:=.seq acc },toks:=tk }:=
  I3.laid (t':=tk) (fun b o e=>aF _ e) (bB _) (show ObjOk X.prog X.w _ _ _ (.tup (kvs.map (·.2))) from ⟨by rw[bF];exact hz,vs.map (·.2),Wl D.rel,by rw[hacc2];exact TupN.new _ _⟩)
 exact ⟨.ref h'.objs.size,_,I4,rfl,q _ (I3.hok.fresh (bB _))⟩
noncomputable def Le(f:FE):FE:=fun δ L=>(f δ L).bind fun p=>match p.1 with
 | .ref n=>(E5 p.2 n).map fun kvs=>(.ref p.2.length,p.2++[.lst (Iw kvs)])
 | _=>none
noncomputable def Y5(f:FE):FE:=fun δ L=>(f δ L).bind fun p=>match p.1 with
 | .ref n=>(E5 p.2 n).map fun kvs=>(.tup (Iw kvs),p.2)
 | _=>none
theorem Wr(hc:X.calm=true)(hgL:Gl X "list")(hmL:X.mg "list" = none)(hl:PEF X o fo)(m:M0 X o "values" apos cpos)
  (hs2:aS [.Call (.Attribute o "values" apos) [] [] cpos] X.env=[(false,eval (.Call (.Attribute o "values" apos) [] [] cpos) X.env)]:=by rfl):PEF X (.Call (.Name "list" p) [.Call (.Attribute o "values" apos) [] [] cpos] [] pos) (Le fo):=by
 refine PE.imp (Aho hc hgL hmL hl m hs2) ?_
 rintro σ H Q ⟨α,δ,L,A,S,u,L3,e,q⟩
 obtain ⟨⟨u,L1⟩,e1,e⟩:=aB.mp e
 simp only at e
 split at e
 ·obtain ⟨kvs,hd,e⟩:=aH.mp e
  cases e
  refine ⟨α,δ,L,A,S,_,_,e1,fun x H1 α1 g1 A1 r1=>?_⟩
  obtain ⟨a,vs,rfl,ea,ha,rk⟩:=Ga A1 hd r1
  refine ⟨a,vs,rfl,ha,fun l hl=>?_⟩
  obtain ⟨g',A',r'⟩:=A1.lst rk.2 hl
  exact q _ _ _ (g1.trans g') A' r'
 ·cases e
theorem Ahc(hc:X.calm=true)(hgL:Gl X "tuple")(hmL:X.mg "tuple" = none)(hl:PEF X o fo)(m:M0 X o "values" apos cpos)
  (hs2:aS [.Call (.Attribute o "values" apos) [] [] cpos] X.env=[(false,eval (.Call (.Attribute o "values" apos) [] [] cpos) X.env)]:=by rfl):PEF X (.Call (.Name "tuple" p) [.Call (.Attribute o "values" apos) [] [] cpos] [] pos) (Y5 fo):=by
 refine PE.imp (Ail hc hgL hmL hl m hs2) ?_
 rintro σ H Q ⟨α,δ,L,A,S,u,L3,e,q⟩
 obtain ⟨⟨u,L1⟩,e1,e⟩:=aB.mp e
 simp only at e
 split at e
 ·obtain ⟨kvs,hd,e⟩:=aH.mp e
  cases e
  refine ⟨α,δ,L,A,S,_,_,e1,fun x H1 α1 g1 A1 r1=>?_⟩
  obtain ⟨a,vs,rfl,ea,ha,rk⟩:=Ga A1 hd r1
  refine ⟨a,vs,rfl,ha,fun l hl=>?_⟩
  obtain ⟨g',A',r'⟩:=A1.tup rk.2 hl
  exact q _ _ _ (g1.trans g') A' r'
 ·cases e
end
end MR
namespace MR
open PySem PySem.Spec PyProof.Rows L2
noncomputable def Apj(H:Hp)(D:Ends):Ends where
 nx:=fun σ H'=>∃ H2,Thaw H H' H2/\D.nx σ H2
 bk:=fun σ H'=>∃ H2,Thaw H H' H2/\D.bk σ H2
 ct:=fun σ H'=>∃ H2,Thaw H H' H2/\D.ct σ H2
 rt:=fun v H'=>∃ H2,Thaw H H' H2/\D.rt v H2
theorem Ait{X:Cx}{st:Stmt}{t:TS}(h:PS X st t):PS X st (fun D σ H=>t (Apj H D) σ H):=fun pins s σ H D I q=>
 thn (h pins s σ H _ I q) fun f s1 hf=>by
  unfold SP at hf ⊢
  split at hf
  ·obtain ⟨σ',H',I',H2,th,q⟩:=hf;exact ⟨σ',H2,Inv.thaw I I' th,q⟩
  ·obtain ⟨σ',H',I',H2,th,q⟩:=hf;exact ⟨σ',H2,Inv.thaw I I' th,q⟩
  ·obtain ⟨σ',H',I',H2,th,q⟩:=hf;exact ⟨σ',H2,Inv.thaw I I' th,q⟩
  ·obtain ⟨v,σ',H',I',r,H2,th,q⟩:=hf;exact ⟨v,σ',H2,Inv.thaw I I' th,r,q⟩
noncomputable def Rm(f:FS):FS:=fun δ L=>(f δ L).map fun p=>(p.1,Ed L p.2)
theorem Ae6{X:Cx}{st:Stmt}{f:FS}(h:PSF X st f):PSF X st (Rm f):=by
 refine PS.imp (Ait h) ?_
 rintro D σ H ⟨α,δ,L,A,S,fl,L3,e,q⟩
 obtain ⟨⟨fl',L1⟩,e1,e⟩:=aH.mp e
 cases e
 refine ⟨α,δ,L,A,S,fl',L1,e1,?_⟩
 cases fl' with
 | nx δ'=>
  intro σ' H1 α1 g1 A1 S1
  obtain ⟨H2,th,g2,A2,r2⟩:=Lg A g1 A1
  exact ⟨H2,th,q σ' H2 α1 g2 A2 ⟨S1.len,fun i u e=>by obtain ⟨v,a,b⟩:=S1.at_ i u e;exact ⟨v,a,r2 _ _ b⟩⟩⟩
 | bk δ'=>
  intro σ' H1 α1 g1 A1 S1
  obtain ⟨H2,th,g2,A2,r2⟩:=Lg A g1 A1
  exact ⟨H2,th,q σ' H2 α1 g2 A2 ⟨S1.len,fun i u e=>by obtain ⟨v,a,b⟩:=S1.at_ i u e;exact ⟨v,a,r2 _ _ b⟩⟩⟩
 | ct δ'=>
  intro σ' H1 α1 g1 A1 S1
  obtain ⟨H2,th,g2,A2,r2⟩:=Lg A g1 A1
  exact ⟨H2,th,q σ' H2 α1 g2 A2 ⟨S1.len,fun i u e=>by obtain ⟨v,a,b⟩:=S1.at_ i u e;exact ⟨v,a,r2 _ _ b⟩⟩⟩
 | rt u=>
  intro v H1 α1 g1 A1 r1
  obtain ⟨H2,th,g2,A2,r2⟩:=Lg A g1 A1
  exact ⟨H2,th,q v H2 α1 g2 A2 (r2 _ _ r1)⟩
section
variable {X:Cx}{o i e f:Expr}{pos apos cpos:Pos}{fo fi fe fx:FE}
end
end MR
namespace MR
open PySem PySem.Spec PyProof.Rows PySem.Calls L2
section
variable {X:Cx}
end
section
variable {X:Cx}
abbrev Alm:List V->Hp->VK->Prop:=fun xs H Q=>∃ (a:Addr) (kvs:List (Key×V)),xs=[.ref a]/\H a=some (.dK kvs)/\Q (.int kvs.length) H
theorem Adz:CallR X (.builtin "len") Alm:=by
 intro pins s σ H xs us Q I r h
 obtain ⟨a,kvs,rfl,ea,q⟩:=h
 obtain ⟨u,rfl,rx⟩:=Nr r
 cases rx
 exact Aqg I (.inl ea) fun t s' I'=>⟨.int kvs.length,H,I',⟨t,rfl⟩,q⟩
noncomputable def Apd:R2:=fun x y H Q=>∃ a b ka,x = .ref a/\y = .ref b/\H a=some (.dK ka)/\H b=some (.dK [])/\Q (.bl (!ka.isEmpty)) H
theorem Anc(hu:X.A.units+64 < cLine):OpR X (dE .NotEq) Apd:=by
 intro pins s σ H x y v u Q I rx ry h
 obtain ⟨a,b,ka,rfl,rfl,ha,hb,q⟩:=h
 cases rx
 cases ry
 obtain ⟨_,d1,wa,ra,da⟩:=Rx I.hok ha
 obtain ⟨_,d2,wb,rb,db⟩:=Rx I.hok hb
 have l1:=ra.length
 cases rb
 refine PySem.W.keq_ne (r:=true) d1 d2 da db (kI (pK _ _) hu) (fun e=>?_) ⟨.bl (!ka.isEmpty),H,I,?_,q⟩
 ·cases wa with
  | nil=>exact .nil
  | cons _ _=>simp at e
 ·cases ka with
  | nil=>cases wa with
   | nil=>rfl
   | cons _ _=>simp at l1
  | cons _ _=>cases wa with
   | nil=>simp at l1
   | cons _ _=>exact rfl
end
noncomputable def Mg:SC:=fun us L=>match us with
 | [.ref n]=>(E5 L n).map fun kvs=>(.int (kvs.length:Nat),L)
 | _=>none
theorem Agk{K:aC}:R4 K Alm Mg:=by
 intro H α L us xs z L' Q A r e q
 unfold Mg at e
 split at e
 ·obtain ⟨x,rfl,rx⟩:=r.one
  obtain ⟨kvs,hd,e⟩:=aH.mp e
  cases e
  obtain ⟨a,vs,rfl,ea,ha,rk⟩:=Ga A hd rx
  refine ⟨a,vs,rfl,ha,?_⟩
  rw[<- rk.len]
  exact q _ _ _ (.refl _ _) A rfl
 ·cases e
noncomputable def M7:S2:=fun u w L=>match u,w with
 | .ref n,.ref m=>(E5 L n).bind fun ka=>(E5 L m).bind fun kb=>if kb.isEmpty=true then some (.bl (!ka.isEmpty),L) else none
 | _,_=>none
theorem Aju{K:aC}:Di K Apd M7:=by
 intro H α L u w x y z L' Q A ru rw e q
 unfold M7 at e
 split at e
 ·obtain ⟨ka,hd,e⟩:=aB.mp e
  obtain ⟨kb,hb,e⟩:=aB.mp e
  split at e
  ·rename_i hk
   cases e
   obtain ⟨p,vs,rfl,ep,hp,rk⟩:=Ga A hd ru
   obtain ⟨p2,vs2,rfl,ep2,hp2,rk2⟩:=Ga A hb rw
   have h2:vs2=[]:=by
    have:=rk2.1
    rw[List.isEmpty_iff.mp hk] at this
    simpa using this.symm
   have h1:ka.isEmpty=vs.isEmpty:=by
    have:=rk.len
    cases ka <;> cases vs <;> simp_all
   subst h2
   rw[h1] at q
   exact ⟨p,p2,vs,rfl,rfl,hp,hp2,q _ H α (.refl _ _) A rfl⟩
  ·cases e
 ·cases e
end MR
namespace Lw
open PySem L2 MR
noncomputable def Ge:FS:=(Ain "KeptPoints" "points" (Af 0) fDNew)
noncomputable def Bb:FN:=fnU 1 1 Ge
noncomputable def Fd:FS:=(Cg (Y5 (Kp "KeptPoints" "points" (Af 0))))
noncomputable def Ar:FN:=fnU 1 1 Fd
noncomputable def Ha:FE:=(f2 D8 (Af 0) (Af 1))
noncomputable def Ku:FS:=(Cg (N6 (f2 Eh (Af 0) (Af 1)) (B0 Q3 (Ac (By [none,none] (Ac0 (Ac (Af 0) (Ac (Af 1) Ai))) (MR.gTup 2 (MR.gCons (gN 0) (MR.gCons (gN 1) MR.gNil))) none Ha) Ai))))
noncomputable def Eo:FN:=fnU 2 2 Ku
noncomputable def G9:FE:=(Af 0)
noncomputable def b_many_below_1t:FT:=(Hf (Bf 2 Eo (Ac (Af 0) (Ac (Af 1) Ai))))
noncomputable def N0:FS:=(Cg (B0 Cy (Ac (By [none,some 1] (Cu (Af 0)) (gN 0) (some b_many_below_1t) G9) Ai)))
noncomputable def Fs:FN:=fnU 2 2 N0
noncomputable def Q0:FS:=(Cg (G4 (Ac (f2 Al (Af 0) (fC (.int 1))) (Ac (f2 Al (Af 0) (fC (.int 2))) Ai))))
noncomputable def Hv:FN:=fnU 1 1 Q0
noncomputable def G8:FE:=(Bf 2 Fs (Ac (Af 1) (Ac (Af 0) Ai)))
noncomputable def G5:FE:=(Bf 1 Hv (Ac (Af 0) Ai))
noncomputable def Od:FS:=(Be (Bh (By [none] (Cu (Af 0)) (gN 0) none G5) (gN 1)) (Cg (B0 semTuple (Ac (By [none,some 1] (Cu (Af 1)) (gN 0) none G8) Ai))))
noncomputable def Hc:FN:=fnU 2 1 Od
noncomputable def Ln:FS:=(Cg (B0 Rf (Ac (Bf 1 Hc (Ac (Af 0) Ai)) Ai)))
noncomputable def Ef:FN:=fnU 1 1 Ln
noncomputable def Fv:FS:=(Cg (Bf 1 Ef (Ac (Cd "KeptPoints" "points_now" 1 Ar (Af 0) Ai) Ai)))
noncomputable def B3:FN:=fnU 1 1 Fv
noncomputable def Iq:FS:=(Be (Fz (Ob ["NoPlace","NoAsk","NoPoints","NoCounts","NoName"] (Ac (Af 0) (Ac (Ly [(fC (.str "the name ")),(Um (Af 1)),(fC (.str " is refused here"))]) Ai)))) (Acz ["NoPlace","NoAsk","NoPoints","NoCounts","NoName"] "word" (Af 0) (Af 1)))
noncomputable def Bt:FN:=fnU 2 2 Iq
noncomputable def Pe:FS:=(Dh (fOr (K4 (Hf (Yo "tuple" (Af 4)))) (fOr (Hf (Yo "bool" (f2 Al (Af 4) (fC (.int 1))))) (Hf (Yo "bool" (f2 Al (Af 4) (fC (.int 2))))))) (Cg (fC (.bl false))) Cv)
noncomputable def Og:FE:=(G4 (Ac (Af 0) (Ac (f2 Al (Af 1) (fC (.int 0))) (Ac (f2 Al (Af 1) (fC (.int 1))) Ai))))
noncomputable def T5:FS:=(Be (Bh (B0 semTuple (Ac (Jd (By [none,none] (G3 Gm (Af 1)) (MR.gTup 2 (MR.gCons (gN 0) (MR.gCons (gN 1) MR.gNil))) none Og)) Ai)) (gN 2)) (Be (Bh (Cd "KeptPoints" "points_now" 1 Ar (Af 0) Ai) (gN 3)) (Be (Dh (fOr (K4 (Hf (Yo "tuple" (Af 3)))) (Ax (f2 Eh (Af 3) (Af 2)))) (Cg (fC (.bl false))) Cv) (Be (Rc (Cu (Af 3)) (gN 4) Pe) (Cg (fC (.bl true)))))))
noncomputable def Er:FN:=fnU 5 2 T5
noncomputable def Dd:FE:=(Bf 1 Hv (Ac (Af 0) Ai))
noncomputable def Ff:FS:=(Cg (Jd (By [none] (G3 Iw (Kp "KeptPoints" "points" (Af 0))) (gN 0) none Dd)))
noncomputable def Bl:FN:=fnU 1 1 Ff
noncomputable def G7:FE:=(Af 0)
noncomputable def b_many_above_1t:FT:=(Hf (Bf 2 Eo (Ac (Af 1) (Ac (Af 0) Ai))))
noncomputable def Nv:FS:=(Cg (B0 Cy (Ac (By [none,some 1] (Cu (Af 0)) (gN 0) (some b_many_above_1t) G7) Ai)))
noncomputable def Hi:FN:=fnU 2 2 Nv
noncomputable def Kt:FS:=(Cg (Bf 2 Hi (Ac (Cd "KeptPoints" "places_now" 1 Bl (Af 0) Ai) (Ac (G4 (Ac (Af 1) (Ac (Af 2) Ai))) Ai))))
noncomputable def C6:FN:=fnU 3 3 Kt
noncomputable def Ko:FS:=(Cg (Bf 2 Fs (Ac (Cd "KeptPoints" "places_now" 1 Bl (Af 0) Ai) (Ac (G4 (Ac (Af 1) (Ac (Af 2) Ai))) Ai))))
noncomputable def C5:FN:=fnU 3 3 Ko
noncomputable def Uy:FS:=(Cg (N6 (Lq D8 D8 (f2 Al (Af 1) (fC (.int 0))) (f2 Al (Af 0) (fC (.int 1))) (f2 Al (Af 1) (fC (.int 2)))) (Lq D8 D8 (f2 Al (Af 1) (fC (.int 1))) (f2 Al (Af 0) (fC (.int 2))) (f2 Al (Af 1) (fC (.int 3))))))
noncomputable def Md:FN:=fnU 2 2 Uy
noncomputable def Li:FE:=(Af 0)
noncomputable def Hw:FT:=(Hf (Bf 2 Md (Ac (Af 0) (Ac (Af 1) Ai))))
noncomputable def Pt:FS:=(Cg (By [none,some 1] (Cu (Af 0)) (gN 0) (some Hw) Li))
noncomputable def Ip:FN:=fnU 2 2 Pt
noncomputable def Js:FE:=(B0 Cy (Ac (Bf 2 Ip (Ac (Af 1) (Ac (Af 0) Ai))) Ai))
noncomputable def Qq:FS:=(Cg (B0 semTuple (Ac (By [none,some 0] (Cu (Af 1)) (gN 0) none Js) Ai)))
noncomputable def Kh:FN:=fnU 2 2 Qq
noncomputable def G2:FS:=(Cg (f2 Al (Bf 2 Kh (Ac (Cd "KeptPoints" "points_now" 1 Ar (Af 0) Ai) (Ac (G4 (Ac (Af 1) Ai)) Ai))) (fC (.int 0))))
noncomputable def Cw:FN:=fnU 2 2 G2
noncomputable def Df:FS:=(Be (Dh (Ax (f2 Bm (Af 9) (fC (.int 0)))) (Bh (Cd "KeptPoints" "below_now" 3 C5 (Af 1) (Ac (f2 Al (Af 3) (fC (.int 0))) (Ac (f2 Al (Af 3) (fC (.int 1))) Ai))) (gN 10)) (Dh (Ax (f2 Bm (Af 9) (fC (.int 1)))) (Bh (Cd "KeptPoints" "above_now" 3 C6 (Af 1) (Ac (f2 Al (Af 3) (fC (.int 0))) (Ac (f2 Al (Af 3) (fC (.int 1))) Ai))) (gN 10)) (Bh (Cd "KeptPoints" "box_now" 2 Cw (Af 1) (Ac (G4 (Ac (f2 Dw (f2 Al (Af 3) (fC (.int 0))) (fC (.int 1))) (Ac (f2 Dw (f2 Al (Af 3) (fC (.int 1))) (fC (.int 1))) (Ac (f2 Bs (f2 Al (Af 3) (fC (.int 0))) (fC (.int 1))) (Ac (f2 Bs (f2 Al (Af 3) (fC (.int 1))) (fC (.int 1))) Ai))))) Ai)) (gN 10)))) (Dh (Ax (f2 Eh (Af 10) (f2 Al (Ct (Ac (Af 5) (Ac (Af 6) (Ac (Af 7) Ai)))) (Af 9)))) (Cg (fC (.bl false))) Cv))
noncomputable def Dr:FE:=(fC (.int 1))
noncomputable def Dq:FT:=(Ax (f2 Ahq (B0 Nj (Ac (B0 Vq (Ac (f2 Dw (f2 Al (Af 0) (fC (.int 0))) (f2 Al (Af 1) (fC (.int 0)))) Ai)) (Ac (B0 Vq (Ac (f2 Dw (f2 Al (Af 0) (fC (.int 1))) (f2 Al (Af 1) (fC (.int 1)))) Ai)) Ai))) (fC (.int 2))))
noncomputable def Ey:FE:=(fC (.int 1))
noncomputable def Dm:FT:=(Sy (Ax (f2 D8 (f2 Al (Af 1) (fC (.int 0))) (f2 Al (Af 0) (fC (.int 0))))) (Ax (f2 D8 (f2 Al (Af 1) (fC (.int 1))) (f2 Al (Af 0) (fC (.int 1))))))
noncomputable def Ew:FE:=(fC (.int 1))
noncomputable def Dl:FT:=(Sy (Ax (f2 D8 (f2 Al (Af 0) (fC (.int 0))) (f2 Al (Af 1) (fC (.int 0))))) (Ax (f2 D8 (f2 Al (Af 0) (fC (.int 1))) (f2 Al (Af 1) (fC (.int 1))))))
noncomputable def Eu:FE:=(Af 0)
noncomputable def Ez:FT:=(Ax (f2 Eh (Af 0) (Af 1)))
noncomputable def Kc:FS:=(Be (Rm (Bh (By [none,some 3] (G3 Iw (Af 2)) (gN 0) (some Ez) Eu) (gN 4))) (Be (Bh (B0 Cy (Ac (By [none,some 3] (Cu (Af 4)) (gN 0) (some Dl) Ew) Ai)) (gN 5)) (Be (Bh (B0 Cy (Ac (By [none,some 3] (Cu (Af 4)) (gN 0) (some Dm) Ey) Ai)) (gN 6)) (Be (Bh (B0 Cy (Ac (Jd (By [none,some 3] (G3 Iw (Af 2)) (gN 0) (some Dq) Dr)) Ai)) (gN 7)) (Be (Bh (f2 Al (Ct (Ac (Ct (Ac (fC (.int 0)) (Ac (fC (.int 1)) (Ac (fC (.int 2)) Ai)))) (Ac (Ct (Ac (fC (.int 1)) (Ac (fC (.int 2)) (Ac (fC (.int 0)) Ai)))) (Ac (Ct (Ac (fC (.int 2)) (Ac (fC (.int 1)) (Ac (fC (.int 0)) Ai)))) (Ac (Ct (Ac (fC (.int 1)) (Ac (fC (.int 0)) (Ac (fC (.int 2)) Ai)))) Ai))))) (Bf 2 Ao (Ac (Af 0) (Ac (fC (.int 4)) Ai)))) (gN 8)) (Be (Rc (Cu (Af 8)) (gN 9) Df) (Cg (fC (.bl true)))))))))
noncomputable def Dv:FN:=fnU 11 4 Kc
noncomputable def Hg:FE:=(Mr "list" O0 (Af 1) (Ac (Bf 2 Ao (Ac (Af 2) (Ac (B0 Cy (Ac (Af 1) Ai)) Ai))) Ai))
noncomputable def Hj:FE:=(Af 0)
noncomputable def Hk:FE:=(f2 Bs (Af 0) (fC (.str "b")))
noncomputable def He:FE:=(f2 Bs (fC (.str "zzzzzzz")) (Af 0))
noncomputable def Ub:FS:=(Be (Bh (fC (.str "abcdefghijklmnopqrstuvwxyz")) (gN 2)) (Be (Bh (f2 Bs (f2 Bs (By [none] (Ms (Af 2)) (gN 0) none Hj) (By [none] (Ms (Af 2)) (gN 0) none Hk)) (By [none] (Ms (Af 2)) (gN 0) none He)) (gN 3)) (Be (Bh (f2 Bs (Af 3) (Ct (Ac (fC (.str "put")) (Ac (fC (.str "take")) (Ac (fC (.str "move")) (Ac (fC (.str "points")) (Ac (fC (.str "counts")) (Ac (fC (.str "pairs")) (Ac (fC (.str "halves")) (Ac (fC (.str "below")) (Ac (fC (.str "above")) (Ac (fC (.str "abcdefgh")) Ai)))))))))))) (gN 3)) (Be (Bh (f2 Bs (Af 3) (Ct (Ac (fC (.str "mall")) (Ac (fC (.str "mill")) (Ac (fC (.str "mell")) (Ac (fC (.str "abcxefgh")) (Ac (fC (.str "millmal")) (Ac (fC (.str "mellmal")) (Ac (fC (.str "ba")) Ai))))))))) (gN 3)) (Cg (By [none,some 3,some 0] (Oc (Ac (Af 1) Ai)) (gN 0) none Hg))))))
noncomputable def J7:FN:=fnU 4 2 Ub
noncomputable def Ki:FE:=(fC (.int 1))
noncomputable def Hh:FT:=(Sy (Ax (f2 D8 (f2 Al (Af 1) (fC (.int 0))) (f2 Al (Af 0) (fC (.int 0))))) (Sy (Ax (f2 D8 (f2 Al (Af 1) (fC (.int 1))) (f2 Al (Af 0) (fC (.int 1))))) (Ax (f2 Eh (Af 1) (Af 0)))))
noncomputable def Pp:FS:=(Bh (f2 Bs (Af 2) (B0 Cy (Ac (By [none,some 3] (Cu (Af 1)) (gN 0) (some Hh) Ki) Ai))) (gN 2))
noncomputable def T9:FS:=(Be (Bh (Le (Af 0)) (gN 1)) (Be (Bh (fC (.int 0)) (gN 2)) (Be (Rc (Cu (Af 1)) (gN 3) Pp) (Cg (Af 2)))))
noncomputable def Ho:FN:=fnU 4 1 T9
noncomputable def Vc:FS:=(Be (Dh (fOr (K4 (Hf (R5 ["NoPlace","NoAsk","NoPoints","NoCounts","NoName"] "NoName" (Af 0)))) (fOr (K4 (Hf (R5 ["NoPlace","NoAsk","NoPoints","NoCounts","NoName"] "BelowError" (Af 0)))) (K4 (Hf (R5 ["NoPlace","NoAsk","NoPoints","NoCounts","NoName"] "ValueError" (Af 0)))))) (Cg (fC (.bl false))) Cv) (Cg (Ags (Adb ["NoPlace","NoAsk","NoPoints","NoCounts","NoName"] ["NoAsk","NoCounts","NoPlace","NoPoints"] (Af 0)))))
noncomputable def Ht:FN:=fnU 1 1 Vc
noncomputable def Fu:FS:=(Dh (Ax (f2 C9 (Af 1) (Kp "KeptPoints" "points" (Af 0)))) Km Cv)
noncomputable def B8:FN:=fnU 2 2 Fu
noncomputable def Kf:XS:=(xIf (Ax (f2 C9 (Af 1) (Kp "KeptPoints" "points" (Af 0)))) (Oz ["NoPlace","NoAsk","NoPoints","NoCounts","NoName"] (Jq "NoName" 2 Bt (Ac (Af 1) Ai))) xNo)
noncomputable def Cq:XN:=fnX 2 2 Kf
noncomputable def Fh:FS:=(Be (Fz (Cd "KeptPoints" "need_name" 2 B8 (Af 0) (Ac (Af 1) Ai))) (Mu (Kp "KeptPoints" "points" (Af 0)) (Af 1) (G4 (Ac (Af 1) (Ac (Af 2) (Ac (Af 3) Ai))))))
noncomputable def Cm:FN:=fnU 4 4 Fh
noncomputable def Jk:XS:=(Vs Km (xOf (Jj "KeptPoints" "need_name" 2 Cq (Af 0) (Ac (Af 1) Ai))) xNo)
noncomputable def C1:XN:=fnX 4 4 Jk
noncomputable def Fy:FS:=(Be (Dh (Ax (f2 Gk (Af 1) (Kp "KeptPoints" "points" (Af 0)))) Km Cv) (Mu (Kp "KeptPoints" "points" (Af 0)) (Af 1) (G4 (Ac (Af 1) (Ac (Af 2) (Ac (Af 3) Ai))))))
noncomputable def Cp:FN:=fnU 4 4 Fy
noncomputable def Ka:XS:=(Vs Km (xIf (Ax (f2 Gk (Af 1) (Kp "KeptPoints" "points" (Af 0)))) (Oz ["NoPlace","NoAsk","NoPoints","NoCounts","NoName"] (Jq "NoName" 2 Bt (Ac (Af 1) Ai))) xNo) xNo)
noncomputable def C4:XN:=fnX 4 4 Ka
noncomputable def Fp:FS:=(Be (Fz (Cd "KeptPoints" "need_name" 2 B8 (Af 0) (Ac (Af 1) Ai))) (Fz (Rp (Kp "KeptPoints" "points" (Af 0)) (Af 1))))
noncomputable def Cj:FN:=fnU 2 2 Fp
noncomputable def Jo:XS:=(Vs Km (xOf (Jj "KeptPoints" "need_name" 2 Cq (Af 0) (Ac (Af 1) Ai))) xNo)
noncomputable def C3:XN:=fnX 2 2 Jo
noncomputable def Gs:FS:=(Dh (Ax (f2 Bm (Af 1) (fC (.str "put")))) (Bh (Cd "KeptPoints" "put_point" 4 Cp (Af 0) (Ac (Af 2) (Ac (f2 Al (Af 3) (fC (.int 0))) (Ac (f2 Al (Af 3) (fC (.int 1))) Ai)))) (gN 4)) (Dh (Ax (f2 Bm (Af 1) (fC (.str "take")))) (Bh (Cd "KeptPoints" "take_point" 2 Cj (Af 0) (Ac (Af 2) Ai)) (gN 4)) (Bh (Cd "KeptPoints" "move_point" 4 Cm (Af 0) (Ac (Af 2) (Ac (f2 Al (Af 3) (fC (.int 0))) (Ac (f2 Al (Af 3) (fC (.int 1))) Ai)))) (gN 4))))
noncomputable def Iv:XS:=(xIf (Ax (f2 Bm (Af 1) (fC (.str "put")))) (xOf (Jj "KeptPoints" "put_point" 4 C4 (Af 0) (Ac (Af 2) (Ac (f2 Al (Af 3) (fC (.int 0))) (Ac (f2 Al (Af 3) (fC (.int 1))) Ai))))) (xIf (Ax (f2 Bm (Af 1) (fC (.str "take")))) (xOf (Jj "KeptPoints" "take_point" 2 C3 (Af 0) (Ac (Af 2) Ai))) (xOf (Jj "KeptPoints" "move_point" 4 C1 (Af 0) (Ac (Af 2) (Ac (f2 Al (Af 3) (fC (.int 0))) (Ac (f2 Al (Af 3) (fC (.int 1))) Ai)))))))
noncomputable def Pf:FS:=(Bh (Af 6) (gN 5))
noncomputable def X0:FS:=(Be (Bh (fC .non) (gN 4)) (Be (Bh (fC .non) (gN 5)) (Be (Xy Gs Iv ["NoPlace","NoAsk","NoPoints","NoCounts","NoName"] 6 Pf) (Cg (G4 (Ac (Af 4) (Ac (Af 5) Ai)))))))
noncomputable def E2:FN:=fnU 7 4 X0
noncomputable def Ua:FS:=(Be (Dh (Sy (Ax (f2 M7 (Af 1) fDNew)) (Ax (f2 Bm (Bf 2 Ao (Ac (Af 0) (Ac (fC (.int 4)) Ai))) (fC (.int 0))))) (Cg (f2 Al (Le (Af 1)) (Bf 2 Ao (Ac (Af 0) (Ac (B0 Mg (Ac (Af 1) Ai)) Ai))))) Cv) (Be (Bh (Bf 2 Ao (Ac (Af 0) (Ac (fC (.int 3)) Ai))) (gN 2)) (Be (Bh (Bf 2 Dx (Ac (Af 0) (Ac (Af 2) Ai))) (gN 3)) (Cg (G4 (Ac (Af 3) (Ac (Bf 2 Dx (Ac (Af 0) (Ac (Af 2) Ai))) Ai)))))))
noncomputable def Jy:FN:=fnU 4 2 Ua
noncomputable def Xv:FS:=(Be (Bh (f2 Al (Af 3) (Bf 2 Ao (Ac (Af 0) (Ac (B0 Cy (Ac (Af 3) Ai)) Ai)))) (gN 5)) (Be (Bh (Bf 2 Jy (Ac (Af 0) (Ac (Af 2) Ai))) (gN 6)) (Be (Fz (Mr "list" Ei (Af 4) (Ac (Af 6) Ai))) (Be (Bh (f2 Al (Ct (Ac (fC (.str "put")) (Ac (fC (.str "take")) (Ac (fC (.str "move")) Ai)))) (Bf 2 Ao (Ac (Af 0) (Ac (fC (.int 3)) Ai)))) (gN 7)) (Be (Dh (Ax (f2 Qr (Bf 2 Ao (Ac (Af 0) (Ac (fC (.int 4)) Ai))) (fC (.int 0)))) (Bh (f2 Al (Ct (Ac (Af 7) (Ac (fC (.str "put")) Ai))) (B0 Gj (Ac (f2 C9 (Af 5) (Af 2)) Ai))) (gN 7)) Cv) (Be (Bh (Bf 4 E2 (Ac (Af 1) (Ac (Af 7) (Ac (Af 5) (Ac (Af 6) Ai))))) (MR.gTup 2 (MR.gCons (gN 8) (MR.gCons (gN 9) MR.gNil)))) (Be (Dh (Ax (f2 Bm (f2 Gk (Af 5) (Af 2)) (f2 Bm (Af 7) (fC (.str "put"))))) (Cg (N6 (Bf 1 Ht (Ac (Af 9) Ai)) (f2 Bm (Mp ["NoPlace","NoAsk","NoPoints","NoCounts","NoName"] "word" (Af 9)) (Af 5)))) Cv) (Be (Dh (Ax (f2 Ny (Af 9) (fC .non))) (Cg (fC (.bl false))) Cv) (Be (Dh (Ax (f2 Bm (Af 7) (fC (.str "take")))) (Fz (Rp (Af 2) (Af 5))) (Mu (Af 2) (Af 5) (Af 6))) (Cg (f2 Aa7 (Af 8) (fC .non))))))))))))
noncomputable def Lc:FN:=fnU 10 5 Xv
noncomputable def Nw:FE:=(fC (.int 1))
noncomputable def K9:FT:=(Ax (f2 Eh (Af 0) (Af 1)))
noncomputable def Qn:FE:=(f2 Dp (G4 (Ac (Af 0) Ai)) (Af 1))
noncomputable def P8:FS:=(Be (Bh (Ct Ai) (gN 10)) (Be (Dh (K4 (Hf (Bf 5 Lc (Ac (Af 7) (Ac (f2 Al (Af 3) (Af 8)) (Ac (f2 Al (Af 4) (Af 8)) (Ac (Af 2) (Ac (Af 10) Ai)))))))) (Cg (fC (.bl false))) Cv) (Dh (K4 (Hf (Bf 4 Dv (Ac (Af 7) (Ac (f2 Al (Af 3) (Af 8)) (Ac (f2 Al (Af 4) (Af 8)) (Ac (f2 Al (Af 10) (fC (.int 0))) Ai))))))) (Cg (fC (.bl false))) Cv)))
noncomputable def Qb:FS:=(Be (Bh (Bf 1 G1 (Ac (f2 Dp (Af 6) (Bf 2 Ao (Ac (Af 1) (Ac (fC (.int 1000)) Ai)))) Ai)) (gN 7)) (Be (Bh (B0 Gj (Ac (f2 Bm (Bf 2 Ao (Ac (Af 7) (Ac (fC (.int 4)) Ai))) (fC (.int 0))) Ai)) (gN 8)) (Be (Rc (Oc (Ac (f2 Dp (fC (.int 1)) (Bf 2 Ao (Ac (Af 7) (Ac (fC (.int 4)) Ai)))) Ai)) (gN 9) P8) (Be (Dh (fOr (K4 (Hf (Bf 2 Er (Ac (f2 Al (Af 3) (Af 8)) (Ac (f2 Al (Af 4) (Af 8)) Ai))))) (K4 (Hf (Bf 2 Er (Ac (f2 Al (Af 3) (f2 Dw (fC (.int 1)) (Af 8))) (Ac (f2 Al (Af 4) (f2 Dw (fC (.int 1)) (Af 8))) Ai)))))) (Cg (fC (.bl false))) Cv) (Be (Dh (Ax (f2 Eh (Cd "KeptPoints" "pairs_now" 1 B3 (f2 Al (Af 3) (Af 8)) Ai) (Bf 1 Ho (Ac (f2 Al (Af 4) (Af 8)) Ai)))) (Cg (fC (.bl false))) Cv) (Fz (Mr "list" Ei (Af 5) (Ac (G4 (Ac (Cd "KeptPoints" "points_now" 1 Ar (f2 Al (Af 3) (Af 8)) Ai) (Ac (B0 semTuple (Ac (Jd (By [none,none] (G3 Gm (f2 Al (Af 4) (Af 8))) (MR.gTup 2 (MR.gCons (gN 0) (MR.gCons (gN 1) MR.gNil))) none Qn)) Ai)) Ai))) Ai))))))))
noncomputable def Alp:FS:=(Be (Bh (Bf 1 G1 (Ac (Bf 1 Hx (Ac (Af 0) Ai)) Ai)) (gN 1)) (Be (Bh (Bf 2 J7 (Ac (Af 1) (Ac (f2 Dp (fC (.int 1)) (Bf 2 Ao (Ac (Af 1) (Ac (f2 Al (Ct (Ac (fC (.int 4)) (Ac (fC (.int 12)) (Ac (fC (.int 60)) Ai)))) (Bf 2 Ao (Ac (Af 1) (Ac (fC (.int 3)) Ai)))) Ai)))) Ai))) (gN 2)) (Be (Bh (Ct (Ac (Mv "KeptPoints" 1 Bb Ai) (Ac (Mv "KeptPoints" 1 Bb Ai) Ai))) (gN 3)) (Be (Bh (Ct (Ac fDNew (Ac fDNew Ai))) (gN 4)) (Be (Bh (Ct Ai) (gN 5)) (Be (Dh (Ax (f2 Eh (Cd "KeptPoints" "points_now" 1 Ar (f2 Al (Af 3) (fC (.int 0))) Ai) (G4 Ai))) (Cg (fC (.bl false))) Cv) (Be (Rc (Cu (f2 Dp (fSl semSlL (Af 0) Oe (Yb (fC (.int 40)))) (f2 Gn (Ct (Ac (fC (.int 1)) Ai)) (fC (.int 16))))) (gN 6) Qb) (Cg (N6 (f2 Bm (By [none,none] (Cu (Af 5)) (MR.gTup 2 (MR.gCons (gN 0) (MR.gCons (gN 1) MR.gNil))) (some K9) Nw) (Ct Ai)) (f2 Bm (Mp ["NoPlace","NoAsk","NoPoints","NoCounts","NoName"] "word" (Jq "NoName" 2 Bt (Ac (fC (.str "ab")) Ai))) (fC (.str "ab"))))))))))))
noncomputable def U3:FN:=fnU 11 1 Alp
theorem Am4{L:UH}{n:Nat}{l:List U}{i:Int}(h:L[n]? = some (.lst l))(h0:0<=i)(h1:i < l.length)(hs:l.length < 1000000):O0 (.ref n) [.int i] L=some (l[i.toNat]'(by omega),L.set n (.lst (l.eraseIdx i.toNat))):=by
 have hk:seqIndex? i l.length=some i.toNat:=by unfold seqIndex?;simp;omega
 have hg:l[i.toNat]? = some (l[i.toNat]'(by omega)):=cZ (by omega)
 simp only[O0,Et h,aA,hk,hg,aD]
 rw[if_pos ⟨by omega,by omega⟩]
theorem Sz{β γ:Type}(f:β->γ)(l:List β)(i:Nat):(l.map f).eraseIdx i=(l.eraseIdx i).map f:=by
 rw[iU,iU,fY,qT,List.map_drop]
theorem R7{β:Type}:∀ (l:List β) (i:Nat) (h:i < l.length),(l[i]'h::l.eraseIdx i).Perm l
 | a::l,0,_=>by simp
 | a::l,i+1,h=>by
  have ih:=R7 l i (by simpa using h)
  simp only[List.getElem_cons_succ,List.eraseIdx_cons_succ]
  exact (List.Perm.swap _ _ _).trans (ih.cons a)
theorem Adq{β:Type}(rep:β->U){L:UH}{d n:Nat}{B:Int}{l:List β}(D:Seed L d B)(hB:B<=1000000000)(hd:n≠d)(h:L[n]? = some (.lst (l.map rep)))(hl:0 < l.length)(hs:l.length < 1000)(x0:Option U) :
  ∃ (r:β) (L':UH) (l':List β),(Mr "list" O0 (Af 1) (Ac (Bf 2 Ao (Ac (Af 2) (Ac (B0 Cy (Ac (Af 1) Ai)) Ai))) Ai)) [x0,some (.ref n),some (.ref d)] L=some (rep r,L')/\Seed L' d (B+1)/\L'[n]? = some (.lst (l'.map rep))/\l'.length+1=l.length/\(∀ L0,Ex d L0 L->L0.length<=n->Ex d L0 L')/\(r::l').Perm l:=by
 obtain ⟨i,L1,e1,i0,i1,D1,x1⟩:=C7 (many:=((l.map rep).length:Nat)) D (by omega) (by simp;omega) (by simp;omega)
 have h':L1[n]? = some (.lst (l.map rep)):=x1.get h hd
 have hi:i < l.length:=by simpa using i1
 have hp:=Am4 h' i0 i1 (by simp;omega)
 refine ⟨l[i.toNat]'(by omega),L1.set n (.lst ((l.map rep).eraseIdx i.toNat)),l.eraseIdx i.toNat,?_,D1.set hd _,?_,?_,fun L0 x0 hn=>(x0.trans x1).set hn _,R7 l i.toNat (by omega)⟩
 ·have ty:=Wa h
  have e1':=e1
  simp only[bF] at e1'
  simp[ty,Kr h,e1',hp]
 ·rw[bU (by have:=(aR.mp h').1;exact this)]
  rw[Sz]
 ·rw[List.length_eraseIdx,if_pos (by omega)];omega
noncomputable def abc:Str := "abcdefghijklmnopqrstuvwxyz"
noncomputable def K6:List Nat:=abc.cps.toList
theorem Adn:abc.cps.all (· < 128)=true:=by decide +kernel
theorem R6:K6.length=26:=by decide +kernel
noncomputable def one(c:Nat):Str:=⟨#[c]⟩
noncomputable def Rj:List Str:=K6.map one++K6.map (fun c=>one c ++ "b")++K6.map (fun c => "zzzzzzz" ++ one c)
noncomputable def Ll:List Str:=["put","take","move","points","counts","pairs","halves","below","above","abcdefgh"]
noncomputable def Lv:List Str:=["mall","mill","mell","abcxefgh","millmal","mellmal","ba"]
noncomputable def Ls:List Str:=Rj++Ll
noncomputable def spare3:List Str:=Ls++Lv
theorem Vy:spare3.Nodup:=by decide +kernel
theorem Aa1:spare3.length=95:=by decide +kernel
theorem Ap7(c:Nat):(one c).length+("b" : Str).length<=16777216:=by show 1+_<=_;decide
theorem Apx(c:Nat):("zzzzzzz" : Str).length+(one c).length<=16777216:=by show _+1<=_;decide
theorem Qw(fe:FE)(f:Nat->Str)(hf:∀ c L,fe [some (.str (one c))] L=some (.str (f c),L))(x0 x1 x3:Option U)(L:UH) :
  ∃ L',By [none] (Ms (Af 2)) (gN 0) none fe [x0,x1,some (.str abc),x3] L=some (.ref L.length,L')/\L'=L++[.lst ((K6.map f).map U.str)]:=by
 have hi:Ms (Af 2) [x0,x1,some (.str abc),x3] L=some (.seq (K6.map fun c=>.str (one c)),L):=by
  show ((some (U.str abc,L)).bind fun p=>_)=_
  rw[aA]
  show (if abc.cps.all (· < 128)=true then some (IU.seq (Aav abc),L) else none)=_
  rw[if_pos Adn];rfl
 have hc:∃ x:UH,x=[]/\By [none] (Ms (Af 2)) (gN 0) none fe [x0,x1,some (.str abc),x3] L=some (.ref (L++x).length,L++x++[.lst (K6.map fun c=>.str (f c))]):=by
  obtain ⟨ys,δ',M,e,⟨z,hδ⟩,hM,hys⟩:=Afi (ix:=[none]) (it:=.seq (K6.map fun c=>.str (one c))) (g:=gN 0) (tt:=none) (fe:=fe) (us:=K6.map fun c=>.str (one c)) (δ:=[x0,x1,some (.str abc),x3]) (L:=L) (L0:=L)
   (fun k acc δ' M=>(∃ z,δ'=[z])/\M=L/\acc=(K6.take k).map fun c=>.str (f c)) hi (by simp[IU.size]) ⟨⟨none,rfl⟩,rfl,by simp⟩
   (fun k acc δ L _ _=>rfl)
   (fun k u acc δ M hu ⟨⟨z,hδ⟩,hM,ha⟩=>by
    subst hδ;subst hM
    rw[bV] at hu
    obtain ⟨c,hc,rfl⟩:=aH.mp hu
    have hk:k < K6.length:=(aR.mp hc).1
    refine ⟨[some (.str (one c))],M,rfl,true,M,rfl,fun _=>⟨_,M,hf c M,?_,⟨_,rfl⟩,rfl,?_⟩,fun h=>by cases h⟩
    ·rw[ha,bF,gR];have:=R6;omega
    ·rw[ha,lH,hc];simp)
  refine ⟨[],rfl,?_⟩
  rw[bF,pN] at hys
  rw[e,hM,hys];simp
 obtain ⟨x,rfl,e⟩:=hc
 refine ⟨_,?_,rfl⟩
 rw[e];simp
theorem Wi{L:UH}{n m:Nat}{a b:List Str}(h1:L[n]? = some (.lst (a.map U.str)))(h2:L[m]? = some (.lst (b.map U.str)))(hs:a.length+b.length<=1000):Bs (.ref n) (.ref m) L=some (.ref L.length,L++[.lst ((a++b).map U.str)]):=by
 unfold Bs
 simp only[Et h1,Et h2,aA]
 rw[if_pos (Bq (by simp;omega)),fY]
noncomputable def Agd:FS:=(Bh (f2 Bs (f2 Bs (By [none] (Ms (Af 2)) (gN 0) none Hj) (By [none] (Ms (Af 2)) (gN 0) none Hk)) (By [none] (Ms (Af 2)) (gN 0) none He)) (gN 3))
theorem Ah5(x0 x1 x3:Option U)(L:UH):∃ (n:Nat) (L':UH),Agd [x0,x1,some (.str abc),x3] L=some (.nx [x0,x1,some (.str abc),some (.ref n)],L')/\L'[n]? = some (.lst (Rj.map U.str))/\L.length<=n/\Gw L L':=by
 obtain ⟨L1,e1,h1⟩:=Qw Hj one (fun c L=>by simp[Hj]) x0 x1 x3 L
 obtain ⟨K2,e2,h2⟩:=Qw Hk (fun c=>one c ++ "b") (fun c L=>by
  unfold Hk
  rw[f2_eq]
  show Bs (.str (one c)) (.str "b") L=_
  unfold Bs
  simp only
  rw[if_pos (Bq (Ap7 c))]) x0 x1 x3 L1
 have k1:K2[L.length]? = some (.lst ((K6.map one).map U.str)):=by rw[h2,h1];simp
 have k2:K2[L1.length]? = some (.lst ((K6.map fun c=>one c ++ "b").map U.str)):=by rw[h2];simp
 have c1:=Wi k1 k2 (by simp[R6])
 generalize hM:K2++[HU.lst ((K6.map one++K6.map fun c=>one c ++ "b").map U.str)]=M at c1
 obtain ⟨L3,e3,h3⟩:=Qw He (fun c => "zzzzzzz" ++ one c) (fun c L=>by
  unfold He
  rw[f2_eq]
  show Bs (.str "zzzzzzz") (.str (one c)) L=_
  unfold Bs
  simp only
  rw[if_pos (Bq (Apx c))]) x0 x1 x3 M
 have k3:L3[K2.length]? = some (.lst ((K6.map one++K6.map fun c=>one c ++ "b").map U.str)):=by rw[h3,<- hM];simp
 have k4:L3[M.length]? = some (.lst ((K6.map fun c => "zzzzzzz" ++ one c).map U.str)):=by rw[h3];simp
 have c2:=Wi k3 k4 (by simp[R6])
 have g:Gw L L3:=((Gw.trans ⟨_,h1⟩ ⟨_,h2⟩:Gw L K2).trans ⟨_,hM.symm⟩).trans ⟨_,h3⟩
 refine ⟨L3.length,L3++[.lst (Rj.map U.str)],?_,by simp,g.le,g.trans (Gw.new _ _)⟩
 unfold Agd
 rw[Dj,f2_eq,f2_eq,e1,aA,e2,aA,c1,aA,e3,aA,c2]
 rfl
theorem Aok(a b c d e f g h i j:Str)(δ:UE)(L:UH):(Ct (Ac (fC (.str a)) (Ac (fC (.str b)) (Ac (fC (.str c)) (Ac (fC (.str d)) (Ac (fC (.str e)) (Ac (fC (.str f)) (Ac (fC (.str g)) (Ac (fC (.str h)) (Ac (fC (.str i)) (Ac (fC (.str j)) Ai))))))))))) δ L=some (.ref L.length,L++[.lst ([a,b,c,d,e,f,g,h,i,j].map U.str)]):=by
 have sm:∀ a b c d e f g h i j:U,Dk [a,b,c,d,e,f,g,h,i,j].length=true:=fun _ _ _ _ _ _ _ _ _ _=>Bq (by show 10<=16777216;decide)
 simp only[fLst_eq,fCons_eq,fC_eq,fNil_eq,aA,aD]
 rw[if_pos (sm _ _ _ _ _ _ _ _ _ _)]
 rfl
theorem Aqk(a b c d e f g:Str)(δ:UE)(L:UH):(Ct (Ac (fC (.str a)) (Ac (fC (.str b)) (Ac (fC (.str c)) (Ac (fC (.str d)) (Ac (fC (.str e)) (Ac (fC (.str f)) (Ac (fC (.str g)) Ai)))))))) δ L=some (.ref L.length,L++[.lst ([a,b,c,d,e,f,g].map U.str)]):=by
 have sm:∀ a b c d e f g:U,Dk [a,b,c,d,e,f,g].length=true:=fun _ _ _ _ _ _ _=>Bq (by show 7<=16777216;decide)
 simp only[fLst_eq,fCons_eq,fC_eq,fNil_eq,aA,aD]
 rw[if_pos (sm _ _ _ _ _ _ _)]
 rfl
theorem Ara:Ll.length=10:=rfl
theorem Arz:Lv.length=7:=rfl
theorem An7:Rj.length=78:=by decide +kernel
theorem Ann:Ls.length=88:=by decide +kernel
theorem Aif{L:UH}{d many:Nat}{B:Int}(D:Seed L d B)(hB:B<=100000000)(hm:many<=95) :
  ∃ (n:Nat) (names:List Str) (L':UH),J7 [.ref d,.int many] L=some (.ref n,L')/\L'[n]? = some (.lst (names.map U.str))/\names.length=many/\names.Nodup/\(∀ x∈names,x∈spare3)/\Seed L' d (B+many)/\Ex d L L'/\L.length<=n:=by
 have s1:(Bh (fC (.str "abcdefghijklmnopqrstuvwxyz")) (gN 2)) [some (.ref d),some (.int many),none,none] L=some (.nx [some (.ref d),some (.int many),some (.str abc),none],L):=rfl
 obtain ⟨n1,L1,e1,k1,hn1,g1⟩:=Ah5 (some (.ref d)) (some (.int many)) none L
 have k1':(L1++[HU.lst (Ll.map U.str)])[n1]? = some (.lst (Rj.map U.str)):=(Gw.new L1 _).get k1
 have c2:=Wi k1' (b:=Ll) (m:=L1.length) (by simp) (by rw[An7,Ara];decide)
 have s2:(Bh (f2 Bs (Af 3) (Ct (Ac (fC (.str "put")) (Ac (fC (.str "take")) (Ac (fC (.str "move")) (Ac (fC (.str "points")) (Ac (fC (.str "counts")) (Ac (fC (.str "pairs")) (Ac (fC (.str "halves")) (Ac (fC (.str "below")) (Ac (fC (.str "above")) (Ac (fC (.str "abcdefgh")) Ai)))))))))))) (gN 3)) [some (.ref d),some (.int many),some (.str abc),some (.ref n1)] L1=some (.nx [some (.ref d),some (.int many),some (.str abc),some (.ref (L1++[HU.lst (Ll.map U.str)]).length)],L1++[HU.lst (Ll.map U.str)]++[.lst (Ls.map U.str)]):=by
  have v3:Af 3 [some (.ref d),some (.int many),some (.str abc),some (.ref n1)] L1=some (.ref n1,L1):=rfl
  have sA:=Aok "put" "take" "move" "points" "counts" "pairs" "halves" "below" "above" "abcdefgh" [some (.ref d),some (.int many),some (.str abc),some (.ref n1)] L1
  rw[Dj,f2_eq,v3,aA,sA,aA]
  show (Bs (.ref n1) (.ref L1.length) (L1++[HU.lst (Ll.map U.str)])).bind _=_
  rw[c2]
  rfl
 generalize hK2:L1++[HU.lst (Ll.map U.str)]=K1 at s2
 have k2:(K1++[HU.lst (Ls.map U.str)])[K1.length]? = some (.lst (Ls.map U.str)):=by simp
 have g2:Gw L (K1++[HU.lst (Ls.map U.str)]):=by rw[<- hK2];exact (g1.trans (Gw.new L1 _)).trans (Gw.new _ _)
 have gK:Gw L K1:=by rw[<- hK2];exact g1.trans (Gw.new L1 _)
 generalize hK3:K1++[HU.lst (Ls.map U.str)]=K2 at s2 k2 g2
 have k2':(K2++[HU.lst (Lv.map U.str)])[K1.length]? = some (.lst (Ls.map U.str)):=(Gw.new K2 _).get k2
 have c3:=Wi k2' (b:=Lv) (m:=K2.length) (by simp) (by rw[Ann,Arz];decide)
 have s3:(Bh (f2 Bs (Af 3) (Ct (Ac (fC (.str "mall")) (Ac (fC (.str "mill")) (Ac (fC (.str "mell")) (Ac (fC (.str "abcxefgh")) (Ac (fC (.str "millmal")) (Ac (fC (.str "mellmal")) (Ac (fC (.str "ba")) Ai))))))))) (gN 3)) [some (.ref d),some (.int many),some (.str abc),some (.ref K1.length)] K2=some (.nx [some (.ref d),some (.int many),some (.str abc),some (.ref (K2++[HU.lst (Lv.map U.str)]).length)],K2++[HU.lst (Lv.map U.str)]++[.lst (spare3.map U.str)]):=by
  have v3:Af 3 [some (.ref d),some (.int many),some (.str abc),some (.ref K1.length)] K2=some (.ref K1.length,K2):=rfl
  have sB:=Aqk "mall" "mill" "mell" "abcxefgh" "millmal" "mellmal" "ba" [some (.ref d),some (.int many),some (.str abc),some (.ref K1.length)] K2
  rw[Dj,f2_eq,v3,aA,sB,aA]
  show (Bs (.ref K1.length) (.ref K2.length) (K2++[HU.lst (Lv.map U.str)])).bind _=_
  rw[c3]
  rfl
 generalize hK4:K2++[HU.lst (Lv.map U.str)]=K3 at s3
 have g3:Gw L (K3++[HU.lst (spare3.map U.str)]):=by rw[<- hK4];exact (g2.trans (Gw.new K2 _)).trans (Gw.new _ _)
 have gK3:Gw L K3:=by rw[<- hK4];exact g2.trans (Gw.new K2 _)
 have k4:(K3++[HU.lst (spare3.map U.str)])[K3.length]? = some (.lst (spare3.map U.str)):=by simp
 have D4:=D.gw g3
 have x4:=g3.ex d
 have dl:=D.lt
 have le3:=gK3.le
 generalize K3++[HU.lst (spare3.map U.str)]=M at s3 k4 D4 x4
 generalize K3.length=sp at s3 k4 le3
 have hi:Oc (Ac (Af 1) Ai) [some (.ref d),some (.int many),some (.str abc),some (.ref sp)] M=some (.seq (Fb 0 many),M):=Yr rfl (by omega)
 obtain ⟨ys,δ',M',e,⟨z,hδ⟩,vs,rest,hvs,hlv,hlr,hp,hat,DM,xM⟩:=Afi (ix:=[none,some 3,some 0]) (it:=.seq (Fb 0 many)) (g:=gN 0) (tt:=none) (fe:=Hg) (us:=Fb 0 many) (δ:=[some (.ref d),some (.int many),some (.str abc),some (.ref sp)]) (L:=M) (L0:=M)
   (fun k acc δ' M=>(∃ z,δ'=[z,some (.ref sp),some (.ref d)])/\∃ (vs rest:List Str),acc=vs.map U.str/\vs.length=k/\rest.length+k=95/\(vs++rest).Perm spare3/\M[sp]? = some (.lst (rest.map U.str))/\Seed M d (B+k)/\Ex d L M)
   hi (by simp[IU.size]) ⟨⟨none,rfl⟩,[],spare3,rfl,rfl,by rw[Aa1],by simp,k4,by simpa using D4,x4⟩
   (fun k acc δ L _ _=>rfl)
   (fun k u acc δ M hu ⟨⟨z,hδ⟩,vs,rest,hvs,hlv,hlr,hp,hat,DM,xM⟩=>by
    subst hδ
    obtain ⟨hk,rfl⟩:=Sn hu
    obtain ⟨r,M',l',e,D',hat',hl',hx',hperm⟩:=Adq U.str DM (by omega) (by omega) hat (by omega) (by omega) (some (.int (0+(k:Int))))
    have ha:acc.length < 16777216:=by rw[hvs,bF,hlv];omega
    refine ⟨[some (.int (0+k)),some (.ref sp),some (.ref d)],M,rfl,true,M,rfl,fun _=>⟨.str r,M',?_,ha,⟨_,rfl⟩,vs++[r],l',by simp[hvs],by simp[hlv],by omega,?_,hat',?_,hx' L xM le3⟩,fun h=>by cases h⟩
    ·unfold Hg;exact e
    ·refine List.Perm.trans ?_ hp
     rw[cA]
     exact List.Perm.append_left vs hperm
    ·have:B+((k+1:Nat):Int)=B+(k:Int)+1:=by omega
     rw[this];exact D')
 rw[Rq] at hlv DM
 have hnd:(vs++rest).Nodup:=hp.nodup_iff.mpr Vy
 rw[List.nodup_append] at hnd
 refine ⟨M'.length,vs,M'++[.lst ys],?_,by rw[hvs];simp,hlv,hnd.1,fun x hx=>hp.mem_iff.mp (dY _ hx),DM.new _,xM.trans (Ex.new d _ _),xM.le⟩
 have sp:Ub=Be (Bh (fC (.str "abcdefghijklmnopqrstuvwxyz")) (gN 2)) (Be Agd (Be (Bh (f2 Bs (Af 3) (Ct (Ac (fC (.str "put")) (Ac (fC (.str "take")) (Ac (fC (.str "move")) (Ac (fC (.str "points")) (Ac (fC (.str "counts")) (Ac (fC (.str "pairs")) (Ac (fC (.str "halves")) (Ac (fC (.str "below")) (Ac (fC (.str "above")) (Ac (fC (.str "abcdefgh")) Ai)))))))))))) (gN 3)) (Be (Bh (f2 Bs (Af 3) (Ct (Ac (fC (.str "mall")) (Ac (fC (.str "mill")) (Ac (fC (.str "mell")) (Ac (fC (.str "abcxefgh")) (Ac (fC (.str "millmal")) (Ac (fC (.str "mellmal")) (Ac (fC (.str "ba")) Ai))))))))) (gN 3)) (Cg (By [none,some 3,some 0] (Oc (Ac (Af 1) Ai)) (gN 0) none Hg))))):=rfl
 unfold J7 fnU
 simp only[aL,aM,if_true,aP,bL,aT,dZ,dS]
 rw[sp,Au s1,Au e1,Au s2,Au s3,fRet_eq,e]
 rfl
noncomputable def ptU(p:Str×(Int×Int)):U:=.tup [.str p.1,.int p.2.1,.int p.2.2]
theorem Wx:∀ x∈spare3,eK x=true:=cU.mp (show (spare3.all fun x=>eK x)=true by decide +kernel)
theorem Al9(n:Nat){p:Str×(Int×Int)}(h:eK p.1=true):Pl (n+1) (ptU p):=by
 unfold ptU
 rw[Om]
 intro u hu
 simp only[cB,gS,or_false] at hu
 rcases hu with rfl | rfl | rfl
 ·show Pl n (.str p.1)
  cases n <;> simpa[Pl] using h
 ·exact Pl.int _ _
 ·exact Pl.int _ _
theorem Ox{ps:List (Str×(Int×Int))}(h:∀ p∈ps,eK p.1=true):Pl 6 (.tup (ps.map ptU)):=by
 rw[Om]
 intro u hu
 obtain ⟨p,hp,rfl⟩:=rB.mp hu
 exact Al9 4 (h p hp)
theorem Arf(δ:UE)(L:UH):(G4 Ai) δ L=some (.tup [],L):=by
 have sm0:Dk ([]:List U).length=true:=Bq (by show 0<=16777216;decide)
 rw[Mf,fNil_eq,aA,if_pos sm0]
noncomputable def prU(p:Int×Int):U:=.tup [.int p.1,.int p.2]
noncomputable def bxU(b:Int×Int×Int×Int):U:=.tup [.int b.1,.int b.2.1,.int b.2.2.1,.int b.2.2.2]
noncomputable def Ci(p q:Int×Int):Bool:=decide (p.1<=q.1)&&(decide (p.2<=q.2) && !(p.1 == q.1&&(p.2 == q.2&&true)))
theorem Al0(p q:Int×Int)(L:UH):Eh (prU p) (prU q) L=some (.bl (!(p.1 == q.1&&(p.2 == q.2&&true))),L):=rfl
theorem Aie{β:Type}(as:List β)(f:β->Bool):mapO toB (as.map fun a=>U.bl (f a))=some (as.map f):=by
 induction as with
 | nil=>rfl
 | cons a as ih=>simp[mapO,toB,ih]
theorem Akd{β:Type}{L:UH}{n:Nat}(as:List β)(f:β->Bool)(h:A7 L n=some (as.map fun a=>U.bl (f a))):Q3 [.ref n] L=some (.bl (as.all f),L):=by
 simp[Q3,h,Aie]
theorem Acf(p q:Int×Int)(L:UH):∃ x,Eo [prU p,prU q] L=some (.bl (Ci p q),L++x):=by
 have hz:(Ac0 (Ac (Af 0) (Ac (Af 1) Ai))) [some (prU p),some (prU q)] L=some (.seq ([(p.1,q.1),(p.2,q.2)].map fun a=>.tup [.int a.1,.int a.2]),L):=rfl
 obtain ⟨x,e⟩:=Ea (ix:=[none,none]) (fi:=Ac0 (Ac (Af 0) (Ac (Af 1) Ai))) (it:=.seq ([(p.1,q.1),(p.2,q.2)].map fun a=>.tup [.int a.1,.int a.2])) (g:=(MR.gTup 2 (MR.gCons (gN 0) (MR.gCons (gN 1) MR.gNil)))) (tt:=none) (fe:=Ha) (δ:=[some (prU p),some (prU q)]) (L:=L) (L0:=L)
  [(p.1,q.1),(p.2,q.2)] (fun a=>.tup [.int a.1,.int a.2]) (fun _=>true) (fun a=>.bl (decide (a.1<=a.2))) (fun δ=>∃ a b,δ = [a,b]) hz (by simp[IU.size]) (by simp) ⟨none,none,rfl⟩
  (fun k x=>rfl)
  (fun a δ x _ ⟨y,z,hδ⟩=>by
   subst hδ
   refine ⟨_,rfl,⟨_,_,rfl⟩,[],by simp[Ig],fun _=>⟨[],?_⟩⟩
   simp[Ha])
 have hf:jJ (fun _:Int×Int=>true) [(p.1,q.1),(p.2,q.2)]=[(p.1,q.1),(p.2,q.2)]:=by simp
 rw[hf] at e
 have q1:A7 (L++x++[HU.lst ([(p.1,q.1),(p.2,q.2)].map fun a=>.bl (decide (a.1<=a.2)))]) (L++x).length=some ([(p.1,q.1),(p.2,q.2)].map fun a=>U.bl (decide (a.1<=a.2))):=A9 (by simp)
 have ha:=Akd _ _ q1
 by_cases h:(!(p.1 == q.1&&(p.2 == q.2&&true)))=true
 ·refine ⟨x++[HU.lst ([(p.1,q.1),(p.2,q.2)].map fun a=>.bl (decide (a.1<=a.2)))],?_⟩
  have hb:Ci p q=List.all [(p.1,q.1),(p.2,q.2)] fun a=>decide (a.1<=a.2):=by
   simp only[Ci,h,List.all_cons,List.all_nil]
  have hn:=Al0 p q L
  rw[h] at hn
  unfold Eo fnU Ku
  simp only[aL,aM,if_true,aP,bL,cQ,bS,aX,fRet_eq,fAndV_eq,f2_eq,fVar_eq,aJ,aK,aQ,aD,aA,hn,fCall_eq,fCons_eq,fNil_eq]
  simp only[aP,bL] at e ha
  rw[hb,<- cA]
  simp only[e,ha,aD,aA]
 ·have h':(!(p.1 == q.1&&(p.2 == q.2&&true)))=false:=by simpa using h
  refine ⟨[],?_⟩
  have hb:Ci p q=false:=by simp only[Ci,h',nG]
  have hn:=Al0 p q L
  rw[h'] at hn
  unfold Eo fnU Ku
  simp only[aL,aM,if_true,aP,bL,cQ,bS,aX,fRet_eq,fAndV_eq,f2_eq,fVar_eq,aJ,aK,aQ,aD,aA,hn,hb]
  simp
abbrev NP:=Str×(Int×Int)
noncomputable def kG(g:NP->U)(m:List NP):List (Key×U):=m.map fun p=>(.inr p.1,g p)
noncomputable def Em(m:List NP)(nm:Str):Bool:=m.any fun p=>decide (p.1=nm)
noncomputable def Rb(m:List NP)(nm:Str)(q:Int×Int):List NP:=if Em m nm=true then m.map (fun p=>if p.1=nm then (nm,q) else p) else m++[(nm,q)]
noncomputable def Qi(m:List NP)(nm:Str):List NP:=m.filter fun p=>decide (p.1≠nm)
theorem Wg(a b:Str):((iJ a:Key) = .inr b)↔a=b:=⟨fun h=>by injection h,fun h=>by rw[h]⟩
theorem Aa9(g:NP->U)(nm:Str):∀ m:List NP,((kG g m).any fun kv=>decide (kv.1 = .inr nm))=Em m nm
 | []=>rfl
 | p::m=>by
  have ih:=Aa9 g nm m
  unfold kG Em at ih ⊢
  rw[aP,eU,eU,ih]
  simp only[Wg]
theorem Wo(g:NP->U)(m:List NP)(nm:Str):(Qo (kG g m) (.inr nm)).isSome=Em m nm:=by
 unfold Qo
 rw[gF,find_any,Aa9]
theorem Af0(g:NP->U)(m:List NP)(nm:Str)(q:Int×Int):Ahk (kG g m) (.inr nm) (g (nm,q))=kG g (Rb m nm q):=by
 unfold Ahk Rb
 rw[Aa9]
 split
 ·unfold kG
  rw[eS,eS]
  apply List.map_congr_left
  intro p _
  show (if (iJ p.1:Key) = .inr nm then (iJ p.1,g (nm,q)) else (iJ p.1,g p))=_
  by_cases h:p.1=nm
  ·rw[if_pos ((Wg _ _).mpr h)]
   show _=(iJ (if p.1=nm then (nm,q) else p).1,g (if p.1=nm then (nm,q) else p))
   rw[if_pos h,h]
  ·rw[if_neg (fun z=>h ((Wg _ _).mp z))]
   simp only[Function.comp_apply,if_neg h]
 ·unfold kG
  rw[fY]
  rfl
theorem Ab9(g:NP->U)(nm:Str):∀ m:List NP,Ys (kG g m) (.inr nm)=kG g (Qi m nm)
 | []=>rfl
 | p::m=>by
  have ih:=Ab9 g nm m
  unfold Ys kG Qi at ih ⊢
  rw[aP,eV,eV,ih]
  by_cases h:p.1=nm
  ·simp[h]
  ·simp[h]
theorem Ahs(m:List NP)(nm:Str)(q:Int×Int):(Rb m nm q).length<=m.length+1:=by
 unfold Rb;split <;> simp
theorem Aeh(m:List NP)(nm:Str):(Qi m nm).length<=m.length:=iW _ _
noncomputable def OkM(m:List NP):Prop:=∀ p∈m,eK p.1=true
theorem OkM.put{m:List NP}{nm:Str}{q:Int×Int}(h:OkM m)(hn:eK nm=true):OkM (Rb m nm q):=by
 intro p hp
 unfold Rb at hp
 split at hp
 ·obtain ⟨p',hp',e⟩:=rB.mp hp
  split at e
  ·subst e;exact hn
  ·subst e;exact h _ hp'
 ·rcases fW.mp hp with z | z
  ·exact h _ z
  ·have:=eI.mp z
   subst this;exact hn
theorem OkM.drop{m:List NP}{nm:Str}(h:OkM m):OkM (Qi m nm):=fun p hp=>h p (iA.mp hp).1
theorem Gb{C:Str}{L:UH}{t:Nat}{fs:List (Str×U)}(h:L[t]? = some (.ins C fs)):Pj C (.ref t) L=some (t,fs):=by
 unfold Pj
 simp only[h,if_true]
noncomputable def kfl(p:Nat):List (Str×U):=[("points",.ref p)]
theorem kf_pts(p:Nat):eT ("points" : Str) (kfl p)=some (.ref p):=rfl
theorem Qh{s:Str}(p:Nat)(h:(s == "points")=false):eT s (kfl p)=none:=by
 unfold kfl
 rw[bX,h]
 rfl
structure Kept(L:UH)(k p:Nat)(m:List NP):Prop where
 ob:L[k]? = some (.ins "KeptPoints" (kfl p))
 pt:L[p]? = some (.dic (kG ptU m))
theorem Kept.ne{L:UH}{k p:Nat}{m:List NP}(T:Kept L k p m):k≠p:=fun h=>by
 have a:=T.ob
 rw[h,T.pt] at a
 cases a
theorem Kept.gw{L L':UH}{k p:Nat}{m:List NP}(T:Kept L k p m)(g:Gw L L'):Kept L' k p m:=⟨g.get T.ob,g.get T.pt⟩
theorem Kept.set{L:UH}{k p:Nat}{m m':List NP}(T:Kept L k p m):Kept (L.set p (.dic (kG ptU m'))) k p m':=
 ⟨by rw[bA (cR T.ne)];exact T.ob,bU (aR.mp T.pt).1⟩
theorem Kept.fld{L:UH}{k p:Nat}{m:List NP}(T:Kept L k p m){δ:UE}{fe:FE}(h:fe δ L=some (.ref k,L)):Kp "KeptPoints" "points" fe δ L=some (.ref p,L):=by
 unfold Kp
 rw[h]
 simp only[aA,Gb T.ob,kf_pts,aD]
theorem Ii{L:UH}{n:Nat}{kvs:List (Key×U)}(h:L[n]? = some (.dic kvs)):E5 L n=some kvs:=by unfold E5;rw[h]
theorem Vm{L:UH}{n:Nat}{g:NP->U}{m:List NP}(h:L[n]? = some (.dic (kG g m)))(nm:Str):Gk (.str nm) (.ref n) L=some (.bl (Em m nm),L):=by
 unfold Gk
 simp only[toK,aA,Ii h,aD,Wo]
theorem Mi{L:UH}{n:Nat}{g:NP->U}{m:List NP}(h:L[n]? = some (.dic (kG g m)))(nm:Str):C9 (.str nm) (.ref n) L=some (.bl (!Em m nm),L):=by
 unfold C9
 simp only[toK,aA,Ii h,aD,Wo]
theorem Ajg{L:UH}{k p:Nat}{m:List NP}{nm:Str}(T:Kept L k p m)(h:Em m nm=true):B8 [.ref k,.str nm] L=some (.non,L):=by
 have f1:=T.fld (δ:=[some (.ref k),some (.str nm)]) (fe:=Af 0) rfl
 unfold B8 fnU Fu
 simp only[aL,aM,if_true,aP,bL,cQ,bS,aX]
 rw[Cr,fTest_eq,f2_eq]
 simp only[fVar_eq,aJ,aK,aQ,aD,aA,f1,Mi T.pt,h,hW,bT,if_false,Eg]
theorem Uj{L:UH}{k p:Nat}{m:List NP}{nm:Str}{δ:UE}(T:Kept L k p m)(h:Em m nm=true)(h0:Af 0 δ L=some (.ref k,L))(h1:Af 1 δ L=some (.str nm,L)):(Fz (Cd "KeptPoints" "need_name" 2 B8 (Af 0) (Ac (Af 1) Ai))) δ L=some (.nx δ,L):=by
 have no:=Qh (s := "need_name") p (by decide +kernel)
 have e:=Ajg T h
 unfold Fz Cd
 rw[h0]
 simp only[aA,Gb T.ob,no,if_true,fCons_eq,h1,fNil_eq,aD,aL,aM,e]
theorem Acd{L:UH}{k p:Nat}{m:List NP}{nm:Str}{x y:Int}(T:Kept L k p m)(hl:m.length < 1000) :
  (Mu (Kp "KeptPoints" "points" (Af 0)) (Af 1) (G4 (Ac (Af 1) (Ac (Af 2) (Ac (Af 3) Ai))))) [some (.ref k),some (.str nm),some (.int x),some (.int y)] L=some (.nx [some (.ref k),some (.str nm),some (.int x),some (.int y)],L.set p (.dic (kG ptU (Rb m nm (x,y))))):=by
 have f1:=T.fld (δ:=[some (.ref k),some (.str nm),some (.int x),some (.int y)]) (fe:=Af 0) rfl
 have ht:(G4 (Ac (Af 1) (Ac (Af 2) (Ac (Af 3) Ai)))) [some (.ref k),some (.str nm),some (.int x),some (.int y)] L=some (ptU (nm,(x,y)),L):=by
  simp only[Mf,fCons_eq,fNil_eq,fVar_eq,aJ,aK,aQ,aD,aA]
  rw[if_pos (Bq (by show 3<=16777216;decide))]
  rfl
 have hk:(kG ptU m).length < 1000000:=by unfold kG;rw[bF];omega
 unfold Mu
 rw[ht]
 simp only[aA,f1,fVar_eq,aJ,aK,aQ,aD,toK,Ii T.pt]
 rw[if_pos hk,Af0]
theorem Akr{L:UH}{k p:Nat}{m:List NP}{nm:Str}{x y:Int}(T:Kept L k p m)(h:Em m nm=false)(hl:m.length < 1000) :
  Cp [.ref k,.str nm,.int x,.int y] L=some (.non,L.set p (.dic (kG ptU (Rb m nm (x,y))))):=by
 have f1:=T.fld (δ:=[some (.ref k),some (.str nm),some (.int x),some (.int y)]) (fe:=Af 0) rfl
 have s1:(Dh (Ax (f2 Gk (Af 1) (Kp "KeptPoints" "points" (Af 0)))) Km Cv) [some (.ref k),some (.str nm),some (.int x),some (.int y)] L=some (.nx [some (.ref k),some (.str nm),some (.int x),some (.int y)],L):=by
  rw[Cr,fTest_eq,f2_eq]
  simp only[fVar_eq,aJ,aK,aQ,aD,aA,f1,Vm T.pt,h,bT,if_false,Eg]
 unfold Cp fnU Fy
 simp only[aL,aM,if_true,aP,bL,cQ,bS,aX]
 rw[Au s1,Acd T hl]
 rfl
theorem Ae5{L:UH}{k p:Nat}{m:List NP}{nm:Str}{x y:Int}(T:Kept L k p m)(h:Em m nm=true)(hl:m.length < 1000) :
  Cm [.ref k,.str nm,.int x,.int y] L=some (.non,L.set p (.dic (kG ptU (Rb m nm (x,y))))):=by
 unfold Cm fnU Fh
 simp only[aL,aM,if_true,aP,bL,cQ,bS,aX]
 rw[Au (Uj T h rfl rfl),Acd T hl]
 rfl
theorem Adg{L:UH}{n:Nat}{g:NP->U}{m:List NP}{nm:Str}{fo fe:FE}{δ:UE}(hn:L[n]? = some (.dic (kG g m)))(h:Em m nm=true)(h0:fo δ L=some (.ref n,L))(h1:fe δ L=some (.str nm,L)):(Fz (Rp fo fe)) δ L=some (.nx δ,L.set n (.dic (kG g (Qi m nm)))):=by
 have hs:=Wo g m nm
 rw[h] at hs
 obtain ⟨v,hv⟩:=lP.mp hs
 unfold Fz Rp
 rw[h0]
 simp only[aA,Ii hn,h1,toK,hv,aD,Ab9]
theorem Afq{L:UH}{k p:Nat}{m:List NP}{nm:Str}(T:Kept L k p m)(h:Em m nm=true) :
  Cj [.ref k,.str nm] L=some (.non,L.set p (.dic (kG ptU (Qi m nm)))):=by
 have f1:=T.fld (δ:=[some (.ref k),some (.str nm)]) (fe:=Af 0) rfl
 unfold Cj fnU Fp
 simp only[aL,aM,if_true,aP,bL,cQ,bS,aX]
 rw[Au (Uj T h rfl rfl),Adg T.pt h f1 rfl]
 rfl
theorem Afz(L:UH):(Mv "KeptPoints" 1 Bb Ai)=fun δ L=>some (.ref L.length,L++[.ins "KeptPoints" (kfl (L.length+1))]++[.dic (kG ptU [])]):=by
 funext δ L
 have e:Bb [.ref L.length] (L++[.ins "KeptPoints" []])=some (.non,L++[.ins "KeptPoints" (kfl (L.length+1))]++[.dic (kG ptU [])]):=by
  have ha:(L++[HU.ins "KeptPoints" []]++[HU.dic []])[L.length]? = some (.ins "KeptPoints" []):=by simp
  have hp:Abd "points" (.ref (L++[HU.ins "KeptPoints" []]).length) []=kfl (L.length+1):=by
   rw[cG];rfl
  unfold Bb fnU Ge Ain fDNew
  simp only[aL,aM,if_true,aP,bL,cQ,bS,aX,aA,fVar_eq,aJ,aQ,aD,Gb ha]
  rw[if_pos (by decide),hp]
  simp[kG]
 unfold Mv
 rw[fNil_eq,aA]
 simp only[aM,if_true,e,aA]
theorem Pm(p:NP)(L:UH):Hv [ptU p] L=some (prU p.2,L):=by
 have h1:L2.atI [U.str p.1,.int p.2.1,.int p.2.2] 1=some (.int p.2.1):=rfl
 have h2:L2.atI [U.str p.1,.int p.2.1,.int p.2.2] 2=some (.int p.2.2):=rfl
 simp[Hv,fnU,Q0,ptU,h1,h2,Bq,prU]
theorem vals_kG(g:NP->U)(m:List NP):Iw (kG g m)=m.map g:=by
 unfold Iw kG
 rw[eS]
 rfl
theorem Ahb(g:NP->U)(m:List NP):Gm (kG g m)=m.map fun p=>.tup [.str p.1,g p]:=by
 unfold Gm kG
 rw[eS]
 rfl
noncomputable def cnt(qs:List (Int×Int))(q:Int×Int):Int:=((qs.filter fun o=>Ci o q).length:Nat)
theorem Mo{L:UH}{r:Nat}{qs:List (Int×Int)}(q:Int×Int)(hr:A7 L r=some (qs.map prU))(hl:qs.length < 1000000):∃ L',Fs [.ref r,prU q] L=some (.int (cnt qs q),L')/\Gw L L':=by
 obtain ⟨x,e⟩:=Ea (ix:=[none,some 1]) (fi:=Cu (Af 0)) (it:=.ref r) (g:=gN 0) (tt:=some b_many_below_1t) (fe:=G9) (δ:=[some (.ref r),some (prU q)]) (L:=L) (L0:=L)
  qs prU (fun o=>Ci o q) prU (fun δ=>∃ a,δ = [a,some (prU q)]) (by simp[Ej hr]) (by rw[K8 hr];simp) (by omega) ⟨none,rfl⟩
  (fun k x=>Se (Fo hr))
  (fun a δ x _ ⟨y,hδ⟩=>by
   subst hδ
   obtain ⟨xl,hx⟩:=Acf a q (L++x)
   refine ⟨_,rfl,⟨_,rfl⟩,xl,?_,fun _=>⟨[],?_⟩⟩
   ·simp[Ig,b_many_below_1t,hx]
   ·simp[G9])
 have q1:(L++x++[HU.lst ((qs.filter fun o=>Ci o q).map prU)])[(L++x).length]? = some (.lst ((qs.filter fun o=>Ci o q).map prU)):=by simp
 have hlen:=Kr q1
 rw[bF] at hlen
 refine ⟨L++x++[HU.lst ((qs.filter fun o=>Ci o q).map prU)],?_,⟨x++[HU.lst ((qs.filter fun o=>Ci o q).map prU)],by rw[cA]⟩⟩
 unfold Fs fnU N0
 simp only[aL,aM,if_true,aP,bL,cQ,bS,aX,fRet_eq,fCall_eq,fCons_eq,fNil_eq,aD,aA,e,hlen,cnt]
theorem Td(ps:List (Str×(Int×Int)))(L:UH)(hl:ps.length < 1000000):∃ L',Hc [.tup (ps.map ptU)] L=some (.tup (ps.map fun p=>.int (cnt (ps.map (·.2)) p.2)),L')/\Gw L L':=by
 obtain ⟨x,e⟩:=Ea (ix:=[none]) (fi:=Cu (Af 0)) (it:=.seq (ps.map ptU)) (g:=gN 0) (tt:=none) (fe:=G5) (δ:=[some (.tup (ps.map ptU)),none]) (L:=L) (L0:=L)
  ps ptU (fun _=>true) (fun p=>prU p.2) (fun δ=>∃ a,δ = [a]) (by simp[Pb]) (by simp[IU.size]) (by omega) ⟨none,rfl⟩
  (fun k x=>rfl)
  (fun a δ x _ ⟨y,hδ⟩=>by
   subst hδ
   refine ⟨_,rfl,⟨_,rfl⟩,[],by simp[Ig],fun _=>⟨[],?_⟩⟩
   simp[G5,Pm])
 have hf:∀ (l:List (Str×(Int×Int))),jJ (fun _=>true) l=l:=fun l=>fO.mpr (fun _ _=>rfl)
 rw[hf] at e
 have hm:(ps.map fun p=>prU p.2)=(ps.map (·.2)).map prU:=by rw[eS];rfl
 rw[hm] at e
 generalize hM:L++x++[HU.lst ((ps.map (·.2)).map prU)]=M at e
 have hr:A7 M (L++x).length=some ((ps.map (·.2)).map prU):=by rw[<- hM];exact A9 (by simp)
 have gM:Gw L M:=⟨x++[HU.lst ((ps.map (·.2)).map prU)],by rw[<- hM,cA]⟩
 obtain ⟨y,e2⟩:=Ea (ix:=[none,some 1]) (fi:=Cu (Af 1)) (it:=.ref (L++x).length) (g:=gN 0) (tt:=none) (fe:=G8) (δ:=[some (.tup (ps.map ptU)),some (.ref (L++x).length)]) (L:=M) (L0:=M)
  (ps.map (·.2)) prU (fun _=>true) (fun q=>.int (cnt (ps.map (·.2)) q)) (fun δ=>∃ a,δ = [a,some (.ref (L++x).length)]) (by simp only[Ke,fVar_eq,aK,aJ,aQ,aD,aA,Ej hr]) (by rw[K8 hr];simp) (by simp;omega) ⟨none,rfl⟩
  (fun k x=>Se (Fo hr))
  (fun a δ z _ ⟨y,hδ⟩=>by
   subst hδ
   obtain ⟨L',e3,w,hw⟩:=Mo (L:=M++z) a (Fo hr) (by simp;omega)
   refine ⟨_,rfl,⟨_,rfl⟩,[],by simp[Ig],fun _=>⟨w,?_⟩⟩
   rw[aX,<- hw]
   unfold G8
   simp only[fOwn_eq,fCons_eq,fNil_eq,fVar_eq,bZ,aK,aJ,aQ,aD,aA,aL,aM,if_true,e3])
 have hf2:∀ (l:List (Int×Int)),jJ (fun _=>true) l=l:=fun l=>fO.mpr (fun _ _=>rfl)
 rw[hf2] at e2
 generalize hR:((ps.map (·.2)).map fun q=>U.int (cnt (ps.map (·.2)) q))=R at e2
 have q2:A7 (M++y++[HU.lst R]) (M++y).length=some R:=A9 (by simp)
 have ht:semTuple [.ref (M++y).length] (M++y++[HU.lst R])=some (.tup R,M++y++[HU.lst R]):=by simp only[semTuple,q2,aD]
 refine ⟨M++y++[HU.lst R],?_,gM.trans ⟨y++[HU.lst R],by rw[cA]⟩⟩
 have hR':(ps.map fun p=>U.int (cnt (ps.map (·.2)) p.2))=R:=by rw[<- hR,eS];rfl
 rw[hR']
 unfold Hc fnU Od
 simp only[aL,aM,if_true,aP,bL,aT,dZ,dS,fSeq_eq,Dj,e,Yp,aD,aA,cH,bZ,fRet_eq,fCall_eq,fCons_eq,fNil_eq,e2,ht]
noncomputable def tupU(ps:List (Str×(Int×Int))):U:=.tup (ps.map ptU)
theorem toI_map{β:Type}(f:β->Int):∀ l:List β,mapO toI (l.map fun a=>U.int (f a))=some (l.map f)
 | []=>rfl
 | a::l=>by simp only[aP,mapO,toI,toI_map f l,aA,aD]
noncomputable def pairs(qs:List (Int×Int)):Int:=(qs.map (cnt qs)).sum
theorem Af2(ps:List (Str×(Int×Int)))(L:UH)(hl:ps.length < 1000000):∃ L',Ef [tupU ps] L=some (.int (pairs (ps.map (·.2))),L')/\Gw L L':=by
 obtain ⟨L',e,g⟩:=Td ps L hl
 refine ⟨L',?_,g⟩
 have hs:Rf [.tup (ps.map fun p=>.int (cnt (ps.map (·.2)) p.2))] L'=some (.int (pairs (ps.map (·.2))),L'):=by
  simp only[Rf,toI_map,aD,pairs,eS];rfl
 simp[Ef,fnU,Ln,tupU,e,hs]
noncomputable def Ap4(qs:List (Int×Int))(q:Int×Int):Int:=((qs.filter fun o=>Ci q o).length:Nat)
theorem Sr{L:UH}{r:Nat}{qs:List (Int×Int)}(q:Int×Int)(hr:A7 L r=some (qs.map prU))(hl:qs.length < 1000000):∃ L',Hi [.ref r,prU q] L=some (.int (Ap4 qs q),L')/\Gw L L':=by
 obtain ⟨x,e⟩:=Ea (ix:=[none,some 1]) (fi:=Cu (Af 0)) (it:=.ref r) (g:=gN 0) (tt:=some b_many_above_1t) (fe:=G7) (δ:=[some (.ref r),some (prU q)]) (L:=L) (L0:=L)
  qs prU (fun o=>Ci q o) prU (fun δ=>∃ a,δ = [a,some (prU q)]) (by simp[Ej hr]) (by rw[K8 hr];simp) (by omega) ⟨none,rfl⟩
  (fun k x=>Se (Fo hr))
  (fun a δ x _ ⟨y,hδ⟩=>by
   subst hδ
   obtain ⟨xl,hx⟩:=Acf q a (L++x)
   refine ⟨_,rfl,⟨_,rfl⟩,xl,?_,fun _=>⟨[],?_⟩⟩
   ·simp[Ig,b_many_above_1t,hx]
   ·simp[G7])
 have q1:(L++x++[HU.lst ((qs.filter fun o=>Ci q o).map prU)])[(L++x).length]? = some (.lst ((qs.filter fun o=>Ci q o).map prU)):=by simp
 have hlen:=Kr q1
 rw[bF] at hlen
 refine ⟨L++x++[HU.lst ((qs.filter fun o=>Ci q o).map prU)],?_,⟨x++[HU.lst ((qs.filter fun o=>Ci q o).map prU)],by rw[cA]⟩⟩
 unfold Hi fnU Nv
 simp only[aL,aM,if_true,aP,bL,cQ,bS,aX,fRet_eq,fCall_eq,fCons_eq,fNil_eq,aD,aA,e,hlen,Ap4]
theorem Adu{L:UH}{k p:Nat}{m:List NP}(T:Kept L k p m)(hl:m.length < 1000) :
  ∃ (r:Nat) (L':UH),Bl [.ref k] L=some (.ref r,L')/\L'[r]? = some (.lst (m.map fun p=>prU p.2))/\Gw L L':=by
 obtain ⟨x,e⟩:=Oo (ix:=[none]) (v:=Iw) (fo:=Kp "KeptPoints" "points" (Af 0)) (g:=gN 0) (tt:=none) (fe:=Dd) (δ:=[some (.ref k)]) (L:=L)
  m ptU (fun _=>true) (fun p=>prU p.2) (fun δ=>∃ a,δ = [a]) (T.fld rfl) T.pt (vals_kG ptU m) (by omega) ⟨none,rfl⟩
  (fun p δ M _ ⟨a,hδ⟩=>by
   subst hδ
   refine ⟨_,rfl,⟨_,rfl⟩,[],by simp[Ig],fun _=>⟨[],?_⟩⟩
   have:=Pm p M
   simp only[Dd,fOwn_eq,fCons_eq,fNil_eq,fVar_eq,bZ,aJ,aQ,aD,aA,aL,aM,if_true,this,aX])
 have hf:jJ (fun _=>true) m=m:=fO.mpr (fun _ _=>rfl)
 rw[hf] at e
 refine ⟨(L++x).length,L++x++[.lst (m.map fun p=>prU p.2)],?_,by simp,⟨x++[.lst (m.map fun p=>prU p.2)],by rw[cA]⟩⟩
 unfold Bl fnU Ff
 simp only[aL,aM,if_true,aP,bL,cQ,bS,aX]
 rw[fRet_eq,e]
 rfl
theorem Ac3{fN fM:FN}{rel:Int×Int->Bool}{x y:Int}(hN:fN=fnU 3 3 (Cg (Bf 2 fM (Ac (Cd "KeptPoints" "places_now" 1 Bl (Af 0) Ai) (Ac (G4 (Ac (Af 1) (Ac (Af 2) Ai))) Ai)))))
  (hM:∀ (L:UH) (r:Nat) (as:List (Int×Int)),L[r]? = some (.lst (as.map prU))->as.length < 1000->∃ L',fM [.ref r,prU (x,y)] L=some (.int ((as.filter rel).length:Nat),L')/\Gw L L')
  {L:UH} {k p:Nat} {m:List NP} (T:Kept L k p m) (hl:m.length < 1000) :
  ∃ L',fN [.ref k,.int x,.int y] L=some (.int ((m.filter fun p=>rel p.2).length:Nat),L')/\Gw L L':=by
 obtain ⟨r,L1,e1,h1,g1⟩:=Adu T hl
 obtain ⟨L2,e2,g2⟩:=hM L1 r (m.map (·.2)) (by rw[h1,eS];rfl) (by simpa using hl)
 refine ⟨L2,?_,g1.trans g2⟩
 have no:=Qh (s := "places_now") p (by decide +kernel)
 have hme:(Cd "KeptPoints" "places_now" 1 Bl (Af 0) Ai) [some (.ref k),some (.int x),some (.int y)] L=some (.ref r,L1):=by
  unfold Cd
  simp only[fVar_eq,aJ,aQ,aD,aA,Gb T.ob,no,if_true,fNil_eq,aM,e1]
 have ht:(G4 (Ac (Af 1) (Ac (Af 2) Ai))) [some (.ref k),some (.int x),some (.int y)] L1=some (prU (x,y),L1):=by
  simp only[Mf,fCons_eq,fNil_eq,fVar_eq,aJ,aK,aQ,aD,aA]
  rw[if_pos (Bq (by show 2<=16777216;decide))]
  rfl
 have hc:((m.map (·.2)).filter rel).length=(m.filter fun p=>rel p.2).length:=by
  rw[mR,bF];rfl
 rw[hc] at e2
 subst hN
 unfold fnU
 simp only[aL,aM,if_true,aP,bL,cQ,bS,aX]
 rw[fRet_eq,fOwn_eq,fCons_eq,hme,aA,fCons_eq,ht]
 simp only[aA,fNil_eq,aD,aL,aM,if_true,e2]
theorem V0{L:UH}{k p:Nat}{m:List NP}{x y:Int}(T:Kept L k p m)(hl:m.length < 1000) :
  ∃ L',C5 [.ref k,.int x,.int y] L=some (.int ((m.filter fun p=>Ci p.2 (x,y)).length:Nat),L')/\Gw L L':=
 Ac3 (rel:=fun a=>Ci a (x,y)) rfl (fun L r as h1 h2=>Mo (x,y) (A9 h1) (by omega)) T hl
theorem Wh{L:UH}{k p:Nat}{m:List NP}{x y:Int}(T:Kept L k p m)(hl:m.length < 1000) :
  ∃ L',C6 [.ref k,.int x,.int y] L=some (.int ((m.filter fun p=>Ci (x,y) p.2).length:Nat),L')/\Gw L L':=
 Ac3 (rel:=fun a=>Ci (x,y) a) rfl (fun L r as h1 h2=>Sr (x,y) (A9 h1) (by omega)) T hl
noncomputable def inB(b:Int×Int×Int×Int)(p:Str×(Int×Int)):Bool:=decide (b.1<=p.2.1)&&(decide (p.2.1<=b.2.2.1)&&(decide (b.2.1<=p.2.2)&&decide (p.2.2<=b.2.2.2)))
noncomputable def cntB(ps:List (Str×(Int×Int)))(b:Int×Int×Int×Int):Nat:=(ps.filter (inB b)).length
theorem pt1(p:Str×(Int×Int)):L2.atI [U.str p.1,.int p.2.1,.int p.2.2] 1=some (.int p.2.1):=rfl
theorem pt2(p:Str×(Int×Int)):L2.atI [U.str p.1,.int p.2.1,.int p.2.2] 2=some (.int p.2.2):=rfl
theorem ix1(p:Str×(Int×Int))(L:UH):Al (ptU p) (.int 1) L=some (.int p.2.1,L):=by unfold ptU;rw[Ud,pt1];rfl
theorem ix2(p:Str×(Int×Int))(L:UH):Al (ptU p) (.int 2) L=some (.int p.2.2,L):=by unfold ptU;rw[Ud,pt2];rfl
theorem bx0(b:Int×Int×Int×Int)(L:UH):Al (bxU b) (.int 0) L=some (.int b.1,L):=rfl
theorem bx1(b:Int×Int×Int×Int)(L:UH):Al (bxU b) (.int 1) L=some (.int b.2.1,L):=rfl
theorem bx2(b:Int×Int×Int×Int)(L:UH):Al (bxU b) (.int 2) L=some (.int b.2.2.1,L):=rfl
theorem bx3(b:Int×Int×Int×Int)(L:UH):Al (bxU b) (.int 3) L=some (.int b.2.2.2,L):=rfl
theorem X7{fa fb fc:FE}{δ:UE}{L:UH}{a b c:Int}(ha:fa δ L=some (.int a,L))(hb:fb δ L=some (.int b,L))(hc:fc δ L=some (.int c,L)):Lq D8 D8 fa fb fc δ L=some (.bl (decide (a<=b)&&decide (b<=c)),L):=by
 unfold Lq
 simp only[ha,hb,hc,aA,Aez]
 cases decide (a<=b) <;> rfl
theorem Aal(p:Str×(Int×Int))(b:Int×Int×Int×Int)(L:UH):Md [ptU p,bxU b] L=some (.bl (inB b p),L):=by
 have c1:Lq D8 D8 (f2 Al (Af 1) (fC (.int 0))) (f2 Al (Af 0) (fC (.int 1))) (f2 Al (Af 1) (fC (.int 2))) [some (ptU p),some (bxU b)] L=some (.bl (decide (b.1<=p.2.1)&&decide (p.2.1<=b.2.2.1)),L):=X7 (by simp only[f2_eq,fVar_eq,fC_eq,aK,aJ,aQ,aD,aA,bx0]) (by simp only[f2_eq,fVar_eq,fC_eq,aK,aJ,aQ,aD,aA,ix1]) (by simp only[f2_eq,fVar_eq,fC_eq,aK,aJ,aQ,aD,aA,bx2])
 have c2:Lq D8 D8 (f2 Al (Af 1) (fC (.int 1))) (f2 Al (Af 0) (fC (.int 2))) (f2 Al (Af 1) (fC (.int 3))) [some (ptU p),some (bxU b)] L=some (.bl (decide (b.2.1<=p.2.2)&&decide (p.2.2<=b.2.2.2)),L):=X7 (by simp only[f2_eq,fVar_eq,fC_eq,aK,aJ,aQ,aD,aA,bx1]) (by simp only[f2_eq,fVar_eq,fC_eq,aK,aJ,aQ,aD,aA,ix2]) (by simp only[f2_eq,fVar_eq,fC_eq,aK,aJ,aQ,aD,aA,bx3])
 unfold Md fnU Uy inB
 simp only[aL,aM,if_true,aP,bL,cQ,bS,aX,fRet_eq,fAndV_eq,c1,c2,aD,aA]
 cases decide (b.1<=p.2.1) <;> cases decide (p.2.1<=b.2.2.1) <;> cases decide (b.2.1<=p.2.2) <;> cases decide (p.2.2<=b.2.2.2) <;> rfl
theorem Wm{ps:List (Str×(Int×Int))}(hl:ps.length<=1000)(b:Int×Int×Int×Int)(L:UH):∃ (r:Nat) (L':UH),Ip [.tup (ps.map ptU),bxU b] L=some (.ref r,L')/\L'[r]? = some (.lst ((ps.filter (inB b)).map ptU))/\Gw L L':=by
 obtain ⟨x,e⟩:=Ea (ix:=[none,some 1]) (fi:=Cu (Af 0)) (it:=.seq (ps.map ptU)) (g:=gN 0) (tt:=some Hw) (fe:=Li) (δ:=[some (.tup (ps.map ptU)),some (bxU b)]) (L:=L) (L0:=L)
  ps ptU (inB b) ptU (fun δ=>∃ a,δ = [a,some (bxU b)]) (by simp[Pb]) (by simp[IU.size]) (by omega) ⟨none,rfl⟩
  (fun k x=>rfl)
  (fun p δ x _ ⟨y,hδ⟩=>by
   subst hδ
   refine ⟨[some (ptU p),some (bxU b)],rfl,⟨_,rfl⟩,[],?_,fun _=>⟨[],?_⟩⟩
   ·unfold Ig Hw
    simp only[fTru_eq,fOwn_eq,fCons_eq,fNil_eq,fVar_eq,aK,aJ,aQ,aD,aA,aL,aM,if_true,Aal,truU_bl,aX]
   ·rw[aX,aX];rfl)
 refine ⟨(L++x).length,L++x++[HU.lst ((ps.filter (inB b)).map ptU)],?_,by simp,⟨x++[HU.lst ((ps.filter (inB b)).map ptU)],by rw[cA]⟩⟩
 unfold Ip fnU Pt
 simp only[aL,aM,if_true,aP,bL,cQ,bS,aX,fRet_eq,e,aD,aA]
theorem X2{ps:List (Str×(Int×Int))}(hl:ps.length<=1000)(bs:List (Int×Int×Int×Int))(hb:bs.length<=1000)(L:UH):∃ L',Kh [.tup (ps.map ptU),.tup (bs.map bxU)] L=some (.tup ((bs.map fun b=>((cntB ps b:Nat):Int)).map U.int),L')/\Gw L L':=by
 obtain ⟨x,e⟩:=Ea (ix:=[none,some 0]) (fi:=Cu (Af 1)) (it:=.seq (bs.map bxU)) (g:=gN 0) (tt:=none) (fe:=Js) (δ:=[some (.tup (ps.map ptU)),some (.tup (bs.map bxU))]) (L:=L) (L0:=L)
  bs bxU (fun _=>true) (fun b=>.int ((cntB ps b:Nat):Int)) (fun δ=>∃ a,δ = [a,some (.tup (ps.map ptU))]) (by simp[Pb]) (by simp[IU.size]) (by omega) ⟨none,rfl⟩
  (fun k x=>rfl)
  (fun b δ x _ ⟨y,hδ⟩=>by
   subst hδ
   obtain ⟨r,L',e1,hr,w,hw⟩:=Wm hl b (L++x)
   refine ⟨[some (bxU b),some (.tup (ps.map ptU))],rfl,⟨_,rfl⟩,[],by simp[Ig],fun _=>⟨w,?_⟩⟩
   have hlen:=Kr hr
   rw[bF] at hlen
   unfold Js
   rw[aX,<- hw]
   simp only[fCall_eq,fOwn_eq,fCons_eq,fNil_eq,fVar_eq,aK,aJ,aQ,aD,aA,aL,aM,if_true,e1,hlen,cntB])
 have hff:jJ (fun _=>true) bs=bs:=fO.mpr (fun _ _=>rfl)
 have hm:bs.map (fun b=>U.int ((cntB ps b:Nat):Int))=(bs.map fun b=>((cntB ps b:Nat):Int)).map U.int:=by simp
 rw[hff,hm] at e
 generalize (bs.map fun b=>((cntB ps b:Nat):Int))=cs at e
 have q2:A7 (L++x++[HU.lst (cs.map U.int)]) (L++x).length=some (cs.map U.int):=A9 (by simp)
 refine ⟨L++x++[HU.lst (cs.map U.int)],?_,⟨x++[HU.lst (cs.map U.int)],by rw[cA]⟩⟩
 unfold Kh fnU Qq
 simp only[aL,aM,if_true,aP,bL,cQ,bS,aX]
 rw[fRet_eq,fCall_eq,fCons_eq,e]
 simp only[aA,fNil_eq,aD,semTuple,q2]
theorem Kx{fe:FE}{v:U}{i:Nat}{δ:UE}{L L':UH}(e:fe δ L=some (v,L')):(Bh fe (gN i)) δ L=some (.nx (δ.set i (some v)),L'):=by
 rw[Dj,e];rfl
theorem Ao3{f:FN}{i:Nat}{u v:U}{δ:UE}{L L':UH}(h:Af i δ L=some (u,L))(e:f [u] L=some (v,L')):(Bf 1 f (Ac (Af i) Ai)) δ L=some (v,L'):=by
 rw[fOwn_eq,fCons_eq,h]
 simp only[aA,fNil_eq,aD,aL,aM,if_true,e]
theorem Ag6{f:FN}{i j:Nat}{u w v:U}{δ:UE}{L L':UH}(h:Af i δ L=some (u,L))(h2:Af j δ L=some (w,L))(e:f [u,w] L=some (v,L')):(Bf 2 f (Ac (Af i) (Ac (Af j) Ai))) δ L=some (v,L'):=by
 rw[fOwn_eq,fCons_eq,h,aA,fCons_eq,h2]
 simp only[aA,fNil_eq,aD,aL,aM,if_true,e]
theorem Nq{f:FN}{i:Nat}{c:Int}{u v:U}{δ:UE}{L L':UH}(h:Af i δ L=some (u,L))(e:f [u,.int c] L=some (v,L')):(Bf 2 f (Ac (Af i) (Ac (fC (.int c)) Ai))) δ L=some (v,L'):=by
 rw[fOwn_eq,fCons_eq,h]
 simp only[aA,fCons_eq,fC_eq,fNil_eq,aD,aL,aM,if_true,e]
structure Fr(P:Nat->Prop)(L L':UH):Prop where
 le:L.length<=L'.length
 at_:∀ i,i < L.length->¬ P i->L'[i]? = L[i]?
theorem Fr.trans{P:Nat->Prop}{L M N:UH}(a:Fr P L M)(b:Fr P M N):Fr P L N:=⟨cC a.le b.le,fun i h1 h2=>by rw[b.at_ i (aU h1 a.le) h2,a.at_ i h1 h2]⟩
theorem Ex.fr{P:Nat->Prop}{d:Nat}{L L':UH}(x:Ex d L L')(h:P d):Fr P L L':=⟨x.le,fun i h1 h2=>x.at_ i h1 (fun q=>h2 (by rw[q];exact h))⟩
theorem Gw.fr{L L':UH}(g:Gw L L')(P:Nat->Prop):Fr P L L':=by
 obtain ⟨x,rfl⟩:=g
 exact ⟨by simp,fun i h1 _=>by rw[bJ h1]⟩
theorem Fr.put{P:Nat->Prop}(L:UH){k:Nat}(h:P k)(o:HU):Fr P L (L.set k o):=⟨by simp,fun i _ h2=>by rw[bA (fun q=>h2 (by rw[<- q];exact h))]⟩
theorem Fr.get{P:Nat->Prop}{L L':UH}{i:Nat}{o:HU}(f:Fr P L L')(e:L[i]? = some o)(h:¬ P i):L'[i]? = some o:=by rw[f.at_ i (aR.mp e).1 h];exact e
noncomputable def TP(d p t:Nat)(i:Nat):Prop:=i=d\/i=p\/i=t
theorem Jh{L:UH}{k p:Nat}{m:List NP}(T:Kept L k p m):Ar [.ref k] L=some (.tup (m.map ptU),L):=by
 have f1:=T.fld (δ:=[some (.ref k)]) (fe:=Af 0) rfl
 unfold Ar fnU Fd
 simp only[aL,aM,if_true,aP,bL,cQ,bS,aX]
 rw[fRet_eq]
 unfold Y5
 rw[f1]
 simp only[aA,Ii T.pt,aD,vals_kG]
theorem Lf{L:UH}{k p:Nat}{m:List NP}(T:Kept L k p m){δ:UE}{i:Nat}(h:Af i δ L=some (.ref k,L)):(Cd "KeptPoints" "points_now" 1 Ar (Af i) Ai) δ L=some (.tup (m.map ptU),L):=by
 have no:=Qh (s := "points_now") p (by decide +kernel)
 have e:=Jh T
 unfold Cd
 rw[h]
 simp only[aA,Gb T.ob,no,if_true,fNil_eq,aM,e]
theorem V8{L:UH}{k p:Nat}{m:List NP}(T:Kept L k p m)(hl:m.length < 1000):∃ L',B3 [.ref k] L=some (.int (pairs (m.map (·.2))),L')/\Gw L L':=by
 obtain ⟨L1,e1,g1⟩:=Af2 m L (by omega)
 have e1':Ef [.tup (m.map ptU)] L=some (.int (pairs (m.map (·.2))),L1):=e1
 refine ⟨L1,?_,g1⟩
 unfold B3 fnU Fv
 simp only[aL,aM,if_true,aP,bL,cQ,bS,aX]
 rw[fRet_eq,fOwn_eq,fCons_eq,Lf T rfl]
 simp only[aA,fNil_eq,aD,aL,aM,if_true,e1']
theorem Aba{L:UH}{k p:Nat}{m:List NP}(T:Kept L k p m)(hl:m.length < 1000)(b:Int×Int×Int×Int):∃ L',Cw [.ref k,bxU b] L=some (.int (cntB m b:Nat),L')/\Gw L L':=by
 obtain ⟨L1,e1,g1⟩:=X2 (ps:=m) (by omega) [b] (by simp) L
 refine ⟨L1,?_,g1⟩
 have ht:(G4 (Ac (Af 1) Ai)) [some (.ref k),some (bxU b)] L=some (.tup ([b].map bxU),L):=rfl
 unfold Cw fnU G2
 simp only[aL,aM,if_true,aP,bL,cQ,bS,aX]
 rw[fRet_eq,f2_eq,fOwn_eq,fCons_eq,Lf T rfl,aA,fCons_eq,ht]
 simp only[aA,fNil_eq,aD,aL,aM,if_true,e1]
 rfl
theorem W6{L:UH}{k p:Nat}{m:List NP}{fN:FN}{s:Str}{v:Int}{x y:Int}{fo fa fb:FE}{δ:UE}(T:Kept L k p m)(hno:(s == "points")=false)(ho:fo δ L=some (.ref k,L))(ha:fa δ L=some (.int x,L))(hb:fb δ L=some (.int y,L))(hN:∃ L',fN [.ref k,.int x,.int y] L=some (.int v,L')/\Gw L L') :
  ∃ L',(Cd "KeptPoints" s 3 fN fo (Ac fa (Ac fb Ai))) δ L=some (.int v,L')/\Gw L L':=by
 obtain ⟨L1,e,g⟩:=hN
 have no:=Qh (s:=s) p hno
 refine ⟨L1,?_,g⟩
 unfold Cd
 rw[ho]
 simp only[aA,Gb T.ob,no,if_true,fNil_eq,fCons_eq,ha,hb,aD,aL,aM,e]
noncomputable def ind(b:Bool):Int:=if b then 1 else 0
theorem Acy{β:Type}(f:β->Bool):∀ l:List β,((l.filter f).length:Int)=(l.map fun x=>ind (f x)).sum
 | []=>rfl
 | x::l=>by
  have ih:=Acy f l
  rw[eV,aP,lW,<- ih]
  cases h:f x <;> simp[ind] <;> omega
theorem Yj{β:Type}(f g:β->Int):∀ l:List β,(l.map fun a=>f a+g a).sum=(l.map f).sum+(l.map g).sum
 | []=>rfl
 | a::l=>by simp only[aP,lW,Yj f g l];omega
theorem Tt{β:Type}:∀ l:List β,(l.map fun _=>(0:Int)).sum=0
 | []=>rfl
 | a::l=>by simp only[aP,lW,Tt l];omega
theorem Uz{β γ:Type}(f:β->γ->Int)(m:List γ):∀ l:List β,(l.map fun i=>(m.map fun j=>f i j).sum).sum=(m.map fun j=>(l.map fun i=>f i j).sum).sum
 | []=>by simp only[bL,List.sum_nil,Tt]
 | i::l=>by
  rw[aP,lW,Uz f m l,<- Yj]
  rfl
theorem Aar(qs:List (Int×Int)):(qs.map fun q=>((qs.filter fun o=>Ci q o).length:Int)).sum=pairs qs:=by
 unfold pairs cnt
 simp only[Acy]
 exact Uz (fun q o=>ind (Ci q o)) qs qs
theorem Ajh{L:UH}{a b:Nat}{xs ys:List U}(h1:L[a]? = some (.lst xs))(h2:L[b]? = some (.lst ys))(hs:xs.length+ys.length<=1000):Bs (.ref a) (.ref b) L=some (.ref L.length,L++[.lst (xs++ys)]):=by
 unfold Bs
 simp only[Et h1,Et h2,aA]
 rw[if_pos (Bq (by omega))]
theorem Ae4(us:List U)(c:Nat):Adr us none (some (c:Int))=us.take c:=by
 unfold Adr
 rw[HT.Agf,HT.Ajv,List.drop_zero,Nat.sub_zero]
 by_cases h:c<=us.length
 ·rw[pS h]
 ·rw[pG (by omega),fT (bB _),fT (by omega)]
theorem Al5(a b:Str):(a++b).length=a.length+b.length:=by
 show (a.cps++b.cps).size=a.cps.size+b.cps.size
 rw[Array.size_append]
theorem Tv{δ:UE}{L:UH}:∀ (fs:List FE) (out:Str),(∀ f∈fs,∃ x:Str,f δ L=some (.str x,L)/\x.length<=1000)->out.length+1000 * fs.length<=16777216->∃ s,goJ out fs δ L=some (.str s,L)
 | [],out,_,_=>⟨out,rfl⟩
 | f::r,out,h,hl=>by
  obtain ⟨x,e,hx⟩:=h f cD
  rw[aL] at hl
  have hb:(out++x).length+1000 * r.length<=16777216:=by rw[Al5];omega
  obtain ⟨s,hs⟩:=Tv r (out++x) (fun g hg=>h g (bI _ hg)) hb
  refine ⟨s,?_⟩
  unfold goJ
  simp only[e,aA]
  rw[if_pos (Bq (by omega)),hs]
theorem Aem{δ:UE}{L:UH}(fs:List FE)(h:∀ f∈fs,∃ x:Str,f δ L=some (.str x,L)/\x.length<=1000)(hl:fs.length<=100):∃ s,Ly fs δ L=some (.str s,L):=Tv fs kB h (by show 0+_<=_;omega)
theorem Agy{δ:UE}{L:UH}(x:Str)(h:x.length<=1000):∃ y:Str,fC (.str x) δ L=some (.str y,L)/\y.length<=1000:=⟨x,rfl,h⟩
theorem Aky{δ:UE}{L:UH}{a b c:FE}(ha:∃ x:Str,a δ L=some (.str x,L)/\x.length<=1000)(hb:∃ x:Str,b δ L=some (.str x,L)/\x.length<=1000)(hc:∃ x:Str,c δ L=some (.str x,L)/\x.length<=1000):∃ s,Ly [a,b,c] δ L=some (.str s,L):=
 Aem _ (fun f hf=>by
  rcases cB.mp hf with rfl | hf
  ·exact ha
  ·rcases cB.mp hf with rfl | hf
   ·exact hb
   ·rcases cB.mp hf with rfl | hf
    ·exact hc
    ·cases hf) (by show 3<=100;decide)
theorem Xq{C:Str}{F:FN}{g:FA}{δ:UE}{L L1:UH}{u:U}{fs:List (Str×U)}(hg:g δ L=some ([u],L1))(hF:F [.ref L1.length,u] (L1++[.exc C true []])=some (.non,L1++[.exc C true fs])) :
  Jq C 2 F g δ L=some (.ref L1.length,L1++[.exc C true fs]):=by
 unfold Jq
 simp only[hg,aA]
 rw[if_pos ⟨rfl,by simp⟩,hF]
 rfl
theorem Adk{C:Str}{Cs:List Str}{F:FN}{g:FA}{δ:UE}{L L1:UH}{u:U}{fs:List (Str×U)}(hC:C∈Cs)(hg:g δ L=some ([u],L1))(hF:F [.ref L1.length,u] (L1++[.exc C true []])=some (.non,L1++[.exc C true fs])) :
  Oz Cs (Jq C 2 F g) δ L=some (L1.length,δ,L1++[.exc C false fs]):=by
 have h1:(L1++[HU.exc C true fs])[L1.length]? = some (.exc C true fs):=by simp
 unfold Oz
 rw[Xq hg hF]
 simp only[aA,h1]
 rw[if_pos hC]
 simp
theorem V1{N m n:Nat}{x:XS}{us:List U}{L L':UH}{δ':UE}(hl:us.length=m)(h:x (us.map some++aT (N - us.length) none) L=some (n,δ',L')):fnX N m x us L=some (n,L'):=by
 unfold fnX
 rw[if_pos hl,h]
 rfl
theorem Uk{c:FT}{x y:XS}{δ:UE}{L L1:UH}(h:c δ L=some (true,L1)):xIf c x y δ L=x δ L1:=by unfold xIf;rw[h];rfl
theorem Ph{c:FT}{x y:XS}{δ:UE}{L L1:UH}(h:c δ L=some (false,L1)):xIf c x y δ L=y δ L1:=by unfold xIf;rw[h];rfl
theorem Q9{f:FS}{x y:XS}{δ:UE}{L:UH}{r:Nat×UE×UH}(h:x δ L=some r):Vs f x y δ L=some r:=by unfold Vs;rw[h]
theorem Aku{x:XE}{δ:UE}{L L':UH}{n:Nat}(h:x δ L=some (n,L')):xOf x δ L=some (n,δ,L'):=by unfold xOf;rw[h];rfl
theorem Akw{b suite:FS}{x:XS}{Cs:List Str}{i n:Nat}{δ δ1 δ2:UE}{L L1 L2:UH}{C:Str}{fr:Bool}{fs:List (Str×U)}(h:x δ L=some (n,δ1,L1))(hL:L1[n]? = some (.exc C fr fs))(hC:C∈Cs)
  (hs:suite (δ1.set i (some (.ref n))) L1=some (.nx δ2,L2)):Xy b x Cs i suite δ L=some (.nx (δ2.set i none),L2):=by
 unfold Xy
 simp only[h,hL]
 rw[if_pos hC,hs]
 rfl
theorem Lx{Cs:List Str}{L:UH}{n:Nat}{C:Str}{fr:Bool}{fs:List (Str×U)}(hL:L[n]? = some (.exc C fr fs))(hC:C∈Cs):Qf Cs (.ref n) L=some (n,C,fs):=by
 unfold Qf
 simp only[hL]
 rw[if_pos hC]
abbrev CS:List Str:=["NoPlace","NoAsk","NoPoints","NoCounts","NoName"]
theorem Tf:("NoName" : Str)∈CS:=by decide +kernel
noncomputable def qq:Str := "qqqqqqqq"
theorem Akz:∀ x∈qq::spare3,(reprText x).length<=1000:=by decide +kernel
theorem Uc{x:Str}(hx:(reprText x).length<=1000)(M:UH):Bt [.ref M.length,.str x] (M++[.exc "NoName" true []])=some (.non,M++[.exc "NoName" true [("word",.str x)]]):=by
 have h1:(M++[HU.exc "NoName" true []])[M.length]? = some (.exc "NoName" true []):=by simp
 generalize hN:M++[HU.exc "NoName" true []]=N at h1
 obtain ⟨s,hs⟩:=Aky (δ:=[some (.ref M.length),some (.str x)]) (L:=N) (Agy "the name " (by decide)) (b:=Um (Af 1)) ⟨reprText x,by
  unfold Um
  simp only[fVar_eq,aK,aJ,aQ,aD,aA]
  rw[if_pos (Bq (by omega))],hx⟩ (Agy " is refused here" (by decide))
 have s1:(Fz (Ob CS (Ac (Af 0) (Ac (Ly [(fC (.str "the name ")),(Um (Af 1)),(fC (.str " is refused here"))]) Ai)))) [some (.ref M.length),some (.str x)] N=some (.nx [some (.ref M.length),some (.str x)],N):=by
  have h2:(Ob CS (Ac (Af 0) (Ac (Ly [(fC (.str "the name ")),(Um (Af 1)),(fC (.str " is refused here"))]) Ai))) [some (.ref M.length),some (.str x)] N=some (.non,N):=by
   unfold Ob
   simp only[fCons_eq,fNil_eq,hs,fVar_eq,aJ,aQ,aD,aA,h1]
   rw[if_pos Tf]
  rw[Rr,h2];rfl
 have s2:(Acz CS "word" (Af 0) (Af 1)) [some (.ref M.length),some (.str x)] N=some (.nx [some (.ref M.length),some (.str x)],N.set M.length (.exc "NoName" true [("word",.str x)])):=by
  unfold Acz
  simp only[fVar_eq,aK,aJ,aQ,aD,aA,h1]
  rw[if_pos Tf]
 unfold Bt fnU Iq
 simp only[aL,aM,if_true,aP,bL,cQ,bS,aX]
 rw[Au s1,s2,<- hN]
 simp
abbrev exN(x:Str):HU:=.exc "NoName" false [("word",.str x)]
theorem X8{x:Str}(hx:(reprText x).length<=1000){δ:UE}{L:UH}(h:Af 1 δ L=some (.str x,L)):Oz CS (Jq "NoName" 2 Bt (Ac (Af 1) Ai)) δ L=some (L.length,δ,L++[exN x]):=
 Adk Tf (by rw[fCons_eq,h];rfl) (Uc hx L)
theorem Ami{L:UH}{k p:Nat}{m:List NP}{nm:Str}{x y:U}(T:Kept L k p m)(h:Em m nm=true)(hx:(reprText nm).length<=1000):C4 [.ref k,.str nm,x,y] L=some (L.length,L++[exN nm]):=by
 have f1:=T.fld (δ:=[some (.ref k),some (.str nm),some x,some y]) (fe:=Af 0) rfl
 have t1:(Ax (f2 Gk (Af 1) (Kp "KeptPoints" "points" (Af 0)))) [some (.ref k),some (.str nm),some x,some y] L=some (true,L):=by
  rw[fTest_eq,f2_eq]
  simp only[fVar_eq,aJ,aK,aQ,aD,aA,f1,Vm T.pt,h]
 exact V1 rfl (Q9 ((Uk t1).trans (X8 hx rfl)))
theorem Acr{L:UH}{k p:Nat}{m:List NP}{nm:Str}(T:Kept L k p m)(h:Em m nm=false)(hx:(reprText nm).length<=1000):Cq [.ref k,.str nm] L=some (L.length,L++[exN nm]):=by
 have f1:=T.fld (δ:=[some (.ref k),some (.str nm)]) (fe:=Af 0) rfl
 have t1:(Ax (f2 C9 (Af 1) (Kp "KeptPoints" "points" (Af 0)))) [some (.ref k),some (.str nm)] L=some (true,L):=by
  rw[fTest_eq,f2_eq]
  simp only[fVar_eq,aJ,aK,aQ,aD,aA,f1,Mi T.pt,h,nJ]
 exact V1 rfl ((Uk t1).trans (X8 hx rfl))
theorem Ld{L L':UH}{k p n r:Nat}{m:List NP}{s:Str}{F:XN}{fo:FE}{g:FA}{us:List U}{δ:UE}(T:Kept L k p m)(hno:(s == "points")=false)(ho:fo δ L=some (.ref k,L))(hg:g δ L=some (us,L))(hl:us.length+1=n)(e:F (.ref k::us) L=some (r,L')):xOf (Jj "KeptPoints" s n F fo g) δ L=some (r,δ,L'):=by
 have no:=Qh (s:=s) p hno
 refine Aku ?_
 unfold Jj
 rw[ho]
 simp only[aA,Gb T.ob,no,if_true,hg,hl,e]
theorem Alc{L:UH}{k p:Nat}{m:List NP}{nm:Str}{x y:U}(T:Kept L k p m)(h:Em m nm=false)(hx:(reprText nm).length<=1000):C1 [.ref k,.str nm,x,y] L=some (L.length,L++[exN nm]):=
 V1 rfl (Q9 (Ld (us:=[.str nm]) T (by decide +kernel) rfl rfl rfl (Acr T h hx)))
theorem Aji{L:UH}{k p:Nat}{m:List NP}{nm:Str}(T:Kept L k p m)(h:Em m nm=false)(hx:(reprText nm).length<=1000):C3 [.ref k,.str nm] L=some (L.length,L++[exN nm]):=
 V1 rfl (Q9 (Ld (us:=[.str nm]) T (by decide +kernel) rfl rfl rfl (Acr T h hx)))
theorem V2{N m:Nat}{x:XS}{us:List U}{L:UH}(hl:us.length=m)(h:x (us.map some++aT (N - us.length) none) L=none):fnX N m x us L=none:=by
 unfold fnX
 rw[if_pos hl,h]
 rfl
theorem Vg{x:XS}{δ:UE}{L:UH}(h:x δ L=none):Vs Km x xNo δ L=none:=by unfold Vs;rw[h];rfl
theorem Ame{x:XE}{δ:UE}{L:UH}(h:x δ L=none):xOf x δ L=none:=by unfold xOf;rw[h];rfl
theorem Al8{b suite:FS}{x:XS}{Cs:List Str}{i:Nat}{δ:UE}{L:UH}(h:x δ L=none):Xy b x Cs i suite δ L=b δ L:=by unfold Xy;rw[h]
theorem Aam{Cs:List Str}{D C:Str}{f:FE}{δ:UE}{L:UH}{n:Nat}{fr:Bool}{fs:List (Str×U)}(h:f δ L=some (.ref n,L))(hL:L[n]? = some (.exc C fr fs))(hC:C∈Cs):R5 Cs D f δ L=some (.bl (isX C D),L):=by
 unfold R5
 simp only[h,aA,Lx hL hC,aD]
theorem Ajp{Cs Dn:List Str}{C:Str}{f:FE}{δ:UE}{L:UH}{n:Nat}{fr:Bool}{fs:List (Str×U)}(h:f δ L=some (.ref n,L))(hL:L[n]? = some (.exc C fr fs))(hC:C∈Cs):Adb Cs Dn f δ L=some (.bl (Dn.any (isX C)),L):=by
 unfold Adb
 simp only[h,aA,Lx hL hC,aD]
theorem Aqj{fe:FE}{v:U}{δ:UE}{L L':UH}(e:fe δ L=some (v,L')):(Cg fe) δ L=some (.rt v,L'):=by rw[fRet_eq,e];rfl
theorem Ama{δ:UE}{L:UH}{t i:Nat}{m:List NP}(h:Af i δ L=some (.ref t,L))(ht:L[t]? = some (.dic (kG (fun p=>prU p.2) m))):(Ax (f2 M7 (Af i) fDNew)) δ L=some (!m.isEmpty,L++[.dic []]):=by
 have g1:Gw L (L++[.dic []]):=Gw.new _ _
 have h2:E5 (L++[HU.dic []]) L.length=some []:=Ii (by simp)
 have he:(kG (fun p=>prU p.2) m).isEmpty=m.isEmpty:=by cases m <;> rfl
 rw[fTest_eq,f2_eq,h]
 simp only[aA,fDNew,M7,Ii (g1.get ht),h2,List.isEmpty_nil,if_true,he]
theorem Ak8{d:Nat}{L L':UH}{w k j:Int}{i:Nat}{δ:UE}(h:Af i δ L=some (.ref d,L))(e:Ao [.ref d,.int k] L=some (.int w,L')):(Ax (f2 Bm (Bf 2 Ao (Ac (Af i) (Ac (fC (.int k)) Ai))) (fC (.int j)))) δ L=some (w == j,L'):=by
 rw[fTest_eq,f2_eq,Nq h e]
 simp only[aA,fC_eq,O6]
inductive Plc(v:Option (U×UH))(L:UH)(d:Nat)(B:Int):Prop
 | mk (q:Int×Int) (L':UH) (e:v=some (prU q,L')) (D:Seed L' d B) (x:Ex d L L')
noncomputable def pl1:FS:=(Dh (Sy (Ax (f2 M7 (Af 1) fDNew)) (Ax (f2 Bm (Bf 2 Ao (Ac (Af 0) (Ac (fC (.int 4)) Ai))) (fC (.int 0))))) (Cg (f2 Al (Le (Af 1)) (Bf 2 Ao (Ac (Af 0) (Ac (B0 Mg (Ac (Af 1) Ai)) Ai))))) Cv)
noncomputable def pl2:FS:=(Be (Bh (Bf 2 Ao (Ac (Af 0) (Ac (fC (.int 3)) Ai))) (gN 2)) (Be (Bh (Bf 2 Dx (Ac (Af 0) (Ac (Af 2) Ai))) (gN 3)) (Cg (G4 (Ac (Af 3) (Ac (Bf 2 Dx (Ac (Af 0) (Ac (Af 2) Ai))) Ai))))))
theorem An6{L:UH}{d t:Nat}{B:Int}(D:Seed L d B)(hB:B<=900000):∃ (q:Int×Int) (L':UH),pl2 [some (.ref d),some (.ref t),none,none] L=some (.rt (prU q),L')/\Seed L' d (B+9)/\Ex d L L':=by
 obtain ⟨w,L1,e1,w0,w1,D1,y1⟩:=C7 (many:=3) D (by omega) (by decide) (by decide)
 obtain ⟨x,L2,e2,_,_,D2,y2⟩:=Q7 (way:=w) D1 (by omega) (by omega)
 obtain ⟨y,L3,e3,_,_,D3,y3⟩:=Q7 (way:=w) D2 (by omega) (by omega)
 refine ⟨(x,y),L3,?_,D3.mono (by omega),(y1.trans y2).trans y3⟩
 have s1:=Kx (i:=2) (Nq (i:=0) (δ:=[some (.ref d),some (.ref t),none,none]) rfl e1)
 simp only[cH,bZ] at s1
 have s2:=Kx (i:=3) (Ag6 (i:=0) (j:=2) (δ:=[some (.ref d),some (.ref t),some (.int w),none]) rfl rfl e2)
 simp only[cH,bZ] at s2
 have h3:=Ag6 (i:=0) (j:=2) (δ:=[some (.ref d),some (.ref t),some (.int w),some (.int x)]) rfl rfl e3
 have v3:Af 3 [some (U.ref d),some (.ref t),some (.int w),some (.int x)] L2=some (.int x,L2):=rfl
 unfold pl2
 rw[Au s1,Au s2]
 refine Aqj ?_
 rw[Mf,fCons_eq,v3,aA,fCons_eq,h3]
 simp only[aA,fNil_eq,aD]
 rw[if_pos (Bq (by show 2<=16777216;decide))]
 rfl
theorem Ahz{L:UH}{d t:Nat}{B:Int}{m:List NP}(D:Seed L d B)(hB:B<=100000)(ht:L[t]? = some (.dic (kG (fun p=>prU p.2) m)))(td:t≠d)(lm:m.length < 1000):Plc (Jy [.ref d,.ref t] L) L d (B+10):=by
 suffices h:∃ (q:Int×Int) (L':UH),(Be pl1 pl2) [some (.ref d),some (.ref t),none,none] L=some (.rt (prU q),L')/\Seed L' d (B+10)/\Ex d L L' from by
  obtain ⟨q,L',e,D',x'⟩:=h
  refine ⟨q,L',?_,D',x'⟩
  have sp:Ua=Be pl1 pl2:=rfl
  unfold Jy fnU
  simp only[aL,aM,if_true,aP,bL,aT,dZ,dS]
  rw[sp,e]
  rfl
 have t1:=Ama (i:=1) (δ:=[some (.ref d),some (.ref t),none,none]) rfl ht
 have g1:Gw L (L++[.dic []]):=Gw.new _ _
 have D1:=D.gw g1
 have ht1:=g1.get ht
 generalize L++[HU.dic []]=M at t1 g1 D1 ht1
 have no:∀ (N:UH) (B':Int),B'<=B+1->(Sy (Ax (f2 M7 (Af 1) fDNew)) (Ax (f2 Bm (Bf 2 Ao (Ac (Af 0) (Ac (fC (.int 4)) Ai))) (fC (.int 0))))) [some (.ref d),some (.ref t),none,none] L=some (false,N)->Seed N d B'->Ex d L N->∃ (q:Int×Int) (L':UH),(Be pl1 pl2) [some (.ref d),some (.ref t),none,none] L=some (.rt (prU q),L')/\Seed L' d (B+10)/\Ex d L L':=fun N B' hb ha DN xN=>by
  obtain ⟨q,L',e,D',x'⟩:=An6 (t:=t) DN (by omega)
  refine ⟨q,L',?_,D'.mono (by omega),xN.trans x'⟩
  have s1:pl1 [some (.ref d),some (.ref t),none,none] L=some (.nx [some (.ref d),some (.ref t),none,none],N):=by
   unfold pl1
   rw[Cr,ha]
   simp only[aA,bT,if_false,Eg]
  rw[Au s1,e]
 cases hm:m.isEmpty with
 | true=>
  rw[hm] at t1
  exact no M B (by omega) (by rw[fAnd_eq,t1];rfl) D1 (g1.ex d)
 | false=>
  rw[hm] at t1
  obtain ⟨w,M2,e2,w0,w1,D2,y2⟩:=C7 (many:=4) D1 (by omega) (by decide) (by decide)
  have t2:=Ak8 (i:=0) (j:=0) (δ:=[some (.ref d),some (.ref t),none,none]) rfl e2
  have x2:=(g1.ex d).trans y2
  cases hw:(w == 0) with
  | false=>
   rw[hw] at t2
   exact no M2 (B+1) (by omega) (by rw[fAnd_eq,t1];simp only[aA,nJ,if_true,t2]) D2 x2
  | true=>
   rw[hw] at t2
   have ht2:=y2.get ht1 td
   have hpos:0 < m.length:=by cases m with
    | nil=>cases hm
    | cons=>simp
   have e3:(Le (Af 1)) [some (.ref d),some (.ref t),none,none] M2=some (.ref M2.length,M2++[.lst (m.map fun p=>prU p.2)]):=by
    unfold Le
    simp only[fVar_eq,aJ,aK,aQ,aD,aA,Ii ht2,vals_kG]
   have g3:Gw M2 (M2++[.lst (m.map fun p=>prU p.2)]):=Gw.new _ _
   have h3:(M2++[HU.lst (m.map fun p=>prU p.2)])[M2.length]? = some (.lst (m.map fun p=>prU p.2)):=by simp
   have D3:=D2.gw g3
   have ht3:=g3.get ht2
   have dl:=D2.lt
   generalize M2++[HU.lst (m.map fun p=>prU p.2)]=N at e3 g3 h3 D3 ht3
   have hlen:Mg [.ref t] N=some (.int (m.length:Nat),N):=by
    simp only[Mg,Ii ht3,aD,kG,bF]
   obtain ⟨i,N1,e4,i0,i1,D4,y4⟩:=C7 (many:=(m.length:Nat)) D3 (by omega) (by omega) (by omega)
   obtain ⟨j,rfl⟩:∃ j:Nat,i=(j:Int):=⟨i.toNat,by omega⟩
   have hjl:j < m.length:=by omega
   have hat:L2.atI (m.map fun p=>prU p.2) (j:Int)=some (prU (m[j]'hjl).2):=by
    rw[Ag1 (by omega) (by simp;omega),bV,fH,cZ hjl];rfl
   generalize (m[j]'hjl).2=q at hat
   have q3:=A9 (y4.get h3 (by omega))
   refine ⟨q,N1,?_,D4.mono (by omega),(x2.trans (g3.ex d)).trans y4⟩
   rw[fSeq_eq]
   unfold pl1
   rw[Cr,fAnd_eq,t1]
   simp only[aA,nJ,if_true,t2]
   rw[fRet_eq,f2_eq,e3]
   simp only[fOwn_eq,fCall_eq,fCons_eq,fNil_eq,fVar_eq,aJ,aK,aQ,aD,aA,hlen,aL,aM,if_true,e4,semIx_ref,q3,hat]
inductive Wd where
 | put | take | move
noncomputable def wdS:Wd->Str
 | .put => "put" | .take => "take" | .move => "move"
noncomputable def Lh:Wd->Bool
 | .put=>true | .take=>false | .move=>false
noncomputable def So:Wd->Bool
 | .put=>false | .take=>true | .move=>false
theorem Apl(w:Wd):eK (wdS w)=true:=by cases w <;> decide +kernel
theorem Ac1(w:Wd):Pl 6 (.str (wdS w)):=Apl w
theorem eq_put(w:Wd)(L:UH):Bm (.str (wdS w)) (.str "put") L=some (.bl (Lh w),L):=by
 have e:eqB (.str (wdS w)) (.str (wdS .put))=Lh w:=by cases w <;> decide +kernel
 have:=Nm L (Ac1 w) (Ac1 .put)
 rw[e] at this;exact this
theorem Acu(w:Wd)(L:UH):Bm (.str (wdS w)) (.str "take") L=some (.bl (So w),L):=by
 have e:eqB (.str (wdS w)) (.str (wdS .take))=So w:=by cases w <;> decide +kernel
 have:=Nm L (Ac1 w) (Ac1 .take)
 rw[e] at this;exact this
noncomputable def act(w:Wd)(m:List NP)(nm:Str)(q:Int×Int):List NP:=if So w=true then Qi m nm else Rb m nm q
theorem Kl{L:UH}{k p n:Nat}{m:List NP}{s:Str}{F:FN}{fo:FE}{g:FA}{us:List U}{δ:UE}{r:Option (U×UH)}(T:Kept L k p m)(hno:(s == "points")=false)(ho:fo δ L=some (.ref k,L))(hg:g δ L=some (us,L))(hl:us.length+1=n)(e:F (.ref k::us) L=r):(Cd "KeptPoints" s n F fo g) δ L=r:=by
 have no:=Qh (s:=s) p hno
 unfold Cd
 rw[ho]
 simp only[aA,Gb T.ob,no,if_true,hg,hl,e]
theorem Lp{L:UH}{k p n:Nat}{m:List NP}{s:Str}{F:XN}{fo:FE}{g:FA}{us:List U}{δ:UE}(T:Kept L k p m)(hno:(s == "points")=false)(ho:fo δ L=some (.ref k,L))(hg:g δ L=some (us,L))(hl:us.length+1=n)(e:F (.ref k::us) L=none):xOf (Jj "KeptPoints" s n F fo g) δ L=none:=by
 have no:=Qh (s:=s) p hno
 refine Ame ?_
 unfold Jj
 rw[ho]
 simp only[aA,Gb T.ob,no,if_true,hg,hl,e]
section
variable {L:UH}{k p:Nat}{m:List NP}{nm:Str}{x y:U}
theorem Ajf(T:Kept L k p m)(h:Em m nm=false):C4 [.ref k,.str nm,x,y] L=none:=by
 have f1:=T.fld (δ:=[some (.ref k),some (.str nm),some x,some y]) (fe:=Af 0) rfl
 have t1:(Ax (f2 Gk (Af 1) (Kp "KeptPoints" "points" (Af 0)))) [some (.ref k),some (.str nm),some x,some y] L=some (false,L):=by
  rw[fTest_eq,f2_eq]
  simp only[fVar_eq,aJ,aK,aQ,aD,aA,f1,Vm T.pt,h]
 exact V2 rfl (Vg ((Ph t1).trans rfl))
theorem Xu(T:Kept L k p m)(h:Em m nm=true):Cq [.ref k,.str nm] L=none:=by
 have f1:=T.fld (δ:=[some (.ref k),some (.str nm)]) (fe:=Af 0) rfl
 have t1:(Ax (f2 C9 (Af 1) (Kp "KeptPoints" "points" (Af 0)))) [some (.ref k),some (.str nm)] L=some (false,L):=by
  rw[fTest_eq,f2_eq]
  simp only[fVar_eq,aJ,aK,aQ,aD,aA,f1,Mi T.pt,h,hW]
 exact V2 rfl ((Ph t1).trans rfl)
theorem Ahm(T:Kept L k p m)(h:Em m nm=true):C1 [.ref k,.str nm,x,y] L=none:=
 V2 rfl (Vg (Lp (us:=[.str nm]) T (by decide +kernel) rfl rfl rfl (Xu T h)))
theorem Ahh(T:Kept L k p m)(h:Em m nm=true):C3 [.ref k,.str nm] L=none:=
 V2 rfl (Vg (Lp (us:=[.str nm]) T (by decide +kernel) rfl rfl rfl (Xu T h)))
end
inductive DoneR(v:Option (U×UH))(L:UH)(p:Nat)(w:Wd)(m:List NP)(nm:Str)(q:Int×Int):Prop
 | bad (h:Em m nm=Lh w) (e:v=some (.tup [.non,.ref L.length],L++[exN nm]))
 | good (h:Em m nm = !Lh w) (e:v=some (.tup [.non,.non],L.set p (.dic (kG ptU (act w m nm q)))))
theorem Akb{L:UH}{k p:Nat}{m:List NP}{nm:Str}{q:Int×Int}(T:Kept L k p m)(hx:(reprText nm).length<=1000)(hl:m.length < 1000)(w:Wd):DoneR (E2 [.ref k,.str (wdS w),.str nm,prU q] L) L p w m nm q:=by
 have sm2:∀ x y:U,Dk [x,y].length=true:=fun _ _=>Bq (by show 2<=16777216;decide)
 have s1:(Bh (fC .non) (gN 4)) [some (.ref k),some (.str (wdS w)),some (.str nm),some (prU q),none,none,none] L=some (.nx [some (.ref k),some (.str (wdS w)),some (.str nm),some (prU q),some .non,none,none],L):=rfl
 have s2:(Bh (fC .non) (gN 5)) [some (.ref k),some (.str (wdS w)),some (.str nm),some (prU q),some .non,none,none] L=some (.nx [some (.ref k),some (.str (wdS w)),some (.str nm),some (prU q),some .non,some .non,none],L):=rfl
 have fin:∀ {u v:U} {M:UH},(Xy Gs Iv CS 6 Pf) [some (.ref k),some (.str (wdS w)),some (.str nm),some (prU q),some .non,some .non,none] L=some (.nx [some (.ref k),some (.str (wdS w)),some (.str nm),some (prU q),some u,some v,none],M)->E2 [.ref k,.str (wdS w),.str nm,prU q] L=some (.tup [u,v],M):=fun {u v M} h=>by
  unfold E2 fnU X0
  simp only[aL,aM,if_true,aP,bL,aT,dZ,dS]
  rw[Au s1,Au s2,Au h,fRet_eq,Mf]
  simp only[fCons_eq,fNil_eq,fVar_eq,aJ,aK,aQ,aD,aA]
  rw[if_pos (sm2 _ _)]
  rfl
 have bad:Iv [some (.ref k),some (.str (wdS w)),some (.str nm),some (prU q),some .non,some .non,none] L=some (L.length,[some (.ref k),some (.str (wdS w)),some (.str nm),some (prU q),some .non,some .non,none],L++[exN nm])->Em m nm=Lh w->DoneR (E2 [.ref k,.str (wdS w),.str nm,prU q] L) L p w m nm q:=fun h hh=>by
  have hL:(L++[exN nm])[L.length]? = some (exN nm):=by simp
  exact .bad hh (fin (Akw (δ2:=[some (.ref k),some (.str (wdS w)),some (.str nm),some (prU q),some .non,some (.ref L.length),some (.ref L.length)]) h hL Tf rfl))
 have good:Iv [some (.ref k),some (.str (wdS w)),some (.str nm),some (prU q),some .non,some .non,none] L=none->Gs [some (.ref k),some (.str (wdS w)),some (.str nm),some (prU q),some .non,some .non,none] L=some (.nx [some (.ref k),some (.str (wdS w)),some (.str nm),some (prU q),some .non,some .non,none],L.set p (.dic (kG ptU (act w m nm q))))->Em m nm=(!Lh w)->DoneR (E2 [.ref k,.str (wdS w),.str nm,prU q] L) L p w m nm q:=fun h h2 hh=>.good hh (fin ((Al8 h).trans h2))
 have t1:(Ax (f2 Bm (Af 1) (fC (.str "put")))) [some (.ref k),some (.str (wdS w)),some (.str nm),some (prU q),some .non,some .non,none] L=some (Lh w,L):=by
  rw[fTest_eq,f2_eq]
  simp only[fVar_eq,fC_eq,aJ,aK,aQ,aD,aA,eq_put]
 have t2:(Ax (f2 Bm (Af 1) (fC (.str "take")))) [some (.ref k),some (.str (wdS w)),some (.str nm),some (prU q),some .non,some .non,none] L=some (So w,L):=by
  rw[fTest_eq,f2_eq]
  simp only[fVar_eq,fC_eq,aJ,aK,aQ,aD,aA,Acu]
 cases w with
 | put=>
  cases hh:Em m nm with
  | true=>exact bad ((Uk t1).trans (Ld (us:=[.str nm,.int q.1,.int q.2]) T (by decide +kernel) rfl rfl rfl (Ami T hh hx))) hh
  | false=>
   refine good ((Uk t1).trans (Lp (us:=[.str nm,.int q.1,.int q.2]) T (by decide +kernel) rfl rfl rfl (Ajf T hh))) ?_ hh
   have e:=Kx (i:=4) (Kl (s := "put_point") (n:=4) (F:=Cp) (fo:=Af 0) (g:=Ac (Af 2) (Ac (f2 Al (Af 3) (fC (.int 0))) (Ac (f2 Al (Af 3) (fC (.int 1))) Ai))) (us:=[.str nm,.int q.1,.int q.2]) (δ:=[some (.ref k),some (.str (wdS .put)),some (.str nm),some (prU q),some .non,some .non,none]) T (by decide +kernel) rfl rfl rfl (Akr T hh hl))
   unfold Gs
   rw[Cr,t1]
   exact e
 | take=>
  cases hh:Em m nm with
  | false=>exact bad (((Ph t1).trans (Uk t2)).trans (Ld (us:=[.str nm]) T (by decide +kernel) rfl rfl rfl (Aji T hh hx))) hh
  | true=>
   refine good (((Ph t1).trans (Uk t2)).trans (Lp (us:=[.str nm]) T (by decide +kernel) rfl rfl rfl (Ahh T hh))) ?_ hh
   have e:=Kx (i:=4) (Kl (s := "take_point") (n:=2) (F:=Cj) (fo:=Af 0) (g:=Ac (Af 2) Ai) (us:=[.str nm]) (δ:=[some (.ref k),some (.str (wdS .take)),some (.str nm),some (prU q),some .non,some .non,none]) T (by decide +kernel) rfl rfl rfl (Afq T hh))
   unfold Gs
   rw[Cr,t1]
   show (Dh (Ax (f2 Bm (Af 1) (fC (.str "take")))) _ _) _ L=_
   rw[Cr,t2]
   exact e
 | move=>
  cases hh:Em m nm with
  | false=>exact bad (((Ph t1).trans (Ph t2)).trans (Ld (us:=[.str nm,.int q.1,.int q.2]) T (by decide +kernel) rfl rfl rfl (Alc T hh hx))) hh
  | true=>
   refine good (((Ph t1).trans (Ph t2)).trans (Lp (us:=[.str nm,.int q.1,.int q.2]) T (by decide +kernel) rfl rfl rfl (Ahm T hh))) ?_ hh
   have e:=Kx (i:=4) (Kl (s := "move_point") (n:=4) (F:=Cm) (fo:=Af 0) (g:=Ac (Af 2) (Ac (f2 Al (Af 3) (fC (.int 0))) (Ac (f2 Al (Af 3) (fC (.int 1))) Ai))) (us:=[.str nm,.int q.1,.int q.2]) (δ:=[some (.ref k),some (.str (wdS .move)),some (.str nm),some (prU q),some .non,some .non,none]) T (by decide +kernel) rfl rfl rfl (Ae5 T hh hl))
   unfold Gs
   rw[Cr,t1]
   show (Dh (Ax (f2 Bm (Af 1) (fC (.str "take")))) _ _) _ L=_
   rw[Cr,t2]
   exact e
theorem Ah1{L:UH}{n:Nat}{nm:Str}(h:L[n]? = some (exN nm)):Ht [.ref n] L=some (.bl true,L):=by
 have v0:Af 0 [some (U.ref n)] L=some (.ref n,L):=rfl
 have x1:=Aam (Cs:=CS) (D := "NoName") v0 h Tf
 have x2:=Aam (Cs:=CS) (D := "BelowError") v0 h Tf
 have x3:=Aam (Cs:=CS) (D := "ValueError") v0 h Tf
 have x4:=Ajp (Cs:=CS) (Dn:=["NoAsk","NoCounts","NoPlace","NoPoints"]) v0 h Tf
 have k1:isX "NoName" "NoName" = true:=by decide +kernel
 have k2:isX "NoName" "BelowError" = true:=by decide +kernel
 have k3:isX "NoName" "ValueError" = true:=by decide +kernel
 have k4:(["NoAsk","NoCounts","NoPlace","NoPoints"]:List Str).any (isX "NoName")=false:=by decide +kernel
 rw[k1] at x1
 rw[k2] at x2
 rw[k3] at x3
 rw[k4] at x4
 have s1:(Dh (fOr (K4 (Hf (R5 CS "NoName" (Af 0)))) (fOr (K4 (Hf (R5 CS "BelowError" (Af 0)))) (K4 (Hf (R5 CS "ValueError" (Af 0)))))) (Cg (fC (.bl false))) Cv) [some (.ref n)] L=some (.nx [some (.ref n)],L):=by
  simp only[Cr,fOr_eq,fNot_eq,fTru_eq,x1,x2,x3,truU_bl,aA,aD,hW,bT,if_false,Eg]
 unfold Ht fnU Vc
 simp only[aL,aM,if_true,aP,bL,cQ,bS,aX]
 rw[Au s1,fRet_eq,Agt,x4]
 rfl
theorem Ao0{L:UH}{t i j l:Nat}{m:List NP}{nm:Str}{q:Int×Int}{δ:UE}(ht:L[t]? = some (.dic (kG (fun p=>prU p.2) m)))(hl:m.length < 1000)(h2:Af i δ L=some (.ref t,L))(h4:Af j δ L=some (.str nm,L))(h6:Af l δ L=some (prU q,L)) :
  (Mu (Af i) (Af j) (Af l)) δ L=some (.nx δ,L.set t (.dic (kG (fun p=>prU p.2) (Rb m nm q)))):=by
 have hk:(kG (fun p=>prU p.2) m).length < 1000000:=by unfold kG;rw[bF];omega
 have hp:=Af0 (fun p=>prU p.2) m nm q
 unfold Mu
 rw[h6]
 simp only[aA,h2,h4,toK,Ii ht]
 rw[if_pos hk,hp]
noncomputable def TQ(o p t l:Nat)(i:Nat):Prop:=i=o\/i=p\/i=t\/i=l
theorem nTQ{o p t l i:Nat}(h1:i≠o)(h2:i≠p)(h3:i≠t)(h4:i≠l):¬ TQ o p t l i:=fun z=>z.elim h1 fun z=>z.elim h2 fun z=>z.elim h3 h4
structure One(L:UH)(o k p t n l:Nat)(B:Int)(m:List NP)(names:List Str)(ls:List U):Prop where
 D:Seed L o B
 K:Kept L k p m
 T:L[t]? = some (.dic (kG (fun p=>prU p.2) m))
 N:L[n]? = some (.lst (names.map U.str))
 P:L[l]? = some (.lst ls)
 ok:OkM m
 ko:k≠o
 po:p≠o
 to_:t≠o
 no_:n≠o
 lo:l≠o
 pt:p≠t
 nl:n≠l
 nm:0 < names.length/\names.length<=100
 sp:∀ x∈names,x∈spare3
section
variable {L L':UH}{o k p t n l:Nat}{B B':Int}{m m':List NP}{names:List Str}{ls:List U}
theorem One.ex(S:One L o k p t n l B m names ls)(D:Seed L' o B')(x:Ex o L L'):One L' o k p t n l B' m names ls:=
 ⟨D,⟨x.get S.K.ob S.ko,x.get S.K.pt S.po⟩,x.get S.T S.to_,x.get S.N S.no_,x.get S.P S.lo,S.ok,S.ko,S.po,S.to_,S.no_,S.lo,S.pt,S.nl,S.nm,S.sp⟩
theorem One.gw(S:One L o k p t n l B m names ls)(g:Gw L L'):One L' o k p t n l B m names ls:=S.ex (S.D.gw g) (g.ex o)
theorem One.kt(S:One L o k p t n l B m names ls):k≠t/\n≠p/\n≠t/\l≠p/\l≠t/\k≠l:=by
 refine ⟨fun h=>?_,fun h=>?_,fun h=>?_,fun h=>?_,fun h=>?_,fun h=>?_⟩
 ·have:=S.K.ob;rw[h,S.T] at this;cases this
 ·have:=S.N;rw[h,S.K.pt] at this;cases this
 ·have:=S.N;rw[h,S.T] at this;cases this
 ·have:=S.P;rw[h,S.K.pt] at this;cases this
 ·have:=S.P;rw[h,S.T] at this;cases this
 ·have:=S.K.ob;rw[h,S.P] at this;cases this
theorem One.set(S:One L o k p t n l B m names ls)(ok:OkM m'):One ((L.set p (.dic (kG ptU m'))).set t (.dic (kG (fun p=>prU p.2) m'))) o k p t n l B m' names ls:=by
 have K':=S.K.set (m':=m')
 obtain ⟨kt,np,nt,lp,lt,kl⟩:=S.kt
 have tl:t < (L.set p (.dic (kG ptU m'))).length:=by rw[jN];exact (aR.mp S.T).1
 refine ⟨(S.D.set S.po _).set S.to_ _,⟨?_,?_⟩,bU tl,?_,?_,ok,S.ko,S.po,S.to_,S.no_,S.lo,S.pt,S.nl,S.nm,S.sp⟩
 ·rw[bA (cR kt)];exact K'.ob
 ·rw[bA (cR S.pt)];exact K'.pt
 ·rw[bA (cR nt),bA (cR np)];exact S.N
 ·rw[bA (cR lt),bA (cR lp)];exact S.P
theorem One.lay(S:One L o k p t n l B m names ls)(us:List U):One (L.set l (.lst us)) o k p t n l B m names us:=by
 obtain ⟨kt,np,nt,lp,lt,kl⟩:=S.kt
 have ll:l < L.length:=(aR.mp S.P).1
 refine ⟨S.D.set S.lo _,⟨?_,?_⟩,?_,?_,bU ll,S.ok,S.ko,S.po,S.to_,S.no_,S.lo,S.pt,S.nl,S.nm,S.sp⟩
 ·rw[bA (cR kl)];exact S.K.ob
 ·rw[bA lp];exact S.K.pt
 ·rw[bA lt];exact S.T
 ·rw[bA (cR S.nl)];exact S.N
end
section
variable {L L':UH}{o k p t n l:Nat}{B B':Int}{m m':List NP}{names:List Str}{ls:List U}
inductive WordR(v:Option (U×UH))(L:UH)(o:Nat)(B:Int):Prop
 | mk (w:Wd) (L':UH) (e:v=some (.str (wdS w),L')) (D:Seed L' o B) (x:Ex o L L')
theorem Ajs{δ:UE}(D:Seed L o B)(hB:B<=100000)(h0:∀ M,Af 0 δ M=some (.ref o,M)):WordR ((f2 Al (Ct (Ac (fC (.str "put")) (Ac (fC (.str "take")) (Ac (fC (.str "move")) Ai)))) (Bf 2 Ao (Ac (Af 0) (Ac (fC (.int 3)) Ai)))) δ L) L o (B+1):=by
 have sm3:∀ x y z:U,Dk [x,y,z].length=true:=fun _ _ _=>Bq (by show 3<=16777216;decide)
 obtain ⟨i,L1,e1,i0,i1,D1,y1⟩:=C7 (many:=3) (D.new [HU.lst [.str "put",.str "take",.str "move"]]) (by omega) (by decide) (by decide)
 have dl:=D.lt
 have q1:A7 L1 L.length=some [.str "put",.str "take",.str "move"]:=A9 (y1.get (i:=L.length) (by simp) (by omega))
 have hv:∃ w:Wd,L2.atI [U.str "put",.str "take",.str "move"] i=some (.str (wdS w)):=by
  have:i=0\/i=1\/i=2:=by omega
  rcases this with rfl | rfl | rfl
  ·exact ⟨.put,rfl⟩
  ·exact ⟨.take,rfl⟩
  ·exact ⟨.move,rfl⟩
 obtain ⟨w,hv⟩:=hv
 refine ⟨w,L1,?_,D1,(Ex.new o _ _).trans y1⟩
 have ea:(Ct (Ac (fC (.str "put")) (Ac (fC (.str "take")) (Ac (fC (.str "move")) Ai)))) δ L=some (.ref L.length,L++[.lst [.str "put",.str "take",.str "move"]]):=by
  simp only[fLst_eq,fCons_eq,fNil_eq,fC_eq,aD,aA,if_pos (sm3 _ _ _)]
 rw[f2_eq,ea,aA,Nq (i:=0) (h0 _) e1]
 simp only[aA,semIx_ref,q1,hv,aD]
theorem Ahf{w:Wd}{nm:Str}{x1 x3 x4 x6:Option U}(D:Seed L o B)(hB:B<=100000)(T:L[t]? = some (.dic (kG (fun p=>prU p.2) m)))(to_:t≠o):∃ (w':Wd) (L':UH),(Dh (Ax (f2 Qr (Bf 2 Ao (Ac (Af 0) (Ac (fC (.int 4)) Ai))) (fC (.int 0)))) (Bh (f2 Al (Ct (Ac (Af 7) (Ac (fC (.str "put")) Ai))) (B0 Gj (Ac (f2 C9 (Af 5) (Af 2)) Ai))) (gN 7)) Cv) [some (.ref o),x1,some (.ref t),x3,x4,some (.str nm),x6,some (.str (wdS w)),none,none] L=some (.nx [some (.ref o),x1,some (.ref t),x3,x4,some (.str nm),x6,some (.str (wdS w')),none,none],L')/\Seed L' o (B+1)/\Ex o L L':=by
 have sm2:∀ x y:U,Dk [x,y].length=true:=fun _ _=>Bq (by show 2<=16777216;decide)
 obtain ⟨i,L1,e1,i0,i1,D1,y1⟩:=C7 (many:=4) D (by omega) (by decide) (by decide)
 have t1:(Ax (f2 Qr (Bf 2 Ao (Ac (Af 0) (Ac (fC (.int 4)) Ai))) (fC (.int 0)))) [some (.ref o),x1,some (.ref t),x3,x4,some (.str nm),x6,some (.str (wdS w)),none,none] L=some (decide (i > 0),L1):=by
  rw[fTest_eq,f2_eq,Nq (i:=0) rfl e1]
  simp only[aA,fC_eq,Aek]
 cases hi:decide (i > 0) with
 | false=>
  rw[hi] at t1
  refine ⟨w,L1,?_,D1,y1⟩
  rw[Cr,t1]
  simp only[aA,bT,if_false,Eg]
 | true=>
  rw[hi] at t1
  have T1:=y1.get T to_
  have dl:=D1.lt
  have h2:(L1++[HU.lst [.str (wdS w),.str "put"]])[L1.length]? = some (.lst [.str (wdS w),.str "put"]):=by simp
  have T2:=(Gw.new L1 [HU.lst [.str (wdS w),.str "put"]]).get T1
  have ea:(Ct (Ac (Af 7) (Ac (fC (.str "put")) Ai))) [some (.ref o),x1,some (.ref t),x3,x4,some (.str nm),x6,some (.str (wdS w)),none,none] L1=some (.ref L1.length,L1++[.lst [.str (wdS w),.str "put"]]):=by
   simp only[fLst_eq,fCons_eq,fNil_eq,fC_eq,fVar_eq,aJ,aK,aQ,aD,aA,if_pos (sm2 _ _)]
  have x2:=y1.trans (Ex.new o L1 [HU.lst [.str (wdS w),.str "put"]])
  have D2:=D1.new [HU.lst [.str (wdS w),.str "put"]]
  generalize L1++[HU.lst [.str (wdS w),.str "put"]]=M at h2 T2 ea x2 D2
  have hix:∃ w':Wd,(B0 Gj (Ac (f2 C9 (Af 5) (Af 2)) Ai)) [some (.ref o),x1,some (.ref t),x3,x4,some (.str nm),x6,some (.str (wdS w)),none,none] M=some (.int (if Em m nm=true then 0 else 1),M)/\L2.atI [U.str (wdS w),.str "put"] (if Em m nm=true then 0 else 1)=some (.str (wdS w')):=by
   have hb:(f2 C9 (Af 5) (Af 2)) [some (.ref o),x1,some (.ref t),x3,x4,some (.str nm),x6,some (.str (wdS w)),none,none] M=some (.bl (!Em m nm),M):=by
    rw[f2_eq]
    simp only[fVar_eq,aJ,aK,aQ,aD,aA,Mi T2]
   cases hh:Em m nm with
   | true=>
    rw[hh] at hb
    exact ⟨w,by rw[fCall_eq,fCons_eq,hb];rfl,rfl⟩
   | false=>
    rw[hh] at hb
    exact ⟨.put,by rw[fCall_eq,fCons_eq,hb];rfl,rfl⟩
  obtain ⟨w',e3,hat⟩:=hix
  refine ⟨w',M,?_,D2,x2⟩
  rw[Cr,t1]
  simp only[aA,if_true]
  rw[Dj,f2_eq,ea,aA,e3]
  simp only[aA,semIx_ref,A9 h2,hat,aD]
  rfl
theorem Alj{f:FN}{a b c d:Nat}{u v w x:U}{δ:UE}{r:Option (U×UH)}(h1:Af a δ L=some (u,L))(h2:Af b δ L=some (v,L))(h3:Af c δ L=some (w,L))(h4:Af d δ L=some (x,L))(e:f [u,v,w,x] L=r):(Bf 4 f (Ac (Af a) (Ac (Af b) (Ac (Af c) (Ac (Af d) Ai))))) δ L=r:=by
 rw[fOwn_eq,fCons_eq,h1,aA,fCons_eq,h2,aA,fCons_eq,h3,aA,fCons_eq,h4]
 simp only[aA,fNil_eq,aD,aL,aM,if_true,e]
inductive TurnR(v:Option (U×UH))(L:UH)(o k p t n l:Nat)(B:Int)(m:List NP)(names:List Str):Prop
 | mk (q:Int×Int) (m':List NP) (L':UH) (e:v=some (.bl true,L')) (S:One L' o k p t n l B m' names [prU q]) (hl:m'.length<=m.length+1) (fr:Fr (TQ o p t l) L L')
end
noncomputable def Ac9:FS:=(Be (Bh (Bf 4 E2 (Ac (Af 1) (Ac (Af 7) (Ac (Af 5) (Ac (Af 6) Ai))))) (MR.gTup 2 (MR.gCons (gN 8) (MR.gCons (gN 9) MR.gNil)))) (Be (Dh (Ax (f2 Bm (f2 Gk (Af 5) (Af 2)) (f2 Bm (Af 7) (fC (.str "put"))))) (Cg (N6 (Bf 1 Ht (Ac (Af 9) Ai)) (f2 Bm (Mp ["NoPlace","NoAsk","NoPoints","NoCounts","NoName"] "word" (Af 9)) (Af 5)))) Cv) (Be (Dh (Ax (f2 Ny (Af 9) (fC .non))) (Cg (fC (.bl false))) Cv) (Be (Dh (Ax (f2 Bm (Af 7) (fC (.str "take")))) (Fz (Rp (Af 2) (Af 5))) (Mu (Af 2) (Af 5) (Af 6))) (Cg (f2 Aa7 (Af 8) (fC .non)))))))
section
variable {L L':UH}{o k p t n l:Nat}{B B':Int}{m m':List NP}{names:List Str}{ls:List U}
theorem Ao5(a b:Bool)(M:UH):Bm (.bl a) (.bl b) M=some (.bl (a == b),M):=by cases a <;> cases b <;> rfl
theorem Aia{q:Int×Int}{nm:Str}{w:Wd}(S:One L o k p t n l B m names [prU q])(hn:nm∈names)(hl:m.length < 900):∃ (m':List NP) (L':UH),Ac9 [some (.ref o),some (.ref k),some (.ref t),some (.ref n),some (.ref l),some (.str nm),some (prU q),some (.str (wdS w)),none,none] L=some (.rt (.bl true),L')/\One L' o k p t n l B m' names [prU q]/\m'.length<=m.length+1/\Fr (TQ o p t l) L L':=by
 have hs:=S.sp nm hn
 have hx:=Akz nm (bI _ hs)
 have R:=Akb (q:=q) S.K hx (by omega) w
 have tin:∀ (M:UH) (c:Option U),M[t]? = some (.dic (kG (fun p=>prU p.2) m))->(Ax (f2 Bm (f2 Gk (Af 5) (Af 2)) (f2 Bm (Af 7) (fC (.str "put"))))) [some (.ref o),some (.ref k),some (.ref t),some (.ref n),some (.ref l),some (.str nm),some (prU q),some (.str (wdS w)),some .non,c] M=some (Em m nm == Lh w,M):=fun M c hM=>by
  simp only[fTest_eq,f2_eq,fVar_eq,fC_eq,aJ,aK,aQ,aD,aA,Vm hM,eq_put,Ao5]
 cases R with
 | bad h e=>
  have g:Gw L (L++[exN nm]):=Gw.new _ _
  have S1:=S.gw g
  have hL:(L++[exN nm])[L.length]? = some (exN nm):=by simp
  refine ⟨m,L++[exN nm],?_,S1,by omega,g.fr _⟩
  have s6:(Bh (Bf 4 E2 (Ac (Af 1) (Ac (Af 7) (Ac (Af 5) (Ac (Af 6) Ai))))) (MR.gTup 2 (MR.gCons (gN 8) (MR.gCons (gN 9) MR.gNil)))) [some (.ref o),some (.ref k),some (.ref t),some (.ref n),some (.ref l),some (.str nm),some (prU q),some (.str (wdS w)),none,none] L=some (.nx [some (.ref o),some (.ref k),some (.ref t),some (.ref n),some (.ref l),some (.str nm),some (prU q),some (.str (wdS w)),some .non,some (.ref L.length)],L++[exN nm]):=by
   rw[Dj,Alj (a:=1) (b:=7) (c:=5) (d:=6) rfl rfl rfl rfl e];rfl
  have t7:=tin (L++[exN nm]) (some (.ref L.length)) S1.T
  have hb:(Em m nm == Lh w)=true:=by rw[h];exact beq_self_eq_true _
  rw[hb] at t7
  have al:=Ah1 hL
  have h7:(Mp CS "word" (Af 9)) [some (.ref o),some (.ref k),some (.ref t),some (.ref n),some (.ref l),some (.str nm),some (prU q),some (.str (wdS w)),some .non,some (.ref L.length)] (L++[exN nm])=some (.str nm,L++[exN nm]):=by
   unfold Mp
   simp only[fVar_eq,aJ,aK,aQ,aD,aA,Lx hL Tf]
   rfl
  have h8:∀ M,Bm (.str nm) (.str nm) M=some (.bl true,M):=fun M=>by
   have hp:Pl 6 (.str nm):=Wx nm hs
   rw[Nm M hp hp,N4 hp]
  unfold Ac9
  rw[Au s6,fSeq_eq,Cr,t7]
  simp only[aA,if_true]
  rw[fRet_eq,fAndV_eq,Ao3 (i:=9) rfl al]
  simp only[aA,if_true,f2_eq,h7,fVar_eq,aJ,aK,aQ,aD,h8]
 | good h e=>
  have hnok:eK nm=true:=Wx nm hs
  have ok':OkM (act w m nm q):=by
   unfold act;split
   ·exact S.ok.drop
   ·exact S.ok.put hnok
  have hlen:(act w m nm q).length<=m.length+1:=by
   unfold act;split
   ·have:=Aeh m nm;omega
   ·exact Ahs m nm q
  have T1:(L.set p (.dic (kG ptU (act w m nm q))))[t]? = some (.dic (kG (fun p=>prU p.2) m)):=by rw[bA S.pt];exact S.T
  have SF:=S.set ok'
  have f1:Fr (TQ o p t l) L ((L.set p (.dic (kG ptU (act w m nm q)))).set t (.dic (kG (fun p=>prU p.2) (act w m nm q)))):=(Fr.put _ (.inr (.inl rfl)) _).trans (Fr.put _ (.inr (.inr (.inl rfl))) _)
  refine ⟨act w m nm q,_,?_,SF,hlen,f1⟩
  have s6:(Bh (Bf 4 E2 (Ac (Af 1) (Ac (Af 7) (Ac (Af 5) (Ac (Af 6) Ai))))) (MR.gTup 2 (MR.gCons (gN 8) (MR.gCons (gN 9) MR.gNil)))) [some (.ref o),some (.ref k),some (.ref t),some (.ref n),some (.ref l),some (.str nm),some (prU q),some (.str (wdS w)),none,none] L=some (.nx [some (.ref o),some (.ref k),some (.ref t),some (.ref n),some (.ref l),some (.str nm),some (prU q),some (.str (wdS w)),some .non,some .non],L.set p (.dic (kG ptU (act w m nm q)))):=by
   rw[Dj,Alj (a:=1) (b:=7) (c:=5) (d:=6) rfl rfl rfl rfl e];rfl
  generalize L.set p (.dic (kG ptU (act w m nm q)))=M at T1 s6
  have t7:=tin M (some .non) T1
  have hb:(Em m nm == Lh w)=false:=by rw[h];cases Lh w <;> rfl
  rw[hb] at t7
  have s9:(Dh (Ax (f2 Bm (Af 7) (fC (.str "take")))) (Fz (Rp (Af 2) (Af 5))) (Mu (Af 2) (Af 5) (Af 6))) [some (.ref o),some (.ref k),some (.ref t),some (.ref n),some (.ref l),some (.str nm),some (prU q),some (.str (wdS w)),some .non,some .non] M=some (.nx [some (.ref o),some (.ref k),some (.ref t),some (.ref n),some (.ref l),some (.str nm),some (prU q),some (.str (wdS w)),some .non,some .non],M.set t (.dic (kG (fun p=>prU p.2) (act w m nm q)))):=by
   have t9:(Ax (f2 Bm (Af 7) (fC (.str "take")))) [some (.ref o),some (.ref k),some (.ref t),some (.ref n),some (.ref l),some (.str nm),some (prU q),some (.str (wdS w)),some .non,some .non] M=some (So w,M):=by
    rw[fTest_eq,f2_eq]
    simp only[fVar_eq,fC_eq,aJ,aK,aQ,aD,aA,Acu]
   rw[Cr,t9]
   cases w with
   | take=>exact Adg T1 h rfl rfl
   | put=>exact Ao0 (i:=2) (j:=5) (l:=6) (nm:=nm) (q:=q) (δ:=[some (.ref o),some (.ref k),some (.ref t),some (.ref n),some (.ref l),some (.str nm),some (prU q),some (.str (wdS .put)),some .non,some .non]) T1 (by omega) rfl rfl rfl
   | move=>exact Ao0 (i:=2) (j:=5) (l:=6) (nm:=nm) (q:=q) (δ:=[some (.ref o),some (.ref k),some (.ref t),some (.ref n),some (.ref l),some (.str nm),some (prU q),some (.str (wdS .move)),some .non,some .non]) T1 (by omega) rfl rfl rfl
  have s7:(Dh (Ax (f2 Bm (f2 Gk (Af 5) (Af 2)) (f2 Bm (Af 7) (fC (.str "put"))))) (Cg (N6 (Bf 1 Ht (Ac (Af 9) Ai)) (f2 Bm (Mp CS "word" (Af 9)) (Af 5)))) Cv) [some (.ref o),some (.ref k),some (.ref t),some (.ref n),some (.ref l),some (.str nm),some (prU q),some (.str (wdS w)),some .non,some .non] M=some (.nx [some (.ref o),some (.ref k),some (.ref t),some (.ref n),some (.ref l),some (.str nm),some (prU q),some (.str (wdS w)),some .non,some .non],M):=by
   rw[Cr,t7]
   simp only[aA,bT,if_false,Eg]
  have s8:(Dh (Ax (f2 Ny (Af 9) (fC .non))) (Cg (fC (.bl false))) Cv) [some (.ref o),some (.ref k),some (.ref t),some (.ref n),some (.ref l),some (.str nm),some (prU q),some (.str (wdS w)),some .non,some .non] M=some (.nx [some (.ref o),some (.ref k),some (.ref t),some (.ref n),some (.ref l),some (.str nm),some (prU q),some (.str (wdS w)),some .non,some .non],M):=rfl
  unfold Ac9
  rw[Au s6,Au s7,Au s8,Au s9]
  rfl
theorem Ak3(S:One L o k p t n l B m names [])(hB:B<=50000)(hl:m.length < 900):TurnR (Lc [.ref o,.ref k,.ref t,.ref n,.ref l] L) L o k p t n l (B+20) m names:=by
 have hlen:∀ M,M[n]? = some (HU.lst (names.map U.str))->Cy [.ref n] M=some (.int names.length,M):=fun M h=>by rw[Kr h,bF]
 obtain ⟨i,L1,e1,i0,i1,D1,y1⟩:=C7 (many:=(names.length:Nat)) S.D (by omega) (by have:=S.nm.1;omega) (by have:=S.nm.2;omega)
 have S1:=S.ex D1 y1
 have hi:i.toNat < names.length:=by omega
 have hat:L2.atI (names.map U.str) i=some (.str (names[i.toNat]'hi)):=by
  rw[Ag1 i0 (by rw[bF];exact i1),bV,cZ hi];rfl
 have hmem:(names[i.toNat]'hi)∈names:=pL hi
 generalize names[i.toNat]'hi=nm at hat hmem
 have s1:(Bh (f2 Al (Af 3) (Bf 2 Ao (Ac (Af 0) (Ac (B0 Cy (Ac (Af 3) Ai)) Ai)))) (gN 5)) [some (.ref o),some (.ref k),some (.ref t),some (.ref n),some (.ref l),none,none,none,none,none] L=some (.nx [some (.ref o),some (.ref k),some (.ref t),some (.ref n),some (.ref l),some (.str nm),none,none,none,none],L1):=by
  simp only[Dj,f2_eq,fOwn_eq,fCall_eq,fCons_eq,fNil_eq,fVar_eq,aK,aJ,aQ,aD,aA,hlen L S.N,aL,aM,if_true,e1,semIx_ref,A9 S1.N,hat,Yp,cH,bZ]
 obtain ⟨q,L2,e2,D2,y2⟩:=Ahz S1.D (by omega) S1.T S1.to_ (by omega)
 have S2:=S1.ex D2 y2
 have s2:=Kx (i:=6) (Ag6 (i:=0) (j:=2) (δ:=[some (.ref o),some (.ref k),some (.ref t),some (.ref n),some (.ref l),some (.str nm),none,none,none,none]) rfl rfl e2)
 simp only[cH,bZ] at s2
 have S3:=S2.lay [prU q]
 have s3:(Fz (Mr "list" Ei (Af 4) (Ac (Af 6) Ai))) [some (.ref o),some (.ref k),some (.ref t),some (.ref n),some (.ref l),some (.str nm),some (prU q),none,none,none] L2=some (.nx [some (.ref o),some (.ref k),some (.ref t),some (.ref n),some (.ref l),some (.str nm),some (prU q),none,none,none],L2.set l (.lst [prU q])):=by
  have ap:=U9 (prU q) S2.P (by simp)
  have v4:Af 4 [some (U.ref o),some (.ref k),some (.ref t),some (.ref n),some (.ref l),some (.str nm),some (prU q),none,none,none] L2=some (.ref l,L2):=rfl
  have v6:(Ac (Af 6) Ai) [some (U.ref o),some (.ref k),some (.ref t),some (.ref n),some (.ref l),some (.str nm),some (prU q),none,none,none] L2=some ([prU q],L2):=rfl
  rw[Rr,fMeth_eq,v4,aA,if_pos (Wa S2.P),v6,aA,ap]
  rfl
 generalize hM3:L2.set l (.lst [prU q])=M3 at S3 s3
 have f3:Fr (TQ o p t l) L M3:=by rw[<- hM3];exact ((Ex.fr y1 (.inl rfl)).trans (Ex.fr y2 (.inl rfl))).trans (Fr.put _ (.inr (.inr (.inr rfl))) _)
 obtain ⟨w,M4,e4,D4,y4⟩:=Ajs (δ:=[some (.ref o),some (.ref k),some (.ref t),some (.ref n),some (.ref l),some (.str nm),some (prU q),none,none,none]) S3.D (by omega) (fun _=>rfl)
 have S4:=S3.ex D4 y4
 have s4:=Kx (i:=7) e4
 simp only[cH,bZ] at s4
 obtain ⟨w',M5,e5,D5,y5⟩:=Ahf (w:=w) (nm:=nm) (x1:=some (.ref k)) (x3:=some (.ref n)) (x4:=some (.ref l)) (x6:=some (prU q)) S4.D (by omega) S4.T S4.to_
 have S5:=S4.ex D5 y5
 obtain ⟨m',M6,e6,S6,l6,f6⟩:=Aia (w:=w') S5 hmem hl
 have D20:Seed M6 o (B+20):=S6.D.mono (by omega)
 refine ⟨q,m',M6,?_,S6.ex D20 (Ex.refl _ _),l6,((f3.trans (Ex.fr y4 (.inl rfl))).trans (Ex.fr y5 (.inl rfl))).trans f6⟩
 have sp:Xv=(Be (Bh (f2 Al (Af 3) (Bf 2 Ao (Ac (Af 0) (Ac (B0 Cy (Ac (Af 3) Ai)) Ai)))) (gN 5)) (Be (Bh (Bf 2 Jy (Ac (Af 0) (Ac (Af 2) Ai))) (gN 6)) (Be (Fz (Mr "list" Ei (Af 4) (Ac (Af 6) Ai))) (Be (Bh (f2 Al (Ct (Ac (fC (.str "put")) (Ac (fC (.str "take")) (Ac (fC (.str "move")) Ai)))) (Bf 2 Ao (Ac (Af 0) (Ac (fC (.int 3)) Ai)))) (gN 7)) (Be (Dh (Ax (f2 Qr (Bf 2 Ao (Ac (Af 0) (Ac (fC (.int 4)) Ai))) (fC (.int 0)))) (Bh (f2 Al (Ct (Ac (Af 7) (Ac (fC (.str "put")) Ai))) (B0 Gj (Ac (f2 C9 (Af 5) (Af 2)) Ai))) (gN 7)) Cv) Ac9))))):=rfl
 unfold Lc fnU
 simp only[aL,aM,if_true,aP,bL,aT,dZ,dS]
 rw[sp,Au s1,Au s2,Au s3,Au s4,Au e5,e6]
 rfl
end
noncomputable def neP(p q:Int×Int):Bool:=!(p.1 == q.1&&(p.2 == q.2&&true))
noncomputable def leP(p q:Int×Int):Bool:=decide (p.1<=q.1)&&decide (p.2<=q.2)
noncomputable def Adw(i:Int):Int:=if i < 0 then -i else i
noncomputable def Ah2(p q:Int×Int):Bool:=decide ((if Adw (p.2 - q.2) > Adw (p.1 - q.1) then Adw (p.2 - q.2) else Adw (p.1 - q.1)) < 2)
theorem abs_lt(i:Int):Adw i < 2↔-1<=i/\i<=1:=by unfold Adw;split <;> omega
theorem Amh(i j:Int):(if j > i then j else i) < 2↔i < 2/\j < 2:=by split <;> omega
theorem Ajy(q:Int×Int):∀ m:List NP,(((m.filter fun p=>neP p.2 q).map (·.2)).filter fun a=>leP a q).length=(m.filter fun p=>Ci p.2 q).length:=by
 intro m
 rw[mR,bF,oI]
 congr 2
 funext p
 show (leP p.2 q&&neP p.2 q)=Ci p.2 q
 unfold leP neP Ci
 rw[qL]
theorem Ako(q:Int×Int):∀ m:List NP,(((m.filter fun p=>neP p.2 q).map (·.2)).filter fun a=>leP q a).length=(m.filter fun p=>Ci q p.2).length:=by
 intro m
 rw[mR,bF,oI]
 congr 2
 funext p
 show (leP q p.2&&neP p.2 q)=Ci q p.2
 unfold leP neP Ci
 rw[qL,qU (a:=p.2.1),qU (a:=p.2.2)]
theorem Ahu(q:Int×Int)(m:List NP):(m.filter fun p=>Ah2 p.2 q).length=cntB m (q.1 - 1,q.2 - 1,q.1+1,q.2+1):=by
 unfold cntB
 congr 2
 funext p
 unfold Ah2 inB
 rw[<- mS,<- mS,<- mS]
 apply decide_eq_decide.mpr
 rw[Amh,abs_lt,abs_lt]
 show _↔q.1 - 1<=p.2.1/\p.2.1<=q.1+1/\q.2 - 1<=p.2.2/\p.2.2<=q.2+1
 omega
section
variable {L:UH}{q:Int×Int}
theorem Q2{j:Nat}{xs:List (Int×Int)}{r:Nat}{tt:FT}{fe:FE}{rel:Int×Int->Bool}{δ:UE}(hr:L[r]? = some (.lst (xs.map prU)))(hl:xs.length < 1000)(h4:Af j δ L=some (.ref r,L))(hix:Ib [none,some 3] δ = [none,some (prU q)])(htt:∀ a M,tt [some (prU a),some (prU q)] M=some (rel a,M))(hfe:∀ δ M,fe δ M=some (.int 1,M)) :
  ∃ L',(B0 Cy (Ac (By [none,some 3] (Cu (Af j)) (gN 0) (some tt) fe) Ai)) δ L=some (.int ((xs.filter rel).length:Nat),L')/\Gw L L':=by
 have hq:=A9 hr
 obtain ⟨x,e⟩:=Ea (ix:=[none,some 3]) (fi:=Cu (Af j)) (it:=.ref r) (g:=gN 0) (tt:=some tt) (fe:=fe) (δ:=δ) (L:=L) (L0:=L)
  xs prU rel (fun _=>.int 1) (fun δ=>∃ a,δ = [a,some (prU q)]) (by rw[Ke,h4];simp only[aA,Ej hq,aD]) (by rw[K8 hq];simp) (by omega) ⟨none,hix⟩
  (fun k x=>Se (Fo hq))
  (fun a δ x _ hδ=>by
   obtain ⟨z,rfl⟩:=hδ
   exact ⟨[some (prU a),some (prU q)],rfl,⟨_,rfl⟩,[],by rw[aX];exact htt a _,fun _=>⟨[],by rw[hfe];simp⟩⟩)
 have hlen:=Kr (L:=L++x++[.lst ((xs.filter rel).map fun _=>.int 1)]) (n:=(L++x).length) (l:=(xs.filter rel).map fun _=>.int 1) (by simp)
 refine ⟨L++x++[.lst ((xs.filter rel).map fun _=>.int 1)],?_,⟨x++[.lst ((xs.filter rel).map fun _=>.int 1)],by rw[cA]⟩⟩
 rw[fCall_eq,fCons_eq,e]
 simp only[aA,fNil_eq,aD,hlen,bF]
theorem T3{t:Nat}{m:List NP}{tt:FT}{fe:FE}{rel:NP->Bool}{ev:NP->U}{δ:UE}(ht:L[t]? = some (.dic (kG (fun p=>prU p.2) m)))(hl:m.length < 1000)(h2:Af 2 δ L=some (.ref t,L))(hix:Ib [none,some 3] δ = [none,some (prU q)])(htt:∀ p M,tt [some (prU p.2),some (prU q)] M=some (rel p,M))(hfe:∀ p M,fe [some (prU p.2),some (prU q)] M=some (ev p,M)) :
  ∃ (r:Nat) (L':UH),Jd (By [none,some 3] (G3 Iw (Af 2)) (gN 0) (some tt) fe) δ L=some (.ref r,L')/\L'[r]? = some (.lst ((m.filter rel).map ev))/\Gw L L':=by
 obtain ⟨x,e⟩:=Oo (ix:=[none,some 3]) (v:=Iw) (fo:=Af 2) (g:=gN 0) (tt:=some tt) (fe:=fe) (δ:=δ) (L:=L)
  m (fun p=>prU p.2) rel ev (fun δ=>∃ a,δ = [a,some (prU q)]) h2 ht (vals_kG _ m) (by omega) ⟨none,hix⟩
  (fun p δ M _ hδ=>by
   obtain ⟨a,rfl⟩:=hδ
   exact ⟨[some (prU p.2),some (prU q)],rfl,⟨_,rfl⟩,[],by rw[aX];exact htt p _,fun _=>⟨[],by rw[hfe,aX,aX]⟩⟩)
 exact ⟨_,_,e,by simp,⟨x++[.lst ((m.filter rel).map ev)],by rw[cA]⟩⟩
theorem Aef{fe:FE}{i:Nat}{δ:UE}{L L':UH}{v:U}(e:Jd fe δ L=some (v,L')):Rm (Bh fe (gN i)) δ L=some (.nx (δ.set i (some v)),L'):=by
 unfold Jd at e
 obtain ⟨⟨v',L1⟩,e1,e⟩:=aH.mp e
 cases e
 unfold Rm
 rw[Dj,e1]
 rfl
noncomputable def Adp:Nat->List Int
 | 0=>[0,1,2] | 1=>[1,2,0] | 2=>[2,1,0] | _=>[1,0,2]
theorem Ak2(i:Nat):∀ w∈Adp i,w=0\/w=1\/w=2:=by
 have:∀ j < 4,∀ w∈Adp j,w=0\/w=1\/w=2:=by decide
 intro w hw
 match i,hw with
 | 0,hw=>exact this 0 (by omega) w hw
 | 1,hw=>exact this 1 (by omega) w hw
 | 2,hw=>exact this 2 (by omega) w hw
 | (_+3),hw=>exact this 3 (by omega) w hw
noncomputable def N7(a b c:Int):FE:=Ct (Ac (fC (.int a)) (Ac (fC (.int b)) (Ac (fC (.int c)) Ai)))
theorem l012_ok(a b c:Int)(δ:UE)(L:UH):N7 a b c δ L=some (.ref L.length,L++[.lst ([a,b,c].map U.int)]):=by
 have sm3:∀ x y z:U,Dk [x,y,z].length=true:=fun _ _ _=>Bq (by show 3<=16777216;decide)
 unfold N7
 simp only[fLst_eq,fCons_eq,fNil_eq,fC_eq,aD,aA,if_pos (sm3 _ _ _)]
 rfl
theorem Ae7{o:Nat}{B:Int}{δ:UE}(D:Seed L o B)(hB:B<=100000)(h0:∀ M,Af 0 δ M=some (.ref o,M)):∃ (r i:Nat) (L':UH),(f2 Al (Ct (Ac (N7 0 1 2) (Ac (N7 1 2 0) (Ac (N7 2 1 0) (Ac (N7 1 0 2) Ai))))) (Bf 2 Ao (Ac (Af 0) (Ac (fC (.int 4)) Ai)))) δ L=some (.ref r,L')/\L'[r]? = some (.lst ((Adp i).map U.int))/\r≠o/\Seed L' o (B+1)/\Ex o L L':=by
 have sm4:∀ x y z u:U,Dk [x,y,z,u].length=true:=fun _ _ _ _=>Bq (by show 4<=16777216;decide)
 have g4:Gw L (L++[.lst ([0,1,2].map U.int)]++[.lst ([1,2,0].map U.int)]++[.lst ([2,1,0].map U.int)]++[.lst ([1,0,2].map U.int)]):=(((Gw.new _ _).trans (Gw.new _ _)).trans (Gw.new _ _)).trans (Gw.new _ _)
 have hat:∀ j < 4,(L++[HU.lst ([0,1,2].map U.int)]++[HU.lst ([1,2,0].map U.int)]++[HU.lst ([2,1,0].map U.int)]++[HU.lst ([1,0,2].map U.int)])[L.length+j]? = some (.lst ((Adp j).map U.int)):=fun j hj=>by
  have:j=0\/j=1\/j=2\/j=3:=by omega
  rcases this with rfl | rfl | rfl | rfl <;> simp[Adp,List.getElem?_append]
 have ea:(Ct (Ac (N7 0 1 2) (Ac (N7 1 2 0) (Ac (N7 2 1 0) (Ac (N7 1 0 2) Ai))))) δ L=some (.ref (L.length+4),L++[.lst ([0,1,2].map U.int)]++[.lst ([1,2,0].map U.int)]++[.lst ([2,1,0].map U.int)]++[.lst ([1,0,2].map U.int)]++[.lst [.ref L.length,.ref (L.length+1),.ref (L.length+2),.ref (L.length+3)]]):=by
  simp only[fLst_eq,fCons_eq,fNil_eq,l012_ok,aD,aA,if_pos (sm4 _ _ _ _),cG,aL,aM]
  rfl
 have l4:(L++[HU.lst ([0,1,2].map U.int)]++[HU.lst ([1,2,0].map U.int)]++[HU.lst ([2,1,0].map U.int)]++[HU.lst ([1,0,2].map U.int)]).length=L.length+4:=by simp
 generalize L++[HU.lst ([0,1,2].map U.int)]++[HU.lst ([1,2,0].map U.int)]++[HU.lst ([2,1,0].map U.int)]++[HU.lst ([1,0,2].map U.int)]=M at g4 hat ea l4
 have g5:Gw M (M++[.lst [.ref L.length,.ref (L.length+1),.ref (L.length+2),.ref (L.length+3)]]):=Gw.new _ _
 have h5:(M++[HU.lst [.ref L.length,.ref (L.length+1),.ref (L.length+2),.ref (L.length+3)]])[L.length+4]? = some (.lst [.ref L.length,.ref (L.length+1),.ref (L.length+2),.ref (L.length+3)]):=by rw[<- l4];simp
 obtain ⟨i,N1,e1,i0,i1,D1,y1⟩:=C7 (many:=4) ((D.gw g4).gw g5) (by omega) (by decide) (by decide)
 have dl:=D.lt
 obtain ⟨j,rfl⟩:∃ j:Nat,i=(j:Int):=⟨i.toNat,by omega⟩
 have hj:j < 4:=by omega
 have q5:=A9 (y1.get h5 (by omega))
 have hix:L2.atI [U.ref L.length,.ref (L.length+1),.ref (L.length+2),.ref (L.length+3)] (j:Int)=some (.ref (L.length+j)):=by
  have:j=0\/j=1\/j=2\/j=3:=by omega
  rcases this with rfl | rfl | rfl | rfl <;> rfl
 refine ⟨L.length+j,j,N1,?_,y1.get (g5.get (hat j hj)) (by omega),by omega,D1,((g4.trans g5).ex o).trans y1⟩
 rw[f2_eq,ea,aA,Nq (i:=0) (h0 _) e1]
 simp only[aA,semIx_ref,q5,hix,aD]
end
section
variable {L:UH}{o k p t:Nat}{B:Int}{m:List NP}{q:Int×Int}
inductive LookR(v:Option (U×UH))(L:UH)(d:Nat)(B:Int):Prop
 | mk (L':UH) (e:v=some (.bl true,L')) (D:Seed L' d B) (x:Ex d L L')
theorem ne_int(i:Int)(M:UH):Eh (.int i) (.int i) M=some (.bl false,M):=by
 have:Eh (.int i) (.int i) M=some (.bl (!(i == i)),M):=rfl
 rw[this];simp
theorem ifF{c:FT}{S T:FS}{δ:UE}{L:UH}(h:c δ L=some (false,L)):(Dh c S T) δ L=T δ L:=by
 rw[Cr,h]
 simp only[aA,bT,if_false]
theorem ifT{c:FT}{S T:FS}{δ:UE}{L:UH}(h:c δ L=some (true,L)):(Dh c S T) δ L=S δ L:=by
 rw[Cr,h]
 simp only[aA,if_true]
theorem Afd{w b a h:Int}{x4 x8 x10:Option U}(K:Kept L k p m)(lm:m.length < 1000)(hw:w=0\/w=1\/w=2)(hb:b=((m.filter fun p=>Ci p.2 q).length:Nat))(ha:a=((m.filter fun p=>Ci q p.2).length:Nat))(hh:h=(cntB m (q.1 - 1,q.2 - 1,q.1+1,q.2+1):Nat)) :
  ∃ (y10:Option U) (L':UH),Df [some (.ref o),some (.ref k),some (.ref t),some (prU q),x4,some (.int b),some (.int a),some (.int h),x8,some (.int w),x10] L=some (.nx [some (.ref o),some (.ref k),some (.ref t),some (prU q),x4,some (.int b),some (.int a),some (.int h),x8,some (.int w),y10],L')/\Gw L L':=by
 have sm3:∀ x y z:U,Dk [x,y,z].length=true:=fun _ _ _=>Bq (by show 3<=16777216;decide)
 have fin:∀ (M:UH) (v:Int),L2.atI [U.int b,.int a,.int h] w=some (.int v)->(Dh (Ax (f2 Eh (Af 10) (f2 Al (Ct (Ac (Af 5) (Ac (Af 6) (Ac (Af 7) Ai)))) (Af 9)))) (Cg (fC (.bl false))) Cv) [some (.ref o),some (.ref k),some (.ref t),some (prU q),x4,some (.int b),some (.int a),some (.int h),x8,some (.int w),some (.int v)] M=some (.nx [some (.ref o),some (.ref k),some (.ref t),some (prU q),x4,some (.int b),some (.int a),some (.int h),x8,some (.int w),some (.int v)],M++[.lst [.int b,.int a,.int h]]):=fun M v hv=>by
  have ea:(Ct (Ac (Af 5) (Ac (Af 6) (Ac (Af 7) Ai)))) [some (.ref o),some (.ref k),some (.ref t),some (prU q),x4,some (.int b),some (.int a),some (.int h),x8,some (.int w),some (.int v)] M=some (.ref M.length,M++[.lst [.int b,.int a,.int h]]):=by
   simp only[fLst_eq,fCons_eq,fNil_eq,fVar_eq,aJ,aK,aQ,aD,aA,if_pos (sm3 _ _ _)]
  have h2:A7 (M++[HU.lst [.int b,.int a,.int h]]) M.length=some [.int b,.int a,.int h]:=A9 (by simp)
  have v10:Af 10 [some (U.ref o),some (.ref k),some (.ref t),some (prU q),x4,some (.int b),some (.int a),some (.int h),x8,some (.int w),some (.int v)] M=some (.int v,M):=rfl
  generalize M++[HU.lst [.int b,.int a,.int h]]=N at ea h2
  rw[Cr,fTest_eq,f2_eq,v10,aA,f2_eq,ea]
  simp only[aA,fVar_eq,aJ,aK,aQ,aD,semIx_ref,h2,hv,ne_int,bT,if_false,Eg]
 have t0:∀ c:Int,(Ax (f2 Bm (Af 9) (fC (.int c)))) [some (.ref o),some (.ref k),some (.ref t),some (prU q),x4,some (.int b),some (.int a),some (.int h),x8,some (.int w),x10] L=some (w == c,L):=fun c=>by
  rw[fTest_eq,f2_eq]
  simp only[fVar_eq,fC_eq,aJ,aK,aQ,aD,aA,O6]
 unfold Df
 rcases hw with rfl | rfl | rfl
 ·obtain ⟨L1,e1,g1⟩:=W6 (fN:=C5) (s := "below_now") (fo:=Af 1) (fa:=f2 Al (Af 3) (fC (.int 0))) (fb:=f2 Al (Af 3) (fC (.int 1))) (δ:=[some (.ref o),some (.ref k),some (.ref t),some (prU q),x4,some (.int b),some (.int a),some (.int h),x8,some (.int 0),x10]) K (by decide +kernel) rfl rfl rfl (V0 (x:=q.1) (y:=q.2) K lm)
  have s1:=Kx (i:=10) e1
  rw[<- hb] at s1
  refine ⟨some (.int b),L1++[.lst [.int b,.int a,.int h]],?_,g1.trans (Gw.new _ _)⟩
  rw[fSeq_eq,ifT (t0 0),s1]
  exact fin L1 b rfl
 ·obtain ⟨L1,e1,g1⟩:=W6 (fN:=C6) (s := "above_now") (fo:=Af 1) (fa:=f2 Al (Af 3) (fC (.int 0))) (fb:=f2 Al (Af 3) (fC (.int 1))) (δ:=[some (.ref o),some (.ref k),some (.ref t),some (prU q),x4,some (.int b),some (.int a),some (.int h),x8,some (.int 1),x10]) K (by decide +kernel) rfl rfl rfl (Wh (x:=q.1) (y:=q.2) K lm)
  have s1:=Kx (i:=10) e1
  rw[<- ha] at s1
  refine ⟨some (.int a),L1++[.lst [.int b,.int a,.int h]],?_,g1.trans (Gw.new _ _)⟩
  rw[fSeq_eq,ifF (t0 0),ifT (t0 1),s1]
  exact fin L1 a rfl
 ·obtain ⟨L1,e1,g1⟩:=Aba K lm (q.1 - 1,q.2 - 1,q.1+1,q.2+1)
  have s1:=Kx (i:=10) (Kl (s := "box_now") (n:=2) (F:=Cw) (fo:=Af 1) (g:=(Ac (G4 (Ac (f2 Dw (f2 Al (Af 3) (fC (.int 0))) (fC (.int 1))) (Ac (f2 Dw (f2 Al (Af 3) (fC (.int 1))) (fC (.int 1))) (Ac (f2 Bs (f2 Al (Af 3) (fC (.int 0))) (fC (.int 1))) (Ac (f2 Bs (f2 Al (Af 3) (fC (.int 1))) (fC (.int 1))) Ai))))) Ai)) (us:=[bxU (q.1 - 1,q.2 - 1,q.1+1,q.2+1)]) (δ:=[some (.ref o),some (.ref k),some (.ref t),some (prU q),x4,some (.int b),some (.int a),some (.int h),x8,some (.int 2),x10]) K (by decide +kernel) rfl rfl rfl e1)
  rw[<- hh] at s1
  refine ⟨some (.int h),L1++[.lst [.int b,.int a,.int h]],?_,g1.trans (Gw.new _ _)⟩
  rw[fSeq_eq,ifF (t0 0),ifF (t0 1),s1]
  exact fin L1 h rfl
theorem Ads(D:Seed L o B)(hB:B<=50000)(K:Kept L k p m)(T:L[t]? = some (.dic (kG (fun p=>prU p.2) m)))(ko:k≠o)(po:p≠o)(lm:m.length < 1000):LookR (Dv [.ref o,.ref k,.ref t,prU q] L) L o (B+1):=by
 obtain ⟨r1,L1,e1,h1,g1⟩:=T3 (q:=q) (rel:=fun p=>neP p.2 q) (ev:=fun p=>prU p.2) (tt:=Ez) (fe:=Eu) (δ:=[some (.ref o),some (.ref k),some (.ref t),some (prU q),none,none,none,none,none,none,none]) T lm rfl rfl (fun _ _=>rfl) (fun _ _=>rfl)
 have s1:=Aef (i:=4) e1
 simp only[cH,bZ] at s1
 have hm1:(m.filter fun p=>neP p.2 q).map (fun p=>prU p.2)=((m.filter fun p=>neP p.2 q).map (·.2)).map prU:=by rw[eS];rfl
 rw[hm1] at h1
 have lx:((m.filter fun p=>neP p.2 q).map (·.2)).length < 1000:=by rw[bF];exact kI (iW _ _) lm
 have cb:=Ajy q m
 have ca:=Ako q m
 have ch:=Ahu q m
 generalize (m.filter fun p=>neP p.2 q).map (·.2)=xs at h1 lx cb ca
 obtain ⟨L2,e2,g2⟩:=Q2 (j:=4) (q:=q) (rel:=fun a=>leP a q) (tt:=Dl) (fe:=Ew) (δ:=[some (.ref o),some (.ref k),some (.ref t),some (prU q),some (.ref r1),none,none,none,none,none,none]) h1 lx rfl rfl (fun a M=>by
  have t1:(Ax (f2 D8 (f2 Al (Af 0) (fC (.int 0))) (f2 Al (Af 1) (fC (.int 0))))) [some (prU a),some (prU q)] M=some (decide (a.1<=q.1),M):=rfl
  have t2:(Ax (f2 D8 (f2 Al (Af 0) (fC (.int 1))) (f2 Al (Af 1) (fC (.int 1))))) [some (prU a),some (prU q)] M=some (decide (a.2<=q.2),M):=rfl
  unfold Dl leP
  rw[fAnd_eq,t1]
  cases decide (a.1<=q.1) with
  | false=>simp only[aA,bT,if_false,iM]
  | true=>simp only[aA,if_true,t2,lX]) (fun _ _=>rfl)
 have s2:=Kx (i:=5) e2
 simp only[cH,bZ] at s2
 obtain ⟨L3,e3,g3⟩:=Q2 (j:=4) (q:=q) (rel:=fun a=>leP q a) (tt:=Dm) (fe:=Ey) (δ:=[some (.ref o),some (.ref k),some (.ref t),some (prU q),some (.ref r1),some (.int ((xs.filter fun a=>leP a q).length:Nat)),none,none,none,none,none]) (g2.get h1) lx rfl rfl (fun a M=>by
  have t1:(Ax (f2 D8 (f2 Al (Af 1) (fC (.int 0))) (f2 Al (Af 0) (fC (.int 0))))) [some (prU a),some (prU q)] M=some (decide (q.1<=a.1),M):=rfl
  have t2:(Ax (f2 D8 (f2 Al (Af 1) (fC (.int 1))) (f2 Al (Af 0) (fC (.int 1))))) [some (prU a),some (prU q)] M=some (decide (q.2<=a.2),M):=rfl
  unfold Dm leP
  rw[fAnd_eq,t1]
  cases decide (q.1<=a.1) with
  | false=>simp only[aA,bT,if_false,iM]
  | true=>simp only[aA,if_true,t2,lX]) (fun _ _=>rfl)
 have s3:=Kx (i:=6) e3
 simp only[cH,bZ] at s3
 have g123:=(g1.trans g2).trans g3
 rw[cb] at s2 s3
 rw[ca] at s3
 generalize hb:(((m.filter fun p=>Ci p.2 q).length:Nat):Int)=b at s2 s3
 generalize ha:(((m.filter fun p=>Ci q p.2).length:Nat):Int)=a at s3
 obtain ⟨r4,L4,e4,h4,g4⟩:=T3 (q:=q) (rel:=fun p=>Ah2 p.2 q) (ev:=fun _=>.int 1) (tt:=Dq) (fe:=Dr) (δ:=[some (.ref o),some (.ref k),some (.ref t),some (prU q),some (.ref r1),some (.int b),some (.int a),none,none,none,none]) (g123.get T) lm rfl rfl (fun _ _=>rfl) (fun _ _=>rfl)
 have hlen4:=Kr h4
 rw[bF,ch] at hlen4
 generalize hh:((cntB m (q.1 - 1,q.2 - 1,q.1+1,q.2+1):Nat):Int)=h at hlen4
 have s4:(Bh (B0 Cy (Ac (Jd (By [none,some 3] (G3 Iw (Af 2)) (gN 0) (some Dq) Dr)) Ai)) (gN 7)) [some (.ref o),some (.ref k),some (.ref t),some (prU q),some (.ref r1),some (.int b),some (.int a),none,none,none,none] L3=some (.nx [some (.ref o),some (.ref k),some (.ref t),some (prU q),some (.ref r1),some (.int b),some (.int a),some (.int h),none,none,none],L4):=by
  rw[Dj,fCall_eq,fCons_eq,e4]
  simp only[aA,fNil_eq,aD,hlen4]
  rfl
 have g14:=g123.trans g4
 obtain ⟨r,i,L5,e5,h5,ro,D5,y5⟩:=Ae7 (δ:=[some (.ref o),some (.ref k),some (.ref t),some (prU q),some (.ref r1),some (.int b),some (.int a),some (.int h),none,none,none]) (D.gw g14) (by omega) (fun _=>rfl)
 have s5:=Kx (i:=8) e5
 simp only[cH,bZ] at s5
 have K5:Kept L5 k p m:=⟨y5.get (g14.get K.ob) ko,y5.get (g14.get K.pt) po⟩
 have q5:=A9 h5
 have hi:Cu (Af 8) [some (.ref o),some (.ref k),some (.ref t),some (prU q),some (.ref r1),some (.int b),some (.int a),some (.int h),some (.ref r),none,none] L5=some (.ref r,L5):=by
  rw[Ke,fVar_eq];simp only[aJ,aK,aQ,aD,aA,Ej q5]
 obtain ⟨δ',L6,e6,⟨y9,y10,rfl⟩,g6⟩:=P6 (us:=(Adp i).map U.int) (n:=r) (body:=Df) (g:=gN 9) (fun _ δ' M=>(∃ y9 y10,δ'=[some (.ref o),some (.ref k),some (.ref t),some (prU q),some (.ref r1),some (.int b),some (.int a),some (.int h),some (.ref r),y9,y10])/\Gw L5 M) hi ⟨⟨_,_,rfl⟩,Gw.refl _⟩
  (fun j δ' M hP=>by
   obtain ⟨_,g⟩:=hP
   exact g.seq q5)
  (fun j u δ' M hu hP=>by
   obtain ⟨⟨y9,y10,rfl⟩,g⟩:=hP
   rw[bV] at hu
   obtain ⟨w,hw,rfl⟩:=aH.mp hu
   obtain ⟨z10,M',e,g'⟩:=Afd (o:=o) (t:=t) (q:=q) (x4:=some (.ref r1)) (x8:=some (.ref r)) (x10:=y10) (K5.gw g) lm (Ak2 i w (fG hw)) hb.symm ha.symm hh.symm
   exact ⟨_,M,rfl,_,M',.inl e,⟨_,_,rfl⟩,g.trans g'⟩)
 refine ⟨L6,?_,D5.gw g6,((g14.ex o).trans y5).trans (g6.ex o)⟩
 have sp:Kc=(Be (Rm (Bh (By [none,some 3] (G3 Iw (Af 2)) (gN 0) (some Ez) Eu) (gN 4))) (Be (Bh (B0 Cy (Ac (By [none,some 3] (Cu (Af 4)) (gN 0) (some Dl) Ew) Ai)) (gN 5)) (Be (Bh (B0 Cy (Ac (By [none,some 3] (Cu (Af 4)) (gN 0) (some Dm) Ey) Ai)) (gN 6)) (Be (Bh (B0 Cy (Ac (Jd (By [none,some 3] (G3 Iw (Af 2)) (gN 0) (some Dq) Dr)) Ai)) (gN 7)) (Be (Bh (f2 Al (Ct (Ac (N7 0 1 2) (Ac (N7 1 2 0) (Ac (N7 2 1 0) (Ac (N7 1 0 2) Ai))))) (Bf 2 Ao (Ac (Af 0) (Ac (fC (.int 4)) Ai)))) (gN 8)) (Be (Rc (Cu (Af 8)) (gN 9) Df) (Cg (fC (.bl true))))))))):=rfl
 unfold Dv fnU
 simp only[aL,aM,if_true,aP,bL,aT,dZ,dS]
 rw[sp,Au s1,Au s2,Au s3,Au s4,Au s5,Au e6]
 rfl
end
section
variable {L:UH}{k p t:Nat}{m:List NP}
theorem Abo{fe fo:FE}{δ:UE}(hfe:∀ (p:NP) M,fe [some (.str p.1),some (prU p.2)] M=some (ptU p,M))(h:fo δ L=some (.ref t,L))(ht:L[t]? = some (.dic (kG (fun p=>prU p.2) m)))(hl:m.length < 1000)(hix:Ib [none,none] δ = [none,none]) :
  ∃ L',(B0 semTuple (Ac (Jd (By [none,none] (G3 Gm fo) (MR.gTup 2 (MR.gCons (gN 0) (MR.gCons (gN 1) MR.gNil))) none fe)) Ai)) δ L=some (.tup (m.map ptU),L')/\Gw L L':=by
 obtain ⟨x,e⟩:=Oo (ix:=[none,none]) (v:=Gm) (fo:=fo) (g:=(MR.gTup 2 (MR.gCons (gN 0) (MR.gCons (gN 1) MR.gNil)))) (tt:=none) (fe:=fe) (δ:=δ) (L:=L)
  m (fun p=>.tup [.str p.1,prU p.2]) (fun _=>true) ptU (fun δ=>∃ a b,δ = [a,b]) h ht (Ahb _ m) (by omega) ⟨none,none,hix⟩
  (fun p δ M _ hδ=>by
   obtain ⟨a,b,rfl⟩:=hδ
   exact ⟨[some (.str p.1),some (prU p.2)],rfl,⟨_,_,rfl⟩,[],by simp[Ig],fun _=>⟨[],by rw[hfe,aX,aX]⟩⟩)
 have hf:jJ (fun _=>true) m=m:=fO.mpr (fun _ _=>rfl)
 rw[hf] at e
 have q2:A7 (L++x++[HU.lst (m.map ptU)]) (L++x).length=some (m.map ptU):=A9 (by simp)
 refine ⟨L++x++[HU.lst (m.map ptU)],?_,⟨x++[HU.lst (m.map ptU)],by rw[cA]⟩⟩
 rw[fCall_eq,fCons_eq,e]
 simp only[aA,fNil_eq,aD,semTuple,q2]
theorem Xk(K:Kept L k p m)(T:L[t]? = some (.dic (kG (fun p=>prU p.2) m)))(ok:OkM m)(lm:m.length < 1000):∃ L',Er [.ref k,.ref t] L=some (.bl true,L')/\Gw L L':=by
 obtain ⟨L1,e1,g1⟩:=Abo (fe:=Og) (fo:=Af 1) (δ:=[some (.ref k),some (.ref t),none,none,none]) (fun _ _=>rfl) rfl T lm rfl
 have s1:=Kx (i:=2) e1
 simp only[cH,bZ] at s1
 have s2:=Kx (i:=3) (Lf (K.gw g1) (i:=0) (δ:=[some (.ref k),some (.ref t),some (.tup (m.map ptU)),none,none]) rfl)
 simp only[cH,bZ] at s2
 have hne:∀ M,Eh (.tup (m.map ptU)) (.tup (m.map ptU)) M=some (.bl false,M):=fun M=>by rw[Ww M (Ox ok) (Ox ok),N4 (Ox ok)];rfl
 have hi1:(Hf (Yo "tuple" (Af 3))) [some (.ref k),some (.ref t),some (.tup (m.map ptU)),some (.tup (m.map ptU)),none] L1=some (true,L1):=rfl
 have s3:(Dh (fOr (K4 (Hf (Yo "tuple" (Af 3)))) (Ax (f2 Eh (Af 3) (Af 2)))) (Cg (fC (.bl false))) Cv) [some (.ref k),some (.ref t),some (.tup (m.map ptU)),some (.tup (m.map ptU)),none] L1=some (.nx [some (.ref k),some (.ref t),some (.tup (m.map ptU)),some (.tup (m.map ptU)),none],L1):=by
  rw[Cr,fOr_eq,fNot_eq,hi1]
  simp only[aD,aA,hW,bT,if_false,fTest_eq,f2_eq,fVar_eq,aJ,aK,aQ,hne,Eg]
 obtain ⟨δ',L4,e4,⟨y4,rfl⟩,rfl⟩:=Abx (fi:=Cu (Af 3)) (us:=m.map ptU) (L:=L1) (L0:=L1) (δ:=[some (.ref k),some (.ref t),some (.tup (m.map ptU)),some (.tup (m.map ptU)),none]) (body:=Pe) (g:=gN 4)
  (fun _ δ' M=>(∃ y4,δ'=[some (.ref k),some (.ref t),some (.tup (m.map ptU)),some (.tup (m.map ptU)),y4])/\M=L1) rfl ⟨⟨_,rfl⟩,rfl⟩
  (fun j u δ' M hu hP=>by
   obtain ⟨⟨y4,rfl⟩,rfl⟩:=hP
   rw[bV] at hu
   obtain ⟨q,hq,rfl⟩:=aH.mp hu
   exact ⟨_,_,rfl,_,_,.inl rfl,⟨_,rfl⟩,rfl⟩)
 refine ⟨L4,?_,g1⟩
 unfold Er fnU T5
 simp only[aL,aM,if_true,aP,bL,aT,dZ,dS]
 rw[Au s1,Au s2,Au s3,Au e4]
 rfl
theorem Y9(T:L[t]? = some (.dic (kG (fun p=>prU p.2) m)))(lm:m.length < 1000):∃ L',Ho [.ref t] L=some (.int (pairs (m.map (·.2))),L')/\Gw L L':=by
 have hv:(m.map fun p=>prU p.2)=(m.map (·.2)).map prU:=by rw[eS];rfl
 have e1:(Le (Af 0)) [some (.ref t),none,none,none] L=some (.ref L.length,L++[.lst ((m.map (·.2)).map prU)]):=by
  unfold Le
  simp only[fVar_eq,aJ,aQ,aD,aA,Ii T,vals_kG,hv]
 have lx:(m.map (·.2)).length < 1000:=by rw[bF];exact lm
 have g1:Gw L (L++[.lst ((m.map (·.2)).map prU)]):=Gw.new _ _
 have h1:(L++[HU.lst ((m.map (·.2)).map prU)])[L.length]? = some (.lst ((m.map (·.2)).map prU)):=by simp
 have sw:=Aar (m.map (·.2))
 generalize m.map (·.2)=xs at e1 lx g1 h1 sw
 generalize L++[HU.lst (xs.map prU)]=M at e1 g1 h1
 generalize L.length=r at e1 h1
 have s1:=Kx (i:=1) e1
 simp only[cH,bZ] at s1
 have s2:(Bh (fC (.int 0)) (gN 2)) [some (.ref t),some (.ref r),none,none] M=some (.nx [some (.ref t),some (.ref r),some (.int 0),none],M):=rfl
 have q1:=A9 h1
 have hi:Cu (Af 1) [some (.ref t),some (.ref r),some (.int 0),none] M=some (.ref r,M):=by
  rw[Ke,fVar_eq];simp only[aJ,aK,aQ,aD,aA,Ej q1]
 obtain ⟨δ',L3,e3,⟨y3,rfl⟩,g3⟩:=P6 (us:=xs.map prU) (n:=r) (body:=Pp) (g:=gN 3) (fun j δ' N=>(∃ y3,δ'=[some (.ref t),some (.ref r),some (.int (((xs.take j).map fun q=>((xs.filter fun o=>Ci q o).length:Int)).sum)),y3])/\Gw M N) hi ⟨⟨_,rfl⟩,Gw.refl _⟩
  (fun j δ' N hP=>by
   obtain ⟨_,g⟩:=hP
   exact g.seq q1)
  (fun j u δ' N hu hP=>by
   obtain ⟨⟨y3,rfl⟩,g⟩:=hP
   rw[bV] at hu
   obtain ⟨q,hq,rfl⟩:=aH.mp hu
   obtain ⟨N',e,g'⟩:=Q2 (j:=1) (q:=q) (rel:=fun a=>Ci q a) (tt:=Hh) (fe:=Ki) (δ:=[some (.ref t),some (.ref r),some (.int (((xs.take j).map fun q=>((xs.filter fun o=>Ci q o).length:Int)).sum)),some (prU q)]) (g.get h1) lx rfl rfl (fun a M=>by
    have t1:(Ax (f2 D8 (f2 Al (Af 1) (fC (.int 0))) (f2 Al (Af 0) (fC (.int 0))))) [some (prU a),some (prU q)] M=some (decide (q.1<=a.1),M):=rfl
    have t2:(Ax (f2 D8 (f2 Al (Af 1) (fC (.int 1))) (f2 Al (Af 0) (fC (.int 1))))) [some (prU a),some (prU q)] M=some (decide (q.2<=a.2),M):=rfl
    have t3:(Ax (f2 Eh (Af 1) (Af 0))) [some (prU a),some (prU q)] M=some (!(q.1 == a.1&&(q.2 == a.2&&true)),M):=rfl
    unfold Hh Ci
    rw[fAnd_eq,t1]
    cases decide (q.1<=a.1) with
    | false=>simp only[aA,bT,if_false,iM]
    | true=>
     simp only[aA,if_true,fAnd_eq,t2,lX]
     cases decide (q.2<=a.2) with
     | false=>simp only[bT,if_false,iM]
     | true=>simp only[if_true,t3,lX]) (fun _ _=>rfl)
   have hs:((xs.take (j+1)).map fun q=>((xs.filter fun o=>Ci q o).length:Int)).sum=((xs.take j).map fun q=>((xs.filter fun o=>Ci q o).length:Int)).sum+((xs.filter fun a=>Ci q a).length:Nat):=by
    rw[lH,hq,fY,List.sum_append]
    simp
   rw[hs]
   generalize ((xs.take j).map fun q=>((xs.filter fun o=>Ci q o).length:Int)).sum=c at e
   have v2:Af 2 [some (U.ref t),some (.ref r),some (.int c),some (prU q)] N=some (.int c,N):=rfl
   have e':(f2 Bs (Af 2) (B0 Cy (Ac (By [none,some 3] (Cu (Af 1)) (gN 0) (some Hh) Ki) Ai))) [some (.ref t),some (.ref r),some (.int c),some (prU q)] N=some (.int (c+((xs.filter fun a=>Ci q a).length:Nat)),N'):=by
    rw[f2_eq,v2,aA,e]
    simp only[aA,Aad]
   exact ⟨[some (.ref t),some (.ref r),some (.int c),some (prU q)],N,rfl,_,N',.inl (Kx (i:=2) e'),⟨some (prU q),rfl⟩,g.trans g'⟩)
 rw[bF,pN,sw] at e3
 refine ⟨L3,?_,g1.trans g3⟩
 unfold Ho fnU T9
 simp only[aL,aM,if_true,aP,bL,aT,dZ,dS]
 rw[Au s1,Au s2,Au e3]
 rfl
end
structure Ad where
 k:Nat
 p:Nat
 t:Nat
noncomputable def Pd(x:List NP):U:=.tup [.tup (x.map ptU),.tup (x.map ptU)]
structure St(ks:List (Nat×HU))(bd:Nat)(L:UH)(d h:Nat)(B:Int)(A:Nat->Ad)(m:Nat->List NP)(hs:List (List NP))(c:Nat):Prop where
 D:Seed L d B
 H:L[h]? = some (.lst (hs.map Pd))
 K:∀ i,i < 2->Kept L (A i).k (A i).p (m i)
 T:∀ i,i < 2->L[(A i).t]? = some (.dic (kG (fun p=>prU p.2) (m i)))
 ok:∀ i,i < 2->OkM (m i)
 ln:∀ i,i < 2->(m i).length<=c
 hk:∀ x∈hs,OkM x
 hl:hs.length<=c
 ap:∀ i j,i < 2->j < 2->i≠j->(A i).p≠(A j).p/\(A i).t≠(A j).t
 apt:∀ i j,i < 2->j < 2->(A i).p≠(A j).t
 ad:∀ i,i < 2->(A i).k≠d/\(A i).p≠d/\(A i).t≠d
 ab:∀ i,i < 2->(A i).k < bd/\(A i).p < bd/\(A i).t < bd
 hd:h≠d
 db:d < bd
 hb:h < bd
 le:bd<=L.length
 kp:∀ q∈ks,L[q.1]? = some q.2/\q.1 < bd/\q.1≠d/\q.1≠h/\∀ kv,q.2≠.dic kv
theorem Il{L:UH}{i j:Nat}{kv:List (Key×U)}{o:HU}(h:L[i]? = some o)(hj:L[j]? = some (.dic kv))(ho:o≠.dic kv):i≠j:=fun z=>by
 rw[z,hj] at h
 cases h
 exact ho rfl
noncomputable def upM(m:Nat->List NP)(i:Nat)(m':List NP):Nat->List NP:=fun j=>if j=i then m' else m j
section
variable {ks:List (Nat×HU)}{bd:Nat}{L L':UH}{d h:Nat}{B B':Int}{A:Nat->Ad}{m:Nat->List NP}{hs:List (List NP)}{c c':Nat}
theorem St.keep(S:St ks bd L d h B A m hs c)(D:Seed L' d B')(f:∀ i o,L[i]? = some o->i < bd->i≠d->L'[i]? = some o)(le:L.length<=L'.length):St ks bd L' d h B' A m hs c:=
 ⟨D,f _ _ S.H S.hb S.hd,fun i hi=>⟨f _ _ (S.K i hi).ob (S.ab i hi).1 (S.ad i hi).1,f _ _ (S.K i hi).pt (S.ab i hi).2.1 (S.ad i hi).2.1⟩,fun i hi=>f _ _ (S.T i hi) (S.ab i hi).2.2 (S.ad i hi).2.2,S.ok,S.ln,S.hk,S.hl,S.ap,S.apt,S.ad,S.ab,S.hd,S.db,S.hb,cC S.le le,fun q hq=>⟨f _ _ (S.kp q hq).1 (S.kp q hq).2.1 (S.kp q hq).2.2.1,(S.kp q hq).2⟩⟩
theorem St.ex(S:St ks bd L d h B A m hs c)(D:Seed L' d B')(x:Ex d L L'):St ks bd L' d h B' A m hs c:=
 S.keep D (fun i o e _ hd=>x.get e hd) x.le
theorem Seed.same{o:Nat}(D:Seed L d B)(e:L'[d]? = L[d]?):Seed L' d B:=by
 obtain ⟨a,b,c,e',h1,h2⟩:=D.ex
 exact ⟨a,b,c,e',by rw[e];exact h1,h2⟩
theorem St.exo{o:Nat}(S:St ks bd L d h B A m hs c)(ho:bd<=o)(x:Ex o L L'):St ks bd L' d h B A m hs c:=
 S.keep (Seed.same (o:=o) S.D (x.at_ d (aU S.db S.le) (by have:=S.db;omega))) (fun i o' e hi _=>x.get e (by omega)) x.le
theorem St.gw(S:St ks bd L d h B A m hs c)(g:Gw L L'):St ks bd L' d h B A m hs c:=S.ex (S.D.gw g) (g.ex d)
theorem St.more(S:St ks bd L d h B A m hs c)(hc:c<=c'):St ks bd L d h B A m hs c':=
 ⟨S.D,S.H,S.K,S.T,S.ok,fun i hi=>cC (S.ln i hi) hc,S.hk,cC S.hl hc,S.ap,S.apt,S.ad,S.ab,S.hd,S.db,S.hb,S.le,S.kp⟩
theorem St.turned{o l a n:Nat}{Bo:Int}{m':List NP}{names:List Str}{ls:List U}(S:St ks bd L d h B A m hs c)(ha:a < 2)(ho:bd<=o)(hl:bd<=l)(f:Fr (TQ o (A a).p (A a).t l) L L')(O:One L' o (A a).k (A a).p (A a).t n l Bo m' names ls)(hm:m'.length<=c+1):St ks bd L' d h B A (upM m a m') hs (c+1):=by
 have dT:¬ TQ o (A a).p (A a).t l d:=nTQ (by have:=S.db;omega) (cR (S.ad a ha).2.1) (cR (S.ad a ha).2.2) (by have:=S.db;omega)
 have nd:∀ i o',L[i]? = some o'->i < bd->i≠(A a).p->i≠(A a).t->L'[i]? = some o':=fun i o' e hi h1 h2=>f.get e (nTQ (by omega) h1 h2 (by omega))
 have same:upM m a m' a=m':=if_pos rfl
 have other:∀ i,i≠a->upM m a m' i=m i:=fun i hi=>if_neg hi
 refine ⟨Seed.same (o:=o) S.D (f.at_ d (aU S.db S.le) dT),nd _ _ S.H S.hb (Il S.H (S.K a ha).pt nofun) (Il S.H (S.T a ha) nofun),fun i hi=>?_,fun i hi=>?_,fun i hi=>?_,fun i hi=>?_,S.hk,by have:=S.hl;omega,S.ap,S.apt,S.ad,S.ab,S.hd,S.db,S.hb,cC S.le f.le,fun q hq=>⟨nd _ _ (S.kp q hq).1 (S.kp q hq).2.1 (Il (S.kp q hq).1 (S.K a ha).pt ((S.kp q hq).2.2.2.2 _)) (Il (S.kp q hq).1 (S.T a ha) ((S.kp q hq).2.2.2.2 _)),(S.kp q hq).2⟩⟩
 ·by_cases e:i=a
  ·subst e;rw[same];exact O.K
  ·rw[other i e]
   exact ⟨nd _ _ (S.K i hi).ob (S.ab i hi).1 (Il (S.K i hi).ob (S.K a ha).pt nofun) (Il (S.K i hi).ob (S.T a ha) nofun),nd _ _ (S.K i hi).pt (S.ab i hi).2.1 (S.ap i a hi ha e).1 (S.apt i a hi ha)⟩
 ·by_cases e:i=a
  ·subst e;rw[same];exact O.T
  ·rw[other i e]
   exact nd _ _ (S.T i hi) (S.ab i hi).2.2 (cR (S.apt a i ha hi)) (S.ap i a hi ha e).2
 ·by_cases e:i=a
  ·subst e;rw[same];exact O.ok
  ·rw[other i e];exact S.ok i hi
 ·by_cases e:i=a
  ·subst e;rw[same];exact hm
  ·rw[other i e];exact pB (S.ln i hi)
theorem St.one{o l a n:Nat}{Bo:Int}{names:List Str}{ls:List U}(S:St ks bd L d h B A m hs c)(ha:a < 2)(Do:Seed L o Bo)(ho:bd<=o)(hl:bd<=l)(lo:l≠o)(P:L[l]? = some (.lst ls))(hn:(n,.lst (names.map U.str))∈ks)(nm:0 < names.length/\names.length<=100)(sp:∀ x∈names,x∈spare3):One L o (A a).k (A a).p (A a).t n l Bo (m a) names ls:=by
 have ab:=S.ab a ha
 have kn:=S.kp _ hn
 have nb:n < bd:=kn.2.1
 exact ⟨Do,S.K a ha,S.T a ha,kn.1,P,S.ok a ha,by omega,by omega,by omega,by omega,lo,S.apt a a ha ha,by omega,nm,sp⟩
end
section
variable {ks:List (Nat×HU)}{bd:Nat}{L L':UH}{d h o n KK TT a:Nat}{B B' Bo:Int}{A:Nat->Ad}{m:Nat->List NP}{hs:List (List NP)}{c c':Nat}{names:List Str}{x0 x6 x9 x10:Option U}
theorem Alk{u v:Nat}(hq:L[KK]? = some (.lst [.ref u,.ref v]))(ha:a < 2):Al (.ref KK) (.int (a:Nat)) L=some (.ref (if a=0 then u else v),L):=by
 rw[semIx_ref,A9 hq]
 have:a=0\/a=1:=by omega
 rcases this with rfl | rfl <;> rfl
structure Fx(ks:List (Nat×HU))(n KK TT:Nat)(A:Nat->Ad)(names:List Str):Prop where
 N:(n,HU.lst (names.map U.str))∈ks
 K:(KK,HU.lst [.ref (A 0).k,.ref (A 1).k])∈ks
 T:(TT,HU.lst [.ref (A 0).t,.ref (A 1).t])∈ks
 nm:0 < names.length/\names.length<=100
 sp:∀ x∈names,x∈spare3
theorem Fx.k(F:Fx ks n KK TT A names)(S:St ks bd L d h B A m hs c)(ha:a < 2):Al (.ref KK) (.int (a:Nat)) L=some (.ref (A a).k,L):=by
 rw[Alk (S.kp _ F.K).1 ha]
 have:a=0\/a=1:=by omega
 rcases this with rfl | rfl <;> rfl
theorem Fx.t(F:Fx ks n KK TT A names)(S:St ks bd L d h B A m hs c)(ha:a < 2):Al (.ref TT) (.int (a:Nat)) L=some (.ref (A a).t,L):=by
 rw[Alk (S.kp _ F.T).1 ha]
 have:a=0\/a=1:=by omega
 rcases this with rfl | rfl <;> rfl
inductive T4(v:Option (Fl×UH))(δ:Option U->UE)(ks:List (Nat×HU))(bd d h o:Nat)(B Bo:Int)(A:Nat->Ad)(hs:List (List NP))(c:Nat):Prop
 | mk (y:Option U) (m:Nat->List NP) (L':UH) (e:v=some (.nx (δ y),L')) (D:Seed L' o Bo) (S:St ks bd L' d h B A m hs c)
theorem Alz{fe:FE}{δ:UE}{L L':UH}(e:fe δ L=some (.bl true,L')):(Dh (K4 (Hf fe)) (Cg (fC (.bl false))) Cv) δ L=some (.nx δ,L'):=by
 rw[Cr,fNot_eq,fTru_eq,e]
 simp only[aA,truU_bl,aD,hW,bT,if_false,Eg]
theorem Aqf(F:Fx ks n KK TT A names)(S:St ks bd L d h B A m hs c)(Do:Seed L o Bo)(ho:bd<=o)(hBo:Bo<=1000)(ha:a < 2)(hc:c<=800):T4 (P8 [x0,some (.ref d),some (.ref n),some (.ref KK),some (.ref TT),some (.ref h),x6,some (.ref o),some (.int (a:Nat)),x9,x10] L) (fun y=>[x0,some (.ref d),some (.ref n),some (.ref KK),some (.ref TT),some (.ref h),x6,some (.ref o),some (.int (a:Nat)),x9,y]) ks bd d h o B (Bo+21) A hs (c+1):=by
 have s1:(Bh (Ct Ai) (gN 10)) [x0,some (.ref d),some (.ref n),some (.ref KK),some (.ref TT),some (.ref h),x6,some (.ref o),some (.int (a:Nat)),x9,x10] L=some (.nx [x0,some (.ref d),some (.ref n),some (.ref KK),some (.ref TT),some (.ref h),x6,some (.ref o),some (.int (a:Nat)),x9,some (.ref L.length)],L++[.lst []]):=rfl
 have S1:=S.gw (Gw.new L [.lst []])
 have D1:=Do.gw (Gw.new L [.lst []])
 have P1:(L++[HU.lst []])[L.length]? = some (.lst []):=by simp
 have le:=S.le
 have ol:=Do.lt
 generalize L++[HU.lst []]=M at s1 S1 D1 P1
 generalize L.length=l at s1 P1 le ol
 have O1:=S1.one ha D1 ho le (by omega) P1 F.N F.nm F.sp
 have lm:=S1.ln a ha
 obtain ⟨q,m',M2,e2,O2,l2,f2'⟩:=Ak3 O1 (by omega) (by omega)
 have S2:=S1.turned ha ho le f2' O2 (by omega)
 have hm:upM m a m' a=m':=if_pos rfl
 have K2:=S2.K a ha
 have T2:=S2.T a ha
 rw[hm] at K2 T2
 have ab:=S.ab a ha
 obtain ⟨M3,e3,D3,y3⟩:=Ads (q:=q) O2.D (by omega) K2 T2 (by omega) (by omega) (by omega)
 have S3:=S2.exo ho y3
 refine ⟨some (.ref l),upM m a m',M3,?_,D3.mono (by omega),S3⟩
 generalize hδ:[x0,some (U.ref d),some (.ref n),some (.ref KK),some (.ref TT),some (.ref h),x6,some (.ref o),some (.int (a:Nat)),x9,some (.ref l)] = δ at s1
 have v2:∀ N,Af 2 δ N=some (.ref n,N):=fun N=>by rw[<- hδ];rfl
 have v3:∀ N,Af 3 δ N=some (.ref KK,N):=fun N=>by rw[<- hδ];rfl
 have v4:∀ N,Af 4 δ N=some (.ref TT,N):=fun N=>by rw[<- hδ];rfl
 have v7:∀ N,Af 7 δ N=some (.ref o,N):=fun N=>by rw[<- hδ];rfl
 have v8:∀ N,Af 8 δ N=some (.int (a:Nat),N):=fun N=>by rw[<- hδ];rfl
 have v10:∀ N,Af 10 δ N=some (.ref l,N):=fun N=>by rw[<- hδ];rfl
 have c2:(Bf 5 Lc (Ac (Af 7) (Ac (f2 Al (Af 3) (Af 8)) (Ac (f2 Al (Af 4) (Af 8)) (Ac (Af 2) (Ac (Af 10) Ai)))))) δ M=some (.bl true,M2):=by
  simp only[fOwn_eq,fCons_eq,fNil_eq,f2_eq,v2,v3,v4,v7,v8,v10,aD,aA,F.k S1 ha,F.t S1 ha,aL,aM,if_true,e2]
 have c3:(Bf 4 Dv (Ac (Af 7) (Ac (f2 Al (Af 3) (Af 8)) (Ac (f2 Al (Af 4) (Af 8)) (Ac (f2 Al (Af 10) (fC (.int 0))) Ai))))) δ M2=some (.bl true,M3):=by
  have hp:Al (.ref l) (.int 0) M2=some (prU q,M2):=by rw[semIx_ref,A9 O2.P];rfl
  simp only[fOwn_eq,fCons_eq,fNil_eq,f2_eq,fC_eq,v3,v4,v7,v8,v10,aD,aA,F.k S2 ha,F.t S2 ha,hp,aL,aM,if_true,e3]
 unfold P8
 rw[Au s1,Au (Alz c2),Alz c3]
theorem St.held(S:St ks bd L d h B A m hs c){x:List NP}(hx:OkM x):St ks bd (L.set h (.lst ((hs++[x]).map Pd))) d h B A m (hs++[x]) (c+1):=by
 have hlt:=(aR.mp S.H).1
 have ne:∀ {i:Nat} {o':HU},L[i]? = some o'->i≠h->(L.set h (.lst ((hs++[x]).map Pd)))[i]? = some o':=fun e hi=>by rw[bA (cR hi)];exact e
 have kh:∀ i,i < 2->(A i).k≠h:=fun i hi z=>by have:=(S.K i hi).ob;rw[z,S.H] at this;cases this
 refine ⟨S.D.set S.hd _,bU hlt,fun i hi=>⟨ne (S.K i hi).ob (kh i hi),ne (S.K i hi).pt (cR (Il S.H (S.K i hi).pt nofun))⟩,fun i hi=>ne (S.T i hi) (cR (Il S.H (S.T i hi) nofun)),S.ok,fun i hi=>pB (S.ln i hi),fun y hy=>?_,by have:=S.hl;simp only[cG,aL,aM];omega,S.ap,S.apt,S.ad,S.ab,S.hd,S.db,S.hb,by rw[jN];exact S.le,fun q hq=>⟨ne (S.kp q hq).1 (S.kp q hq).2.2.2.1,(S.kp q hq).2⟩⟩
 rcases fW.mp hy with z | z
 ·exact S.hk y z
 ·rw[eI.mp z];exact hx
end
section
variable {ks:List (Nat×HU)}{bd:Nat}{L L':UH}{d h o n KK TT a:Nat}{B B' Bo:Int}{A:Nat->Ad}{m:Nat->List NP}{hs:List (List NP)}{c c':Nat}{names:List Str}{x0 x6 x7 x8 x9 x10:Option U}
inductive C2(v:Option (Fl×UH))(δ:Option U->Option U->Option U->Option U->UE)(ks:List (Nat×HU))(bd d h:Nat)(B:Int)(A:Nat->Ad)(c:Nat):Prop
 | mk (y7 y8 y9 y10:Option U) (m:Nat->List NP) (hs:List (List NP)) (L':UH) (e:v=some (.nx (δ y7 y8 y9 y10),L')) (S:St ks bd L' d h B A m hs c)
theorem semAddA_int(i j:Int)(L:UH):Dp (.int i) (.int j) L=some (.int (i+j),L):=rfl
theorem Afl{cell:Int}(S:St ks bd L d h B A m hs c)(hB:B<=50000):∃ (o a:Nat) (L':UH),(Be (Bh (Bf 1 G1 (Ac (f2 Dp (Af 6) (Bf 2 Ao (Ac (Af 1) (Ac (fC (.int 1000)) Ai)))) Ai)) (gN 7)) (Bh (B0 Gj (Ac (f2 Bm (Bf 2 Ao (Ac (Af 7) (Ac (fC (.int 4)) Ai))) (fC (.int 0))) Ai)) (gN 8))) [x0,some (.ref d),some (.ref n),some (.ref KK),some (.ref TT),some (.ref h),some (.int cell),x7,x8,x9,x10] L=some (.nx [x0,some (.ref d),some (.ref n),some (.ref KK),some (.ref TT),some (.ref h),some (.int cell),some (.ref o),some (.int (a:Nat)),x9,x10],L')/\a < 2/\bd<=o/\Seed L' o 1/\St ks bd L' d h (B+1) A m hs c:=by
 obtain ⟨w,L1,e1,w0,w1,D1,y1⟩:=C7 (many:=1000) S.D (by omega) (by decide) (by decide)
 have S1:=S.ex D1 y1
 obtain ⟨L2,e2,D2,g2⟩:=Abj (cell+w) L1
 have S2:=S1.gw g2
 have le1:=S1.le
 have ol:=D2.lt
 obtain ⟨u,L3,e3,u0,u1,D3,y3⟩:=C7 (many:=4) D2 (by omega) (by decide) (by decide)
 have S3:=S2.exo le1 y3
 have s1:(Bh (Bf 1 G1 (Ac (f2 Dp (Af 6) (Bf 2 Ao (Ac (Af 1) (Ac (fC (.int 1000)) Ai)))) Ai)) (gN 7)) [x0,some (.ref d),some (.ref n),some (.ref KK),some (.ref TT),some (.ref h),some (.int cell),x7,x8,x9,x10] L=some (.nx [x0,some (.ref d),some (.ref n),some (.ref KK),some (.ref TT),some (.ref h),some (.int cell),some (.ref L1.length),x8,x9,x10],L2):=by
  have hd:=Nq (i:=1) (δ:=[x0,some (.ref d),some (.ref n),some (.ref KK),some (.ref TT),some (.ref h),some (.int cell),x7,x8,x9,x10]) rfl e1
  have v6:Af 6 [x0,some (U.ref d),some (.ref n),some (.ref KK),some (.ref TT),some (.ref h),some (.int cell),x7,x8,x9,x10] L=some (.int cell,L):=rfl
  rw[Dj,fOwn_eq,fCons_eq,f2_eq,v6,aA,hd]
  simp only[aA,semAddA_int,fNil_eq,aD,aL,aM,if_true,e2]
  rfl
 have hd3:=Nq (i:=7) (δ:=[x0,some (.ref d),some (.ref n),some (.ref KK),some (.ref TT),some (.ref h),some (.int cell),some (.ref L1.length),x8,x9,x10]) rfl e3
 have s2:∀ b:Bool,(u == 0)=b->(Bh (B0 Gj (Ac (f2 Bm (Bf 2 Ao (Ac (Af 7) (Ac (fC (.int 4)) Ai))) (fC (.int 0))) Ai)) (gN 8)) [x0,some (.ref d),some (.ref n),some (.ref KK),some (.ref TT),some (.ref h),some (.int cell),some (.ref L1.length),x8,x9,x10] L2=some (.nx [x0,some (.ref d),some (.ref n),some (.ref KK),some (.ref TT),some (.ref h),some (.int cell),some (.ref L1.length),some (.int ((if b=true then 1 else 0:Nat):Nat)),x9,x10],L3):=fun b hb=>by
  have ht:(f2 Bm (Bf 2 Ao (Ac (Af 7) (Ac (fC (.int 4)) Ai))) (fC (.int 0))) [x0,some (.ref d),some (.ref n),some (.ref KK),some (.ref TT),some (.ref h),some (.int cell),some (.ref L1.length),x8,x9,x10] L2=some (.bl b,L3):=by
   rw[f2_eq,hd3]
   simp only[aA,fC_eq,O6,hb]
  rw[Dj,fCall_eq,fCons_eq,ht]
  cases b <;> rfl
 refine ⟨L1.length,(if (u == 0)=true then 1 else 0:Nat),L3,?_,by split <;> omega,le1,D3,S3⟩
 rw[Au s1]
 exact s2 _ rfl
theorem Aaq{f g k:FS}{δ δ':UE}{L L':UH}(h:(Be f g) δ L=some (.nx δ',L')):(Be f (Be g k)) δ L=k δ' L':=by
 rw[fSeq_eq] at h ⊢
 cases hf:f δ L with
 | none=>rw[hf] at h;cases h
 | some r=>
  obtain ⟨fl,M⟩:=r
  rw[hf] at h
  cases fl with
  | nx δ1=>
   have h':g δ1 M=some (.nx δ',L'):=h
   show (Be g k) δ1 M=_
   rw[Au h']
  | _=>cases h
theorem Ak7{cell:Int}(F:Fx ks n KK TT A names)(S:St ks bd L d h B A m hs c)(hB:B<=50000)(hc:c<=700):C2 (Qb [x0,some (.ref d),some (.ref n),some (.ref KK),some (.ref TT),some (.ref h),some (.int cell),x7,x8,x9,x10] L) (fun y7 y8 y9 y10=>[x0,some (.ref d),some (.ref n),some (.ref KK),some (.ref TT),some (.ref h),some (.int cell),y7,y8,y9,y10]) ks bd d h (B+1) A (c+5):=by
 obtain ⟨o,a,L1,e1,ha,ho,D1,S1⟩:=Afl (x0:=x0) (n:=n) (KK:=KK) (TT:=TT) (cell:=cell) (x7:=x7) (x8:=x8) (x9:=x9) (x10:=x10) S hB
 obtain ⟨w,L2,e2,w0,w1,D2,y2⟩:=C7 (many:=4) D1 (by omega) (by decide) (by decide)
 have S2:=S1.exo ho y2
 have hi:Oc (Ac (f2 Dp (fC (.int 1)) (Bf 2 Ao (Ac (Af 7) (Ac (fC (.int 4)) Ai)))) Ai) [x0,some (.ref d),some (.ref n),some (.ref KK),some (.ref TT),some (.ref h),some (.int cell),some (.ref o),some (.int (a:Nat)),x9,x10] L1=some (.seq (Fb 0 (1+w).toNat),L2):=by
  refine Yr ?_ (by omega)
  rw[fCons_eq,f2_eq,fC_eq,aA,Nq (i:=7) rfl e2]
  simp only[aA,semAddA_int,fNil_eq,aD]
  rw[Int.toNat_of_nonneg (by omega)]
 obtain ⟨δ',L3,e3,⟨y9,y10,m3,rfl,D3,S3⟩,_⟩:=Abx (us:=Fb 0 (1+w).toNat) (body:=P8) (g:=gN 9) (fun j δ' M=>(∃ y9 y10 m',δ'=[x0,some (.ref d),some (.ref n),some (.ref KK),some (.ref TT),some (.ref h),some (.int cell),some (.ref o),some (.int (a:Nat)),y9,y10]/\Seed M o (2+21 * j)/\St ks bd M d h (B+1) A m' hs (c+j))/\j<=4) hi ⟨⟨x9,x10,m,rfl,D2.mono (by omega),S2⟩,by omega⟩
  (fun j u δ' M hu hP=>by
   obtain ⟨⟨y9,y10,m',rfl,DM,SM⟩,hj⟩:=hP
   obtain ⟨hk,rfl⟩:=Sn hu
   obtain ⟨z,m2,M',e,D',S'⟩:=Aqf (x0:=x0) (x6:=some (.int cell)) (x9:=some (.int (0+(j:Int)))) (x10:=y10) F SM DM ho (by omega) ha (by omega)
   exact ⟨_,M,rfl,_,M',.inl e,⟨_,_,_,rfl,D'.mono (by omega),S'⟩,by omega⟩)
 have S3':=S3.more (c':=c+4) (by rw[Rq];omega)
 generalize hδ:[x0,some (U.ref d),some (.ref n),some (.ref KK),some (.ref TT),some (.ref h),some (.int cell),some (.ref o),some (.int (a:Nat)),y9,y10] = δ at e3
 have v3:∀ N,Af 3 δ N=some (.ref KK,N):=fun N=>by rw[<- hδ];rfl
 have v4:∀ N,Af 4 δ N=some (.ref TT,N):=fun N=>by rw[<- hδ];rfl
 have v5:∀ N,Af 5 δ N=some (.ref h,N):=fun N=>by rw[<- hδ];rfl
 have v8:∀ N,Af 8 δ N=some (.int (a:Nat),N):=fun N=>by rw[<- hδ];rfl
 have lm:∀ i,i < 2->(m3 i).length < 1000:=fun i hi=>by have:=S3'.ln i hi;omega
 obtain ⟨L4,e4,g4⟩:=Xk (S3'.K a ha) (S3'.T a ha) (S3'.ok a ha) (lm a ha)
 have S4:=S3'.gw g4
 have hb:1 - a < 2:=by omega
 obtain ⟨L5,e5,g5⟩:=Xk (S4.K (1 - a) hb) (S4.T (1 - a) hb) (S4.ok (1 - a) hb) (lm (1 - a) hb)
 have S5:=S4.gw g5
 have h1a:∀ N,(f2 Dw (fC (.int 1)) (Af 8)) δ N=some (.int ((1 - a:Nat):Nat),N):=fun N=>by
  rw[f2_eq,fC_eq,aA,v8]
  simp only[aA,Y1]
  have:(1:Int) - (a:Nat)=((1 - a:Nat):Nat):=by omega
  rw[this]
 have s4:(Dh (fOr (K4 (Hf (Bf 2 Er (Ac (f2 Al (Af 3) (Af 8)) (Ac (f2 Al (Af 4) (Af 8)) Ai))))) (K4 (Hf (Bf 2 Er (Ac (f2 Al (Af 3) (f2 Dw (fC (.int 1)) (Af 8))) (Ac (f2 Al (Af 4) (f2 Dw (fC (.int 1)) (Af 8))) Ai)))))) (Cg (fC (.bl false))) Cv) δ L3=some (.nx δ,L5):=by
  have c1:(Bf 2 Er (Ac (f2 Al (Af 3) (Af 8)) (Ac (f2 Al (Af 4) (Af 8)) Ai))) δ L3=some (.bl true,L4):=by
   simp only[fOwn_eq,fCons_eq,fNil_eq,f2_eq,v3,v4,v8,aD,aA,F.k S3' ha,F.t S3' ha,aL,aM,if_true,e4]
  have c2:(Bf 2 Er (Ac (f2 Al (Af 3) (f2 Dw (fC (.int 1)) (Af 8))) (Ac (f2 Al (Af 4) (f2 Dw (fC (.int 1)) (Af 8))) Ai))) δ L4=some (.bl true,L5):=by
   rw[fOwn_eq,fCons_eq,f2_eq,v3,aA,h1a,aA,F.k S4 hb,aA,fCons_eq,f2_eq,v4,aA,h1a,aA,F.t S4 hb]
   simp only[aA,fNil_eq,aD,aL,aM,if_true,e5]
  rw[Cr,fOr_eq,fNot_eq,fTru_eq,c1]
  simp only[aA,truU_bl,aD,hW,bT,if_false,fNot_eq,fTru_eq,c2,Eg]
 obtain ⟨L6,e6,g6⟩:=V8 (S5.K a ha) (lm a ha)
 have S6:=S5.gw g6
 obtain ⟨L7,e7,g7⟩:=Y9 (S6.T a ha) (lm a ha)
 have S7:=S6.gw g7
 have ok3:∀ N,(f2 Al (Af 3) (Af 8)) δ N=Al (.ref KK) (.int (a:Nat)) N:=fun N=>by rw[f2_eq,v3,aA,v8];rfl
 have ot4:∀ N,(f2 Al (Af 4) (Af 8)) δ N=Al (.ref TT) (.int (a:Nat)) N:=fun N=>by rw[f2_eq,v4,aA,v8];rfl
 have s5:(Dh (Ax (f2 Eh (Cd "KeptPoints" "pairs_now" 1 B3 (f2 Al (Af 3) (Af 8)) Ai) (Bf 1 Ho (Ac (f2 Al (Af 4) (Af 8)) Ai)))) (Cg (fC (.bl false))) Cv) δ L5=some (.nx δ,L7):=by
  have c1:=Kl (s := "pairs_now") (n:=1) (F:=B3) (fo:=f2 Al (Af 3) (Af 8)) (g:=Ai) (us:=[]) (δ:=δ) (S5.K a ha) (by decide +kernel) ((ok3 L5).trans (F.k S5 ha)) rfl rfl e6
  have c2:(Bf 1 Ho (Ac (f2 Al (Af 4) (Af 8)) Ai)) δ L6=some (.int (pairs ((m3 a).map (·.2))),L7):=by
   rw[fOwn_eq,fCons_eq,ot4,F.t S6 ha]
   simp only[aA,fNil_eq,aD,aL,aM,if_true,e7]
  rw[Cr,fTest_eq,f2_eq,c1,aA,c2]
  simp only[aA,ne_int,bT,if_false,Eg]
 obtain ⟨L8,e8,g8⟩:=Abo (fe:=Qn) (fo:=f2 Al (Af 4) (Af 8)) (δ:=δ) (fun _ _=>rfl) ((ot4 L7).trans (F.t S7 ha)) (S7.T a ha) (lm a ha) (by rw[<- hδ];rfl)
 have S8:=S7.gw g8
 have S9:=S8.held (x:=m3 a) (S3'.ok a ha)
 have s6:(Fz (Mr "list" Ei (Af 5) (Ac (G4 (Ac (Cd "KeptPoints" "points_now" 1 Ar (f2 Al (Af 3) (Af 8)) Ai) (Ac (B0 semTuple (Ac (Jd (By [none,none] (G3 Gm (f2 Al (Af 4) (Af 8))) (MR.gTup 2 (MR.gCons (gN 0) (MR.gCons (gN 1) MR.gNil))) none Qn)) Ai)) Ai))) Ai))) δ L7=some (.nx δ,L8.set h (.lst ((hs++[m3 a]).map Pd))):=by
  have sm2:∀ x y:U,Dk [x,y].length=true:=fun _ _=>Bq (by show 2<=16777216;decide)
  have c1:=Kl (s := "points_now") (n:=1) (F:=Ar) (fo:=f2 Al (Af 3) (Af 8)) (g:=Ai) (us:=[]) (δ:=δ) (S7.K a ha) (by decide +kernel) ((ok3 L7).trans (F.k S7 ha)) rfl rfl (Jh (S7.K a ha))
  have ap:=U9 (Pd (m3 a)) S8.H (by have:=S8.hl;simp only[bF];omega)
  rw[Rr,fMeth_eq,v5,aA,if_pos (Wa S7.H),fCons_eq,Mf,fCons_eq,c1,aA,fCons_eq,e8]
  simp only[aA,fNil_eq,aD,if_pos (sm2 _ _)]
  show Option.map _ (Ei (.ref h) [Pd (m3 a)] L8)=_
  rw[ap,fY]
  rfl
 refine ⟨some (.ref o),some (.int (a:Nat)),y9,y10,m3,hs++[m3 a],_,?_,S9⟩
 unfold Qb
 rw[Aaq e1,Au e3,Au s4,Au s5,s6,hδ]
end
theorem Aee{L:UH}{d:Nat}{B:Int}(D:Seed L d B)(hB:B<=50000){δ:UE}(h2:∀ M,Af 1 δ M=some (.ref d,M)) :
  ∃ (n:Nat) (names:List Str) (L':UH),(Bf 2 J7 (Ac (Af 1) (Ac (f2 Dp (fC (.int 1)) (Bf 2 Ao (Ac (Af 1) (Ac (f2 Al (Ct (Ac (fC (.int 4)) (Ac (fC (.int 12)) (Ac (fC (.int 60)) Ai)))) (Bf 2 Ao (Ac (Af 1) (Ac (fC (.int 3)) Ai)))) Ai)))) Ai))) δ L=some (.ref n,L')/\L'[n]? = some (.lst (names.map U.str))/\(0 < names.length/\names.length<=100)/\(∀ x∈names,x∈spare3)/\Seed L' d (B+70)/\Ex d L L'/\L.length<=n:=by
 have sm3:∀ x y z:U,Dk [x,y,z].length=true:=fun _ _ _=>Bq (by show 3<=16777216;decide)
 obtain ⟨i,L1,e1,i0,i1,D1,y1⟩:=C7 (many:=3) (D.new [HU.lst [.int 4,.int 12,.int 60]]) (by omega) (by decide) (by decide)
 have dl:=D.lt
 have q1:A7 L1 L.length=some [.int 4,.int 12,.int 60]:=A9 (y1.get (i:=L.length) (by simp) (by omega))
 have hv:∃ v:Int,L2.atI [U.int 4,.int 12,.int 60] i=some (.int v)/\0 < v/\v<=60:=by
  have:i=0\/i=1\/i=2:=by omega
  rcases this with rfl | rfl | rfl
  ·exact ⟨4,rfl,by decide,by decide⟩
  ·exact ⟨12,rfl,by decide,by decide⟩
  ·exact ⟨60,rfl,by decide,by decide⟩
 obtain ⟨v,hv,v0,v1⟩:=hv
 obtain ⟨w,M2,e2,w0,w1,D2,y2⟩:=C7 (many:=v) D1 (by omega) v0 (by omega)
 obtain ⟨c,hc⟩:∃ c:Nat,1+w=(c:Int):=⟨(1+w).toNat,by omega⟩
 obtain ⟨n,names,M3,e3,h3,hl3,_,hs3,D3,y3,hn3⟩:=Aif (many:=c) D2 (by omega) (by omega)
 refine ⟨n,names,M3,?_,h3,⟨by omega,by omega⟩,hs3,D3.mono (by omega),(((Ex.new d _ _).trans y1).trans y2).trans y3,?_⟩
 ·have el:(f2 Al (Ct (Ac (fC (.int 4)) (Ac (fC (.int 12)) (Ac (fC (.int 60)) Ai)))) (Bf 2 Ao (Ac (Af 1) (Ac (fC (.int 3)) Ai)))) δ L=some (.int v,L1):=by
   have ea:(Ct (Ac (fC (.int 4)) (Ac (fC (.int 12)) (Ac (fC (.int 60)) Ai)))) δ L=some (.ref L.length,L++[.lst [.int 4,.int 12,.int 60]]):=by
    simp only[fLst_eq,fCons_eq,fNil_eq,fC_eq,aD,aA,if_pos (sm3 _ _ _)]
   rw[f2_eq,ea,aA,Nq (i:=1) (h2 _) e1]
   simp only[aA,semIx_ref,q1,hv,aD]
  have em:(f2 Dp (fC (.int 1)) (Bf 2 Ao (Ac (Af 1) (Ac (f2 Al (Ct (Ac (fC (.int 4)) (Ac (fC (.int 12)) (Ac (fC (.int 60)) Ai)))) (Bf 2 Ao (Ac (Af 1) (Ac (fC (.int 3)) Ai)))) Ai)))) δ L=some (.int c,M2):=by
   rw[f2_eq,fC_eq,aA,fOwn_eq,fCons_eq,h2]
   simp only[aA]
   rw[fCons_eq,el]
   simp only[fNil_eq,aD,aA,aL,aM,if_true,e2,semAddA_int,hc]
  rw[fOwn_eq,fCons_eq,h2]
  simp only[aA]
  rw[fCons_eq,em]
  simp only[fNil_eq,aD,aA,aL,aM,if_true,e3]
 ·have h1:=y1.le
  have h2:=y2.le
  simp only[cG,aL,aM] at h1
  omega
theorem Amq{L:UH}{h:Nat}{hs:List (List NP)}{x0 x1 x2 x3 x4 x6 x7 x8 x9 x10:Option U}(H:L[h]? = some (.lst (hs.map Pd)))(hk:∀ x∈hs,OkM x)(hl:hs.length<=1000):∃ L',(Cg (N6 (f2 Bm (By [none,none] (Cu (Af 5)) (MR.gTup 2 (MR.gCons (gN 0) (MR.gCons (gN 1) MR.gNil))) (some K9) Nw) (Ct Ai)) (f2 Bm (Mp CS "word" (Jq "NoName" 2 Bt (Ac (fC (.str "ab")) Ai))) (fC (.str "ab"))))) [x0,x1,x2,x3,x4,some (.ref h),x6,x7,x8,x9,x10] L=some (.rt (.bl true),L'):=by
 have hq:=A9 H
 obtain ⟨x,e⟩:=Ea (ix:=[none,none]) (fi:=Cu (Af 5)) (it:=.ref h) (g:=(MR.gTup 2 (MR.gCons (gN 0) (MR.gCons (gN 1) MR.gNil)))) (tt:=some K9) (fe:=Nw) (δ:=[x0,x1,x2,x3,x4,some (.ref h),x6,x7,x8,x9,x10]) (L:=L) (L0:=L)
  hs Pd (fun _=>false) (fun _=>.int 1) (fun δ=>∃ a b,δ = [a,b]) (by rw[Ke,fVar_eq];simp only[aJ,aK,aQ,aD,aA,Ej hq]) (by rw[K8 hq];simp) (by omega) ⟨none,none,rfl⟩
  (fun k x=>Se (Fo hq))
  (fun y δ x hy hδ=>by
   obtain ⟨a,b,rfl⟩:=hδ
   have ok:=hk y hy
   refine ⟨[some (.tup (y.map ptU)),some (.tup (y.map ptU))],rfl,⟨_,_,rfl⟩,[],?_,fun h=>by cases h⟩
   have hne:∀ M,Eh (.tup (y.map ptU)) (.tup (y.map ptU)) M=some (.bl false,M):=fun M=>by rw[Ww M (Ox ok) (Ox ok),N4 (Ox ok)];rfl
   unfold Ig K9
   simp only[fTest_eq,f2_eq,fVar_eq,aJ,aK,aQ,aD,aA,hne,aX])
 have hf:(hs.filter fun _=>false)=[]:=by simp
 rw[hf] at e
 have h1:(L++x++[HU.lst []])[(L++x).length]? = some (.lst []):=by simp
 generalize hM:L++x++[HU.lst (List.map (fun _=>U.int 1) ([]:List (List NP)))]=M at e
 have h1':M[(L++x).length]? = some (.lst []):=by rw[<- hM];exact h1
 generalize (L++x).length=r at e h1'
 have q1:=Fo (x:=[HU.lst []]) (A9 h1')
 have q2:A7 (M++[HU.lst []]) M.length=some []:=A9 (by simp)
 have c1:(f2 Bm (By [none,none] (Cu (Af 5)) (MR.gTup 2 (MR.gCons (gN 0) (MR.gCons (gN 1) MR.gNil))) (some K9) Nw) (Ct Ai)) [x0,x1,x2,x3,x4,some (.ref h),x6,x7,x8,x9,x10] L=some (.bl true,M++[.lst []]):=by
  have ea:(Ct Ai) [x0,x1,x2,x3,x4,some (.ref h),x6,x7,x8,x9,x10] M=some (.ref M.length,M++[.lst []]):=rfl
  rw[f2_eq,e,aA,ea,aA]
  show Bm (.ref r) (.ref M.length) (M++[.lst []])=_
  unfold Bm
  rw[Ajk q1 q2 nofun nofun]
  rfl
 generalize M++[HU.lst []]=N at c1
 have hx:(reprText "ab").length<=1000:=by decide +kernel
 have mk:=Xq (C := "NoName") (δ:=[x0,x1,x2,x3,x4,some (.ref h),x6,x7,x8,x9,x10]) (g:=Ac (fC (.str "ab")) Ai) rfl (Uc hx N)
 have h2:(N++[HU.exc "NoName" true [("word",.str "ab")]])[N.length]? = some (.exc "NoName" true [("word",.str "ab")]):=by simp
 generalize N++[HU.exc "NoName" true [("word",.str "ab")]]=N2 at mk h2
 have c2:(Mp CS "word" (Jq "NoName" 2 Bt (Ac (fC (.str "ab")) Ai))) [x0,x1,x2,x3,x4,some (.ref h),x6,x7,x8,x9,x10] N=some (.str "ab",N2):=by
  unfold Mp
  rw[mk]
  simp only[aA,Lx h2 Tf]
  rfl
 have h8:∀ M,Bm (.str "ab") (.str "ab") M=some (.bl true,M):=fun M=>by
  have hp:Pl 6 (.str "ab"):=(by decide +kernel:eK "ab" = true)
  rw[Nm M hp hp,N4 hp]
 refine ⟨N2,?_⟩
 rw[fRet_eq,fAndV_eq,c1]
 simp only[aA,if_true,f2_eq,c2,fC_eq,h8,aD]
theorem Rg(M X:UH)(i:Nat):(M++X)[M.length+i]? = X[i]?:=by
 rw[cO (by omega)]
 congr 1
 omega
theorem Afg{L:UH}{ns:List Int}{δ:UE}(hs:A7 L 0=some (ns.map U.int))(h0:∀ M,Af 0 δ M=some (.ref 0,M)):∃ (C:Nat) (cs:List Int) (L':UH),(Cu (f2 Dp (fSl semSlL (Af 0) Oe (Yb (fC (.int 40)))) (f2 Gn (Ct (Ac (fC (.int 1)) Ai)) (fC (.int 16))))) δ L=some (.ref C,L')/\L'[C]? = some (.lst (cs.map U.int))/\cs.length<=56/\Gw L L'/\L.length<=C:=by
 have hcut:Adr (ns.map U.int) none (some 40)=(ns.take 40).map U.int:=by
  have:=Ae4 (ns.map U.int) 40
  rw[qT]
  exact this
 have ha:(fSl semSlL (Af 0) Oe (Yb (fC (.int 40)))) δ L=some (.ref L.length,L++[.lst ((ns.take 40).map U.int)]):=by
  rw[Anz,h0]
  simp only[Aaz,fPart_eq,fC_eq,aD,aA,semSlL,hs,hcut]
 have g1:Gw L (L++[.lst ((ns.take 40).map U.int)]):=Gw.new _ _
 have h1:(L++[HU.lst ((ns.take 40).map U.int)])[L.length]? = some (.lst ((ns.take 40).map U.int)):=by simp
 generalize L++[HU.lst ((ns.take 40).map U.int)]=M at ha g1 h1
 have sm1:∀ x:U,Dk [x].length=true:=fun _=>Bq (by show 1<=16777216;decide)
 have hb:(f2 Gn (Ct (Ac (fC (.int 1)) Ai)) (fC (.int 16))) δ M=some (.ref (M.length+1),M++[.lst [.int 1]]++[.lst ((aT 16 (1:Int)).map U.int)]):=by
  have ea:(Ct (Ac (fC (.int 1)) Ai)) δ M=some (.ref M.length,M++[.lst [.int 1]]):=by
   simp only[fLst_eq,fCons_eq,fNil_eq,fC_eq,aD,aA,if_pos (sm1 _)]
  have hl:Gd (M++[HU.lst [.int 1]]) M.length=some [.int 1]:=Et (by simp)
  have ll:(M++[HU.lst [.int 1]]).length=M.length+1:=by simp
  have hr:(aT (16:Int).toNat [U.int 1]).flatten=(aT 16 (1:Int)).map U.int:=rfl
  rw[f2_eq,ea,aA,fC_eq,aA]
  show (Gd (M++[HU.lst [.int 1]]) M.length).bind _=_
  rw[hl,aA,if_pos ⟨by decide,by decide,Bq (by decide)⟩,hr,ll]
 have g2:Gw M (M++[.lst [.int 1]]++[.lst ((aT 16 (1:Int)).map U.int)]):=(Gw.new _ _).trans (Gw.new _ _)
 have h2:(M++[HU.lst [.int 1]]++[HU.lst ((aT 16 (1:Int)).map U.int)])[M.length+1]? = some (.lst ((aT 16 (1:Int)).map U.int)):=by rw[cA,Rg];rfl
 generalize M++[HU.lst [.int 1]]++[HU.lst ((aT 16 (1:Int)).map U.int)]=N at hb g2 h2
 have ad:=Ajh (g2.get h1) h2 (by simp only[bF,gR,iV];omega)
 have lN:=g2.le
 have lM:=g1.le
 refine ⟨N.length,ns.take 40++aT 16 1,N++[.lst ((ns.take 40++aT 16 1).map U.int)],?_,by simp,by simp only[cG,gR,iV];omega,(g1.trans g2).trans (Gw.new _ _),by omega⟩
 have q:A7 (N++[HU.lst ((ns.take 40++aT 16 1).map U.int)]) N.length=some ((ns.take 40++aT 16 1).map U.int):=A9 (by simp)
 have ad':Dp (.ref L.length) (.ref (M.length+1)) N=some (.ref N.length,N++[.lst ((ns.take 40++aT 16 1).map U.int)]):=by
  show Bs (.ref L.length) (.ref (M.length+1)) N=_
  rw[ad,fY]
 rw[Ke,f2_eq,ha,aA,hb,aA,ad',aA,Ej q]
 rfl
noncomputable def objs(a:Nat):UH:=[.ins "KeptPoints" (kfl (a+1)),.dic (kG ptU []),.ins "KeptPoints" (kfl (a+3)),.dic (kG ptU []),.lst [.ref a,.ref (a+2)],.dic [],.dic [],.lst [.ref (a+5),.ref (a+6)],.lst []]
noncomputable def AA(a:Nat):Nat->Ad
 | 0=>⟨a,a+1,a+5⟩
 | _=>⟨a+2,a+3,a+6⟩
theorem made_ok(x0 x1 x2:Option U)(M:UH){rest:FS}:(Be (Bh (Ct (Ac (Mv "KeptPoints" 1 Bb Ai) (Ac (Mv "KeptPoints" 1 Bb Ai) Ai))) (gN 3)) (Be (Bh (Ct (Ac fDNew (Ac fDNew Ai))) (gN 4)) (Be (Bh (Ct Ai) (gN 5)) rest))) [x0,x1,x2,none,none,none,none,none,none,none,none] M=rest [x0,x1,x2,some (.ref (M.length+4)),some (.ref (M.length+7)),some (.ref (M.length+8)),none,none,none,none,none] (M++objs M.length):=by
 have sm2:∀ x y:U,Dk [x,y].length=true:=fun _ _=>Bq (by show 2<=16777216;decide)
 have s1:(Bh (Ct (Ac (Mv "KeptPoints" 1 Bb Ai) (Ac (Mv "KeptPoints" 1 Bb Ai) Ai))) (gN 3)) [x0,x1,x2,none,none,none,none,none,none,none,none] M=some (.nx [x0,x1,x2,some (.ref (M.length+4)),none,none,none,none,none,none,none],M++(objs M.length).take 5):=by
  rw[Dj,fLst_eq,fCons_eq,Afz M]
  simp only[aA,fCons_eq,fNil_eq,aD,if_pos (sm2 _ _)]
  simp[objs,Yp]
 have s2:(Bh (Ct (Ac fDNew (Ac fDNew Ai))) (gN 4)) [x0,x1,x2,some (.ref (M.length+4)),none,none,none,none,none,none,none] (M++(objs M.length).take 5)=some (.nx [x0,x1,x2,some (.ref (M.length+4)),some (.ref (M.length+7)),none,none,none,none,none,none],M++(objs M.length).take 8):=by
  rw[Dj,fLst_eq]
  simp only[fCons_eq,fDNew,aA,fNil_eq,aD,if_pos (sm2 _ _)]
  simp[objs,Yp]
 have s3:(Bh (Ct Ai) (gN 5)) [x0,x1,x2,some (.ref (M.length+4)),some (.ref (M.length+7)),none,none,none,none,none,none] (M++(objs M.length).take 8)=some (.nx [x0,x1,x2,some (.ref (M.length+4)),some (.ref (M.length+7)),some (.ref (M.length+8)),none,none,none,none,none],M++objs M.length):=by
  have e:(Ct Ai) [x0,x1,x2,some (.ref (M.length+4)),some (.ref (M.length+7)),none,none,none,none,none,none] (M++(objs M.length).take 8)=some (.ref (M++(objs M.length).take 8).length,M++(objs M.length).take 8++[.lst []]):=rfl
  rw[Dj,e]
  simp[objs,Yp]
 rw[Au s1,Au s2,Au s3]
theorem Ank{M M6:UH}{d n C:Nat}{B:Int}{names:List Str}{cs:List Int}(D:Seed M d B)(hn:M[n]? = some (.lst (names.map U.str)))(hnd:n≠d)(g:Gw (M++objs M.length) M6)(hC:M6[C]? = some (.lst (cs.map U.int)))(lC:M.length+9<=C) :
  St [(n,.lst (names.map U.str)),(M.length+4,.lst [.ref M.length,.ref (M.length+2)]),(M.length+7,.lst [.ref (M.length+5),.ref (M.length+6)]),(C,.lst (cs.map U.int))] M6.length M6 d (M.length+8) B (AA M.length) (fun _=>[]) [] 0:=by
 have g0:Gw M (M++objs M.length):=Gw.new _ _
 have gA:=g0.trans g
 have dl:=D.lt
 have nl:=(aR.mp hn).1
 have cl:=(aR.mp hC).1
 have le:=g.le
 rw[cG] at le
 have lo:(objs M.length).length=9:=rfl
 have at_:∀ (i:Nat) (o:HU),(objs M.length)[i]? = some o->M6[M.length+i]? = some o:=fun i o e=>g.get (by rw[Rg];exact e)
 have two:∀ {P:Nat->Prop},P 0->P 1->∀ i,i < 2->P i:=fun {P} h0 h1 i hi=>by
  have:i=0\/i=1:=by omega
  rcases this with rfl | rfl
  ·exact h0
  ·exact h1
 refine ⟨D.gw gA,at_ 8 _ rfl,two ⟨at_ 0 _ rfl,at_ 1 _ rfl⟩ ⟨at_ 2 _ rfl,at_ 3 _ rfl⟩,two (at_ 5 _ rfl) (at_ 6 _ rfl),fun _ _=>nofun,fun _ _=>bB _,nofun,bB _,fun i j hi hj hij=>?_,fun i j hi hj=>?_,two ?_ ?_,two ?_ ?_,by omega,by omega,by omega,bB _,fun q hq=>?_⟩
 ·have:(i=0/\j=1)\/(i=1/\j=0):=by omega
  rcases this with ⟨rfl,rfl⟩ | ⟨rfl,rfl⟩
  ·exact ⟨by show M.length+1≠M.length+3;omega,by show M.length+5≠M.length+6;omega⟩
  ·exact ⟨by show M.length+3≠M.length+1;omega,by show M.length+6≠M.length+5;omega⟩
 ·have h1:(AA M.length i).p<=M.length+3:=two (P:=fun i=>(AA M.length i).p<=M.length+3) (by show M.length+1<=_;omega) (bB _) i hi
  have h2:M.length+5<=(AA M.length j).t:=two (P:=fun j=>M.length+5<=(AA M.length j).t) (bB _) (by show _<=M.length+6;omega) j hj
  omega
 ·exact ⟨by show M.length≠d;omega,by show M.length+1≠d;omega,by show M.length+5≠d;omega⟩
 ·exact ⟨by show M.length+2≠d;omega,by show M.length+3≠d;omega,by show M.length+6≠d;omega⟩
 ·exact ⟨by show M.length < _;omega,by show M.length+1 < _;omega,by show M.length+5 < _;omega⟩
 ·exact ⟨by show M.length+2 < _;omega,by show M.length+3 < _;omega,by show M.length+6 < _;omega⟩
 ·rcases cB.mp hq with rfl | hq
  ·exact ⟨gA.get hn,by show n < _;omega,hnd,by show n≠_;omega,nofun⟩
  ·rcases cB.mp hq with rfl | hq
   ·exact ⟨at_ 4 _ rfl,by show M.length+4 < _;omega,by show M.length+4≠d;omega,by show M.length+4≠_;omega,nofun⟩
   ·rcases cB.mp hq with rfl | hq
    ·exact ⟨at_ 7 _ rfl,by show M.length+7 < _;omega,by show M.length+7≠d;omega,by show M.length+7≠_;omega,nofun⟩
    ·rcases cB.mp hq with rfl | hq
     ·exact ⟨hC,cl,by show C≠d;omega,by show C≠_;omega,nofun⟩
     ·cases hq
theorem Ahr(ns:List Int)(hl:ns.length<=63):∃ L',U3 [.ref 0] [.ro (ns.map U.int)]=some (.bl true,L'):=by
 have hs0:A7 [HU.ro (ns.map U.int)] 0=some (ns.map U.int):=rfl
 obtain ⟨r,er⟩:=Aer (L:=[.ro (ns.map U.int)]) (n:=0) ns hs0
 obtain ⟨L1,e1,D1,g1⟩:=Abj r [.ro (ns.map U.int)]
 have h1:(Bh (Bf 1 G1 (Ac (Bf 1 Hx (Ac (Af 0) Ai)) Ai)) (gN 1)) [some (.ref 0),none,none,none,none,none,none,none,none,none,none] [.ro (ns.map U.int)]=some (.nx [some (.ref 0),some (.ref 1),none,none,none,none,none,none,none,none,none],L1):=by
  rw[Dj,fOwn_eq,fCons_eq,Ao3 (i:=0) rfl er]
  simp only[aA,fNil_eq,aD,aL,aM,if_true,e1]
  rfl
 have D1':Seed L1 1 0:=D1
 have hs1:=g1.seq hs0
 obtain ⟨n,names,M,e2,hn,hnm,hsp,D2,y2,ln⟩:=Aee D1' (by omega) (δ:=[some (.ref 0),some (.ref 1),none,none,none,none,none,none,none,none,none]) (fun _=>rfl)
 have h2:=Kx (i:=2) e2
 simp only[cH,bZ] at h2
 have d1:=D1'.lt
 have hs2:A7 M 0=some (ns.map U.int):=y2.seq (by omega) hs1
 have hs3:=(Gw.new M (objs M.length)).seq hs2
 obtain ⟨C,cs,M6,hi,hC,hcl,g6,lC⟩:=Afg (δ:=[some (.ref 0),some (.ref 1),some (.ref n),some (.ref (M.length+4)),some (.ref (M.length+7)),some (.ref (M.length+8)),none,none,none,none,none]) hs3 (fun _=>rfl)
 rw[cG] at lC
 have lo:(objs M.length).length=9:=rfl
 have S6:=Ank D2 hn (by omega) g6 hC (by omega)
 have h6:(Dh (Ax (f2 Eh (Cd "KeptPoints" "points_now" 1 Ar (f2 Al (Af 3) (fC (.int 0))) Ai) (G4 Ai))) (Cg (fC (.bl false))) Cv) [some (.ref 0),some (.ref 1),some (.ref n),some (.ref (M.length+4)),some (.ref (M.length+7)),some (.ref (M.length+8)),none,none,none,none,none] (M++objs M.length)=some (.nx [some (.ref 0),some (.ref 1),some (.ref n),some (.ref (M.length+4)),some (.ref (M.length+7)),some (.ref (M.length+8)),none,none,none,none,none],M++objs M.length):=by
  have K0:Kept (M++objs M.length) M.length (M.length+1) []:=⟨by rw[show M.length=M.length+0 from rfl,Rg];rfl,by rw[Rg];rfl⟩
  have q4:A7 (M++objs M.length) (M.length+4)=some [.ref M.length,.ref (M.length+2)]:=A9 (by rw[Rg];rfl)
  have ho:(f2 Al (Af 3) (fC (.int 0))) [some (.ref 0),some (.ref 1),some (.ref n),some (.ref (M.length+4)),some (.ref (M.length+7)),some (.ref (M.length+8)),none,none,none,none,none] (M++objs M.length)=some (.ref M.length,M++objs M.length):=by
   rw[f2_eq]
   simp only[fVar_eq,fC_eq,aJ,aK,aQ,aD,aA,semIx_ref,q4]
   rfl
  have c1:=Kl (s := "points_now") (n:=1) (F:=Ar) (g:=Ai) (us:=[]) K0 (by decide +kernel) ho rfl rfl (Jh K0)
  rw[Cr,fTest_eq,f2_eq,c1,aA,Arf]
  rfl
 have F:Fx [(n,.lst (names.map U.str)),(M.length+4,.lst [.ref M.length,.ref (M.length+2)]),(M.length+7,.lst [.ref (M.length+5),.ref (M.length+6)]),(C,.lst (cs.map U.int))] n (M.length+4) (M.length+7) (AA M.length) names:=⟨cD,bI _ cD,bI _ (bI _ cD),hnm,hsp⟩
 have hCk:(C,HU.lst (cs.map U.int))∈[(n,HU.lst (names.map U.str)),(M.length+4,.lst [.ref M.length,.ref (M.length+2)]),(M.length+7,.lst [.ref (M.length+5),.ref (M.length+6)]),(C,.lst (cs.map U.int))]:=bI _ (bI _ (bI _ cD))
 generalize [(n,HU.lst (names.map U.str)),(M.length+4,.lst [.ref M.length,.ref (M.length+2)]),(M.length+7,.lst [.ref (M.length+5),.ref (M.length+6)]),(C,.lst (cs.map U.int))]=ks at S6 F hCk
 obtain ⟨δ',L7,e7,⟨y6,y7,y8,y9,y10,m7,hs7,rfl,S7⟩,h56⟩:=P6 (us:=cs.map U.int) (n:=C) (body:=Qb) (g:=gN 6) (fun j δ' N=>(∃ y6 y7 y8 y9 y10 m hs,δ'=[some (.ref 0),some (.ref 1),some (.ref n),some (.ref (M.length+4)),some (.ref (M.length+7)),some (.ref (M.length+8)),y6,y7,y8,y9,y10]/\St ks M6.length N 1 (M.length+8) (70+j) (AA M.length) m hs (5 * j))/\j<=56) hi ⟨⟨_,_,_,_,_,_,_,rfl,S6⟩,by omega⟩
  (fun j δ' N hP=>by
   obtain ⟨⟨_,_,_,_,_,_,_,_,SN⟩,_⟩:=hP
   exact A9 (SN.kp _ hCk).1)
  (fun j u δ' N hu hP=>by
   obtain ⟨⟨y6,y7,y8,y9,y10,m,hs,rfl,SN⟩,hj⟩:=hP
   have hjl:j < cs.length:=by have:=(aR.mp hu).1;simpa using this
   rw[bV] at hu
   obtain ⟨cell,_,rfl⟩:=aH.mp hu
   obtain ⟨z7,z8,z9,z10,m',hs',N',e,S'⟩:=Ak7 (x0:=some (.ref 0)) (cell:=cell) (x7:=y7) (x8:=y8) (x9:=y9) (x10:=y10) F SN (by omega) (by omega)
   refine ⟨_,N,rfl,_,N',.inl e,⟨some (.int cell),z7,z8,z9,z10,m',hs',rfl,?_⟩,by omega⟩
   have hB:(70:Int)+((j+1:Nat):Int)=70+(j:Int)+1:=by omega
   rw[hB]
   exact S'.more (by omega))
 have hl7:=S7.hl
 obtain ⟨L8,e8⟩:=Amq (x0:=some (.ref 0)) (x1:=some (.ref 1)) (x2:=some (.ref n)) (x3:=some (.ref (M.length+4))) (x4:=some (.ref (M.length+7))) (x6:=y6) (x7:=y7) (x8:=y8) (x9:=y9) (x10:=y10) S7.H S7.hk (by simp only[bF] at hl7;omega)
 refine ⟨L8,?_⟩
 unfold U3 fnU Alp
 simp only[aL,aM,if_true,aP,bL,aT,dZ,dS]
 rw[Au h1,Au h2,made_ok,Au h6,Au e7]
 rw[e8]
 rfl
noncomputable def top(i:Nat):Stmt:=PySem.Challenge.pw_belowpoints_k20_kept_points.main.body.getD i (.Pass ⟨0,0,0,0⟩)
noncomputable abbrev Ce:Stmt:=Az (top 20) 0
theorem Kv:FnScope ["self"] ["self"] (Ak Ce):=⟨rfl,rfl,rfl,by decide +kernel,rfl,by decide +kernel,by decide +kernel⟩
noncomputable abbrev Bv:Stmt:=Az (top 20) 4
theorem Ji:FnScope ["self"] ["self"] (Ak Bv):=⟨rfl,rfl,rfl,by decide +kernel,rfl,by decide +kernel,by decide +kernel⟩
noncomputable abbrev Ep:Stmt:=top 8
theorem Th:FnScope ["one","other"] ["one","other"] (Ak Ep):=⟨rfl,rfl,rfl,by decide +kernel,rfl,by decide +kernel,by decide +kernel⟩
noncomputable abbrev En:Stmt:=top 13
theorem Sx:FnScope ["places","place"] ["places","place"] (Ak En):=⟨rfl,rfl,rfl,by decide +kernel,rfl,by decide +kernel,by decide +kernel⟩
noncomputable abbrev Gp:Stmt:=top 9
theorem X6:FnScope ["point"] ["point"] (Ak Gp):=⟨rfl,rfl,rfl,by decide +kernel,rfl,by decide +kernel,by decide +kernel⟩
noncomputable abbrev Ek:Stmt:=top 11
theorem Mn:FnScope ["points","places"] ["points"] (Ak Ek):=⟨rfl,rfl,rfl,by decide +kernel,rfl,by decide +kernel,by decide +kernel⟩
noncomputable abbrev Dt:Stmt:=top 12
theorem Pw:FnScope ["points"] ["points"] (Ak Dt):=⟨rfl,rfl,rfl,by decide +kernel,rfl,by decide +kernel,by decide +kernel⟩
noncomputable abbrev B6:Stmt:=Az (top 20) 7
theorem Jw:FnScope ["self"] ["self"] (Ak B6):=⟨rfl,rfl,rfl,by decide +kernel,rfl,by decide +kernel,by decide +kernel⟩
noncomputable abbrev C0:Stmt:=Az (top 6) 0
theorem Mz:FnScope ["self","word"] ["self","word"] (Ak C0):=⟨rfl,rfl,rfl,by decide +kernel,rfl,by decide +kernel,by decide +kernel⟩
noncomputable abbrev J8:Stmt:=top 24
theorem Mc:FnScope ["seed","most","found","number"] ["seed","most"] (Ak J8):=⟨rfl,rfl,rfl,by decide +kernel,rfl,by decide +kernel,by decide +kernel⟩
noncomputable abbrev Gh:Stmt:=top 22
theorem Jb:FnScope ["script","found","cell"] ["script"] (Ak Gh):=⟨rfl,rfl,rfl,by decide +kernel,rfl,by decide +kernel,by decide +kernel⟩
noncomputable abbrev Hu:Stmt:=top 31
theorem Kj:FnScope ["kept","there","due","found","point"] ["kept","there"] (Ak Hu):=⟨rfl,rfl,rfl,by decide +kernel,rfl,by decide +kernel,by decide +kernel⟩
noncomputable abbrev Bu:Stmt:=Az (top 20) 9
theorem Jr:FnScope ["self"] ["self"] (Ak Bu):=⟨rfl,rfl,rfl,by decide +kernel,rfl,by decide +kernel,by decide +kernel⟩
noncomputable abbrev El:Stmt:=top 14
theorem Ti:FnScope ["places","place"] ["places","place"] (Ak El):=⟨rfl,rfl,rfl,by decide +kernel,rfl,by decide +kernel,by decide +kernel⟩
noncomputable abbrev B4:Stmt:=Az (top 20) 6
theorem Jx:FnScope ["self","x","y"] ["self","x","y"] (Ak B4):=⟨rfl,rfl,rfl,by decide +kernel,rfl,by decide +kernel,by decide +kernel⟩
noncomputable abbrev B9:Stmt:=Az (top 20) 5
theorem Kd:FnScope ["self","x","y"] ["self","x","y"] (Ak B9):=⟨rfl,rfl,rfl,by decide +kernel,rfl,by decide +kernel,by decide +kernel⟩
noncomputable abbrev Hr:Stmt:=top 18
theorem Aah:FnScope ["point","box"] ["point","box"] (Ak Hr):=⟨rfl,rfl,rfl,by decide +kernel,rfl,by decide +kernel,by decide +kernel⟩
noncomputable abbrev Fg:Stmt:=top 17
theorem We:FnScope ["points","box"] ["points","box"] (Ak Fg):=⟨rfl,rfl,rfl,by decide +kernel,rfl,by decide +kernel,by decide +kernel⟩
noncomputable abbrev Gf:Stmt:=top 16
theorem Ws:FnScope ["points","boxes"] ["points","boxes"] (Ak Gf):=⟨rfl,rfl,rfl,by decide +kernel,rfl,by decide +kernel,by decide +kernel⟩
noncomputable abbrev Ck:Stmt:=Az (top 20) 8
theorem Kz:FnScope ["self","box"] ["self","box"] (Ak Ck):=⟨rfl,rfl,rfl,by decide +kernel,rfl,by decide +kernel,by decide +kernel⟩
noncomputable abbrev Dc:Stmt:=top 33
theorem Bn:FnScope ["seed","kept","there","place","others","below","above","held","order","way","told"] ["seed","kept","there","place"] (Ak Dc):=⟨rfl,rfl,rfl,by decide +kernel,rfl,by decide +kernel,by decide +kernel⟩
noncomputable abbrev Hq:Stmt:=top 26
theorem H0:FnScope ["seed","many","letters","spare"] ["seed","many"] (Ak Hq):=⟨rfl,rfl,rfl,by decide +kernel,rfl,by decide +kernel,by decide +kernel⟩
noncomputable abbrev Hn:Stmt:=top 32
theorem Ic:FnScope ["there","places","found","one"] ["there"] (Ak Hn):=⟨rfl,rfl,rfl,by decide +kernel,rfl,by decide +kernel,by decide +kernel⟩
noncomputable abbrev Jv:Stmt:=top 23
theorem U1:FnScope ["cell","number"] ["cell"] (Ak Jv):=⟨rfl,rfl,rfl,by decide +kernel,rfl,by decide +kernel,by decide +kernel⟩
noncomputable abbrev Hm:Stmt:=top 27
theorem Aa4:FnScope ["caught"] ["caught"] (Ak Hm):=⟨rfl,rfl,rfl,by decide +kernel,rfl,by decide +kernel,by decide +kernel⟩
noncomputable abbrev Cc:Stmt:=Az (top 20) 10
theorem Fm:FnScope ["self","name"] ["self","name"] (Ak Cc):=⟨rfl,rfl,rfl,by decide +kernel,rfl,by decide +kernel,by decide +kernel⟩
noncomputable abbrev Bw:Stmt:=Az (top 20) 3
theorem E3:FnScope ["self","name","x","y"] ["self","name","x","y"] (Ak Bw):=⟨rfl,rfl,rfl,by decide +kernel,rfl,by decide +kernel,by decide +kernel⟩
noncomputable abbrev B7:Stmt:=Az (top 20) 1
theorem Fe:FnScope ["self","name","x","y"] ["self","name","x","y"] (Ak B7):=⟨rfl,rfl,rfl,by decide +kernel,rfl,by decide +kernel,by decide +kernel⟩
noncomputable abbrev Bx:Stmt:=Az (top 20) 2
theorem E4:FnScope ["self","name"] ["self","name"] (Ak Bx):=⟨rfl,rfl,rfl,by decide +kernel,rfl,by decide +kernel,by decide +kernel⟩
noncomputable abbrev Kb:Stmt:=top 28
theorem Fj:FnScope ["kept","word","name","place","found","caught","e"] ["kept","word","name","place"] (Ak Kb):=⟨rfl,rfl,rfl,by decide +kernel,rfl,by decide +kernel,by decide +kernel⟩
noncomputable abbrev Gg:Stmt:=top 25
theorem Pc:FnScope ["seed","way","great"] ["seed","way"] (Ak Gg):=⟨rfl,rfl,rfl,by decide +kernel,rfl,by decide +kernel,by decide +kernel⟩
noncomputable abbrev Hs:Stmt:=top 29
theorem Nc:FnScope ["seed","there","way","x"] ["seed","there"] (Ak Hs):=⟨rfl,rfl,rfl,by decide +kernel,rfl,by decide +kernel,by decide +kernel⟩
noncomputable abbrev Ju:Stmt:=top 30
theorem Gq:FnScope ["seed","kept","there","names","places","name","place","word","found","caught"] ["seed","kept","there","names","places"] (Ak Ju):=⟨rfl,rfl,rfl,by decide +kernel,rfl,by decide +kernel,by decide +kernel⟩
noncomputable abbrev Nf:Stmt:=top 34
theorem Ia:FnScope ["script","seed","names","kepts","there","held","cell","own","at","turn","places"] ["script"] (Ak Nf):=⟨rfl,rfl,rfl,by decide +kernel,rfl,by decide +kernel,by decide +kernel⟩
set_option genInjectivity false
set_option genSizeOf false
set_option genSizeOfSpec false
structure Defs(K:aC)(mg:Str->Option aE) where
 ua:Addr
 ub:ClsF K "KeptPoints" ua
 uc:Addr
 ud:Addr
 ue:Addr
 uf:Addr
 ug:Addr
 uh:Addr
 ui:Addr
 uj:bM
 uk:Fun K "__init__" "KeptPoints.__init__" Ce ui uj
 ul:Binds K uj ["self"] []
 um:Addr
 uo:bM
 uq:Fun K "points_now" "KeptPoints.points_now" Bv um uo
 ur:Binds K uo ["self"] []
 ut:Meth K ua "points_now" um
 uu:Addr
 uv:bM
 uw:Fun K "lies_below" "lies_below" Ep uu uv
 ux:Binds K uv ["one","other"] []
 uy:mg "lies_below" = some (.ref uu)
 uz:Addr
 uA:bM
 uB:Fun K "many_below" "many_below" En uz uA
 uC:Binds K uA ["places","place"] []
 uD:mg "many_below" = some (.ref uz)
 uE:Addr
 uF:bM
 uG:Fun K "place_of" "place_of" Gp uE uF
 uH:Binds K uF ["point"] []
 uI:mg "place_of" = some (.ref uE)
 uJ:Addr
 uK:bM
 uL:Fun K "below_each" "below_each" Ek uJ uK
 uM:Binds K uK ["points"] []
 uN:mg "below_each" = some (.ref uJ)
 uO:Addr
 uP:bM
 uQ:Fun K "pairs_in_all" "pairs_in_all" Dt uO uP
 uR:Binds K uP ["points"] []
 uS:mg "pairs_in_all" = some (.ref uO)
 uT:Addr
 uU:bM
 uV:Fun K "pairs_now" "KeptPoints.pairs_now" B6 uT uU
 uW:Binds K uU ["self"] []
 uX:Meth K ua "pairs_now" uT
 uY:Addr
 uZ:bM
 u4:Fun K "__init__" "NoName.__init__" C0 uY uZ
 u5:Binds K uZ ["self","word"] []
 u6:Addr
 u7:bM
 u8:Fun K "_law_draw" "_law_draw" J8 u6 u7
 u9:Binds K u7 ["seed","most"] []
 va:mg "_law_draw" = some (.ref u6)
 vb:Addr
 vc:bM
 vd:Fun K "_law_folded" "_law_folded" Gh vb vc
 ve:Binds K vc ["script"] []
 vf:mg "_law_folded" = some (.ref vb)
 vg:Addr
 vh:bM
 vi:Fun K "_law_is_as" "_law_is_as" Hu vg vh
 vj:Binds K vh ["kept","there"] []
 vk:mg "_law_is_as" = some (.ref vg)
 vm:Addr
 vn:bM
 vo:Fun K "places_now" "KeptPoints.places_now" Bu vm vn
 vp:Binds K vn ["self"] []
 vq:Meth K ua "places_now" vm
 vt:Addr
 vv:bM
 vw:Fun K "many_above" "many_above" El vt vv
 vy:Binds K vv ["places","place"] []
 vz:mg "many_above" = some (.ref vt)
 vA:Addr
 vB:bM
 vC:Fun K "above_now" "KeptPoints.above_now" B4 vA vB
 vD:Binds K vB ["self","x","y"] []
 vE:Meth K ua "above_now" vA
 vF:Addr
 vG:bM
 vH:Fun K "below_now" "KeptPoints.below_now" B9 vF vG
 vI:Binds K vG ["self","x","y"] []
 vJ:Meth K ua "below_now" vF
 vK:Addr
 vL:bM
 vM:Fun K "is_held" "is_held" Hr vK vL
 vN:Binds K vL ["point","box"] []
 vO:mg "is_held" = some (.ref vK)
 vP:Addr
 vQ:bM
 vR:Fun K "points_in" "points_in" Fg vP vQ
 vS:Binds K vQ ["points","box"] []
 vT:mg "points_in" = some (.ref vP)
 vU:Addr
 vV:bM
 vW:Fun K "in_boxes" "in_boxes" Gf vU vV
 vX:Binds K vV ["points","boxes"] []
 vY:mg "in_boxes" = some (.ref vU)
 vZ:Addr
 v9:bM
 wc:Fun K "box_now" "KeptPoints.box_now" Ck vZ v9
 wd:Binds K v9 ["self","box"] []
 we:Meth K ua "box_now" vZ
 wf:Addr
 wg:bM
 wj:Fun K "_law_looked_right" "_law_looked_right" Dc wf wg
 wk:Binds K wg ["seed","kept","there","place"] []
 wl:mg "_law_looked_right" = some (.ref wf)
 wm:Addr
 wn:bM
 wo:Fun K "_law_names" "_law_names" Hq wm wn
 wq:Binds K wn ["seed","many"] []
 wt:mg "_law_names" = some (.ref wm)
 wu:Addr
 wv:bM
 ww:Fun K "_law_pairs" "_law_pairs" Hn wu wv
 wx:Binds K wv ["there"] []
 wy:mg "_law_pairs" = some (.ref wu)
 wz:Addr
 wA:bM
 wB:Fun K "_law_seed" "_law_seed" Jv wz wA
 wC:Binds K wA ["cell"] []
 wD:mg "_law_seed" = some (.ref wz)
 wE:Addr
 wF:bM
 wG:Fun K "_law_alone" "_law_alone" Hm wE wF
 wH:Binds K wF ["caught"] []
 wI:mg "_law_alone" = some (.ref wE)
 wJ:Addr
 wK:bM
 wL:Fun K "need_name" "KeptPoints.need_name" Cc wJ wK
 wM:Binds K wK ["self","name"] []
 wN:Meth K ua "need_name" wJ
 wO:Addr
 wP:bM
 wQ:Fun K "move_point" "KeptPoints.move_point" Bw wO wP
 wR:Binds K wP ["self","name","x","y"] []
 wS:Meth K ua "move_point" wO
 wT:Addr
 wU:bM
 wV:Fun K "put_point" "KeptPoints.put_point" B7 wT wU
 wW:Binds K wU ["self","name","x","y"] []
 wX:Meth K ua "put_point" wT
 wY:Addr
 wZ:bM
 w4:Fun K "take_point" "KeptPoints.take_point" Bx wY wZ
 w5:Binds K wZ ["self","name"] []
 w6:Meth K ua "take_point" wY
 w9:Addr
 xa:bM
 xf:Fun K "_law_done" "_law_done" Kb w9 xa
 xg:Binds K xa ["kept","word","name","place"] []
 xh:mg "_law_done" = some (.ref w9)
 xi:Addr
 xj:bM
 xk:Fun K "_law_number" "_law_number" Gg xi xj
 xm:Binds K xj ["seed","way"] []
 xn:mg "_law_number" = some (.ref xi)
 xo:Addr
 xp:bM
 xq:Fun K "_law_place" "_law_place" Hs xo xp
 xu:Binds K xp ["seed","there"] []
 xw:mg "_law_place" = some (.ref xo)
 xx:Addr
 xy:bM
 xz:Fun K "_law_turn" "_law_turn" Ju xx xy
 xA:Binds K xy ["seed","kept","there","names","places"] []
 xB:mg "_law_turn" = some (.ref xx)
 xC:Addr
 xD:bM
 xE:Fun K "law" "law" Nf xC xD
 xF:Binds K xD ["script"] []
 xG:mg "law" = some (.ref xC)
 xH:Mk K ua ui
 xI:mg "KeptPoints" = some (.ref ua)
 xJ:aO K aN "BelowError" = some (some (.ref uc))
 xK:mg "BelowError" = some (.ref uc)
 xL:aO K aN "NoAsk" = some (some (.ref ud))
 xO:mg "NoAsk" = some (.ref ud)
 xP:aO K aN "NoCounts" = some (some (.ref ue))
 xQ:mg "NoCounts" = some (.ref ue)
 xR:aO K aN "NoName" = some (some (.ref uf))
 xS:mg "NoName" = some (.ref uf)
 xT:aO K aN "NoPlace" = some (some (.ref ug))
 xU:mg "NoPlace" = some (.ref ug)
 xV:aO K aN "NoPoints" = some (some (.ref uh))
 xW:mg "NoPoints" = some (.ref uh)
 xX:MkX K uf uY
 xY:BInit K uc
 xZ:Px K ["NoPlace","NoAsk","NoPoints","NoCounts","NoName"] ["BelowError","NoPlace","NoAsk","NoPoints","NoCounts","NoName","ValueError"]=true
 x5:Ah4 K ["NoPlace","NoAsk","NoPoints","NoCounts","NoName"] "word" = true
 ya:aO K aN "ValueError" = some none
 yb:NoAttr K ua "points"
 yc:mg "ValueError" = none
 yd:mg "abs" = none
 ye:mg "all" = none
 yf:mg "bool" = none
 yg:mg "int" = none
 yh:mg "isinstance" = none
 yi:mg "len" = none
 yj:mg "list" = none
 yk:mg "max" = none
 yl:mg "range" = none
 ym:mg "sum" = none
 yn:mg "tuple" = none
 yo:mg "zip" = none
section
variable {P:bN}{w:bW}{K:aC}{mg:Str->Option aE}{base:Heap}
theorem Ft(C:Defs K mg):FnOk P w K mg base CX0 1 C.ui C.uj ["self"] (spF K 1 Bb):=by
 refine Fun.okF (N:=["self"]) C.uk Kv (fun cdv A outer s H E hr=>?_)
 have hu:=hr.units
 exact (An (Akn C.ub C.yb (Ah 0) Qa))
theorem Cf(C:Defs K mg):FnOk P w K mg base CX0 1 C.um C.uo ["self"] (spF K 1 Ar):=by
 refine Fun.okF (N:=["self"]) C.uq Ji (fun cdv A outer s H E hr=>?_)
 have hu:=hr.units
 exact (An (A8 (Ahc rfl (by rfl) C.yn (Kk C.ub C.yb (Ah 0)) ⟨rfl,rfl,rfl,rfl⟩)))
theorem Mq(C:Defs K mg):FnOk P w K mg base CX0 1 C.uu C.uv ["one","other"] (spF K 2 Eo):=by
 refine Fun.okF (N:=["one","other"]) C.uw Th (fun cdv A outer s H E hr=>?_)
 have hu:=hr.units
 exact (An (A8 (Vr (G6 (Lj hu) Lr (Ah 0) (Ah 1) (Bp _)) (Vh (Cz (Ad8 rfl) Ald (by rfl) C.ye PyProof.Rows.boot_all (Ae (Fw (N':=["number","above"]) (ix:=[none,none]) ⟨rfl,rfl,rfl,rfl,rfl,rfl⟩ rfl (Agm (by rfl) C.yo (Ae (Ah 0) (Ae (Ah 1) Ag))) (fun _ _ _ _ _ _=>(Nl rfl (D9 (Bg (i:=0) (show cP (α:=Str) ["number","above"] by decide +kernel)) (D9 (Bg (i:=1) (show cP (α:=Str) ["number","above"] by decide +kernel)) La)))) (fun _ _ _ _ _ _=>(G6 K7 Hz (Ah 0) (Ah 1) (Bp _)))) Ag))))))
theorem Mt(C:Defs K mg):FnOk P w K mg base CX0 2 C.uz C.uA ["places","place"] (spF K 2 Fs):=by
 refine Fun.okF (N:=["places","place"]) C.uB Sx (fun cdv A outer s H E hr=>?_)
 have hu:=hr.units
 exact (An (A8 (Cz E7 Gy (by rfl) C.yi dR (Ae (G0 (N':=["other","place"]) (ix:=[none,some 1]) ⟨rfl,rfl,rfl,rfl,rfl,rfl⟩ rfl (Dy (Ah 0)) (fun _ _ _ _ _ _=>(Bg (i:=0) (show cP (α:=Str) ["other","place"] by decide +kernel))) (fun _ _ _ _ _ _=>(Ee (Av (Mq C) (hr.mono (by decide)) (by rfl) C.uy C.uw.kp C.ux (Ae (Ah 0) (Ae (Ah 1) Ag))))) (fun _ _ _ _ _ _=>(Ah 0))) Ag))))
theorem Pk(C:Defs K mg):FnOk P w K mg base CX0 1 C.uE C.uF ["point"] (spF K 1 Hv):=by
 refine Fun.okF (N:=["point"]) C.uG X6 (fun cdv A outer s H E hr=>?_)
 have hu:=hr.units
 exact (An (A8 (Gi (Ae (Aw Ap Aq (Ah 0) Aj (fun _ _=>rfl)) (Ae (Aw Ap Aq (Ah 0) Aj (fun _ _=>rfl)) Ag)))))
theorem Tj(C:Defs K mg):FnOk P w K mg base CX0 3 C.uJ C.uK ["points"] (spF K 1 Hc):=by
 refine Fun.okF (N:=["points","places"]) C.uL Mn (fun cdv A outer s H E hr=>?_)
 have hu:=hr.units
 refine Am ?s0 ?t0
 case s0=>exact (Ay (i:=1) (by exact Mn.nd) (Fw (N':=["point"]) (ix:=[none]) ⟨rfl,rfl,rfl,rfl,rfl,rfl⟩ rfl (Dy (Ah 0)) (fun _ _ _ _ _ _=>(Bg (i:=0) (show cP (α:=Str) ["point"] by decide +kernel))) (fun _ _ _ _ _ _=>(Av (Pk C) (hr.mono (by decide)) (by rfl) C.uI C.uG.kp C.uH (Ae (Ah 0) Ag)))))
 exact (An (A8 (Fq Gx Ma (by rfl) C.yn (by decide +kernel) (Ae (Fw (N':=["place","places"]) (ix:=[none,some 1]) ⟨rfl,rfl,rfl,rfl,rfl,rfl⟩ rfl (Dy (Ah 1)) (fun _ _ _ _ _ _=>(Bg (i:=0) (show cP (α:=Str) ["place","places"] by decide +kernel))) (fun _ _ _ _ _ _=>(Av (Mt C) (hr.mono (by decide)) (by rfl) C.uD C.uB.kp C.uC (Ae (Ah 1) (Ae (Ah 0) Ag))))) Ag))))
theorem P0(C:Defs K mg):FnOk P w K mg base CX0 4 C.uO C.uP ["points"] (spF K 1 Ef):=by
 refine Fun.okF (N:=["points"]) C.uQ Pw (fun cdv A outer s H E hr=>?_)
 have hu:=hr.units
 exact (An (A8 (Cz (Ad2 rfl) Akg (by rfl) C.ym PyProof.Rows.boot_sum (Ae (Av (Tj C) (hr.mono (by decide)) (by rfl) C.uN C.uL.kp C.uM (Ae (Ah 0) Ag)) Ag))))
theorem J9(C:Defs K mg):FnOk P w K mg base CX0 5 C.uT C.uU ["self"] (spF K 1 B3):=by
 refine Fun.okF (N:=["self"]) C.uV Jw (fun cdv A outer s H E hr=>?_)
 have hu:=hr.units
 exact (An (A8 (Av (P0 C) (hr.mono (by decide)) (by rfl) C.uS C.uQ.kp C.uR (Ae (Gz C.ub C.ut (Cf C) (hr.mono (by decide)) C.ur (Ah 0)) Ag))))
theorem E9(C:Defs K mg):FnOk P w K mg base CX0 1 C.uY C.uZ ["self","word"] (spF K 2 Bt):=by
 refine Fun.okF (N:=["self","word"]) C.u4 Mz (fun cdv A outer s H E hr=>?_)
 have hu:=hr.units
 refine Am ?s0 ?t0
 case s0=>exact (Ie (Age (AllX.of C.xZ) C.xY (by rfl) C.xK (Ae (Ah 0) (Ae (Aej (.cons B2 (.cons (Aiq (Ah 1)) (.cons B2 .nil)))) Ag))))
 exact (An (Afa C.xZ C.x5 (Ah 0) (Ah 1)))
theorem B1(C:Defs K mg):FnOk P w K mg base CX0 1 C.u6 C.u7 ["seed","most"] (spF K 2 Ao):=by
 refine Fun.okF (N:=["seed","most","found","number"]) C.u8 Mc (fun cdv A outer s H E hr=>?_)
 have hu:=hr.units
 refine Am ?s0 ?t0
 case s0=>exact (V6 (Br D6 Dz (Aw Ap Aq (Ah 0) Aj (fun _ _=>rfl)) Aj) (Abk (Ah 0) Aj))
 refine Am ?s1 ?t1
 case s1=>exact (De (PWF.pt (Mb (Bj (Eb hu) Ec (Aw Ap Aq (Ah 0) Aj (fun _ _=>rfl)) Aj (Bp _)) (Lk (Bj Alq Agn (Aw Ap Aq (Ah 0) Aj (fun _ _=>rfl)) Aj (Bp _))))) (Am (Ay (i:=2) (by exact Mc.nd) (Br Lb Im (Aw Ap Aq (Ah 0) Aj (fun _ _=>rfl)) (Ah 1))) (Am (V6 (Br Wv Abr (Aw Ap Aq (Ah 0) Aj (fun _ _=>rfl)) (Ah 1)) (Abk (Ah 0) Aj)) (An (A8 (Ah 2))))) Dg)
 refine Am ?s2 ?t2
 case s2=>exact (Ay (i:=3) (by exact Mc.nd) (Br Lb Im (Br Ja Iu (Br D6 Dz (Br D6 Dz (Aw Ap Aq (Ah 0) Aj (fun _ _=>rfl)) (Br Ja Iu Aj (Aw Ap Aq (Ah 0) Aj (fun _ _=>rfl)))) Aj) Aj) Aj))
 refine Am ?s3 ?t3
 case s3=>exact (Ay (i:=3) (by exact Mc.nd) (Br Lb Im (Br Ja Iu (Br Lb Im (Br Ja Iu (Ah 3) (Ah 3)) Aj) Aj) Aj))
 exact (An (A8 (Br Lb Im (Br Wv Abr (Ah 3) Aj) (Ah 1))))
theorem Yl(C:Defs K mg):FnOk P w K mg base CX0 1 C.vb C.vc ["script"] (spF K 1 Hx):=by
 refine Fun.okF (N:=["script","found","cell"]) C.vd Jb (fun cdv A outer s H E hr=>?_)
 have hu:=hr.units
 refine Am ?s0 ?t0
 case s0=>exact (Ay (i:=1) (by exact Jb.nd) (Cz E7 Gy (by rfl) C.yi dR (Ae (Ah 0) Ag)))
 refine Am ?s1 ?t1
 case s1=>exact (L9 fZ rfl (Dy (Ah 0)) (Bg (i:=2) (by exact Jb.nd)) (An (Ay (i:=1) (by exact Jb.nd) (Br Lb Im (Br D6 Dz (Br Ja Iu (Ah 1) Aj) (Br Lb Im (Ah 2) Aj)) Aj))))
 exact (An (A8 (Ah 1)))
theorem Ra(C:Defs K mg):FnOk P w K mg base CX0 2 C.vg C.vh ["kept","there"] (spF K 2 Er):=by
 refine Fun.okF (N:=["kept","there","due","found","point"]) C.vi Kj (fun cdv A outer s H E hr=>?_)
 have hu:=hr.units
 refine Am ?s0 ?t0
 case s0=>exact (Ay (i:=2) (by exact Kj.nd) (Fq Gx Ma (by rfl) C.yn (by decide +kernel) (Ae (Qc (Fw (N':=["name","place"]) (ix:=[none,none]) ⟨rfl,rfl,rfl,rfl,rfl,rfl⟩ rfl (U7 (Ah 1) ⟨rfl,rfl,rfl,rfl⟩) (fun _ _ _ _ _ _=>(Nl rfl (D9 (Bg (i:=0) (show cP (α:=Str) ["name","place"] by decide +kernel)) (D9 (Bg (i:=1) (show cP (α:=Str) ["name","place"] by decide +kernel)) La)))) (fun _ _ _ _ _ _=>(Gi (Ae (Ah 0) (Ae (Aw Ap Aq (Ah 1) Aj (fun _ _=>rfl)) (Ae (Aw Ap Aq (Ah 1) Aj (fun _ _=>rfl)) Ag))))))) Ag)))
 refine Am ?s1 ?t1
 case s1=>exact (Ay (i:=3) (by exact Kj.nd) (Gz C.ub C.ut (Cf C) (hr.mono (by decide)) C.ur (Ah 0)))
 refine Am ?s2 ?t2
 case s2=>exact (De (PWF.pt (Ou (Hl (Ee (Wb Ur (Ah 3) (by rfl) C.yh (by rfl) C.yn (by decide +kernel)))) (Qe (Bj (Lj hu) Lr (Ah 3) (Ah 2) (Bp _))))) (An (A8 Kw)) Dg)
 refine Am ?s3 ?t3
 case s3=>exact (L9 fZ rfl (Dy (Ah 3)) (Bg (i:=4) (by exact Kj.nd)) (An (De (PWF.pt (Ou (Hl (Ee (Wb Ur (Ah 4) (by rfl) C.yh (by rfl) C.yn (by decide +kernel)))) (Ou (Ee (Wb Yt (Aw Ap Aq (Ah 4) Aj (fun _ _=>rfl)) (by rfl) C.yh (by rfl) C.yf (by decide +kernel))) (Qe (Ee (Wb Yt (Aw Ap Aq (Ah 4) Aj (fun _ _=>rfl)) (by rfl) C.yh (by rfl) C.yf (by decide +kernel))))))) (An (A8 Kw)) Dg)))
 exact (An (A8 Kw))
theorem E8(C:Defs K mg):FnOk P w K mg base CX0 2 C.vm C.vn ["self"] (spF K 1 Bl):=by
 refine Fun.okF (N:=["self"]) C.vo Jr (fun cdv A outer s H E hr=>?_)
 have hu:=hr.units
 exact (An (A8 (Qc (Fw (N':=["point"]) (ix:=[none]) ⟨rfl,rfl,rfl,rfl,rfl,rfl⟩ rfl (Q6 (Kk C.ub C.yb (Ah 0)) ⟨rfl,rfl,rfl,rfl⟩) (fun _ _ _ _ _ _=>(Bg (i:=0) (show cP (α:=Str) ["point"] by decide +kernel))) (fun _ _ _ _ _ _=>(Av (Pk C) (hr.mono (by decide)) (by rfl) C.uI C.uG.kp C.uH (Ae (Ah 0) Ag)))))))
theorem Te(C:Defs K mg):FnOk P w K mg base CX0 2 C.vt C.vv ["places","place"] (spF K 2 Hi):=by
 refine Fun.okF (N:=["places","place"]) C.vw Ti (fun cdv A outer s H E hr=>?_)
 have hu:=hr.units
 exact (An (A8 (Cz E7 Gy (by rfl) C.yi dR (Ae (G0 (N':=["other","place"]) (ix:=[none,some 1]) ⟨rfl,rfl,rfl,rfl,rfl,rfl⟩ rfl (Dy (Ah 0)) (fun _ _ _ _ _ _=>(Bg (i:=0) (show cP (α:=Str) ["other","place"] by decide +kernel))) (fun _ _ _ _ _ _=>(Ee (Av (Mq C) (hr.mono (by decide)) (by rfl) C.uy C.uw.kp C.ux (Ae (Ah 1) (Ae (Ah 0) Ag))))) (fun _ _ _ _ _ _=>(Ah 0))) Ag))))
theorem J6(C:Defs K mg):FnOk P w K mg base CX0 3 C.vA C.vB ["self","x","y"] (spF K 3 C6):=by
 refine Fun.okF (N:=["self","x","y"]) C.vC Jx (fun cdv A outer s H E hr=>?_)
 have hu:=hr.units
 exact (An (A8 (Av (Te C) (hr.mono (by decide)) (by rfl) C.vz C.vw.kp C.vy (Ae (Gz C.ub C.vq (E8 C) (hr.mono (by decide)) C.vp (Ah 0)) (Ae (Gi (Ae (Ah 1) (Ae (Ah 2) Ag))) Ag)))))
theorem J0(C:Defs K mg):FnOk P w K mg base CX0 3 C.vF C.vG ["self","x","y"] (spF K 3 C5):=by
 refine Fun.okF (N:=["self","x","y"]) C.vH Kd (fun cdv A outer s H E hr=>?_)
 have hu:=hr.units
 exact (An (A8 (Av (Mt C) (hr.mono (by decide)) (by rfl) C.uD C.uB.kp C.uC (Ae (Gz C.ub C.vq (E8 C) (hr.mono (by decide)) C.vp (Ah 0)) (Ae (Gi (Ae (Ah 1) (Ae (Ah 2) Ag))) Ag)))))
theorem Aap(C:Defs K mg):FnOk P w K mg base CX0 1 C.vK C.vL ["point","box"] (spF K 2 Md):=by
 refine Fun.okF (N:=["point","box"]) C.vM Aah (fun cdv A outer s H E hr=>?_)
 have hu:=hr.units
 exact (An (A8 (Vr (X4 K7 K7 Hz Hz (Aw Ap Aq (Ah 1) Aj (fun _ _=>rfl)) (Aw Ap Aq (Ah 0) Aj (fun _ _=>rfl)) (Aw Ap Aq (Ah 1) Aj (fun _ _=>rfl))) (Vh (X4 K7 K7 Hz Hz (Aw Ap Aq (Ah 1) Aj (fun _ _=>rfl)) (Aw Ap Aq (Ah 0) Aj (fun _ _=>rfl)) (Aw Ap Aq (Ah 1) Aj (fun _ _=>rfl)))))))
theorem Ve(C:Defs K mg):FnOk P w K mg base CX0 2 C.vP C.vQ ["points","box"] (spF K 2 Ip):=by
 refine Fun.okF (N:=["points","box"]) C.vR We (fun cdv A outer s H E hr=>?_)
 have hu:=hr.units
 exact (An (A8 (G0 (N':=["point","box"]) (ix:=[none,some 1]) ⟨rfl,rfl,rfl,rfl,rfl,rfl⟩ rfl (Dy (Ah 0)) (fun _ _ _ _ _ _=>(Bg (i:=0) (show cP (α:=Str) ["point","box"] by decide +kernel))) (fun _ _ _ _ _ _=>(Ee (Av (Aap C) (hr.mono (by decide)) (by rfl) C.vO C.vM.kp C.vN (Ae (Ah 0) (Ae (Ah 1) Ag))))) (fun _ _ _ _ _ _=>(Ah 0)))))
theorem W9(C:Defs K mg):FnOk P w K mg base CX0 3 C.vU C.vV ["points","boxes"] (spF K 2 Kh):=by
 refine Fun.okF (N:=["points","boxes"]) C.vW Ws (fun cdv A outer s H E hr=>?_)
 have hu:=hr.units
 exact (An (A8 (Fq Gx Ma (by rfl) C.yn (by decide +kernel) (Ae (Fw (N':=["box","points"]) (ix:=[none,some 0]) ⟨rfl,rfl,rfl,rfl,rfl,rfl⟩ rfl (Dy (Ah 1)) (fun _ _ _ _ _ _=>(Bg (i:=0) (show cP (α:=Str) ["box","points"] by decide +kernel))) (fun _ _ _ _ _ _=>(Cz E7 Gy (by rfl) C.yi dR (Ae (Av (Ve C) (hr.mono (by decide)) (by rfl) C.vT C.vR.kp C.vS (Ae (Ah 1) (Ae (Ah 0) Ag))) Ag)))) Ag))))
theorem Ky(C:Defs K mg):FnOk P w K mg base CX0 4 C.vZ C.v9 ["self","box"] (spF K 2 Cw):=by
 refine Fun.okF (N:=["self","box"]) C.wc Kz (fun cdv A outer s H E hr=>?_)
 have hu:=hr.units
 exact (An (A8 (Aw Ap Aq (Av (W9 C) (hr.mono (by decide)) (by rfl) C.vY C.vW.kp C.vX (Ae (Gz C.ub C.ut (Cf C) (hr.mono (by decide)) C.ur (Ah 0)) (Ae (Gi (Ae (Ah 1) Ag)) Ag))) Aj (fun _ _=>rfl))))
theorem N9(C:Defs K mg):FnOk P w K mg base CX0 5 C.wf C.wg ["seed","kept","there","place"] (spF K 4 Dv):=by
 refine Fun.okF (N:=["seed","kept","there","place","others","below","above","held","order","way","told"]) C.wj Bn (fun cdv A outer s H E hr=>?_)
 have hu:=hr.units
 refine Am ?s0 ?t0
 case s0=>exact (Ae6 (Adm (i:=4) (N':=["one","place"]) (ix:=[none,some 3]) (by exact Bn.nd) ⟨rfl,rfl,rfl,rfl,rfl,rfl⟩ rfl (Q6 (Ah 2) ⟨rfl,rfl,rfl,rfl⟩) (fun _ _ _ _ _ _=>(Bg (i:=0) (show cP (α:=Str) ["one","place"] by decide +kernel))) (fun _ _ _ _ _ _=>(Bj (Lj hu) Lr (Ah 0) (Ah 1) (Bp _))) (fun _ _ _ _ _ _=>(Ah 0))))
 refine Am ?s1 ?t1
 case s1=>exact (Ay (i:=5) (by exact Bn.nd) (Cz E7 Gy (by rfl) C.yi dR (Ae (G0 (N':=["one","place"]) (ix:=[none,some 3]) ⟨rfl,rfl,rfl,rfl,rfl,rfl⟩ rfl (Dy (Ah 4)) (fun _ _ _ _ _ _=>(Bg (i:=0) (show cP (α:=Str) ["one","place"] by decide +kernel))) (fun _ _ _ _ _ _=>(PWF.pt (Mb (Bj K7 Hz (Aw Ap Aq (Ah 0) Aj (fun _ _=>rfl)) (Aw Ap Aq (Ah 1) Aj (fun _ _=>rfl)) (Bp _)) (Lk (Bj K7 Hz (Aw Ap Aq (Ah 0) Aj (fun _ _=>rfl)) (Aw Ap Aq (Ah 1) Aj (fun _ _=>rfl)) (Bp _)))))) (fun _ _ _ _ _ _=>Aj)) Ag)))
 refine Am ?s2 ?t2
 case s2=>exact (Ay (i:=6) (by exact Bn.nd) (Cz E7 Gy (by rfl) C.yi dR (Ae (G0 (N':=["one","place"]) (ix:=[none,some 3]) ⟨rfl,rfl,rfl,rfl,rfl,rfl⟩ rfl (Dy (Ah 4)) (fun _ _ _ _ _ _=>(Bg (i:=0) (show cP (α:=Str) ["one","place"] by decide +kernel))) (fun _ _ _ _ _ _=>(PWF.pt (Mb (Bj K7 Hz (Aw Ap Aq (Ah 1) Aj (fun _ _=>rfl)) (Aw Ap Aq (Ah 0) Aj (fun _ _=>rfl)) (Bp _)) (Lk (Bj K7 Hz (Aw Ap Aq (Ah 1) Aj (fun _ _=>rfl)) (Aw Ap Aq (Ah 0) Aj (fun _ _=>rfl)) (Bp _)))))) (fun _ _ _ _ _ _=>Aj)) Ag)))
 refine Am ?s3 ?t3
 case s3=>exact (Ay (i:=7) (by exact Bn.nd) (Cz E7 Gy (by rfl) C.yi dR (Ae (Qc (G0 (N':=["one","place"]) (ix:=[none,some 3]) ⟨rfl,rfl,rfl,rfl,rfl,rfl⟩ rfl (Q6 (Ah 2) ⟨rfl,rfl,rfl,rfl⟩) (fun _ _ _ _ _ _=>(Bg (i:=0) (show cP (α:=Str) ["one","place"] by decide +kernel))) (fun _ _ _ _ _ _=>(Bj Aqc Aoh (Cz (Up rfl) Yk (by rfl) C.yk mW (Ae (Cz Xi Ab7 (by rfl) C.yd (by decide +kernel) (Ae (Br Je Gu (Aw Ap Aq (Ah 0) Aj (fun _ _=>rfl)) (Aw Ap Aq (Ah 1) Aj (fun _ _=>rfl))) Ag)) (Ae (Cz Xi Ab7 (by rfl) C.yd (by decide +kernel) (Ae (Br Je Gu (Aw Ap Aq (Ah 0) Aj (fun _ _=>rfl)) (Aw Ap Aq (Ah 1) Aj (fun _ _=>rfl))) Ag)) Ag))) Aj (Bp _))) (fun _ _ _ _ _ _=>Aj))) Ag)))
 refine Am ?s4 ?t4
 case s4=>exact (Ay (i:=8) (by exact Bn.nd) (Aw Ap Aq (Du (Ae (Du (Ae Aj (Ae Aj (Ae Aj Ag)))) (Ae (Du (Ae Aj (Ae Aj (Ae Aj Ag)))) (Ae (Du (Ae Aj (Ae Aj (Ae Aj Ag)))) (Ae (Du (Ae Aj (Ae Aj (Ae Aj Ag)))) Ag))))) (Av (B1 C) (hr.mono (by decide)) (by rfl) C.va C.u8.kp C.u9 (Ae (Ah 0) (Ae Aj Ag))) (fun _ _=>rfl)))
 refine Am ?s5 ?t5
 case s5=>exact (L9 fZ rfl (Dy (Ah 8)) (Bg (i:=9) (by exact Bn.nd)) (Am (De (Bj (Eb hu) Ec (Ah 9) Aj (Bp _)) (An (Ay (i:=10) (by exact Bn.nd) (Iy C.ub C.vJ (J0 C) (hr.mono (by decide)) C.vI (Ah 1) (Ae (Aw Ap Aq (Ah 3) Aj (fun _ _=>rfl)) (Ae (Aw Ap Aq (Ah 3) Aj (fun _ _=>rfl)) Ag))))) (An (De (Bj (Eb hu) Ec (Ah 9) Aj (Bp _)) (An (Ay (i:=10) (by exact Bn.nd) (Iy C.ub C.vE (J6 C) (hr.mono (by decide)) C.vD (Ah 1) (Ae (Aw Ap Aq (Ah 3) Aj (fun _ _=>rfl)) (Ae (Aw Ap Aq (Ah 3) Aj (fun _ _=>rfl)) Ag))))) (An (Ay (i:=10) (by exact Bn.nd) (Iy C.ub C.we (Ky C) (hr.mono (by decide)) C.wd (Ah 1) (Ae (Gi (Ae (Br Je Gu (Aw Ap Aq (Ah 3) Aj (fun _ _=>rfl)) Aj) (Ae (Br Je Gu (Aw Ap Aq (Ah 3) Aj (fun _ _=>rfl)) Aj) (Ae (Br D6 Dz (Aw Ap Aq (Ah 3) Aj (fun _ _=>rfl)) Aj) (Ae (Br D6 Dz (Aw Ap Aq (Ah 3) Aj (fun _ _=>rfl)) Aj) Ag))))) Ag))))))) (An (De (Bj (Lj hu) Lr (Ah 10) (Aw Ap Aq (Du (Ae (Ah 5) (Ae (Ah 6) (Ae (Ah 7) Ag)))) (Ah 9) (fun _ _=>rfl)) (Bp _)) (An (A8 Kw)) Dg))))
 exact (An (A8 Kw))
theorem Y3(C:Defs K mg):FnOk P w K mg base CX0 2 C.wm C.wn ["seed","many"] (spF K 2 J7):=by
 refine Fun.okF (N:=["seed","many","letters","spare"]) C.wo H0 (fun cdv A outer s H E hr=>?_)
 have hu:=hr.units
 refine Am ?s0 ?t0
 case s0=>exact (Ay (i:=2) (by exact H0.nd) B2)
 refine Am ?s1 ?t1
 case s1=>exact (Ay (i:=3) (by exact H0.nd) (Br D6 Dz (Br D6 Dz (Fw (N':=["sign"]) (ix:=[none]) ⟨rfl,rfl,rfl,rfl,rfl,rfl⟩ rfl (Wj (Ah 2)) (fun _ _ _ _ _ _=>(Bg (i:=0) (show cP (α:=Str) ["sign"] by decide +kernel))) (fun _ _ _ _ _ _=>(Ah 0))) (Fw (N':=["sign"]) (ix:=[none]) ⟨rfl,rfl,rfl,rfl,rfl,rfl⟩ rfl (Wj (Ah 2)) (fun _ _ _ _ _ _=>(Bg (i:=0) (show cP (α:=Str) ["sign"] by decide +kernel))) (fun _ _ _ _ _ _=>(Br D6 Dz (Ah 0) B2)))) (Fw (N':=["sign"]) (ix:=[none]) ⟨rfl,rfl,rfl,rfl,rfl,rfl⟩ rfl (Wj (Ah 2)) (fun _ _ _ _ _ _=>(Bg (i:=0) (show cP (α:=Str) ["sign"] by decide +kernel))) (fun _ _ _ _ _ _=>(Br D6 Dz B2 (Ah 0))))))
 refine Am ?s2 ?t2
 case s2=>exact (Ay (i:=3) (by exact H0.nd) (Br D6 Dz (Ah 3) (Du (by refine Ae B2 ?_;refine Ae B2 ?_;refine Ae B2 ?_;refine Ae B2 ?_;refine Ae B2 ?_;refine Ae B2 ?_;refine Ae B2 ?_;refine Ae B2 ?_;refine Ae B2 ?_;refine Ae B2 ?_;exact Ag))))
 refine Am ?s3 ?t3
 case s3=>exact (Ay (i:=3) (by exact H0.nd) (Br D6 Dz (Ah 3) (Du (by refine Ae B2 ?_;refine Ae B2 ?_;refine Ae B2 ?_;refine Ae B2 ?_;refine Ae B2 ?_;refine Ae B2 ?_;refine Ae B2 ?_;exact Ag))))
 exact (An (A8 (Fw (N':=["k","spare","seed"]) (ix:=[none,some 3,some 0]) ⟨rfl,rfl,rfl,rfl,rfl,rfl⟩ rfl (Qx (by rfl) C.yl (Ae (Ah 1) Ag)) (fun _ _ _ _ _ _=>(Bg (i:=0) (show cP (α:=Str) ["k","spare","seed"] by decide +kernel))) (fun _ _ _ _ _ _=>(Ag5 iH PySem.F.slot_list_pop PySem.F.type_list_pop Agj Ak1 (Ah 1) (Ae (Av (B1 C) (hr.mono (by decide)) (by rfl) C.va C.u8.kp C.u9 (Ae (Ah 2) (Ae (Cz E7 Gy (by rfl) C.yi dR (Ae (Ah 1) Ag)) Ag))) Ag))))))
theorem Aau(C:Defs K mg):FnOk P w K mg base CX0 1 C.wu C.wv ["there"] (spF K 1 Ho):=by
 refine Fun.okF (N:=["there","places","found","one"]) C.ww Ic (fun cdv A outer s H E hr=>?_)
 have hu:=hr.units
 refine Am ?s0 ?t0
 case s0=>exact (Ay (i:=1) (by exact Ic.nd) (Wr rfl (by rfl) C.yj (Ah 0) ⟨rfl,rfl,rfl,rfl⟩))
 refine Am ?s1 ?t1
 case s1=>exact (Ay (i:=2) (by exact Ic.nd) Aj)
 refine Am ?s2 ?t2
 case s2=>exact (L9 fZ rfl (Dy (Ah 1)) (Bg (i:=3) (by exact Ic.nd)) (An (Ay (i:=2) (by exact Ic.nd) (Br D6 Dz (Ah 2) (Cz E7 Gy (by rfl) C.yi dR (Ae (G0 (N':=["other","one"]) (ix:=[none,some 3]) ⟨rfl,rfl,rfl,rfl,rfl,rfl⟩ rfl (Dy (Ah 1)) (fun _ _ _ _ _ _=>(Bg (i:=0) (show cP (α:=Str) ["other","one"] by decide +kernel))) (fun _ _ _ _ _ _=>(PWF.pt (Mb (Bj K7 Hz (Aw Ap Aq (Ah 1) Aj (fun _ _=>rfl)) (Aw Ap Aq (Ah 0) Aj (fun _ _=>rfl)) (Bp _)) (Mb (Bj K7 Hz (Aw Ap Aq (Ah 1) Aj (fun _ _=>rfl)) (Aw Ap Aq (Ah 0) Aj (fun _ _=>rfl)) (Bp _)) (Lk (Bj (Lj hu) Lr (Ah 1) (Ah 0) (Bp _))))))) (fun _ _ _ _ _ _=>Aj)) Ag))))))
 exact (An (A8 (Ah 2)))
theorem U2(C:Defs K mg):FnOk P w K mg base CX0 1 C.wz C.wA ["cell"] (spF K 1 G1):=by
 refine Fun.okF (N:=["cell","number"]) C.wB U1 (fun cdv A outer s H E hr=>?_)
 have hu:=hr.units
 refine Am ?s0 ?t0
 case s0=>exact (Ay (i:=1) (by exact U1.nd) (Cz (Up rfl) Yk (by rfl) C.yk mW (Ae (Ah 0) (Ae (Br Je Gu Aj (Ah 0)) Ag))))
 exact (An (A8 (Du (Ae (Ah 1) (Ae (Fq Me P9 (by rfl) C.yg (by decide +kernel) (Ae (G6 Apt Ams (Ah 1) (Br Sa Oa Aj Aj) (Bp _)) Ag)) (Ae Aj (Ae (Br Lb Im (Ah 0) Aj) Ag)))))))
theorem Aai(C:Defs K mg):FnOk P w K mg base CX0 1 C.wE C.wF ["caught"] (spF K 1 Ht):=by
 refine Fun.okF (N:=["caught"]) C.wG Aa4 (fun cdv A outer s H E hr=>?_)
 have hu:=hr.units
 refine Am ?s0 ?t0
 case s0=>exact (De (PWF.pt (Ou (Hl (Ee (Ah3 C.xZ (by decide) C.xR (Ah 0) (by rfl) C.yh (by rfl) C.xS))) (Ou (Hl (Ee (Ah3 C.xZ (by decide) C.xJ (Ah 0) (by rfl) C.yh (by rfl) C.xK))) (Qe (Hl (Ee (Aj5 C.xZ (by decide) C.ya (Ah 0) (by rfl) C.yh (by rfl) C.yc))))))) (An (A8 Kw)) Dg)
 exact (An (A8 (Ana (Ajt C.xZ (by decide) (.cons C.xL (by rfl) C.xO (.cons C.xP (by rfl) C.xQ (.cons C.xT (by rfl) C.xU (.cons C.xV (by rfl) C.xW .nil)))) (Ah 0) (by rfl) C.yh))))
theorem Fi(C:Defs K mg):FnOk P w K mg base CX0 1 C.wJ C.wK ["self","name"] (spF K 2 B8):=by
 refine Fun.okF (N:=["self","name"]) C.wL Fm (fun cdv A outer s H E hr=>?_)
 have hu:=hr.units
 exact (An (De (Bj (Oh hu) Nb (Ah 1) (Kk C.ub C.yb (Ah 0)) (by with_unfolding_all rfl)) (An Ug) Dg))
theorem E6(C:Defs K mg):FnX P w K mg base 3 C.wJ C.wK ["self","name"] Cq:=by
 refine Fun.okX (N:=["self","name"]) C.wL Fm (fun cdv A outer s H E hr=>?_)
 have hu:=hr.units
 exact (Iz (Aca (Bj (Oh hu) Nb (Ah 1) (Kk C.ub C.yb (Ah 0)) (by with_unfolding_all rfl)) (Iz (W8 (AllX.of C.xZ) (Rl C.xR C.xX (E9 C) (hr.mono (by decide)) (by rfl) C.xS C.u5 (Ae (Ah 1) Ag)))) Ahl))
theorem Jp(C:Defs K mg):FnOk P w K mg base CX0 2 C.wO C.wP ["self","name","x","y"] (spF K 4 Cm):=by
 refine Fun.okF (N:=["self","name","x","y"]) C.wQ E3 (fun cdv A outer s H E hr=>?_)
 have hu:=hr.units
 refine Am ?s0 ?t0
 case s0=>exact (Ie (Iy C.ub C.wN (Fi C) (hr.mono (by decide)) C.wM (Ah 0) (Ae (Ah 1) Ag)))
 exact (An (Rz hu (Kk C.ub C.yb (Ah 0)) (Ah 1) (Gi (Ae (Ah 1) (Ae (Ah 2) (Ae (Ah 3) Ag))))))
theorem Ij(C:Defs K mg):FnX P w K mg base 4 C.wO C.wP ["self","name","x","y"] C1:=by
 refine Fun.okX (N:=["self","name","x","y"]) C.wQ E3 (fun cdv A outer s H E hr=>?_)
 have hu:=hr.units
 exact (Ol (Adc (Nd C.ub C.wN (E6 C) (hr.mono (by decide)) C.wM (Ah 0) (Ae (Ah 1) Ag))))
theorem Jt(C:Defs K mg):FnOk P w K mg base CX0 1 C.wT C.wU ["self","name","x","y"] (spF K 4 Cp):=by
 refine Fun.okF (N:=["self","name","x","y"]) C.wV Fe (fun cdv A outer s H E hr=>?_)
 have hu:=hr.units
 refine Am ?s0 ?t0
 case s0=>exact (De (Bj (Abe hu) Vk (Ah 1) (Kk C.ub C.yb (Ah 0)) (by with_unfolding_all rfl)) (An Ug) Dg)
 exact (An (Rz hu (Kk C.ub C.yb (Ah 0)) (Ah 1) (Gi (Ae (Ah 1) (Ae (Ah 2) (Ae (Ah 3) Ag))))))
theorem Jf(C:Defs K mg):FnX P w K mg base 3 C.wT C.wU ["self","name","x","y"] C4:=by
 refine Fun.okX (N:=["self","name","x","y"]) C.wV Fe (fun cdv A outer s H E hr=>?_)
 have hu:=hr.units
 exact (Ol (Aca (Bj (Abe hu) Vk (Ah 1) (Kk C.ub C.yb (Ah 0)) (by with_unfolding_all rfl)) (Iz (W8 (AllX.of C.xZ) (Rl C.xR C.xX (E9 C) (hr.mono (by decide)) (by rfl) C.xS C.u5 (Ae (Ah 1) Ag)))) Ahl))
theorem Jm(C:Defs K mg):FnOk P w K mg base CX0 2 C.wY C.wZ ["self","name"] (spF K 2 Cj):=by
 refine Fun.okF (N:=["self","name"]) C.w4 E4 (fun cdv A outer s H E hr=>?_)
 have hu:=hr.units
 refine Am ?s0 ?t0
 case s0=>exact (Ie (Iy C.ub C.wN (Fi C) (hr.mono (by decide)) C.wM (Ah 0) (Ae (Ah 1) Ag)))
 exact (An (Ie (Ade (Kk C.ub C.yb (Ah 0)) (Ah 1) ⟨rfl,rfl,rfl,rfl⟩)))
theorem Ik(C:Defs K mg):FnX P w K mg base 4 C.wY C.wZ ["self","name"] C3:=by
 refine Fun.okX (N:=["self","name"]) C.w4 E4 (fun cdv A outer s H E hr=>?_)
 have hu:=hr.units
 exact (Ol (Adc (Nd C.ub C.wN (E6 C) (hr.mono (by decide)) C.wM (Ah 0) (Ae (Ah 1) Ag))))
theorem Adt(C:Defs K mg):FnOk P w K mg base CX0 5 C.w9 C.xa ["kept","word","name","place"] (spF K 4 E2):=by
 refine Fun.okF (N:=["kept","word","name","place","found","caught","e"]) C.xf Fj (fun cdv A outer s H E hr=>?_)
 have hu:=hr.units
 refine Am ?s0 ?t0
 case s0=>exact (Ay (i:=4) (by exact Fj.nd) Wk)
 refine Am ?s1 ?t1
 case s1=>exact (Ay (i:=5) (by exact Fj.nd) Wk)
 refine Am ?s2 ?t2
 case s2=>exact (Ajj (i:=6) (AllM.sub C.xZ (by decide) (by decide) C.xJ (by decide)) (by exact Fj.nd) (An (De (Bj (Eb hu) Ec (Ah 1) B2 (Bp _)) (An (Ay (i:=4) (by exact Fj.nd) (Iy C.ub C.wX (Jt C) (hr.mono (by decide)) C.wW (Ah 0) (Ae (Ah 2) (Ae (Aw Ap Aq (Ah 3) Aj (fun _ _=>rfl)) (Ae (Aw Ap Aq (Ah 3) Aj (fun _ _=>rfl)) Ag)))))) (An (De (Bj (Eb hu) Ec (Ah 1) B2 (Bp _)) (An (Ay (i:=4) (by exact Fj.nd) (Iy C.ub C.w6 (Jm C) (hr.mono (by decide)) C.w5 (Ah 0) (Ae (Ah 2) Ag)))) (An (Ay (i:=4) (by exact Fj.nd) (Iy C.ub C.wS (Jp C) (hr.mono (by decide)) C.wR (Ah 0) (Ae (Ah 2) (Ae (Aw Ap Aq (Ah 3) Aj (fun _ _=>rfl)) (Ae (Aw Ap Aq (Ah 3) Aj (fun _ _=>rfl)) Ag)))))))))) (Iz (Aca (Bj (Eb hu) Ec (Ah 1) B2 (Bp _)) (Iz (Aab (Nd C.ub C.wX (Jf C) (hr.mono (by decide)) C.wW (Ah 0) (Ae (Ah 2) (Ae (Aw Ap Aq (Ah 3) Aj (fun _ _=>rfl)) (Ae (Aw Ap Aq (Ah 3) Aj (fun _ _=>rfl)) Ag)))))) (Iz (Aca (Bj (Eb hu) Ec (Ah 1) B2 (Bp _)) (Iz (Aab (Nd C.ub C.w6 (Ik C) (hr.mono (by decide)) C.w5 (Ah 0) (Ae (Ah 2) Ag)))) (Iz (Aab (Nd C.ub C.wS (Ij C) (hr.mono (by decide)) C.wR (Ah 0) (Ae (Ah 2) (Ae (Aw Ap Aq (Ah 3) Aj (fun _ _=>rfl)) (Ae (Aw Ap Aq (Ah 3) Aj (fun _ _=>rfl)) Ag)))))))))) (fun _=>(An (Ay (i:=5) (by exact Fj.nd) (Ah 6)))) (by rfl) C.xK)
 exact (An (A8 (Gi (Ae (Ah 4) (Ae (Ah 5) Ag)))))
theorem Pn(C:Defs K mg):FnOk P w K mg base CX0 2 C.xi C.xj ["seed","way"] (spF K 2 Dx):=by
 refine Fun.okF (N:=["seed","way","great"]) C.xk Pc (fun cdv A outer s H E hr=>?_)
 have hu:=hr.units
 refine Am ?s0 ?t0
 case s0=>exact (De (Bj (Eb hu) Ec (Ah 1) Aj (Bp _)) (An (A8 (Br Je Gu (Av (B1 C) (hr.mono (by decide)) (by rfl) C.va C.u8.kp C.u9 (Ae (Ah 0) (Ae Aj Ag))) Aj))) Dg)
 refine Am ?s1 ?t1
 case s1=>exact (De (Bj (Eb hu) Ec (Ah 1) Aj (Bp _)) (An (A8 (Br Je Gu (Av (B1 C) (hr.mono (by decide)) (by rfl) C.va C.u8.kp C.u9 (Ae (Ah 0) (Ae Aj Ag))) Aj))) Dg)
 refine Am ?s2 ?t2
 case s2=>exact (Ay (i:=2) (by exact Pc.nd) (Aw Ap Aq (Du (Ae (Br D6 Dz (Br Ja Iu (Av (B1 C) (hr.mono (by decide)) (by rfl) C.va C.u8.kp C.u9 (Ae (Ah 0) (Ae (Br Sa Oa Aj Aj) Ag))) (Br Sa Oa Aj Aj)) (Av (B1 C) (hr.mono (by decide)) (by rfl) C.va C.u8.kp C.u9 (Ae (Ah 0) (Ae (Br Sa Oa Aj Aj) Ag)))) (Ae (Br Je Gu (Br Sa Oa Aj Aj) Aj) Ag))) (Fq Me P9 (by rfl) C.yg (by decide +kernel) (Ae (G6 (Eb hu) Ec (Av (B1 C) (hr.mono (by decide)) (by rfl) C.va C.u8.kp C.u9 (Ae (Ah 0) (Ae Aj Ag))) Aj (Bp _)) Ag)) (fun _ _=>rfl)))
 exact (An (A8 (Br Ja Iu (Aw Ap Aq (Du (Ae Aj (Ae (Amj Aj) Ag))) (Av (B1 C) (hr.mono (by decide)) (by rfl) C.va C.u8.kp C.u9 (Ae (Ah 0) (Ae Aj Ag))) (fun _ _=>rfl)) (Ah 2))))
theorem Aak(C:Defs K mg):FnOk P w K mg base CX0 3 C.xo C.xp ["seed","there"] (spF K 2 Jy):=by
 refine Fun.okF (N:=["seed","there","way","x"]) C.xq Nc (fun cdv A outer s H E hr=>?_)
 have hu:=hr.units
 refine Am ?s0 ?t0
 case s0=>exact (De (PWF.pt (Mb (Bj (Anc hu) Aju (Ah 1) Qa (Bp _)) (Lk (Bj (Eb hu) Ec (Av (B1 C) (hr.mono (by decide)) (by rfl) C.va C.u8.kp C.u9 (Ae (Ah 0) (Ae Aj Ag))) Aj (Bp _))))) (An (A8 (Aw Ap Aq (Wr rfl (by rfl) C.yj (Ah 1) ⟨rfl,rfl,rfl,rfl⟩) (Av (B1 C) (hr.mono (by decide)) (by rfl) C.va C.u8.kp C.u9 (Ae (Ah 0) (Ae (Cz Adz Agk (by rfl) C.yi dR (Ae (Ah 1) Ag)) Ag))) (fun _ _=>rfl)))) Dg)
 refine Am ?s1 ?t1
 case s1=>exact (Ay (i:=2) (by exact Nc.nd) (Av (B1 C) (hr.mono (by decide)) (by rfl) C.va C.u8.kp C.u9 (Ae (Ah 0) (Ae Aj Ag))))
 refine Am ?s2 ?t2
 case s2=>exact (Ay (i:=3) (by exact Nc.nd) (Av (Pn C) (hr.mono (by decide)) (by rfl) C.xn C.xk.kp C.xm (Ae (Ah 0) (Ae (Ah 2) Ag))))
 exact (An (A8 (Gi (Ae (Ah 3) (Ae (Av (Pn C) (hr.mono (by decide)) (by rfl) C.xn C.xk.kp C.xm (Ae (Ah 0) (Ae (Ah 2) Ag))) Ag)))))
theorem Ad5(C:Defs K mg):FnOk P w K mg base CX0 6 C.xx C.xy ["seed","kept","there","names","places"] (spF K 5 Lc):=by
 refine Fun.okF (N:=["seed","kept","there","names","places","name","place","word","found","caught"]) C.xz Gq (fun cdv A outer s H E hr=>?_)
 have hu:=hr.units
 refine Am ?s0 ?t0
 case s0=>exact (Ay (i:=5) (by exact Gq.nd) (Aw Ap Aq (Ah 3) (Av (B1 C) (hr.mono (by decide)) (by rfl) C.va C.u8.kp C.u9 (Ae (Ah 0) (Ae (Cz E7 Gy (by rfl) C.yi dR (Ae (Ah 3) Ag)) Ag))) (fun _ _=>rfl)))
 refine Am ?s1 ?t1
 case s1=>exact (Ay (i:=6) (by exact Gq.nd) (Av (Aak C) (hr.mono (by decide)) (by rfl) C.xw C.xq.kp C.xu (Ae (Ah 0) (Ae (Ah 2) Ag))))
 refine Am ?s2 ?t2
 case s2=>exact (Ie (Ag5 iH lY lZ Uq Qv (Ah 4) (Ae (Ah 6) Ag)))
 refine Am ?s3 ?t3
 case s3=>exact (Ay (i:=7) (by exact Gq.nd) (Aw Ap Aq (Du (Ae B2 (Ae B2 (Ae B2 Ag)))) (Av (B1 C) (hr.mono (by decide)) (by rfl) C.va C.u8.kp C.u9 (Ae (Ah 0) (Ae Aj Ag))) (fun _ _=>rfl)))
 refine Am ?s4 ?t4
 case s4=>exact (De (Bj Alq Agn (Av (B1 C) (hr.mono (by decide)) (by rfl) C.va C.u8.kp C.u9 (Ae (Ah 0) (Ae Aj Ag))) Aj (Bp _)) (An (Ay (i:=7) (by exact Gq.nd) (Aw Ap Aq (Du (Ae (Ah 7) (Ae B2 Ag))) (Fq Me P9 (by rfl) C.yg (by decide +kernel) (Ae (G6 (Oh hu) Nb (Ah 5) (Ah 2) (by with_unfolding_all rfl)) Ag)) (fun _ _=>rfl)))) Dg)
 refine Am ?s5 ?t5
 case s5=>exact (V6 (Av (Adt C) (hr.mono (by decide)) (by rfl) C.xh C.xf.kp C.xg (Ae (Ah 1) (Ae (Ah 7) (Ae (Ah 5) (Ae (Ah 6) Ag))))) (Nl rfl (D9 (Bg (i:=8) (by exact Gq.nd)) (D9 (Bg (i:=9) (by exact Gq.nd)) La))))
 refine Am ?s6 ?t6
 case s6=>exact (De (Bj (Eb hu) Ec (G6 (Abe hu) Vk (Ah 5) (Ah 2) (by with_unfolding_all rfl)) (G6 (Eb hu) Ec (Ah 7) B2 (Bp _)) (Bp _)) (An (A8 (Vr (Av (Aai C) (hr.mono (by decide)) (by rfl) C.wI C.wG.kp C.wH (Ae (Ah 9) Ag)) (Vh (G6 (Eb hu) Ec (Ac2 C.xZ C.x5 (Ah 9)) (Ah 5) (Bp _)))))) Dg)
 refine Am ?s7 ?t7
 case s7=>exact (De (Bj Ajo Aip (Ah 9) Wk (Bp _)) (An (A8 Kw)) Dg)
 refine Am ?s8 ?t8
 case s8=>exact (De (Bj (Eb hu) Ec (Ah 7) B2 (Bp _)) (An (Ie (Ade (Ah 2) (Ah 5) ⟨rfl,rfl,rfl,rfl⟩))) (An (Rz hu (Ah 2) (Ah 5) (Ah 6))))
 exact (An (A8 (G6 Al4 Aj0 (Ah 8) Wk (Bp _))))
theorem Amp(C:Defs K mg):FnOk P w K mg base CX0 7 C.xC C.xD ["script"] (spF K 1 U3):=by
 refine Fun.okF (N:=["script","seed","names","kepts","there","held","cell","own","at","turn","places"]) C.xE Ia (fun cdv A outer s H E hr=>?_)
 have hu:=hr.units
 refine Am ?s0 ?t0
 case s0=>exact (Ay (i:=1) (by exact Ia.nd) (Av (U2 C) (hr.mono (by decide)) (by rfl) C.wD C.wB.kp C.wC (Ae (Av (Yl C) (hr.mono (by decide)) (by rfl) C.vf C.vd.kp C.ve (Ae (Ah 0) Ag)) Ag)))
 refine Am ?s1 ?t1
 case s1=>exact (Ay (i:=2) (by exact Ia.nd) (Av (Y3 C) (hr.mono (by decide)) (by rfl) C.wt C.wo.kp C.wq (Ae (Ah 1) (Ae (Br Nx Lo Aj (Av (B1 C) (hr.mono (by decide)) (by rfl) C.va C.u8.kp C.u9 (Ae (Ah 1) (Ae (Aw Ap Aq (Du (Ae Aj (Ae Aj (Ae Aj Ag)))) (Av (B1 C) (hr.mono (by decide)) (by rfl) C.va C.u8.kp C.u9 (Ae (Ah 1) (Ae Aj Ag))) (fun _ _=>rfl)) Ag)))) Ag))))
 refine Am ?s2 ?t2
 case s2=>exact (Ay (i:=3) (by exact Ia.nd) (Du (Ae (Yi C.ub.ns C.xH (Ft C) (hr.mono (by decide)) (by rfl) C.xI C.ul) (Ae (Yi C.ub.ns C.xH (Ft C) (hr.mono (by decide)) (by rfl) C.xI C.ul) Ag))))
 refine Am ?s3 ?t3
 case s3=>exact (Ay (i:=4) (by exact Ia.nd) (Du (Ae Qa (Ae Qa Ag))))
 refine Am ?s4 ?t4
 case s4=>exact (Ay (i:=5) (by exact Ia.nd) (Du Ag))
 refine Am ?s5 ?t5
 case s5=>exact (De (Bj (Lj hu) Lr (Gz C.ub C.ut (Cf C) (hr.mono (by decide)) C.ur (Aw Ap Aq (Ah 3) Aj (fun _ _=>rfl))) (Gi Ag) (Bp _)) (An (A8 Kw)) Dg)
 refine Am ?s6 ?t6
 case s6=>exact (L9 fZ rfl (Dy (Br Nx Lo (Aik Aix Ajz (Ah 0) Afu (Afp Aj)) (Br Ja Iu (Du (Ae Aj Ag)) Aj))) (Bg (i:=6) (by exact Ia.nd)) (Am (Ay (i:=7) (by exact Ia.nd) (Av (U2 C) (hr.mono (by decide)) (by rfl) C.wD C.wB.kp C.wC (Ae (Br Nx Lo (Ah 6) (Av (B1 C) (hr.mono (by decide)) (by rfl) C.va C.u8.kp C.u9 (Ae (Ah 1) (Ae Aj Ag)))) Ag))) (Am (Ay (i:=8) (by exact Ia.nd) (Fq Me P9 (by rfl) C.yg (by decide +kernel) (Ae (G6 (Eb hu) Ec (Av (B1 C) (hr.mono (by decide)) (by rfl) C.va C.u8.kp C.u9 (Ae (Ah 7) (Ae Aj Ag))) Aj (Bp _)) Ag))) (Am (L9 fZ rfl (Qx (by rfl) C.yl (Ae (Br Nx Lo Aj (Av (B1 C) (hr.mono (by decide)) (by rfl) C.va C.u8.kp C.u9 (Ae (Ah 7) (Ae Aj Ag)))) Ag)) (Bg (i:=9) (by exact Ia.nd)) (Am (Ay (i:=10) (by exact Ia.nd) (Du Ag)) (Am (De (Hl (Ee (Av (Ad5 C) (hr.mono (by decide)) (by rfl) C.xB C.xz.kp C.xA (by refine Ae (Ah 7) ?_;refine Ae (Aw Ap Aq (Ah 3) (Ah 8) (fun _ _=>rfl)) ?_;refine Ae (Aw Ap Aq (Ah 4) (Ah 8) (fun _ _=>rfl)) ?_;refine Ae (Ah 2) ?_;refine Ae (Ah 10) ?_;exact Ag)))) (An (A8 Kw)) Dg) (An (De (Hl (Ee (Av (N9 C) (hr.mono (by decide)) (by rfl) C.wl C.wj.kp C.wk (Ae (Ah 7) (Ae (Aw Ap Aq (Ah 3) (Ah 8) (fun _ _=>rfl)) (Ae (Aw Ap Aq (Ah 4) (Ah 8) (fun _ _=>rfl)) (Ae (Aw Ap Aq (Ah 10) Aj (fun _ _=>rfl)) Ag))))))) (An (A8 Kw)) Dg))))) (Am (De (PWF.pt (Ou (Hl (Ee (Av (Ra C) (hr.mono (by decide)) (by rfl) C.vk C.vi.kp C.vj (Ae (Aw Ap Aq (Ah 3) (Ah 8) (fun _ _=>rfl)) (Ae (Aw Ap Aq (Ah 4) (Ah 8) (fun _ _=>rfl)) Ag))))) (Qe (Hl (Ee (Av (Ra C) (hr.mono (by decide)) (by rfl) C.vk C.vi.kp C.vj (Ae (Aw Ap Aq (Ah 3) (Br Je Gu Aj (Ah 8)) (fun _ _=>rfl)) (Ae (Aw Ap Aq (Ah 4) (Br Je Gu Aj (Ah 8)) (fun _ _=>rfl)) Ag)))))))) (An (A8 Kw)) Dg) (Am (De (Bj (Lj hu) Lr (Gz C.ub C.uX (J9 C) (hr.mono (by decide)) C.uW (Aw Ap Aq (Ah 3) (Ah 8) (fun _ _=>rfl))) (Av (Aau C) (hr.mono (by decide)) (by rfl) C.wy C.ww.kp C.wx (Ae (Aw Ap Aq (Ah 4) (Ah 8) (fun _ _=>rfl)) Ag)) (Bp _)) (An (A8 Kw)) Dg) (An (Ie (Ag5 iH lY lZ Uq Qv (Ah 5) (Ae (Gi (Ae (Gz C.ub C.ut (Cf C) (hr.mono (by decide)) C.ur (Aw Ap Aq (Ah 3) (Ah 8) (fun _ _=>rfl))) (Ae (Fq Gx Ma (by rfl) C.yn (by decide +kernel) (Ae (Qc (Fw (N':=["name","place"]) (ix:=[none,none]) ⟨rfl,rfl,rfl,rfl,rfl,rfl⟩ rfl (U7 (Aw Ap Aq (Ah 4) (Ah 8) (fun _ _=>rfl)) ⟨rfl,rfl,rfl,rfl⟩) (fun _ _ _ _ _ _=>(Nl rfl (D9 (Bg (i:=0) (show cP (α:=Str) ["name","place"] by decide +kernel)) (D9 (Bg (i:=1) (show cP (α:=Str) ["name","place"] by decide +kernel)) La)))) (fun _ _ _ _ _ _=>(Br Nx Lo (Gi (Ae (Ah 0) Ag)) (Ah 1))))) Ag)) Ag))) Ag))))))))))
 exact (An (A8 (Vr (G6 (Eb hu) Ec (G0 (N':=["told","due"]) (ix:=[none,none]) ⟨rfl,rfl,rfl,rfl,rfl,rfl⟩ rfl (Dy (Ah 5)) (fun _ _ _ _ _ _=>(Nl rfl (D9 (Bg (i:=0) (show cP (α:=Str) ["told","due"] by decide +kernel)) (D9 (Bg (i:=1) (show cP (α:=Str) ["told","due"] by decide +kernel)) La)))) (fun _ _ _ _ _ _=>(Bj (Lj hu) Lr (Ah 0) (Ah 1) (Bp _))) (fun _ _ _ _ _ _=>Aj)) (Du Ag) (Bp _)) (Vh (G6 (Eb hu) Ec (Ac2 C.xZ C.x5 (Rl C.xR C.xX (E9 C) (hr.mono (by decide)) (by rfl) C.xS C.u5 (Ae B2 Ag))) B2 (Bp _))))))
end
theorem Amz{l:jF}{w:bW}{K:aC}{h:Heap}{mg:Str->Option aE}{fa:Addr}(X:K.In h)(G:h.Ns aN mg)(hfa:mg "law" = some (.ref fa))
  {od0 an0:Option Addr} {sl0:Array (Option aE)} {oc0 kV0 dc0 pm0 cd0 ct0:aE} {f0:Addr} {od1 an1:Option Addr} {sl1:Array (Option aE)} {oc1 kV1 dc1 pm1 cd1 ct1:aE} {f1:Addr} {od2 an2:Option Addr} {sl2:Array (Option aE)} {oc2 kV2 dc2 pm2 cd2 ct2:aE} {f2:Addr} {od3 an3:Option Addr} {sl3:Array (Option aE)} {oc3 kV3 dc3 pm3 cd3 ct3:aE} {f3:Addr} {od4 an4:Option Addr} {sl4:Array (Option aE)} {oc4 kV4 dc4 pm4 cd4 ct4:aE} {f4:Addr} {od5 an5:Option Addr} {sl5:Array (Option aE)} {oc5 kV5 dc5 pm5 cd5 ct5:aE} {f5:Addr} {od6 an6:Option Addr} {sl6:Array (Option aE)} {oc6 kV6 dc6 pm6 cd6 ct6:aE} {f6:Addr} {od7 an7:Option Addr} {sl7:Array (Option aE)} {oc7 kV7 dc7 pm7 cd7 ct7:aE} {f7:Addr} {od8 an8:Option Addr} {sl8:Array (Option aE)} {oc8 kV8 dc8 pm8 cd8 ct8:aE} {f8:Addr} {od9 an9:Option Addr} {sl9:Array (Option aE)} {oc9 kV9 dc9 pm9 cd9 ct9:aE} {f9:Addr} {od10 an10:Option Addr} {sl10:Array (Option aE)} {oc10 kV10 dc10 pm10 cd10 ct10:aE} {f10:Addr} {od11 an11:Option Addr} {sl11:Array (Option aE)} {oc11 kV11 dc11 pm11 cd11 ct11:aE} {f11:Addr} {od12 an12:Option Addr} {sl12:Array (Option aE)} {oc12 kV12 dc12 pm12 cd12 ct12:aE} {f12:Addr} {od13 an13:Option Addr} {sl13:Array (Option aE)} {oc13 kV13 dc13 pm13 cd13 ct13:aE} {f13:Addr} {od14 an14:Option Addr} {sl14:Array (Option aE)} {oc14 kV14 dc14 pm14 cd14 ct14:aE} {f14:Addr} {od15 an15:Option Addr} {sl15:Array (Option aE)} {oc15 kV15 dc15 pm15 cd15 ct15:aE} {f15:Addr} {od16 an16:Option Addr} {sl16:Array (Option aE)} {oc16 kV16 dc16 pm16 cd16 ct16:aE} {f16:Addr} {od17 an17:Option Addr} {sl17:Array (Option aE)} {oc17 kV17 dc17 pm17 cd17 ct17:aE} {f17:Addr} {od18 an18:Option Addr} {sl18:Array (Option aE)} {oc18 kV18 dc18 pm18 cd18 ct18:aE} {f18:Addr} {od19 an19:Option Addr} {sl19:Array (Option aE)} {oc19 kV19 dc19 pm19 cd19 ct19:aE} {f19:Addr} {od20 an20:Option Addr} {sl20:Array (Option aE)} {oc20 kV20 dc20 pm20 cd20 ct20:aE} {f20:Addr} {od21 an21:Option Addr} {sl21:Array (Option aE)} {oc21 kV21 dc21 pm21 cd21 ct21:aE} {f21:Addr} {od22 an22:Option Addr} {sl22:Array (Option aE)} {oc22 kV22 dc22 pm22 cd22 ct22:aE} {f22:Addr} {od23 an23:Option Addr} {sl23:Array (Option aE)} {oc23 kV23 dc23 pm23 cd23 ct23:aE} {f23:Addr} {od24 an24:Option Addr} {sl24:Array (Option aE)} {oc24 kV24 dc24 pm24 cd24 ct24:aE} {f24:Addr} {od25 an25:Option Addr} {sl25:Array (Option aE)} {oc25 kV25 dc25 pm25 cd25 ct25:aE} {f25:Addr} {od26 an26:Option Addr} {sl26:Array (Option aE)} {oc26 kV26 dc26 pm26 cd26 ct26:aE} {f26:Addr} {od27 an27:Option Addr} {sl27:Array (Option aE)} {oc27 kV27 dc27 pm27 cd27 ct27:aE} {f27:Addr} {od28 an28:Option Addr} {sl28:Array (Option aE)} {oc28 kV28 dc28 pm28 cd28 ct28:aE} {f28:Addr} {od29 an29:Option Addr} {sl29:Array (Option aE)} {oc29 kV29 dc29 pm29 cd29 ct29:aE} {f29:Addr} {od30 an30:Option Addr} {sl30:Array (Option aE)} {oc30 kV30 dc30 pm30 cd30 ct30:aE} {f30:Addr} {od31 an31:Option Addr} {sl31:Array (Option aE)} {oc31 kV31 dc31 pm31 cd31 ct31:aE} {f31:Addr} {od32 an32:Option Addr} {sl32:Array (Option aE)} {oc32 kV32 dc32 pm32 cd32 ct32:aE} {f32:Addr} {od33 an33:Option Addr} {sl33:Array (Option aE)} {oc33 kV33 dc33 pm33 cd33 ct33:aE} {f33:Addr}
  {A_KeptPoints:Addr} (aC_KeptPoints:aO K aN "KeptPoints" = some (some (.ref A_KeptPoints))) (pg_KeptPoints:gP K A_KeptPoints kB=true) (hd_KeptPoints:fE K A_KeptPoints=true) (po_KeptPoints:kX K A_KeptPoints=true) (sa_KeptPoints:aY K (.ref A_KeptPoints) "__setattr__" = some (some (.builtin "object.__setattr__")))
  {A_BelowError:Addr} (xn_BelowError:aO K aN "BelowError" = some (some (.ref A_BelowError)))
  {A_NoAsk:Addr} (xn_NoAsk:aO K aN "NoAsk" = some (some (.ref A_NoAsk)))
  {A_NoCounts:Addr} (xn_NoCounts:aO K aN "NoCounts" = some (some (.ref A_NoCounts)))
  {A_NoName:Addr} (xn_NoName:aO K aN "NoName" = some (some (.ref A_NoName)))
  {A_NoPlace:Addr} (xn_NoPlace:aO K aN "NoPlace" = some (some (.ref A_NoPlace)))
  {A_NoPoints:Addr} (xn_NoPoints:aO K aN "NoPoints" = some (some (.ref A_NoPoints)))
  (ex_NoName:Py K A_NoName=true) (kc_NoName:aZ K (.ref A_NoName)=true)
  (bs_BelowError:fF K (.ref A_BelowError) "__getattribute__" = some (some (.builtin "type.__getattribute__"))) (br_BelowError:pY K A_BelowError (.type "type")=true) (bf_BelowError:Ag8 K A_BelowError=true)
  (xt:Px K ["NoPlace","NoAsk","NoPoints","NoCounts","NoName"] ["BelowError","NoPlace","NoAsk","NoPoints","NoCounts","NoName","ValueError"]=true)
  (xf_word:Ah4 K ["NoPlace","NoAsk","NoPoints","NoCounts","NoName"] "word" = true)
  (xv:aO K aN "ValueError" = some none)
  (mk_KeptPoints:mN K A_KeptPoints=true) (kc_KeptPoints:aZ K (.ref A_KeptPoints)=true)
  (nf_KeptPoints_points:aY K (.ref A_KeptPoints) "points" = some none)
  (a0:aY K (.ref A_KeptPoints) "__init__" = some (some (.ref f0))) (i0:cX K (.ref f0)=true) (l0:K.lookup f0=some ⟨oc0,od0,.func (bH "__init__" "KeptPoints.__init__" (Ba Ce) (A0 Ce) (Ak Ce) .none kV0 dc0 pm0 an0 cd0 ct0),sl0⟩) (c0:bC K cd0 "KeptPoints.__init__" = true) (k0:aZ K (.ref f0)=true)
  (a1:aY K (.ref A_KeptPoints) "points_now" = some (some (.ref f1))) (i1:cX K (.ref f1)=true) (l1:K.lookup f1=some ⟨oc1,od1,.func (bH "points_now" "KeptPoints.points_now" (Ba Bv) (A0 Bv) (Ak Bv) .none kV1 dc1 pm1 an1 cd1 ct1),sl1⟩) (c1:bC K cd1 "KeptPoints.points_now" = true) (k1:aZ K (.ref f1)=true)
  (a2:aO K aN "lies_below" = some (some (.ref f2))) (l2:K.lookup f2=some ⟨oc2,od2,.func (bH "lies_below" "lies_below" (Ba Ep) (A0 Ep) (Ak Ep) .none kV2 dc2 pm2 an2 cd2 ct2),sl2⟩) (c2:bC K cd2 "lies_below" = true) (k2:aZ K (.ref f2)=true)
  (a3:aO K aN "many_below" = some (some (.ref f3))) (l3:K.lookup f3=some ⟨oc3,od3,.func (bH "many_below" "many_below" (Ba En) (A0 En) (Ak En) .none kV3 dc3 pm3 an3 cd3 ct3),sl3⟩) (c3:bC K cd3 "many_below" = true) (k3:aZ K (.ref f3)=true)
  (a4:aO K aN "place_of" = some (some (.ref f4))) (l4:K.lookup f4=some ⟨oc4,od4,.func (bH "place_of" "place_of" (Ba Gp) (A0 Gp) (Ak Gp) .none kV4 dc4 pm4 an4 cd4 ct4),sl4⟩) (c4:bC K cd4 "place_of" = true) (k4:aZ K (.ref f4)=true)
  (a5:aO K aN "below_each" = some (some (.ref f5))) (l5:K.lookup f5=some ⟨oc5,od5,.func (bH "below_each" "below_each" (Ba Ek) (A0 Ek) (Ak Ek) .none kV5 dc5 pm5 an5 cd5 ct5),sl5⟩) (c5:bC K cd5 "below_each" = true) (k5:aZ K (.ref f5)=true)
  (a6:aO K aN "pairs_in_all" = some (some (.ref f6))) (l6:K.lookup f6=some ⟨oc6,od6,.func (bH "pairs_in_all" "pairs_in_all" (Ba Dt) (A0 Dt) (Ak Dt) .none kV6 dc6 pm6 an6 cd6 ct6),sl6⟩) (c6:bC K cd6 "pairs_in_all" = true) (k6:aZ K (.ref f6)=true)
  (a7:aY K (.ref A_KeptPoints) "pairs_now" = some (some (.ref f7))) (i7:cX K (.ref f7)=true) (l7:K.lookup f7=some ⟨oc7,od7,.func (bH "pairs_now" "KeptPoints.pairs_now" (Ba B6) (A0 B6) (Ak B6) .none kV7 dc7 pm7 an7 cd7 ct7),sl7⟩) (c7:bC K cd7 "KeptPoints.pairs_now" = true) (k7:aZ K (.ref f7)=true)
  (a8:aY K (.ref A_NoName) "__init__" = some (some (.ref f8))) (i8:cX K (.ref f8)=true) (l8:K.lookup f8=some ⟨oc8,od8,.func (bH "__init__" "NoName.__init__" (Ba C0) (A0 C0) (Ak C0) .none kV8 dc8 pm8 an8 cd8 ct8),sl8⟩) (c8:bC K cd8 "NoName.__init__" = true) (k8:aZ K (.ref f8)=true)
  (a9:aO K aN "_law_draw" = some (some (.ref f9))) (l9:K.lookup f9=some ⟨oc9,od9,.func (bH "_law_draw" "_law_draw" (Ba J8) (A0 J8) (Ak J8) .none kV9 dc9 pm9 an9 cd9 ct9),sl9⟩) (c9:bC K cd9 "_law_draw" = true) (k9:aZ K (.ref f9)=true)
  (a10:aO K aN "_law_folded" = some (some (.ref f10))) (l10:K.lookup f10=some ⟨oc10,od10,.func (bH "_law_folded" "_law_folded" (Ba Gh) (A0 Gh) (Ak Gh) .none kV10 dc10 pm10 an10 cd10 ct10),sl10⟩) (c10:bC K cd10 "_law_folded" = true) (k10:aZ K (.ref f10)=true)
  (a11:aO K aN "_law_is_as" = some (some (.ref f11))) (l11:K.lookup f11=some ⟨oc11,od11,.func (bH "_law_is_as" "_law_is_as" (Ba Hu) (A0 Hu) (Ak Hu) .none kV11 dc11 pm11 an11 cd11 ct11),sl11⟩) (c11:bC K cd11 "_law_is_as" = true) (k11:aZ K (.ref f11)=true)
  (a12:aY K (.ref A_KeptPoints) "places_now" = some (some (.ref f12))) (i12:cX K (.ref f12)=true) (l12:K.lookup f12=some ⟨oc12,od12,.func (bH "places_now" "KeptPoints.places_now" (Ba Bu) (A0 Bu) (Ak Bu) .none kV12 dc12 pm12 an12 cd12 ct12),sl12⟩) (c12:bC K cd12 "KeptPoints.places_now" = true) (k12:aZ K (.ref f12)=true)
  (a13:aO K aN "many_above" = some (some (.ref f13))) (l13:K.lookup f13=some ⟨oc13,od13,.func (bH "many_above" "many_above" (Ba El) (A0 El) (Ak El) .none kV13 dc13 pm13 an13 cd13 ct13),sl13⟩) (c13:bC K cd13 "many_above" = true) (k13:aZ K (.ref f13)=true)
  (a14:aY K (.ref A_KeptPoints) "above_now" = some (some (.ref f14))) (i14:cX K (.ref f14)=true) (l14:K.lookup f14=some ⟨oc14,od14,.func (bH "above_now" "KeptPoints.above_now" (Ba B4) (A0 B4) (Ak B4) .none kV14 dc14 pm14 an14 cd14 ct14),sl14⟩) (c14:bC K cd14 "KeptPoints.above_now" = true) (k14:aZ K (.ref f14)=true)
  (a15:aY K (.ref A_KeptPoints) "below_now" = some (some (.ref f15))) (i15:cX K (.ref f15)=true) (l15:K.lookup f15=some ⟨oc15,od15,.func (bH "below_now" "KeptPoints.below_now" (Ba B9) (A0 B9) (Ak B9) .none kV15 dc15 pm15 an15 cd15 ct15),sl15⟩) (c15:bC K cd15 "KeptPoints.below_now" = true) (k15:aZ K (.ref f15)=true)
  (a16:aO K aN "is_held" = some (some (.ref f16))) (l16:K.lookup f16=some ⟨oc16,od16,.func (bH "is_held" "is_held" (Ba Hr) (A0 Hr) (Ak Hr) .none kV16 dc16 pm16 an16 cd16 ct16),sl16⟩) (c16:bC K cd16 "is_held" = true) (k16:aZ K (.ref f16)=true)
  (a17:aO K aN "points_in" = some (some (.ref f17))) (l17:K.lookup f17=some ⟨oc17,od17,.func (bH "points_in" "points_in" (Ba Fg) (A0 Fg) (Ak Fg) .none kV17 dc17 pm17 an17 cd17 ct17),sl17⟩) (c17:bC K cd17 "points_in" = true) (k17:aZ K (.ref f17)=true)
  (a18:aO K aN "in_boxes" = some (some (.ref f18))) (l18:K.lookup f18=some ⟨oc18,od18,.func (bH "in_boxes" "in_boxes" (Ba Gf) (A0 Gf) (Ak Gf) .none kV18 dc18 pm18 an18 cd18 ct18),sl18⟩) (c18:bC K cd18 "in_boxes" = true) (k18:aZ K (.ref f18)=true)
  (a19:aY K (.ref A_KeptPoints) "box_now" = some (some (.ref f19))) (i19:cX K (.ref f19)=true) (l19:K.lookup f19=some ⟨oc19,od19,.func (bH "box_now" "KeptPoints.box_now" (Ba Ck) (A0 Ck) (Ak Ck) .none kV19 dc19 pm19 an19 cd19 ct19),sl19⟩) (c19:bC K cd19 "KeptPoints.box_now" = true) (k19:aZ K (.ref f19)=true)
  (a20:aO K aN "_law_looked_right" = some (some (.ref f20))) (l20:K.lookup f20=some ⟨oc20,od20,.func (bH "_law_looked_right" "_law_looked_right" (Ba Dc) (A0 Dc) (Ak Dc) .none kV20 dc20 pm20 an20 cd20 ct20),sl20⟩) (c20:bC K cd20 "_law_looked_right" = true) (k20:aZ K (.ref f20)=true)
  (a21:aO K aN "_law_names" = some (some (.ref f21))) (l21:K.lookup f21=some ⟨oc21,od21,.func (bH "_law_names" "_law_names" (Ba Hq) (A0 Hq) (Ak Hq) .none kV21 dc21 pm21 an21 cd21 ct21),sl21⟩) (c21:bC K cd21 "_law_names" = true) (k21:aZ K (.ref f21)=true)
  (a22:aO K aN "_law_pairs" = some (some (.ref f22))) (l22:K.lookup f22=some ⟨oc22,od22,.func (bH "_law_pairs" "_law_pairs" (Ba Hn) (A0 Hn) (Ak Hn) .none kV22 dc22 pm22 an22 cd22 ct22),sl22⟩) (c22:bC K cd22 "_law_pairs" = true) (k22:aZ K (.ref f22)=true)
  (a23:aO K aN "_law_seed" = some (some (.ref f23))) (l23:K.lookup f23=some ⟨oc23,od23,.func (bH "_law_seed" "_law_seed" (Ba Jv) (A0 Jv) (Ak Jv) .none kV23 dc23 pm23 an23 cd23 ct23),sl23⟩) (c23:bC K cd23 "_law_seed" = true) (k23:aZ K (.ref f23)=true)
  (a24:aO K aN "_law_alone" = some (some (.ref f24))) (l24:K.lookup f24=some ⟨oc24,od24,.func (bH "_law_alone" "_law_alone" (Ba Hm) (A0 Hm) (Ak Hm) .none kV24 dc24 pm24 an24 cd24 ct24),sl24⟩) (c24:bC K cd24 "_law_alone" = true) (k24:aZ K (.ref f24)=true)
  (a25:aY K (.ref A_KeptPoints) "need_name" = some (some (.ref f25))) (i25:cX K (.ref f25)=true) (l25:K.lookup f25=some ⟨oc25,od25,.func (bH "need_name" "KeptPoints.need_name" (Ba Cc) (A0 Cc) (Ak Cc) .none kV25 dc25 pm25 an25 cd25 ct25),sl25⟩) (c25:bC K cd25 "KeptPoints.need_name" = true) (k25:aZ K (.ref f25)=true)
  (a26:aY K (.ref A_KeptPoints) "move_point" = some (some (.ref f26))) (i26:cX K (.ref f26)=true) (l26:K.lookup f26=some ⟨oc26,od26,.func (bH "move_point" "KeptPoints.move_point" (Ba Bw) (A0 Bw) (Ak Bw) .none kV26 dc26 pm26 an26 cd26 ct26),sl26⟩) (c26:bC K cd26 "KeptPoints.move_point" = true) (k26:aZ K (.ref f26)=true)
  (a27:aY K (.ref A_KeptPoints) "put_point" = some (some (.ref f27))) (i27:cX K (.ref f27)=true) (l27:K.lookup f27=some ⟨oc27,od27,.func (bH "put_point" "KeptPoints.put_point" (Ba B7) (A0 B7) (Ak B7) .none kV27 dc27 pm27 an27 cd27 ct27),sl27⟩) (c27:bC K cd27 "KeptPoints.put_point" = true) (k27:aZ K (.ref f27)=true)
  (a28:aY K (.ref A_KeptPoints) "take_point" = some (some (.ref f28))) (i28:cX K (.ref f28)=true) (l28:K.lookup f28=some ⟨oc28,od28,.func (bH "take_point" "KeptPoints.take_point" (Ba Bx) (A0 Bx) (Ak Bx) .none kV28 dc28 pm28 an28 cd28 ct28),sl28⟩) (c28:bC K cd28 "KeptPoints.take_point" = true) (k28:aZ K (.ref f28)=true)
  (a29:aO K aN "_law_done" = some (some (.ref f29))) (l29:K.lookup f29=some ⟨oc29,od29,.func (bH "_law_done" "_law_done" (Ba Kb) (A0 Kb) (Ak Kb) .none kV29 dc29 pm29 an29 cd29 ct29),sl29⟩) (c29:bC K cd29 "_law_done" = true) (k29:aZ K (.ref f29)=true)
  (a30:aO K aN "_law_number" = some (some (.ref f30))) (l30:K.lookup f30=some ⟨oc30,od30,.func (bH "_law_number" "_law_number" (Ba Gg) (A0 Gg) (Ak Gg) .none kV30 dc30 pm30 an30 cd30 ct30),sl30⟩) (c30:bC K cd30 "_law_number" = true) (k30:aZ K (.ref f30)=true)
  (a31:aO K aN "_law_place" = some (some (.ref f31))) (l31:K.lookup f31=some ⟨oc31,od31,.func (bH "_law_place" "_law_place" (Ba Hs) (A0 Hs) (Ak Hs) .none kV31 dc31 pm31 an31 cd31 ct31),sl31⟩) (c31:bC K cd31 "_law_place" = true) (k31:aZ K (.ref f31)=true)
  (a32:aO K aN "_law_turn" = some (some (.ref f32))) (l32:K.lookup f32=some ⟨oc32,od32,.func (bH "_law_turn" "_law_turn" (Ba Ju) (A0 Ju) (Ak Ju) .none kV32 dc32 pm32 an32 cd32 ct32),sl32⟩) (c32:bC K cd32 "_law_turn" = true) (k32:aZ K (.ref f32)=true)
  (a33:aO K aN "law" = some (some (.ref f33))) (l33:K.lookup f33=some ⟨oc33,od33,.func (bH "law" "law" (Ba Nf) (A0 Nf) (Ak Nf) .none kV33 dc33 pm33 an33 cd33 ct33),sl33⟩) (c33:bC K cd33 "law" = true) (k33:aZ K (.ref f33)=true)
  (z_ValueError:aO K aN "ValueError" = some none)
  (z_abs:aO K aN "abs" = some none)
  (z_all:aO K aN "all" = some none)
  (z_bool:aO K aN "bool" = some none)
  (z_int:aO K aN "int" = some none)
  (z_isinstance:aO K aN "isinstance" = some none)
  (z_len:aO K aN "len" = some none)
  (z_list:aO K aN "list" = some none)
  (z_max:aO K aN "max" = some none)
  (z_range:aO K aN "range" = some none)
  (z_sum:aO K aN "sum" = some none)
  (z_tuple:aO K aN "tuple" = some none)
  (z_zip:aO K aN "zip" = some none) :
  ∃ fd:bM,(∀ (s:aI) (v:aE),lB s fd ⟨[v],[]⟩ [("script",v)])/\∀ base:Heap,K.In base->base.Ns aN mg->FnOk l.prog w K mg base CX0 7 fa fd ["script"] (spF K 1 U3):=by
 have e:=hfa.symm.trans (bO X G a33)
 cases e
 have F0:=B5 (st:=Ce) l0 c0 k0
 have b0:=F0.binds (ps:=["self"]) fun _ _ _ _ _ _=>O8 (fun _=>rfl)
 have F1:=B5 (st:=Bv) l1 c1 k1
 have b1:=F1.binds (ps:=["self"]) fun _ _ _ _ _ _=>O8 (fun _=>rfl)
 have F2:=B5 (st:=Ep) l2 c2 k2
 have b2:=F2.binds (ps:=["one","other"]) fun _ _ _ _ _ _=>Mj (fun _ _=>rfl)
 have F3:=B5 (st:=En) l3 c3 k3
 have b3:=F3.binds (ps:=["places","place"]) fun _ _ _ _ _ _=>Mj (fun _ _=>rfl)
 have F4:=B5 (st:=Gp) l4 c4 k4
 have b4:=F4.binds (ps:=["point"]) fun _ _ _ _ _ _=>O8 (fun _=>rfl)
 have F5:=B5 (st:=Ek) l5 c5 k5
 have b5:=F5.binds (ps:=["points"]) fun _ _ _ _ _ _=>O8 (fun _=>rfl)
 have F6:=B5 (st:=Dt) l6 c6 k6
 have b6:=F6.binds (ps:=["points"]) fun _ _ _ _ _ _=>O8 (fun _=>rfl)
 have F7:=B5 (st:=B6) l7 c7 k7
 have b7:=F7.binds (ps:=["self"]) fun _ _ _ _ _ _=>O8 (fun _=>rfl)
 have F8:=B5 (st:=C0) l8 c8 k8
 have b8:=F8.binds (ps:=["self","word"]) fun _ _ _ _ _ _=>Mj (fun _ _=>rfl)
 have F9:=B5 (st:=J8) l9 c9 k9
 have b9:=F9.binds (ps:=["seed","most"]) fun _ _ _ _ _ _=>Mj (fun _ _=>rfl)
 have F10:=B5 (st:=Gh) l10 c10 k10
 have b10:=F10.binds (ps:=["script"]) fun _ _ _ _ _ _=>O8 (fun _=>rfl)
 have F11:=B5 (st:=Hu) l11 c11 k11
 have b11:=F11.binds (ps:=["kept","there"]) fun _ _ _ _ _ _=>Mj (fun _ _=>rfl)
 have F12:=B5 (st:=Bu) l12 c12 k12
 have b12:=F12.binds (ps:=["self"]) fun _ _ _ _ _ _=>O8 (fun _=>rfl)
 have F13:=B5 (st:=El) l13 c13 k13
 have b13:=F13.binds (ps:=["places","place"]) fun _ _ _ _ _ _=>Mj (fun _ _=>rfl)
 have F14:=B5 (st:=B4) l14 c14 k14
 have b14:=F14.binds (ps:=["self","x","y"]) fun _ _ _ _ _ _=>Anx (fun _ _ _=>rfl)
 have F15:=B5 (st:=B9) l15 c15 k15
 have b15:=F15.binds (ps:=["self","x","y"]) fun _ _ _ _ _ _=>Anx (fun _ _ _=>rfl)
 have F16:=B5 (st:=Hr) l16 c16 k16
 have b16:=F16.binds (ps:=["point","box"]) fun _ _ _ _ _ _=>Mj (fun _ _=>rfl)
 have F17:=B5 (st:=Fg) l17 c17 k17
 have b17:=F17.binds (ps:=["points","box"]) fun _ _ _ _ _ _=>Mj (fun _ _=>rfl)
 have F18:=B5 (st:=Gf) l18 c18 k18
 have b18:=F18.binds (ps:=["points","boxes"]) fun _ _ _ _ _ _=>Mj (fun _ _=>rfl)
 have F19:=B5 (st:=Ck) l19 c19 k19
 have b19:=F19.binds (ps:=["self","box"]) fun _ _ _ _ _ _=>Mj (fun _ _=>rfl)
 have F20:=B5 (st:=Dc) l20 c20 k20
 have b20:=F20.binds (ps:=["seed","kept","there","place"]) fun _ _ _ _ _ _=>Afw (fun _ _ _ _=>rfl)
 have F21:=B5 (st:=Hq) l21 c21 k21
 have b21:=F21.binds (ps:=["seed","many"]) fun _ _ _ _ _ _=>Mj (fun _ _=>rfl)
 have F22:=B5 (st:=Hn) l22 c22 k22
 have b22:=F22.binds (ps:=["there"]) fun _ _ _ _ _ _=>O8 (fun _=>rfl)
 have F23:=B5 (st:=Jv) l23 c23 k23
 have b23:=F23.binds (ps:=["cell"]) fun _ _ _ _ _ _=>O8 (fun _=>rfl)
 have F24:=B5 (st:=Hm) l24 c24 k24
 have b24:=F24.binds (ps:=["caught"]) fun _ _ _ _ _ _=>O8 (fun _=>rfl)
 have F25:=B5 (st:=Cc) l25 c25 k25
 have b25:=F25.binds (ps:=["self","name"]) fun _ _ _ _ _ _=>Mj (fun _ _=>rfl)
 have F26:=B5 (st:=Bw) l26 c26 k26
 have b26:=F26.binds (ps:=["self","name","x","y"]) fun _ _ _ _ _ _=>Afw (fun _ _ _ _=>rfl)
 have F27:=B5 (st:=B7) l27 c27 k27
 have b27:=F27.binds (ps:=["self","name","x","y"]) fun _ _ _ _ _ _=>Afw (fun _ _ _ _=>rfl)
 have F28:=B5 (st:=Bx) l28 c28 k28
 have b28:=F28.binds (ps:=["self","name"]) fun _ _ _ _ _ _=>Mj (fun _ _=>rfl)
 have F29:=B5 (st:=Kb) l29 c29 k29
 have b29:=F29.binds (ps:=["kept","word","name","place"]) fun _ _ _ _ _ _=>Afw (fun _ _ _ _=>rfl)
 have F30:=B5 (st:=Gg) l30 c30 k30
 have b30:=F30.binds (ps:=["seed","way"]) fun _ _ _ _ _ _=>Mj (fun _ _=>rfl)
 have F31:=B5 (st:=Hs) l31 c31 k31
 have b31:=F31.binds (ps:=["seed","there"]) fun _ _ _ _ _ _=>Mj (fun _ _=>rfl)
 have F32:=B5 (st:=Ju) l32 c32 k32
 have b32:=F32.binds (ps:=["seed","kept","there","names","places"]) fun _ _ _ _ _ _=>Aq7 (fun _ _ _ _ _=>rfl)
 have F33:=B5 (st:=Nf) l33 c33 k33
 have b33:=F33.binds (ps:=["script"]) fun _ _ _ _ _ _=>O8 (fun _=>rfl)
 let C:Defs K mg:={ ui:=_,uj:=_,uk:=F0,ul:=b0,xH:=⟨mk_KeptPoints,a0,i0,kc_KeptPoints⟩,xI:=bO X G aC_KeptPoints,um:=_,uo:=_,uq:=F1,ur:=b1,ut:=⟨a1,i1,k1⟩,uu:=_,uv:=_,uw:=F2,ux:=b2,uy:=bO X G a2,uz:=_,uA:=_,uB:=F3,uC:=b3,uD:=bO X G a3,uE:=_,uF:=_,uG:=F4,uH:=b4,uI:=bO X G a4,uJ:=_,uK:=_,uL:=F5,uM:=b5,uN:=bO X G a5,uO:=_,uP:=_,uQ:=F6,uR:=b6,uS:=bO X G a6,uT:=_,uU:=_,uV:=F7,uW:=b7,uX:=⟨a7,i7,k7⟩,uY:=_,uZ:=_,u4:=F8,u5:=b8,xX:=⟨ex_NoName,a8,i8,kc_NoName⟩,u6:=_,u7:=_,u8:=F9,u9:=b9,va:=bO X G a9,vb:=_,vc:=_,vd:=F10,ve:=b10,vf:=bO X G a10,vg:=_,vh:=_,vi:=F11,vj:=b11,vk:=bO X G a11,vm:=_,vn:=_,vo:=F12,vp:=b12,vq:=⟨a12,i12,k12⟩,vt:=_,vv:=_,vw:=F13,vy:=b13,vz:=bO X G a13,vA:=_,vB:=_,vC:=F14,vD:=b14,vE:=⟨a14,i14,k14⟩,vF:=_,vG:=_,vH:=F15,vI:=b15,vJ:=⟨a15,i15,k15⟩,vK:=_,vL:=_,vM:=F16,vN:=b16,vO:=bO X G a16,vP:=_,vQ:=_,vR:=F17,vS:=b17,vT:=bO X G a17,vU:=_,vV:=_,vW:=F18,vX:=b18,vY:=bO X G a18,vZ:=_,v9:=_,wc:=F19,wd:=b19,we:=⟨a19,i19,k19⟩,wf:=_,wg:=_,wj:=F20,wk:=b20,wl:=bO X G a20,wm:=_,wn:=_,wo:=F21,wq:=b21,wt:=bO X G a21,wu:=_,wv:=_,ww:=F22,wx:=b22,wy:=bO X G a22,wz:=_,wA:=_,wB:=F23,wC:=b23,wD:=bO X G a23,wE:=_,wF:=_,wG:=F24,wH:=b24,wI:=bO X G a24,wJ:=_,wK:=_,wL:=F25,wM:=b25,wN:=⟨a25,i25,k25⟩,wO:=_,wP:=_,wQ:=F26,wR:=b26,wS:=⟨a26,i26,k26⟩,wT:=_,wU:=_,wV:=F27,wW:=b27,wX:=⟨a27,i27,k27⟩,wY:=_,wZ:=_,w4:=F28,w5:=b28,w6:=⟨a28,i28,k28⟩,w9:=_,xa:=_,xf:=F29,xg:=b29,xh:=bO X G a29,xi:=_,xj:=_,xk:=F30,xm:=b30,xn:=bO X G a30,xo:=_,xp:=_,xq:=F31,xu:=b31,xw:=bO X G a31,xx:=_,xy:=_,xz:=F32,xA:=b32,xB:=bO X G a32,xC:=_,xD:=_,xE:=F33,xF:=b33,xG:=bO X G a33,ua:=_,ub:=⟨aC_KeptPoints,⟨pg_KeptPoints,hd_KeptPoints,po_KeptPoints,sa_KeptPoints⟩⟩,uc:=_,xJ:=xn_BelowError,xK:=bO X G xn_BelowError,ud:=_,xL:=xn_NoAsk,xO:=bO X G xn_NoAsk,ue:=_,xP:=xn_NoCounts,xQ:=bO X G xn_NoCounts,uf:=_,xR:=xn_NoName,xS:=bO X G xn_NoName,ug:=_,xT:=xn_NoPlace,xU:=bO X G xn_NoPlace,uh:=_,xV:=xn_NoPoints,xW:=bO X G xn_NoPoints,xY:=⟨bs_BelowError,br_BelowError,bf_BelowError⟩,xZ:=xt,x5:=xf_word,ya:=xv,yb:=nf_KeptPoints_points,yc:=cI X G z_ValueError,yd:=cI X G z_abs,ye:=cI X G z_all,yf:=cI X G z_bool,yg:=cI X G z_int,yh:=cI X G z_isinstance,yi:=cI X G z_len,yj:=cI X G z_list,yk:=cI X G z_max,yl:=cI X G z_range,ym:=cI X G z_sum,yn:=cI X G z_tuple,yo:=cI X G z_zip }
 refine ⟨bH "law" "law" (Ba Nf) (A0 Nf) (Ak Nf) .none kV33 dc33 pm33 an33 cd33 ct33,fun s v=>.of_eq rfl,fun base _ _=>?_⟩
 exact Amp C
noncomputable section
variable (P:nB)
abbrev fn(a b:Str)(s:Stmt)(dV kV d p:aE)(n:Option Addr)(c t:aE):bM:=bH a b (Ba s) (A0 s) (Ak s) dV kV d p n c t
abbrev zf(a b:Str)(s:Stmt)(p c:aE):Obj:=⟨.type "function",none,.func (fn a b s .none .none .none p none c .none),#[]⟩
abbrev zx(a b:Str)(s:Stmt):Obj:=⟨.none,none,.func ⟨a,b,Ba s,.stmts (A0 s),Ak s,0,[],.none,.none,.none,.none,none,.none,.none,0⟩,#[]⟩
abbrev zi(n:Int):aE:=.int n 0
abbrev zr(a:Addr):aE:=.ref a
abbrev zs(a:Str)(n:Nat):aE:=.str a n
abbrev zc(l:List aE):Obj:=⟨.type "code",none,.fields l.toArray,#[]⟩
abbrev zt(l:List aE):Obj:=⟨.type "tuple",none,.seq l.toArray 0,#[]⟩
abbrev zl(l:List aE):Obj:=⟨.none,none,.fields l.toArray,#[]⟩
abbrev zd(l:List DictEntry)(n:Nat):Obj:=⟨.type "dict",none,.dict l.toArray n,#[]⟩
abbrev zn(o:Obj)(l r:eJ):eJ:=.node o l r
abbrev zg(o:Obj):eJ:=.node o .nil .nil
abbrev de(s:Str)(n:Nat)(v:aE):DictEntry:=⟨qI.keyHash P s,.str s n,v⟩
noncomputable def zo1:Obj:=zd [de P "builtins" 162 (zr 4),de P "__main__" 163 (zr 5)] 2
noncomputable def zo2:Obj:=⟨.none,none,(.dict #[] 0),#[]⟩
noncomputable def zo4:Obj:=⟨(.type "module"),(some 0),.plain,#[]⟩
noncomputable def zo5:Obj:=⟨(.type "module"),(some 3),.plain,#[]⟩
noncomputable def zo6:Obj:=zd [] 0
noncomputable def zo7:Obj:=zt []
noncomputable def zo8:Obj:=zl []
noncomputable def zo9:Obj:=zc [(zs "<module>" 176),(zs "<module>" 177),(zs "/claim/cut.py" 178),(zi 1),(zi 0),(zi 0),(zi 0),(zi 0),(zr 7),(.bool false),(zi 175),(zr 8),.none,.none,.none,.none,(zi 179),(zi 1),(zs "/claim/cut.py" 180)]
noncomputable def zo10:Obj:=⟨(.type "frame"),none,.plain,#[(some (zr 9)),(some (zr 3)),(some (zr 3)),none,(some (zs "__main__" 164)),none,(some (zr 0))]⟩
noncomputable def Oi:Obj:=zc [(zs "<module>" 182),(zs "<module>" 183),(zs "/claim/cut.py" 184),(zi 1),(zi 0),(zi 0),(zi 0),(zi 0),(zr 11),(.bool false),(zi 181),(zr 12),.none,.none,.none,.none,(zi 185),(zi 1),(zs "/claim/cut.py" 186)]
noncomputable def zo12:Obj:=⟨(.type "frame"),none,.plain,#[(some (zr 13)),(some (zr 3)),(some (zr 3)),none,(some (zs "__main__" 164)),none,(some (zr 0))]⟩
noncomputable def Aqz:Obj:=zd [de P "__name__" 165 (zs "belowpoints.errors" 187),de P "__doc__" 166 .none,de P "__package__" 167 .none,de P "__loader__" 168 (.builtin "__main__.__loader__#opaque"),de P "__spec__" 169 .none,de P "__annotations__" 170 (zr 6),de P "__builtins__" 171 (zr 4),de P "__file__" 173 (zs "/claim/cut.py" 172),de P "__cached__" 174 .none,de P "BelowError" 206 (zr 24)] 10
noncomputable def Are:Obj:=zl [(zi 2),(zi 0),(zr 20)]
noncomputable def Ql:Obj:=zt [(.type "ValueError")]
noncomputable def zo16:Obj:=⟨(.type "builtin_function_or_method"),none,(.fields #[(.builtin "type.__prepare__"),(.type "type")]),#[]⟩
noncomputable def Pz:Obj:=zd [de P "__module__" 196 (zs "belowpoints.errors" 187),de P "__qualname__" 198 (zs "BelowError" 197),de P "__firstlineno__" 200 (.int 2 199),de P "__static_attributes__" 201 (zr 22)] 4
noncomputable def zo18:Obj:=zc [(zs "BelowError" 191),(zs "BelowError" 192),(zs "/claim/cut.py" 193),(zi 2),(zi 0),(zi 0),(zi 0),(zi 0),(zr 18),(.bool false),(zi 181),(zr 19),.none,.none,.none,.none,(zi 194),(zi 2),(zs "/claim/cut.py" 195)]
noncomputable def Rk:Obj:=⟨(.type "frame"),none,.plain,#[(some (zr 20)),(some (zr 3)),(some (zr 17)),none,(some (zs "belowpoints.errors" 187)),none,(some (zr 0))]⟩
noncomputable def Pu:Obj:=zd [de P "__module__" 196 (zs "belowpoints.errors" 187),de P "__firstlineno__" 200 (.int 2 199),de P "__static_attributes__" 201 (zr 22),de P "__weakref__" 203 (zr 25),de P "__doc__" 204 .none] 3
noncomputable def Arh:Obj:=⟨(.type "type"),none,(.cls ⟨"BelowError",[(.type "ValueError")],[(zr 24),(.type "ValueError"),(.type "Exception"),(.type "BaseException"),(.type "object")],23,"BelowError",true,[],[],false,none,false⟩),#[(some (zr 15)),none,(some (zs "BelowError" 189)),(some (zs "BelowError" 197)),(some (.builtin "ValueError.__new__")),(some (.bool true))]⟩
noncomputable def Sb:Obj:=⟨(.type "getset_descriptor"),none,(.fields #[(zs "__weakref__" 202),(zr 24),(.builtin "ExceptionGroup.__weakref__"),.none]),#[]⟩
noncomputable def zo23:Obj:=⟨(.type "super"),none,(.fields #[(zr 24),(zr 24),(zr 24)]),#[]⟩
noncomputable def Qk:Obj:=⟨(.type "builtin_function_or_method"),none,(.fields #[(.builtin "object.__init_subclass__"),(zr 24)]),#[]⟩
noncomputable def Arp:Obj:=zd [de P "__name__" 165 (zs "belowpoints.errors" 187),de P "__doc__" 166 .none,de P "__package__" 167 .none,de P "__loader__" 168 (.builtin "__main__.__loader__#opaque"),de P "__spec__" 169 .none,de P "__annotations__" 170 (zr 6),de P "__builtins__" 171 (zr 4),de P "__file__" 173 (zs "/claim/cut.py" 172),de P "__cached__" 174 .none,de P "BelowError" 206 (zr 24),de P "NoPlace" 230 (zr 44)] 11
noncomputable def Aqx:Obj:=zl [(zi 2),(zi 0),(zr 20),(zi 4),(zi 0),(zr 33)]
noncomputable def Arn:Obj:=⟨(.type "type"),none,(.cls ⟨"BelowError",[(.type "ValueError")],[(zr 24),(.type "ValueError"),(.type "Exception"),(.type "BaseException"),(.type "object")],23,"BelowError",true,[],[(zr 44)],false,none,false⟩),#[(some (zr 15)),none,(some (zs "BelowError" 189)),(some (zs "BelowError" 197)),(some (.builtin "ValueError.__new__")),(some (.bool true))]⟩
noncomputable def zo28:Obj:=zt [(zr 24)]
noncomputable def Rv:Obj:=zd [de P "__module__" 214 (zs "belowpoints.errors" 187),de P "__qualname__" 216 (zs "NoPlace" 215),de P "__firstlineno__" 218 (.int 4 217),de P "__init__" 226 (zr 41),de P "__static_attributes__" 227 (zr 42)] 5
noncomputable def Ta:Obj:=zl [(zi 6),(zi 4),(zr 40)]
noncomputable def zo31:Obj:=zc [(zs "NoPlace" 209),(zs "NoPlace" 210),(zs "/claim/cut.py" 211),(zi 4),(zi 0),(zi 0),(zi 0),(zi 0),(zr 31),(.bool false),(zi 181),(zr 32),.none,.none,.none,.none,(zi 212),(zi 4),(zs "/claim/cut.py" 213)]
noncomputable def Ss:Obj:=⟨(.type "frame"),none,.plain,#[(some (zr 33)),(some (zr 3)),(some (zr 30)),none,(some (zs "belowpoints.errors" 187)),none,(some (zr 0))]⟩
noncomputable def zo33:Obj:=zt [(zs "self" 222),(zs "text" 223)]
noncomputable def zo34:Obj:=zx "__init__" "NoPlace.__init__" (Az (top 2) 0)
noncomputable def Sv:Obj:=zc [(zs "__init__" 219),(zs "NoPlace.__init__" 220),(zs "/claim/cut.py" 221),(zi 6),(zi 2),(zi 0),(zi 0),(zi 3),(zr 35),(.bool true),(zi 181),(zr 36),.none,(zr 37),(zr 38),(zr 39),(zi 224),(zi 6),(zs "/claim/cut.py" 225)]
noncomputable def zo36:Obj:=zf "__init__" "NoPlace.__init__" (Az (top 2) 0) (zs "belowpoints.errors" 187) (zr 40)
noncomputable def Q4:Obj:=zd [de P "__module__" 214 (zs "belowpoints.errors" 187),de P "__firstlineno__" 218 (.int 4 217),de P "__init__" 226 (zr 41),de P "__static_attributes__" 227 (zr 42),de P "__doc__" 228 .none] 2
noncomputable def zo38:Obj:=⟨(.type "type"),none,(.cls ⟨"NoPlace",[(zr 24)],[(zr 44),(zr 24),(.type "ValueError"),(.type "Exception"),(.type "BaseException"),(.type "object")],43,"NoPlace",true,[],[],false,none,false⟩),#[(some (zr 28)),none,(some (zs "NoPlace" 207)),(some (zs "NoPlace" 215)),(some (.builtin "ValueError.__new__")),(some (.bool true))]⟩
noncomputable def Sw:Obj:=⟨(.type "super"),none,(.fields #[(zr 44),(zr 44),(zr 44)]),#[]⟩
noncomputable def zo40:Obj:=⟨(.type "builtin_function_or_method"),none,(.fields #[(.builtin "object.__init_subclass__"),(zr 44)]),#[]⟩
noncomputable def Aq8:Obj:=zd [de P "__name__" 165 (zs "belowpoints.errors" 187),de P "__doc__" 166 .none,de P "__package__" 167 .none,de P "__loader__" 168 (.builtin "__main__.__loader__#opaque"),de P "__spec__" 169 .none,de P "__annotations__" 170 (zr 6),de P "__builtins__" 171 (zr 4),de P "__file__" 173 (zs "/claim/cut.py" 172),de P "__cached__" 174 .none,de P "BelowError" 206 (zr 24),de P "NoPlace" 230 (zr 44),de P "NoAsk" 254 (zr 63)] 12
noncomputable def Arw:Obj:=zl [(zi 2),(zi 0),(zr 20),(zi 4),(zi 0),(zr 33),(zi 8),(zi 0),(zr 52)]
noncomputable def Arb:Obj:=⟨(.type "type"),none,(.cls ⟨"BelowError",[(.type "ValueError")],[(zr 24),(.type "ValueError"),(.type "Exception"),(.type "BaseException"),(.type "object")],23,"BelowError",true,[],[(zr 44),(zr 63)],false,none,false⟩),#[(some (zr 15)),none,(some (zs "BelowError" 189)),(some (zs "BelowError" 197)),(some (.builtin "ValueError.__new__")),(some (.bool true))]⟩
noncomputable def Tc:Obj:=zd [de P "__module__" 238 (zs "belowpoints.errors" 187),de P "__qualname__" 240 (zs "NoAsk" 239),de P "__firstlineno__" 242 (.int 8 241),de P "__init__" 250 (zr 60),de P "__static_attributes__" 251 (zr 61)] 5
noncomputable def V3:Obj:=zl [(zi 10),(zi 4),(zr 59)]
noncomputable def zo46:Obj:=zc [(zs "NoAsk" 233),(zs "NoAsk" 234),(zs "/claim/cut.py" 235),(zi 8),(zi 0),(zi 0),(zi 0),(zi 0),(zr 50),(.bool false),(zi 181),(zr 51),.none,.none,.none,.none,(zi 236),(zi 8),(zs "/claim/cut.py" 237)]
noncomputable def Vv:Obj:=⟨(.type "frame"),none,.plain,#[(some (zr 52)),(some (zr 3)),(some (zr 49)),none,(some (zs "belowpoints.errors" 187)),none,(some (zr 0))]⟩
noncomputable def zo48:Obj:=zt [(zs "self" 246),(zs "text" 247)]
noncomputable def zo49:Obj:=zx "__init__" "NoAsk.__init__" (Az (top 3) 0)
noncomputable def Wn:Obj:=zc [(zs "__init__" 243),(zs "NoAsk.__init__" 244),(zs "/claim/cut.py" 245),(zi 10),(zi 2),(zi 0),(zi 0),(zi 3),(zr 54),(.bool true),(zi 181),(zr 55),.none,(zr 56),(zr 57),(zr 58),(zi 248),(zi 10),(zs "/claim/cut.py" 249)]
noncomputable def zo51:Obj:=zf "__init__" "NoAsk.__init__" (Az (top 3) 0) (zs "belowpoints.errors" 187) (zr 59)
noncomputable def Tg:Obj:=zd [de P "__module__" 238 (zs "belowpoints.errors" 187),de P "__firstlineno__" 242 (.int 8 241),de P "__init__" 250 (zr 60),de P "__static_attributes__" 251 (zr 61),de P "__doc__" 252 .none] 2
noncomputable def zo53:Obj:=⟨(.type "type"),none,(.cls ⟨"NoAsk",[(zr 24)],[(zr 63),(zr 24),(.type "ValueError"),(.type "Exception"),(.type "BaseException"),(.type "object")],62,"NoAsk",true,[],[],false,none,false⟩),#[(some (zr 47)),none,(some (zs "NoAsk" 231)),(some (zs "NoAsk" 239)),(some (.builtin "ValueError.__new__")),(some (.bool true))]⟩
noncomputable def Vd:Obj:=⟨(.type "super"),none,(.fields #[(zr 63),(zr 63),(zr 63)]),#[]⟩
noncomputable def zo55:Obj:=⟨(.type "builtin_function_or_method"),none,(.fields #[(.builtin "object.__init_subclass__"),(zr 63)]),#[]⟩
noncomputable def Aq4:Obj:=zd [de P "__name__" 165 (zs "belowpoints.errors" 187),de P "__doc__" 166 .none,de P "__package__" 167 .none,de P "__loader__" 168 (.builtin "__main__.__loader__#opaque"),de P "__spec__" 169 .none,de P "__annotations__" 170 (zr 6),de P "__builtins__" 171 (zr 4),de P "__file__" 173 (zs "/claim/cut.py" 172),de P "__cached__" 174 .none,de P "BelowError" 206 (zr 24),de P "NoPlace" 230 (zr 44),de P "NoAsk" 254 (zr 63),de P "NoPoints" 279 (zr 82)] 13
noncomputable def Ard:Obj:=zl [(zi 2),(zi 0),(zr 20),(zi 4),(zi 0),(zr 33),(zi 8),(zi 0),(zr 52),(zi 12),(zi 0),(zr 71)]
noncomputable def Aro:Obj:=⟨(.type "type"),none,(.cls ⟨"BelowError",[(.type "ValueError")],[(zr 24),(.type "ValueError"),(.type "Exception"),(.type "BaseException"),(.type "object")],23,"BelowError",true,[],[(zr 44),(zr 63),(zr 82)],false,none,false⟩),#[(some (zr 15)),none,(some (zs "BelowError" 189)),(some (zs "BelowError" 197)),(some (.builtin "ValueError.__new__")),(some (.bool true))]⟩
noncomputable def Vo:Obj:=zd [de P "__module__" 262 (zs "belowpoints.errors" 187),de P "__qualname__" 264 (zs "NoPoints" 263),de P "__firstlineno__" 266 (.int 12 265),de P "__init__" 274 (zr 79),de P "__static_attributes__" 276 (zr 80)] 5
noncomputable def Yc:Obj:=zl [(zi 14),(zi 4),(zr 78)]
noncomputable def zo61:Obj:=zc [(zs "NoPoints" 257),(zs "NoPoints" 258),(zs "/claim/cut.py" 259),(zi 12),(zi 0),(zi 0),(zi 0),(zi 0),(zr 69),(.bool false),(zi 181),(zr 70),.none,.none,.none,.none,(zi 260),(zi 12),(zs "/claim/cut.py" 261)]
noncomputable def Yd:Obj:=⟨(.type "frame"),none,.plain,#[(some (zr 71)),(some (zr 3)),(some (zr 68)),none,(some (zs "belowpoints.errors" 187)),none,(some (zr 0))]⟩
noncomputable def zo63:Obj:=zt [(zs "self" 270),(zs "row" 271)]
noncomputable def zo64:Obj:=zx "__init__" "NoPoints.__init__" (Az (top 4) 0)
noncomputable def Ye:Obj:=zc [(zs "__init__" 267),(zs "NoPoints.__init__" 268),(zs "/claim/cut.py" 269),(zi 14),(zi 2),(zi 0),(zi 0),(zi 3),(zr 73),(.bool true),(zi 181),(zr 74),.none,(zr 75),(zr 76),(zr 77),(zi 272),(zi 14),(zs "/claim/cut.py" 273)]
noncomputable def zo66:Obj:=zf "__init__" "NoPoints.__init__" (Az (top 4) 0) (zs "belowpoints.errors" 187) (zr 78)
noncomputable def Wu:Obj:=zt [(zs "row" 275)]
noncomputable def Vx:Obj:=zd [de P "__module__" 262 (zs "belowpoints.errors" 187),de P "__firstlineno__" 266 (.int 12 265),de P "__init__" 274 (zr 79),de P "__static_attributes__" 276 (zr 80),de P "__doc__" 277 .none] 2
noncomputable def zo69:Obj:=⟨(.type "type"),none,(.cls ⟨"NoPoints",[(zr 24)],[(zr 82),(zr 24),(.type "ValueError"),(.type "Exception"),(.type "BaseException"),(.type "object")],81,"NoPoints",true,[],[],false,none,false⟩),#[(some (zr 66)),none,(some (zs "NoPoints" 255)),(some (zs "NoPoints" 263)),(some (.builtin "ValueError.__new__")),(some (.bool true))]⟩
noncomputable def W3:Obj:=⟨(.type "super"),none,(.fields #[(zr 82),(zr 82),(zr 82)]),#[]⟩
noncomputable def zo71:Obj:=⟨(.type "builtin_function_or_method"),none,(.fields #[(.builtin "object.__init_subclass__"),(zr 82)]),#[]⟩
noncomputable def Ar3:Obj:=zd [de P "__name__" 165 (zs "belowpoints.errors" 187),de P "__doc__" 166 .none,de P "__package__" 167 .none,de P "__loader__" 168 (.builtin "__main__.__loader__#opaque"),de P "__spec__" 169 .none,de P "__annotations__" 170 (zr 6),de P "__builtins__" 171 (zr 4),de P "__file__" 173 (zs "/claim/cut.py" 172),de P "__cached__" 174 .none,de P "BelowError" 206 (zr 24),de P "NoPlace" 230 (zr 44),de P "NoAsk" 254 (zr 63),de P "NoPoints" 279 (zr 82),de P "NoCounts" 304 (zr 101)] 14
noncomputable def Ar0:Obj:=zl [(zi 2),(zi 0),(zr 20),(zi 4),(zi 0),(zr 33),(zi 8),(zi 0),(zr 52),(zi 12),(zi 0),(zr 71),(zi 17),(zi 0),(zr 90)]
noncomputable def Aru:Obj:=⟨(.type "type"),none,(.cls ⟨"BelowError",[(.type "ValueError")],[(zr 24),(.type "ValueError"),(.type "Exception"),(.type "BaseException"),(.type "object")],23,"BelowError",true,[],[(zr 44),(zr 63),(zr 82),(zr 101)],false,none,false⟩),#[(some (zr 15)),none,(some (zs "BelowError" 189)),(some (zs "BelowError" 197)),(some (.builtin "ValueError.__new__")),(some (.bool true))]⟩
noncomputable def Yg:Obj:=zd [de P "__module__" 287 (zs "belowpoints.errors" 187),de P "__qualname__" 289 (zs "NoCounts" 288),de P "__firstlineno__" 291 (.int 17 290),de P "__init__" 299 (zr 98),de P "__static_attributes__" 301 (zr 99)] 5
noncomputable def Aax:Obj:=zl [(zi 19),(zi 4),(zr 97)]
noncomputable def zo77:Obj:=zc [(zs "NoCounts" 282),(zs "NoCounts" 283),(zs "/claim/cut.py" 284),(zi 17),(zi 0),(zi 0),(zi 0),(zi 0),(zr 88),(.bool false),(zi 181),(zr 89),.none,.none,.none,.none,(zi 285),(zi 17),(zs "/claim/cut.py" 286)]
noncomputable def Y8:Obj:=⟨(.type "frame"),none,.plain,#[(some (zr 90)),(some (zr 3)),(some (zr 87)),none,(some (zs "belowpoints.errors" 187)),none,(some (zr 0))]⟩
noncomputable def zo79:Obj:=zt [(zs "self" 295),(zs "row" 296)]
noncomputable def zo80:Obj:=zx "__init__" "NoCounts.__init__" (Az (top 5) 0)
noncomputable def Aaf:Obj:=zc [(zs "__init__" 292),(zs "NoCounts.__init__" 293),(zs "/claim/cut.py" 294),(zi 19),(zi 2),(zi 0),(zi 0),(zi 3),(zr 92),(.bool true),(zi 181),(zr 93),.none,(zr 94),(zr 95),(zr 96),(zi 297),(zi 19),(zs "/claim/cut.py" 298)]
noncomputable def zo82:Obj:=zf "__init__" "NoCounts.__init__" (Az (top 5) 0) (zs "belowpoints.errors" 187) (zr 97)
noncomputable def Aa3:Obj:=zt [(zs "row" 300)]
noncomputable def W2:Obj:=zd [de P "__module__" 287 (zs "belowpoints.errors" 187),de P "__firstlineno__" 291 (.int 17 290),de P "__init__" 299 (zr 98),de P "__static_attributes__" 301 (zr 99),de P "__doc__" 302 .none] 2
noncomputable def zo85:Obj:=⟨(.type "type"),none,(.cls ⟨"NoCounts",[(zr 24)],[(zr 101),(zr 24),(.type "ValueError"),(.type "Exception"),(.type "BaseException"),(.type "object")],100,"NoCounts",true,[],[],false,none,false⟩),#[(some (zr 85)),none,(some (zs "NoCounts" 280)),(some (zs "NoCounts" 288)),(some (.builtin "ValueError.__new__")),(some (.bool true))]⟩
noncomputable def Y2:Obj:=⟨(.type "super"),none,(.fields #[(zr 101),(zr 101),(zr 101)]),#[]⟩
noncomputable def zo87:Obj:=⟨(.type "builtin_function_or_method"),none,(.fields #[(.builtin "object.__init_subclass__"),(zr 101)]),#[]⟩
noncomputable def Aqw:Obj:=zd [de P "__name__" 165 (zs "belowpoints.heaps.texts" 330),de P "__doc__" 166 .none,de P "__package__" 167 .none,de P "__loader__" 168 (.builtin "__main__.__loader__#opaque"),de P "__spec__" 169 .none,de P "__annotations__" 170 (zr 6),de P "__builtins__" 171 (zr 4),de P "__file__" 173 (zs "/claim/cut.py" 172),de P "__cached__" 174 .none,de P "BelowError" 206 (zr 24),de P "NoPlace" 230 (zr 44),de P "NoAsk" 254 (zr 63),de P "NoPoints" 279 (zr 82),de P "NoCounts" 304 (zr 101),de P "NoName" 329 (zr 120),de P "lies_below" 337 (zr 127)] 16
noncomputable def Aq3:Obj:=zl [(zi 2),(zi 0),(zr 20),(zi 4),(zi 0),(zr 33),(zi 8),(zi 0),(zr 52),(zi 12),(zi 0),(zr 71),(zi 17),(zi 0),(zr 90),(zi 22),(zi 0),(zr 109),(zi 28),(zi 0),(zr 126)]
noncomputable def zo90:Obj:=⟨(.type "type"),none,(.cls ⟨"BelowError",[(.type "ValueError")],[(zr 24),(.type "ValueError"),(.type "Exception"),(.type "BaseException"),(.type "object")],23,"BelowError",true,[],[(zr 44),(zr 63),(zr 82),(zr 101),(zr 120)],false,none,false⟩),#[(some (zr 15)),none,(some (zs "BelowError" 189)),(some (zs "BelowError" 197)),(some (.builtin "ValueError.__new__")),(some (.bool true))]⟩
noncomputable def Yz:Obj:=zd [de P "__module__" 312 (zs "belowpoints.errors" 187),de P "__qualname__" 314 (zs "NoName" 313),de P "__firstlineno__" 316 (.int 22 315),de P "__init__" 324 (zr 117),de P "__static_attributes__" 326 (zr 118)] 5
noncomputable def Ad9:Obj:=zl [(zi 24),(zi 4),(zr 116)]
noncomputable def zo93:Obj:=zc [(zs "NoName" 307),(zs "NoName" 308),(zs "/claim/cut.py" 309),(zi 22),(zi 0),(zi 0),(zi 0),(zi 0),(zr 107),(.bool false),(zi 181),(zr 108),.none,.none,.none,.none,(zi 310),(zi 22),(zs "/claim/cut.py" 311)]
noncomputable def Aeg:Obj:=⟨(.type "frame"),none,.plain,#[(some (zr 109)),(some (zr 3)),(some (zr 106)),none,(some (zs "belowpoints.errors" 187)),none,(some (zr 0))]⟩
noncomputable def zo95:Obj:=zt [(zs "self" 320),(zs "word" 321)]
noncomputable def zo96:Obj:=zx "__init__" "NoName.__init__" (Az (top 6) 0)
noncomputable def Y0:Obj:=zc [(zs "__init__" 317),(zs "NoName.__init__" 318),(zs "/claim/cut.py" 319),(zi 24),(zi 2),(zi 0),(zi 0),(zi 3),(zr 111),(.bool true),(zi 181),(zr 112),.none,(zr 113),(zr 114),(zr 115),(zi 322),(zi 24),(zs "/claim/cut.py" 323)]
noncomputable def zo98:Obj:=zf "__init__" "NoName.__init__" (Az (top 6) 0) (zs "belowpoints.errors" 187) (zr 116)
noncomputable def Ael:Obj:=zt [(zs "word" 325)]
noncomputable def Rt:Obj:=zd [de P "__module__" 312 (zs "belowpoints.errors" 187),de P "__firstlineno__" 316 (.int 22 315),de P "__init__" 324 (zr 117),de P "__static_attributes__" 326 (zr 118),de P "__doc__" 327 .none] 2
noncomputable def zo101:Obj:=⟨(.type "type"),none,(.cls ⟨"NoName",[(zr 24)],[(zr 120),(zr 24),(.type "ValueError"),(.type "Exception"),(.type "BaseException"),(.type "object")],119,"NoName",true,[],[],false,none,false⟩),#[(some (zr 104)),none,(some (zs "NoName" 305)),(some (zs "NoName" 313)),(some (.builtin "ValueError.__new__")),(some (.bool true))]⟩
noncomputable def Tx:Obj:=⟨(.type "super"),none,(.fields #[(zr 120),(zr 120),(zr 120)]),#[]⟩
noncomputable def zo103:Obj:=⟨(.type "builtin_function_or_method"),none,(.fields #[(.builtin "object.__init_subclass__"),(zr 120)]),#[]⟩
noncomputable def Ul:Obj:=zx "lies_below" "lies_below" (top 8)
noncomputable def zo105:Obj:=zc [(zs "lies_below" 332),(zs "lies_below" 333),(zs "/claim/cut.py" 334),(zi 28),(zi 2),(zi 0),(zi 0),(zi 3),(zr 123),(.bool true),(zi 181),(zr 124),.none,.none,.none,(zr 125),(zi 335),(zi 28),(zs "/claim/cut.py" 336)]
noncomputable def Qp:Obj:=zf "lies_below" "lies_below" (top 8) (zs "belowpoints.heaps.texts" 330) (zr 126)
noncomputable def Apw:Obj:=zd [de P "__name__" 165 (zs "belowpoints.kept" 394),de P "__doc__" 166 .none,de P "__package__" 167 .none,de P "__loader__" 168 (.builtin "__main__.__loader__#opaque"),de P "__spec__" 169 .none,de P "__annotations__" 170 (zr 6),de P "__builtins__" 171 (zr 4),de P "__file__" 173 (zs "/claim/cut.py" 172),de P "__cached__" 174 .none,de P "BelowError" 206 (zr 24),de P "NoPlace" 230 (zr 44),de P "NoAsk" 254 (zr 63),de P "NoPoints" 279 (zr 82),de P "NoCounts" 304 (zr 101),de P "NoName" 329 (zr 120),de P "lies_below" 337 (zr 127),de P "place_of" 344 (zr 134),de P "below_each" 352 (zr 139),de P "pairs_in_all" 359 (zr 146),de P "many_below" 365 (zr 151),de P "many_above" 371 (zr 156),de P "in_boxes" 379 (zr 161),de P "points_in" 385 (zr 166),de P "is_held" 393 (zr 173)] 24
noncomputable def Aor:Obj:=zl [(zi 2),(zi 0),(zr 20),(zi 4),(zi 0),(zr 33),(zi 8),(zi 0),(zr 52),(zi 12),(zi 0),(zr 71),(zi 17),(zi 0),(zr 90),(zi 22),(zi 0),(zr 109),(zi 28),(zi 0),(zr 126),(zi 30),(zi 0),(zr 133),(zi 33),(zi 0),(zr 138),(zi 36),(zi 0),(zr 145),(zi 38),(zi 0),(zr 150),(zi 40),(zi 0),(zr 155),(zi 43),(zi 0),(zr 160),(zi 45),(zi 0),(zr 165),(zi 47),(zi 0),(zr 172)]
noncomputable def zo109:Obj:=zt [(zs "point" 341)]
noncomputable def zo110:Obj:=zx "place_of" "place_of" (top 9)
noncomputable def Vb:Obj:=zc [(zs "place_of" 338),(zs "place_of" 339),(zs "/claim/cut.py" 340),(zi 30),(zi 1),(zi 0),(zi 0),(zi 3),(zr 128),(.bool true),(zi 181),(zr 129),.none,(zr 130),(zr 131),(zr 132),(zi 342),(zi 30),(zs "/claim/cut.py" 343)]
noncomputable def zo112:Obj:=zf "place_of" "place_of" (top 9) (zs "belowpoints.heaps.texts" 330) (zr 133)
noncomputable def Xp:Obj:=zx "below_each" "below_each" (top 11)
noncomputable def zo114:Obj:=zc [(zs "below_each" 347),(zs "below_each" 348),(zs "/claim/cut.py" 349),(zi 33),(zi 1),(zi 0),(zi 0),(zi 3),(zr 135),(.bool true),(zi 181),(zr 136),.none,.none,.none,(zr 137),(zi 350),(zi 33),(zs "/claim/cut.py" 351)]
noncomputable def Us:Obj:=zf "below_each" "below_each" (top 11) (zs "belowpoints.counts.pairs" 345) (zr 138)
noncomputable def zo116:Obj:=zt [(zs "points" 356)]
noncomputable def zo117:Obj:=zx "pairs_in_all" "pairs_in_all" (top 12)
noncomputable def Tn:Obj:=zc [(zs "pairs_in_all" 353),(zs "pairs_in_all" 354),(zs "/claim/cut.py" 355),(zi 36),(zi 1),(zi 0),(zi 0),(zi 3),(zr 140),(.bool true),(zi 181),(zr 141),.none,(zr 142),(zr 143),(zr 144),(zi 357),(zi 36),(zs "/claim/cut.py" 358)]
noncomputable def zo119:Obj:=zf "pairs_in_all" "pairs_in_all" (top 12) (zs "belowpoints.counts.pairs" 345) (zr 145)
noncomputable def Xl:Obj:=zx "many_below" "many_below" (top 13)
noncomputable def zo121:Obj:=zc [(zs "many_below" 360),(zs "many_below" 361),(zs "/claim/cut.py" 362),(zi 38),(zi 2),(zi 0),(zi 0),(zi 3),(zr 147),(.bool true),(zi 181),(zr 148),.none,.none,.none,(zr 149),(zi 363),(zi 38),(zs "/claim/cut.py" 364)]
noncomputable def U5:Obj:=zf "many_below" "many_below" (top 13) (zs "belowpoints.counts.pairs" 345) (zr 150)
noncomputable def zo123:Obj:=zx "many_above" "many_above" (top 14)
noncomputable def T7:Obj:=zc [(zs "many_above" 366),(zs "many_above" 367),(zs "/claim/cut.py" 368),(zi 40),(zi 2),(zi 0),(zi 0),(zi 3),(zr 152),(.bool true),(zi 181),(zr 153),.none,.none,.none,(zr 154),(zi 369),(zi 40),(zs "/claim/cut.py" 370)]
noncomputable def zo125:Obj:=zf "many_above" "many_above" (top 14) (zs "belowpoints.counts.pairs" 345) (zr 155)
noncomputable def Xd:Obj:=zx "in_boxes" "in_boxes" (top 16)
noncomputable def zo127:Obj:=zc [(zs "in_boxes" 374),(zs "in_boxes" 375),(zs "/claim/cut.py" 376),(zi 43),(zi 2),(zi 0),(zi 0),(zi 3),(zr 157),(.bool true),(zi 181),(zr 158),.none,.none,.none,(zr 159),(zi 377),(zi 43),(zs "/claim/cut.py" 378)]
noncomputable def Ue:Obj:=zf "in_boxes" "in_boxes" (top 16) (zs "belowpoints.heaps.boxes" 372) (zr 160)
noncomputable def zo129:Obj:=zx "points_in" "points_in" (top 17)
noncomputable def Tq:Obj:=zc [(zs "points_in" 380),(zs "points_in" 381),(zs "/claim/cut.py" 382),(zi 45),(zi 2),(zi 0),(zi 0),(zi 3),(zr 162),(.bool true),(zi 181),(zr 163),.none,.none,.none,(zr 164),(zi 383),(zi 45),(zs "/claim/cut.py" 384)]
noncomputable def zo131:Obj:=zf "points_in" "points_in" (top 17) (zs "belowpoints.heaps.boxes" 372) (zr 165)
noncomputable def Xe:Obj:=zt [(zs "point" 389),(zs "box" 390)]
noncomputable def X3:Obj:=zx "is_held" "is_held" (top 18)
noncomputable def zo134:Obj:=zc [(zs "is_held" 386),(zs "is_held" 387),(zs "/claim/cut.py" 388),(zi 47),(zi 2),(zi 0),(zi 0),(zi 3),(zr 167),(.bool true),(zi 181),(zr 168),.none,(zr 169),(zr 170),(zr 171),(zi 391),(zi 47),(zs "/claim/cut.py" 392)]
noncomputable def Uu:Obj:=zf "is_held" "is_held" (top 18) (zs "belowpoints.heaps.boxes" 372) (zr 172)
noncomputable def Aov:Obj:=zd [de P "__name__" 165 (zs "belowpoints.kept" 394),de P "__doc__" 166 .none,de P "__package__" 167 .none,de P "__loader__" 168 (.builtin "__main__.__loader__#opaque"),de P "__spec__" 169 .none,de P "__annotations__" 170 (zr 6),de P "__builtins__" 171 (zr 4),de P "__file__" 173 (zs "/claim/cut.py" 172),de P "__cached__" 174 .none,de P "BelowError" 206 (zr 24),de P "NoPlace" 230 (zr 44),de P "NoAsk" 254 (zr 63),de P "NoPoints" 279 (zr 82),de P "NoCounts" 304 (zr 101),de P "NoName" 329 (zr 120),de P "lies_below" 337 (zr 127),de P "place_of" 344 (zr 134),de P "below_each" 352 (zr 139),de P "pairs_in_all" 359 (zr 146),de P "many_below" 365 (zr 151),de P "many_above" 371 (zr 156),de P "in_boxes" 379 (zr 161),de P "points_in" 385 (zr 166),de P "is_held" 393 (zr 173),de P "KeptPoints" 505 (zr 258)] 25
noncomputable def Apn:Obj:=zl [(zi 2),(zi 0),(zr 20),(zi 4),(zi 0),(zr 33),(zi 8),(zi 0),(zr 52),(zi 12),(zi 0),(zr 71),(zi 17),(zi 0),(zr 90),(zi 22),(zi 0),(zr 109),(zi 28),(zi 0),(zr 126),(zi 30),(zi 0),(zr 133),(zi 33),(zi 0),(zr 138),(zi 36),(zi 0),(zr 145),(zi 38),(zi 0),(zr 150),(zi 40),(zi 0),(zr 155),(zi 43),(zi 0),(zr 160),(zi 45),(zi 0),(zr 165),(zi 47),(zi 0),(zr 172),(zi 50),(zi 0),(zr 179)]
noncomputable def Xg:Obj:=zd [de P "__module__" 403 (zs "belowpoints.kept" 394),de P "__qualname__" 405 (zs "KeptPoints" 404),de P "__firstlineno__" 407 (.int 50 406),de P "__init__" 414 (zr 187),de P "put_point" 424 (zr 194),de P "take_point" 432 (zr 201),de P "move_point" 442 (zr 208),de P "points_now" 449 (zr 215),de P "below_now" 458 (zr 222),de P "above_now" 467 (zr 229),de P "pairs_now" 474 (zr 236),de P "box_now" 482 (zr 243),de P "places_now" 488 (zr 248),de P "need_name" 496 (zr 255),de P "__static_attributes__" 498 (zr 256)] 15
noncomputable def Ab4:Obj:=zl [(zi 52),(zi 4),(zr 186),(zi 55),(zi 4),(zr 193),(zi 60),(zi 4),(zr 200),(zi 64),(zi 4),(zr 207),(zi 68),(zi 4),(zr 214),(zi 71),(zi 4),(zr 221),(zi 74),(zi 4),(zr 228),(zi 77),(zi 4),(zr 235),(zi 80),(zi 4),(zr 242),(zi 83),(zi 4),(zr 247),(zi 86),(zi 4),(zr 254)]
noncomputable def zo140:Obj:=zc [(zs "KeptPoints" 398),(zs "KeptPoints" 399),(zs "/claim/cut.py" 400),(zi 50),(zi 0),(zi 0),(zi 0),(zi 0),(zr 177),(.bool false),(zi 181),(zr 178),.none,.none,.none,.none,(zi 401),(zi 50),(zs "/claim/cut.py" 402)]
noncomputable def Abn:Obj:=⟨(.type "frame"),none,.plain,#[(some (zr 179)),(some (zr 3)),(some (zr 176)),none,(some (zs "belowpoints.kept" 394)),none,(some (zr 0))]⟩
noncomputable def zo142:Obj:=zt [(zs "self" 411)]
noncomputable def zo143:Obj:=zx "__init__" "KeptPoints.__init__" (Az (top 20) 0)
noncomputable def Xm:Obj:=zc [(zs "__init__" 408),(zs "KeptPoints.__init__" 409),(zs "/claim/cut.py" 410),(zi 52),(zi 1),(zi 0),(zi 0),(zi 3),(zr 181),(.bool true),(zi 181),(zr 182),.none,(zr 183),(zr 184),(zr 185),(zi 412),(zi 52),(zs "/claim/cut.py" 413)]
noncomputable def zo145:Obj:=zf "__init__" "KeptPoints.__init__" (Az (top 20) 0) (zs "belowpoints.kept" 394) (zr 186)
noncomputable def Ab6:Obj:=zt [(zs "self" 418),(zs "name" 419),(zs "x" 420),(zs "y" 421)]
noncomputable def Acv:Obj:=zx "put_point" "KeptPoints.put_point" (Az (top 20) 1)
noncomputable def zo148:Obj:=zc [(zs "put_point" 415),(zs "KeptPoints.put_point" 416),(zs "/claim/cut.py" 417),(zi 55),(zi 4),(zi 0),(zi 0),(zi 3),(zr 188),(.bool true),(zi 181),(zr 189),.none,(zr 190),(zr 191),(zr 192),(zi 422),(zi 55),(zs "/claim/cut.py" 423)]
noncomputable def Xr:Obj:=zf "put_point" "KeptPoints.put_point" (Az (top 20) 1) (zs "belowpoints.kept" 394) (zr 193)
noncomputable def zo150:Obj:=zt [(zs "self" 428),(zs "name" 429)]
noncomputable def zo151:Obj:=zx "take_point" "KeptPoints.take_point" (Az (top 20) 2)
noncomputable def Ym:Obj:=zc [(zs "take_point" 425),(zs "KeptPoints.take_point" 426),(zs "/claim/cut.py" 427),(zi 60),(zi 2),(zi 0),(zi 0),(zi 3),(zr 195),(.bool true),(zi 181),(zr 196),.none,(zr 197),(zr 198),(zr 199),(zi 430),(zi 60),(zs "/claim/cut.py" 431)]
noncomputable def zo153:Obj:=zf "take_point" "KeptPoints.take_point" (Az (top 20) 2) (zs "belowpoints.kept" 394) (zr 200)
noncomputable def Acq:Obj:=zt [(zs "self" 436),(zs "name" 437),(zs "x" 438),(zs "y" 439)]
noncomputable def Abl:Obj:=zx "move_point" "KeptPoints.move_point" (Az (top 20) 3)
noncomputable def zo156:Obj:=zc [(zs "move_point" 433),(zs "KeptPoints.move_point" 434),(zs "/claim/cut.py" 435),(zi 64),(zi 4),(zi 0),(zi 0),(zi 3),(zr 202),(.bool true),(zi 181),(zr 203),.none,(zr 204),(zr 205),(zr 206),(zi 440),(zi 64),(zs "/claim/cut.py" 441)]
noncomputable def Xw:Obj:=zf "move_point" "KeptPoints.move_point" (Az (top 20) 3) (zs "belowpoints.kept" 394) (zr 207)
noncomputable def zo158:Obj:=zt [(zs "self" 446)]
noncomputable def zo159:Obj:=zx "points_now" "KeptPoints.points_now" (Az (top 20) 4)
noncomputable def Yq:Obj:=zc [(zs "points_now" 443),(zs "KeptPoints.points_now" 444),(zs "/claim/cut.py" 445),(zi 68),(zi 1),(zi 0),(zi 0),(zi 3),(zr 209),(.bool true),(zi 181),(zr 210),.none,(zr 211),(zr 212),(zr 213),(zi 447),(zi 68),(zs "/claim/cut.py" 448)]
noncomputable def zo161:Obj:=zf "points_now" "KeptPoints.points_now" (Az (top 20) 4) (zs "belowpoints.kept" 394) (zr 214)
noncomputable def Ab8:Obj:=zt [(zs "self" 453),(zs "x" 454),(zs "y" 455)]
noncomputable def Ab5:Obj:=zx "below_now" "KeptPoints.below_now" (Az (top 20) 5)
noncomputable def zo164:Obj:=zc [(zs "below_now" 450),(zs "KeptPoints.below_now" 451),(zs "/claim/cut.py" 452),(zi 71),(zi 3),(zi 0),(zi 0),(zi 3),(zr 216),(.bool true),(zi 181),(zr 217),.none,(zr 218),(zr 219),(zr 220),(zi 456),(zi 71),(zs "/claim/cut.py" 457)]
noncomputable def W7:Obj:=zf "below_now" "KeptPoints.below_now" (Az (top 20) 5) (zs "belowpoints.kept" 394) (zr 221)
noncomputable def zo166:Obj:=zt [(zs "self" 462),(zs "x" 463),(zs "y" 464)]
noncomputable def zo167:Obj:=zx "above_now" "KeptPoints.above_now" (Az (top 20) 6)
noncomputable def Yn:Obj:=zc [(zs "above_now" 459),(zs "KeptPoints.above_now" 460),(zs "/claim/cut.py" 461),(zi 74),(zi 3),(zi 0),(zi 0),(zi 3),(zr 223),(.bool true),(zi 181),(zr 224),.none,(zr 225),(zr 226),(zr 227),(zi 465),(zi 74),(zs "/claim/cut.py" 466)]
noncomputable def zo169:Obj:=zf "above_now" "KeptPoints.above_now" (Az (top 20) 6) (zs "belowpoints.kept" 394) (zr 228)
noncomputable def Acl:Obj:=zt [(zs "self" 471)]
noncomputable def Ac6:Obj:=zx "pairs_now" "KeptPoints.pairs_now" (Az (top 20) 7)
noncomputable def zo172:Obj:=zc [(zs "pairs_now" 468),(zs "KeptPoints.pairs_now" 469),(zs "/claim/cut.py" 470),(zi 77),(zi 1),(zi 0),(zi 0),(zi 3),(zr 230),(.bool true),(zi 181),(zr 231),.none,(zr 232),(zr 233),(zr 234),(zi 472),(zi 77),(zs "/claim/cut.py" 473)]
noncomputable def X5:Obj:=zf "pairs_now" "KeptPoints.pairs_now" (Az (top 20) 7) (zs "belowpoints.kept" 394) (zr 235)
noncomputable def zo174:Obj:=zt [(zs "self" 478),(zs "box" 479)]
noncomputable def zo175:Obj:=zx "box_now" "KeptPoints.box_now" (Az (top 20) 8)
noncomputable def Yh:Obj:=zc [(zs "box_now" 475),(zs "KeptPoints.box_now" 476),(zs "/claim/cut.py" 477),(zi 80),(zi 2),(zi 0),(zi 0),(zi 3),(zr 237),(.bool true),(zi 181),(zr 238),.none,(zr 239),(zr 240),(zr 241),(zi 480),(zi 80),(zs "/claim/cut.py" 481)]
noncomputable def zo177:Obj:=zf "box_now" "KeptPoints.box_now" (Az (top 20) 8) (zs "belowpoints.kept" 394) (zr 242)
noncomputable def Abq:Obj:=zx "places_now" "KeptPoints.places_now" (Az (top 20) 9)
noncomputable def zo179:Obj:=zc [(zs "places_now" 483),(zs "KeptPoints.places_now" 484),(zs "/claim/cut.py" 485),(zi 83),(zi 1),(zi 0),(zi 0),(zi 3),(zr 244),(.bool true),(zi 181),(zr 245),.none,.none,.none,(zr 246),(zi 486),(zi 83),(zs "/claim/cut.py" 487)]
noncomputable def Yw:Obj:=zf "places_now" "KeptPoints.places_now" (Az (top 20) 9) (zs "belowpoints.kept" 394) (zr 247)
noncomputable def zo181:Obj:=zt [(zs "self" 492),(zs "name" 493)]
noncomputable def zo182:Obj:=zx "need_name" "KeptPoints.need_name" (Az (top 20) 10)
noncomputable def Yx:Obj:=zc [(zs "need_name" 489),(zs "KeptPoints.need_name" 490),(zs "/claim/cut.py" 491),(zi 86),(zi 2),(zi 0),(zi 0),(zi 3),(zr 249),(.bool true),(zi 181),(zr 250),.none,(zr 251),(zr 252),(zr 253),(zi 494),(zi 86),(zs "/claim/cut.py" 495)]
noncomputable def zo184:Obj:=zf "need_name" "KeptPoints.need_name" (Az (top 20) 10) (zs "belowpoints.kept" 394) (zr 254)
noncomputable def Acx:Obj:=zt [(zs "points" 497)]
noncomputable def X9:Obj:=zd [de P "__module__" 403 (zs "belowpoints.kept" 394),de P "__firstlineno__" 407 (.int 50 406),de P "__init__" 414 (zr 187),de P "put_point" 424 (zr 194),de P "take_point" 432 (zr 201),de P "move_point" 442 (zr 208),de P "points_now" 449 (zr 215),de P "below_now" 458 (zr 222),de P "above_now" 467 (zr 229),de P "pairs_now" 474 (zr 236),de P "box_now" 482 (zr 243),de P "places_now" 488 (zr 248),de P "need_name" 496 (zr 255),de P "__static_attributes__" 498 (zr 256),de P "__dict__" 500 (zr 259),de P "__weakref__" 502 (zr 260),de P "__doc__" 503 .none] 4
noncomputable def zo187:Obj:=⟨(.type "type"),none,(.cls ⟨"KeptPoints",[(.type "object")],[(zr 258),(.type "object")],257,"KeptPoints",true,[],[],false,none,false⟩),#[none,none,(some (zs "KeptPoints" 396)),(some (zs "KeptPoints" 404)),(some (.builtin "object.__new__")),(some (.bool true))]⟩
noncomputable def Aby:Obj:=⟨(.type "getset_descriptor"),none,(.fields #[(zs "__dict__" 499),(zr 258),(.builtin "function.__dict__"),(.builtin "function.__dict__#set")]),#[]⟩
noncomputable def zo189:Obj:=⟨(.type "getset_descriptor"),none,(.fields #[(zs "__weakref__" 501),(zr 258),(.builtin "ExceptionGroup.__weakref__"),.none]),#[]⟩
noncomputable def Acn:Obj:=⟨(.type "super"),none,(.fields #[(zr 258),(zr 258),(zr 258)]),#[]⟩
noncomputable def zo191:Obj:=⟨(.type "builtin_function_or_method"),none,(.fields #[(.builtin "object.__init_subclass__"),(zr 258)]),#[]⟩
noncomputable def Aqb:Obj:=zd [de P "__name__" 165 (zs "law_belowpoints_k20_kept_points" 506),de P "__doc__" 166 .none,de P "__package__" 167 .none,de P "__loader__" 168 (.builtin "__main__.__loader__#opaque"),de P "__spec__" 169 .none,de P "__annotations__" 170 (zr 6),de P "__builtins__" 171 (zr 4),de P "__file__" 173 (zs "/claim/cut.py" 172),de P "__cached__" 174 .none,de P "BelowError" 206 (zr 24),de P "NoPlace" 230 (zr 44),de P "NoAsk" 254 (zr 63),de P "NoPoints" 279 (zr 82),de P "NoCounts" 304 (zr 101),de P "NoName" 329 (zr 120),de P "lies_below" 337 (zr 127),de P "place_of" 344 (zr 134),de P "below_each" 352 (zr 139),de P "pairs_in_all" 359 (zr 146),de P "many_below" 365 (zr 151),de P "many_above" 371 (zr 156),de P "in_boxes" 379 (zr 161),de P "points_in" 385 (zr 166),de P "is_held" 393 (zr 173),de P "KeptPoints" 505 (zr 258),de P "_law_folded" 516 (zr 269),de P "_law_seed" 524 (zr 276),de P "_law_draw" 534 (zr 283),de P "_law_number" 543 (zr 290),de P "_law_names" 549 (zr 295),de P "_law_alone" 556 (zr 302),de P "_law_done" 569 (zr 309),de P "_law_place" 579 (zr 316),de P "_law_turn" 595 (zr 323)] 34
noncomputable def Ap3:Obj:=zl [(zi 2),(zi 0),(zr 20),(zi 4),(zi 0),(zr 33),(zi 8),(zi 0),(zr 52),(zi 12),(zi 0),(zr 71),(zi 17),(zi 0),(zr 90),(zi 22),(zi 0),(zr 109),(zi 28),(zi 0),(zr 126),(zi 30),(zi 0),(zr 133),(zi 33),(zi 0),(zr 138),(zi 36),(zi 0),(zr 145),(zi 38),(zi 0),(zr 150),(zi 40),(zi 0),(zr 155),(zi 43),(zi 0),(zr 160),(zi 45),(zi 0),(zr 165),(zi 47),(zi 0),(zr 172),(zi 50),(zi 0),(zr 179),(zi 90),(zi 0),(zr 268),(zi 95),(zi 0),(zr 275),(zi 98),(zi 0),(zr 282),(zi 107),(zi 0),(zr 289),(zi 114),(zi 0),(zr 294),(zi 120),(zi 0),(zr 301),(zi 124),(zi 0),(zr 308),(zi 137),(zi 0),(zr 315),(zi 143),(zi 0),(zr 322)]
noncomputable def Aii:Obj:=zt [(zs "script" 511),(zs "found" 512),(zs "cell" 513)]
noncomputable def Ah0:Obj:=zx "_law_folded" "_law_folded" (top 22)
noncomputable def zo196:Obj:=zc [(zs "_law_folded" 508),(zs "_law_folded" 509),(zs "/claim/cut.py" 510),(zi 90),(zi 1),(zi 0),(zi 0),(zi 3),(zr 263),(.bool true),(zi 181),(zr 264),.none,(zr 265),(zr 266),(zr 267),(zi 514),(zi 90),(zs "/claim/cut.py" 515)]
noncomputable def Adf:Obj:=zf "_law_folded" "_law_folded" (top 22) (zs "law_belowpoints_k20_kept_points" 506) (zr 268)
noncomputable def zo198:Obj:=zt [(zs "cell" 520),(zs "number" 521)]
noncomputable def zo199:Obj:=zx "_law_seed" "_law_seed" (top 23)
noncomputable def Abt:Obj:=zc [(zs "_law_seed" 517),(zs "_law_seed" 518),(zs "/claim/cut.py" 519),(zi 95),(zi 1),(zi 0),(zi 0),(zi 3),(zr 270),(.bool true),(zi 181),(zr 271),.none,(zr 272),(zr 273),(zr 274),(zi 522),(zi 95),(zs "/claim/cut.py" 523)]
noncomputable def zo201:Obj:=zf "_law_seed" "_law_seed" (top 23) (zs "law_belowpoints_k20_kept_points" 506) (zr 275)
noncomputable def Afh:Obj:=zt [(zs "seed" 528),(zs "most" 529),(zs "found" 530),(zs "number" 531)]
noncomputable def Ahp:Obj:=zx "_law_draw" "_law_draw" (top 24)
noncomputable def zo204:Obj:=zc [(zs "_law_draw" 525),(zs "_law_draw" 526),(zs "/claim/cut.py" 527),(zi 98),(zi 2),(zi 0),(zi 0),(zi 3),(zr 277),(.bool true),(zi 181),(zr 278),.none,(zr 279),(zr 280),(zr 281),(zi 532),(zi 98),(zs "/claim/cut.py" 533)]
noncomputable def Ac8:Obj:=zf "_law_draw" "_law_draw" (top 24) (zs "law_belowpoints_k20_kept_points" 506) (zr 282)
noncomputable def zo206:Obj:=zt [(zs "seed" 538),(zs "way" 539),(zs "great" 540)]
noncomputable def zo207:Obj:=zx "_law_number" "_law_number" (top 25)
noncomputable def Acg:Obj:=zc [(zs "_law_number" 535),(zs "_law_number" 536),(zs "/claim/cut.py" 537),(zi 107),(zi 2),(zi 0),(zi 0),(zi 3),(zr 284),(.bool true),(zi 181),(zr 285),.none,(zr 286),(zr 287),(zr 288),(zi 541),(zi 107),(zs "/claim/cut.py" 542)]
noncomputable def zo209:Obj:=zf "_law_number" "_law_number" (top 25) (zs "law_belowpoints_k20_kept_points" 506) (zr 289)
noncomputable def Ag0:Obj:=zx "_law_names" "_law_names" (top 26)
noncomputable def zo211:Obj:=zc [(zs "_law_names" 544),(zs "_law_names" 545),(zs "/claim/cut.py" 546),(zi 114),(zi 2),(zi 0),(zi 0),(zi 3),(zr 291),(.bool true),(zi 181),(zr 292),.none,.none,.none,(zr 293),(zi 547),(zi 114),(zs "/claim/cut.py" 548)]
noncomputable def Ab1:Obj:=zf "_law_names" "_law_names" (top 26) (zs "law_belowpoints_k20_kept_points" 506) (zr 294)
noncomputable def zo213:Obj:=zt [(zs "caught" 553)]
noncomputable def zo214:Obj:=zx "_law_alone" "_law_alone" (top 27)
noncomputable def Adh:Obj:=zc [(zs "_law_alone" 550),(zs "_law_alone" 551),(zs "/claim/cut.py" 552),(zi 120),(zi 1),(zi 0),(zi 0),(zi 3),(zr 296),(.bool true),(zi 181),(zr 297),.none,(zr 298),(zr 299),(zr 300),(zi 554),(zi 120),(zs "/claim/cut.py" 555)]
noncomputable def zo216:Obj:=zf "_law_alone" "_law_alone" (top 27) (zs "law_belowpoints_k20_kept_points" 506) (zr 301)
noncomputable def Af3:Obj:=zt [(zs "kept" 560),(zs "word" 561),(zs "name" 562),(zs "place" 563),(zs "found" 564),(zs "caught" 565),(zs "e" 566)]
noncomputable def Af1:Obj:=zx "_law_done" "_law_done" (top 28)
noncomputable def zo219:Obj:=zc [(zs "_law_done" 557),(zs "_law_done" 558),(zs "/claim/cut.py" 559),(zi 124),(zi 4),(zi 0),(zi 0),(zi 3),(zr 303),(.bool true),(zi 181),(zr 304),.none,(zr 305),(zr 306),(zr 307),(zi 567),(zi 124),(zs "/claim/cut.py" 568)]
noncomputable def Abu:Obj:=zf "_law_done" "_law_done" (top 28) (zs "law_belowpoints_k20_kept_points" 506) (zr 308)
noncomputable def zo221:Obj:=zt [(zs "seed" 573),(zs "there" 574),(zs "way" 575),(zs "x" 576)]
noncomputable def zo222:Obj:=zx "_law_place" "_law_place" (top 29)
noncomputable def Abh:Obj:=zc [(zs "_law_place" 570),(zs "_law_place" 571),(zs "/claim/cut.py" 572),(zi 137),(zi 2),(zi 0),(zi 0),(zi 3),(zr 310),(.bool true),(zi 181),(zr 311),.none,(zr 312),(zr 313),(zr 314),(zi 577),(zi 137),(zs "/claim/cut.py" 578)]
noncomputable def zo224:Obj:=zf "_law_place" "_law_place" (top 29) (zs "law_belowpoints_k20_kept_points" 506) (zr 315)
noncomputable def Ah8:Obj:=zt [(zs "seed" 583),(zs "kept" 584),(zs "there" 585),(zs "names" 586),(zs "places" 587),(zs "name" 588),(zs "place" 589),(zs "word" 590),(zs "found" 591),(zs "caught" 592)]
noncomputable def Ah7:Obj:=zx "_law_turn" "_law_turn" (top 30)
noncomputable def zo227:Obj:=zc [(zs "_law_turn" 580),(zs "_law_turn" 581),(zs "/claim/cut.py" 582),(zi 143),(zi 5),(zi 0),(zi 0),(zi 3),(zr 317),(.bool true),(zi 181),(zr 318),.none,(zr 319),(zr 320),(zr 321),(zi 593),(zi 143),(zs "/claim/cut.py" 594)]
noncomputable def Ab2:Obj:=zf "_law_turn" "_law_turn" (top 30) (zs "law_belowpoints_k20_kept_points" 506) (zr 322)
noncomputable def Ag4:Obj:=zd [de P "__name__" 165 (zs "law_belowpoints_k20_kept_points" 506),de P "__doc__" 166 .none,de P "__package__" 167 .none,de P "__loader__" 168 (.builtin "__main__.__loader__#opaque"),de P "__spec__" 169 .none,de P "__annotations__" 170 (zr 6),de P "__builtins__" 171 (zr 4),de P "__file__" 173 (zs "/claim/cut.py" 172),de P "__cached__" 174 .none,de P "BelowError" 206 (zr 24),de P "NoPlace" 230 (zr 44),de P "NoAsk" 254 (zr 63),de P "NoPoints" 279 (zr 82),de P "NoCounts" 304 (zr 101),de P "NoName" 329 (zr 120),de P "lies_below" 337 (zr 127),de P "place_of" 344 (zr 134),de P "below_each" 352 (zr 139),de P "pairs_in_all" 359 (zr 146),de P "many_below" 365 (zr 151),de P "many_above" 371 (zr 156),de P "in_boxes" 379 (zr 161),de P "points_in" 385 (zr 166),de P "is_held" 393 (zr 173),de P "KeptPoints" 505 (zr 258),de P "_law_folded" 516 (zr 269),de P "_law_seed" 524 (zr 276),de P "_law_draw" 534 (zr 283),de P "_law_number" 543 (zr 290),de P "_law_names" 549 (zr 295),de P "_law_alone" 556 (zr 302),de P "_law_done" 569 (zr 309),de P "_law_place" 579 (zr 316),de P "_law_turn" 595 (zr 323),de P "_law_is_as" 601 (zr 328),de P "_law_pairs" 607 (zr 333),de P "_law_looked_right" 613 (zr 338),de P "law" 619 (zr 343)] 38
noncomputable def zo230:Obj:=zl [(zi 2),(zi 0),(zr 20),(zi 4),(zi 0),(zr 33),(zi 8),(zi 0),(zr 52),(zi 12),(zi 0),(zr 71),(zi 17),(zi 0),(zr 90),(zi 22),(zi 0),(zr 109),(zi 28),(zi 0),(zr 126),(zi 30),(zi 0),(zr 133),(zi 33),(zi 0),(zr 138),(zi 36),(zi 0),(zr 145),(zi 38),(zi 0),(zr 150),(zi 40),(zi 0),(zr 155),(zi 43),(zi 0),(zr 160),(zi 45),(zi 0),(zr 165),(zi 47),(zi 0),(zr 172),(zi 50),(zi 0),(zr 179),(zi 90),(zi 0),(zr 268),(zi 95),(zi 0),(zr 275),(zi 98),(zi 0),(zr 282),(zi 107),(zi 0),(zr 289),(zi 114),(zi 0),(zr 294),(zi 120),(zi 0),(zr 301),(zi 124),(zi 0),(zr 308),(zi 137),(zi 0),(zr 315),(zi 143),(zi 0),(zr 322),(zi 160),(zi 0),(zr 327),(zi 169),(zi 0),(zr 332),(zi 175),(zi 0),(zr 337),(zi 191),(zi 0),(zr 342)]
noncomputable def zo231:Obj:=zx "_law_is_as" "_law_is_as" (top 31)
noncomputable def Ahe:Obj:=zc [(zs "_law_is_as" 596),(zs "_law_is_as" 597),(zs "/claim/cut.py" 598),(zi 160),(zi 2),(zi 0),(zi 0),(zi 3),(zr 324),(.bool true),(zi 181),(zr 325),.none,.none,.none,(zr 326),(zi 599),(zi 160),(zs "/claim/cut.py" 600)]
noncomputable def zo233:Obj:=zf "_law_is_as" "_law_is_as" (top 31) (zs "law_belowpoints_k20_kept_points" 506) (zr 327)
noncomputable def Al2:Obj:=zx "_law_pairs" "_law_pairs" (top 32)
noncomputable def zo235:Obj:=zc [(zs "_law_pairs" 602),(zs "_law_pairs" 603),(zs "/claim/cut.py" 604),(zi 169),(zi 1),(zi 0),(zi 0),(zi 3),(zr 329),(.bool true),(zi 181),(zr 330),.none,.none,.none,(zr 331),(zi 605),(zi 169),(zs "/claim/cut.py" 606)]
noncomputable def Afk:Obj:=zf "_law_pairs" "_law_pairs" (top 32) (zs "law_belowpoints_k20_kept_points" 506) (zr 332)
noncomputable def zo237:Obj:=zx "_law_looked_right" "_law_looked_right" (top 33)
noncomputable def Ahw:Obj:=zc [(zs "_law_looked_right" 608),(zs "_law_looked_right" 609),(zs "/claim/cut.py" 610),(zi 175),(zi 4),(zi 0),(zi 0),(zi 3),(zr 334),(.bool true),(zi 181),(zr 335),.none,.none,.none,(zr 336),(zi 611),(zi 175),(zs "/claim/cut.py" 612)]
noncomputable def zo239:Obj:=zf "_law_looked_right" "_law_looked_right" (top 33) (zs "law_belowpoints_k20_kept_points" 506) (zr 337)
noncomputable def Al1:Obj:=zx "law" "law" (top 34)
noncomputable def zo241:Obj:=zc [(zs "law" 614),(zs "law" 615),(zs "/claim/cut.py" 616),(zi 191),(zi 1),(zi 0),(zi 0),(zi 3),(zr 339),(.bool true),(zi 181),(zr 340),.none,.none,.none,(zr 341),(zi 617),(zi 191),(zs "/claim/cut.py" 618)]
noncomputable def Aih:Obj:=zf "law" "law" (top 34) (zs "law_belowpoints_k20_kept_points" 506) (zr 342)
noncomputable def t_0:eJ:=zn (cN P) (zn (zo1 P) (zn (pO P) (zg zo7) (zg zo7)) (zn zo5 (zg zo9) (zg Oi))) (zn zo2 (zn zo4 (zg zo8) (zg zo8)) (zn zo6 (zg zo10) (zg zo12)))
noncomputable def t_1:eJ:=zn (cN P) (zn (zo1 P) (zn (Aqz P) (zn zo7 (zg Ql) (zg (Pu P))) (zn zo7 (zg zo8) (zg Qk))) (zn zo5 (zn zo9 (zg (Pz P)) (zg Sb)) (zn Oi (zg Rk) .nil))) (zn zo2 (zn zo4 (zn zo8 (zg zo16) (zg Arh)) (zn Are (zg zo18) .nil)) (zn zo6 (zn zo10 (zg zo7) (zg zo23)) (zn zo12 (zg zo7) .nil)))
noncomputable def t_2:eJ:=zn (cN P) (zn (zo1 P) (zn (Arp P) (zn zo7 (zn Ql (zg zo7) .nil) (zn (Pu P) (zg zo34) .nil)) (zn zo7 (zn zo8 (zg zo7) .nil) (zn Qk (zg (Q4 P)) .nil))) (zn zo5 (zn zo9 (zn (Pz P) (zg zo31) .nil) (zn Sb (zg zo36) .nil)) (zn Oi (zn Rk (zg zo33) .nil) (zn zo16 (zg Sw) .nil)))) (zn zo2 (zn zo4 (zn zo8 (zn zo16 (zg Ta) .nil) (zn Arn (zg Sv) .nil)) (zn Aqx (zn zo18 (zg zo8) .nil) (zn zo28 (zg zo38) .nil))) (zn zo6 (zn zo10 (zn zo7 (zg Ss) .nil) (zn zo23 (zg zo7) .nil)) (zn zo12 (zn zo7 (zg zo7) .nil) (zn (Rv P) (zg zo40) .nil))))
noncomputable def t_3:eJ:=zn (cN P) (zn (zo1 P) (zn (Aq8 P) (zn zo7 (zn Ql (zn zo7 (zg zo53) .nil) (zg zo28)) (zn (Pu P) (zg zo34) (zg zo8))) (zn zo7 (zn zo8 (zg zo7) (zg V3)) (zn Qk (zg (Q4 P)) (zg Wn)))) (zn zo5 (zn zo9 (zn (Pz P) (zn zo31 (zg zo55) .nil) (zg (Tc P))) (zn Sb (zg zo36) (zg zo7))) (zn Oi (zn Rk (zg zo33) (zg Vv)) (zn zo16 (zg Sw) (zg zo7))))) (zn zo2 (zn zo4 (zn zo8 (zn zo16 (zn Ta (zg Vd) .nil) (zg zo16)) (zn Arb (zg Sv) (zg zo48))) (zn Arw (zn zo18 (zg zo8) (zg zo46)) (zn zo28 (zg zo38) (zg zo51)))) (zn zo6 (zn zo10 (zn zo7 (zg Ss) (zg zo7)) (zn zo23 (zg zo7) (zg zo49))) (zn zo12 (zn zo7 (zg zo7) (zg zo7)) (zn (Rv P) (zg zo40) (zg (Tg P))))))
noncomputable def t_4:eJ:=zn (cN P) (zn (zo1 P) (zn (Aq4 P) (zn zo7 (zn Ql (zn zo7 (zg zo53) .nil) (zn zo28 (zg zo66) .nil)) (zn (Pu P) (zn zo34 (zg zo61) .nil) (zg zo8))) (zn zo7 (zn zo8 (zn zo7 (zg zo16) .nil) (zn V3 (zg W3) .nil)) (zn Qk (zn (Q4 P) (zg zo63) .nil) (zg Wn)))) (zn zo5 (zn zo9 (zn (Pz P) (zn zo31 (zg zo55) .nil) (zn (Tc P) (zg (Vx P)) .nil)) (zn Sb (zn zo36 (zg zo7) .nil) (zg zo7))) (zn Oi (zn Rk (zn zo33 (zg zo7) .nil) (zg Vv)) (zn zo16 (zn Sw (zg zo64) .nil) (zg zo7))))) (zn zo2 (zn zo4 (zn zo8 (zn zo16 (zn Ta (zg Vd) .nil) (zn zo16 (zg Wu) .nil)) (zn Aro (zn Sv (zg Yd) .nil) (zg zo48))) (zn Ard (zn zo18 (zn zo8 (zg (Vo P)) .nil) (zn zo46 (zg zo71) .nil)) (zn zo28 (zn zo38 (zg zo7) .nil) (zg zo51)))) (zn zo6 (zn zo10 (zn zo7 (zn Ss (zg zo28) .nil) (zn zo7 (zg zo69) .nil)) (zn zo23 (zn zo7 (zg zo8) .nil) (zg zo49))) (zn zo12 (zn zo7 (zn zo7 (zg Yc) .nil) (zg zo7)) (zn (Rv P) (zn zo40 (zg Ye) .nil) (zg (Tg P))))))
noncomputable def t_5:eJ:=zn (cN P) (zn (zo1 P) (zn (Ar3 P) (zn zo7 (zn Ql (zn zo7 (zg zo53) (zg zo7)) (zn zo28 (zg zo66) .nil)) (zn (Pu P) (zn zo34 (zg zo61) (zg zo87)) (zn zo8 (zg (Yg P)) .nil))) (zn zo7 (zn zo8 (zn zo7 (zg zo16) (zg Aa3)) (zn V3 (zg W3) .nil)) (zn Qk (zn (Q4 P) (zg zo63) .nil) (zn Wn (zg Y8) .nil)))) (zn zo5 (zn zo9 (zn (Pz P) (zn zo31 (zg zo55) (zg Aaf)) (zn (Tc P) (zg (Vx P)) .nil)) (zn Sb (zn zo36 (zg zo7) .nil) (zn zo7 (zg Aax) .nil))) (zn Oi (zn Rk (zn zo33 (zg zo7) (zg zo85)) (zn Vv (zg zo28) .nil)) (zn zo16 (zn Sw (zg zo64) .nil) (zn zo7 (zg zo8) .nil))))) (zn zo2 (zn zo4 (zn zo8 (zn zo16 (zn Ta (zg Vd) (zg zo80)) (zn zo16 (zg Wu) .nil)) (zn Aru (zn Sv (zg Yd) .nil) (zn zo48 (zg zo7) .nil))) (zn Ar0 (zn zo18 (zn zo8 (zg (Vo P)) (zg (W2 P))) (zn zo46 (zg zo71) .nil)) (zn zo28 (zn zo38 (zg zo7) .nil) (zn zo51 (zg zo7) .nil)))) (zn zo6 (zn zo10 (zn zo7 (zn Ss (zg zo28) (zg zo82)) (zn zo7 (zg zo69) .nil)) (zn zo23 (zn zo7 (zg zo8) .nil) (zn zo49 (zg zo77) .nil))) (zn zo12 (zn zo7 (zn zo7 (zg Yc) (zg Y2)) (zn zo7 (zg zo16) .nil)) (zn (Rv P) (zn zo40 (zg Ye) .nil) (zn (Tg P) (zg zo79) .nil)))))
noncomputable def t_6:eJ:=zn (cN P) (zn (zo1 P) (zn (Aqw P) (zn zo7 (zn Ql (zn zo7 (zn zo53 (zg Qp) .nil) (zg zo7)) (zn zo28 (zg zo66) (zg zo7))) (zn (Pu P) (zn zo34 (zg zo61) (zg zo87)) (zn zo8 (zg (Yg P)) (zg (Rt P))))) (zn zo7 (zn zo8 (zn zo7 (zg zo16) (zg Aa3)) (zn V3 (zg W3) (zg zo96))) (zn Qk (zn (Q4 P) (zg zo63) (zg zo7)) (zn Wn (zg Y8) (zg zo7))))) (zn zo5 (zn zo9 (zn (Pz P) (zn zo31 (zg zo55) (zg Aaf)) (zn (Tc P) (zg (Vx P)) (zg zo95))) (zn Sb (zn zo36 (zg zo7) (zg zo16)) (zn zo7 (zg Aax) (zg Tx)))) (zn Oi (zn Rk (zn zo33 (zg zo7) (zg zo85)) (zn Vv (zg zo28) (zg zo98))) (zn zo16 (zn Sw (zg zo64) (zg zo93)) (zn zo7 (zg zo8) (zg Ul)))))) (zn zo2 (zn zo4 (zn zo8 (zn zo16 (zn Ta (zg Vd) (zg zo80)) (zn zo16 (zg Wu) (zg zo8))) (zn zo90 (zn Sv (zg Yd) (zg zo28)) (zn zo48 (zg zo7) (zg zo101)))) (zn Aq3 (zn zo18 (zn zo8 (zg (Vo P)) (zg (W2 P))) (zn zo46 (zg zo71) (zg Y0))) (zn zo28 (zn zo38 (zg zo7) (zg Ad9)) (zn zo51 (zg zo7) (zg zo8))))) (zn zo6 (zn zo10 (zn zo7 (zn Ss (zg zo28) (zg zo82)) (zn zo7 (zg zo69) (zg zo7))) (zn zo23 (zn zo7 (zg zo8) (zg (Yz P))) (zn zo49 (zg zo77) (zg zo103)))) (zn zo12 (zn zo7 (zn zo7 (zg Yc) (zg Y2)) (zn zo7 (zg zo16) (zg Ael))) (zn (Rv P) (zn zo40 (zg Ye) (zg Aeg)) (zn (Tg P) (zg zo79) (zg zo105))))))
noncomputable def t_7:eJ:=zn (cN P) (zn (zo1 P) (zn (Apw P) (zn zo7 (zn Ql (zn zo7 (zn zo53 (zg Qp) .nil) (zn zo7 (zg Xd) .nil)) (zn zo28 (zn zo66 (zg zo7) .nil) (zg zo7))) (zn (Pu P) (zn zo34 (zn zo61 (zg zo7) .nil) (zn zo87 (zg zo7) .nil)) (zn zo8 (zn (Yg P) (zg U5) .nil) (zg (Rt P))))) (zn zo7 (zn zo8 (zn zo7 (zn zo16 (zg zo7) .nil) (zn Aa3 (zg zo8) .nil)) (zn V3 (zn W3 (zg zo7) .nil) (zg zo96))) (zn Qk (zn (Q4 P) (zn zo63 (zg Us) .nil) (zn zo7 (zg X3) .nil)) (zn Wn (zn Y8 (zg T7) .nil) (zg zo7))))) (zn zo5 (zn zo9 (zn (Pz P) (zn zo31 (zn zo55 (zg zo8) .nil) (zn Aaf (zg Ue) .nil)) (zn (Tc P) (zn (Vx P) (zg Tn) .nil) (zg zo95))) (zn Sb (zn zo36 (zn zo7 (zg Xp) .nil) (zn zo16 (zg Xe) .nil)) (zn zo7 (zn Aax (zg zo8) .nil) (zg Tx)))) (zn Oi (zn Rk (zn zo33 (zn zo7 (zg Vb) .nil) (zn zo85 (zg Tq) .nil)) (zn Vv (zn zo28 (zg Xl) .nil) (zg zo98))) (zn zo16 (zn Sw (zn zo64 (zg zo8) .nil) (zn zo93 (zg Uu) .nil)) (zn zo7 (zn zo8 (zg zo7) .nil) (zg Ul)))))) (zn zo2 (zn zo4 (zn zo8 (zn zo16 (zn Ta (zn Vd (zg zo7) .nil) (zn zo80 (zg zo127) .nil)) (zn zo16 (zn Wu (zg zo117) .nil) (zg zo8))) (zn zo90 (zn Sv (zn Yd (zg zo8) .nil) (zn zo28 (zg zo8) .nil)) (zn zo48 (zn zo7 (zg zo7) .nil) (zg zo101)))) (zn Aor (zn zo18 (zn zo8 (zn (Vo P) (zg zo110) .nil) (zn (W2 P) (zg zo129) .nil)) (zn zo46 (zn zo71 (zg zo8) .nil) (zg Y0))) (zn zo28 (zn zo38 (zn zo7 (zg zo7) .nil) (zn Ad9 (zg zo134) .nil)) (zn zo51 (zn zo7 (zg zo125) .nil) (zg zo8))))) (zn zo6 (zn zo10 (zn zo7 (zn Ss (zn zo28 (zg zo109) .nil) (zn zo82 (zg zo7) .nil)) (zn zo7 (zn zo69 (zg zo119) .nil) (zg zo7))) (zn zo23 (zn zo7 (zn zo8 (zg zo114) .nil) (zn (Yz P) (zg zo7) .nil)) (zn zo49 (zn zo77 (zg zo123) .nil) (zg zo103)))) (zn zo12 (zn zo7 (zn zo7 (zn Yc (zg zo112) .nil) (zn Y2 (zg zo131) .nil)) (zn zo7 (zn zo16 (zg zo121) .nil) (zg Ael))) (zn (Rv P) (zn zo40 (zn Ye (zg zo116) .nil) (zg Aeg)) (zn (Tg P) (zn zo79 (zg zo8) .nil) (zg zo105))))))
noncomputable def t_8:eJ:=zn (cN P) (zn (zo1 P) (zn (Aov P) (zn zo7 (zn Ql (zn zo7 (zn zo53 (zn Qp (zg zo184) .nil) (zg zo7)) (zn zo7 (zg Xd) (zg zo7))) (zn zo28 (zn zo66 (zg zo7) (zg zo156)) (zn zo7 (zg zo16) (zg zo174)))) (zn (Pu P) (zn zo34 (zn zo61 (zg zo7) (zg zo151)) (zn zo87 (zg zo7) (zg zo8))) (zn zo8 (zn (Yg P) (zg U5) (zg zo161)) (zn (Rt P) (zg zo142) (zg zo179))))) (zn zo7 (zn zo8 (zn zo7 (zn zo16 (zn zo7 (zg Aby) .nil) (zg zo7)) (zn Aa3 (zg zo8) (zg zo167))) (zn V3 (zn W3 (zg zo7) (zg zo158)) (zn zo96 (zg zo140) (zg zo177)))) (zn Qk (zn (Q4 P) (zn zo63 (zg Us) (zg zo8)) (zn zo7 (zg X3) (zg zo172))) (zn Wn (zn Y8 (zg T7) (zg zo7)) (zn zo7 (zg zo145) (zg zo181)))))) (zn zo5 (zn zo9 (zn (Pz P) (zn zo31 (zn zo55 (zn zo8 (zg (X9 P)) .nil) (zg zo148)) (zn Aaf (zg Ue) (zg zo166))) (zn (Tc P) (zn (Vx P) (zg Tn) (zg zo7)) (zn zo95 (zg zo7) (zg zo175)))) (zn Sb (zn zo36 (zn zo7 (zg Xp) (zg zo153)) (zn zo16 (zg Xe) (zg zo7))) (zn zo7 (zn Aax (zg zo8) (zg zo8)) (zn Tx (zg zo143) (zg zo7))))) (zn Oi (zn Rk (zn zo33 (zn zo7 (zn Vb (zg Acn) .nil) (zg zo150)) (zn zo85 (zg Tq) (zg zo169))) (zn Vv (zn zo28 (zg Xl) (zg zo159)) (zn zo98 (zg zo7) (zg zo8)))) (zn zo16 (zn Sw (zn zo64 (zg zo8) (zg zo7)) (zn zo93 (zg Uu) (zg zo7))) (zn zo7 (zn zo8 (zg zo7) (zg zo164)) (zn Ul (zg zo8) (zg zo182))))))) (zn zo2 (zn zo4 (zn zo8 (zn zo16 (zn Ta (zn Vd (zn zo7 (zg Acx) .nil) (zg Acv)) (zn zo80 (zg zo127) (zg zo8))) (zn zo16 (zn Wu (zg zo117) (zg Xw)) (zn zo8 (zg (Xg P)) (zg zo7)))) (zn zo90 (zn Sv (zn Yd (zg zo8) (zg Ym)) (zn zo28 (zg zo8) (zg Acl))) (zn zo48 (zn zo7 (zg zo7) (zg zo7)) (zn zo101 (zg zo7) (zg Yw))))) (zn Apn (zn zo18 (zn zo8 (zn (Vo P) (zn zo110 (zg zo189) .nil) (zg zo8)) (zn (W2 P) (zg zo129) (zg Yn))) (zn zo46 (zn zo71 (zg zo8) (zg zo7)) (zn Y0 (zg Abn) (zg zo7)))) (zn zo28 (zn zo38 (zn zo7 (zg zo7) (zg Acq)) (zn Ad9 (zg zo134) (zg X5))) (zn zo51 (zn zo7 (zg zo125) (zg Ab5)) (zn zo8 (zg zo7) (zg zo7)))))) (zn zo6 (zn zo10 (zn zo7 (zn Ss (zn zo28 (zn zo109 (zg zo187) .nil) (zg Xr)) (zn zo82 (zg zo7) (zg zo7))) (zn zo7 (zn zo69 (zg zo119) (zg zo8)) (zn zo7 (zg Ab4) (zg Yh)))) (zn zo23 (zn zo7 (zn zo8 (zg zo114) (zg zo7)) (zn (Yz P) (zg zo7) (zg Ac6))) (zn zo49 (zn zo77 (zg zo123) (zg Ab8)) (zn zo103 (zg Xm) (zg zo8))))) (zn zo12 (zn zo7 (zn zo7 (zn Yc (zn zo112 (zg zo191) .nil) (zg zo7)) (zn Y2 (zg zo131) (zg zo7))) (zn zo7 (zn zo16 (zg zo121) (zg Yq)) (zn Ael (zg zo8) (zg Abq)))) (zn (Rv P) (zn zo40 (zn Ye (zg zo116) (zg Abl)) (zn Aeg (zg zo7) (zg zo8))) (zn (Tg P) (zn zo79 (zg zo8) (zg W7)) (zn zo105 (zg Ab6) (zg Yx)))))))
noncomputable def t_9:eJ:=zn (cN P) (zn (zo1 P) (zn (Aqb P) (zn zo7 (zn Ql (zn zo7 (zn zo53 (zn Qp (zg zo184) .nil) (zn zo7 (zg Ah8) .nil)) (zn zo7 (zn Xd (zg zo7) .nil) (zg zo7))) (zn zo28 (zn zo66 (zn zo7 (zg zo8) .nil) (zg zo156)) (zn zo7 (zn zo16 (zg zo7) .nil) (zg zo174)))) (zn (Pu P) (zn zo34 (zn zo61 (zn zo7 (zg zo7) .nil) (zg zo151)) (zn zo87 (zn zo7 (zg Ab1) .nil) (zg zo8))) (zn zo8 (zn (Yg P) (zn U5 (zg Afh) .nil) (zg zo161)) (zn (Rt P) (zn zo142 (zg zo8) .nil) (zg zo179))))) (zn zo7 (zn zo8 (zn zo7 (zn zo16 (zn zo7 (zg Aby) .nil) (zn zo7 (zg Ab2) .nil)) (zn Aa3 (zn zo8 (zg zo7) .nil) (zg zo167))) (zn V3 (zn W3 (zn zo7 (zg Abt) .nil) (zg zo158)) (zn zo96 (zn zo140 (zg Af1) .nil) (zg zo177)))) (zn Qk (zn (Q4 P) (zn zo63 (zn Us (zg Ah0) .nil) (zg zo8)) (zn zo7 (zn X3 (zg zo7) .nil) (zg zo172))) (zn Wn (zn Y8 (zn T7 (zg Ac8) .nil) (zg zo7)) (zn zo7 (zn zo145 (zg Abh) .nil) (zg zo181)))))) (zn zo5 (zn zo9 (zn (Pz P) (zn zo31 (zn zo55 (zn zo8 (zg (X9 P)) .nil) (zn zo148 (zg Ah7) .nil)) (zn Aaf (zn Ue (zg Acg) .nil) (zg zo166))) (zn (Tc P) (zn (Vx P) (zn Tn (zg zo7) .nil) (zg zo7)) (zn zo95 (zn zo7 (zg Af3) .nil) (zg zo175)))) (zn Sb (zn zo36 (zn zo7 (zn Xp (zg Aii) .nil) (zg zo153)) (zn zo16 (zn Xe (zg zo8) .nil) (zg zo7))) (zn zo7 (zn Aax (zn zo8 (zg Ahp) .nil) (zg zo8)) (zn Tx (zn zo143 (zg zo7) .nil) (zg zo7))))) (zn Oi (zn Rk (zn zo33 (zn zo7 (zn Vb (zg Acn) .nil) (zg zo150)) (zn zo85 (zn Tq (zg Ag0) .nil) (zg zo169))) (zn Vv (zn zo28 (zn Xl (zg zo7) .nil) (zg zo159)) (zn zo98 (zn zo7 (zg Abu) .nil) (zg zo8)))) (zn zo16 (zn Sw (zn zo64 (zn zo8 (zg Adf) .nil) (zg zo7)) (zn zo93 (zn Uu (zg Adh) .nil) (zg zo7))) (zn zo7 (zn zo8 (zn zo7 (zg zo8) .nil) (zg zo164)) (zn Ul (zn zo8 (zg zo7) .nil) (zg zo182))))))) (zn zo2 (zn zo4 (zn zo8 (zn zo16 (zn Ta (zn Vd (zn zo7 (zg Acx) .nil) (zn Acv (zg zo7) .nil)) (zn zo80 (zn zo127 (zg zo207) .nil) (zg zo8))) (zn zo16 (zn Wu (zn zo117 (zg zo198) .nil) (zg Xw)) (zn zo8 (zn (Xg P) (zg zo8) .nil) (zg zo7)))) (zn zo90 (zn Sv (zn Yd (zn zo8 (zg zo8) .nil) (zg Ym)) (zn zo28 (zn zo8 (zg zo7) .nil) (zg Acl))) (zn zo48 (zn zo7 (zn zo7 (zg zo7) .nil) (zg zo7)) (zn zo101 (zn zo7 (zg zo221) .nil) (zg Yw))))) (zn Ap3 (zn zo18 (zn zo8 (zn (Vo P) (zn zo110 (zg zo189) .nil) (zg zo8)) (zn (W2 P) (zn zo129 (zg zo8) .nil) (zg Yn))) (zn zo46 (zn zo71 (zn zo8 (zg zo201) .nil) (zg zo7)) (zn Y0 (zn Abn (zg zo219) .nil) (zg zo7)))) (zn zo28 (zn zo38 (zn zo7 (zn zo7 (zg zo196) .nil) (zg Acq)) (zn Ad9 (zn zo134 (zg zo214) .nil) (zg X5))) (zn zo51 (zn zo7 (zn zo125 (zg zo7) .nil) (zg Ab5)) (zn zo8 (zn zo7 (zg zo224) .nil) (zg zo7)))))) (zn zo6 (zn zo10 (zn zo7 (zn Ss (zn zo28 (zn zo109 (zg zo187) .nil) (zn Xr (zg zo227) .nil)) (zn zo82 (zn zo7 (zg zo209) .nil) (zg zo7))) (zn zo7 (zn zo69 (zn zo119 (zg zo199) .nil) (zg zo8)) (zn zo7 (zn Ab4 (zg zo7) .nil) (zg Yh)))) (zn zo23 (zn zo7 (zn zo8 (zn zo114 (zg zo7) .nil) (zg zo7)) (zn (Yz P) (zn zo7 (zg zo213) .nil) (zg Ac6))) (zn zo49 (zn zo77 (zn zo123 (zg zo204) .nil) (zg Ab8)) (zn zo103 (zn Xm (zg zo222) .nil) (zg zo8))))) (zn zo12 (zn zo7 (zn zo7 (zn Yc (zn zo112 (zg zo191) .nil) (zg zo7)) (zn Y2 (zn zo131 (zg zo211) .nil) (zg zo7))) (zn zo7 (zn zo16 (zn zo121 (zg zo8) .nil) (zg Yq)) (zn Ael (zn zo8 (zg zo7) .nil) (zg Abq)))) (zn (Rv P) (zn zo40 (zn Ye (zn zo116 (zg zo7) .nil) (zg Abl)) (zn Aeg (zn zo7 (zg zo216) .nil) (zg zo8))) (zn (Tg P) (zn zo79 (zn zo8 (zg zo206) .nil) (zg W7)) (zn zo105 (zn Ab6 (zg zo8) .nil) (zg Yx)))))))
noncomputable def Aoz:eJ:=zn (cN P) (zn (zo1 P) (zn (Ag4 P) (zn zo7 (zn Ql (zn zo7 (zn zo53 (zn Qp (zg zo184) .nil) (zn zo7 (zg Ah8) .nil)) (zn zo7 (zn Xd (zg zo7) .nil) (zg zo7))) (zn zo28 (zn zo66 (zn zo7 (zg zo8) .nil) (zn zo156 (zg zo8) .nil)) (zn zo7 (zn zo16 (zg zo7) .nil) (zg zo174)))) (zn (Pu P) (zn zo34 (zn zo61 (zn zo7 (zg zo7) .nil) (zn zo151 (zg Ahe) .nil)) (zn zo87 (zn zo7 (zg Ab1) .nil) (zg zo8))) (zn zo8 (zn (Yg P) (zn U5 (zg Afh) .nil) (zn zo161 (zg Aih) .nil)) (zn (Rt P) (zn zo142 (zg zo8) .nil) (zg zo179))))) (zn zo7 (zn zo8 (zn zo7 (zn zo16 (zn zo7 (zg Aby) .nil) (zn zo7 (zg Ab2) .nil)) (zn Aa3 (zn zo8 (zg zo7) .nil) (zg zo167))) (zn V3 (zn W3 (zn zo7 (zg Abt) .nil) (zn zo158 (zg zo7) .nil)) (zn zo96 (zn zo140 (zg Af1) .nil) (zg zo177)))) (zn Qk (zn (Q4 P) (zn zo63 (zn Us (zg Ah0) .nil) (zn zo8 (zg Al2) .nil)) (zn zo7 (zn X3 (zg zo7) .nil) (zg zo172))) (zn Wn (zn Y8 (zn T7 (zg Ac8) .nil) (zg zo7)) (zn zo7 (zn zo145 (zg Abh) .nil) (zg zo181)))))) (zn zo5 (zn zo9 (zn (Pz P) (zn zo31 (zn zo55 (zn zo8 (zg (X9 P)) .nil) (zn zo148 (zg Ah7) .nil)) (zn Aaf (zn Ue (zg Acg) .nil) (zg zo166))) (zn (Tc P) (zn (Vx P) (zn Tn (zg zo7) .nil) (zn zo7 (zg Ahw) .nil)) (zn zo95 (zn zo7 (zg Af3) .nil) (zg zo175)))) (zn Sb (zn zo36 (zn zo7 (zn Xp (zg Aii) .nil) (zn zo153 (zg zo7) .nil)) (zn zo16 (zn Xe (zg zo8) .nil) (zg zo7))) (zn zo7 (zn Aax (zn zo8 (zg Ahp) .nil) (zg zo8)) (zn Tx (zn zo143 (zg zo7) .nil) (zg zo7))))) (zn Oi (zn Rk (zn zo33 (zn zo7 (zn Vb (zg Acn) .nil) (zn zo150 (zg zo8) .nil)) (zn zo85 (zn Tq (zg Ag0) .nil) (zg zo169))) (zn Vv (zn zo28 (zn Xl (zg zo7) .nil) (zn zo159 (zg Al1) .nil)) (zn zo98 (zn zo7 (zg Abu) .nil) (zg zo8)))) (zn zo16 (zn Sw (zn zo64 (zn zo8 (zg Adf) .nil) (zn zo7 (zg Afk) .nil)) (zn zo93 (zn Uu (zg Adh) .nil) (zg zo7))) (zn zo7 (zn zo8 (zn zo7 (zg zo8) .nil) (zg zo164)) (zn Ul (zn zo8 (zg zo7) .nil) (zg zo182))))))) (zn zo2 (zn zo4 (zn zo8 (zn zo16 (zn Ta (zn Vd (zn zo7 (zg Acx) .nil) (zn Acv (zg zo7) .nil)) (zn zo80 (zn zo127 (zg zo207) .nil) (zg zo8))) (zn zo16 (zn Wu (zn zo117 (zg zo198) .nil) (zn Xw (zg zo237) .nil)) (zn zo8 (zn (Xg P) (zg zo8) .nil) (zg zo7)))) (zn zo90 (zn Sv (zn Yd (zn zo8 (zg zo8) .nil) (zn Ym (zg zo233) .nil)) (zn zo28 (zn zo8 (zg zo7) .nil) (zg Acl))) (zn zo48 (zn zo7 (zn zo7 (zg zo7) .nil) (zg zo7)) (zn zo101 (zn zo7 (zg zo221) .nil) (zg Yw))))) (zn zo230 (zn zo18 (zn zo8 (zn (Vo P) (zn zo110 (zg zo189) .nil) (zn zo8 (zg zo7) .nil)) (zn (W2 P) (zn zo129 (zg zo8) .nil) (zg Yn))) (zn zo46 (zn zo71 (zn zo8 (zg zo201) .nil) (zn zo7 (zg zo8) .nil)) (zn Y0 (zn Abn (zg zo219) .nil) (zg zo7)))) (zn zo28 (zn zo38 (zn zo7 (zn zo7 (zg zo196) .nil) (zn Acq (zg zo235) .nil)) (zn Ad9 (zn zo134 (zg zo214) .nil) (zg X5))) (zn zo51 (zn zo7 (zn zo125 (zg zo7) .nil) (zg Ab5)) (zn zo8 (zn zo7 (zg zo224) .nil) (zg zo7)))))) (zn zo6 (zn zo10 (zn zo7 (zn Ss (zn zo28 (zn zo109 (zg zo187) .nil) (zn Xr (zg zo227) .nil)) (zn zo82 (zn zo7 (zg zo209) .nil) (zg zo7))) (zn zo7 (zn zo69 (zn zo119 (zg zo199) .nil) (zn zo8 (zg zo239) .nil)) (zn zo7 (zn Ab4 (zg zo7) .nil) (zg Yh)))) (zn zo23 (zn zo7 (zn zo8 (zn zo114 (zg zo7) .nil) (zn zo7 (zg zo8) .nil)) (zn (Yz P) (zn zo7 (zg zo213) .nil) (zg Ac6))) (zn zo49 (zn zo77 (zn zo123 (zg zo204) .nil) (zg Ab8)) (zn zo103 (zn Xm (zg zo222) .nil) (zg zo8))))) (zn zo12 (zn zo7 (zn zo7 (zn Yc (zn zo112 (zg zo191) .nil) (zn zo7 (zg zo231) .nil)) (zn Y2 (zn zo131 (zg zo211) .nil) (zg zo7))) (zn zo7 (zn zo16 (zn zo121 (zg zo8) .nil) (zn Yq (zg zo241) .nil)) (zn Ael (zn zo8 (zg zo7) .nil) (zg Abq)))) (zn (Rv P) (zn zo40 (zn Ye (zn zo116 (zg zo7) .nil) (zn Abl (zg zo7) .nil)) (zn Aeg (zn zo7 (zg zo216) .nil) (zg zo8))) (zn (Tg P) (zn zo79 (zn zo8 (zg zo206) .nil) (zg W7)) (zn zo105 (zn Ab6 (zg zo8) .nil) (zg Yx)))))))
noncomputable def hA:Heap:=⟨⟨[(cN P),(zo1 P),zo2,(pO P),zo4,zo5,zo6,zo7,zo8,zo9,zo10,zo7,zo8,Oi,zo12]⟩,{}⟩
noncomputable def hZ:Heap:=⟨⟨[(cN P),(zo1 P),zo2,(Ag4 P),zo4,zo5,zo6,zo7,zo8,zo9,zo10,zo7,zo230,Oi,zo12,Ql,zo16,(Pz P),zo7,zo8,zo18,Rk,zo7,(Pu P),zo90,Sb,zo23,Qk,zo28,zo16,(Rv P),zo7,Ta,zo31,Ss,zo7,zo8,zo33,zo7,zo34,Sv,zo36,zo7,(Q4 P),zo38,Sw,zo40,zo28,zo16,(Tc P),zo7,V3,zo46,Vv,zo7,zo8,zo48,zo7,zo49,Wn,zo51,zo7,(Tg P),zo53,Vd,zo55,zo28,zo16,(Vo P),zo7,Yc,zo61,Yd,zo7,zo8,zo63,zo7,zo64,Ye,zo66,Wu,(Vx P),zo69,W3,zo71,zo28,zo16,(Yg P),zo7,Aax,zo77,Y8,zo7,zo8,zo79,zo7,zo80,Aaf,zo82,Aa3,(W2 P),zo85,Y2,zo87,zo28,zo16,(Yz P),zo7,Ad9,zo93,Aeg,zo7,zo8,zo95,zo7,zo96,Y0,zo98,Ael,(Rt P),zo101,Tx,zo103,zo7,zo8,Ul,zo105,Qp,zo7,zo8,zo109,zo7,zo110,Vb,zo112,zo7,zo8,Xp,zo114,Us,zo7,zo8,zo116,zo7,zo117,Tn,zo119,zo7,zo8,Xl,zo121,U5,zo7,zo8,zo123,T7,zo125,zo7,zo8,Xd,zo127,Ue,zo7,zo8,zo129,Tq,zo131,zo7,zo8,Xe,zo7,X3,zo134,Uu,zo7,zo16,(Xg P),zo7,Ab4,zo140,Abn,zo7,zo8,zo142,zo7,zo143,Xm,zo145,zo7,zo8,Ab6,zo7,Acv,zo148,Xr,zo7,zo8,zo150,zo7,zo151,Ym,zo153,zo7,zo8,Acq,zo7,Abl,zo156,Xw,zo7,zo8,zo158,zo7,zo159,Yq,zo161,zo7,zo8,Ab8,zo7,Ab5,zo164,W7,zo7,zo8,zo166,zo7,zo167,Yn,zo169,zo7,zo8,Acl,zo7,Ac6,zo172,X5,zo7,zo8,zo174,zo7,zo175,Yh,zo177,zo7,zo8,Abq,zo179,Yw,zo7,zo8,zo181,zo7,zo182,Yx,zo184,Acx,(X9 P),zo187,Aby,zo189,Acn,zo191,zo7,zo8,Aii,zo7,Ah0,zo196,Adf,zo7,zo8,zo198,zo7,zo199,Abt,zo201,zo7,zo8,Afh,zo7,Ahp,zo204,Ac8,zo7,zo8,zo206,zo7,zo207,Acg,zo209,zo7,zo8,Ag0,zo211,Ab1,zo7,zo8,zo213,zo7,zo214,Adh,zo216,zo7,zo8,Af3,zo7,Af1,zo219,Abu,zo7,zo8,zo221,zo7,zo222,Abh,zo224,zo7,zo8,Ah8,zo7,Ah7,zo227,Ab2,zo7,zo8,zo231,Ahe,zo233,zo7,zo8,Al2,zo235,Afk,zo7,zo8,zo237,Ahw,zo239,zo7,zo8,Al1,zo241,Aih]⟩,{}⟩
abbrev pp:bN:=PySem.Challenge.pw_belowpoints_k20_kept_points
noncomputable def q0:bN:={ pp with main:={ pp.main with body:=[1,2,3,4,5,6,8,9,11,12,13,14,16,17,18,20,22,23,24,25,26,27,28,29,30,31,32,33,34].map top } }
noncomputable def ev:Env:={ scope:=pp.main.scope,locals:=mainNs,globals:=mainNs,cells:=[],code:=(.ref 13),frame:=some 14 }
abbrev bd:List Stmt:=PySem.W.behindTheImports pp
abbrev cE:Code:=.body bd ev
abbrev tB:List Frame:=[jA ⟨0,0,0,0⟩]
noncomputable def sl(i j:Nat):List Stmt:=(bd.drop i).take j
theorem Apc(w:bW)(os:fK):PySem.W.topGo cJ pp w 11 (some (.ref 6)) 12 ⟨eE w.params,⟨[]⟩,kP,lK,os⟩ (pZ pp)=some (⟨hA w.params,⟨[]⟩,{},187,os⟩,⟨denote cJ cE,cE,⟨0,0,0,0⟩,tB⟩):=by
 rw[PySem.W.Fast.te15667345088766844465,bG,PySem.W.Fast.te11892475500146522536];kernel_rfl
theorem Aiw(w:bW)(os:fK):qM cJ pp w 11 (some (.ref 6)) 1 1 ⟨hA w.params,⟨[]⟩,{},187,os⟩ (qA bd ev cE ⟨0,0,0,0⟩ tB)=some (.next,nR ⟨t_0 w.params,15,{},⟨[]⟩,{},187,os⟩,cE,⟨0,0,0,0⟩):=by
 rw[PySem.W.Fast.te14374325043358763698,bG];kernel_rfl
theorem r_0(w:bW)(os:fK):dU cJ pp w 11 (some (.ref 6)) 1 196 ⟨t_0 w.params,15,{},⟨[]⟩,{},187,os⟩ (dI (sl 0 2) ev cE ⟨0,0,0,0⟩ tB)=some (.next,⟨t_1 w.params,28,{},⟨[]⟩,{},207,os⟩,cE,⟨2,0,3,8⟩):=by
 rw[bP,bG];kernel_rfl
theorem r_1(w:bW)(os:fK):dU cJ pp w 11 (some (.ref 6)) 1 245 ⟨t_1 w.params,28,{},⟨[]⟩,{},207,os⟩ (dI (sl 2 1) ev cE ⟨2,0,3,8⟩ tB)=some (.next,⟨t_2 w.params,47,{},⟨[]⟩,{},231,os⟩,cE,⟨4,0,7,39⟩):=by
 rw[bP,bG];kernel_rfl
theorem r_2(w:bW)(os:fK):dU cJ pp w 11 (some (.ref 6)) 1 245 ⟨t_2 w.params,47,{},⟨[]⟩,{},231,os⟩ (dI (sl 3 1) ev cE ⟨4,0,7,39⟩ tB)=some (.next,⟨t_3 w.params,66,{},⟨[]⟩,{},255,os⟩,cE,⟨8,0,11,39⟩):=by
 rw[bP,bG];kernel_rfl
theorem r_3(w:bW)(os:fK):dU cJ pp w 11 (some (.ref 6)) 1 246 ⟨t_3 w.params,66,{},⟨[]⟩,{},255,os⟩ (dI (sl 4 1) ev cE ⟨8,0,11,39⟩ tB)=some (.next,⟨t_4 w.params,85,{},⟨[]⟩,{},280,os⟩,cE,⟨12,0,16,22⟩):=by
 rw[bP,bG];kernel_rfl
theorem r_4(w:bW)(os:fK):dU cJ pp w 11 (some (.ref 6)) 1 246 ⟨t_4 w.params,85,{},⟨[]⟩,{},280,os⟩ (dI (sl 5 1) ev cE ⟨12,0,16,22⟩ tB)=some (.next,⟨t_5 w.params,104,{},⟨[]⟩,{},305,os⟩,cE,⟨17,0,21,22⟩):=by
 rw[bP,bG];kernel_rfl
theorem r_5(w:bW)(os:fK):dU cJ pp w 11 (some (.ref 6)) 1 281 ⟨t_5 w.params,104,{},⟨[]⟩,{},305,os⟩ (dI (sl 6 3) ev cE ⟨17,0,21,22⟩ tB)=some (.next,⟨t_6 w.params,128,{},⟨[]⟩,{},338,os⟩,cE,⟨28,0,29,87⟩):=by
 rw[bP,bG];kernel_rfl
theorem r_6(w:bW)(os:fK):dU cJ pp w 11 (some (.ref 6)) 1 246 ⟨t_6 w.params,128,{},⟨[]⟩,{},338,os⟩ (dI (sl 9 11) ev cE ⟨28,0,29,87⟩ tB)=some (.next,⟨t_7 w.params,174,{},⟨[]⟩,{},396,os⟩,cE,⟨49,0,49,8⟩):=by
 rw[bP,bG];kernel_rfl
theorem r_7(w:bW)(os:fK):dU cJ pp w 11 (some (.ref 6)) 1 542 ⟨t_7 w.params,174,{},⟨[]⟩,{},396,os⟩ (dI (sl 20 1) ev cE ⟨49,0,49,8⟩ tB)=some (.next,⟨t_8 w.params,263,{},⟨[]⟩,{},506,os⟩,cE,⟨50,0,88,30⟩):=by
 rw[bP,bG];kernel_rfl
theorem r_8(w:bW)(os:fK):dU cJ pp w 11 (some (.ref 6)) 1 294 ⟨t_8 w.params,263,{},⟨[]⟩,{},506,os⟩ (dI (sl 21 10) ev cE ⟨50,0,88,30⟩ tB)=some (.next,⟨t_9 w.params,324,{},⟨[]⟩,{},596,os⟩,cE,⟨143,0,159,24⟩):=by
 rw[bP,bG];kernel_rfl
theorem r_9(w:bW)(os:fK):dU cJ pp w 11 (some (.ref 6)) 1 105 ⟨t_9 w.params,324,{},⟨[]⟩,{},596,os⟩ (dI (sl 31 4) ev cE ⟨143,0,159,24⟩ tB)=some (.next,⟨Aoz w.params,344,{},⟨[]⟩,{},620,os⟩,cE,⟨191,0,213,87⟩):=by
 rw[bP,bG];kernel_rfl
theorem Ao7(w:bW)(os:fK):kQ cJ pp w 11 (some (.ref 6)) 2 (nR ⟨Aoz w.params,344,{},⟨[]⟩,{},620,os⟩) (qN [] ev cE ⟨191,0,213,87⟩ tB)=some ⟨hZ w.params,⟨[]⟩,{},620,os⟩:=by
 rw[PySem.W.Fast.te14082659384304107361,bG];kernel_rfl
theorem bdE:bd=(sl 0 2++(sl 2 1++(sl 3 1++(sl 4 1++(sl 5 1++(sl 6 3++(sl 9 11++(sl 20 1++(sl 21 10++(sl 31 4++[])))))))))):=by kernel_rfl
theorem Alb{tb:String->Option lF}{p:bN}{w:bW}{n₀:Nat}{ann:Option aE}{env:Env}{q:Pos}{n N:Nat}{s s1 r:aI}{b b1:List Stmt}{c:Code}{pos p1:Pos}(hb:b=b1)(h:qM tb p w n₀ ann 1 n s (qA b env c pos [jA q])=some (.next,s1,c,p1))(k:kQ tb p w n₀ ann N s1 (qN b1 env c p1 [jA q])=some r):kQ tb p w n₀ ann (n+N) s ⟨denote tb (.body b env),c,pos,[jA q]⟩=some r:=by
 subst hb;exact PySem.W.piece_block h k
theorem Ao2(w:bW)(os:fK):kQ cJ pp w 11 (some (.ref 6)) (12+(1+(196+(245+(245+(246+(246+(281+(246+(542+(294+(105+2)))))))))))) ⟨eE w.params,⟨[]⟩,kP,lK,os⟩ (pZ pp)=some ⟨hZ w.params,⟨[]⟩,{},620,os⟩:=
 PySem.W.go_top (Apc w os) (Alb bdE (Aiw w os) (dC (dD (r_0 w os)) (dC (dD (r_1 w os)) (dC (dD (r_2 w os)) (dC (dD (r_3 w os)) (dC (dD (r_4 w os)) (dC (dD (r_5 w os)) (dC (dD (r_6 w os)) (dC (dD (r_7 w os)) (dC (dD (r_8 w os)) (dC (dD (r_9 w os)) (Ao7 w os))))))))))))
theorem Aog:∀ w:bW,(PySem.W.fencedOpening cJ pp w 5398).map (fun s=>(s.heap,s.gens,s.drawn,s.toks))=some (eE w.params,Array.mk [],kP,lK):=
 PySem.W.boot_open (by kernel_rfl) (by decide) (fun s=>by kernel_rfl)
theorem Aoj(w:bW):((eE w.params).isNs aN&&(Array.mk []:Array kC).size == 0,(eE w.params).objs.size,(eE w.params).nsMap aN "__annotations__")=(true,11,(some (.ref 6))):=by
 rw[PySem.W.Fast.te8920871248978507458];kernel_rfl
noncomputable def K0(P:nB):aC:=(nat_lit 117,zo98)::(nat_lit 127,Qp)::(nat_lit 134,zo112)::(nat_lit 139,Us)::(nat_lit 146,zo119)::(nat_lit 151,U5)::(nat_lit 156,zo125)::(nat_lit 161,Ue)::(nat_lit 166,zo131)::(nat_lit 173,Uu)::(nat_lit 187,zo145)::(nat_lit 194,Xr)::(nat_lit 201,zo153)::(nat_lit 208,Xw)::(nat_lit 215,zo161)::(nat_lit 222,W7)::(nat_lit 229,zo169)::(nat_lit 236,X5)::(nat_lit 243,zo177)::(nat_lit 248,Yw)::(nat_lit 255,zo184)::(nat_lit 269,Adf)::(nat_lit 276,zo201)::(nat_lit 283,Ac8)::(nat_lit 290,zo209)::(nat_lit 295,Ab1)::(nat_lit 302,zo216)::(nat_lit 309,Abu)::(nat_lit 316,zo224)::(nat_lit 323,Ab2)::(nat_lit 328,zo233)::(nat_lit 333,Afk)::(nat_lit 338,zo239)::(nat_lit 343,Aih)::(nat_lit 0,(cN P))::(nat_lit 1,(zo1 P))::(nat_lit 2,zo2)::(nat_lit 3,(Ag4 P))::(nat_lit 6,zo6)::(nat_lit 17,(Pz P))::(nat_lit 23,(Pu P))::(nat_lit 24,zo90)::(nat_lit 30,(Rv P))::(nat_lit 43,(Q4 P))::(nat_lit 44,zo38)::(nat_lit 49,(Tc P))::(nat_lit 62,(Tg P))::(nat_lit 63,zo53)::(nat_lit 68,(Vo P))::(nat_lit 81,(Vx P))::(nat_lit 82,zo69)::(nat_lit 87,(Yg P))::(nat_lit 100,(W2 P))::(nat_lit 101,zo85)::(nat_lit 106,(Yz P))::(nat_lit 116,Y0)::(nat_lit 119,(Rt P))::(nat_lit 120,zo101)::(nat_lit 126,zo105)::(nat_lit 133,Vb)::(nat_lit 138,zo114)::(nat_lit 145,Tn)::(nat_lit 150,zo121)::(nat_lit 155,T7)::(nat_lit 160,zo127)::(nat_lit 165,Tq)::(nat_lit 172,zo134)::(nat_lit 176,(Xg P))::(nat_lit 186,Xm)::(nat_lit 193,zo148)::(nat_lit 200,Ym)::(nat_lit 207,zo156)::(nat_lit 214,Yq)::(nat_lit 221,zo164)::(nat_lit 228,Yn)::(nat_lit 235,zo172)::(nat_lit 242,Yh)::(nat_lit 247,zo179)::(nat_lit 254,Yx)::(nat_lit 257,(X9 P))::(nat_lit 258,zo187)::(nat_lit 268,zo196)::(nat_lit 275,Abt)::(nat_lit 282,zo204)::(nat_lit 289,Acg)::(nat_lit 294,zo211)::(nat_lit 301,Adh)::(nat_lit 308,zo219)::(nat_lit 315,Abh)::(nat_lit 322,zo227)::(nat_lit 327,Ahe)::(nat_lit 332,zo235)::(nat_lit 337,Ahw)::(nat_lit 342,zo241)::[]
abbrev hK:PySem.W.Hook:=PySem.W.kHook K0 [nat_lit 117,nat_lit 127,nat_lit 134,nat_lit 139,nat_lit 146,nat_lit 151,nat_lit 156,nat_lit 161,nat_lit 166,nat_lit 173,nat_lit 187,nat_lit 194,nat_lit 201,nat_lit 208,nat_lit 215,nat_lit 222,nat_lit 229,nat_lit 236,nat_lit 243,nat_lit 248,nat_lit 255,nat_lit 269,nat_lit 276,nat_lit 283,nat_lit 290,nat_lit 295,nat_lit 302,nat_lit 309,nat_lit 316,nat_lit 323,nat_lit 328,nat_lit 333,nat_lit 338,nat_lit 343,nat_lit 0,nat_lit 1,nat_lit 2,nat_lit 3,nat_lit 6,nat_lit 17,nat_lit 23,nat_lit 24,nat_lit 30,nat_lit 43,nat_lit 44,nat_lit 49,nat_lit 62,nat_lit 63,nat_lit 68,nat_lit 81,nat_lit 82,nat_lit 87,nat_lit 100,nat_lit 101,nat_lit 106,nat_lit 116,nat_lit 119,nat_lit 120,nat_lit 126,nat_lit 133,nat_lit 138,nat_lit 145,nat_lit 150,nat_lit 155,nat_lit 160,nat_lit 165,nat_lit 172,nat_lit 176,nat_lit 186,nat_lit 193,nat_lit 200,nat_lit 207,nat_lit 214,nat_lit 221,nat_lit 228,nat_lit 235,nat_lit 242,nat_lit 247,nat_lit 254,nat_lit 257,nat_lit 258,nat_lit 268,nat_lit 275,nat_lit 282,nat_lit 289,nat_lit 294,nat_lit 301,nat_lit 308,nat_lit 315,nat_lit 322,nat_lit 327,nat_lit 332,nat_lit 337,nat_lit 342] (fun _=>by kernel_rfl)
abbrev lz:List Str:=[]
theorem Arm(w:bW)(os:fK):(PySem.W.staticsOk (importedModules pp.main.body) (eE w.params) (hZ w.params)&&PySem.W.namesBound pp (hZ w.params)&&PySem.W.gensDone ⟨hZ w.params,⟨[]⟩,{},620,os⟩&&PySem.W.laidKept (eE w.params) (hZ w.params))=true:=by
 rw[iF];kernel_rfl
theorem Arl(w:bW)(os:fK):PySem.W.openSeen q0 lz (importedModules pp.main.body) (fun s=>rC q0 [] s&&qV [] s) true ⟨hZ w.params,⟨[]⟩,{},620,os⟩=PySem.W.openGood q0 lz:=by
 rw[iF,PySem.W.Fast.te4187177175401517315];kernel_rfl
theorem Ars(w:bW)(os:fK):hK.obs ⟨hZ w.params,⟨[]⟩,{},620,os⟩=hK.val w:=by kernel_rfl
theorem Art:PySem.W.LeftO pp q0 lz (fun s=>rC q0 [] s&&qV [] s) hK.obs hK.val 5398:=
 PySem.W.LeftO.of_pieces Aog Aoj Ao2 (by decide) fun w=>funext fun os=>Prod.ext (Arm w os) (Prod.ext (Arl w os) (Ars w os))
end
theorem Arc{l:jF}{q:bN}{loose:List Str}{XP:(Str->Option aE)->Heap->Prop}{YP:bW->Heap->Prop}{d:DefRec}{K:nB->aC}(hn:l.most=some 63)(hdf:d.params.defaults=[])
  (hY:∀ (w:bW) (h:Heap),YP w h->(K w.params).In h)
  (F:∀ (w:bW) (mg:Str->Option aE) (fa:Addr) (h:Heap),(K w.params).In h->h.Ns aN mg->mg d.name=some (.ref fa) ->
   ∃ fd:bM,(∀ (s:aI) (u:aE),lB s fd ⟨[u],[]⟩ [("script",u)])/\∀ base:Heap,(K w.params).In base->base.Ns aN mg->FnOk l.prog w (K w.params) mg base CX0 7 fa fd ["script"] (spF (K w.params) 1 U3)) :
  qP q loose XP YP l.row.toRowW d [] (fun f vs=>qG f vs):=
 L2.Ak6 (n:=63) (k:=7) (x := "script") (CX:=fun _=>CX0) (sp:=fun w=>spF (K w.params) 1 U3) hn (by decide) hdf ⟨rfl,by decide,by decide⟩ hY F (fun w H a ns hl ho hS=>Am1 ho hS (Ahr ns hl)) fun _ _ _ _ _ z=>z
end Lw
open PySem PySem.W PyProof.Rows
set_option maxRecDepth 100000 in
set_option maxHeartbeats 0 in
theorem PySem.Challenge.cw_belowpoints_k20_kept_points_holds : PySem.Challenge.rw_belowpoints_k20_kept_points.Holds := by
  w_on; o_law
  refine holds_open (q := Lw.q0) (loose := Lw.lz) (Xt := fun s => xlAt Lw.q0 [] s && recOk [] s) (XP := XL Lw.q0 []) (Yf := Lw.hK.obs) (Ya := Lw.hK.val) (YP := InK Lw.K0) Lw.Art Lw.hK.of Lw.hK.keeps (fun s e => xl_of s (Bool.and_eq_true_iff.mp e).1) XL.keeps (by rfl) (by rfl) (by rfl) (fun s e => recFacts_of (Bool.and_eq_true_iff.mp e).2) (by rfl) (by first | assumption | decide +kernel) (by decide +kernel) ⟨rfl, rfl, rfl, rfl, rfl, by decide +kernel⟩ ?hw ?hc
  case hw => w_witness2
  k_fill
  refine Lw.Arc (l := PySem.Challenge.rw_belowpoints_k20_kept_points) rfl rfl (K := Lw.K0) (fun w h Y => Y) ?F
  case F =>
    intro w mg fa h KX G hmg
    refine' Lw.Amz KX G hmg ?aC_KeptPoints ?pg_KeptPoints ?hd_KeptPoints ?po_KeptPoints ?sa_KeptPoints ?xn_BelowError ?xn_NoAsk ?xn_NoCounts ?xn_NoName ?xn_NoPlace ?xn_NoPoints ?ex_NoName ?kc_NoName ?bs_BelowError ?br_BelowError ?bf_BelowError ?xt ?xf_word ?xv ?mk_KeptPoints ?kc_KeptPoints ?nf_KeptPoints_points ?a0 ?i0 ?l0 ?c0 ?k0 ?a1 ?i1 ?l1 ?c1 ?k1 ?a2 ?l2 ?c2 ?k2 ?a3 ?l3 ?c3 ?k3 ?a4 ?l4 ?c4 ?k4 ?a5 ?l5 ?c5 ?k5 ?a6 ?l6 ?c6 ?k6 ?a7 ?i7 ?l7 ?c7 ?k7 ?a8 ?i8 ?l8 ?c8 ?k8 ?a9 ?l9 ?c9 ?k9 ?a10 ?l10 ?c10 ?k10 ?a11 ?l11 ?c11 ?k11 ?a12 ?i12 ?l12 ?c12 ?k12 ?a13 ?l13 ?c13 ?k13 ?a14 ?i14 ?l14 ?c14 ?k14 ?a15 ?i15 ?l15 ?c15 ?k15 ?a16 ?l16 ?c16 ?k16 ?a17 ?l17 ?c17 ?k17 ?a18 ?l18 ?c18 ?k18 ?a19 ?i19 ?l19 ?c19 ?k19 ?a20 ?l20 ?c20 ?k20 ?a21 ?l21 ?c21 ?k21 ?a22 ?l22 ?c22 ?k22 ?a23 ?l23 ?c23 ?k23 ?a24 ?l24 ?c24 ?k24 ?a25 ?i25 ?l25 ?c25 ?k25 ?a26 ?i26 ?l26 ?c26 ?k26 ?a27 ?i27 ?l27 ?c27 ?k27 ?a28 ?i28 ?l28 ?c28 ?k28 ?a29 ?l29 ?c29 ?k29 ?a30 ?l30 ?c30 ?k30 ?a31 ?l31 ?c31 ?k31 ?a32 ?l32 ?c32 ?k32 ?a33 ?l33 ?c33 ?k33 ?z_ValueError ?z_abs ?z_all ?z_bool ?z_int ?z_isinstance ?z_len ?z_list ?z_max ?z_range ?z_sum ?z_tuple ?z_zip
    (case aC_KeptPoints => k_is)
    (case pg_KeptPoints => k_is)
    (case hd_KeptPoints => k_is)
    (case po_KeptPoints => k_is)
    (case sa_KeptPoints => k_is)
    (case xn_BelowError => k_is)
    (case xn_NoAsk => k_is)
    (case xn_NoCounts => k_is)
    (case xn_NoName => k_is)
    (case xn_NoPlace => k_is)
    (case xn_NoPoints => k_is)
    (case ex_NoName => kernel_rfl)
    (case kc_NoName => k_is)
    (case bs_BelowError => k_is)
    (case br_BelowError => k_is)
    (case bf_BelowError => kernel_rfl)
    (case xt => kernel_rfl)
    (case xf_word => kernel_rfl)
    (case xv => k_is)
    (case mk_KeptPoints => k_is)
    (case kc_KeptPoints => k_is)
    (case nf_KeptPoints_points => k_is)
    (case a0 => k_is); (case i0 => k_is)
    (case l0 => k_is); (case c0 => k_is); (case k0 => k_is)
    (case a1 => k_is); (case i1 => k_is)
    (case l1 => k_is); (case c1 => k_is); (case k1 => k_is)
    (case a2 => k_is); (case l2 => k_is); (case c2 => k_is); (case k2 => k_is)
    (case a3 => k_is); (case l3 => k_is); (case c3 => k_is); (case k3 => k_is)
    (case a4 => k_is); (case l4 => k_is); (case c4 => k_is); (case k4 => k_is)
    (case a5 => k_is); (case l5 => k_is); (case c5 => k_is); (case k5 => k_is)
    (case a6 => k_is); (case l6 => k_is); (case c6 => k_is); (case k6 => k_is)
    (case a7 => k_is); (case i7 => k_is)
    (case l7 => k_is); (case c7 => k_is); (case k7 => k_is)
    (case a8 => k_is); (case i8 => k_is)
    (case l8 => k_is); (case c8 => k_is); (case k8 => k_is)
    (case a9 => k_is); (case l9 => k_is); (case c9 => k_is); (case k9 => k_is)
    (case a10 => k_is); (case l10 => k_is); (case c10 => k_is); (case k10 => k_is)
    (case a11 => k_is); (case l11 => k_is); (case c11 => k_is); (case k11 => k_is)
    (case a12 => k_is); (case i12 => k_is)
    (case l12 => k_is); (case c12 => k_is); (case k12 => k_is)
    (case a13 => k_is); (case l13 => k_is); (case c13 => k_is); (case k13 => k_is)
    (case a14 => k_is); (case i14 => k_is)
    (case l14 => k_is); (case c14 => k_is); (case k14 => k_is)
    (case a15 => k_is); (case i15 => k_is)
    (case l15 => k_is); (case c15 => k_is); (case k15 => k_is)
    (case a16 => k_is); (case l16 => k_is); (case c16 => k_is); (case k16 => k_is)
    (case a17 => k_is); (case l17 => k_is); (case c17 => k_is); (case k17 => k_is)
    (case a18 => k_is); (case l18 => k_is); (case c18 => k_is); (case k18 => k_is)
    (case a19 => k_is); (case i19 => k_is)
    (case l19 => k_is); (case c19 => k_is); (case k19 => k_is)
    (case a20 => k_is); (case l20 => k_is); (case c20 => k_is); (case k20 => k_is)
    (case a21 => k_is); (case l21 => k_is); (case c21 => k_is); (case k21 => k_is)
    (case a22 => k_is); (case l22 => k_is); (case c22 => k_is); (case k22 => k_is)
    (case a23 => k_is); (case l23 => k_is); (case c23 => k_is); (case k23 => k_is)
    (case a24 => k_is); (case l24 => k_is); (case c24 => k_is); (case k24 => k_is)
    (case a25 => k_is); (case i25 => k_is)
    (case l25 => k_is); (case c25 => k_is); (case k25 => k_is)
    (case a26 => k_is); (case i26 => k_is)
    (case l26 => k_is); (case c26 => k_is); (case k26 => k_is)
    (case a27 => k_is); (case i27 => k_is)
    (case l27 => k_is); (case c27 => k_is); (case k27 => k_is)
    (case a28 => k_is); (case i28 => k_is)
    (case l28 => k_is); (case c28 => k_is); (case k28 => k_is)
    (case a29 => k_is); (case l29 => k_is); (case c29 => k_is); (case k29 => k_is)
    (case a30 => k_is); (case l30 => k_is); (case c30 => k_is); (case k30 => k_is)
    (case a31 => k_is); (case l31 => k_is); (case c31 => k_is); (case k31 => k_is)
    (case a32 => k_is); (case l32 => k_is); (case c32 => k_is); (case k32 => k_is)
    (case a33 => k_is); (case l33 => k_is); (case c33 => k_is); (case k33 => k_is)
    (case z_ValueError => k_is)
    (case z_abs => k_is)
    (case z_all => k_is)
    (case z_bool => k_is)
    (case z_int => k_is)
    (case z_isinstance => k_is)
    (case z_len => k_is)
    (case z_list => k_is)
    (case z_max => k_is)
    (case z_range => k_is)
    (case z_sum => k_is)
    (case z_tuple => k_is)
    (case z_zip => k_is)
