import PyProof.Rows.All
import Wide.All
import OpenK.AllK
import Wide.FinOn
import Lean
import PyProof.EqAt
import PyProof.EqKinds
import PyProof.TupleCall
import KE.KTurnsDict
import KE.KPairComp
import KE.KTryMore
import PyProof.ExcInit
import KE.KIsNot
import KE.KIntText
import PyProof.ReprStr
import PyProof.StrLawsRepr
import KE.KDictList
import KE.KEqDict
import PySem.Challenge.RW_belowpoints_k46_whole_two_kept_points
local macro_rules|`(tactic|omega)=>`(tactic|lia)
set_option Elab.async false
set_option linter.all false
set_option maxRecDepth 100000
set_option maxHeartbeats 4000000
open Option renaming bind_some->aA,bind_eq_some_iff->aB,map_some->aD,map_eq_some_iff->aM,join_some->aN,isSome_map->fS,isSome_iff_exists->kN,getD_some->kW
open PySem.W renaming Frag->aC,nsIn->aS,keepIn->aV,findIn->aZ,codeIn->bC,fnOf->bF,mg_of->bS,isFn->cT,mg_none_of->cW,emptyDict->dG,instObj->eE,hasDictIn->eU,specialIn->eV,methodCall_KW->fP,looks_findIn->fU,plainGet->gD,callWith_K->gQ,InstAt->gY,cellsFrom_some->hV,OpenLaw->iR,plainGet_of->jE,lookIn->jP,methodObj->kC,plainOver->kF,takerIn->lL,makesIn->lM,takesIn->lN,typeIn->mB,exmOne->mF,findObj_own->mM,looks_clsIn->mN,callWith_K0->mO,mroIn->mS,Looks->mW,codeRec_of->mZ,check_slot->nF,set_plain->nI,handedIn->nW,any_some->nX,findCls->oW,readsIn->oX,findObj->oY,kitOne->pL,WalkO->pP,subIn->pR
open PySem renaming Value->aE,wpAny_bind->aF,Shared->aJ,mainGlobals->aP,wpAny_pure->aT,starEach->bA,FuncData->bL,Program->bP,World->cE,Around->cG,wpAny_field->cJ,wpAny_mono->cM,wpAny_newObj_type->cR,boot_len->cX,wpAny_holding->dA,compareOp->dC,binaryOp->eB,wpAny_callSpecial?_slot->eC,Env->eD,wpAny_Call_Name_kw->eM,wpAny_seqItems->eO,wpAny_setField_rec->eP,IsPair->eR,bootBuiltins->eT,mem_of_lookup->fB,wpAny_call_entry->fF,wpAny_truthy_bool->fR,wpAny_loadPart_at->fT,wpAny_setField->fW,wpAny_standAt->gI,wpAny_passesOwn->gP,Scope->gX,codeAny_mono->gZ,Keyword->hG,NameKind->hU,wpAny_Call_method->hZ,plainObj_wpAny_Assign_Attribute->iD,wpAny_execs_cons->iI,wpAny_call->iJ,codeAny->iN,wpAny_updateSeq_pair->iT,codeAny_call_builtin->iU,wpAny_execs_nil->iW,evalArgs_none->jG,wpAny_pyIter_tuple->jO,wpAny_newFunctionEnv_cells->jR,tupleKind_room_in1->jT,IsZip->jU,wpAny_pyIter_list->kD,sizeLine_eq->kE,BindsTo->kJ,nums_intItems->kO,wpAny_comprehension_free->kP,wpAny_onRaise->kQ,GenState->kS,noFill_tuple_add->kT,wpAny_pyNext_list_item->lD,call_meetsIn->lH,Builtin->lJ,codeAny_builtin->lR,wpAny_pyNext_list_end->lU,codeAny_call_function->lV,ZipApart->mD,wpAny_letGo->mE,wpAny_isSubtype_exc->mQ,seq_tuple_add->mT,wpAny_attempt->mV,builtinsNs->mY,IsPart->nA,call_meets->nC,Within->nH,concat_meets->nQ,seqIndex_neg->nR,slot_list_getitem->nS,meets_dict_values->nV,wpAny_lookBehind->nY,pastItsLine_dict->nZ,wpAny_pyIter_zip->oH,refuseLoop->oJ,seqIndex_of->oO,Paired->pA,Model->pB,wpAny_Name->pC,typeIs_int->pD,call->pF,PyData->pH,numAt_eq->pI,wpAny_rule->pJ
open PySem.Heap renaming get?_push_of_some->aG,lt_size->aR,get?_push_size->aY,get?_update_other->cH,get?_update_self->cY,size_push->dW,size_after_update->fJ,SameBut->fZ,ExtBut->iS,IsTuple->pX
open List renaming getElem?_cons_zero->aH,length_cons->aI,getElem?_cons_succ->aK,length_nil->aL,map_cons->aO,getElem?_eq_some_iff->aQ,getElem?_append_left->aW,append_nil->aX,length_map->bB,replicate->bE,mem_cons_of_mem->bG,size_toArray->bH,getElem?_set_ne->bI,map_nil->bK,replicate_zero->bM,getElem?_map->bO,mem_append_right->bR,mem_cons_self->bT,getElem?_set_self->bU,Nodup->bW,lookup_cons->bX,getElem?_append_right->bY,set_cons_zero->bZ,append_assoc->cA,mem_cons->cB,set_cons_succ->cF,getElem?_eq_getElem->cK,all_eq_true->cL,length_append->cN,getElem?_eq_none_iff->cP,nil_append->dB,cons_append->dD,getElem?_eq_none->dI,mem_singleton->dQ,mem_append_left->dR,range->dU,replicate_succ->dY,filter_eq_self->dZ,find?_cons->eF,map_append->eG,take_of_length_le->eJ,map_map->eK,lookup->eL,mem_append->eS,flatten_cons->eW,any_cons->eZ,length_take->fE,filter_cons->fG,mem_filter->fK,mem_of_getElem?->fV,filter->fY,filterMap_cons->gF,getElem?_range->gG,mem_range->gW,take_add_one->iB,eraseIdx_eq_take_drop_succ->iF,not_mem_nil->iK,getElem_mem->iL,nodup_cons->iX,of_mem_zip->iY,forIn_cons->jA,map_congr_left->jH,length->kK,nodup_append->kL,mem_map->lK,length_set->lP,length_filter_le->lW,length_eraseIdx->mH,take_sublist->nO,length_drop->oA,zipIdx_cons->oF,take_length->oK,zipIdx_nil->oS,foldl->pE,forIn_nil->pK,drop_zero->pM,map_take->pS
open Nat renaming lt_of_lt_of_le->aU,le_refl->bD,ne_of_lt->bV,le_trans->cC,sub_self->cI,lt_irrefl->dL,lt_succ_self->fD,ne_of_gt->gC,le_succ->iP,not_lt->jY,zero_le->kH,le_of_lt->lC,lt_of_le_of_lt->nD,le_of_eq->nK,min_eq_right->oE,le_add_right->oI,min_eq_left->oQ
open Bool renaming false_eq_true->bJ,and_eq_true->cQ,false_ne_true->eA,and_eq_true_iff->eX,not_true->gO,or_eq_true->iZ,and_false->mG,not_false->pN,false_or->pQ
open PySem.Value renaming ref->bN,none->dE,type->lB,int->mK,str->mL,builtin->mX,bool->oZ,isStrOf->pO,isInt->pZ,bytes->qA,float->qB
open Option.some renaming inj->bQ
open PySem.Builtin.SmallTypes renaming nextOf->cD,ownedTupleIsFree->dN,ownedTupleHandOut->gH
open Array renaming length_toList->cO,getElem?_toList->iG,getElem?_eq_some_iff->jX,getElem?_eq_getElem->kA,toList->pT
open Ne renaming symm->cS
open PySem.PyData renaming eqv->cU,strOk->cV,canLay0->fX,depth->iC,eqvAll->iO,canLayAll0->nU,depthAll->oU
open PySem.Obj renaming data_mapFields->cZ,isFreed_of_fields->dJ,mapFields->dS,mapSeq->fI
open False renaming elim->dF
open Int renaming toNat_natCast->dH,emod_lt_of_pos->jW,emod_nonneg->lQ,le_refl->mI,toNat_of_nonneg->mR,natCast_nonneg->nB,max_eq_right->oB,min_eq_left->oP,ediv_nonneg->oV,ofNat_le->pU,le_trans->pY
open PySem.Builtin.Tuple renaming tupleExact->dM
open PySem.PassesOwn renaming never->dO
open PySem.W.Looks renaming here->dP
open PySem.Calls renaming callWith_builtin->dX,evalArgs_plain->iQ,Name_function_global->jN,spliced_cons->jQ,spliced_nil->kI
open PyProof.Rows renaming callWith_type1->eI,boot_max->fQ,slot_tuple_getitem->iE,boot_min->iH,AllBare->jI,IntsAre->jK,subscriptTail_builtinR->lF
open PySem.F renaming slot_tuple_iterator_next->eN,slot_dict_values->fA,plainAttrs_dict->fH,args_tuple_add_2->gJ,entry_tuple_add->gR,plainAttrs_list->gS,slot_tuple_add->hW,args_tuple_iterator_next_1->jC,slot_zip_next->jD,entry_tuple_iterator_next->jL,args_dict_values_1->jV,excBase_ValueError->jZ,entry_dict_values->kB,type_dict_values->kR,slot_dict_items->kX,plain_list_iadd->kY,plain_tuple_new->kZ,slot_dict_pop->lX,slot_list_pop->lY,type_list_pop->lZ,args_zip_next_1->nT,entry_zip_next->oG,slot_int_rmul->oR
open PySem.Builtin.Slice renaming slicePlaces->eQ,sliceAdjust->gE,sliceApplied->jS
open True renaming intro->eY
open ForInStep renaming yield->fL
open PySem.NameKind renaming free->fO,cell->mU
open PySem.Builtin.List renaming listTooLong->gL
open PySem.Builtin.ObjectAttr renaming storeInOwnDict->gT,storeInDict->iM
open Sum renaming inr->gU,inl->mJ
open PySem.SeqAt renaming shaped->iA
open PySem.Around renaming under_plainId->iV,frames_deeper->mC,under->nM
open List.cons renaming injEq->jB
open PySem.Heap.SameBut renaming update->jF
open PySem.Str renaming ofString->jJ,empty->jM
open PySem.Paired renaming length->kM,snoc->qD
open PySem.EntryCells renaming newEntry->mP
open PySem.Code renaming quiet_builtin->nE,isFrame->nN,frames->qC
open List.Nodup renaming sublist->nG
open PySem.Within renaming cons->nJ
open PySem.Heap.Ns1 renaming of_empty->nL
open List.Sublist renaming map->oM
open Prod.mk renaming inj->oN
open Or renaming inr->pG,inl->pV
open PySem.Txt renaming mul->pW
open PySem.Shared renaming heap->qE
open PySem.W.WShape renaming has->qF
namespace L2
open PySem PySem.Spec PyProof.Rows
abbrev Key:=Sum Int Str
noncomputable def Q0:Key->aE->Bool
 | .inl k,v=>pZ k v
 | .inr x,v=>pO x v
noncomputable def Aok(w:cE):Key->Int
 | .inl k=>hashInt k
 | .inr x=>hashStr w x
theorem Cv:∀ {k:Key} {v:aE},Q0 k v=true->(∃ i t,k=mJ i/\v=mK i t)\/(∃ x t,k=gU x/\v=mL x t)
 | .inl i,v,h=>by
  obtain ⟨t,e⟩:=aE.isInt_shape (k:=i) (v:=v) h
  exact .inl ⟨i,t,rfl,e⟩
 | .inr x,v,h=>by
  obtain ⟨t,e⟩:=aE.isStrOf_shape (x:=x) (v:=v) h
  exact .inr ⟨x,t,rfl,e⟩
theorem Aa5(i:Int)(t:Tok):Q0 (.inl i) (.int i t)=true:=by simp[Q0,pZ]
theorem Ab4(x:Str)(t:Tok):Q0 (.inr x) (.str x t)=true:=by simp[Q0,pO]
theorem Ala(a b:Int):decide ((mJ a:Key)=mJ b)=(a == b):=by
 by_cases e:a=b
 ·subst e;simp
 ·have h:¬ (mJ a:Key)=mJ b:=fun q=>e (mJ.inj q)
  rw[decide_eq_false h]
  exact (beq_eq_false_iff_ne.mpr e).symm
theorem Ale(a b:Str):decide ((gU a:Key)=gU b)=decide (a=b):=by
 by_cases e:a=b
 ·subst e;simp
 ·have h:¬ (gU a:Key)=gU b:=fun q=>e (gU.inj q)
  rw[decide_eq_false h,decide_eq_false e]
theorem Ajp(a:Int)(b:Str):decide ((mJ a:Key)=gU b)=false:=decide_eq_false (fun q=>nomatch q)
theorem Ajs(a:Str)(b:Int):decide ((gU a:Key)=mJ b)=false:=decide_eq_false (fun q=>nomatch q)
noncomputable def Cf(prog:bP)(w:cE):PySem.KeyKind prog w Key where
 is:=Q0
 hash:=Aok w
 inj:=fun v a b ha hb=>by
  rcases Cv ha with ⟨i,t,rfl,rfl⟩ | ⟨x,t,rfl,rfl⟩
  ·rcases Cv hb with ⟨j,u,rfl,e⟩ | ⟨y,u,rfl,e⟩
   ·injection e with e1 _;rw[e1]
   ·exact nomatch e
  ·rcases Cv hb with ⟨j,u,rfl,e⟩ | ⟨y,u,rfl,e⟩
   ·exact nomatch e
   ·injection e with e1 _;rw[e1]
 byValue:=fun k v h=>by
  rcases Cv h with ⟨i,t,rfl,rfl⟩ | ⟨x,t,rfl,rfl⟩ <;> rfl
 pyHash:=fun hv h=>by
  rcases Cv hv with ⟨i,t,rfl,rfl⟩ | ⟨x,t,rfl,rfl⟩
  ·exact wpAny_pyHash_int h
  ·exact wpAny_pyHash_str h
 eqBool:=fun hu hv h=>by
  rcases Cv hu with ⟨i,t,rfl,rfl⟩ | ⟨x,t,rfl,rfl⟩
  ·rcases Cv hv with ⟨j,u,rfl,rfl⟩ | ⟨y,u,rfl,rfl⟩
   ·rw[Ala] at h;exact wpAny_eqBool_int h
   ·rw[Ajp] at h;exact SeqAt.EqAt.int_str i t y u _ _ _ _ h
  ·rcases Cv hv with ⟨j,u,rfl,rfl⟩ | ⟨y,u,rfl,rfl⟩
   ·rw[Ajs] at h;exact SeqAt.EqAt.str_int x t j u _ _ _ _ h
   ·rw[Ale] at h;exact wpAny_eqBool_str h
 «strs» := fun k x t v h=>by
  rcases Cv h with ⟨i,u,rfl,e⟩ | ⟨y,u,rfl,e⟩
  ·exact nomatch e
  ·injection e with e1 _
   subst e1
   cases v <;> rfl
theorem Wv(prog:bP)(w:cE)(k:Key)(v:aE):(Cf prog w).is k v=Q0 k v:=rfl
theorem Vf(prog:bP)(w:cE)(i:Int)(t:Tok):(Cf prog w).is (.inl i) (.int i t)=true:=Aa5 i t
theorem V4(prog:bP)(w:cE)(x:Str)(t:Tok):(Cf prog w).is (.inr x) (.str x t)=true:=Ab4 x t
inductive V where
 | non | bl (b:Bool) | int (i:Int) | str (x:Str) | byt (b:Array UInt8) | flt (b:UInt64) | ref (a:Addr) | ty (n:String)
 deriving DecidableEq
noncomputable def RelV:V->aE->Prop
 | .non,u=>u=dE
 | .bl b,u=>u=oZ b
 | .int i,u=>∃ t,u=mK i t
 | .str x,u=>∃ t,u=mL x t
 | .byt b,u=>∃ t,u=qA b t
 | .flt b,u=>∃ t,u=qB b t
 | .ref a,u=>u=bN a
 | .ty n,u=>u=lB n
abbrev Vals:List V->List aE->Prop:=pA RelV
theorem Vals.length{xs:List V}{us:List aE}(r:Vals xs us):xs.length=us.length:=kM r
theorem Vals.get{xs:List V}{us:List aE}{i:Nat}{x:V}(h:Vals xs us)(e:xs[i]? = some x):∃ u,us[i]? = some u/\RelV x u:=by
 induction h generalizing i with
 | nil=>cases e
 | cons r t ih=>
  cases i with
  | zero=>cases e;exact ⟨_,rfl,r⟩
  | succ i=>exact ih (i:=i) e
theorem Vals.set{x:V}{u:aE}(r:RelV x u){xs:List V}{us:List aE}(i:Nat)(h:Vals xs us):Vals (xs.set i x) (us.set i u):=by
 induction h generalizing i with
 | nil=>exact .nil
 | cons q t ih=>
  cases i with
  | zero=>exact .cons r t
  | succ i=>exact .cons q (ih i)
theorem Vals.append{xs ys:List V}{us ws:List aE}(h:Vals xs us)(s:Vals ys ws):Vals (xs++ys) (us++ws):=by
 induction h with
 | nil=>exact s
 | cons r t ih=>exact .cons r ih
theorem Vals.take{xs:List V}{us:List aE}(n:Nat)(h:Vals xs us):Vals (xs.take n) (us.take n):=by
 induction h generalizing n with
 | nil=>cases n <;> exact .nil
 | cons r t ih=>
  cases n with
  | zero=>exact .nil
  | succ n=>exact .cons r (ih n)
theorem Vals.drop{xs:List V}{us:List aE}(n:Nat)(h:Vals xs us):Vals (xs.drop n) (us.drop n):=by
 induction h generalizing n with
 | nil=>cases n <;> exact .nil
 | cons r t ih=>
  cases n with
  | zero=>exact .cons r t
  | succ n=>exact ih n
noncomputable def RelO:Option V->Option aE->Prop
 | some v,some u=>RelV v u
 | none,none=>True
 | _,_=>False
noncomputable def KV{κ:Type}:List (κ×V)->List (κ×aE)->Prop:=pA fun (p:κ×V) (q:κ×aE)=>p.1=q.1/\RelV p.2 q.2
noncomputable def kV:Key->V
 | .inl i=>.int i
 | .inr x=>.str x
inductive HO where
 | lst (xs:List V)
 | tup (xs:List V)
 | dK (kvs:List (Key×V)) | dT (kvs:List (List Key×V))
 | set (S:Int->Bool) (n:Nat)
 | ins (C dx:Addr) (fs:List (Str×V))
 | own (x:Addr)
 | xd (fs:List (Str×V))
 | met (f x:Addr)
 | rng (lo hi:Int)
 | frz (o:Obj) (u:HO)
 | tbl (ps:Array aE)
 | ext (φ:Heap->Prop)
abbrev Hp:=Addr->Option HO
noncomputable def upd(H:Hp)(a:Addr)(o:HO):Hp:=fun b=>if b=a then some o else H b
theorem upd_same{H:Hp}{a:Addr}{o:HO}:upd H a o a=some o:=by unfold upd;rw[if_pos rfl]
theorem A9{H:Hp}{a b:Addr}{o:HO}(h:b≠a):upd H a o b=H b:=by unfold upd;rw[if_neg h]
theorem Ac6{H:Hp}{a b:Addr}{o u:HO}(h:H a=some o)(h':H b=some u)(d:o≠u):a≠b:=by
 intro e;subst e;rw[h] at h';exact d (bQ h')
theorem Br{H:Hp}{a b:Addr}{o:HO}(h:H a=some o)(h':H b=none):a≠b:=by
 intro e;subst e;rw[h] at h';cases h'
noncomputable def TupN(h:Heap)(a:Addr)(its:Array aE):Prop:=∃ o:Obj,h.get? a=some o/\(o.cls,o.dict)=(lB "tuple",(none:Option Addr))/\∃ n,o.data = .seq its n
theorem TupN.is{h:Heap}{a:Addr}{its:Array aE}(x:TupN h a its):h.IsTuple a its:=by
 obtain ⟨o,e,c,n,d⟩:=x
 exact ⟨o,e,(oN c).1,n,d⟩
theorem TupN.new(h:Heap)(its:Array aE):TupN (h.push { cls:=.type "tuple",data:=.seq its }) h.objs.size its:=⟨_,aY _ rfl,rfl,0,rfl⟩
theorem TupN.lt{h:Heap}{a:Addr}{its:Array aE}(x:TupN h a its):a < h.objs.size:=by
 obtain ⟨o,e,_⟩:=x;exact aR e
section
variable (P:bP)(w:cE)
noncomputable def ObjOk(H:Hp)(h:Heap)(a:Addr):HO->Prop
 | .lst xs=>xs.length<=sizeLine/\∃ (its:List aE) (n:Nat),Vals xs its/\h.get? a=some { cls:=.type "list",data:=.seq its.toArray n }
 | .tup xs=>xs.length<=sizeLine/\∃ its:List aE,Vals xs its/\TupN h a its.toArray
 | .dK kvs=>kvs.length<=sizeLine/\(a == sysModules)=false/\∃ vs,KV kvs vs/\h.DictOf (Cf P w) a vs
 | .dT kvs=>kvs.length<=sizeLine/\(a == sysModules)=false/\∃ xs:List (List Key×Addr×aE),
   pA (fun (p:List Key×V) (q:List Key×Addr×aE)=>p.1=q.1/\H q.2.1=some (.tup (p.1.map kV))/\RelV p.2 q.2.2) kvs xs /\
   ∃ o es ep,h.get? a=some o/\o.ExactDict/\o.data = .dict es ep/\es.toList=xs.map (entryOfKey (tupleKind (Cf P w)))/\(xs.map (·.1)).Nodup
 | .set S n=>h.SetOf (intKind P w) a S n
 | .ins C dx fs=>H dx=some (.own a)/\fs.length<=1000/\dx≠a/\h.get? a=some (eE C dx) /\
   ∃ mA,h.Ns1 dx mA/\(∀ f,RelO (fs.lookup f) (mA f))/\nH mA (fs.map (·.1))
 | .own _=>∃ o,h.get? a=some o
 | .xd fs=>∃ mA,h.Ns1 a mA/\∀ f,RelO (fs.lookup f) (mA f)
 | .rng lo hi=>∃ t u v,h.get? a=some { cls:=.type "range",data:=.fields #[.int lo t,.int hi u,.int 1 v] }
 | .frz o u=>h.get? a=some o/\ObjOk H h a u
 | .tbl ps=>h.get? a=some { cls:=.none,data:=.fields ps }
 | .met f x=>h.get? a=some (kC (.ref f) (.ref x))
 | .ext φ=>φ h/\(∃ o,h.get? a=some o)/\∀ h1 h2:Heap,φ h1->(∀ o,h1.get? a=some o->h2.get? a=some o)->φ h2
noncomputable def HOk(H:Hp)(h:Heap):Prop:=∀ a o,H a=some o->ObjOk P w H h a o
end
section
variable {P:bP}{w:cE}{H H':Hp}{h h':Heap}{a:Addr}{o:HO}
theorem ObjOk.lt(x:ObjOk P w H h a o):a < h.objs.size:=by
 cases o with
 | lst xs=>obtain ⟨_,_,_,_,e⟩:=x;exact aR e
 | tup xs=>obtain ⟨_,_,_,p⟩:=x;exact p.lt
 | dK kvs=>obtain ⟨_,_,_,_,o,_,_,e,_⟩:=x;exact aR e
 | dT kvs=>obtain ⟨_,_,_,_,o,_,_,e,_⟩:=x;exact aR e
 | set S n=>obtain ⟨o,_,_,_,e,_⟩:=x;exact aR e
 | ins C dx fs=>obtain ⟨_,_,_,e,_⟩:=x;exact aR e
 | own y=>obtain ⟨_,e⟩:=x;exact aR e
 | xd fs=>obtain ⟨_,⟨_,_,_,e,_⟩,_⟩:=x;exact aR e
 | rng lo hi=>obtain ⟨_,_,_,e⟩:=x;exact aR e
 | frz ob u=>obtain ⟨e,_⟩:=x;exact aR e
 | tbl ps=>exact aR (show h.get? a=some _ from x)
 | met f y=>exact aR (show h.get? a=some _ from x)
 | ext φ=>obtain ⟨_,⟨_,e⟩,_⟩:=x;exact aR e
theorem Paired.mapP{α β:Type}{F G:α->β->Prop}{l₁:List α}{l₂:List β}(h:pA F l₁ l₂)(f:∀ a b,F a b->G a b):pA G l₁ l₂:=by
 induction h with
 | nil=>exact .nil
 | cons r t ih=>exact .cons (f _ _ r) ih
theorem ObjOk.stay(x:ObjOk P w H h a o)(k:∀ b u,(b=a\/H b=some (.own a))->h.get? b=some u->h'.get? b=some u)
  (ho:∀ b,H b=some (.own a)->H' b=some (.own a)) (ht:∀ b xs,H b=some (.tup xs)->H' b=some (.tup xs)):ObjOk P w H' h' a o:=by
 induction o with
 | lst xs=>obtain ⟨z,its,n,r,e⟩:=x;exact ⟨z,its,n,r,k _ _ (.inl rfl) e⟩
 | tup xs=>obtain ⟨z,its,r,ob,e,c⟩:=x;exact ⟨z,its,r,ob,k _ _ (.inl rfl) e,c⟩
 | dK kvs=>obtain ⟨z,y,vs,r,ob,es,ep,e,c⟩:=x;exact ⟨z,y,vs,r,ob,es,ep,k _ _ (.inl rfl) e,c⟩
 | dT kvs=>
  obtain ⟨z,y,xs,r,ob,es,ep,e,c⟩:=x
  exact ⟨z,y,xs,Paired.mapP r fun p q z=>⟨z.1,ht _ _ z.2.1,z.2.2⟩,ob,es,ep,k _ _ (.inl rfl) e,c⟩
 | set S n=>obtain ⟨ob,es,ep,t,e,c⟩:=x;exact ⟨ob,es,ep,t,k _ _ (.inl rfl) e,c⟩
 | ins C dx fs=>
  obtain ⟨d,z,ne,e,mA,⟨od,es,ep,e2,c⟩,r⟩:=x
  exact ⟨ho _ d,z,ne,k _ _ (.inl rfl) e,mA,⟨od,es,ep,k _ _ (.inr d) e2,c⟩,r⟩
 | own y=>obtain ⟨ob,e⟩:=x;exact ⟨ob,k _ _ (.inl rfl) e⟩
 | xd fs=>obtain ⟨mA,⟨od,es,ep,e,c⟩,r⟩:=x;exact ⟨mA,⟨od,es,ep,k _ _ (.inl rfl) e,c⟩,r⟩
 | rng lo hi=>obtain ⟨t,u,v,e⟩:=x;exact ⟨t,u,v,k _ _ (.inl rfl) e⟩
 | frz ob u ih=>obtain ⟨e,q⟩:=x;exact ⟨k _ _ (.inl rfl) e,ih q⟩
 | tbl ps=>
  have e:h.get? a=some { cls:=.none,data:=.fields ps }:=x
  show h'.get? a=some { cls:=.none,data:=.fields ps }
  exact k a _ (.inl rfl) e
 | met f y=>
  have e:h.get? a=some (kC (.ref f) (.ref y)):=x
  show h'.get? a=some (kC (.ref f) (.ref y))
  exact k a _ (.inl rfl) e
 | ext φ=>obtain ⟨p,⟨o,e⟩,st⟩:=x;exact ⟨st _ _ p fun o q=>k _ _ (.inl rfl) q,⟨o,k _ _ (.inl rfl) e⟩,st⟩
theorem HOk.lt(x:HOk P w H h)(e:H a=some o):a < h.objs.size:=(x a o e).lt
theorem HOk.fresh(x:HOk P w H h)(e:h.objs.size<=a):H a=none:=by
 cases q:H a with
 | none=>rfl
 | some u=>exact absurd (aU (x.lt q) e) (dL _)
theorem HOk.kept(x:HOk P w H h)(k:∀ b u,h.get? b=some u->h'.get? b=some u):HOk P w H h':=fun a o e=>
 (x a o e).stay (fun b u _ q=>k b u q) (fun _ q=>q) fun _ _ q=>q
theorem HOk.laid(x:HOk P w H h)(k:∀ b u,h.get? b=some u->h'.get? b=some u)(hp:h.objs.size<=a)(new:ObjOk P w (upd H a o) h' a o):HOk P w (upd H a o) h':=fun b u e=>by
 have hn:=x.fresh hp
 by_cases hb:b=a
 ·subst hb;rw[upd_same] at e;cases e;exact new
 ·rw[A9 hb] at e
  exact (x b u e).stay (fun c v _ q=>k c v q) (fun c q=>by rw[A9 (Br q hn)];exact q) fun c xs q=>by rw[A9 (Br q hn)];exact q
end
noncomputable def Rd(H:Hp)(a:Addr)(u:HO):Prop:=H a=some u\/∃ o,H a=some (.frz o u)
theorem Rd.ok{P:bP}{w:cE}{H:Hp}{h:Heap}{a:Addr}{u:HO}(r:Rd H a u)(x:HOk P w H h):ObjOk P w H h a u:=by
 rcases r with r | ⟨o,r⟩
 ·exact x a u r
 ·obtain ⟨_,q⟩:=x a _ r
  exact q
noncomputable def Mut:Option HO->Prop
 | some (.lst _)=>True
 | some (.dK _)=>True
 | some (.dT _)=>True
 | some (.set _ _)=>True
 | some (.ins _ _ _)=>True
 | some (.ext _)=>True
 | _=>False
section
variable {P:bP}{w:cE}{H:Hp}{h h':Heap}{x e:Addr}{o':HO}
theorem HOk.write(ok:HOk P w H h)(mu:Mut (H x))(he:e=x\/H e=some (.own x))(k:∀ b u,b≠e->h.get? b=some u->h'.get? b=some u)(heo:∃ u,h'.get? e=some u)
  (new:ObjOk P w (upd H x o') h' x o'):HOk P w (upd H x o') h':=fun b u q=>by
 have nown:∀ c y,H c=some (.own y)->c≠x:=fun c y r z=>by subst z;rw[r] at mu;exact mu
 have ntup:∀ c xs,H c=some (.tup xs)->c≠x:=fun c xs r z=>by subst z;rw[r] at mu;exact mu
 by_cases hb:b=x
 ·subst hb;rw[upd_same] at q;cases q;exact new
 ·rw[A9 hb] at q
  by_cases hbe:b=e
  ·have q':H b=some (.own x):=by
    rcases he with z | z
    ·exact absurd (hbe.trans z) hb
    ·rw[hbe];exact z
   rw[q] at q';cases q'
   obtain ⟨v,hv⟩:=heo
   exact ⟨v,by rw[hbe];exact hv⟩
  ·refine (ok b u q).stay (fun c v hc r=>k c v ?_ r) (fun c r=>by rw[A9 (nown c b r)];exact r) fun c xs r=>by rw[A9 (ntup c xs r)];exact r
   rcases hc with rfl | hc
   ·exact hbe
   ·rintro rfl
    rcases he with z | z
    ·exact nown c b hc z
    ·rw[hc] at z;cases z;exact hb rfl
end
structure Un(fs ex:List Addr)(H H':Hp)(h h':Heap):Prop where
 keep:∀ b o,h.get? b=some o->H b=none->b∉fs->b∉ex->h'.get? b=some o
 slot:∀ b o,h.get? b=some o->H b=none->b∈fs->b∉ex->∃ sl,h'.get? b=some { o with slots:=sl }
 free:∀ b o,h.get? b=some o->H b=none->b∉ex->H' b=none
 there:∀ b o,h.get? b=some o->b∉ex->∃ o',h'.get? b=some o'
 tups:∀ b xs,H b=some (.tup xs)->H' b=some (.tup xs)
 frzs:∀ b o u,H b=some (.frz o u)->H' b=some (.frz o u)
 tbls:∀ b ps,H b=some (.tbl ps)->∃ more,H' b=some (.tbl (ps++more))
section
variable {fs fs' ex ex':List Addr}{H H1 H2:Hp}{h h1 h2 h':Heap}{a x e:Addr}{o:HO}
theorem Un.any(u:Un fs ex H H1 h h1){b:Addr}{ob:Obj}(q:h.get? b=some ob)(n:H b=none)(hx:b∉ex):∃ sl,h1.get? b=some { ob with slots:=sl }:=by
 by_cases hb:b∈fs
 ·exact u.slot b ob q n hb hx
 ·exact ⟨ob.slots,u.keep b ob q n hb hx⟩
theorem Un.kept(k:∀ b u,h.get? b=some u->h'.get? b=some u):Un fs ex H H h h':=
 ⟨fun b ob q _ _ _=>k b ob q,fun b ob q _ _ _=>⟨ob.slots,k b ob q⟩,fun _ _ _ n _=>n,fun b ob q _=>⟨ob,k b ob q⟩,fun _ _ q=>q,fun _ _ _ q=>q,fun _ ps q=>⟨#[],by rw[q];simp⟩⟩
theorem Un.refl:Un fs ex H H h h:=Un.kept fun _ _ q=>q
theorem Un.laid(k:∀ b u,h.get? b=some u->h'.get? b=some u)(hp:h.objs.size<=a)(hn:H a=none):Un fs ex H (upd H a o) h h' where
 keep:=fun b u q _ _ _=>k b u q
 slot:=fun b u q _ _ _=>⟨u.slots,k b u q⟩
 free:=fun b u q n _=>by rw[A9 (bV (aU (aR q) hp))];exact n
 there:=fun b u q _=>⟨u,k b u q⟩
 tups:=fun b xs q=>by rw[A9 (Br q hn)];exact q
 frzs:=fun b u xs q=>by rw[A9 (Br q hn)];exact q
 tbls:=fun b ps q=>⟨#[],by rw[A9 (Br q hn),q];simp⟩
theorem Un.write(mu:Mut (H x))(he:e=x\/H e=some (.own x))(k:∀ b u,b≠e->h.get? b=some u->h'.get? b=some u)(heo:∃ u,h'.get? e=some u):Un fs ex H (upd H x o) h h':=by
 have hx:∀ b,H b=none->b≠x:=fun b n z=>by subst z;rw[n] at mu;exact mu
 have hb:∀ b,H b=none->b≠e:=fun b n z=>by
  subst z
  rcases he with r | r
  ·exact hx b n r
  ·rw[n] at r;cases r
 have hm:∀ b u,H b=some u->¬ Mut (some u)->b≠x:=fun b u q nm z=>by subst z;rw[q] at mu;exact nm mu
 refine ⟨fun b u q n _ _=>k b u (hb b n) q,fun b u q n _ _=>⟨u.slots,k b u (hb b n) q⟩,fun b u q n _=>by rw[A9 (hx b n)];exact n,fun b u q _=>?_,
  fun b xs q=>by rw[A9 (hm b _ q fun z=>z)];exact q,fun b u xs q=>by rw[A9 (hm b _ q fun z=>z)];exact q,fun b ps q=>⟨#[],by rw[A9 (hm b _ q fun z=>z),q];simp⟩⟩
 by_cases hbe:b=e
 ·subst hbe;exact heo
 ·exact ⟨u,k b u hbe q⟩
end
noncomputable def trk(h:Heap)(H:Hp):List Addr:=(dU h.objs.size).filter fun a=>(H a).isSome
noncomputable def Ud(h:Heap)(H:Hp):Heap:=PySem.W.hideAll h (trk h H)
theorem Aay(h:Heap)(H:Hp):(Ud h H).objs.size=h.objs.size:=PySem.W.hideAll_size _ _
theorem Aeg{h:Heap}{H:Hp}{b:Addr}{o:Obj}(e:h.get? b=some o)(n:H b=none):(Ud h H).get? b=some o:=
 PySem.W.hideAll_get _ e fun hm=>by
  have q:(H b).isSome=true:=(fK.mp hm).2
  rw[n] at q;simp at q
theorem Ail{h:Heap}{H:Hp}{b:Addr}{o:Obj}(e:(Ud h H).get? b=some o):h.get? b=some o/\H b=none:=by
 have e':h.get? b=some o:=PySem.W.of_hideAll (trk h H) e
 refine ⟨e',?_⟩
 cases q:H b with
 | none=>rfl
 | some x=>
  have hm:b∈trk h H:=fK.mpr ⟨gW.mpr (aR e'),by simp[q]⟩
  have z:(Ud h H).get? b=none:=PySem.W.hideAll_none (trk h H) hm
  rw[z] at e;cases e
noncomputable def Ahp(g h:Heap)(L:Addr):List (Addr×Obj):=(dU h.objs.size).filterMap fun a=>if a=L\/(g.get? a).isSome=true then none else (h.get? a).map fun o=>(a,o)
noncomputable def rest(g h:Heap)(L d:Addr):List (Addr×Obj):=(Ahp g h L).filter fun p=>decide (p.1≠d)
structure Mod(K:aC)(mg:Str->Option aE)(base:Heap):Prop where
 kin:K.In base
 glob:base.Ns aP mg
 blt:∃ mb,base.Ns mY mb/\∀ x:Str,x ≠ "__name__" -> mb x=eT x
 nolimit:base.NoLimit
structure Cx where
 prog:bP
 w:cE
 K:aC
 mg:Str->Option aE
 base:Heap
 A:cG
 N:List Str
 s₀:aJ
 H₀:Hp
 env:Env
 outer:List Env
 stack:List Env
 ex:List Addr
 fn:Str->Bool
 calm:Bool
 pn:List (Addr×Obj)
 xe:aE->aJ->Prop
noncomputable def frs(l:List Env):List Addr:=l.filterMap (·.frame)
noncomputable abbrev Cx.fs(X:Cx):List Addr:=frs X.outer
noncomputable def Vis(sc:gX)(x:Str):Prop:=sc.names.lookup x=some .local\/sc.names.lookup x=some .cell\/sc.names.lookup x=some .free
noncomputable def Loc(sc:gX)(x:Str):Prop:=sc.names.lookup x=some .local\/sc.names.lookup x=some .cell
noncomputable def Look(env:Env)(h:Heap)(m:Str->Option aE)(x:Str)(u:aE):Prop:=
 (env.kindOf x=some .local/\m x=some u)\/((env.kindOf x=some .cell\/env.kindOf x=some .free)/\∃ c,env.cells.lookup x=some c/\h.IsCell c (some u))
structure Cx.Ok(X:Cx):Prop where
 mod:Mod X.K X.mg X.base
 kind:X.env.scope.kind = .function
 glob:X.env.globals=aP
 blt:X.env.builtins=mY
 above:X.s₀.heap.objs.size<=X.env.locals
 inj:∀ x y c,X.env.cells.lookup x=some c->X.env.cells.lookup y=some c->x=y
 has:∀ x,(X.env.kindOf x=some .cell\/X.env.kindOf x=some .free)->∃ c,X.env.cells.lookup x=some c
 cab:∀ x c,X.fn x=true->X.env.cells.lookup x=some c->X.s₀.heap.objs.size<=c
 hd:X.calm=true->X.A.handled=none
 frames:X.A.frames=some X.stack
 stk:X.stack=X.outer\/(X.stack=X.env::X.outer/\X.env.frame=some X.env.locals)
 exf:∀ b∈X.ex,b≠X.env.locals/\∀ x c,X.env.cells.lookup x=some c->c≠b
 bs:∀ b o,X.base.get? b=some o->X.s₀.heap.get? b=some o/\X.H₀ b=none
 bsz:X.base.objs.size<=X.s₀.heap.objs.size
 noex:∀ b o,X.base.get? b=some o->b∉X.ex
 exfs:∀ b∈X.ex,b∉X.fs
 funs:X.s₀.heap.FunFrames X.base X.outer
 frf:∀ b∈X.fs,X.H₀ b=none
structure Inv(X:Cx)(pins:List (Addr×Obj))(σ:List (Option V))(H:Hp)(s:aJ):Prop where
 ok:X.Ok
 os:s.os=X.s₀.os
 bare:jI s.gens
 base:Un X.fs X.ex X.H₀ H X.s₀.heap s.heap
 loc:∃ m,s.heap.Ns X.env.locals m/\∀ (i:Nat) (x:Str) (v:V),X.N[i]? = some x->σ[i]? = some (some v)->Vis X.env.scope x->∃ u,RelV v u/\Look X.env s.heap m x u
 cell:∀ x c,X.env.cells.lookup x=some c->∃ v,s.heap.IsCell c v
 free:H X.env.locals=none
 freeC:∀ x c,X.env.cells.lookup x=some c->H c=none
 pin:∀ p∈X.pn++pins,s.heap.get? p.1=some p.2/\H p.1=none/\p.1≠X.env.locals/\p.1∉X.fs/\∀ v,p.2.data≠.cell v
 hok:HOk X.prog X.w H s.heap
 len:σ.length=X.N.length
section
variable {X:Cx}{pins:List (Addr×Obj)}{σ:List (Option V)}{H H':Hp}{s:aJ}{h':Heap}
theorem Cx.Ok.nofr(ok:X.Ok){b:Addr}{o:Obj}(e:X.base.get? b=some o):b∉X.fs:=fun hb=>by
 have:=(ok.funs.mem hb).1
 rw[e] at this;cases this
theorem Inv.bs(I:Inv X pins σ H s):∀ b o,X.base.get? b=some o->s.heap.get? b=some o/\H b=none:=fun b o e=>
 ⟨I.base.keep b o (I.ok.bs b o e).1 (I.ok.bs b o e).2 (I.ok.nofr e) (I.ok.noex b o e),I.base.free b o (I.ok.bs b o e).1 (I.ok.bs b o e).2 (I.ok.noex b o e)⟩
theorem Inv.bk(I:Inv X pins σ H s):∀ b o,X.base.get? b=some o->s.heap.get? b=some o:=fun b o e=>(I.bs b o e).1
theorem Inv.mod(I:Inv X pins σ H s):Mod X.K X.mg X.base:=I.ok.mod
theorem Inv.kIn(I:Inv X pins σ H s):X.K.In s.heap:=I.ok.mod.kin.keeps I.bk
theorem Inv.fr(I:Inv X pins σ H s):∃ m,Fr X.base X.env.locals s.heap m:=
 let ⟨m,hn,_⟩:=I.loc
 ⟨m,hn,I.bk,cC I.ok.bsz I.ok.above⟩
theorem Inv.lt(I:Inv X pins σ H s):X.env.locals < s.heap.objs.size:=let ⟨_,hn,_⟩:=I.loc;hn.lt
theorem Inv.sz(I:Inv X pins σ H s):X.s₀.heap.objs.size<=s.heap.objs.size:=cC I.ok.above (lC I.lt)
theorem Inv.nofs(I:Inv X pins σ H s){a:Addr}(h:s.heap.objs.size<=a):a∉X.fs:=fun hb=>by
 obtain ⟨_,o,ho,_⟩:=I.ok.funs.mem hb
 exact absurd (aU (aR ho) (cC I.sz h)) (dL _)
theorem Inv.cne(I:Inv X pins σ H s):∀ x c,X.env.cells.lookup x=some c->c≠X.env.locals:=fun x c e z=>by
 obtain ⟨v,o,ho,hd⟩:=I.cell x c e
 obtain ⟨m,⟨o',es,ep,ho',hd',_⟩,_⟩:=I.loc
 rw[z,ho'] at ho;cases ho;rw[hd'] at hd;cases hd
theorem Inv.funs(I:Inv X pins σ H s):s.heap.FunFrames X.base X.outer:=by
 have all:∀ (l:List Env),(∀ b∈frs l,b∈X.fs)->X.s₀.heap.FunFrames X.base l->s.heap.FunFrames X.base l:=by
  intro l
  induction l with
  | nil=>intro _ _;trivial
  | cons env r ih=>
   intro hs hl
   obtain ⟨hk,⟨L,o,hf,hn,ho,hd⟩,hr⟩:=hl
   have hL:L∈X.fs:=hs L (by unfold frs;rw[gF,hf];exact bT)
   obtain ⟨sl,e⟩:=I.base.slot L o ho (I.ok.frf L hL) hL fun z=>I.ok.exfs L z hL
   exact ⟨hk,⟨L,_,hf,hn,e,hd⟩,ih (fun b hb=>hs b (by unfold frs;rw[gF,hf];exact bG _ hb)) hr⟩
 exact all X.outer (fun _ hb=>hb) I.ok.funs
theorem Inv.stack(I:Inv X pins σ H s):s.heap.FunFrames X.base X.stack:=by
 rcases I.ok.stk with e | ⟨e,hf⟩
 ·rw[e];exact I.funs
 ·rw[e]
  obtain ⟨m,hn,_⟩:=I.loc
  refine .cons (by rw[I.ok.kind];decide) hf hn ?_ I.funs
  exact Heap.get?_none_of_le (cC I.ok.bsz I.ok.above)
theorem Inv.stkSub(I:Inv X pins σ H s):∀ b∈frs X.stack,b∈X.env.locals::X.fs:=fun b hb=>by
 rcases I.ok.stk with e | ⟨e,hf⟩
 ·rw[e] at hb;exact bG _ hb
 ·rw[e] at hb
  unfold frs at hb
  rw[gF,hf] at hb
  exact hb
theorem Inv.stkFree(I:Inv X pins σ H s):∀ b∈frs X.stack,H b=none:=fun b hb=>by
 rcases cB.mp (I.stkSub b hb) with e | hb
 ·rw[e];exact I.free
 ·obtain ⟨_,o,ho,_⟩:=I.ok.funs.mem hb
  exact I.base.free b o ho (I.ok.frf b hb) fun z=>I.ok.exfs b z hb
theorem Inv.step{g':Array kS}{t':Nat}{d':Drawn}{ch:List Addr}(I:Inv X pins σ H s)
  (hch:∀ b∈ch,(b∈X.ex\/X.s₀.heap.objs.size<=b)/\b≠X.env.locals/\(∀ x c,X.env.cells.lookup x=some c->c≠b)/\∀ p∈X.pn++pins,p.1≠b)
  (keep:∀ b o,b≠X.env.locals->b∉X.fs->b∉ch->s.heap.get? b=some o->H b=none->h'.get? b=some o)
  (slot:∀ b o,b≠X.env.locals->b∈X.fs->b∉ch->s.heap.get? b=some o->H b=none->∃ sl,h'.get? b=some { o with slots:=sl }) (free:∀ b o,b∉ch->s.heap.get? b=some o->H b=none->H' b=none)
  (there:∀ b o,b∉ch->s.heap.get? b=some o->∃ o',h'.get? b=some o')
  (tups:∀ b xs,H b=some (.tup xs)->H' b=some (.tup xs)) (frzs:∀ b o u,H b=some (.frz o u)->H' b=some (.frz o u)) (tbls:∀ b ps,H b=some (.tbl ps)->∃ more,H' b=some (.tbl (ps++more)))
  (ns:∀ m,s.heap.Ns X.env.locals m->h'.Ns X.env.locals m) (hok:HOk X.prog X.w H' h') (hg:jI g') :
  Inv X pins σ H' { s with heap:=h',gens:=g',drawn:=d',toks:=t' }:=by
 have neL:∀ b o,X.s₀.heap.get? b=some o->b≠X.env.locals:=fun b o e=>bV (aU (aR e) I.ok.above)
 have neC:∀ b o,X.s₀.heap.get? b=some o->b∉X.ex->b∉ch:=fun b o e hx hb=>by
  rcases (hch b hb).1 with z | z
  ·exact hx z
  ·exact absurd (aU (aR e) z) (dL _)
 have cellK:∀ x c,X.env.cells.lookup x=some c->∀ v,s.heap.IsCell c v->h'.IsCell c v:=fun x c e v zz=>by
  obtain ⟨o,ho,hd⟩:=zz
  have nch:c∉ch:=fun z=>(hch c z).2.2.1 x c e rfl
  by_cases hc:c∈X.fs
  ·obtain ⟨sl,q⟩:=slot c o (I.cne x c e) hc nch ho (I.freeC x c e)
   exact ⟨_,q,hd⟩
  ·exact ⟨o,keep c o (I.cne x c e) hc nch ho (I.freeC x c e),hd⟩
 refine ⟨I.ok,I.os,hg,⟨fun b o e n hb hx=>?_,fun b o e n hb hx=>?_,fun b o e n hx=>?_,fun b o e hx=>?_,fun b xs e=>tups b xs (I.base.tups b xs e),fun b o xs e=>frzs b o xs (I.base.frzs b o xs e),fun b ps e=>?_⟩,?_,fun x c e=>?_,?_,fun x c e=>?_,fun p hp=>?_,hok,I.len⟩
 ·exact keep b o (neL b o e) hb (neC b o e hx) (I.base.keep b o e n hb hx) (I.base.free b o e n hx)
 ·obtain ⟨sl,e1⟩:=I.base.slot b o e n hb hx
  obtain ⟨sl',e2⟩:=slot b _ (neL b o e) hb (neC b o e hx) e1 (I.base.free b o e n hx)
  exact ⟨sl',e2⟩
 ·obtain ⟨o',e1⟩:=I.base.there b o e hx
  exact free b o' (neC b o e hx) e1 (I.base.free b o e n hx)
 ·obtain ⟨o',e1⟩:=I.base.there b o e hx
  exact there b o' (neC b o e hx) e1
 ·obtain ⟨m1,e1⟩:=I.base.tbls b ps e
  obtain ⟨m2,e2⟩:=tbls b _ e1
  exact ⟨m1++m2,by rw[e2,Array.append_assoc]⟩
 ·obtain ⟨m,hn,hl⟩:=I.loc
  refine ⟨m,ns m hn,fun i x v e1 e2 e3=>?_⟩
  obtain ⟨u,r,l⟩:=hl i x v e1 e2 e3
  refine ⟨u,r,?_⟩
  rcases l with l | ⟨k,c,e,z⟩
  ·exact .inl l
  ·exact .inr ⟨k,c,e,cellK x c e _ z⟩
 ·obtain ⟨v,z⟩:=I.cell x c e
  exact ⟨v,cellK x c e v z⟩
 ·obtain ⟨m,⟨o,_,_,ho,_⟩,_⟩:=I.loc
  exact free _ o (fun z=>(hch _ z).2.1 rfl) ho I.free
 ·obtain ⟨v,o,ho,hd⟩:=I.cell x c e
  exact free c o (fun z=>(hch c z).2.2.1 x c e rfl) ho (I.freeC x c e)
 ·obtain ⟨e,n,ne,nf,d⟩:=I.pin p hp
  have nch:p.1∉ch:=fun z=>(hch p.1 z).2.2.2 p hp rfl
  exact ⟨keep p.1 p.2 ne nf nch e n,free p.1 p.2 nch e n,ne,nf,d⟩
theorem Inv.un{t':Nat}(I:Inv X pins σ H s)(u:Un X.fs [] H H' s.heap h')(hok:HOk X.prog X.w H' h'):Inv X pins σ H' { s with heap:=h',toks:=t' }:=by
 obtain ⟨m,⟨o,es,ep,ho,r⟩,_⟩:=id I.loc
 obtain ⟨sl,hL⟩:=u.any ho I.free (by simp)
 exact I.step (g':=s.gens) (d':=s.drawn) (ch:=[]) (fun _ z=>nomatch z) (fun b o _ hb _ e n=>u.keep b o e n hb (by simp)) (fun b o _ hb _ e n=>u.slot b o e n hb (by simp)) (fun b o _ e n=>u.free b o e n (by simp)) (fun b o _ e=>u.there b o e (by simp)) u.tups u.frzs u.tbls (fun m' hm=>by
  obtain ⟨o',es',ep',ho',r'⟩:=hm
  rw[ho] at ho';cases ho'
  exact ⟨_,es',ep',hL,r'⟩) hok I.bare
theorem Inv.call{g':Array kS}{t':Nat}{d':Drawn}{ch:List Addr}(I:Inv X pins σ H s)(u:Un (frs X.stack) ch H H' s.heap h')(hok:HOk X.prog X.w H' h')(hg:jI g')
  (hch:∀ b∈ch,(b∈X.ex\/X.s₀.heap.objs.size<=b)/\b≠X.env.locals/\(∀ x c,X.env.cells.lookup x=some c->c≠b)/\∀ p∈X.pn++pins,p.1≠b) :
  Inv X pins σ H' { s with heap:=h',gens:=g',drawn:=d',toks:=t' }:=by
 obtain ⟨m,⟨o,es,ep,ho,r⟩,_⟩:=id I.loc
 obtain ⟨sl,hL⟩:=u.any ho I.free fun z=>(hch _ z).2.1 rfl
 exact I.step (ch:=ch) hch (fun b o hL hb hc e n=>u.keep b o e n (fun z=>(cB.mp (I.stkSub b z)).elim hL hb) hc) (fun b o _ _ hc e n=>u.any e n hc) (fun b o hc e n=>u.free b o e n hc) (fun b o hc e=>u.there b o e hc) u.tups u.frzs u.tbls (fun m' hm=>by
  obtain ⟨o',es',ep',ho',r'⟩:=hm
  rw[ho] at ho';cases ho'
  exact ⟨_,es',ep',hL,r'⟩) hok hg
theorem Inv.turned{t':Nat}{it:Addr}(I:Inv X pins σ H s)(k:∀ b o,b≠it->s.heap.get? b=some o->h'.get? b=some o)(hn:H it=none)(hL:it≠X.env.locals)
  (h1:it∈X.ex\/X.s₀.heap.objs.size<=it) (h2:∀ x c,X.env.cells.lookup x=some c->c≠it) (h3:∀ p∈X.pn++pins,p.1≠it):Inv X pins σ H { s with heap:=h',toks:=t' }:=by
 have nit:∀ b u,H b=some u->b≠it:=fun b u e z=>by rw[z,hn] at e;cases e
 refine I.step (g':=s.gens) (d':=s.drawn) (ch:=[it]) (fun b hb=>?_) (fun b o _ _ hc e _=>k b o (fun z=>hc (by simp[z])) e) (fun b o _ _ hc e _=>⟨o.slots,k b o (fun z=>hc (by simp[z])) e⟩) (fun _ _ _ _ n=>n)
  (fun b o hc e=>⟨o,k b o (fun z=>hc (by simp[z])) e⟩) (fun _ _ e=>e) (fun _ _ _ e=>e) (fun b ps e=>⟨#[],by rw[e];simp⟩) (fun m hm=>?_) (fun b u e=>?_) I.bare
 ·have e:b=it:=by simpa using hb
  subst e
  exact ⟨h1,hL,h2,h3⟩
 ·obtain ⟨o,es,ep,ho,r⟩:=hm
  exact ⟨o,es,ep,k _ o (cS hL) ho,r⟩
 ·refine (I.hok b u e).stay (fun c v hc q=>k c v ?_ q) (fun _ q=>q) fun _ _ q=>q
  rcases hc with z | z
  ·rw[z];exact nit b u e
  ·exact nit c _ z
theorem Inv.tok(I:Inv X pins σ H s)(t:Nat):Inv X pins σ H { s with toks:=t }:=I.un (h':=s.heap) (t':=t) Un.refl I.hok
theorem Inv.kept{t':Nat}(I:Inv X pins σ H s)(k:∀ b u,s.heap.get? b=some u->h'.get? b=some u):Inv X pins σ H { s with heap:=h',toks:=t' }:=I.un (Un.kept k) (I.hok.kept k)
theorem Inv.laid{a:Addr}{o:HO}{t':Nat}(I:Inv X pins σ H s)(k:∀ b u,s.heap.get? b=some u->h'.get? b=some u)(hp:s.heap.objs.size<=a)(new:ObjOk X.prog X.w (upd H a o) h' a o) :
  Inv X pins σ (upd H a o) { s with heap:=h',toks:=t' }:=I.un (Un.laid k hp (I.hok.fresh hp)) (I.hok.laid k hp new)
theorem Inv.write{x e:Addr}{o:HO}{t':Nat}(I:Inv X pins σ H s)(mu:Mut (H x))(he:e=x\/H e=some (.own x))(k:∀ b u,b≠e->s.heap.get? b=some u->h'.get? b=some u)(heo:∃ u,h'.get? e=some u)
  (new:ObjOk X.prog X.w (upd H x o) h' x o):Inv X pins σ (upd H x o) { s with heap:=h',toks:=t' }:=I.un (Un.write mu he k heo) (I.hok.write mu he k heo new)
theorem Inv.pins_of{pins':List (Addr×Obj)}(I:Inv X pins σ H s)(h:∀ p∈pins',s.heap.get? p.1=some p.2/\H p.1=none/\p.1≠X.env.locals/\p.1∉X.fs/\∀ v,p.2.data≠.cell v):Inv X pins' σ H s:=
 ⟨I.ok,I.os,I.bare,I.base,I.loc,I.cell,I.free,I.freeC,fun p hp=>(eS.mp hp).elim (fun z=>I.pin p (dR _ z)) (h p),I.hok,I.len⟩
theorem Qi{N:List Str}(hN:N.Nodup){i j:Nat}{x:Str}(a:N[i]? = some x)(b:N[j]? = some x):i=j:=by
 obtain ⟨h1,e1⟩:=aQ.mp a
 obtain ⟨h2,e2⟩:=aQ.mp b
 exact (List.getElem_inj hN).mp (e1.trans e2.symm)
theorem Ab9{M:pB}{A:cG}{E:aE->aJ->Prop}{i:Nat}{x:Str}{v:V}{u:aE}{Q:Unit->aJ->Prop}(I:Inv X pins σ H s)(hN:X.N.Nodup)(hi:X.N[i]? = some x)(hx:Loc X.env.scope x)(r:RelV v u)
  (h:∀ s',Inv X pins (σ.set i (some v)) H s'->(∃ a,fZ a s.heap s'.heap/\(a=X.env.locals\/X.env.cells.lookup x=some a))->Q () s') (hf:X.fn x=true\/X.env.scope.names.lookup x=some .local:=by first | exact .inl rfl | exact .inr rfl | assumption):wpAny M A (storeName X.env x u) Q E s:=by
 obtain ⟨m,hn,hl⟩:=id I.loc
 have hcls:(X.env.scope.kind == .class || (X.env.scope.kind == .module&&X.env.locals != X.env.globals))=false:=by rw[I.ok.kind];rfl
 have hiσ:i < σ.length:=by rw[I.len];exact (aQ.mp hi).1
 have cne:=I.cne
 have tracked:∀ {a:Addr} {h':Heap},(∃ o,s.heap.get? a=some o/\H a=none)->fZ a s.heap h'->HOk X.prog X.w H h':=fun {a h'} ha hs b ob e=>by
  obtain ⟨_,_,hfree⟩:=ha
  refine (I.hok b ob e).stay (fun c w' hc q=>(hs.2 c ?_).trans q) (fun _ q=>q) fun _ _ q=>q
  rintro rfl
  rcases hc with rfl | hc
  ·rw[hfree] at e;cases e
  ·rw[hfree] at hc;cases hc
 rcases hx with hk | hk
 ·refine wpAny_storeName_local hk hn (fun h' hn' hs=>?_) hcls
  obtain ⟨oL,_,_,hoL,_⟩:=id hn
  refine h _ ⟨I.ok,I.os,I.bare,⟨fun b o e n hb hx=>?_,fun b o e n hb hx=>?_,I.base.free,fun b o e hx=>?_,I.base.tups,I.base.frzs,I.base.tbls⟩,⟨_,hn',fun j y v' e1 e2 e3=>?_⟩,fun y c e=>?_,I.free,I.freeC,fun p hp=>?_,tracked ⟨oL,hoL,I.free⟩ hs,by simpa using I.len⟩ ⟨_,hs,.inl rfl⟩
  ·exact (hs.2 b (bV (aU (aR e) I.ok.above))).trans (I.base.keep b o e n hb hx)
  ·obtain ⟨sl,e1⟩:=I.base.slot b o e n hb hx
   exact ⟨sl,(hs.2 b (bV (aU (aR e) I.ok.above))).trans e1⟩
  ·obtain ⟨o',e1⟩:=I.base.there b o e hx
   exact ⟨o',(hs.2 b (bV (aU (aR e) I.ok.above))).trans e1⟩
  ·by_cases hj:j=i
   ·subst hj
    rw[hi] at e1;cases e1
    rw[bU hiσ] at e2
    cases e2
    exact ⟨u,r,.inl ⟨hk,by simp⟩⟩
   ·rw[bI (cS hj)] at e2
    obtain ⟨u',r',q⟩:=hl j y v' e1 e2 e3
    refine ⟨u',r',?_⟩
    rcases q with ⟨k,e⟩ | ⟨k,c,e,z⟩
    ·refine .inl ⟨k,?_⟩
     have:y≠x:=fun e=>hj (Qi hN e1 (e ▸ hi))
     simp[this,e]
    ·exact .inr ⟨k,c,e,z.sameBut hs (cne y c e)⟩
  ·obtain ⟨w',z⟩:=I.cell y c e
   exact ⟨w',z.sameBut hs (cne y c e)⟩
  ·obtain ⟨e,n,ne,nf,d⟩:=I.pin p hp
   exact ⟨(hs.2 p.1 ne).trans e,n,ne,nf,d⟩
 ·have hfn:X.fn x=true:=by
   rcases hf with z | z
   ·exact z
   ·rw[z] at hk;cases hk
  obtain ⟨c,hc⟩:=I.ok.has x (.inl hk)
  obtain ⟨w',z⟩:=I.cell x c hc
  refine wpAny_storeName_cell I.ok.kind hk hc z (fun h' hc' hs=>?_)
  obtain ⟨oc,hoc,hocd⟩:=id z
  refine h { s with heap:=h' } ⟨I.ok,I.os,I.bare,⟨fun b o e n hb hx=>?_,fun b o e n hb hx=>?_,I.base.free,fun b o e hx=>?_,I.base.tups,I.base.frzs,I.base.tbls⟩,⟨m,hn.sameBut hs (cS (cne x c hc)),fun j y v' e1 e2 e3=>?_⟩,fun y c' e=>?_,I.free,I.freeC,fun p hp=>?_,tracked ⟨oc,hoc,I.freeC x c hc⟩ hs,by simpa using I.len⟩ ⟨c,hs,.inr hc⟩
  ·exact (hs.2 b (bV (aU (aR e) (I.ok.cab x c hfn hc)))).trans (I.base.keep b o e n hb hx)
  ·obtain ⟨sl,e1⟩:=I.base.slot b o e n hb hx
   exact ⟨sl,(hs.2 b (bV (aU (aR e) (I.ok.cab x c hfn hc)))).trans e1⟩
  ·obtain ⟨o',e1⟩:=I.base.there b o e hx
   exact ⟨o',(hs.2 b (bV (aU (aR e) (I.ok.cab x c hfn hc)))).trans e1⟩
  ·by_cases hj:j=i
   ·subst hj
    rw[hi] at e1;cases e1
    rw[bU hiσ] at e2
    cases e2
    exact ⟨u,r,.inr ⟨.inl hk,c,hc,hc'⟩⟩
   ·rw[bI (cS hj)] at e2
    obtain ⟨u',r',q⟩:=hl j y v' e1 e2 e3
    refine ⟨u',r',?_⟩
    rcases q with q | ⟨k,c',e,z'⟩
    ·exact .inl q
    ·refine .inr ⟨k,c',e,z'.sameBut hs ?_⟩
     rintro rfl
     exact hj (Qi hN e1 (I.ok.inj _ _ _ e hc ▸ hi))
  ·by_cases hcc:c'=c
   ·subst hcc;exact ⟨_,hc'⟩
   ·obtain ⟨w2,z2⟩:=I.cell y c' e
    exact ⟨w2,z2.sameBut hs hcc⟩
  ·obtain ⟨e,n,ne,nf,d⟩:=I.pin p hp
   refine ⟨(hs.2 p.1 ?_).trans e,n,ne,nf,d⟩
   intro q
   rw[q,hoc] at e
   have q':oc=p.2:=bQ e
   exact d w' (by rw[<- q'];exact hocd)
theorem Q6{M:pB}{A:cG}{E:aE->aJ->Prop}{i:Nat}{x:Str}{v:V}{u:aE}{Q:Unit->aJ->Prop}(I:Inv X pins σ H s)(hN:X.N.Nodup)(hi:X.N[i]? = some x)(hx:Loc X.env.scope x)(r:RelV v u)
  (h:∀ s',Inv X pins (σ.set i (some v)) H s'->Q () s') (hf:X.fn x=true\/X.env.scope.names.lookup x=some .local:=by first | exact .inl rfl | exact .inr rfl | assumption):wpAny M A (storeName X.env x u) Q E s:=
 Ab9 I hN hi hx r (fun s' I' _=>h s' I') hf
theorem Inv.call'{s':aJ}{ch:List Addr}(I:Inv X pins σ H s)(ho:s'.os=s.os)(u:Un (frs X.stack) ch H H' s.heap s'.heap)(hok:HOk X.prog X.w H' s'.heap)(hg:jI s'.gens)
  (hch:∀ b∈ch,(b∈X.ex\/X.s₀.heap.objs.size<=b)/\b≠X.env.locals/\(∀ x c,X.env.cells.lookup x=some c->c≠b)/\∀ p∈X.pn++pins,p.1≠b):Inv X pins σ H' s':=by
 obtain ⟨h',g',d',t',o'⟩:=s'
 have e:o'=s.os:=ho
 subst e
 exact I.call (g':=g') (t':=t') (d':=d') u hok hg hch
end
abbrev XK:=aE->Option Addr->Hp->Prop
abbrev St:=List (Option V)
abbrev VK:=V->Hp->Prop
abbrev TE:=St->Hp->VK->Prop
abbrev TT:=St->Hp->(Bool->Hp->Prop)->Prop
abbrev TA:=St->Hp->(List V->Hp->Prop)->Prop
structure Ends where
 nx:St->Hp->Prop
 rt:VK
 bk:St->Hp->Prop:=fun _ _=>False
 ct:St->Hp->Prop:=fun _ _=>False
abbrev TS:=Ends->St->Hp->Prop
inductive EP(X:Cx)(pins:List (Addr×Obj))(σ:St)(Q:VK)(u:aE)(s':aJ):Prop
 | mk (v:V) (H':Hp) (I:Inv X pins σ H' s') (r:RelV v u) (q:Q v H'):EP X pins σ Q u s'
inductive TP(X:Cx)(pins:List (Addr×Obj))(σ:St)(Q:Bool->Hp->Prop)(b:Bool)(s':aJ):Prop
 | mk (H':Hp) (I:Inv X pins σ H' s') (q:Q b H'):TP X pins σ Q b s'
inductive AP(X:Cx)(pins:List (Addr×Obj))(σ:St)(Q:List V->Hp->Prop)(us:List aE)(s':aJ):Prop
 | mk (vs:List V) (H':Hp) (I:Inv X pins σ H' s') (r:Vals vs us) (q:Q vs H'):AP X pins σ Q us s'
theorem EP.elim{X:Cx}{pins:List (Addr×Obj)}{σ:St}{Q:VK}{u:aE}{s':aJ}{C:Prop}(h:EP X pins σ Q u s')(k:∀ v H',Inv X pins σ H' s'->RelV v u->Q v H'->C):C:=h.rec k
theorem AP.elim{X:Cx}{pins:List (Addr×Obj)}{σ:St}{Q:List V->Hp->Prop}{us:List aE}{s':aJ}{C:Prop}(h:AP X pins σ Q us s')(k:∀ vs H',Inv X pins σ H' s'->Vals vs us->Q vs H'->C):C:=h.rec k
noncomputable def SP(X:Cx)(pins:List (Addr×Obj))(D:Ends)(f:Flow)(s':aJ):Prop:=
 match f with
 | .next=>∃ σ' H',Inv X pins σ' H' s'/\D.nx σ' H'
 | .brk=>∃ σ' H',Inv X pins σ' H' s'/\D.bk σ' H'
 | .cont=>∃ σ' H',Inv X pins σ' H' s'/\D.ct σ' H'
 | .ret u=>∃ v σ' H',Inv X pins σ' H' s'/\RelV v u/\D.rt v H'
noncomputable def PE(X:Cx)(e:Expr)(t:TE):Prop:=
 ∀ (pins:List (Addr×Obj)) (s:aJ) (σ:St) (H:Hp) (Q:VK),Inv X pins σ H s->t σ H Q->wpAny (model X.prog X.w) X.A (eval e X.env) (EP X pins σ Q) X.xe s
noncomputable def PT(X:Cx)(e:Expr)(t:TT):Prop:=
 ∀ (pins:List (Addr×Obj)) (s:aJ) (σ:St) (H:Hp) (Q:Bool->Hp->Prop),Inv X pins σ H s->t σ H Q->wpAny (model X.prog X.w) X.A (isTrue e X.env (eval e X.env)) (TP X pins σ Q) X.xe s
noncomputable def PW(X:Cx)(e:Expr)(t:TT):Prop:=
 ∀ (whole:Sem aE) (pins:List (Addr×Obj)) (s:aJ) (σ:St) (H:Hp) (Q:Bool->Hp->Prop),Inv X pins σ H s->t σ H Q->wpAny (model X.prog X.w) X.A (isTrue e X.env whole) (TP X pins σ Q) X.xe s
theorem PW.pt{X:Cx}{e:Expr}{t:TT}(h:PW X e t):PT X e t:=h _
noncomputable def PA(X:Cx)(es:List Expr)(t:TA):Prop:=
 ∀ (pos:Pos) (pins:List (Addr×Obj)) (s:aJ) (σ:St) (H:Hp) (Q:List V->Hp->Prop),Inv X pins σ H s->t σ H Q->wpAny (model X.prog X.w) X.A (spliced (backTo pos (bA es X.env))) (AP X pins σ Q) X.xe s
noncomputable def PS(X:Cx)(st:Stmt)(t:TS):Prop:=
 ∀ (pins:List (Addr×Obj)) (s:aJ) (σ:St) (H:Hp) (D:Ends),Inv X pins σ H s->t D σ H->wpAny (model X.prog X.w) X.A (exec st X.env) (SP X pins D) X.xe s
noncomputable def PSs(X:Cx)(st:List Stmt)(t:TS):Prop:=
 ∀ (pins:List (Addr×Obj)) (s:aJ) (σ:St) (H:Hp) (D:Ends),Inv X pins σ H s->t D σ H->wpAny (model X.prog X.w) X.A (execs st X.env) (SP X pins D) X.xe s
theorem thn{α:Type}{t:Sem α}{Q Q':α->aJ->Prop}{M:pB}{A:cG}{E:aE->aJ->Prop}{s:aJ}(h:wpAny M A t Q E s)(hQ:∀ a s,Q a s->Q' a s):wpAny M A t Q' E s:=cM h hQ fun _ _ x=>x
section
variable {X:Cx}
noncomputable def Aoe(i:Nat):TE:=fun σ H Q=>∃ v,σ[i]? = some (some v)/\Q v H
noncomputable def tC(v:V):TE:=fun _ H Q=>Q v H
theorem Aj3{i:Nat}{x:Str}{pos:Pos}(hN:X.N[i]? = some x)(hv:Vis X.env.scope x)(hd:(x == ("__debug__" : Str))=false:=by decide)(hcd:(x == ("__classdict__" : Str))=false:=by decide):PE X (.Name x pos) (Aoe i):=by
 intro pins s σ H Q I h
 obtain ⟨v,e,h⟩:=h
 obtain ⟨m,hn,hl⟩:=I.loc
 obtain ⟨u,r,l⟩:=hl i x v hN e hv
 have fin:EP X pins σ Q u s:=⟨v,H,I,r,h⟩
 rcases l with ⟨hk,hm⟩ | ⟨hk,c,hc,hcell⟩
 ·exact pC (wpAny_loadName_local I.ok.kind hk hn hm fin) hd
 ·rcases hk with hk | hk
  ·exact pC (wpAny_loadName_cell I.ok.kind hk hc hcell fin) hd
  ·exact pC (wpAny_loadName_free I.ok.kind hk hc hcell fin hcd) hd
theorem Alf{i j pos}:PE X (.Constant (.int i) j pos) (tC (.int i)):=fun _ _ _ H _ I h=>wpAny_Constant_int ⟨.int i,H,I.tok _,⟨_,rfl⟩,h⟩
theorem Amx{b j pos}:PE X (.Constant (.bool b) j pos) (tC (.bl b)):=fun _ _ _ H _ I h=>Constant_bool ⟨.bl b,H,I,rfl,h⟩
theorem Aku{j pos}:PE X (.Constant .none j pos) (tC .non):=fun _ _ _ H _ I h=>Constant_none ⟨.non,H,I,rfl,h⟩
theorem Akb{x j pos}:PE X (.Constant (.str x) j pos) (tC (.str x)):=fun _ _ _ H _ I h=>Calls.Constant_str ⟨.str x,H,I.tok _,⟨_,rfl⟩,h⟩
noncomputable def Gl(X:Cx)(x:Str):Prop:=X.env.kindOf x=some .globalImplicit
theorem Og{E:aE->aJ->Prop}{pins:List (Addr×Obj)}{s:aJ}{σ:St}{H:Hp}{x:Str}{u:aE}{pos:Pos}{Q:aE->aJ->Prop}(I:Inv X pins σ H s)(hg:Gl X x)(hm:X.mg x=some u)(h:Q u s)
  (hd:(x == ("__debug__" : Str))=false:=by decide):wpAny (model X.prog X.w) X.A (eval (.Name x pos) X.env) Q E s:=
 jN I.ok.kind hg (Calls.loadGlobal_global (by rw[I.ok.glob];exact I.mod.glob.keeps I.bk) hm h) hd
theorem Rj{E:aE->aJ->Prop}{pins:List (Addr×Obj)}{s:aJ}{σ:St}{H:Hp}{x:Str}{u:aE}{pos:Pos}{Q:aE->aJ->Prop}(I:Inv X pins σ H s)(hg:Gl X x)(hm:X.mg x=none)(hv:eT x=some u)(h:Q u s)
  (hn:x ≠ "__name__" := by decide) (hd:(x == ("__debug__" : Str))=false:=by decide):wpAny (model X.prog X.w) X.A (eval (.Name x pos) X.env) Q E s:=by
 obtain ⟨mb,h1,h2⟩:=I.mod.blt
 exact jN I.ok.kind hg (Calls.loadGlobal_builtin (by rw[I.ok.glob];exact I.mod.glob.keeps I.bk) hm (by rw[I.ok.blt];exact h1.keeps I.bk) ((h2 x hn).trans hv) h) hd
variable {a b:Expr}{ta tb:TE}{pos:Pos}
variable {tA tB':TT}{rest:List Expr}
noncomputable def Ant(t u:TT):TT:=fun σ H Q=>t σ H fun c H1=>if c=true then u σ H1 Q else Q false H1
noncomputable def tOr(t u:TT):TT:=fun σ H Q=>t σ H fun c H1=>if c=true then Q true H1 else u σ H1 Q
noncomputable def Aog(t:TT):TT:=fun σ H Q=>t σ H fun c H1=>Q (!c) H1
theorem Ahg(ha:PT X a tA):PW X (.BoolOp .And [a] pos) tA:=by
 intro wh pins s σ H Q I h
 refine isTrue_and (thn (ha pins s σ H Q I h) fun c s1 e=>?_)
 cases c with
 | true=>exact isTrue_and_nil e
 | false=>exact e
theorem Aj9(ha:PT X a tA):PW X (.BoolOp .Or [a] pos) tA:=by
 intro wh pins s σ H Q I h
 refine isTrue_or (thn (ha pins s σ H Q I h) fun c s1 e=>?_)
 cases c with
 | false=>exact isTrue_or_nil e
 | true=>exact e
theorem Aj7(ha:PT X a tA)(hb:PW X (.BoolOp .And (b::rest) pos) tB'):PW X (.BoolOp .And (a::b::rest) pos) (Ant tA tB'):=by
 intro wh pins s σ H Q I h
 refine isTrue_and (thn (ha pins s σ H _ I h) fun c s1 zz=>?_)
 obtain ⟨H1,I1,q1⟩:=zz
 cases c with
 | true=>exact hb wh pins s1 σ H1 Q I1 q1
 | false=>exact ⟨H1,I1,q1⟩
theorem Amy(ha:PT X a tA)(hb:PW X (.BoolOp .Or (b::rest) pos) tB'):PW X (.BoolOp .Or (a::b::rest) pos) (tOr tA tB'):=by
 intro wh pins s σ H Q I h
 refine isTrue_or (thn (ha pins s σ H _ I h) fun c s1 zz=>?_)
 obtain ⟨H1,I1,q1⟩:=zz
 cases c with
 | true=>exact ⟨H1,I1,q1⟩
 | false=>exact hb wh pins s1 σ H1 Q I1 q1
theorem Ajm(ha:PT X a tA):PT X (.UnaryOp .Not a pos) (Aog tA):=by
 intro pins s σ H Q I h
 exact isTrue_not (thn (ha pins s σ H (fun c H1=>Q (!c) H1) I h) fun _ _ z=>z.rec fun H' I' q=>⟨H',I',q⟩)
noncomputable def Al5(ta tb:TE):TE:=fun σ H Q=>ta σ H fun x H1=>∃ c,x = .bl c/\if c=true then tb σ H1 Q else Q (.bl false) H1
theorem Ajx{op}{t:TE}(h:PE X a t):PE X (.BoolOp op [a] pos) t:=fun pins s σ H Q I hw=>BoolOp_one (h pins s σ H Q I hw)
theorem Ai8(ha:PE X a ta)(hb:PE X (.BoolOp .And (b::rest) pos) tb):PE X (.BoolOp .And (a::b::rest) pos) (Al5 ta tb):=by
 intro pins s σ H Q I h
 refine BoolOp_and (thn (ha pins s σ H _ I h) fun v s1 zz=>?_)
 obtain ⟨x,H1,I1,r1,q1⟩:=zz
 obtain ⟨c,rfl,q1⟩:=q1
 cases r1
 refine fR ?_
 cases c with
 | true=>exact hb pins s1 σ H1 Q I1 q1
 | false=>exact ⟨.bl false,H1,I1,rfl,q1⟩
end
noncomputable def SqL(K:aC)(H:Hp)(a:Addr)(xs:List V):Prop:=
 Rd H a (.lst xs) \/
  ∃ (o:Obj) (its:Array aE) (n:Nat),K.lookup a=some o/\o.cls = .type "list" /\ o.dict=none/\o.data = .seq its n/\its.size<=sizeLine/\Vals xs its.toList
noncomputable def SqT(K:aC)(H:Hp)(a:Addr)(xs:List V):Prop:=
 Rd H a (.tup xs) \/
  ∃ (o:Obj) (its:Array aE) (n:Nat),K.lookup a=some o/\(o.cls,o.dict)=(lB "tuple",(none:Option Addr))/\o.data = .seq its n/\its.size<=sizeLine/\Vals xs its.toList
noncomputable def Aom:aE->Option V
 | .none=>some .non
 | .bool b=>some (.bl b)
 | .int i _=>some (.int i)
 | .str x _=>some (.str x)
 | .bytes b _=>some (.byt b)
 | .float b _=>some (.flt b)
 | .ref a=>some (.ref a)
 | .type n=>some (.ty n)
 | _=>none
theorem RelV.abs{x:V}{u:aE}(r:RelV x u):Aom u=some x:=by
 cases x with
 | non=>cases r;rfl
 | bl _=>cases r;rfl
 | int _=>obtain ⟨t,rfl⟩:=r;rfl
 | str _=>obtain ⟨t,rfl⟩:=r;rfl
 | byt _=>obtain ⟨t,rfl⟩:=r;rfl
 | flt _=>obtain ⟨t,rfl⟩:=r;rfl
 | ref _=>cases r;rfl
 | ty _=>cases r;rfl
theorem RelV.inj{x y:V}{u:aE}(r:RelV x u)(q:RelV y u):x=y:=bQ (r.abs.symm.trans q.abs)
theorem Vals.inj{xs ys:List V}{us:List aE}(h:Vals xs us)(h':Vals ys us):xs=ys:=by
 induction h generalizing ys with
 | nil=>cases h';rfl
 | cons r t ih=>
  cases h' with
  | cons r' t'=>rw[r.inj r',ih t']
section
variable {X:Cx}{pins:List (Addr×Obj)}{σ:St}{H:Hp}{s:aJ}{a:Addr}{xs ys:List V}
theorem SqL.of{K:aC}(h:H a=some (.lst xs)):SqL K H a xs:=.inl (.inl h)
theorem SqT.of{K:aC}(h:H a=some (.tup xs)):SqT K H a xs:=.inl (.inl h)
theorem Inv.list(I:Inv X pins σ H s)(h:SqL X.K H a xs):∃ its:List aE,Vals xs its/\PlainL s.heap a its.toArray/\xs.length<=sizeLine:=by
 rcases h with h | ⟨o,its,n,hk,hc,hd,hs,hz,r⟩
 ·obtain ⟨z,its,n,r,e⟩:=h.ok I.hok
  exact ⟨its,r,⟨_,n,e,rfl,rfl,rfl⟩,z⟩
 ·refine ⟨its.toList,r,⟨o,n,I.kIn a o hk,hc,hd,by simpa using hs⟩,?_⟩
  have e:=r.length
  simp only[cO] at e
  omega
theorem Inv.tupleN(I:Inv X pins σ H s)(h:SqT X.K H a xs):∃ its:List aE,Vals xs its/\TupN s.heap a its.toArray/\xs.length<=sizeLine:=by
 rcases h with h | ⟨o,its,n,hk,hc,hs,hz,r⟩
 ·obtain ⟨z,its,r,p⟩:=h.ok I.hok
  exact ⟨its,r,p,z⟩
 ·refine ⟨its.toList,r,⟨o,I.kIn a o hk,hc,n,by simpa using hs⟩,?_⟩
  have e:=r.length
  simp only[cO] at e
  omega
theorem Inv.tuple(I:Inv X pins σ H s)(h:SqT X.K H a xs):∃ its:List aE,Vals xs its/\IsTup s.heap a its.toArray/\xs.length<=sizeLine:=by
 obtain ⟨its,r,p,z⟩:=I.tupleN h
 exact ⟨its,r,p.is,z⟩
theorem Inv.list_inj(I:Inv X pins σ H s)(h:SqL X.K H a xs)(h':SqL X.K H a ys):xs=ys:=by
 obtain ⟨its,r,⟨o,n,e,_,_,d⟩,_⟩:=I.list h
 obtain ⟨its',r',⟨o',n',e',_,_,d'⟩,_⟩:=I.list h'
 rw[e] at e';cases e'
 rw[d] at d'
 injection d' with d1 _
 have:its=its':=by simpa using congrArg pT d1
 subst this
 exact r.inj r'
theorem Inv.tuple_inj(I:Inv X pins σ H s)(h:SqT X.K H a xs)(h':SqT X.K H a ys):xs=ys:=by
 obtain ⟨its,r,⟨o,e,_,n,d⟩,_⟩:=I.tuple h
 obtain ⟨its',r',⟨o',e',_,n',d'⟩,_⟩:=I.tuple h'
 rw[e] at e';cases e'
 rw[d] at d'
 injection d' with d1 _
 have:its=its':=by simpa using congrArg pT d1
 subst this
 exact r.inj r'
end
abbrev Cx.wish(X:Cx)(E:aE->aJ->Prop):Cx:={ X with xe:=E }
abbrev Cx.nox(X:Cx):Cx:=X.wish fun _ _=>False
theorem Cx.Ok.wish{X:Cx}(ok:X.Ok)(E:aE->aJ->Prop):(X.wish E).Ok:=
 ⟨ok.mod,ok.kind,ok.glob,ok.blt,ok.above,ok.inj,ok.has,ok.cab,ok.hd,ok.frames,ok.stk,ok.exf,ok.bs,ok.bsz,ok.noex,ok.exfs,ok.funs,ok.frf⟩
theorem Cx.Ok.unwish{X:Cx}{E:aE->aJ->Prop}(ok:(X.wish E).Ok):X.Ok:=
 ⟨ok.mod,ok.kind,ok.glob,ok.blt,ok.above,ok.inj,ok.has,ok.cab,ok.hd,ok.frames,ok.stk,ok.exf,ok.bs,ok.bsz,ok.noex,ok.exfs,ok.funs,ok.frf⟩
section
variable {X:Cx}{pins:List (Addr×Obj)}{σ:St}{H:Hp}{s:aJ}{E:aE->aJ->Prop}
theorem Inv.wish(I:Inv X pins σ H s)(E:aE->aJ->Prop):Inv (X.wish E) pins σ H s:=⟨I.ok.wish E,I.os,I.bare,I.base,I.loc,I.cell,I.free,I.freeC,I.pin,I.hok,I.len⟩
theorem Inv.unwish(I:Inv (X.wish E) pins σ H s):Inv X pins σ H s:=⟨I.ok.unwish,I.os,I.bare,I.base,I.loc,I.cell,I.free,I.freeC,I.pin,I.hok,I.len⟩
theorem SP.unwish{D:Ends}{f:Flow}{s':aJ}(h:SP (X.wish E) pins D f s'):SP X pins D f s':=by
 cases f with
 | next=>obtain ⟨σ',H',I,q⟩:=h;exact ⟨σ',H',I.unwish,q⟩
 | brk=>obtain ⟨σ',H',I,q⟩:=h;exact ⟨σ',H',I.unwish,q⟩
 | cont=>obtain ⟨σ',H',I,q⟩:=h;exact ⟨σ',H',I.unwish,q⟩
 | ret u=>obtain ⟨v,σ',H',I,r,q⟩:=h;exact ⟨v,σ',H',I.unwish,r,q⟩
theorem PSs.nox{st:List Stmt}{t:TS}(h:PSs X.nox st t):PSs X st t:=fun pins s σ H D I hw=>
 cM (h pins s σ H D (I.wish _) hw) (fun _ _ q=>q.unwish) fun _ _ z=>dF z
end
section
variable {X:Cx}{st:Stmt}{rest:List Stmt}{t u:TS}{e:Expr}{te:TE}{pos:Pos}
noncomputable def Amh:TS:=fun D σ H=>D.nx σ H
noncomputable def An2(t u:TS):TS:=fun D σ H=>t { D with nx:=u D } σ H
theorem Agc:PSs X [] Amh:=fun _ _ σ H _ I h=>iW ⟨σ,H,I,h⟩
theorem Ac1(h1:PS X st t)(h2:PSs X rest u):PSs X (st::rest) (An2 t u):=by
 intro pins s σ H D I h
 refine iI (thn (h1 pins s σ H { D with nx:=u D } I h) fun f s1 q=>?_)
 cases f with
 | next=>
  obtain ⟨σ',H',I',q⟩:=q
  exact h2 pins s1 σ' H' D I' q
 | ret v=>exact q
 | brk=>exact q
 | cont=>exact q
theorem Aga(h1:PS X st t):PSs X [st] t:=by
 intro pins s σ H D I h
 refine iI (thn (h1 pins s σ H D I h) fun f s1 q=>?_)
 cases f with
 | next=>exact iW q
 | ret v=>exact q
 | brk=>exact q
 | cont=>exact q
theorem Inv.quiet{pins:List (Addr×Obj)}{σ:St}{H:Hp}{s:aJ}(I:Inv X pins σ H s):interactive X.env=false:=by simp[interactive,I.ok.kind]
noncomputable def Amw(te:TE):TS:=fun D σ H=>te σ H fun _ H1=>D.nx σ H1
theorem Ahb(he:PE X e te)(hs:swapsWith e none pos.line X.env=pure false:=by rfl):PS X (.Expr e pos) (Amw te):=by
 intro pins s σ H D I h
 exact wpAny_Expr_any (thn (he pins s σ H _ I h) fun v s1 zz=>by obtain ⟨x,H1,I1,r1,q1⟩:=zz;exact ⟨σ,H1,I1,q1⟩) I.quiet hs
noncomputable def An5(te:TE):TS:=fun D σ H=>te σ H D.rt
theorem Ajn(he:PE X e te):PS X (.Return (some e) pos) (An5 te):=by
 intro pins s σ H D I h
 exact wpAny_Return_some (thn (he pins s σ H _ I h) fun v s1 zz=>by obtain ⟨x,H1,I1,r1,q1⟩:=zz;exact ⟨x,σ,H1,I1,r1,q1⟩)
noncomputable def Aoi(c:TT)(t u:TS):TS:=fun D σ H=>c σ H fun b H1=>if b=true then t D σ H1 else u D σ H1
theorem Anh{c:Expr}{a b:List Stmt}{tc:TT}(hc:PT X c tc)(ha:PSs X a t)(hb:PSs X b u):PS X (.If c a b pos) (Aoi tc t u):=by
 intro pins s σ H D I h
 refine wpAny_If (thn (hc pins s σ H _ I h) fun d s1 zz=>?_)
 obtain ⟨H1,I1,q1⟩:=zz
 cases d with
 | true=>exact ha pins s1 σ H1 D I1 q1
 | false=>exact hb pins s1 σ H1 D I1 q1
noncomputable def Ajc:TS:=fun _ _ _=>False
theorem Ac7:PS X st Ajc:=fun _ _ _ _ _ _ h=>h.elim
end
abbrev TG:=V->St->Hp->(St->Hp->Prop)->Prop
abbrev TGs:=List V->St->Hp->(St->Hp->Prop)->Prop
noncomputable def PG(X:Cx)(target:Expr)(t:TG):Prop:=
 ∀ (pins:List (Addr×Obj)) (s:aJ) (σ:St) (H:Hp) (v:V) (u:aE) (Q:St->Hp->Prop),Inv X pins σ H s->RelV v u->t v σ H Q ->
  wpAny (model X.prog X.w) X.A (assign target X.env u) (fun _ s'=>∃ σ' H',Inv X pins σ' H' s'/\Q σ' H') X.xe s
noncomputable def PGs(X:Cx)(ts:List Expr)(t:TGs):Prop:=
 ∀ (pins:List (Addr×Obj)) (s:aJ) (σ:St) (H:Hp) (vs:List V) (us:List aE) (Q:St->Hp->Prop),Inv X pins σ H s->Vals vs us->t vs σ H Q ->
  wpAny (model X.prog X.w) X.A (assignInOrder ((assignEach ts X.env).map (·.2)) us) (fun _ s'=>∃ σ' H',Inv X pins σ' H' s'/\Q σ' H') X.xe s
abbrev Aky:=V->V->V->Hp->(Hp->Prop)->Prop
noncomputable def Am5(X:Cx)(t:Aky):Prop:=
 ∀ (pins:List (Addr×Obj)) (s:aJ) (σ:St) (H:Hp) (o i v:V) (ov iv u:aE) (Q:Hp->Prop),Inv X pins σ H s->RelV o ov->RelV i iv->RelV v u->t o i v H Q ->
  wpAny (model X.prog X.w) X.A (setItem ov iv u) (fun _ s'=>∃ H',Inv X pins σ H' s'/\Q H') X.xe s
section
variable {X:Cx}{pos:Pos}
noncomputable def Vl(i:Nat):TG:=fun v σ H Q=>Q (σ.set i (some v)) H
theorem Aax{i:Nat}{x:Str}(hN:X.N.Nodup)(hi:X.N[i]? = some x)(hx:Loc X.env.scope x)(hf:X.fn x=true\/X.env.scope.names.lookup x=some .local:=by first | exact .inl rfl | exact .inr rfl | assumption):PG X (.Name x pos) (Vl i):=by
 intro pins s σ H v u Q I r h
 exact wpAny_assign_Name (Q6 I hN hi hx r (fun s' I'=>⟨_,H,I',h⟩) hf)
noncomputable def gNil:TGs:=fun vs σ H Q=>vs=[]/\Q σ H
noncomputable def gCons(t:TG)(u:TGs):TGs:=fun vs σ H Q=>∃ v r,vs=v::r/\t v σ H fun σ' H'=>u r σ' H' Q
theorem Ahs:PGs X [] gNil:=by
 intro pins s σ H vs us Q I r h
 obtain ⟨e,h⟩:=h
 subst e
 cases r
 exact assignInOrder_nil ⟨σ,H,I,h⟩
theorem Afr{e:Expr}{es:List Expr}{t:TG}{u:TGs}(h1:PG X e t)(h2:PGs X es u)
  (hs:(assignEach (e::es) X.env).map (·.2)=assign e X.env::(assignEach es X.env).map (·.2):=by rfl):PGs X (e::es) (gCons t u):=by
 intro pins s σ H vs us Q I r h
 obtain ⟨v,vr,e1,h⟩:=h
 subst e1
 cases r with
 | cons r rr=>
  rw[hs]
  refine assignInOrder_cons (thn (h1 pins s σ H _ _ _ I r h) fun _ s1 zz=>?_)
  obtain ⟨σ1,H1,I1,q1⟩:=zz
  exact h2 pins s1 σ1 H1 _ _ Q I1 rr q1
noncomputable def gTup(K:aC)(n:Nat)(t:TGs):TG:=fun v σ H Q=>∃ a xs,v = .ref a/\SqT K H a xs/\xs.length=n/\t xs σ H Q
theorem Ak1{es:List Expr}{k:Nat}{t:TGs}{n:Nat}(hc:X.calm=true)(h:PGs X es t)
  (hn:(assignEach es X.env).length=n:=by rfl) (hst:(assignEach es X.env).findIdx? (·.1)=none:=by rfl):PG X (.Tuple es k pos) (gTup X.K n t):=by
 intro pins s σ H v u Q I r hw
 obtain ⟨a,xs,e1,hq,hl,hw⟩:=hw
 subst e1
 cases r
 obtain ⟨its,rv,ht,hz⟩:=I.tuple hq
 refine assign_Tuple_tuple (I.ok.hd hc) ht (by simp[hn,<- hl,rv.length]) hst fun h' hx=>?_
 have I1:Inv X pins σ H { s with heap:=h' }:=I.kept (t':=s.toks) fun b o e=>hx b o (bV (aR e)) e
 exact h pins _ σ H xs _ Q I1 (by simpa using rv) hw
noncomputable def gSub(to ti:TE)(t:Aky):TG:=fun v σ H Q=>to σ H fun o H1=>ti σ H1 fun i H2=>t o i v H2 fun H3=>Q σ H3
theorem Ai5{o i:Expr}{to ti:TE}{t:Aky}(ho:PE X o to)(hi:PE X i ti)(hs:Am5 X t)
  (ha:∀ v,assign (.Subscript o i pos) X.env v=(do
   let ov <- holding [v] (eval o X.env)
   let iv <- holding [v,ov] (eval i X.env)
   standAt pos
   holding [v,ov,iv] (setItem ov iv v)
   release [v,ov,iv] []):=by intro _;rfl):PG X (.Subscript o i pos) (gSub to ti t):=by
 intro pins s σ H v u Q I r h
 rw[ha]
 refine aF (dA (thn (ho pins s σ H _ I h) fun ov s1 zz=>?_))
 obtain ⟨x,H1,I1,r1,q1⟩:=zz
 refine aF (dA (thn (hi pins s1 σ H1 _ I1 q1) fun iv s2 zz=>?_))
 obtain ⟨y,H2,I2,r2,q2⟩:=zz
 refine aF (gI (aF (dA (thn (hs pins s2 σ H2 x y v ov iv u _ I2 r1 r2 r q2) fun _ s3 zz=>?_))))
 obtain ⟨H3,I3,q3⟩:=zz
 exact wpAny_release ⟨σ,H3,I3,q3⟩
noncomputable def Age(te:TE)(g:TG):TS:=fun D σ H=>te σ H fun x H1=>g x σ H1 D.nx
theorem Aj8{tg e:Expr}{te:TE}{g:TG}(he:PE X e te)(hg:PG X tg g)(hs:swapsWithSole [tg] e pos.line X.env=pure false:=by rfl)(hw:swappedStores [tg] e X.env=pure none:=by rfl)
  (h1:(assignEach [tg] X.env).map (·.2)=[assign tg X.env]:=by rfl):PS X (.Assign [tg] e pos) (Age te g):=by
 intro pins s σ H D I h
 refine wpAny_Assign_stores (thn (he pins s σ H _ I h) fun v s1 zz=>zz.elim fun x H1 I1 r1 q1=>?_) hs hw
 rw[h1]
 exact thn (hg pins s1 σ H1 x v _ I1 r1 q1) fun _ s2 q=>q
theorem Ald{i:Nat}{x:Str}{e:Expr}{te:TE}{pos':Pos}(hN:X.N.Nodup)(hi:X.N[i]? = some x)(hx:Loc X.env.scope x)(he:PE X e te)(hs:swapsWith e (some (.Name x pos')) pos.line X.env=pure false:=by rfl)(hf:X.fn x=true\/X.env.scope.names.lookup x=some .local:=by first | exact .inl rfl | exact .inr rfl | assumption) :
  PS X (.Assign [.Name x pos'] e pos) (Age te (Vl i)):=by
 intro pins s σ H D I h
 refine wpAny_Assign_Name (thn (he pins s σ H _ I h) fun v s1 zz=>zz.elim fun y H1 I1 r1 q1=>?_) hs
 exact Q6 I1 hN hi hx r1 (fun s2 I2=>⟨_,H1,I2,q1⟩) hf
end
section
variable {X:Cx}{pos:Pos}
end
structure It where
 go:Nat->Hp->Prop
 yld:Nat->Hp->V->Hp->Prop
 stop:Nat->Hp->Prop
noncomputable def Mj(X:Cx)(pins:List (Addr×Obj))(H:Hp)(b:Addr):Prop:=
 H b=none/\b≠X.env.locals/\b∉X.fs/\(b∈X.ex\/X.s₀.heap.objs.size<=b)/\(∀ x c,X.env.cells.lookup x=some c->c≠b)/\∀ p∈X.pn++pins,p.1≠b
theorem Inv.fpOk{X:Cx}{pins:List (Addr×Obj)}{σ:St}{H H':Hp}{s:aJ}{b:Addr}(I:Inv X pins σ H s)(hb:s.heap.objs.size<=b)(hn:H' b=none):Mj X pins H' b:=by
 refine ⟨hn,gC (aU I.lt hb),I.nofs hb,.inr (cC I.sz hb),fun x c e z=>?_,fun p hp z=>?_⟩
 ·obtain ⟨v,q⟩:=I.cell x c e
  exact absurd (aU q.lt (by rw[z];exact hb)) (dL _)
 ·exact absurd (aU (aR (I.pin p hp).1) (by rw[z];exact hb)) (dL _)
structure Turn(P:bP)(w:cE)(K:aC)(tg:Expr)(J:It)(fp:List Addr)(it:Addr)(tn:Nat->Heap->Prop):Prop where
 mem:it∈fp
 obj:∀ i h,tn i h->∀ b∈fp,∃ o,h.get? b=some o/\∀ v,o.data≠.cell v
 keep:∀ i h h',tn i h->(∀ b∈fp,∀ o,h.get? b=some o->h'.get? b=some o)->tn i h'
 item:∀ (X:Cx),X.prog=P->X.w=w->X.K=K->X.calm=true->∀ (i:Nat) (pins:List (Addr×Obj)) (s:aJ) (σ:St) (H:Hp) (E:aE->aJ->Prop),Inv X pins σ H s->(∀ b∈fp,Mj X pins H b)->tn i s.heap->J.go i H ->
  wpAny (model P w) X.A (pyNext (.ref it)) (fun r s1=>∃ u,r=some u /\
   wpAny (model P w) X.A (letOwnedTupleGo tg (.ref it) u) (fun _ s2=>∃ x H',Inv X pins σ H' s2/\RelV x u/\J.yld i H x H'/\tn (i+1) s2.heap/\∀ b∈fp,H' b=none) E s1) E s
 done:∀ (X:Cx),X.prog=P->X.w=w->X.K=K->X.calm=true->∀ (i:Nat) (pins:List (Addr×Obj)) (s:aJ) (σ:St) (H:Hp) (E:aE->aJ->Prop),Inv X pins σ H s->(∀ b∈fp,Mj X pins H b)->tn i s.heap->J.stop i H ->
  wpAny (model P w) X.A (pyNext (.ref it)) (fun r s1=>r=none/\Inv X pins σ H s1) E s
 self:∀ (A:cG) (i:Nat) (s:aJ) (Q:aE->aJ->Prop) (E:aE->aJ->Prop),tn i s.heap->Q (.ref it) s->wpAny (model P w) A (pyIter (.ref it)) Q E s
abbrev TI:=St->Hp->(It->Hp->Prop)->Prop
noncomputable def PIE(X:Cx)(pins:List (Addr×Obj))(σ:St)(tg:Expr)(R:It->Hp->Prop)(itv:aE)(s2:aJ):Prop:=
 ∃ (it:Addr) (fp:List Addr) (tn:Nat->Heap->Prop) (J:It) (H':Hp),itv = .ref it/\Inv X pins σ H' s2/\Turn X.prog X.w X.K tg J fp it tn/\tn 0 s2.heap/\(∀ b∈fp,Mj X pins H' b)/\R J H'
noncomputable def PI(X:Cx)(tg iter:Expr)(wi:TI):Prop:=
 ∀ (pins:List (Addr×Obj)) (s:aJ) (σ:St) (H:Hp) (R:It->Hp->Prop),Inv X pins σ H s->wi σ H R ->
  wpAny (model X.prog X.w) X.A (eval iter X.env) (fun v s1=>wpAny (model X.prog X.w) X.A (pyIter v) (PIE X pins σ tg R) X.xe s1) X.xe s
theorem Ym{M:pB}{A:cG}{E:aE->aJ->Prop}{s:aJ}{tg:Expr}{it:Addr}{u:aE}{o:Obj}{n:String}{vs:Array aE}{Q:Unit->aJ->Prop}(ho:s.heap.get? it=some o)(hc:o.cls = .type n)(hd:o.data = .fields vs)
  (hn:["enumerate","zip","dict_itemiterator","dict_reverseitemiterator","odict_iterator","itertools.zip_longest","itertools.pairwise"].contains n=false) (hQ:Q () s):wpAny M A (letOwnedTupleGo tg (.ref it) u) Q E s:=by
 unfold letOwnedTupleGo
 cases tg <;> first
  | exact aT hQ
  | (cases u <;> first
    | exact aT hQ
    | (refine aF (wpAny_load ho ?_)
       rw[hc,hd]
       show wpAny M A (if (["enumerate","zip","dict_itemiterator","dict_reverseitemiterator","odict_iterator","itertools.zip_longest","itertools.pairwise"].contains n&&vs[0]? == some (rawInt _))=true then _ else _) Q E s
       rw[if_neg (by intro h;rw[hn,Bool.false_and] at h;cases h)]
       exact aT hQ))
noncomputable def Itl(K:aC)(a:Addr):It:=
 ⟨fun i H=>∃ xs x,SqL K H a xs/\xs[i]? = some x,fun i H x H'=>H'=H/\∀ xs,SqL K H a xs->xs[i]? = some x,fun i H=>∃ xs,SqL K H a xs/\xs.length<=i⟩
noncomputable def Itt(K:aC)(a:Addr):It:=
 ⟨fun i H=>∃ xs x,SqT K H a xs/\xs[i]? = some x,fun i H x H'=>H'=H/\∀ xs,SqT K H a xs->xs[i]? = some x,fun i H=>∃ xs,SqT K H a xs/\xs.length<=i⟩
noncomputable def Itr(lo:Int)(n:Nat):It:=⟨fun i _=>i < n,fun i H x H'=>H'=H/\x = .int (lo+i),fun i _=>n<=i⟩
theorem Abq{P:bP}{w:cE}{K:aC}{tg:Expr}(a it:Addr):Turn P w K tg (Itl K a) [it] it (fun i h=>h.IsListIter it a i) where
 mem:=by simp
 obj:=fun i h st b hb=>by
  have e:b=it:=by simpa using hb
  subst e
  obtain ⟨o,e,c,d⟩:=st
  exact ⟨o,e,fun v z=>by rw[d] at z;cases z⟩
 keep:=fun i h h' st k=>st.at fun o e=>k it (by simp) o e
 item:=by
  intro X hP hw hK hc i pins s σ H E I hf st hg
  subst hP hw hK
  obtain ⟨xs,x,hq,hx⟩:=hg
  obtain ⟨its,rv,p,hz⟩:=I.list hq
  obtain ⟨u,hu,ru⟩:=rv.get hx
  obtain ⟨f0,f1,f2,f3,f4,f5⟩:=hf it (by simp)
  refine lD st p.isList (x:=u) (by simpa using hu) fun h' st' sb=>?_
  have I1:Inv X pins σ H { s with heap:=h' }:=I.turned (t':=s.toks) (fun b o hb e=>(sb.2 b hb).trans e) f0 f1 f3 f4 f5
  obtain ⟨o,e,c,d⟩:=id st'
  exact ⟨u,rfl,Ym (s:={ s with heap:=h' }) e c d (by decide) ⟨x,H,I1,ru,⟨rfl,fun ys hy=>by rw[I.list_inj hy hq];exact hx⟩,st',fun b hb=>(hf b hb).1⟩⟩
 done:=by
  intro X hP hw hK hc i pins s σ H E I hf st hg
  subst hP hw hK
  obtain ⟨xs,hq,hx⟩:=hg
  obtain ⟨its,rv,p,hz⟩:=I.list hq
  obtain ⟨f0,f1,f2,f3,f4,f5⟩:=hf it (by simp)
  have hl:=rv.length
  exact lU (I.ok.hd hc) st p.isList (by simp;omega) fun h' eb=>⟨rfl,I.turned (t':=s.toks) (fun b o hb e=>eb b o hb e) f0 f1 f3 f4 f5⟩
 self:=fun _ _ _ _ _ st h=>wpAny_pyIter_listiter st h
theorem X2{P:bP}{w:cE}{K:aC}{tg:Expr}(a it:Addr):Turn P w K tg (Itt K a) [it] it (fun i h=>h.IsTupleIter it a i) where
 mem:=by simp
 obj:=fun i h st b hb=>by
  have e:b=it:=by simpa using hb
  subst e
  obtain ⟨o,e,c,d⟩:=st
  exact ⟨o,e,fun v z=>by rw[d] at z;cases z⟩
 keep:=fun i h h' st k=>st.at fun o e=>k it (by simp) o e
 item:=by
  intro X hP hw hK hc i pins s σ H E I hf st hg
  subst hP hw hK
  obtain ⟨xs,x,hq,hx⟩:=hg
  obtain ⟨its,rv,p,hz⟩:=I.tuple hq
  obtain ⟨u,hu,ru⟩:=rv.get hx
  obtain ⟨f0,f1,f2,f3,f4,f5⟩:=hf it (by simp)
  refine wpAny_pyNext_tuple_item st (show s.heap.IsTuple a its.toArray from p) (x:=u) (by simpa using hu) fun h' st' sb=>?_
  have I1:Inv X pins σ H { s with heap:=h' }:=I.turned (t':=s.toks) (fun b o hb e=>(sb.2 b hb).trans e) f0 f1 f3 f4 f5
  obtain ⟨o,e,c,d⟩:=id st'
  exact ⟨u,rfl,Ym (s:={ s with heap:=h' }) e c d (by decide) ⟨x,H,I1,ru,⟨rfl,fun ys hy=>by rw[I.tuple_inj hy hq];exact hx⟩,st',fun b hb=>(hf b hb).1⟩⟩
 done:=by
  intro X hP hw hK hc i pins s σ H E I hf st hg
  subst hP hw hK
  obtain ⟨xs,hq,hx⟩:=hg
  obtain ⟨its,rv,p,hz⟩:=I.tuple hq
  obtain ⟨f0,f1,f2,f3,f4,f5⟩:=hf it (by simp)
  have hl:=rv.length
  exact wpAny_pyNext_tuple_end (I.ok.hd hc) st (show s.heap.IsTuple a its.toArray from p) (by simp;omega) fun h' eb=>⟨rfl,I.turned (t':=s.toks) (fun b o hb e=>eb b o hb e) f0 f1 f3 f4 f5⟩
 self:=fun _ _ _ _ _ st h=>wpAny_pyIter_tupleiter st h
theorem Xg{P:bP}{w:cE}{K:aC}{tg:Expr}(it:Addr)(lo:Int)(n:Nat):Turn P w K tg (Itr lo n) [it] it (fun i h=>IsRangeIter h it (lo+(i:Nat) * 1) ((n:Int) - (i:Nat)) 1) where
 mem:=by simp
 obj:=fun i h st b hb=>by
  have e:b=it:=by simpa using hb
  subst e
  exact ⟨_,st,fun v z=>by
   have z':Data.fields _=Data.cell v:=z
   cases z'⟩
 keep:=fun i h h' st k=>k it (by simp) _ st
 item:=by
  intro X hP hw hK hc i pins s σ H E I hf st hg
  subst hP hw hK
  obtain ⟨f0,f1,f2,f3,f4,f5⟩:=hf it (by simp)
  have W:=Walks.range (prog:=X.prog) (w:=X.w) (I.ok.hd hc) it lo 1 n
  refine W.item i s _ _ hg st fun v h' tk hv st' kk=>?_
  obtain ⟨t,rfl⟩:=hv
  have I1:Inv X pins σ H { s with heap:=h',toks:=tk }:=I.turned (fun b o hb e=>kk b o (by simpa using hb) e) f0 f1 f3 f4 f5
  refine ⟨_,rfl,Ym (s:={ s with heap:=h',toks:=tk }) (n := "range_iterator") st' rfl rfl (by decide) ⟨.int (lo+i),H,I1,⟨t,?_⟩,⟨rfl,rfl⟩,st',fun b hb=>(hf b hb).1⟩⟩
  rw[Int.mul_one]
 done:=by
  intro X hP hw hK hc i pins s σ H E I hf st hg
  subst hP hw hK
  obtain ⟨f0,f1,f2,f3,f4,f5⟩:=hf it (by simp)
  exact wpAny_pyNext_range_end (I.ok.hd hc) st (by have:n<=i:=hg;omega) fun h' eb=>⟨rfl,I.turned (t':=s.toks) (fun b o hb e=>eb b o hb e) f0 f1 f3 f4 f5⟩
 self:=fun _ _ _ _ _ st h=>wpAny_pyIter_rangeiter st h
section
variable {X:Cx}{tg:Expr}
noncomputable def Amp(K:aC)(tl:TE):TI:=fun σ H R=>tl σ H fun x H1=>∃ a,x = .ref a/\(∃ xs,SqL K H1 a xs)/\R (Itl K a) H1
noncomputable def Aol(K:aC)(tl:TE):TI:=fun σ H R=>tl σ H fun x H1=>∃ a,x = .ref a/\(∃ xs,SqT K H1 a xs)/\R (Itt K a) H1
theorem Ag5{l:Expr}{tl:TE}(hl:PE X l tl):PI X tg l (Amp X.K tl):=by
 intro pins s σ H R I h
 refine thn (hl pins s σ H _ I h) fun v s1 zz=>?_
 obtain ⟨x,H1,I1,r1,q1⟩:=zz
 obtain ⟨a,e,⟨xs,hq⟩,q⟩:=q1
 subst e
 cases r1
 obtain ⟨its,rv,p,hz⟩:=I1.list hq
 refine kD p.isList ?_
 refine ⟨s1.heap.objs.size,[s1.heap.objs.size],_,_,H1,rfl,I1.kept (t':=s1.toks) fun b o e=>aG _ e,Abq a _,⟨_,aY _ rfl,rfl,rfl⟩,fun b hb=>?_,q⟩
 have e:b=s1.heap.objs.size:=by simpa using hb
 subst e
 exact I1.fpOk (bD _) (I1.hok.fresh (bD _))
theorem Aj2{l:Expr}{tl:TE}(hl:PE X l tl):PI X tg l (Aol X.K tl):=by
 intro pins s σ H R I h
 refine thn (hl pins s σ H _ I h) fun v s1 zz=>?_
 obtain ⟨x,H1,I1,r1,q1⟩:=zz
 obtain ⟨a,e,⟨xs,hq⟩,q⟩:=q1
 subst e
 cases r1
 obtain ⟨its,rv,p,hz⟩:=I1.tuple hq
 refine jO (show s1.heap.IsTuple a its.toArray from p) ?_
 refine ⟨s1.heap.objs.size,[s1.heap.objs.size],_,_,H1,rfl,I1.kept (t':=s1.toks) fun b o e=>aG _ e,X2 a _,⟨_,aY _ rfl,rfl,rfl⟩,fun b hb=>?_,q⟩
 have e:b=s1.heap.objs.size:=by simpa using hb
 subst e
 exact I1.fpOk (bD _) (I1.hok.fresh (bD _))
theorem Ac2{pins:List (Addr×Obj)}{σ:St}{H:Hp}{s:aJ}{R:It->Hp->Prop}{E:aE->aJ->Prop}{lo hi:Int}{t u v:Tok}{tk:Nat}(I:Inv X pins σ H s)(h1:-(2 ^ 62)<=lo)(h2:lo < 2 ^ 62)(h3:-(2 ^ 62)<=hi)(h4:hi < 2 ^ 62)
  (q:R (Itr lo (hi - lo).toNat) H):wpAny (model X.prog X.w) X.A (pyIter (.ref s.heap.objs.size)) (PIE X pins σ tg R) E { s with heap:=s.heap.push { cls:=.type "range",data:=.fields #[.int lo t,.int hi u,.int 1 v] },toks:=tk }:=by
 refine wpAny_pyIter_range (IsRange.new ..) (small_one h1 h2 h3 h4) ?_
 have I1:Inv X pins σ H { s with heap:=s.heap.push { cls:=.type "range",data:=.fields #[.int lo t,.int hi u,.int 1 v] },toks:=tk }:=I.kept fun b o e=>aG _ e
 refine ⟨(s.heap.push { cls:=.type "range",data:=.fields #[.int lo t,.int hi u,.int 1 v] }).objs.size,[(s.heap.push { cls:=.type "range",data:=.fields #[.int lo t,.int hi u,.int 1 v] }).objs.size],_,_,H,rfl,
  I1.kept (t':=tk) fun b o e=>aG _ e,Xg _ lo (hi - lo).toNat,?_,fun b hb=>?_,q⟩
 ·have e1:lo+((0:Nat):Int) * 1=lo:=by simp
  have e2:(((hi - lo).toNat:Nat):Int) - ((0:Nat):Int)=lJ.Range.rangeSize lo hi 1:=by rw[rangeSize_one];split <;> omega
  show IsRangeIter _ _ (lo+((0:Nat):Int) * 1) ((((hi - lo).toNat:Nat):Int) - ((0:Nat):Int)) 1
  rw[e1,e2]
  exact aY _ rfl
 ·have e:b=(s.heap.push { cls:=.type "range",data:=.fields #[.int lo t,.int hi u,.int 1 v] }).objs.size:=by simpa using hb
  subst e
  exact I1.fpOk (bD _) (I1.hok.fresh (bD _))
noncomputable def Al0(ta:TA):TI:=fun σ H R=>ta σ H fun vs H1=>∃ j:Int,vs=[.int j]/\-(2 ^ 62)<=j/\j < 2 ^ 62/\R (Itr 0 j.toNat) H1
theorem Acp{a:Expr}{ta:TA}{p pos:Pos}(hg:Gl X "range")(hm:X.mg "range" = none)(ha:PA X [a] ta)(hs:bA [a] X.env=[(false,eval a X.env)]:=by rfl):PI X tg (.Call (.Name "range" p) [a] [] pos) (Al0 ta):=by
 intro pins s σ H R I h
 refine Call_ (Rj I hg hm boot_range (eI (thn (ha pos pins s σ H _ I h) fun us s1 zz=>zz.elim fun vs H1 I1 r1 q1=>?_) hs rfl))
 obtain ⟨j,e,q1,q2,q⟩:=q1
 subst e
 cases r1 with
 | cons r rr=>
  cases rr
  obtain ⟨t,rfl⟩:=r
  exact call_range_1 (Ac2 I1 (by omega) (by omega) q1 q2 (by simpa using q))
noncomputable def Aob(wi:TI)(g:TG)(tb:TS):TS:=fun D σ H=>wi σ H fun J H1=>∃ W:Nat->Nat->St->Hp->Prop,(∃ m,W 0 m σ H1)/\∀ i m σ H,W i m σ H ->
 (J.stop i H/\D.nx σ H)\/(J.go i H/\∃ N:St->Hp->Prop,(∀ σ' H',N σ' H'->∃ m',m' < m/\W (i+1) m' σ' H')/\∀ x H',J.yld i H x H'->g x σ H' fun σ2 H2=>tb { D with nx:=N,ct:=N,bk:=D.nx } σ2 H2)
noncomputable def Rg(fp:List Addr)(h:Heap):List (Addr×Obj):=fp.filterMap fun b=>(h.get? b).map fun o=>(b,o)
theorem Ko{fp:List Addr}{h:Heap}{b:Addr}{o:Obj}(hb:b∈fp)(e:h.get? b=some o):(b,o)∈Rg fp h:=List.mem_filterMap.mpr ⟨b,hb,by rw[e];rfl⟩
theorem Abo{fp:List Addr}{h:Heap}{p:Addr×Obj}(hp:p∈Rg fp h):p.1∈fp/\h.get? p.1=some p.2:=by
 obtain ⟨b,hb,e⟩:=List.mem_filterMap.mp hp
 cases q:h.get? b with
 | none=>rw[q] at e;cases e
 | some o=>
  rw[q] at e
  have e':(b,o)=p:=bQ e
  subst e'
  exact ⟨hb,q⟩
theorem Inv.pinned{pins:List (Addr×Obj)}{σ:St}{H:Hp}{s:aJ}{fp:List Addr}(I:Inv X pins σ H s)(hf:∀ b∈fp,Mj X pins H b)(ho:∀ b∈fp,∃ o,s.heap.get? b=some o/\∀ v,o.data≠.cell v):Inv X (pins++Rg fp s.heap) σ H s:=
 I.pins_of fun p hp=>(eS.mp hp).elim (fun z=>I.pin p (bR _ z)) fun z=>by
  obtain ⟨hb,e⟩:=Abo z
  obtain ⟨f0,f1,f2,_⟩:=hf p.1 hb
  obtain ⟨o,e',d⟩:=ho p.1 hb
  rw[e] at e';cases e'
  exact ⟨e,f0,f1,f2,d⟩
theorem Inv.unpinned{pins pl:List (Addr×Obj)}{σ:St}{H:Hp}{s:aJ}(I:Inv X (pins++pl) σ H s):Inv X pins σ H s:=I.pins_of fun p hp=>I.pin p (bR _ (dR _ hp))
theorem Akf{iter:Expr}{body:List Stmt}{wi:TI}{g:TG}{tb:TS}{pos:Pos}(hp:PassesOwn (model X.prog X.w) X.A X.env X.xe)(hc:X.calm=true)(hi:PI X tg iter wi)(hg:PG X tg g)(hb:PSs X body tb)
  (hs:∀ x,foldedSetIterable iter X.env x=pure x:=by intro _;rfl):PS X (.For tg iter body [] pos) (Aob wi g tb):=by
 intro pins s σ H D I h
 refine wpAny_For (thn (hi pins s σ H _ I h) fun v s1 h1=>thn h1 fun itv s2 h2=>?_) hs
 obtain ⟨it,fp,tn,J,H2,e,I2,T,st2,f2,W,⟨m0,w0⟩,turn⟩:=h2
 subst e
 have stat:∀ {H':Hp},(∀ b∈fp,H' b=none)->∀ b∈fp,Mj X pins H' b:=fun hn b hb=>⟨hn b hb,(f2 b hb).2⟩
 refine codeAny_forLoop_any (fun n s'=>∃ i σ' H',Inv X pins σ' H' s'/\tn i s'.heap/\(∀ b∈fp,H' b=none)/\W i n σ' H') ?_ m0 ⟨0,σ,H2,I2,st2,fun b hb=>(f2 b hb).1,w0⟩
 rintro n s3 ⟨i,σ3,H3,I3,st3,fr3,w3⟩
 rcases turn i n σ3 H3 w3 with ⟨stop,qn⟩ | ⟨go,N,hN,step⟩
 ·refine gP hp (thn (T.done X rfl rfl rfl hc i pins s3 σ3 H3 X.xe I3 (stat fr3) st3 stop) fun r s4 zz=>?_)
  obtain ⟨hr,I4⟩:=zz
  subst hr
  exact iW ⟨σ3,H3,I4,qn⟩
 ·refine gP hp (thn (T.item X rfl rfl rfl hc i pins s3 σ3 H3 X.xe I3 (stat fr3) st3 go) fun r s4 zz=>?_)
  obtain ⟨u,hr,h4⟩:=zz
  subst hr
  refine gP hp (thn h4 fun _ s5 zz=>?_)
  obtain ⟨x,H5,I5,r5,y5,st5,fr5⟩:=zz
  have I5':=I5.pinned (stat fr5) (T.obj _ _ st5)
  refine gP hp (thn (hg _ s5 σ3 H5 x u _ I5' r5 (step x H5 y5)) fun _ s6 zz=>?_)
  obtain ⟨σ6,H6,I6,q6⟩:=zz
  refine gP hp (thn (hb _ s6 σ6 H6 _ I6 q6) fun f s7 q7=>?_)
  have again:∀ {σ7:St} {H7:Hp},Inv X (pins++Rg fp s5.heap) σ7 H7 s7->N σ7 H7->∃ m,m < n/\∃ i σ' H',Inv X pins σ' H' s7/\tn i s7.heap/\(∀ b∈fp,H' b=none)/\W i m σ' H':=fun {σ7 H7} I7 n7=>by
   obtain ⟨m',hm,w7⟩:=hN σ7 H7 n7
   refine ⟨m',hm,i+1,σ7,H7,I7.unpinned,T.keep _ _ _ st5 fun b hb o e=>(I7.pin (b,o) (bR _ (bR _ (Ko hb e)))).1,fun b hb=>?_,w7⟩
   obtain ⟨o,e,d⟩:=T.obj _ _ st5 b hb
   exact (I7.pin (b,o) (bR _ (bR _ (Ko hb e)))).2.1
  cases f with
  | next=>obtain ⟨σ7,H7,I7,n7⟩:=q7;exact again I7 n7
  | cont=>obtain ⟨σ7,H7,I7,n7⟩:=q7;exact again I7 n7
  | brk=>obtain ⟨σ7,H7,I7,q7⟩:=q7;exact ⟨σ7,H7,I7.unpinned,q7⟩
  | ret v=>obtain ⟨x7,σ7,H7,I7,r7,q7⟩:=q7;exact ⟨x7,σ7,H7,I7.unpinned,r7,q7⟩
end
abbrev R2:=V->V->Hp->VK->Prop
noncomputable def OpR(X:Cx)(f:aE->aE->Sem aE)(r:R2):Prop:=
 ∀ (pins:List (Addr×Obj)) (s:aJ) (σ:St) (H:Hp) (x y:V) (v u:aE) (Q:VK),Inv X pins σ H s->RelV x v->RelV y u->r x y H Q ->
  wpAny (model X.prog X.w) X.A (f v u) (EP X pins σ Q) X.xe s
noncomputable def UnR(X:Cx)(f:aE->Sem aE)(r:V->Hp->VK->Prop):Prop:=
 ∀ (pins:List (Addr×Obj)) (s:aJ) (σ:St) (H:Hp) (x:V) (v:aE) (Q:VK),Inv X pins σ H s->RelV x v->r x H Q ->
  wpAny (model X.prog X.w) X.A (f v) (EP X pins σ Q) X.xe s
noncomputable def CallR(X:Cx)(f:aE)(r:List V->Hp->VK->Prop):Prop:=
 ∀ (pins:List (Addr×Obj)) (s:aJ) (σ:St) (H:Hp) (xs:List V) (us:List aE) (Q:VK),Inv X pins σ H s->Vals xs us->r xs H Q ->
  wpAny (model X.prog X.w) X.A (call f us) (EP X pins σ Q) X.xe s
noncomputable def Aoh(X:Cx)(r:V->Hp->(Bool->Hp->Prop)->Prop):Prop:=
 ∀ (pins:List (Addr×Obj)) (s:aJ) (σ:St) (H:Hp) (x:V) (v:aE) (Q:Bool->Hp->Prop),Inv X pins σ H s->RelV x v->r x H Q ->
  wpAny (model X.prog X.w) X.A (truthy v) (TP X pins σ Q) X.xe s
noncomputable def tOp(r:R2)(ta tb:TE):TE:=fun σ H Q=>ta σ H fun x H1=>tb σ H1 fun y H2=>r x y H2 Q
noncomputable def tUn(r:V->Hp->VK->Prop)(ta:TE):TE:=fun σ H Q=>ta σ H fun x H1=>r x H1 Q
noncomputable def rI(C:Int->Int->Prop)(g:Int->Int->V):R2:=fun x y H Q=>∃ i j,x = .int i/\y = .int j/\C i j/\Q (g i j) H
noncomputable def rI0(g:Int->Int->V):R2:=fun x y H Q=>∃ i j,x = .int i/\y = .int j/\Q (g i j) H
noncomputable def rU(g:Int->V):V->Hp->VK->Prop:=fun x H Q=>∃ i,x = .int i/\Q (g i) H
section
variable {X:Cx}{a b c:Expr}{ta tb tc:TE}{pos:Pos}
theorem Ak9(ha:PE X a ta)(hb:PE X b tb){pins:List (Addr×Obj)}{s:aJ}{σ:St}{H:Hp}{R:V->V->Hp->Prop}(I:Inv X pins σ H s)
  (h:ta σ H fun x H1=>tb σ H1 fun y H2=>R x y H2) {Q:aE->aJ->Prop} {f:aE->aE->Sem aE}
  (hf:∀ v u s2 x y H2,Inv X pins σ H2 s2->RelV x v->RelV y u->R x y H2->wpAny (model X.prog X.w) X.A (f v u) Q X.xe s2) :
  wpAny (model X.prog X.w) X.A (eval a X.env) (fun v s₁=>wpAny (model X.prog X.w) X.A (eval b X.env) (fun u s₂=>wpAny (model X.prog X.w) X.A (f v u) Q X.xe s₂) X.xe s₁) X.xe s:=by
 refine thn (ha pins s σ H _ I h) fun v s1 zz=>?_
 obtain ⟨x,H1,I1,r1,q1⟩:=zz
 refine thn (hb pins s1 σ H1 _ I1 q1) fun u s2 zz=>?_
 obtain ⟨y,H2,I2,r2,q2⟩:=zz
 exact hf v u s2 x y H2 I2 r1 r2 q2
theorem Alr{op:Operator}{r:R2}(ho:OpR X (eB op) r)(ha:PE X a ta)(hb:PE X b tb):PE X (.BinOp a op b pos) (tOp r ta tb):=by
 intro pins s σ H Q I h
 exact wpAny_BinOp (Ak9 ha hb I h fun v u s2 x y H2 I2 rx ry q=>ho pins s2 σ H2 x y v u Q I2 rx ry q)
theorem Anb{op:UnaryOp}{r:V->Hp->VK->Prop}(ho:UnR X (unaryOp op) r)(ha:PE X a ta):PE X (.UnaryOp op a pos) (tUn r ta):=by
 intro pins s σ H Q I h
 exact UnaryOp_ (thn (ha pins s σ H _ I h) fun v s1 zz=>by obtain ⟨x,H1,I1,r1,q1⟩:=zz;exact ho pins s1 σ H1 x v Q I1 r1 q1)
theorem opI{f:aE->aE->Sem aE}{C:Int->Int->Prop}{g:Int->Int->Int}
  (rule:∀ (i j:Int) (t u:Tok) (s:aJ) (Q:aE->aJ->Prop) (E:aE->aJ->Prop),C i j->Q (.int (g i j) s.toks) { s with toks:=s.toks+1 }->wpAny (model X.prog X.w) X.A (f (.int i t) (.int j u)) Q E s) :
  OpR X f (rI C fun i j=>.int (g i j)):=by
 intro pins s σ H x y v u Q I rx ry h
 obtain ⟨i,j,rfl,rfl,hc,q⟩:=h
 obtain ⟨t,rfl⟩:=rx
 obtain ⟨t',rfl⟩:=ry
 exact rule i j t t' s _ _ hc ⟨.int (g i j),H,I.tok _,⟨_,rfl⟩,q⟩
theorem Amu{f:aE->aE->Sem aE}{g:Int->Int->Int}
  (rule:∀ (i j:Int) (t u:Tok) (s:aJ) (Q:aE->aJ->Prop) (E:aE->aJ->Prop),Q (.int (g i j) s.toks) { s with toks:=s.toks+1 }->wpAny (model X.prog X.w) X.A (f (.int i t) (.int j u)) Q E s) :
  OpR X f (rI0 fun i j=>.int (g i j)):=by
 intro pins s σ H x y v u Q I rx ry h
 obtain ⟨i,j,rfl,rfl,q⟩:=h
 obtain ⟨t,rfl⟩:=rx
 obtain ⟨t',rfl⟩:=ry
 exact rule i j t t' s _ _ ⟨.int (g i j),H,I.tok _,⟨_,rfl⟩,q⟩
theorem Aim{f:aE->aE->Sem aE}{g:Int->Int->Bool}
  (rule:∀ (i j:Int) (t u:Tok) (s:aJ) (Q:aE->aJ->Prop) (E:aE->aJ->Prop),Q (.bool (g i j)) s->wpAny (model X.prog X.w) X.A (f (.int i t) (.int j u)) Q E s) :
  OpR X f (rI0 fun i j=>.bl (g i j)):=by
 intro pins s σ H x y v u Q I rx ry h
 obtain ⟨i,j,rfl,rfl,q⟩:=h
 obtain ⟨t,rfl⟩:=rx
 obtain ⟨t',rfl⟩:=ry
 exact rule i j t t' s _ _ ⟨.bl (g i j),H,I,rfl,q⟩
noncomputable def Amf(i j:Int):Prop:=0<=j/\j<=1000000/\i.natAbs < 2 ^ 64
noncomputable def CMul(i j:Int):Prop:=(-(2 ^ 64) < i/\i < 2 ^ 64)\/(-(2 ^ 64) < j/\j < 2 ^ 64)
theorem CMul.ok{i j:Int}(h:CMul i j):IntMulOk i j:=by
 rcases h with ⟨h1,h2⟩ | ⟨h1,h2⟩
 ·exact .of_left (intBits_le_64 h1 h2)
 ·exact .of_right (intBits_le_64 h1 h2)
theorem Akd:OpR X (eB .Add) (rI0 fun i j=>.int (i+j)):=Amu fun _ _ _ _ _ _ _ q=>add_int q
theorem Mt:OpR X (eB .Sub) (rI0 fun i j=>.int (i - j)):=Amu fun _ _ _ _ _ _ _ q=>sub_int q
theorem Aja:OpR X (eB .Mult) (rI CMul fun i j=>.int (i * j)):=opI fun _ _ _ _ _ _ _ hc q=>mul_int q hc.ok
theorem K9:OpR X (eB .Mod) (rI (fun _ j=>0 < j) fun i j=>.int (i % j)):=opI fun i j _ _ _ _ _ hc q=>by
 have h1:(0:Int) < j:=hc
 exact mod_int' (by omega) (by rw[Int.fmod_eq_emod_of_nonneg i (by omega)];exact q)
theorem M9:OpR X (eB .Pow) (rI Amf fun i j=>.int (i ^ j.toNat)):=opI fun _ _ _ _ _ _ _ hc q=>pow_int_small hc.1 hc.2.1 hc.2.2 q
theorem unI{f:aE->Sem aE}{g:Int->Int}
  (rule:∀ (i:Int) (t:Tok) (s:aJ) (Q:aE->aJ->Prop) (E:aE->aJ->Prop),Q (.int (g i) s.toks) { s with toks:=s.toks+1 }->wpAny (model X.prog X.w) X.A (f (.int i t)) Q E s) :
  UnR X f (rU fun i=>.int (g i)):=by
 intro pins s σ H x v Q I rx h
 obtain ⟨i,rfl,q⟩:=h
 obtain ⟨t,rfl⟩:=rx
 exact rule i t s _ _ ⟨.int (g i),H,I.tok _,⟨_,rfl⟩,q⟩
theorem Ajz:UnR X (unaryOp .USub) (rU fun i=>.int (-i)):=unI fun _ _ _ _ _ q=>neg_int q
end
section
variable {X:Cx}{a b c:Expr}{ta tb tc:TE}{pos:Pos}
theorem Ajv{pins:List (Addr×Obj)}{σ:St}{H:Hp}{s:aJ}{Q:VK}{k k':Bool}(I:Inv X pins σ H s)(q:Q (.bl k) H)(e:k=k'):EP X pins σ Q (.bool k') s:=by
 subst e
 exact ⟨.bl k,H,I,rfl,q⟩
theorem Ai2:OpR X (dC .Lt) (rI0 fun i j=>.bl (decide (i < j))):=Aim fun _ _ _ _ _ _ _ q=>lt_int q
theorem Vc:OpR X (dC .LtE) (rI0 fun i j=>.bl (decide (i<=j))):=Aim fun _ _ _ _ _ _ _ q=>le_int q
theorem Ami:OpR X (dC .Gt) (rI0 fun i j=>.bl (decide (j < i))):=Aim fun _ _ _ _ _ _ _ q=>gt_int q
theorem Amt:OpR X (dC .GtE) (rI0 fun i j=>.bl (decide (j<=i))):=Aim fun _ _ _ _ _ _ _ q=>ge_int q
theorem Agw:OpR X (dC .IsNot) (fun x y H Q=>y = .non/\Q (.bl (!decide (x = .non))) H):=by
 intro pins s σ H x y v u Q I rx ry h
 obtain ⟨rfl,q⟩:=h
 cases ry
 refine isnot_none_gen (Ajv I q ?_)
 cases x <;> first
  | (cases rx;rfl)
  | (obtain ⟨t,rfl⟩:=rx;rfl)
theorem OpR.or{f:aE->aE->Sem aE}{r r':R2}(h:OpR X f r)(h':OpR X f r'):OpR X f (fun x y H Q=>r x y H Q\/r' x y H Q):=by
 intro pins s σ H x y v u Q I rx ry q
 rcases q with q | q
 ·exact h pins s σ H x y v u Q I rx ry q
 ·exact h' pins s σ H x y v u Q I rx ry q
theorem Cg(b:Expr){op:CmpOp}(h:op≠.In:=by decide)(h2:op≠.NotIn:=by decide):behindInMarks op b=false:=by
 have e1:(op == CmpOp.In)=false:=by cases op <;> first | rfl | exact absurd rfl h
 have e2:(op == CmpOp.NotIn)=false:=by cases op <;> first | rfl | exact absurd rfl h2
 cases b <;> simp[behindInMarks,e1,e2]
theorem Ahu{op:CmpOp}{r:R2}(ho:OpR X (dC op) r)(ha:PE X a ta)(hb:PE X b tb)(hm:behindInMarks op b=false):PE X (.Compare a [op] [b] pos) (tOp r ta tb):=by
 intro pins s σ H Q I h
 exact wpAny_Compare1 (Ak9 ha hb I h fun v u s2 x y H2 I2 rx ry q=>ho pins s2 σ H2 x y v u Q I2 rx ry q) hm
noncomputable def Aiw(t:TE):TT:=fun σ H Q=>t σ H fun x H'=>∃ k,x = .bl k/\Q k H'
theorem Agv{op:CmpOp}{r:R2}(ho:OpR X (dC op) r)(ha:PE X a ta)(hb:PE X b tb)(hm:behindInMarks op b=false):PT X (.Compare a [op] [b] pos) (Aiw (tOp r ta tb)):=by
 intro pins s σ H Q I h
 refine wpAny_isTrue_Compare1 (thn (ha pins s σ H _ I h) fun v s1 zz=>zz.elim fun x H1 I1 r1 q1=>thn (hb pins s1 σ H1 _ I1 q1) fun u s2 ⟨y,H2,I2,r2,q2⟩=>
  thn (ho pins s2 σ H2 x y v u _ I2 r1 r2 q2) fun c s3 zz=>zz.elim fun z H3 I3 r3 zq=>?_) hm
 obtain ⟨k,e,q3⟩:=zq
 subst e
 cases r3
 exact fR ⟨H3,I3,q3⟩
noncomputable def Adp(r r':R2)(ta tb tc:TE):TE:=fun σ H Q=>ta σ H fun x H1=>tb σ H1 fun y H2=>r x y H2 fun z H3=>∃ k,z = .bl k /\
 (if k=true then tc σ H3 fun w' H4=>r' y w' H4 Q else Q (.bl false) H3)
theorem Aey{op op':CmpOp}{r r':R2}(ho:OpR X (dC op) r)(ho':OpR X (dC op') r')(ha:PE X a ta)(hb:PE X b tb)(hc:PE X c tc)
  (hm:lastMarks [op,op'] [b,c]=false:=by with_unfolding_all rfl):PE X (.Compare a [op,op'] [b,c] pos) (Adp r r' ta tb tc):=by
 intro pins s σ H Q I h
 refine Compare_chain (thn (ha pins s σ H _ I h) fun v s1 zz=>zz.elim fun x H1 I1 r1 q1=>chain_link (thn (hb pins s1 σ H1 _ I1 q1) fun u s2 ⟨y,H2,I2,r2,q2⟩=>
  thn (ho pins s2 σ H2 x y v u _ I2 r1 r2 q2) fun d s3 zz=>zz.elim fun z H3 I3 r3 zq=>?_)) hm
 obtain ⟨k,e,q3⟩:=zq
 subst e
 cases r3
 refine fR ?_
 cases k with
 | false=>exact ite_ff ⟨.bl false,H3,I3,rfl,q3⟩
 | true=>exact ite_tt (chain_last (thn (hc pins s3 σ H3 _ I3 q3) fun w' s4 zz=>by obtain ⟨z',H4,I4,r4,q4⟩:=zz;exact ho' pins s4 σ H4 y z' u w' Q I4 r2 r4 q4))
noncomputable def Ak4(K:aC)(x:V)(H:Hp)(k:Bool):Prop:=
 match x with
 | .non=>k=false
 | .bl b=>k=b
 | .int i=>k=(i != 0)
 | .str y=>y.length<=sizeLine/\k=((y.length:Int) != 0)
 | .byt y=>y.size<=sizeLine/\k=((y.size:Int) != 0)
 | .ref p=>(∃ xs,SqL K H p xs/\k = !xs.isEmpty)\/(∃ xs,SqT K H p xs/\k = !xs.isEmpty)\/∃ kvs,H p=some (.dK kvs)/\k = !kvs.isEmpty
 | _=>False
theorem Xw{κ:Type}{kvs:List (κ×V)}{vs:List (κ×aE)}(r:KV kvs vs):(!vs.isEmpty) = !kvs.isEmpty:=by
 cases r <;> rfl
theorem Qa{xs:List V}{its:List aE}(r:Vals xs its):(!its.toArray.isEmpty) = !xs.isEmpty:=by
 cases r <;> simp
theorem Oo:(sizeLine:Nat) < 2 ^ 63:=by rw[kE];decide
theorem Aj0:Aoh X (fun x H Q=>∃ k,Ak4 X.K x H k/\Q k H):=by
 intro pins s σ H x v Q I rx h
 obtain ⟨k,e,q⟩:=h
 have hl:=Oo
 have hs:sizeLine=16777216:=kE
 cases x with
 | non=>
  cases rx
  have e':k=false:=e
  subst e'
  exact truthy_none ⟨H,I,q⟩
 | bl b=>
  cases rx
  have e':k=b:=e
  subst e'
  exact fR ⟨H,I,q⟩
 | int i=>
  obtain ⟨t,rfl⟩:=rx
  have e':k=(i != 0):=e
  subst e'
  exact PySem.P.truthy_int ⟨H,I,q⟩
 | str y=>
  obtain ⟨t,rfl⟩:=rx
  obtain ⟨hy,e'⟩:y.length<=sizeLine/\k=((y.length:Int) != 0):=e
  subst e'
  exact PySem.P.truthy_str (by omega) ⟨H,I.tok _,q⟩
 | byt y=>
  obtain ⟨t,rfl⟩:=rx
  obtain ⟨hy,e'⟩:y.size<=sizeLine/\k=((y.size:Int) != 0):=e
  subst e'
  exact PySem.W.truthy_bytes (by omega) ⟨H,I.tok _,q⟩
 | ref p=>
  cases rx
  have e':(∃ xs,SqL X.K H p xs/\k = !xs.isEmpty)\/(∃ xs,SqT X.K H p xs/\k = !xs.isEmpty)\/∃ kvs,H p=some (.dK kvs)/\k = !kvs.isEmpty:=e
  rcases e' with ⟨xs,hx,e'⟩ | ⟨xs,hx,e'⟩ | ⟨kvs,hx,e'⟩
  ·subst e'
   obtain ⟨its,r,pl,hz⟩:=I.list hx
   have hlen:=r.length
   exact wpAny_truthy_list pl.isList (by simp only[bH];omega) ⟨H,I.tok _,by rw[Qa r];exact q⟩
  ·subst e'
   obtain ⟨its,r,pl,hz⟩:=I.tuple hx
   have hlen:=r.length
   exact truthy_tuple pl (by simp only[bH];omega) ⟨H,I.tok _,by rw[Qa r];exact q⟩
  ·subst e'
   obtain ⟨hz,hS,vs,r,m⟩:kvs.length<=sizeLine/\(p == sysModules)=false/\∃ vs,KV kvs vs/\s.heap.DictOf (Cf X.prog X.w) p vs:=I.hok p _ hx
   have hlen:kvs.length=vs.length:=kM r
   exact wpAny_truthy_dict hS m (by omega) ⟨H,I.tok _,by rw[Xw r];exact q⟩
 | _=>exact (show False from e).elim
theorem Ad8(ha:PE X a ta)(he:∀ whole,isTrue a X.env whole=(do let v <- whole;standAt a.pos;holding [v] (truthy v))) :
  PT X a (fun σ H Q=>ta σ H fun x H'=>∃ k,Ak4 X.K x H' k/\Q k H'):=by
 intro pins s σ H Q I h
 exact isTrue_plain (thn (ha pins s σ H _ I h) fun v s1 zz=>by obtain ⟨x,H1,I1,r1,q1⟩:=zz;exact Aj0 pins s1 σ H1 x v Q I1 r1 q1) (he _)
theorem Xb:OpR X (eB .Add) (fun x y H Q=>∃ i j,x = .str i/\y = .str j/\i.length+j.length<=sizeLine/\Q (.str (i++j)) H):=by
 intro pins s σ H x y v u Q I rx ry h
 obtain ⟨i,j,rfl,rfl,hz,q⟩:=h
 obtain ⟨t,rfl⟩:=rx
 obtain ⟨t',rfl⟩:=ry
 exact add_str (fun t' tk=>⟨.str (i++j),H,I.tok _,⟨_,rfl⟩,q⟩) hz
theorem Ll{x:V}{us:List aE}(r:Vals [x] us):∃ u,us=[u]/\RelV x u:=by
 cases r with
 | cons r1 r2=>cases r2;exact ⟨_,rfl,r1⟩
theorem Adm{x y:V}{us:List aE}(r:Vals [x,y] us):∃ u w',us=[u,w']/\RelV x u/\RelV y w':=by
 cases r with
 | cons r1 r2=>
  cases r2 with
  | cons r3 r4=>cases r4;exact ⟨_,_,rfl,r1,r3⟩
theorem Abr(hc:X.calm=true):CallR X (.builtin "max") (fun xs H Q=>∃ i j,xs=[.int i,.int j]/\Q (.int (if j > i then j else i)) H):=by
 intro pins s σ H xs us Q I r h
 obtain ⟨i,j,rfl,q⟩:=h
 obtain ⟨u,w',rfl,⟨t,rfl⟩,⟨t',rfl⟩⟩:=Adm r
 refine max_two_ints (I.ok.hd hc) fun h' tk k=>⟨_,H,I.kept k,?_,q⟩
 by_cases hj:j > i
 ·rw[if_pos hj,if_pos hj];exact ⟨_,rfl⟩
 ·rw[if_neg hj,if_neg hj];exact ⟨_,rfl⟩
theorem Aa3(hc:X.calm=true):CallR X (.builtin "min") (fun xs H Q=>∃ i j,xs=[.int i,.int j]/\Q (.int (if j < i then j else i)) H):=by
 intro pins s σ H xs us Q I r h
 obtain ⟨i,j,rfl,q⟩:=h
 obtain ⟨u,w',rfl,⟨t,rfl⟩,⟨t',rfl⟩⟩:=Adm r
 refine min_two_ints (I.ok.hd hc) fun h' tk k=>⟨_,H,I.kept k,?_,q⟩
 by_cases hj:j < i
 ·rw[if_pos hj,if_pos hj];exact ⟨_,rfl⟩
 ·rw[if_neg hj,if_neg hj];exact ⟨_,rfl⟩
theorem Tb:CallR X (.type "int") (fun xs H Q=>(∃ i,xs=[.int i]/\Q (.int i) H)\/∃ k,xs=[.bl k]/\Q (.int (if k then 1 else 0)) H):=by
 intro pins s σ H xs us Q I r h
 rcases h with ⟨i,rfl,q⟩ | ⟨k,rfl,q⟩
 ·obtain ⟨u,rfl,t,rfl⟩:=Ll r
  exact call_int_int ⟨.int i,H,I,⟨_,rfl⟩,q⟩
 ·obtain ⟨u,rfl,r1⟩:=Ll r
  cases r1
  exact call_int_bool ⟨.int (if k then 1 else 0),H,I.tok _,⟨_,rfl⟩,q⟩
noncomputable def Al7(K:aC)(x:V)(H:Hp)(n:Nat):Prop:=
 match x with
 | .str y=>y.length<=sizeLine/\n=y.length
 | .byt y=>y.size<=sizeLine/\n=y.size
 | .ref p=>(∃ xs,SqL K H p xs/\n=xs.length)\/∃ xs,SqT K H p xs/\n=xs.length
 | _=>False
theorem Ee:CallR X (.builtin "len") (fun xs H Q=>∃ x n,xs=[x]/\Al7 X.K x H n/\Q (.int n) H):=by
 intro pins s σ H xs us Q I r h
 obtain ⟨x,n,rfl,e,q⟩:=h
 obtain ⟨u,rfl,rx⟩:=Ll r
 have hl:=Oo
 have hs:sizeLine=16777216:=kE
 cases x with
 | str y=>
  obtain ⟨t,rfl⟩:=rx
  obtain ⟨hy,e'⟩:y.length<=sizeLine/\n=y.length:=e
  subst e'
  exact len_str (by omega) ⟨.int _,H,I.tok _,⟨_,rfl⟩,q⟩
 | byt y=>
  obtain ⟨t,rfl⟩:=rx
  obtain ⟨hy,e'⟩:y.size<=sizeLine/\n=y.size:=e
  subst e'
  exact PySem.W.len_bytes (by omega) ⟨.int _,H,I.tok _,⟨_,rfl⟩,q⟩
 | ref p=>
  cases rx
  have e':(∃ xs,SqL X.K H p xs/\n=xs.length)\/∃ xs,SqT X.K H p xs/\n=xs.length:=e
  rcases e' with ⟨xs,hx,e'⟩ | ⟨xs,hx,e'⟩
  ·subst e'
   obtain ⟨its,r',pl,hz⟩:=I.list hx
   have hlen:=r'.length
   exact Calls.call_len_list pl.isList (by simp only[bH];omega) ⟨.int xs.length,H,I.tok _,⟨_,by simp only[bH];rw[hlen]⟩,q⟩
  ·subst e'
   obtain ⟨its,r',pl,hz⟩:=I.tuple hx
   have hlen:=r'.length
   exact len_tuple pl (by simp only[bH];omega) ⟨.int xs.length,H,I.tok _,⟨_,by simp only[bH];rw[hlen]⟩,q⟩
 | _=>exact (show False from e).elim
end
structure ObjM(h:Heap)(x dx C:Addr)(mA:Str->Option aE):Prop where
 obj:h.get? x=some (eE C dx)
 ns:h.Ns1 dx mA
 ne:dx≠x
theorem Te{h:Heap}{dx:Addr}{mA:Str->Option aE}(n:h.Ns1 dx mA):∃ od,h.get? dx=some od/\∀ name,jP name od=some (mA name):=by
 obtain ⟨o,es,ep,ho,hd,hk,_,hm⟩:=n
 refine ⟨o,ho,fun name=>?_⟩
 have e:=hm name
 unfold nsFind findBy at e
 rw[<- Array.find?_toList] at e
 unfold jP
 rw[hd]
 dsimp only
 split
 ·rename_i y q
  rw[q] at e
  exact congrArg some e
 ·rename_i q
  rw[q] at e
  have a:es.toList.any (·.refKey)=false:=by
   rw[List.any_eq_false]
   intro y hy
   obtain ⟨z,t,hkey⟩:=hk y (Array.mem_toList_iff.mp hy)
   simp[DictEntry.refKey,hkey]
  have a':¬ es.toList.any (·.refKey)=true:=by rw[a];exact eA
  rw[if_neg a']
  exact congrArg some e
theorem ObjM.look{h:Heap}{x dx C:Addr}{mA:Str->Option aE}(I:ObjM h x dx C mA):∃ od,gY h x (eE C dx) C (some od)/\∀ name,jP name od=some (mA name):=
 let ⟨od,ho,hl⟩:=Te I.ns
 ⟨od,⟨I.obj,rfl,rfl,ho⟩,hl⟩
section
variable {prog:bP}{w:cE}{A:cG}{E:aE->aJ->Prop}{s:aJ}{K:aC}{x dx C f:Addr}{mA:Str->Option aE}{name:Str}{v:aE}
theorem Agd{expr:Bool}{Q:aE->aJ->Prop}(X:K.In s.heap)(I:ObjM s.heap x dx C mA)(hg:gD K C name=true)(hh:eU K C=true)
  (ha:aZ K (.ref C) name=some none) (hv:mA name=some v) (hv':nW v=true) (h:Q v { s with toks:=s.toks+1 }) :
  wpAny (model prog w) A (getAttr (.ref x) name expr) Q E s:=by
 obtain ⟨od,J,hl⟩:=I.look
 exact PySem.W.get_value X J (jE hg).1 (mM hh ha rfl (by rw[hl,hv])) hv' h
theorem Ad6{pl:Sem Bool}{Q:aE×List aE->aJ->Prop}(X:K.In s.heap)(I:ObjM s.heap x dx C mA)(hg:gD K C name=true)
  (hf:aZ K (.ref C) name=some (some (.ref f))) (ht:cT K (.ref f)=true) (hv:mA name=none) (h:Q (.ref f,[.ref x]) s) :
  wpAny (model prog w) A (getMethod (.ref x) name pl) Q E s:=by
 obtain ⟨od,J,hl⟩:=I.look
 exact PySem.W.method_fn X J (jE hg).1 (jE hg).2 hf (beq_iff_eq.mp ht) (by show (jP name od).map (·.isSome)=some false;rw[hl,hv];rfl) h
theorem Ahe{ns:List Str}{Q:Unit->aJ->Prop}(X:K.In s.heap)(I:ObjM s.heap x dx C mA)
  (hs:aZ K (.ref C) "__setattr__" = some (some (.builtin "object.__setattr__"))) (hp:kF K C=true) (ht:lL K C name=some none) (hh:eU K C=true)
  (hw:nH mA ns) (hsz:ns.length<=sizeLine)
  (h:∀ h',ObjM h' x dx C (fun y=>if y=name then some v else mA y)->fZ dx s.heap h'->Q () { s with heap:=h',toks:=s.toks+2 }) :
  wpAny (model prog w) A (setAttr (.ref x) name v) Q E s:=by
 obtain ⟨od,J,hl⟩:=I.look
 refine nI X J hs (PySem.W.osa_open (s:={ s with toks:=s.toks+1 }) (r:=none) X J hp ht fun b=>?_)
 obtain ⟨cd,hc,hd'⟩:=nX hh
 have hx:s.heap.get? x=some ⟨.ref C,some dx,.plain,#[]⟩:=I.obj
 refine aF (aT (aF (aF (wpAny_loadPart hx (aF (dP (s:={ s with toks:=s.toks+1 }) (mN X hc) ?_))))))
 rw[hd']
 refine aT (a:=some dx) (aF (aT (aF ?_)))
 refine wpAny_nsSet1 (s:={ s with toks:=s.toks+1 }) I.ns fun h' hn2 hs2=>?_
 obtain ⟨oD,esD,epD,hoD,hdD,hcD⟩:=hn2.count (nJ name v hw)
 refine aF (nY hoD (by rw[hdD];exact nZ (cC hcD (by rw[aI];omega))) ?_)
 exact aT (h _ ⟨(hs2.2 _ (cS I.ne)).trans I.obj,hn2,I.ne⟩ hs2)
theorem Afi{R:Result->aJ->Prop}{vs:List aE}{kw:List (Str×aE)}(X:K.In s.heap)(hm:lM K C=true)
  (hi:aZ K (.ref C) "__init__" = some (some (.ref f))) (hf:mB K (.ref f)=some (.type "function"))
  (h:iN (model prog w) (A.under (.builtin "type.__call__" ⟨.ref C::vs,kw⟩)) (.call (.ref f) ⟨.ref (s.heap.objs.size+1)::vs,kw⟩) (PySem.W.InitBack (s.heap.objs.size+1) R)
   { s with heap:=(s.heap.push dG).push (eE C s.heap.objs.size) }) :
  iN (model prog w) A (.call (.ref C) ⟨vs,kw⟩) R s:=by
 obtain ⟨hh,g,d,t,os⟩:=s
 exact PySem.W.make_core (PySem.W.makes_of X hm) (fU X hi) (fun self=>PySem.W.bind_fn X self hf) (.inl rfl) h
end
noncomputable def Jd(f:Str)(v:V):List (Str×V)->List (Str×V)
 | []=>[(f,v)]
 | (g,x)::r=>if g=f then (g,v)::r else (g,x)::Jd f v r
theorem O7(f g:Str)(v:V):∀ fs:List (Str×V),(Jd f v fs).lookup g=if g=f then some v else fs.lookup g
 | []=>by
  show eL g [(f,v)]=_
  by_cases h:g=f
  ·have hb:(g == f)=true:=beq_iff_eq.mpr h
   simp only[eL,hb,if_pos h]
  ·have hb:(g == f)=false:=beq_eq_false_iff_ne.mpr h
   simp only[eL,hb,if_neg h]
 | (k,x)::r=>by
  have ih:=O7 f g v r
  rw[show Jd f v ((k,x)::r)=(if k=f then (k,v)::r else (k,x)::Jd f v r) from rfl]
  by_cases hk:k=f
  ·rw[if_pos hk]
   by_cases h:g=k
   ·have hb:(g == k)=true:=beq_iff_eq.mpr h
    simp only[eL,hb,if_pos (h.trans hk)]
   ·have hb:(g == k)=false:=beq_eq_false_iff_ne.mpr h
    simp only[eL,hb,if_neg (fun e:g=f=>h (e.trans hk.symm))]
  ·rw[if_neg hk]
   by_cases h:g=k
   ·have hb:(g == k)=true:=beq_iff_eq.mpr h
    simp only[eL,hb,if_neg (fun e:g=f=>hk (h.symm.trans e))]
   ·have hb:(g == k)=false:=beq_eq_false_iff_ne.mpr h
    simp only[eL,hb]
    exact ih
theorem Oj(f:Str)(v:V):∀ fs:List (Str×V),f∈(Jd f v fs).map (·.1)/\∀ g,g∈fs.map (·.1)->g∈(Jd f v fs).map (·.1)
 | []=>⟨by simp[Jd],fun g h=>by simp at h⟩
 | (k,x)::r=>by
  obtain ⟨i1,i2⟩:=Oj f v r
  rw[show Jd f v ((k,x)::r)=(if k=f then (k,v)::r else (k,x)::Jd f v r) from rfl]
  by_cases hk:k=f
  ·rw[if_pos hk]
   subst hk
   exact ⟨by simp,fun g h=>by simpa using h⟩
  ·rw[if_neg hk]
   refine ⟨?_,fun g h=>?_⟩
   ·rw[aO]
    exact bG _ i1
   ·rw[aO] at h ⊢
    rcases cB.mp h with e | e
    ·exact cB.mpr (.inl e)
    ·exact bG _ (i2 g e)
theorem Pd(f:Str)(v:V):∀ fs:List (Str×V),(Jd f v fs).length<=fs.length+1
 | []=>by simp[Jd]
 | (k,x)::r=>by
  have ih:=Pd f v r
  rw[show Jd f v ((k,x)::r)=(if k=f then (k,v)::r else (k,x)::Jd f v r) from rfl]
  by_cases hk:k=f
  ·rw[if_pos hk,aI,aI];omega
  ·rw[if_neg hk,aI,aI];omega
theorem RelO.some_of{v:V}{o:Option aE}(r:RelO (some v) o):∃ u,o=some u/\RelV v u:=by
 cases o with
 | none=>exact (show False from r).elim
 | some u=>exact ⟨u,rfl,r⟩
theorem RelO.none_of{o:Option aE}(r:RelO none o):o=none:=by
 cases o with
 | none=>rfl
 | some u=>exact (show False from r).elim
theorem Tq{v:V}{u:aE}(r:RelV v u):nW u=true:=by
 cases v with
 | non=>cases (show u=dE from r);rfl
 | bl b=>cases (show u=oZ b from r);rfl
 | int i=>obtain ⟨t,e⟩:=(show ∃ t,u=mK i t from r);cases e;rfl
 | str x=>obtain ⟨t,e⟩:=(show ∃ t,u=mL x t from r);cases e;rfl
 | byt b=>obtain ⟨t,e⟩:=(show ∃ t,u=qA b t from r);cases e;rfl
 | flt b=>obtain ⟨t,e⟩:=(show ∃ t,u=qB b t from r);cases e;rfl
 | ref a=>cases (show u=bN a from r);rfl
 | ty n=>cases (show u=lB n from r);rfl
section
variable {P:bP}{w:cE}{H H':Hp}{h h':Heap}{a C dx:Addr}{fs fs':List (Str×V)}
theorem Ue(hok:HOk P w H h)(e:H a=some (.ins C dx fs)):∃ mA,ObjM h a dx C mA/\(∀ f,RelO (fs.lookup f) (mA f))/\nH mA (fs.map (·.1))/\fs.length<=1000/\H dx=some (.own a):=by
 obtain ⟨d,z,ne,ob,mA,n,r,q⟩:=(show ObjOk P w H h a (.ins C dx fs) from hok a _ e)
 exact ⟨mA,⟨ob,n,ne⟩,r,q,z,d⟩
end
structure Cls(K:aC)(C:Addr):Prop where
 pg:gD K C jM=true
 hd:eU K C=true
 po:kF K C=true
 sa:aZ K (.ref C) "__setattr__" = some (some (.builtin "object.__setattr__"))
theorem Cls.get{K:aC}{C:Addr}(c:Cls K C)(f:Str):gD K C f=true:=c.pg
noncomputable def NoAttr(K:aC)(C:Addr)(f:Str):Prop:=aZ K (.ref C) f=some none
theorem NoAttr.taker{K:aC}{C:Addr}{f:Str}(n:NoAttr K C f):lL K C f=some none:=by
 unfold lL
 rw[show aZ K (.ref C) f=some none from n]
 rfl
structure Con(K:aC)(C:Addr)(f:Str)(v:V)(u:aE):Prop where
 at_:aZ K (.ref C) f=some (some u)
 rel:RelV v u
 get:eV K u "__get__" = some none
 cp:PySem.W.copiedNames.contains f=false
structure Meth(K:aC)(C:Addr)(m:Str)(f:Addr):Prop where
 at_:aZ K (.ref C) m=some (some (.ref f))
 fn:cT K (.ref f)=true
 kp:aV K (.ref f)=true
section
variable {X:Cx}{pins:List (Addr×Obj)}{σ:St}{H:Hp}{s:aJ}{a C dx:Addr}{fs:List (Str×V)}{f:Str}{v:V}{A:cG}{E:aE->aJ->Prop}
theorem Xz{b:Bool}{Q:aE->aJ->Prop}(I:Inv X pins σ H s)(e:H a=some (.ins C dx fs))(c:Cls X.K C)(n:NoAttr X.K C f)(l:fs.lookup f=some v)
  (h:∀ u s',Inv X pins σ H s'->RelV v u->Q u s'):wpAny (model X.prog X.w) A (getAttr (.ref a) f b) Q E s:=by
 obtain ⟨mA,O,r,_,_,_⟩:=Ue I.hok e
 obtain ⟨u,hu,ru⟩:=RelO.some_of (v:=v) (o:=mA f) (by rw[<- l];exact r f)
 exact Agd I.kIn O (c.get f) c.hd n hu (Tq ru) (h u _ (I.tok _) ru)
theorem Mv{m:Str}{g:Addr}{pl:Sem Bool}{Q:aE×List aE->aJ->Prop}(I:Inv X pins σ H s)(e:H a=some (.ins C dx fs))(c:Cls X.K C)(k:Meth X.K C m g)(l:fs.lookup m=none)
  (h:Q (.ref g,[.ref a]) s):wpAny (model X.prog X.w) A (getMethod (.ref a) m pl) Q E s:=by
 obtain ⟨mA,O,r,_,_,_⟩:=Ue I.hok e
 have hn:mA m=none:=RelO.none_of (by rw[<- l];exact r m)
 exact Ad6 I.kIn O (c.get m) k.at_ k.fn hn h
theorem Xu{y:V}{u:aE}{Q:Unit->aJ->Prop}(I:Inv X pins σ H s)(e:H a=some (.ins C dx fs))(c:Cls X.K C)(n:NoAttr X.K C f)(hl:fs.length < 1000)(ry:RelV y u)
  (h:∀ s',Inv X pins σ (upd H a (.ins C dx (Jd f y fs))) s'->Q () s'):wpAny (model X.prog X.w) A (setAttr (.ref a) f u) Q E s:=by
 obtain ⟨mA,O,r,wi,_,ho⟩:=Ue I.hok e
 have hz:(fs.map (·.1)).length<=sizeLine:=by rw[bB,kE];omega
 refine Ahe I.kIn O c.sa c.po n.taker c.hd wi hz fun h' O' sb=>h _ ?_
 have hd:∃ o,h'.get? dx=some o:=let ⟨o,_,_,e',_⟩:=O'.ns;⟨o,e'⟩
 refine I.write (x:=a) (e:=dx) (by rw[e];exact eY) (.inr ho) (fun b q hb z=>(sb.2 b hb).trans z) hd ?_
 refine ⟨by rw[A9 O.ne];exact ho,?_,O.ne,O'.obj,_,O'.ns,fun g=>?_,fun g hg=>?_⟩
 ·have:=Pd f y fs;omega
 ·show RelO ((Jd f y fs).lookup g) (if g=f then some u else mA g)
  rw[O7]
  by_cases q:g=f
  ·rw[if_pos q,if_pos q];exact ry
  ·rw[if_neg q,if_neg q];exact r g
 ·by_cases q:g=f
  ·rw[q];exact (Oj f y fs).1
  ·refine (Oj f y fs).2 g (wi g fun z=>hg ?_)
   show (if g=f then some u else mA g)=none
   rw[if_neg q];exact z
theorem Inv.made(I:Inv X pins σ H s):Inv X pins σ (upd (upd H s.heap.objs.size (.own (s.heap.objs.size+1))) (s.heap.objs.size+1) (.ins C s.heap.objs.size []))
  { s with heap:=(s.heap.push dG).push (eE C s.heap.objs.size) }:=by
 have e1:(s.heap.push dG).get? s.heap.objs.size=some dG:=aY s.heap rfl
 have e2:((s.heap.push dG).push (eE C s.heap.objs.size)).get? (s.heap.objs.size+1)=some (eE C s.heap.objs.size):=by
  have:=aY (s.heap.push dG) (o:=eE C s.heap.objs.size) rfl
  rwa [dW] at this
 have e3:(s.heap.push dG).Ns s.heap.objs.size (fun _=>none):=⟨dG,#[],_,e1,rfl,(fun e he=>absurd he (by simp)),fun _=>rfl⟩
 have I1:=I.laid (a:=s.heap.objs.size) (o:=.own (s.heap.objs.size+1)) (h':=s.heap.push dG) (t':=s.toks) (fun b u q=>aG _ q) (bD _) ⟨_,e1⟩
 refine I1.laid (a:=s.heap.objs.size+1) (o:=.ins C s.heap.objs.size []) (t':=s.toks) (fun b u q=>aG _ q) (nK (dW _ _)) ?_
 have ne:s.heap.objs.size≠s.heap.objs.size+1:=bV (fD _)
 refine ⟨by rw[A9 ne,upd_same],kH _,ne,e2,fun _=>none,(nL e3).at fun o q=>aG _ q,fun _=>eY,fun y hy=>absurd rfl hy⟩
theorem Aal{prog:bP}{w:cE}{env:Env}{e:Expr}{f:Str}{pos:Pos}{s:aJ}{Q:aE->aJ->Prop}(hb:attributeBase e f env (eval e env)=eval e env)
  (h:wpAny (model prog w) A (eval e env) (fun o s₁=>wpAny (model prog w) A (getAttr o f true) Q E s₁) E s):wpAny (model prog w) A (eval (.Attribute e f pos) env) Q E s:=
 Attribute_any_ h (by rw[arm_eval_Attribute,hb])
end
noncomputable def Anv(K:aC)(ta:TE)(f:Str):TE:=fun σ H Q=>ta σ H fun x H1=>∃ a C dx fs v,x = .ref a/\H1 a=some (.ins C dx fs)/\Cls K C/\NoAttr K C f/\fs.lookup f=some v/\Q v H1
noncomputable def Anz(K:aC)(ta tv:TE)(f:Str):TS:=fun D σ H=>tv σ H fun y H1=>ta σ H1 fun x H2=>∃ a C dx fs,x = .ref a/\H2 a=some (.ins C dx fs)/\Cls K C/\NoAttr K C f/\fs.length < 1000 /\
 D.nx σ (upd H2 a (.ins C dx (Jd f y fs)))
section
variable {X:Cx}{o e value:Expr}{f:Str}{pos pos' tpos:Pos}{ta tv:TE}
theorem Akt(he:PE X e ta)(hb:attributeBase e f X.env (eval e X.env)=eval e X.env):PE X (.Attribute e f pos) (Anv X.K ta f):=by
 intro pins s σ H Q I h
 refine Aal hb (thn (he pins s σ H _ I h) fun u s1 zz=>?_)
 obtain ⟨x,H1,I1,rx,a,C,dx,fs,v,ex,ea,c,n,l,q⟩:=zz
 subst ex
 obtain rfl:u=bN a:=rx
 exact Xz I1 ea c n l fun u' s2 I2 ru=>⟨v,H1,I2,ru,q⟩
theorem Ajg(ha:PE X o ta)(hv:PE X value tv)(hs:swapsWith value (some (.Attribute o f pos')) pos.line X.env=pure false):PS X (.Assign [.Attribute o f pos'] value pos) (Anz X.K ta tv f):=by
 intro pins s σ H D I h
 refine iD (thn (hv pins s σ H _ I h) fun u s1 zz=>zz.elim fun y H1 I1 ry q=>thn (ha pins s1 σ H1 _ I1 q) fun ov s2 zz=>zz.elim fun x H2 I2 rx zq=>?_) hs
 obtain ⟨a,C,dx,fs,ex,ea,c,n,l,q2⟩:=zq
 subst ex
 obtain rfl:ov=bN a:=rx
 exact Xu I2 ea c n l ry fun s3 I3=>⟨σ,_,I3,q2⟩
end
section
variable {X:Cx}{pins:List (Addr×Obj)}{σ:St}{H:Hp}{s:aJ}{A:cG}{E:aE->aJ->Prop}{Q:aE->aJ->Prop}{c:aE}{b:Bool}
inductive TyOf(K:aC)(H:Hp):V->aE->Prop where
 | non:TyOf K H .non (.type "NoneType")
 | bl (x:Bool):TyOf K H (.bl x) (.type "bool")
 | int (i:Int):TyOf K H (.int i) (.type "int")
 | str (x:Str):TyOf K H (.str x) (.type "str")
 | flt (x:UInt64):TyOf K H (.flt x) (.type "float")
 | lst {a:Addr} {xs:List V} (e:H a=some (.lst xs)):TyOf K H (.ref a) (.type "list")
 | frz {a:Addr} {o:Obj} {xs:List V} (e:H a=some (.frz o (.lst xs))):TyOf K H (.ref a) (.type "list")
 | tup {a:Addr} {xs:List V} (e:H a=some (.tup xs)):TyOf K H (.ref a) (.type "tuple")
 | dK {a:Addr} {kvs:List (Key×V)} (e:H a=some (.dK kvs)):TyOf K H (.ref a) (.type "dict")
 | dT {a:Addr} {kvs:List (List Key×V)} (e:H a=some (.dT kvs)):TyOf K H (.ref a) (.type "dict")
 | ins {a C dx:Addr} {fs:List (Str×V)} (e:H a=some (.ins C dx fs)) (cl:Cls K C) (ha:aZ K (.ref C) "__class__" = some (some (.builtin "object.__class__")))
   (hn:eV K (.builtin "object.__class__") "__get__" = some (some (.builtin "getset_descriptor.__get__"))) (htk:lN K (.builtin "object.__class__")=some true)
   (hm:mS K C (.type "object")=some true):TyOf K H (.ref a) (.ref C)
end
structure Room(k:Nat)(A:cG):Prop where
 hd:A.handled=none
 dp:A.depth+3 * k+5 < recursionLimit
 un:A.units+16 * k+200 < cLine
theorem Room.mono{j k:Nat}{A:cG}(r:Room k A)(h:j<=k):Room j A:=⟨r.hd,by have:=r.dp;omega,by have:=r.un;omega⟩
theorem Room.deeper{k:Nat}{A:cG}(r:Room (k+1) A)(env:Env):Room k (A.deeper env):=
 ⟨r.hd,by have:=r.dp;show A.depth+1+3 * k+5 < _;omega,by have:=r.un;show A.units+3+16 * k+200 < _;omega⟩
theorem Yb{A:cG}{C:Addr}{us:List aE}{kw:List (Str×aE)}:(A.under (.builtin "type.__call__" ⟨.ref C::us,kw⟩)).depth=A.depth+1:=by
 first | rfl | simp[nM,Code.weight,Code.isCreation,Code.isGuard,Code.isCaller,qC,nN,guardIds]
theorem X4{A:cG}{C:Addr}{us:List aE}{kw:List (Str×aE)}:(A.under (.builtin "type.__call__" ⟨.ref C::us,kw⟩)).units=A.units+1:=by
 first | rfl | simp[nM,Code.cUnits,qC,nN]
theorem Room.make{k:Nat}{A:cG}(r:Room (k+1) A)(C:Addr)(us:List aE)(kw:List (Str×aE)):Room k (A.under (.builtin "type.__call__" ⟨.ref C::us,kw⟩)):=
 ⟨r.hd,by have:=r.dp;rw[Yb];omega,by have:=r.un;rw[X4];omega⟩
theorem Room.depth{k:Nat}{A:cG}(r:Room k A):A.depth < recursionLimit:=by have:=r.dp;omega
theorem Room.units{k:Nat}{A:cG}(r:Room k A):A.units+64 < cLine:=by have:=r.un;omega
noncomputable def Ajy:TA:=fun _ H Q=>Q [] H
noncomputable def Amc(ta:TE)(tr:TA):TA:=fun σ H Q=>ta σ H fun x H1=>tr σ H1 fun xs H2=>Q (x::xs) H2
section
variable {X:Cx}{e:Expr}{es:List Expr}{te:TE}{t:TA}{pos:Pos}
theorem Ake:PA X [] Ajy:=fun _ _ _ _ H Q I h=>kI ⟨[],H,I,.nil,h⟩
theorem Ag9(ha:PE X e te)(hr:PA X es t)(hs:bA (e::es) X.env=(false,eval e X.env)::bA es X.env:=by rfl):PA X (e::es) (Amc te t):=by
 intro pos pins s σ H Q I h
 rw[hs]
 show wpAny _ _ (spliced ((false,eval e X.env)::backTo pos (bA es X.env))) _ _ s
 refine jQ (thn (ha pins s σ H _ I h) fun u s1 zz=>?_)
 obtain ⟨x,H1,I1,r1,q1⟩:=zz
 refine thn (hr pos pins s1 σ H1 _ I1 q1) fun us s2 zz=>?_
 obtain ⟨xs,H2,I2,r2,q2⟩:=zz
 exact ⟨x::xs,H2,I2,.cons r1 r2,q2⟩
noncomputable def An6(t:TA):TE:=fun σ H Q=>t σ H fun xs H1=>xs.length<=sizeLine/\∀ p,H1 p=none->Q (.ref p) (upd H1 p (.tup xs))
noncomputable def Anx(t:TA):TE:=fun σ H Q=>t σ H fun xs H1=>xs.length<=sizeLine/\∀ p,H1 p=none->Q (.ref p) (upd H1 p (.lst xs))
theorem Ajl{x1}(h:PA X es t):PE X (.Tuple es x1 pos) (An6 t):=by
 intro pins s σ H Q I hq
 refine wpAny_Tuple_spliced (thn (h pos pins s σ H _ I hq) fun us s1 zz=>zz.elim fun xs H1 I1 r zq=>⟨by rw[<- r.length];exact zq.1,?_⟩)
 obtain ⟨z,q⟩:=zq
 have hf:H1 s1.heap.objs.size=none:=I1.hok.fresh (bD _)
 refine ⟨.ref s1.heap.objs.size,upd H1 s1.heap.objs.size (.tup xs),I1.laid (t':=s1.toks) (fun b u e=>aG _ e) (bD _) ?_,rfl,q _ hf⟩
 exact ⟨z,us,r,⟨_,aY _ rfl,rfl,_,rfl⟩⟩
theorem Alc(h:PA X es t):PE X (.List es pos) (Anx t):=by
 intro pins s σ H Q I hq
 refine wpAny_List_spliced (thn (h pos pins s σ H _ I hq) fun us s1 zz=>zz.elim fun xs H1 I1 r zq=>⟨by rw[<- r.length];exact zq.1,?_⟩)
 obtain ⟨z,q⟩:=zq
 have hf:H1 s1.heap.objs.size=none:=I1.hok.fresh (bD _)
 refine ⟨.ref s1.heap.objs.size,upd H1 s1.heap.objs.size (.lst xs),I1.laid (t':=s1.toks) (fun b u e=>aG _ e) (bD _) ?_,rfl,q _ hf⟩
 exact ⟨z,us,0,r,aY _ rfl⟩
end
abbrev Sp:=List V->Hp->VK->XK->Prop
abbrev CXT:=List Env->Hp->aJ->XK->aE->aJ->Prop
structure Env0(P:bP)(w:cE)(K:aC)(mg:Str->Option aE)(base:Heap)(A:cG)(outer:List Env)(s:aJ)(H:Hp):Prop where
 frames:A.frames=some outer
 mod:Mod K mg base
 bs:∀ b o,base.get? b=some o->s.heap.get? b=some o/\H b=none
 bsz:base.objs.size<=s.heap.objs.size
 funs:s.heap.FunFrames base outer
 frf:∀ b∈frs outer,H b=none
 hok:HOk P w H s.heap
 bare:jI s.gens
inductive CE(outer:List Env)(P:bP)(w:cE)(H:Hp)(s:aJ)(Q:VK)(u:aE)(s':aJ):Prop
 | mk (v:V) (H':Hp) (os:s'.os=s.os) (bare:jI s'.gens) (un:Un (frs outer) [] H H' s.heap s'.heap) (hok:HOk P w H' s'.heap) (r:RelV v u) (q:Q v H'):CE outer P w H s Q u s'
noncomputable def CR(CX:CXT)(outer:List Env)(P:bP)(w:cE)(H:Hp)(s:aJ)(Q:VK)(E:XK)(r:Result)(s':aJ):Prop:=
 match r with
 | .ok (.ret u)=>CE outer P w H s Q u s'
 | .ok _=>False
 | .error e=>CX outer H s E e s'
structure FnOk(P:bP)(w:cE)(K:aC)(mg:Str->Option aE)(base:Heap)(CX:CXT)(k:Nat)(f:Addr)(fd:bL)(ps:List Str)(sp:Sp):Prop where
 len:∀ vs H Q E,sp vs H Q E->vs.length=ps.length
 run:∀ (A:cG) (outer:List Env) (s:aJ) (H:Hp) (args:Args) (us:List aE) (vs:List V) (Q:VK) (E:XK),Room k A->Env0 P w K mg base A outer s H->kJ s fd args (ps.zip us)->Vals vs us->sp vs H Q E ->
  iN (model P w) A (.call (.ref f) args) (CR CX outer P w H s Q E) s
theorem Env0.make{P:bP}{w:cE}{K:aC}{mg:Str->Option aE}{base:Heap}{A:cG}{outer:List Env}{s:aJ}{H:Hp}(e:Env0 P w K mg base A outer s H)(C:Addr)(us:List aE)(kw:List (Str×aE)) :
  Env0 P w K mg base (A.under (.builtin "type.__call__" ⟨.ref C::us,kw⟩)) outer s H:=⟨by first | exact e.frames | (simpa[nM,Code.envs,nN,pushEnvs] using e.frames),e.mod,e.bs,e.bsz,e.funs,e.frf,e.hok,e.bare⟩
section
variable {X:Cx}{pins:List (Addr×Obj)}{σ:St}{H:Hp}{s s':aJ}
theorem Inv.env0(I:Inv X pins σ H s):Env0 X.prog X.w X.K X.mg X.base X.A X.stack s H:=
 ⟨I.ok.frames,I.ok.mod,I.bs,cC I.ok.bsz I.sz,I.stack,I.stkFree,I.hok,I.bare⟩
theorem Inv.after{Q:VK}{u:aE}(I:Inv X pins σ H s)(h:CE X.stack X.prog X.w H s Q u s'):EP X pins σ Q u s':=by
 obtain ⟨v,H',os,bare,un,hok,r,q⟩:=h
 obtain ⟨hh,g,d,t,os'⟩:=s'
 obtain rfl:os'=s.os:=os
 exact ⟨v,H',I.call (h':=hh) (g':=g) (d':=d) (t':=t) (ch:=[]) un hok bare (fun b z=>absurd z (by simp)),r,q⟩
end
noncomputable def Al9(sp:Sp)(dvs:List V)(E:XK)(t:TA):TE:=fun σ H Q=>t σ H fun vs H1=>sp (vs++dvs) H1 Q E
noncomputable def Ad5(C:Addr)(m:Str)(sp:Sp)(dvs:List V)(E:XK)(ta:TE)(t:TA):TE:=fun σ H Q=>ta σ H fun x H1=>∃ a dx fs,x = .ref a/\H1 a=some (.ins C dx fs)/\fs.lookup m=none /\
 t σ H1 fun vs H2=>sp (x::(vs++dvs)) H2 Q E
noncomputable def Ai0(C:Addr)(sp:Sp)(dvs:List V)(E:XK)(t:TA):TE:=fun σ H Q=>t σ H fun vs H1=>∀ x dx,H1 x=none->H1 dx=none->dx≠x ->
 sp (.ref x::(vs++dvs)) (upd (upd H1 dx (.own x)) x (.ins C dx [])) (fun v H2=>v = .non/\Q (.ref x) H2) E
noncomputable def Binds(K:aC)(fd:bL)(ps:List Str)(ds:List aE):Prop:=
 ∀ (s:aJ) (us:List aE),K.In s.heap->(us++ds).length=ps.length->kJ s fd ⟨us,[]⟩ (ps.zip (us++ds))
theorem Binds.all{K:aC}{fd:bL}{ps:List Str}(h:∀ us:List aE,us.length=ps.length->bindArgs fd ⟨us,[]⟩=pure (ps.zip us)):Binds K fd ps []:=fun s us _ hl=>by
 rw[aX] at hl ⊢
 exact .of_eq (h us hl)
noncomputable def My(CX:CXT)(X:Cx)(E:XK):Prop:=∀ (pins:List (Addr×Obj)) (σ:St) (H:Hp) (s:aJ) (e:aE) (s':aJ),Inv X pins σ H s->CX X.stack H s E e s'->X.xe e s'
section
variable {X:Cx}{CX:CXT}{k:Nat}{f C:Addr}{fd:bL}{ps:List Str}{sp:Sp}{dvs:List V}{ds:List aE}{E:XK}{x m:Str}{p pos apos:Pos}{e o:Expr}{es:List Expr}{ta:TE}{t:TA}
theorem Yd{pins:List (Addr×Obj)}{σ:St}{H:Hp}{s:aJ}{Q:VK}{us:List aE}{vs:List V}(F:FnOk X.prog X.w X.K X.mg X.base CX k f fd ps sp)(hr:Room k X.A)(hb:Binds X.K fd ps ds)(hd:Vals dvs ds)(hx:My CX X E)
  (I:Inv X pins σ H s) (r:Vals vs us) (h:sp (vs++dvs) H Q E):wpAny (model X.prog X.w) X.A (call (.ref f) us) (EP X pins σ Q) X.xe s:=by
 have r2:Vals (vs++dvs) (us++ds):=r.append hd
 have hl:(us++ds).length=ps.length:=by rw[<- r2.length];exact F.len _ _ _ _ h
 refine iJ (gZ (F.run X.A X.stack s H ⟨us,[]⟩ (us++ds) (vs++dvs) Q E hr I.env0 (hb s us I.kIn hl) r2 h) fun r s' hq=>?_)
 cases r with
 | error e=>exact hx pins σ H s e s' I hq
 | ok fl=>
  cases fl with
  | ret u=>exact I.after hq
  | next=>exact dF hq
  | brk=>exact dF hq
  | cont=>exact dF hq
theorem Agp(F:FnOk X.prog X.w X.K X.mg X.base CX k f fd ps sp)(hr:Room k X.A)(hg:Gl X x)(hm:X.mg x=some (.ref f))(hk:aV X.K (.ref f)=true)(hb:Binds X.K fd ps ds)(hd:Vals dvs ds)(hx:My CX X E)
  (ha:PA X (e::es) t) (hdb:(x == ("__debug__" : Str))=false:=by decide) (he:bA (e::es) X.env=(false,eval e X.env)::bA es X.env:=by rfl) (hpl:(backTo pos (bA es X.env)).any (·.1)=false:=by rfl) :
  PE X (.Call (.Name x p) (e::es) [] pos) (Al9 sp dvs E t):=by
 intro pins s σ H Q I h
 refine eM (Og I hg hm ?_ hdb)
 refine gQ (h₀:=X.base) I.ok.mod.kin hk (thn (ha pos pins s σ H _ I h) fun us s1 zz=>zz.elim fun vs H1 I1 r q=>⟨I1.kIn,?_⟩) he hpl
 exact Yd F hr hb hd hx I1 r q
theorem Agm{pl:Sem Bool}(he:PE X o ta)(c:Cls X.K C)(hm:Meth X.K C m f)(F:FnOk X.prog X.w X.K X.mg X.base CX k f fd ps sp)(hr:Room k X.A)(hb:Binds X.K fd ps ds)(hd:Vals dvs ds)(hx:My CX X E)(ha:PA X (e::es) t)
  (hst:bA (e::es) X.env=(false,eval e X.env)::bA es X.env:=by rfl) (hpl:(backTo pos (bA es X.env)).any (·.1)=false:=by rfl)
  (ht:eval (.Call (.Attribute o m apos) (e::es) [] pos) X.env=(do
   let ov <- eval o X.env
   standAt apos.atName
   let (f,first) <- holding [ov] (getMethod ov m pl)
   callWith pos f first (backTo pos (bA (e::es) X.env)) (backToKw pos (keywordEach [] X.env))):=by rfl) :
  PE X (.Call (.Attribute o m apos) (e::es) [] pos) (Ad5 C m sp dvs E ta t):=by
 intro pins s σ H Q I h
 refine fP (pl:=pl) (thn (he pins s σ H _ I h) fun u s1 zz=>zz.elim fun x H1 I1 rx zq=>?_) ht
 obtain ⟨a,dx,fs,ex,ea,l,q⟩:=zq
 subst ex
 obtain rfl:u=bN a:=rx
 refine Mv I1 ea c hm l ?_
 refine gQ (first:=[.ref a]) (h₀:=X.base) I.ok.mod.kin hm.kp (thn (ha pos pins s1 σ H1 _ I1 q) fun us s2 zz=>zz.elim fun vs H2 I2 r q2=>⟨I2.kIn,?_⟩) hst hpl
 exact Yd (us:=.ref a::us) (vs:=.ref a::vs) F hr hb hd hx I2 (.cons rfl r) q2
theorem Adk{pl:Sem Bool}(he:PE X o ta)(c:Cls X.K C)(hm:Meth X.K C m f)(F:FnOk X.prog X.w X.K X.mg X.base CX k f fd ps sp)(hr:Room k X.A)(hb:Binds X.K fd ps ds)(hd:Vals dvs ds)(hx:My CX X E)
  (ht:eval (.Call (.Attribute o m apos) [] [] pos) X.env=(do
   let ov <- eval o X.env
   standAt apos.atName
   let (f,first) <- holding [ov] (getMethod ov m pl)
   callWith pos f first (backTo pos (bA [] X.env)) (backToKw pos (keywordEach [] X.env))):=by rfl) :
  PE X (.Call (.Attribute o m apos) [] [] pos) (Ad5 C m sp dvs E ta Ajy):=by
 intro pins s σ H Q I h
 refine fP (pl:=pl) (thn (he pins s σ H _ I h) fun u s1 zz=>zz.elim fun x H1 I1 rx zq=>?_) ht
 obtain ⟨a,dx,fs,ex,ea,l,q⟩:=zq
 subst ex
 obtain rfl:u=bN a:=rx
 refine Mv I1 ea c hm l ?_
 exact mO (first:=[.ref a]) I1.kIn hm.kp (Yd (us:=[.ref a]) (vs:=[.ref a]) F hr hb hd hx I1 (.cons rfl .nil) q)
structure Mk(K:aC)(C f:Addr):Prop where
 makes:lM K C=true
 init:aZ K (.ref C) "__init__" = some (some (.ref f))
 fn:cT K (.ref f)=true
 kp:aV K (.ref C)=true
theorem Ac5{pins:List (Addr×Obj)}{σ:St}{H:Hp}{s:aJ}{Q:VK}{us:List aE}{vs:List V}(M:Mk X.K C f)(F:FnOk X.prog X.w X.K X.mg X.base CX k f fd ps sp)(hr:Room (k+1) X.A)(hb:Binds X.K fd ps ds)(hd:Vals dvs ds)
  (hx:My CX X E) (I:Inv X pins σ H s) (r:Vals vs us)
  (h:∀ x dx,H x=none->H dx=none->dx≠x->sp (.ref x::(vs++dvs)) (upd (upd H dx (.own x)) x (.ins C dx [])) (fun v H2=>v = .non/\Q (.ref x) H2) E) :
  wpAny (model X.prog X.w) X.A (call (.ref C) us) (EP X pins σ Q) X.xe s:=by
 have hq:=h (s.heap.objs.size+1) s.heap.objs.size (I.hok.fresh (iP _)) (I.hok.fresh (bD _)) (bV (fD _))
 have I2:=Inv.made (C:=C) I
 have r2:Vals (V.ref (s.heap.objs.size+1)::(vs++dvs)) (bN (s.heap.objs.size+1)::(us++ds)):=.cons rfl (r.append hd)
 have hl:(bN (s.heap.objs.size+1)::us++ds).length=ps.length:=by
  have e:=r2.length
  rw[F.len _ _ _ _ hq] at e
  exact e.symm
 refine iJ (Afi (f:=f) I.kIn M.makes M.init (beq_iff_eq.mp M.fn) (gZ (F.run _ X.stack _ _ ⟨bN (s.heap.objs.size+1)::us,[]⟩ (bN (s.heap.objs.size+1)::(us++ds)) _ _ E (hr.make C us [])
  (I2.env0.make C us []) (hb _ (bN (s.heap.objs.size+1)::us) I2.kIn hl) r2 hq) fun r s' hq'=>?_))
 cases r with
 | error e=>exact hx pins σ _ _ e s' I2 hq'
 | ok fl=>
  cases fl with
  | ret u=>
   obtain ⟨v,H',I3,rv,ev,q3⟩:=I2.after hq'
   subst ev
   exact ⟨rv,⟨V.ref (s.heap.objs.size+1),H',I3,rfl,q3⟩⟩
  | next=>exact dF hq'
  | brk=>exact dF hq'
  | cont=>exact dF hq'
theorem Aek(M:Mk X.K C f)(F:FnOk X.prog X.w X.K X.mg X.base CX k f fd ps sp)(hr:Room (k+1) X.A)(hg:Gl X x)(hm:X.mg x=some (.ref C))(hb:Binds X.K fd ps ds)(hd:Vals dvs ds)(hx:My CX X E)
  (hdb:(x == ("__debug__" : Str))=false:=by decide):PE X (.Call (.Name x p) [] [] pos) (Ai0 C sp dvs E Ajy):=by
 intro pins s σ H Q I h
 refine eM (Og I hg hm ?_ hdb)
 exact mO I.kIn M.kp (Ac5 (us:=[]) M F hr hb hd hx I .nil h)
end
section
variable {X:Cx}{CX:CXT}{k:Nat}{f C:Addr}{fd:bL}{ps ks:List Str}{sp:Sp}{E:XK}{x m:Str}{p pos apos kpos:Pos}{e o:Expr}{es:List Expr}{kws:List hG}{te ta:TE}{t tk:TA}{nm:Option Str}
structure KBinds(K:aC)(fd:bL)(ps ks:List Str)(g:List aE->List aE->List aE)(gV:List V->List V->List V):Prop where
 to:∀ (s:aJ) (us ws:List aE),K.In s.heap->(g us ws).length=ps.length->kJ s fd ⟨us,ks.zip ws⟩ (ps.zip (g us ws))
 rel:∀ {vs:List V} {us:List aE} {zs:List V} {ws:List aE},Vals vs us->Vals zs ws->Vals (gV vs zs) (g us ws)
variable {g:List aE->List aE->List aE}{gV:List V->List V->List V}
end
structure FnScope(N P:List Str)(sc:gX):Prop where
 kind:sc.kind = .function
 co:sc.isCoroutine=false
 gen:sc.isGenerator=false
 nd:N.Nodup
 pre:N.take P.length=P
 par:∀ x∈P,sc.names.lookup x=some .local\/sc.names.lookup x=some .cell
 nofree:∀ y∈sc.names,y.2≠.free
theorem Ta{kindOf:Str->Option hU}{x:Str}:∀ {binds:List (Str×aE)} {m:Str->Option aE},(∀ v,(x,v)∉binds)->bindL kindOf binds m x=m x
 | [],_,_=>rfl
 | (n,v)::r,m,h=>by
  unfold bindL
  rw[Ta fun w hw=>h w (bG _ hw)]
  split
  ·have:x≠n:=by rintro rfl;exact h v bT
   simp[this]
  ·rfl
theorem Tt{kindOf:Str->Option hU}{x:Str}:∀ {binds:List (Str×aE)} {m:Str->Option aE},(∀ v,(x,v)∉binds)->bindC kindOf binds m x=m x
 | [],_,_=>rfl
 | (n,v)::r,m,h=>by
  unfold bindC
  rw[Tt fun w hw=>h w (bG _ hw)]
  split
  ·rfl
  ·have:x≠n:=by rintro rfl;exact h v bT
   simp[this]
theorem Sj{kindOf:Str->Option hU}{x:Str}{v:aE}:∀ {P:List Str} {vs:List aE} {i:Nat} {m:Str->Option aE},P.Nodup->P[i]? = some x->vs[i]? = some v->kindOf x=some .local ->
  bindL kindOf (P.zip vs) m x=some v
 | [],_,_,_,_,h,_,_=>by simp at h
 | _::_,[],_,_,_,_,h,_=>by simp at h
 | p::P,w::vs,0,m,nd,h1,h2,hk=>by
  simp at h1 h2;subst h1;subst h2
  show bindL kindOf ((p,w)::P.zip vs) m p=_
  unfold bindL
  rw[Ta fun v hv=>(iX.mp nd).1 (iY hv).1,if_pos hk]
  simp
 | p::P,w::vs,i+1,m,nd,h1,h2,hk=>by
  show bindL kindOf ((p,w)::P.zip vs) m x=_
  unfold bindL
  exact Sj (i:=i) (iX.mp nd).2 (by simpa using h1) (by simpa using h2) hk
theorem Tn{kindOf:Str->Option hU}{x:Str}{v:aE}:∀ {P:List Str} {vs:List aE} {i:Nat} {m:Str->Option aE},P.Nodup->P[i]? = some x->vs[i]? = some v->kindOf x≠some .local ->
  bindC kindOf (P.zip vs) m x=some v
 | [],_,_,_,_,h,_,_=>by simp at h
 | _::_,[],_,_,_,_,h,_=>by simp at h
 | p::P,w::vs,0,m,nd,h1,h2,hk=>by
  simp at h1 h2;subst h1;subst h2
  show bindC kindOf ((p,w)::P.zip vs) m p=_
  unfold bindC
  rw[Tt fun v hv=>(iX.mp nd).1 (iY hv).1,if_neg hk]
  simp
 | p::P,w::vs,i+1,m,nd,h1,h2,hk=>by
  show bindC kindOf ((p,w)::P.zip vs) m x=_
  unfold bindC
  exact Tn (i:=i) (iX.mp nd).2 (by simpa using h1) (by simpa using h2) hk
noncomputable def start(N:List Str)(vs:List V):St:=vs.map some++bE (N.length - vs.length) none
noncomputable def Uc(CX:CXT)(P:bP)(w:cE)(K:aC)(mg:Str->Option aE)(base:Heap)(N:List Str)(qual:Str)(scope:gX)(f:Addr)(cd:aE)(A:cG)(outer:List Env)(s:aJ)(H:Hp)(E:XK):Cx where
 prog:=P
 w:=w
 K:=K
 mg:=mg
 base:=base
 A:=A.deeper (envOfC qual scope s.heap.objs.size f cd)
 N:=N
 s₀:=s
 H₀:=H
 env:=envOfC qual scope s.heap.objs.size f cd
 outer:=outer
 stack:=envOfC qual scope s.heap.objs.size f cd::outer
 ex:=[]
 calm:=true
 fn:=fun _=>true
 pn:=[]
 xe:=fun e s'=>wpAny (model P w) (A.deeper (envOfC qual scope s.heap.objs.size f cd)) (leaving (envOfC qual scope s.heap.objs.size f cd) e) (fun _ s''=>CX outer H s E e s'') (fun e' s''=>CX outer H s E e' s'') s'
theorem Vz{sc:gX}{n:Nat}{x:Str}(h:sc.names.lookup x=some .cell):∃ c,(cellsFrom n sc.names []).lookup x=some c:=by
 have q:=hV sc.names n [] (.inl h)
 exact kN.mp q
theorem Sw{CX:CXT}{P:bP}{w:cE}{K:aC}{mg:Str->Option aE}{base:Heap}{N ps:List Str}{qual:Str}{scope:gX}{f:Addr}{cd:aE}{A:cG}{outer:List Env}{s s1:aJ}{H:Hp}{E:XK}{us:List aE}{vs:List V}
  (S:FnScope N ps scope) (hd:A.handled=none) (e0:Env0 P w K mg base A outer s H) (hl:vs.length=ps.length) (r:Vals vs us)
  (x:InCallC s s.heap.objs.size (bindL (envOfC qual scope s.heap.objs.size f cd).kindOf (ps.zip us) fun _=>none) (cellsFrom (s.heap.objs.size+1) scope.names []) (bindC (envOfC qual scope s.heap.objs.size f cd).kindOf (ps.zip us) fun _=>none) s1) :
  Inv (Uc CX P w K mg base N qual scope f cd A outer s H E) [] (start N vs) H s1:=by
 have hpl:ps.length<=N.length:=by have:=congrArg kK S.pre;rw[fE] at this;omega
 obtain ⟨h1,tk,rfl,hk⟩:=x.done
 have noA:∀ b:Addr,b∉(Uc CX P w K mg base N qual scope f cd A outer s H E).ex:=fun b z=>absurd (show b∈([]:List Addr) from z) (by simp)
 refine ⟨⟨e0.mod,S.kind,rfl,rfl,bD _,fun y z c h1 h2=>?_,fun y hy=>?_,fun y c _ h=>?_,fun _=>hd,mC e0.frames,.inr ⟨rfl,rfl⟩,fun b z=>absurd z (noA b),e0.bs,e0.bsz,fun b _ _=>noA b,fun b z=>absurd z (noA b),e0.funs,e0.frf⟩,
  rfl,e0.bare,Un.kept hk,⟨_,x.toInCall.ns,fun i y v h1 h2 h3=>?_⟩,fun y c h=>⟨_,x.cell y c h⟩,e0.hok.fresh (bD _),fun y c h=>?_,fun p hp=>absurd (show p∈([]:List (Addr×Obj)) from hp) (by simp),e0.hok.kept hk,?_⟩
 ·exact name_of_addr x.apart (fB h1) (fB h2)
 ·have hy:scope.names.lookup y=some .cell\/scope.names.lookup y=some .free:=hy
  rcases hy with hy | hy
  ·exact Vz hy
  ·exact absurd rfl (S.nofree _ (fB hy))
 ·exact lC (x.above y c (fB h))
 ·have hi:i < vs.length:=by
   unfold start at h2
   by_cases hi:i < vs.length
   ·exact hi
   ·rw[bY (by simpa using hi)] at h2
    rw[List.getElem?_replicate] at h2
    split at h2 <;> cases h2
  have ha:vs[i]? = some v:=by
   unfold start at h2
   rw[aW (by simpa using hi),bO] at h2
   cases e:vs[i]? with
   | none=>rw[e] at h2;cases h2
   | some a=>rw[e] at h2;cases h2;rfl
  obtain ⟨u,hu,rv⟩:=r.get ha
  have hp:ps[i]? = some y:=by
   rw[<- S.pre,List.getElem?_take_of_lt (by omega)];exact h1
  have ndP:ps.Nodup:=by rw[<- S.pre];exact S.nd.sublist (nO _ _)
  refine ⟨u,rv,?_⟩
  rcases S.par y (fV hp) with k | k
  ·exact .inl ⟨k,Sj ndP hp hu k⟩
  ·obtain ⟨c,e⟩:=Vz (n:=s.heap.objs.size+1) k
   refine .inr ⟨.inl k,c,e,?_⟩
   have q:=x.cell y c e
   rw[Tn ndP hp hu (by show scope.names.lookup y≠_;rw[k];decide)] at q
   exact q
 ·exact e0.hok.fresh (lC (x.above y c (fB h)))
 ·unfold start
  show _=N.length
  rw[cN,bB,List.length_replicate]
  omega
theorem Als{CX:CXT}{P:bP}{w:cE}{K:aC}{mg:Str->Option aE}{base:Heap}{k:Nat}{f:Addr}{name qual:Str}{params:Arguments}{body:List Stmt}{scope:gX}{dV kV doc pm cdv ct oc:aE}{an od:Option Addr}
  {osl:Array (Option aE)} {N ps:List Str} {sp:Sp} (lk:K.lookup f=some ⟨oc,od,.func (bF name qual params body scope dV kV doc pm an cdv ct),osl⟩) (hcd:bC K cdv qual=true) (S:FnScope N ps scope)
  (len:∀ vs H Q E,sp vs H Q E->vs.length=ps.length)
  (hbody:∀ (A:cG) (outer:List Env) (s:aJ) (H:Hp) (vs:List V) (Q:VK) (E:XK),Room k (A.deeper (envOfC qual scope s.heap.objs.size f cdv))->sp vs H Q E ->
   ∃ t,PSs (Uc CX P w K mg base N qual scope f cdv A outer s H E) body t/\t { nx:=fun _ H'=>Q .non H',rt:=Q } (start N vs) H) :
  FnOk P w K mg base CX (k+1) f (bF name qual params body scope dV kV doc pm an cdv ct) ps sp:=by
 refine ⟨len,fun A outer s H args us vs Q E hr e0 hb r hsp=>?_⟩
 have hl:=len _ _ _ _ hsp
 have KX:K.In s.heap:=e0.mod.kin.keeps fun b o e=>(e0.bs b o e).1
 have lim:s.heap.NoLimit:=e0.mod.nolimit.keeps fun b o e=>(e0.bs b o e).1
 have hkind:∀ y∈ps.zip us,scope.names.lookup y.1=some .local\/(scope.names.lookup y.1=some .cell/\((cellsFrom (s.heap.objs.size+1) scope.names []).lookup y.1).isSome=true):=fun ⟨n,v⟩ hy=>by
  rcases S.par n (iY hy).1 with q | q
  ·exact .inl q
  ·exact .inr ⟨q,hV _ _ _ (.inl q)⟩
 refine lV hr.depth (KX _ _ lk) rfl S.co S.gen rfl (mZ KX hcd) (hb _ _ _ _ ?_)
 refine jR S.kind hkind fun env he s1 x=>?_
 subst he
 refine ⟨lim.keeps x.toInCall.keep,codeAny_func ?_⟩
 obtain ⟨t,ht,hq⟩:=hbody A outer s H vs Q E (hr.deeper _) hsp
 have I:Inv (Uc CX P w K mg base N qual scope f cdv A outer s H E) [] (start N vs) H s1:=Sw S hr.hd e0 hl r x
 refine cM (ht [] s1 (start N vs) H _ I hq) (fun fl s' hs=>?_) fun e s' hs=>hs
 have fin:∀ {σ':St} {H':Hp} {v:V} {u:aE},Inv (Uc CX P w K mg base N qual scope f cdv A outer s H E) [] σ' H' s'->RelV v u->Q v H'->CE outer P w H s Q u s':=
  fun {σ' H' v u} J rv q=>⟨v,H',J.os,J.bare,J.base,J.hok,rv,q⟩
 cases fl with
 | ret u=>
  obtain ⟨v,σ',H',J,rv,q⟩:=hs
  exact fin J rv q
 | next=>
  obtain ⟨σ',H',J,q⟩:=hs
  exact fin (v:=V.non) (u:=dE) J rfl q
 | brk=>
  obtain ⟨_,_,_,q⟩:=hs
  exact dF q
 | cont=>
  obtain ⟨_,_,_,q⟩:=hs
  exact dF q
section
variable {X:Cx}{x:Str}{p pos:Pos}{e:Expr}{es:List Expr}{t:TA}{id T:String}{r:List V->Hp->VK->Prop}
noncomputable def tCB(r:List V->Hp->VK->Prop)(t:TA):TE:=fun σ H Q=>t σ H fun vs H1=>r vs H1 Q
theorem Afl(hc:CallR X (.builtin id) r)(hg:Gl X x)(hm:X.mg x=none)(hv:eT x=some (.builtin id))(ha:PA X (e::es) t)(hn:x ≠ "__name__" := by decide)(hdb:(x == ("__debug__" : Str))=false:=by decide)
  (he:bA (e::es) X.env=(false,eval e X.env)::bA es X.env:=by rfl) (hpl:(backTo pos (bA es X.env)).any (·.1)=false:=by rfl):PE X (.Call (.Name x p) (e::es) [] pos) (tCB r t):=by
 intro pins s σ H Q I h
 refine eM (Rj I hg hm hv ?_ hn hdb)
 exact PyProof.Rows.callWith_builtin1 (thn (ha pos pins s σ H _ I h) fun us s1 zz=>by obtain ⟨vs,H1,I1,r1,q1⟩:=zz;exact hc pins s1 σ H1 vs us Q I1 r1 q1) he hpl
theorem Ace(hc:CallR X (.type T) r)(hg:Gl X x)(hm:X.mg x=none)(hv:eT x=some (.type T))(ha:PA X (e::es) t)(hn:x ≠ "__name__" := by decide)(hdb:(x == ("__debug__" : Str))=false:=by decide)
  (he:bA (e::es) X.env=(false,eval e X.env)::bA es X.env:=by rfl) (hpl:(backTo pos (bA es X.env)).any (·.1)=false:=by rfl):PE X (.Call (.Name x p) (e::es) [] pos) (tCB r t):=by
 intro pins s σ H Q I h
 refine eM (Rj I hg hm hv ?_ hn hdb)
 exact eI (thn (ha pos pins s σ H _ I h) fun us s1 zz=>by obtain ⟨vs,H1,I1,r1,q1⟩:=zz;exact hc pins s1 σ H1 vs us Q I1 r1 q1) he hpl
end
end L2
namespace HT
open PySem PyProof.Rows
section
open PySem.SeqAt
open PySem.AutoSeq1 (wpAny_loadPart')
open PySem.MeetsSeq PySem.MeetsSeq2 PySem.MeetsSeq3
end
section
variable {prog:bP}{w:cE}{A:cG}{E:aE->aJ->Prop}{s:aJ}
theorem Ahf{t b:Addr}{vs ws:List aE}{Q:aE->aJ->Prop}(ht:IsTup s.heap t vs.toArray)(hb:IsTup s.heap b ws.toArray)(hv:vs≠[])
  (h1:ws=[]->Q (.ref t) s) (h2:ws≠[]->Q (.ref s.heap.objs.size) { s with heap:=s.heap.push { cls:=.type "tuple",data:=.seq (vs++ws).toArray } })
  (hsz:vs.length+ws.length<=sizeLine):wpAny (model prog w) A (eB .Add (.ref t) (.ref b)) Q E s:=by
 obtain ⟨⟨cls,dd,data,sl⟩,ho,hc,n,hd⟩:=id ht
 obtain ⟨⟨cls2,dd2,data2,sl2⟩,ho2,hc2,n2,hd2⟩:=id hb
 simp only at hc hd hc2 hd2
 subst hc hd hc2 hd2
 have e:vs.toArray++ws.toArray=(vs++ws).toArray:=by simp
 by_cases hw:ws=[]
 ·exact nQ ⟨_,ho,rfl⟩ ⟨_,ho2,rfl⟩ kT mT hW gR (gJ _ _)
   (tuple_addW1 t b vs.toArray ws.toArray n n2 dd dd2 sl sl2 (by simpa using hv) (by simp[hw])) ⟨ho,ho2,h1 hw⟩
 ·refine nQ ⟨_,ho,rfl⟩ ⟨_,ho2,rfl⟩ kT mT hW gR (gJ _ _)
   (tuple_addW2 t b vs.toArray ws.toArray n n2 dd dd2 sl sl2 (by simpa using hv) (by simpa using hw) (by rw[bH,bH];exact hsz)) ⟨ho,ho2,?_⟩
  rw[e]
  exact h2 hw
noncomputable def sIx(n d:Nat):Option Int->Nat
 | none=>d
 | some v=>if v < 0 then (v+(n:Int)).toNat else min v.toNat n
theorem Adx(n d:Nat):sIx n d none=d:=rfl
theorem Ag1(n d k:Nat):sIx n d (some (k:Int))=min k n:=by
 show (if (k:Int) < 0 then ((k:Int)+(n:Int)).toNat else min (k:Int).toNat n)=min k n
 rw[if_neg (by omega),dH]
theorem Aj6(n d:Nat)(hd:d<=n)(o:Option Int):sIx n d o<=n:=by
 cases o with
 | none=>exact hd
 | some v=>
  show (if v < 0 then (v+(n:Int)).toNat else min v.toNat n)<=n
  by_cases hv:v < 0
  ·rw[if_pos hv];omega
  ·rw[if_neg hv];exact Nat.min_le_right _ _
theorem Yp(v:Int)(n d:Nat):(if v < 0 then max (v+(n:Int)) 0 else min v (n:Int))=((sIx n d (some v):Nat):Int):=by
 show (if v < 0 then max (v+(n:Int)) 0 else min v (n:Int))=(((if v < 0 then (v+(n:Int)).toNat else min v.toNat n):Nat):Int)
 by_cases hv:v < 0
 ·simp only[if_pos hv];omega
 ·simp only[if_neg hv];omega
theorem Xc(lo hi:Option Int)(n:Nat):gE lo hi 1 (n:Int)=(((sIx n 0 lo:Nat):Int),((sIx n n hi:Nat):Int)):=by
 have h1:¬ ((1:Int) < 0):=by omega
 unfold gE
 simp only[h1,if_false]
 refine Prod.ext ?_ ?_
 ·cases lo with
  | none=>rfl
  | some v=>exact Yp v n 0
 ·cases hi with
  | none=>rfl
  | some v=>exact Yp v n n
theorem Xr(i j:Nat):eQ (i:Int) (j:Int) 1=j - i:=by
 unfold eQ
 have h1:(1:Int) > 0:=by omega
 simp only[h1,if_true,Int.ediv_one]
 split <;> omega
theorem Rl{v:aE}{o:Option Int}{Q:Option Int->aJ->Prop}(p:nA v o)(h:Q o s):wpAny (model prog w) A (lJ.Slice.slicePartIndex v) Q E s:=by
 cases p with
 | none=>exact slicePart_none h
 | int i t=>exact slicePart_int h
theorem Ox{sl:Addr}{vl vu:aE}{lo hi:Option Int}{n:Nat}{Q:Int×Int×Nat->aJ->Prop}(hs:s.heap.IsSliceOf sl vl vu .none)(pl:nA vl lo)(pu:nA vu hi)
  (h:Q (((sIx n 0 lo:Nat):Int),1,sIx n n hi - sIx n 0 lo) s):wpAny (model prog w) A (jS (.ref sl) (pure (n:Int))) Q E s:=by
 obtain ⟨os,hos,hcs,hds⟩:=id hs
 unfold jS lJ.Slice.sliceFields
 refine aF (aF (cJ hos hds (x:=vl) rfl (aF (cJ hos hds (x:=vu) rfl (aF (cJ hos hds (x:=.none) rfl (aT ?_)))))))
 refine aF (slicePart_none ?_)
 show wpAny _ _ (if ((1:Int) == 0)=true then _ else _) _ _ s
 rw[if_neg (by decide)]
 refine aF (Rl pl (aF (Rl pu (aF (aT ?_)))))
 show wpAny _ _ (match gE lo hi 1 (n:Int) with | (lo,hi)=>pure (lo,(1:Int),eQ lo hi 1)) _ _ s
 rw[Xc lo hi n]
 show wpAny _ _ (pure (((sIx n 0 lo:Nat):Int),(1:Int),eQ ((sIx n 0 lo:Nat):Int) ((sIx n n hi:Nat):Int) 1)) _ _ s
 rw[Xr]
 exact aT h
theorem Aeu(xs:Array aE)(i k:Nat):((dU k).filterMap fun (m:Nat)=>xs[((i:Int)+(m:Int) * 1).toNat]?).toArray=((xs.toList.drop i).take k).toArray:=by
 have e:(fun (m:Nat)=>xs[((i:Int)+(m:Int) * 1).toNat]?)=fun m=>xs[i+m]?:=by
  funext m
  have:((i:Int)+(m:Int) * 1).toNat=i+m:=by omega
  rw[this]
 rw[e]
 have:=pick_run xs i k
 rw[List.filterMap_map] at this
 have e2:((fun x=>xs[x]?)∘fun x=>i+x)=fun m=>xs[i+m]?:=rfl
 rw[e2] at this
 rw[this]
theorem Np{t sl:Addr}{items:Array aE}{vl vu:aE}{lo hi:Option Int}{Q:aE->aJ->Prop}(ht:IsTup s.heap t items)(hs:s.heap.IsSliceOf sl vl vu .none)(pl:nA vl lo)(pu:nA vu hi)
  (hw:¬ (sIx items.size 0 lo=0/\sIx items.size items.size hi=items.size))
  (h:Q (.ref s.heap.objs.size) { s with heap:=s.heap.push { cls:=.type "tuple",data:=.seq ((items.toList.drop (sIx items.size 0 lo)).take (sIx items.size items.size hi - sIx items.size 0 lo)).toArray } })
  (hsz:items.size<=sizeLine):wpAny (model prog w) A (getItem (.ref t) (.ref sl)) Q E s:=by
 have htake:sizeOk (.seq ((items.toList.drop (sIx items.size 0 lo)).take (sIx items.size items.size hi - sIx items.size 0 lo)).toArray):=by
  show ((items.toList.drop (sIx items.size 0 lo)).take (sIx items.size items.size hi - sIx items.size 0 lo)).toArray.size<=sizeLine
  rw[bH,fE,oA,cO]
  omega
 have hj:sIx items.size items.size hi<=items.size:=Aj6 _ _ (bD _) hi
 obtain ⟨os,hos,hcs,hds⟩:=id hs
 have hTs:s.TypeIs (.ref sl) "slice" := ⟨os,hos,hcs⟩
 unfold getItem
 try with_reducible refine dA ?_
 first | refine aF (aT ?_) | skip
 refine aF (wpAny_sequenceKey ht.typeIs (by decide) ?_)
 refine aF (eC (name:=jJ "__getitem__") ht.typeIs iE
  (fF iE ht.typeIs entry_tuple_getitem ?_ (args_tuple_getitem _ _)))
 show wpAny _ _ (lJ.Tuple.tupleItemsOf (.ref t) >>= _) _ _ s
 refine aF (tupleItemsOf_ ht ?_)
 refine aF (wpAny_typeOf hTs ?_)
 rw[if_pos (by decide)]
 refine aF (Ox hs pl pu ?_)
 have hno:¬ ((((sIx items.size 0 lo:Nat):Int) == 0&&(1:Int) == 1&&(sIx items.size items.size hi - sIx items.size 0 lo) == items.size)=true):=by
  intro q
  rw[cQ,cQ] at q
  have q1:((sIx items.size 0 lo:Nat):Int)=0:=eq_of_beq q.1.1
  have q2:sIx items.size items.size hi - sIx items.size 0 lo=items.size:=eq_of_beq q.2
  exact hw ⟨by omega,by omega⟩
 show wpAny _ _ (if (((sIx items.size 0 lo:Nat):Int) == 0&&(1:Int) == 1&&(sIx items.size items.size hi - sIx items.size 0 lo) == items.size)=true then _ else _) _ _ s
 rw[if_neg hno,Aeu]
 first
  | exact aF (m:=dM _) (cR (aT ⟨_,rfl,aT h⟩) htake)
  | exact aF (m:=dM _) (cR (aF (aT (aT ⟨_,rfl,aT h⟩))) htake)
  | exact aF (aF (m:=dM _) (cR (aT (aT ⟨_,rfl,aT h⟩)) htake))
  | exact aF (aF (m:=dM _) (cR (aT ⟨_,rfl,aT h⟩) htake))
end
end HT
namespace L2
open PySem PySem.Spec PyProof.Rows
abbrev TO:=St->Hp->(Option Int->Hp->Prop)->Prop
noncomputable def PO(X:Cx)(e:Option Expr)(t:TO):Prop:=
 ∀ (pins:List (Addr×Obj)) (s:aJ) (σ:St) (H:Hp) (Q:Option Int->Hp->Prop),Inv X pins σ H s->t σ H Q ->
  wpAny (model X.prog X.w) X.A (evalPart e X.env) (fun u s'=>∃ o H',Inv X pins σ H' s'/\nA u o/\Q o H') X.xe s
noncomputable def Ah2:TO:=fun _ H Q=>Q none H
noncomputable def Ama(t:TE):TO:=fun σ H Q=>t σ H fun x H1=>∃ i,x = .int i/\Q (some i) H1
theorem Kp{ns:List Int}:∀ {us:List aE},Vals (ns.map V.int) us->jK us ns:=by
 induction ns with
 | nil=>intro us r;rw[bK] at r;cases r;exact .nil
 | cons n ns ih=>
  intro us r
  rw[aO] at r
  cases r with
  | cons r1 r2=>
   obtain ⟨t,e⟩:=r1
   subst e
   exact .cons n t (ih r2)
section
variable {X:Cx}{e:Expr}{te:TE}{lo hi:Option Expr}{tl th:TO}{pos p2:Pos}
theorem Agy:PO X none Ah2:=by
 intro pins s σ H Q I h
 rw[evalPart_none]
 exact aT ⟨none,H,I,.none,h⟩
theorem Ahd(h:PE X e te):PO X (some e) (Ama te):=by
 intro pins s σ H Q I hw
 rw[evalPart_some]
 refine thn (h pins s σ H _ I hw) fun u s1 zz=>?_
 obtain ⟨x,H1,I1,r1,q1⟩:=zz
 obtain ⟨i,rfl,q⟩:=q1
 obtain ⟨t,rfl⟩:=r1
 exact ⟨some i,H1,I1,.int i t,q⟩
noncomputable def SlR(X:Cx)(r:V->Option Int->Option Int->Hp->VK->Prop):Prop:=
 ∀ (pins:List (Addr×Obj)) (s:aJ) (σ:St) (H:Hp) (x:V) (v vl vu:aE) (lo hi:Option Int) (sl:Addr) (Q:VK),Inv X pins σ H s->RelV x v->s.heap.IsSliceOf sl vl vu .none->nA vl lo->nA vu hi->r x lo hi H Q ->
  ∃ T id,typeLookup (.type T) "__getitem__" = pure (some (.builtin id))/\s.TypeIs v T/\wpAny (model X.prog X.w) X.A (getItem v (.ref sl)) (EP X pins σ Q) X.xe s
theorem SlR.or{r r':V->Option Int->Option Int->Hp->VK->Prop}(h:SlR X r)(h':SlR X r'):SlR X (fun x lo hi H Q=>r x lo hi H Q\/r' x lo hi H Q):=by
 intro pins s σ H x v vl vu lo hi sl Q I rx hs pl pu q
 rcases q with q | q
 ·exact h pins s σ H x v vl vu lo hi sl Q I rx hs pl pu q
 ·exact h' pins s σ H x v vl vu lo hi sl Q I rx hs pl pu q
noncomputable def tSl(r:V->Option Int->Option Int->Hp->VK->Prop)(te:TE)(tl th:TO):TE:=fun σ H Q=>te σ H fun x H1=>tl σ H1 fun l H2=>th σ H2 fun u H3=>r x l u H3 Q
theorem Ael{r:V->Option Int->Option Int->Hp->VK->Prop}(hr:SlR X r)(he:PE X e te)(hl:PO X lo tl)(hu:PO X hi th):PE X (.Subscript e (.Slice lo hi none p2) pos) (tSl r te tl th):=by
 intro pins s σ H Q I h
 refine Subscript_ (thn (he pins s σ H _ I h) fun v s1 zz=>?_)
 obtain ⟨x,H1,I1,r1,q1⟩:=zz
 refine wpAny_Slice (thn (hl pins s1 σ H1 _ I1 q1) fun vl s2 ⟨l,H2,I2,pl,q2⟩=>thn (hu pins s2 σ H2 _ I2 q2) fun vu s3 zz=>?_)
 obtain ⟨u,H3,I3,pu,q3⟩:=zz
 rw[evalPart_none]
 refine aT ?_
 have I4:Inv X pins σ H3 { s3 with heap:=s3.heap.push { cls:=.type "slice",data:=.fields #[vl,vu,.none] } }:=I3.kept (t':=s3.toks) fun b ob q=>aG _ q
 obtain ⟨T,id,hT,ht,hg⟩:=hr pins { s3 with heap:=s3.heap.push { cls:=.type "slice",data:=.fields #[vl,vu,.none] } } σ H3 x v vl vu l u s3.heap.objs.size Q I4 r1 (Heap.IsSliceOf.new ..) pl pu q3
 show wpAny (model X.prog X.w) X.A (subscriptTail e (.Slice lo hi none p2) v (.ref s3.heap.objs.size)) (EP X pins σ Q) X.xe { s3 with heap:=s3.heap.push { cls:=.type "slice",data:=.fields #[vl,vu,.none] } }
 exact tail_any (ops:=[.ref s3.heap.objs.size,v]) ht hT hg (by with_unfolding_all rfl)
noncomputable def V0(xs:List V)(lo hi:Option Int):List V:=(xs.drop (HT.sIx xs.length 0 lo)).take (HT.sIx xs.length xs.length hi - HT.sIx xs.length 0 lo)
theorem Pa(xs:List V)(lo hi:Option Int):(V0 xs lo hi).length<=xs.length:=by
 unfold V0
 rw[fE,oA]
 omega
noncomputable def Am7(K:aC):V->Option Int->Option Int->Hp->VK->Prop:=fun x lo hi H Q=>∃ a xs,x = .ref a/\SqT K H a xs /\
 ¬ (HT.sIx xs.length 0 lo=0/\HT.sIx xs.length xs.length hi=xs.length)/\∀ p,H p=none->Q (.ref p) (upd H p (.tup (V0 xs lo hi)))
theorem Aj1:SlR X (Am7 X.K):=by
 intro pins s σ H x v vl vu lo hi sl Q I rx hs pl pu h
 obtain ⟨a,xs,rfl,hx,hw,q⟩:=h
 cases rx
 obtain ⟨its,r,ht,hz⟩:=I.tuple hx
 have hlen:its.toArray.size=xs.length:=by rw[bH];exact r.length.symm
 refine ⟨"tuple",_,iE.lookup,ht.typeIs,?_⟩
 refine HT.Np ht hs pl pu (by rw[hlen];exact hw) ?_ (by rw[hlen];exact hz)
 rw[hlen]
 refine ⟨.ref s.heap.objs.size,_,I.laid (t':=s.toks) (o:=.tup (V0 xs lo hi)) (fun b ob q=>aG _ q) (bD _) ?_,rfl,q _ (I.hok.fresh (bD _))⟩
 exact ⟨cC (Pa xs lo hi) hz,_,(r.drop (HT.sIx xs.length 0 lo)).take (HT.sIx xs.length xs.length hi - HT.sIx xs.length 0 lo),TupN.new _ _⟩
noncomputable def Aiq(K:aC):R2:=fun x y H Q=>∃ a b xs ys,x = .ref a/\y = .ref b/\SqT K H a xs/\SqT K H b ys/\xs≠[]/\xs.length+ys.length<=sizeLine /\
 (ys=[]->Q (.ref a) H)/\(ys≠[]->∀ p,H p=none->Q (.ref p) (upd H p (.tup (xs++ys))))
theorem Vals.nil_iff{xs:List V}{us:List aE}(r:Vals xs us):us=[]↔xs=[]:=by
 cases r with
 | nil=>simp
 | cons _ _=>simp
theorem Agt:OpR X (eB .Add) (Aiq X.K):=by
 intro pins s σ H x y v u Q I rx ry h
 obtain ⟨a,b,xs,ys,rfl,rfl,ha,hb,hx,hz,q1,q2⟩:=h
 cases rx
 cases ry
 obtain ⟨its,r1,p1,_⟩:=I.tuple ha
 obtain ⟨its2,r2,p2,_⟩:=I.tuple hb
 refine HT.Ahf p1 p2 (fun z=>hx (r1.nil_iff.mp z)) (fun z=>⟨.ref a,H,I,rfl,q1 (r2.nil_iff.mp z)⟩) (fun z=>?_) (by rw[<- r1.length,<- r2.length];exact hz)
 refine ⟨.ref s.heap.objs.size,_,I.laid (t':=s.toks) (o:=.tup (xs++ys)) (fun b ob q=>aG _ q) (bD _) ?_,rfl,q2 (fun w=>z (r2.nil_iff.mpr w)) _ (I.hok.fresh (bD _))⟩
 exact ⟨by rw[cN];exact hz,_,r1.append r2,TupN.new _ _⟩
end
noncomputable def ixN(n:Nat)(i:Int):Option Nat:=if 0<=i then (if i < n then some i.toNat else none) else if -(n:Int)<=i then some (i+n).toNat else none
noncomputable def atI{α:Type}(xs:List α)(i:Int):Option α:=(ixN xs.length i).bind fun j=>xs[j]?
theorem Yt{n:Nat}{i:Int}{j:Nat}(h:ixN n i=some j):seqIndex? i n=some j/\j < n/\-(n:Int)<=i/\i < n:=by
 unfold ixN at h
 by_cases h0:0<=i
 ·rw[if_pos h0] at h
  by_cases h1:i < n
  ·rw[if_pos h1] at h
   have e:i.toNat=j:=bQ h
   exact ⟨by rw[oO h0 h1,e],by omega,by omega,h1⟩
  ·rw[if_neg h1] at h;cases h
 ·rw[if_neg h0] at h
  by_cases h1:-(n:Int)<=i
  ·rw[if_pos h1] at h
   have e:(i+n).toNat=j:=bQ h
   exact ⟨by rw[nR (by omega) h1,e],by omega,h1,by omega⟩
  ·rw[if_neg h1] at h;cases h
inductive atI_get_I(α:Type)(xs:List α)(i:Int)(v:α):Prop
 | mk (j:_) (h0:seqIndex? i xs.length=some j) (h1:xs[j]? = some v) (h2:j < xs.length) (h3:-(xs.length:Int)<=i) (h4:i < xs.length):atI_get_I α xs i v
theorem T5{α:Type}{xs:List α}{i:Int}{v:α}(h:atI xs i=some v):atI_get_I α xs i v:=by
 unfold atI at h
 cases e:ixN xs.length i with
 | none=>rw[e] at h;cases h
 | some j=>
  rw[e] at h
  obtain ⟨h1,h2,h3,h4⟩:=Yt e
  exact ⟨j,h1,h,h2,h3,h4⟩
noncomputable def Y5(b:Expr):Prop:=∀ o i,subscripted b false o i=operate [o,i] (getItem o i)
noncomputable def IxR(X:Cx)(r:R2):Prop:=
 ∀ (value slice:Expr) (pins:List (Addr×Obj)) (s:aJ) (σ:St) (H:Hp) (x y:V) (v u:aE) (Q:VK),Inv X pins σ H s->RelV x v->RelV y u->r x y H Q ->
  subscripted slice false v u=operate [v,u] (getItem v u)->wpAny (model X.prog X.w) X.A (subscriptTail value slice v u) (EP X pins σ Q) X.xe s
noncomputable def MtR(X:Cx)(id:String)(r:V->List V->Hp->VK->Prop):Prop:=
 ∀ (pins:List (Addr×Obj)) (s:aJ) (σ:St) (H:Hp) (x:V) (xs:List V) (v:aE) (us:List aE) (Q:VK),Inv X pins σ H s->RelV x v->Vals xs us->r x xs H Q ->
  wpAny (model X.prog X.w) X.A (call (.builtin id) (v::us)) (EP X pins σ Q) X.xe s
section
variable {X:Cx}{a b:Expr}{ta tb:TE}{pos:Pos}
theorem IxR.or{r r':R2}(h:IxR X r)(h':IxR X r'):IxR X (fun x y H Q=>r x y H Q\/r' x y H Q):=by
 intro value slice pins s σ H x y v u Q I rx ry q hs
 rcases q with q | q
 ·exact h value slice pins s σ H x y v u Q I rx ry q hs
 ·exact h' value slice pins s σ H x y v u Q I rx ry q hs
theorem Amk{r:R2}(hr:IxR X r)(ha:PE X a ta)(hb:PE X b tb)(hs:Y5 b):PE X (.Subscript a b pos) (tOp r ta tb):=by
 intro pins s σ H Q I h
 exact Subscript_ (Ak9 ha hb I h fun v u s2 x y H2 I2 rx ry q=>hr a b pins s2 σ H2 x y v u Q I2 rx ry q (hs _ _))
noncomputable def Am1(K:aC):R2:=fun x y H Q=>∃ p xs i v,x = .ref p/\y = .int i/\SqL K H p xs/\atI xs i=some v/\Q v H
noncomputable def Alu(K:aC):R2:=fun x y H Q=>∃ p xs i v,x = .ref p/\y = .int i/\SqT K H p xs/\atI xs i=some v/\Q v H
noncomputable def Aly:R2:=fun x y H Q=>∃ z i c,x = .str z/\y = .int i/\z.length<=sizeLine/\atI z.cps.toList i=some c/\Q (.str ⟨#[c]⟩) H
theorem Agz:IxR X (Am1 X.K):=by
 intro value slice pins s σ H x y v u Q I rx ry h hs
 obtain ⟨p,xs,i,z,rfl,rfl,hq,he,q⟩:=h
 cases rx
 obtain ⟨t,rfl⟩:=ry
 obtain ⟨its,r,pl,hz⟩:=I.list hq
 obtain ⟨j,h1,h2,h3,h4,h5⟩:=T5 he
 obtain ⟨w,ew,rw'⟩:=r.get h2
 have hl:=r.length
 have hn:=Oo
 have fin:EP X pins σ Q w s:=⟨z,H,I,rw',q⟩
 by_cases h0:0<=i
 ·have hj:i.toNat=j:=by
   rw[oO h0 h5] at h1
   exact bQ h1
  exact item_listR pl.isList h0 (by omega) (by rw[hj];simpa using ew) fin hs
 ·have hj:(i+(its.toArray.size:Int)).toNat=j:=by
   rw[nR (by omega) h4] at h1
   rw[bH,<- hl]
   exact bQ h1
  exact lF (x:=w) pl.isList.typeIs nS.lookup
   (wpAny_getItem_list_neg (Q:=fun r s'=>r=w/\EP X pins σ Q r s') pl.isList (by omega) (by rw[bH] <;> omega) (by omega) (by rw[hj];simpa using ew) ⟨rfl,fin⟩) hs
theorem Akp:IxR X (Alu X.K):=by
 intro value slice pins s σ H x y v u Q I rx ry h hs
 obtain ⟨p,xs,i,z,rfl,rfl,hq,he,q⟩:=h
 cases rx
 obtain ⟨t,rfl⟩:=ry
 obtain ⟨its,r,pl,hz⟩:=I.tuple hq
 obtain ⟨j,h1,h2,h3,h4,h5⟩:=T5 he
 obtain ⟨w,ew,rw'⟩:=r.get h2
 have hl:=r.length
 have hn:=Oo
 have fin:EP X pins σ Q w s:=⟨z,H,I,rw',q⟩
 exact lF (x:=w) pl.typeIs slot_tuple_getitem.lookup
  (getItem_tuple (j:=j) (Q:=fun r s'=>r=w/\EP X pins σ Q r s') pl (by omega) (by omega) (by rw[bH,<- hl];exact h1) (by simpa using ew) ⟨rfl,fin⟩) hs
theorem Akc:IxR X Aly:=by
 intro value slice pins s σ H x y v u Q I rx ry h hs
 obtain ⟨z,i,c,rfl,rfl,hz,he,q⟩:=h
 obtain ⟨t,rfl⟩:=rx
 obtain ⟨t',rfl⟩:=ry
 obtain ⟨j,h1,h2,h3,h4,h5⟩:=T5 he
 have hl:z.cps.toList.length=z.length:=by simp[Str.length]
 rw[hl] at h1 h4 h5
 have hn:=Oo
 exact tail_any (typeIs_str s z t) slot_str_getitem.lookup (getItem_str (c:=c) (by
  have e1:decide (i < -(2 ^ 63:Int))=false:=decide_eq_false (by omega)
  have e2:decide (i ≥ 2 ^ 63)=false:=decide_eq_false (by omega)
  rw[e1,e2,Bool.or_false]) (by rw[h1];simpa using h2) ⟨.str ⟨#[c]⟩,H,I.tok _,⟨_,rfl⟩,q⟩) hs
noncomputable def rIx(K:aC):R2:=fun x y H Q=>Am1 K x y H Q\/Alu K x y H Q\/Aly x y H Q
theorem A7:IxR X (rIx X.K):=Agz.or (Akp.or Akc)
theorem W8(its:List aE)(n j:Nat)(u:aE):fI (·.setIfInBounds j u) { cls:=.type "list",data:=.seq its.toArray n } = { cls:=.type "list",data:=.seq (its.set j u).toArray n }:=by
 simp[fI]
theorem Inv.lst{pins:List (Addr×Obj)}{σ:St}{H:Hp}{s:aJ}{p:Addr}{xs:List V}(I:Inv X pins σ H s)(h:H p=some (.lst xs)) :
  ∃ (its:List aE) (n:Nat),Vals xs its/\s.heap.get? p=some { cls:=.type "list",data:=.seq its.toArray n }/\xs.length<=sizeLine:=by
 obtain ⟨z,its,n,r,e⟩:=I.hok p _ h
 exact ⟨its,n,r,e,z⟩
theorem Inv.lstUpd{pins:List (Addr×Obj)}{σ:St}{H:Hp}{s:aJ}{p:Addr}{xs ys:List V}{its its':List aE}{n n':Nat}{f:Obj->Obj}(I:Inv X pins σ H s)(h:H p=some (.lst xs))
  (ho:s.heap.get? p=some { cls:=.type "list",data:=.seq its.toArray n }) (hf:f { cls:=.type "list",data:=.seq its.toArray n } = { cls:=.type "list",data:=.seq its'.toArray n' }) (r:Vals ys its') (hz:ys.length<=sizeLine) (t:Nat) :
  Inv X pins σ (upd H p (.lst ys)) { s with heap:=s.heap.update p f,toks:=t }:=by
 have e:(s.heap.update p f).get? p=some { cls:=.type "list",data:=.seq its'.toArray n' }:=by
  rw[cY f ho (by rw[hf] <;> rfl),hf]
 refine I.write (x:=p) (e:=p) (by rw[h];trivial) (.inl rfl) (fun b u hb q=>(cH _ _ (cS hb)).trans q) ⟨_,e⟩ ?_
 exact ⟨hz,its',n',r,e⟩
noncomputable def Al3:V->V->V->Hp->(Hp->Prop)->Prop:=fun o i v H Q=>∃ p xs k j,o = .ref p/\i = .int k/\H p=some (.lst xs)/\ixN xs.length k=some j/\Q (upd H p (.lst (xs.set j v)))
theorem Afm:Am5 X Al3:=by
 intro pins s σ H o i v ov iv u Q I ro ri rv h
 obtain ⟨p,xs,k,j,rfl,rfl,hp,hj,q⟩:=h
 cases ro
 obtain ⟨t,rfl⟩:=ri
 obtain ⟨its,n,r,ho,hz⟩:=I.lst hp
 obtain ⟨h1,h2,h3,h4⟩:=Yt hj
 have hl:=r.length
 have hn:=Oo
 have I':Inv X pins σ (upd H p (.lst (xs.set j v))) { s with heap:=s.heap.update p (fI (·.setIfInBounds j u)) }:=
  I.lstUpd hp ho (W8 its n j u) (r.set rv j) (by rw[lP];exact hz) s.toks
 by_cases h0:0<=k
 ·have hk:k.toNat=j:=by
   rw[oO h0 h4] at h1
   exact bQ h1
  exact PySem.W.ki_setAt ho h0 (by omega) (by rw[bH,<- hl];exact h4) (by rw[hk];exact ⟨_,I',q⟩)
 ·have hk:(k+(its.toArray.size:Int)).toNat=j:=by
   rw[nR (by omega) h3] at h1
   rw[bH,<- hl]
   exact bQ h1
  exact PySem.W.ki_setBack ho (by omega) (by rw[bH,<- hl];exact h3) (by omega) (by rw[hk];exact ⟨_,I',q⟩)
theorem Aar(i:Int)(n:Nat):max 0 (min (if i < 0 then i+(n:Int) else i) (n:Int))=(((if i < 0 then (i+(n:Int)).toNat else min i.toNat n):Nat):Int):=by
 by_cases h:i < 0
 ·have hm:i+(n:Int)<=n:=by omega
  rw[if_pos h,if_pos h,oP hm,Int.ofNat_toNat,Int.max_comm]
 ·obtain ⟨k,rfl⟩:=Int.eq_ofNat_of_zero_le (Int.not_lt.mp h)
  rw[if_neg h,if_neg h,dH]
  rcases Nat.le_total k n with hk | hk
  ·rw[oQ hk,oP (pU.mpr hk),oB (nB k)]
  ·rw[oE hk,Int.min_eq_right (pU.mpr hk),oB (nB n)]
theorem Ul(lo hi:Option Int)(n:Nat):(sliceBounds lo hi none n).1=((HT.sIx n 0 lo:Nat):Int)/\(sliceBounds lo hi none n).2.1=((HT.sIx n n hi:Nat):Int)/\(sliceBounds lo hi none n).2.2=1:=by
 refine ⟨?_,?_,rfl⟩
 ·cases lo with
  | none=>rfl
  | some i=>exact Aar i n
 ·cases hi with
  | none=>rfl
  | some i=>exact Aar i n
theorem Rw(its:List aE)(lo hi:Option Int):slicePick its.toArray lo hi none=((its.drop (HT.sIx its.length 0 lo)).take (HT.sIx its.length its.length hi - HT.sIx its.length 0 lo)).toArray:=by
 obtain ⟨h1,h2,h3⟩:=Ul lo hi its.toArray.size
 unfold slicePick
 rw[h1,h2,h3]
 simp only[sliceRange_one,pick_run,bH] <;> rfl
noncomputable def Amj(K:aC):V->Option Int->Option Int->Hp->VK->Prop:=fun x lo hi H Q=>∃ a xs,x = .ref a/\SqL K H a xs/\∀ p,H p=none->Q (.ref p) (upd H p (.lst (V0 xs lo hi)))
theorem Af6:SlR X (Amj X.K):=by
 intro pins s σ H x v vl vu lo hi sl Q I rx hs pl pu h
 obtain ⟨a,xs,rfl,hx,q⟩:=h
 cases rx
 obtain ⟨its,r,ht,hz⟩:=I.list hx
 have hlen:=r.length
 refine ⟨"list",_,nS.lookup,ht.isList.typeIs,?_⟩
 refine wpAny_getItem_list_slice ht.isList hs pl pu .none (by simp) ?_ (by rw[bH] <;> omega)
 rw[Rw,<- hlen]
 refine ⟨.ref s.heap.objs.size,_,I.laid (t':=s.toks) (o:=.lst (V0 xs lo hi)) (fun b ob q=>aG _ q) (bD _) ?_,rfl,q _ (I.hok.fresh (bD _))⟩
 exact ⟨cC (Pa xs lo hi) hz,_,0,(r.drop (HT.sIx xs.length 0 lo)).take (HT.sIx xs.length xs.length hi - HT.sIx xs.length 0 lo),aY _ rfl⟩
theorem CallR.or{f:aE}{r r':List V->Hp->VK->Prop}(h:CallR X f r)(h':CallR X f r'):CallR X f (fun xs H Q=>r xs H Q\/r' xs H Q):=by
 intro pins s σ H xs us Q I rs q
 rcases q with q | q
 ·exact h pins s σ H xs us Q I rs q
 ·exact h' pins s σ H xs us Q I rs q
theorem Ej:CallR X (.type "tuple") (fun xs H Q=>∃ p ys,xs=[.ref p]/\((SqL X.K H p ys/\∀ l,H l=none->Q (.ref l) (upd H l (.tup ys)))\/(SqT X.K H p ys/\Q (.ref p) H))):=by
 intro pins s σ H xs us Q I r h
 obtain ⟨p,ys,rfl,h⟩:=h
 obtain ⟨u,rfl,rx⟩:=Ll r
 cases rx
 rcases h with ⟨hq,q⟩ | ⟨hq,q⟩
 ·obtain ⟨its,r',pl,hz⟩:=I.list hq
  have hlen:=r'.length
  refine call_tuple_list pl.isList (fun h' kp=>?_) (by simp only[bH] <;> omega)
  have I1:Inv X pins σ H { s with heap:=h' }:=I.kept (t':=s.toks) kp
  have I2:Inv X pins σ (upd H h'.objs.size (.tup ys)) { s with heap:=h'.push { cls:=.type "tuple",data:=.seq its.toArray } }:=
   I1.laid (t':=s.toks) (fun b o e=>aG _ e) (bD _) (show ObjOk X.prog X.w _ _ _ (.tup ys) from ⟨hz,its,r',TupN.new _ _⟩)
  exact ⟨.ref h'.objs.size,_,I2,rfl,q _ (I1.hok.fresh (bD _))⟩
 ·obtain ⟨its,r',pl,hz⟩:=I.tuple hq
  exact call_tuple_same pl ⟨.ref p,H,I,rfl,q⟩
noncomputable def tyV(K:aC)(T:String)(x:V)(H:Hp):Prop:=match x with
 | .str _=>T = "str"
 | .int _=>T = "int"
 | .ref p=>(T = "list" /\ ∃ xs,SqL K H p xs)\/(T = "tuple" /\ ∃ xs,SqT K H p xs) \/
   (T = "dict" /\ ((∃ kvs,H p=some (.dK kvs))\/∃ kvs,H p=some (.dT kvs)))\/(T = "set" /\ ∃ S n,H p=some (.set S n))
 | _=>False
theorem Aju{pins:List (Addr×Obj)}{σ:St}{H:Hp}{s:aJ}{T:String}{x:V}{v:aE}(I:Inv X pins σ H s)(r:RelV x v)(ty:tyV X.K T x H) :
  s.TypeIs v T/\∀ a,v = .ref a->∃ ob,s.heap.get? a=some ob/\ob.dict=none:=by
 cases x with
 | str z=>
  obtain ⟨t,rfl⟩:=r
  cases (show T = "str" from ty)
  exact ⟨typeIs_str s z t,fun _ e=>nomatch e⟩
 | int i=>
  obtain ⟨t,rfl⟩:=r
  cases (show T = "int" from ty)
  exact ⟨pD s i t,fun _ e=>nomatch e⟩
 | ref p=>
  cases r
  rcases ty with ⟨rfl,xs,hq⟩ | ⟨rfl,xs,hq⟩ | ⟨rfl,hk⟩ | ⟨rfl,S,n,hk⟩
  ·obtain ⟨its,_,pl,_⟩:=I.list hq
   refine ⟨pl.isList.typeIs,fun a e=>?_⟩
   cases e
   obtain ⟨o,n,e,c,hd,_⟩:=pl
   exact ⟨o,e,hd⟩
  ·obtain ⟨its,_,⟨o,ho,hc,_⟩,_⟩:=I.tupleN hq
   obtain ⟨h1,h2⟩:=oN hc
   refine ⟨⟨o,ho,h1⟩,fun a e=>?_⟩
   cases e
   exact ⟨o,ho,h2⟩
  ·have z:∃ o,s.heap.get? p=some o/\o.ExactDict:=by
    rcases hk with ⟨kvs,hk⟩ | ⟨kvs,hk⟩
    ·obtain ⟨_,_,_,_,o,_,_,e,ex,_⟩:=I.hok p _ hk
     exact ⟨o,e,ex⟩
    ·obtain ⟨_,_,_,_,o,_,_,e,ex,_⟩:=I.hok p _ hk
     exact ⟨o,e,ex⟩
   obtain ⟨o,e,ex⟩:=z
   refine ⟨⟨o,e,ex.1⟩,fun a e2=>?_⟩
   cases e2
   exact ⟨o,e,ex.2.1⟩
  ·obtain ⟨o,_,_,_,e,ex,_⟩:=I.hok p _ hk
   refine ⟨⟨o,e,ex.1⟩,fun a e2=>?_⟩
   cases e2
   exact ⟨o,e,ex.2.1⟩
 | _=>exact dF ty
noncomputable def tBM(K:aC)(T:String)(r:V->List V->Hp->VK->Prop)(to:TE)(t:TA):TE:=fun σ H Q=>to σ H fun x H1=>tyV K T x H1/\t σ H1 fun xs H2=>r x xs H2 Q
variable {o e:Expr}{es:List Expr}{to:TE}{t:TA}{name:Str}{apos cpos:Pos}{T id:String}{r:V->List V->Hp->VK->Prop}
theorem Anc(pa:PlainAttrs T)(slot:Slot T name id)(hty:typeOf (.builtin id)=pure (.type "method_descriptor"))(hm:MtR X id r)(ho:PE X o to)(ha:PA X (e::es) t)
  (hbase:attributeBase o name X.env (eval o X.env)=eval o X.env:=by rfl)
  (hfew:((backTo cpos (bA (e::es) X.env)).all (fun x=>!x.1)&&(backToKw cpos (keywordEach [] X.env)).all (fun x=>x.1.isSome)
   && decide ((e::es).length+([]:List hG).length+(if ([]:List hG).isEmpty then 0 else 1) < 30))=true:=by rfl)
  (hline:(apos.endLine == cpos.line)=true:=by rfl) (hs:bA (e::es) X.env=(false,eval e X.env)::bA es X.env:=by rfl) (hplain:(backTo cpos (bA es X.env)).any (·.1)=false:=by rfl) :
  PE X (.Call (.Attribute o name apos) (e::es) [] cpos) (tBM X.K T r to t):=by
 intro pins s σ H Q I h
 refine wpAny_Call_method_late hbase hfew hline rfl (thn (ho pins s σ H _ I h) fun v s1 zz=>?_)
 obtain ⟨x,H1,I1,r1,ty,q1⟩:=zz
 obtain ⟨h1,h2⟩:=Aju I1 r1 ty
 refine ⟨T,id,pa,slot,hty,h1,h2,?_⟩
 have hA:=ha cpos pins s1 σ H1 _ I1 q1
 rw[hs] at hA ⊢
 refine dX (by show (false || (backTo cpos (bA es X.env)).any (·.1))=false;rw[hplain] <;> rfl) (iQ ?_)
 exact thn hA fun us s2 zz=>by obtain ⟨vs,H2,I2,r2,q2⟩:=zz;exact hm pins s2 σ H2 x vs v us Q I2 r1 r2 q2
end
noncomputable def MtM(X:Cx)(id:String)(r:V->List V->Hp->VK->Prop):Prop:=
 ∀ (pins:List (Addr×Obj)) (s:aJ) (σ:St) (H:Hp) (x:V) (xs:List V) (v:aE) (us:List aE) (Q:VK),Inv X pins σ H s->RelV x v->Vals xs us->r x xs H Q ->
  wpAny (model X.prog X.w) X.A (call (.builtin id) (v::us)) (EP X pins σ Q) X.xe s
theorem Vals.one{x:V}{us:List aE}(h:Vals [x] us):∃ u,us=[u]/\RelV x u:=by
 cases h with
 | cons r t=>cases t;exact ⟨_,rfl,r⟩
theorem Vals.two{x y:V}{us:List aE}(h:Vals [x,y] us):∃ u v,us=[u,v]/\RelV x u/\RelV y v:=by
 cases h with
 | cons r t=>obtain ⟨v,rfl,q⟩:=Vals.one t;exact ⟨_,v,rfl,r,q⟩
theorem Vals.eraseIdx{xs:List V}{us:List aE}(i:Nat)(h:Vals xs us):Vals (xs.eraseIdx i) (us.eraseIdx i):=by
 induction h generalizing i with
 | nil=>exact .nil
 | cons r t ih=>
  cases i with
  | zero=>exact t
  | succ i=>exact .cons r (ih i)
theorem Vals.rep{xs:List V}{us:List aE}(h:Vals xs us):∀ k:Nat,Vals (bE k xs).flatten (bE k us).flatten
 | 0=>.nil
 | k+1=>by
  rw[dY,dY,eW,eW]
  exact Vals.append h (Vals.rep h k)
theorem R9{α:Type}:∀ (l:List α) (i:Nat),(l.eraseIdx i).length<=l.length
 | [],_=>bD _
 | _::_,0=>iP _
 | _::r,i+1=>Nat.succ_le_succ (R9 r i)
theorem Tc(its:List aE):∀ (k:Nat) (acc:List aE),
  pE (fun x1 x2=>x1++x2) acc.toArray (bE k its.toArray)=(acc++(bE k its).flatten).toArray
 | 0,acc=>by simp
 | k+1,acc=>by
  have e:acc.toArray++its.toArray=(acc++its).toArray:=by simp
  have e2:(acc++its)++(bE k its).flatten=acc++(bE (k+1) its).flatten:=by
   rw[dY,eW,cA]
  rw[<- e2,<- Tc its k (acc++its),<- e,dY,List.foldl_cons]
section
variable {X:Cx}{pins:List (Addr×Obj)}{σ:St}{H:Hp}{s:aJ}{l b:Addr}{xs ys zs:List V}
theorem Inv.lset{its its':List aE}{n:Nat}{f:Array aE->Array aE}{t':Nat}(I:Inv X pins σ H s)(hH:H l=some (.lst xs))
  (e:s.heap.get? l=some { cls:=.type "list",data:=.seq its.toArray n }) (hf:f its.toArray=its'.toArray) (hv:Vals ys its') (hz:ys.length<=sizeLine) :
  Inv X pins σ (upd H l (.lst ys)) { s with heap:=s.heap.update l (fI f),toks:=t' }:=by
 have q:=PySem.IsL.update e f
 rw[hf] at q
 refine I.write (x:=l) (e:=l) (by rw[hH];exact trivial) (.inl rfl) (fun b' u hb hu=>(cH s.heap (fI f) (cS hb)).trans hu) ⟨_,q⟩ ?_
 exact ⟨hz,its',_,hv,q⟩
theorem Inv.lnew{its:List aE}{t':Nat}(I:Inv X pins σ H s)(hv:Vals ys its)(hz:ys.length<=sizeLine) :
  Inv X pins σ (upd H s.heap.objs.size (.lst ys)) { s with heap:=s.heap.push { cls:=.type "list",data:=.seq its.toArray },toks:=t' }:=
 I.laid (fun _ _ q=>aG _ q) (bD _) ⟨hz,its,0,hv,aY _ rfl⟩
theorem Inv.fresh(I:Inv X pins σ H s):H s.heap.objs.size=none:=I.hok.fresh (bD _)
theorem Inv.lstM(I:Inv X pins σ H s)(hH:H l=some (.lst xs)):xs.length<=sizeLine/\∃ (its:List aE) (n:Nat),Vals xs its/\xs.length=its.length/\s.heap.get? l=some { cls:=.type "list",data:=.seq its.toArray n }:=by
 obtain ⟨z,its,n,r,e⟩:=I.hok l _ hH
 exact ⟨z,its,n,r,r.length,e⟩
theorem Afa{n:Nat}(h:n<=sizeLine):gL n=false:=by
 unfold gL
 exact decide_eq_false (by omega)
end
section
variable {X:Cx}
noncomputable def Y3:V->List V->Hp->VK->Prop:=fun x vs H Q=>∃ l xs y,x = .ref l/\vs=[y]/\H l=some (.lst xs)/\xs.length < sizeLine/\Q .non (upd H l (.lst (xs++[y])))
theorem Abu:MtM X "list.append" Y3:=by
 intro pins s σ H x vs v us Q I rx rv h
 obtain ⟨l,xs,y,rfl,rfl,hH,hz,q⟩:=h
 cases rx
 obtain ⟨u,rfl,ru⟩:=rv.one
 obtain ⟨z,its,n,r,hl,e⟩:=I.lstM hH
 refine nC F.slot_list_append ⟨_,e,rfl⟩ F.entry_list_append (F.args_list_append_2 _ _) (PySem.list_append l its.toArray n u (by rw[bH];omega)) ⟨e,?_⟩
 refine ⟨.non,_,I.lset (its':=its++[u]) hH e (by simp) (r.append (.cons ru .nil)) ?_,rfl,q⟩
 rw[cN,List.length_singleton]
 omega
noncomputable def Aev:V->List V->Hp->VK->Prop:=fun x vs H Q=>∃ l xs i k y,x = .ref l/\vs=[.int i]/\H l=some (.lst xs)/\-(2 ^ 63)<=i/\i < 2 ^ 63/\seqIndex? i xs.length=some k/\xs[k]? = some y/\Q y (upd H l (.lst (xs.eraseIdx k)))
theorem V5:MtM X "list.pop" Aev:=by
 intro pins s σ H x vs v us Q I rx rv h
 obtain ⟨l,xs,i,k,y,rfl,rfl,hH,h1,h2,hk,hy,q⟩:=h
 cases rx
 obtain ⟨u,rfl,ru⟩:=rv.one
 obtain ⟨t,rfl⟩:=ru
 obtain ⟨z,its,n,r,hl,e⟩:=I.lstM hH
 obtain ⟨w,hw,rw'⟩:=r.get hy
 refine nC F.slot_list_pop ⟨_,e,rfl⟩ F.entry_list_pop (F.args_list_pop_2 _ _)
  (MeetsSeq.list_pop_at l its.toArray n i t k w (fitsIndex_both h1 h2) (by rw[bH,<- hl];exact hk) (by rw[<- iG];exact hw) (by rw[bH];omega)) ⟨e,?_⟩
 refine ⟨y,_,I.lset (its':=its.eraseIdx k) hH e ?_ (r.eraseIdx k) ?_,rw',q⟩
 ·show its.toArray.eraseIdxIfInBounds k=(its.eraseIdx k).toArray
  rw[List.eraseIdxIfInBounds_toArray]
 ·have:=R9 xs k
  omega
noncomputable def Am8:R2:=fun x y H Q=>∃ l b xs zs,x = .ref l/\y = .ref b/\H l=some (.lst xs)/\H b=some (.lst zs)/\xs.length+zs.length<=sizeLine/\∀ p,H p=none->Q (.ref p) (upd H p (.lst (xs++zs)))
theorem Aka:OpR X (eB .Add) Am8:=by
 intro pins s σ H x y v u Q I rx ry h
 obtain ⟨l,b,xs,zs,rfl,rfl,hH,hB,hz,q⟩:=h
 cases rx
 cases ry
 obtain ⟨z,its,n,r,hl,e⟩:=I.lstM hH
 obtain ⟨z2,its2,n2,r2,hl2,e2⟩:=I.lstM hB
 refine PySem.P.add_list e e2 ?_ (by rw[bH,bH];omega)
 have ea:its.toArray++its2.toArray=(its++its2).toArray:=by simp
 rw[ea]
 exact ⟨.ref _,_,I.lnew (t':=s.toks) (r.append r2) (by rw[cN];omega),rfl,q _ I.fresh⟩
noncomputable def Amb:R2:=fun x y H Q=>∃ l k xs,x = .ref l/\y = .int k/\H l=some (.lst xs)/\-(2 ^ 63)<=k/\k < 2 ^ 63/\xs.length * k.toNat<=sizeLine /\
 ∀ p,H p=none->Q (.ref p) (upd H p (.lst (bE k.toNat xs).flatten))
theorem Ag4{α:Type}(xs:List α)(k:Nat):(bE k xs).flatten.length=k * xs.length:=by
 induction k with
 | zero=>simp
 | succ k ih=>rw[dY,eW,cN,ih,Nat.succ_mul,Nat.add_comm]
theorem Ajo:OpR X (eB .Mult) Amb:=by
 intro pins s σ H x y v u Q I rx ry h
 obtain ⟨l,k,xs,rfl,rfl,hH,h1,h2,hz,q⟩:=h
 cases rx
 obtain ⟨t,rfl⟩:=ry
 obtain ⟨z,its,n,r,hl,e⟩:=I.lstM hH
 have hlen:its.toArray.size * k.toNat<=sizeLine:=by rw[bH,<- hl];exact hz
 have hcap:¬ its.toArray.size * k.toNat > (2 ^ 63 - 1) / 8:=by
  have:(sizeLine:Nat)<=(2 ^ 63 - 1) / 8:=by decide
  omega
 have hfit:¬ (!Builtin.List.listFitsIndex k)=true:=by
  rw[fitsIndex_both h1 h2]
  exact eA
 have hlong:¬ gL (its.toArray.size * k.toNat)=true:=by
  rw[Afa hlen]
  exact eA
 have hnew:pE (fun x1 x2=>x1++x2) #[] (bE (if its.toArray.isEmpty=true then 0 else k.toNat) its.toArray)=(bE k.toNat its).flatten.toArray:=by
  have f0:∀ m:Nat,pE (fun x1 x2=>x1++x2) #[] (bE m its.toArray)=(bE m its).flatten.toArray:=fun m=>by
   have:=Tc its m []
   rw[dB] at this
   exact this
  rw[f0]
  cases its with
  | nil=>simp
  | cons a r'=>rw[if_neg (by simp)]
 refine wpAny_binaryOp_repeat_ref (T := "list") (U := "int") (by decide) ⟨_,e,rfl⟩ (fun s'=>pD s' k t) noFill_list_mul F.fills_int_mul oR repeat_list F.slot_int_index.lookup
  (nC oR (pD s k t) F.entry_int_rmul (F.args_int_rmul_2 _ _) (int___rmul___int_list k t l its.toArray n)
   ⟨e,rfl,⟨_,e,rfl⟩,nC F.slot_list_mul ⟨_,e,rfl⟩ F.entry_list_mul (F.args_list_mul_2 _ _) (AutoListH.list___mul___list_int_3 l its.toArray n k t hfit hcap hlong) ⟨e,?_⟩⟩)
 rw[hnew]
 exact ⟨.ref _,_,I.lnew (t':=s.toks) (r.rep k.toNat) (by rw[Ag4,Nat.mul_comm];exact hz),rfl,q _ I.fresh⟩
end
section
variable {prog:bP}{w:cE}{A:cG}{E:aE->aJ->Prop}{s:aJ}
end
section
variable {X:Cx}
end
end L2
namespace Att
open PySem PySem.W PySem.Calls PyProof.Rows
theorem Px{P:Params}{h:Heap}:∀ (ns:List Int) (vs:List aE),WellAll P h vs (ns.map WData.int)->jK vs ns:=by
 intro ns
 induction ns with
 | nil=>
  intro vs w
  rw[bK] at w
  cases w
  exact .nil
 | cons n ns ih=>
  intro vs w
  rw[aO] at w
  cases w with
  | cons a b=>
   cases a
   exact .cons _ _ (ih _ b)
theorem Aco{l:iR}{n:Nat}(hn:l.most=some n){P:Params}{h:Heap}{args:List WData}{vals:List aE}
  (hpre:l.row.toRowW.claim.pre args=true) (hwl:WellAll P h vals args) :
  ∃ a vs ns,vals=[bN a]/\args=[WData.list (ns.map WData.int)]/\h.get? a=some { cls:=.type "list",data:=.seq vs.toArray }/\jK vs ns/\ns.length<=n:=by
 have hsh:WShape.hasAll [] args [.list .int]=true:=(pre_splitW hpre).1
 have hc:l.pre.holds [] { args:=args } = true:=(pre_splitW hpre).2
 obtain ⟨d,r,rfl,h1,h2⟩:=hasAllW_cons hsh
 obtain rfl:=hasAllW_nil h2
 obtain ⟨xs,rfl,h3⟩:=hasW_list h1
 obtain ⟨ns,rfl⟩:=items_int h3
 have hlen:ns.length<=n:=by
  unfold iR.pre at hc
  have h4:(WTm.not (.lt (.lit (.int (n:Int))) (.len (.arg 0)))).holds [] { args:=[.list (ns.map .int)] } = true:=by
   have h4:=(holds_andW hc).1
   rw[hn] at h4
   exact h4
  have h5:=condW_of h4 (w_not (w_lt w_lit (w_len_list (w_arg rfl))))
  rw[bB] at h5
  refine Nat.le_of_not_lt fun q=>?_
  have q':(n:Int) < ((ns.length:Nat):Int):=by omega
  first
   | (rw[decide_eq_true q'] at h5;exact absurd h5 (by decide))
   | (simp at h5;omega)
 cases hwl with
 | cons w1 w2=>
  cases w2
  cases w1 with
  | list ho hall=>exact ⟨_,_,ns,rfl,rfl,ho,Px ns _ hall,hlen⟩
theorem Abv(l:iR)(args:List WData):l.row.toRowW.claim.post args (.bool true) args=true:=
 postW_of (r:=l.row.toRowW) (X:=(true == true))
  (show qF [] (.bool true) .bool=true by first | rfl | decide | simp[qF,WShape.arms,WShape.armsAll])
  (show (WTm.eq .res (.lit (.bool true))).value [] { args:=args,res:=some (.bool true),after:=args } = some (.bool (true == true)) from w_eq_bool (w_res rfl) w_lit) rfl
theorem V7{l:iR}{n:Nat}{q:bP}{loose:List Str}{XP:(Str->Option aE)->Heap->Prop}{YP:cE->Heap->Prop}{d:DefRec}
  (hn:l.most=some n) (hdf:d.params.defaults=[])
  (call:∀ (w:cE) (s₀ s₁:aJ) (mg mb:Str->Option aE) (fa:Addr) (o:Obj) (pm cd doc:aE) (a:Addr) (vs:List aE) (ns:List Int),
   Ground q loose [] XP w s₀ mg mb s₁.heap->YP w s₁.heap ->
   s₁.heap.get? fa=some o->o.data = .func (docDef d.name d.params d.body d.scope pm cd doc)->s₁.heap.CodeRec cd d.name->mg d.name=some (.ref fa) ->
   s₁.heap.get? a=some { cls:=.type "list",data:=.seq vs.toArray }->jK vs ns->ns.length<=n->s₁.gens=#[] ->
   iN (model l.prog w) callerA (.call (.ref fa) ⟨[.ref a],[]⟩) (fun r s'=>r = .ok (.ret (.bool true))/\OldK s₁.heap s'.heap/\s'.os=s₁.os/\jI s'.gens) s₁) :
  WalkO q loose XP YP l.row.toRowW d [] (fun f vs=>pF f vs):=by
 intro w s₀ s₁ mg mb G Y fa o pm cd doc dV kV ho hd hcd hD hmg hg args vals as hpre hlay hrd hwl hlo
 obtain rfl:dV = .none:=Dflts.none hD hdf
 obtain rfl:kV = .none:=Dflts.noKw hD
 obtain ⟨a,vs,ns,rfl,rfl,hobj,hints,hlen⟩:=Aco hn hpre hwl
 refine enter_call (gZ (call w s₀ s₁ mg mb fa o pm cd doc a vs ns G Y ho (fd_plain hd) hcd hmg hobj hints hlen hg) fun r s' hq=>?_)
 obtain ⟨rfl,h2,h3,h4⟩:=hq
 exact ⟨.inl ⟨.bool true,.bool true,[],rfl,fun _=>rfl,.bool true,Abv l _,fun _=>⟨List.Pairwise.nil,fun _ hm=>(nomatch hm)⟩⟩,h2,h3,h4⟩
section
variable {prog:bP}{w:cE}{A:cG}{E:aE->aJ->Prop}{s:aJ}{K:Frag}
end
end Att
namespace L2
open PySem PySem.Spec PyProof.Rows
theorem Aa2{vs:List aE}{ns:List Int}(h:jK vs ns):Vals (ns.map V.int) vs:=by
 induction h with
 | nil=>exact .nil
 | cons n t h ih=>exact .cons ⟨t,rfl⟩ ih
noncomputable def Ahy(H:Hp):Prop:=∀ b,H b=none\/∃ o xs,H b=some (.frz o (.lst xs))
theorem Aeq{P:bP}{w:cE}{K:aC}{mg mb:Str->Option aE}{CX:CXT}{k:Nat}{fa a:Addr}{fd:bL}{x:Str}{sp:Sp}{s₁:aJ}{vs:List aE}{ns:List Int}
  (KX:K.In s₁.heap) (hns:s₁.heap.Ns aP mg) (hb:s₁.heap.Ns mY mb) (hbb:∀ x:Str,x ≠ "__name__" -> mb x=eT x) (hlim:s₁.heap.NoLimit) (hg:s₁.gens=#[])
  (ha:s₁.heap.get? a=some { cls:=.type "list",data:=.seq vs.toArray }) (hi:jK vs ns) (hl:ns.length<=sizeLine) (hr:Room k callerA)
  (F:∀ base:Heap,K.In base->base.Ns aP mg->FnOk P w K mg base CX k fa fd [x] sp) (hbind:∀ (s:aJ) (u:aE),kJ s fd ⟨[u],[]⟩ [(x,u)])
  (hsp:∀ H:Hp,Ahy H->SqL K H a (ns.map V.int)->sp [.ref a] H (fun v _=>v = .bl true) fun _ _ _=>False)
  (hCX:∀ H e s',CX [] H s₁ (fun _ _ _=>False) e s'->False) :
  iN (model P w) callerA (.call (.ref fa) ⟨[.ref a],[]⟩) (fun r s'=>r = .ok (.ret (.bool true))/\OldK s₁.heap s'.heap/\s'.os=s₁.os/\jI s'.gens) s₁:=by
 have rv:=Aa2 hi
 have lenV:=hi.length
 have core:∀ H:Hp,Ahy H->SqL K H a (ns.map V.int)->HOk P w H s₁.heap->(∀ b,H b≠none->b=a)->(H a≠none->K.lookup a=none) ->
   iN (model P w) callerA (.call (.ref fa) ⟨[.ref a],[]⟩) (fun r s'=>r = .ok (.ret (.bool true))/\OldK s₁.heap s'.heap/\s'.os=s₁.os/\jI s'.gens) s₁:=by
  intro H hO hS hok hA hK
  have base_of:∀ {b:Addr} {o:Obj},s₁.heap.get? b=some o->H b=none->(Ud s₁.heap H).get? b=some o:=fun e n=>Aeg e n
  have noA:∀ {b:Addr} {o:Obj} {es:Array DictEntry} {ep:Nat},s₁.heap.get? b=some o->o.data = .dict es ep->H b=none:=fun {b o es ep} e d=>by
   cases q:H b with
   | none=>rfl
   | some u=>
    have e':b=a:=hA b (by rw[q];simp)
    subst e'
    rw[ha] at e;cases e
    have d':Data.seq vs.toArray _=Data.dict es ep:=d
    cases d'
  have nsK:∀ {b:Addr} {m:Str->Option aE},s₁.heap.Ns b m->(Ud s₁.heap H).Ns b m:=fun {b m} ⟨o,es,ep,e,d,r⟩=>⟨o,es,ep,base_of e (noA e d),d,r⟩
  have hKb:K.In (Ud s₁.heap H):=fun b o e=>base_of (KX b o e) (by
   cases q:H b with
   | none=>rfl
   | some u=>
    have e':b=a:=hA b (by rw[q];simp)
    subst e'
    rw[hK (by rw[q];simp)] at e;cases e)
  have hM:Mod K mg (Ud s₁.heap H):=⟨hKb,nsK hns,⟨mb,nsK hb,hbb⟩,let ⟨mc,h1,h2⟩:=hlim;⟨mc,nsK h1,h2⟩⟩
  have e0:Env0 P w K mg (Ud s₁.heap H) callerA [] s₁ H:=⟨rfl,hM,fun b o e=>Ail e,nK (Aay _ _),trivial,fun b hb=>absurd (show b∈([]:List Addr) from hb) (by simp),hok,.of_eq hg⟩
  refine gZ ((F _ hKb (nsK hns)).run callerA [] s₁ H ⟨[.ref a],[]⟩ [.ref a] [.ref a] _ _ hr e0 (hbind s₁ (.ref a)) (.cons rfl .nil) (hsp H hO hS)) fun r s' h=>?_
  cases r with
  | error e=>exact (hCX H e s' h).elim
  | ok fl=>
   cases fl with
   | next=>exact dF h
   | brk=>exact dF h
   | cont=>exact dF h
   | ret u=>
    obtain ⟨v,H',os,bare,un,hok',r',q⟩:=h
    have q':v = .bl true:=q
    subst q'
    obtain rfl:u=oZ true:=r'
    refine ⟨rfl,OldK.of_keep fun b o e=>?_,os,bare⟩
    cases q:H b with
    | none=>exact un.keep b o e q (by intro z;exact absurd (show b∈([]:List Addr) from z) (by simp)) (by simp)
    | some u=>
     rcases hO b with z | ⟨ob,xs,z⟩
     ·rw[q] at z;cases z
     ·have z2:=un.frzs b ob _ z
      obtain ⟨e1,_⟩:=hok b _ z
      obtain ⟨e2,_⟩:=hok' b _ z2
      rw[e] at e1;cases e1
      exact e2
 cases hk:K.lookup a with
 | some o=>
  have e:=KX a o hk
  rw[ha] at e
  cases e
  refine core (fun _=>none) (fun _=>.inl rfl) (.inr ⟨_,vs.toArray,_,hk,rfl,rfl,rfl,by rw[bH,lenV];exact hl,by simpa using rv⟩) (fun b u z=>by have z':(none:Option HO)=some u:=z;cases z') (fun b z=>absurd rfl z) fun z=>absurd rfl z
 | none=>
  refine core (fun b=>if b=a then some (.frz { cls:=.type "list",data:=.seq vs.toArray } (.lst (ns.map V.int))) else none) (fun b=>?_) (.inl (.inr ⟨{ cls:=.type "list",data:=.seq vs.toArray },if_pos rfl⟩)) (fun b u z=>?_) (fun b z=>?_) fun _=>hk
  ·by_cases hb:b=a
   ·exact .inr ⟨_,_,if_pos hb⟩
   ·exact .inl (if_neg hb)
  ·by_cases hb:b=a
   ·have z':=(if_pos hb).symm.trans z
    cases z'
    subst hb
    exact ⟨ha,by rw[bB];exact hl,vs,_,rv,ha⟩
   ·have z':=(if_neg hb).symm.trans z
    cases z'
  ·by_cases hb:b=a
   ·exact hb
   ·exact absurd (if_neg hb) z
theorem Aic{l:iR}{n k:Nat}{q:bP}{loose:List Str}{XP:(Str->Option aE)->Heap->Prop}{YP:cE->Heap->Prop}{d:DefRec}{K:Params->aC}{CX:cE->CXT}{sp:cE->Sp}{x:Str}
  (hn:l.most=some n) (hn2:n<=sizeLine) (hdf:d.params.defaults=[]) (hr:Room k callerA)
  (hY:∀ (w:cE) (h:Heap),YP w h->(K w.params).In h)
  (F:∀ (w:cE) (mg:Str->Option aE) (fa:Addr) (h:Heap),(K w.params).In h->h.Ns aP mg->mg d.name=some (.ref fa) ->
   ∃ fd:bL,(∀ (s:aJ) (u:aE),kJ s fd ⟨[u],[]⟩ [(x,u)]) /\
    ∀ base:Heap,(K w.params).In base->base.Ns aP mg->FnOk l.prog w (K w.params) mg base (CX w) k fa fd [x] (sp w))
  (hsp:∀ (w:cE) (H:Hp) (a:Addr) (ns:List Int),ns.length<=n->Ahy H->SqL (K w.params) H a (ns.map V.int)->sp w [.ref a] H (fun v _=>v = .bl true) fun _ _ _=>False)
  (hCX:∀ (w:cE) (H:Hp) (s:aJ) (e:aE) (s':aJ),CX w [] H s (fun _ _ _=>False) e s'->False) :
  pP q loose XP YP l.row.toRowW d [] (fun f vs=>pF f vs):=by
 refine Att.V7 hn hdf fun w s₀ s₁ mg mb fa o pm cd doc a vs ns G Y ho hd hcd hmg hobj hints hlen hg=>?_
 have KX:=hY w _ Y
 obtain ⟨fd,hb,hF⟩:=F w mg fa _ KX G.T.g hmg
 exact Aeq KX G.T.g G.T.b G.T.builtins G.T.nolimit hg hobj hints (cC hlen hn2) hr hF hb (fun H hO hS=>hsp w H a ns hlen hO hS) fun H e s'=>hCX w H s₁ e s'
noncomputable def Fg(s:Stmt)(j:Nat):Stmt:=match s with
 | .ClassDef _ _ _ body _ _ _ _ _ _ _=>body.getD j (.Pass ⟨0,0,0,0⟩)
 | _=>.Pass ⟨0,0,0,0⟩
noncomputable def Ay(s:Stmt):Arguments:=match s with
 | .FunctionDef _ a _ _ _ _ _ _ _ _=>a
 | _=>{ posonlyargs:=[],args:=[],vararg:=none,kwonlyargs:=[],kw_defaults:=[],kwarg:=none,defaults:=[] }
noncomputable def Aw(s:Stmt):List Stmt:=match s with
 | .FunctionDef _ _ b _ _ _ _ _ _ _=>b
 | _=>[]
noncomputable def Aj(s:Stmt):gX:=match s with
 | .FunctionDef _ _ _ _ _ _ sc _ _ _=>sc
 | _=>{ kind:=.function,names:=[],isGenerator:=false,isCoroutine:=false }
abbrev CX0:CXT:=fun _ _ _ _ _ _=>False
abbrev E0:XK:=fun _ _ _=>False
theorem Y2{X:Cx}:My CX0 X E0:=fun _ _ _ _ _ _ _ h=>h.elim
structure Fun(K:aC)(x qual:Str)(st:Stmt)(f:Addr)(fd:bL):Prop where
 ex:∃ (oc:aE) (od:Option Addr) (kV doc pm:aE) (an:Option Addr) (cdv ct:aE) (osl:Array (Option aE)),
  fd=bF x qual (Ay st) (Aw st) (Aj st) .none kV doc pm an cdv ct/\K.lookup f=some ⟨oc,od,.func fd,osl⟩/\bC K cdv qual=true
 kp:aV K (.ref f)=true
section
variable {P:bP}{w:cE}{K:aC}{mg:Str->Option aE}{base:Heap}
theorem Fun.ok{x qual:Str}{st:Stmt}{f:Addr}{fd:bL}{N ps:List Str}{k:Nat}{sp:Sp}(F:Fun K x qual st f fd)(S:FnScope N ps (Aj st))(len:∀ vs H Q E,sp vs H Q E->vs.length=ps.length)
  (hbody:∀ (cdv:aE) (A:cG) (outer:List Env) (s:aJ) (H:Hp) (vs:List V) (Q:VK) (E:XK),Room k (A.deeper (envOfC qual (Aj st) s.heap.objs.size f cdv))->sp vs H Q E ->
   ∃ t,PSs (Uc CX0 P w K mg base N qual (Aj st) f cdv A outer s H E).nox (Aw st) t/\t { nx:=fun _ H'=>Q .non H',rt:=Q } (start N vs) H):FnOk P w K mg base CX0 (k+1) f fd ps sp:=by
 obtain ⟨oc,od,kV,doc,pm,an,cdv,ct,osl,rfl,lk,hcd⟩:=F.ex
 refine Als lk hcd S len fun A outer s H vs Q E hr hsp=>?_
 obtain ⟨t,h,q⟩:=hbody cdv A outer s H vs Q E hr hsp
 exact ⟨t,h.nox,q⟩
theorem Fun.binds{x qual:Str}{st:Stmt}{f:Addr}{fd:bL}{ps:List Str}(F:Fun K x qual st f fd)
  (h:∀ (kV doc pm:aE) (an:Option Addr) (cdv ct:aE) (us:List aE),us.length=ps.length->bindArgs (bF x qual (Ay st) (Aw st) (Aj st) .none kV doc pm an cdv ct) ⟨us,[]⟩=pure (ps.zip us)):Binds K fd ps []:=by
 obtain ⟨oc,od,kV,doc,pm,an,cdv,ct,osl,rfl,lk,hcd⟩:=F.ex
 exact .all (h kV doc pm an cdv ct)
theorem Bt{x qual:Str}{st:Stmt}{f:Addr}{oc:aE}{od an:Option Addr}{osl:Array (Option aE)}{kV doc pm cdv ct:aE}(l:K.lookup f=some ⟨oc,od,.func (bF x qual (Ay st) (Aw st) (Aj st) .none kV doc pm an cdv ct),osl⟩)
  (c:bC K cdv qual=true) (k:aV K (.ref f)=true):Fun K x qual st f (bF x qual (Ay st) (Aw st) (Aj st) .none kV doc pm an cdv ct):=⟨⟨oc,od,kV,doc,pm,an,cdv,ct,osl,rfl,l,c⟩,k⟩
end
theorem Ab6{n:Nat}(h:n<=1000):n < sizeLine:=nD h (by decide)
section
variable {X:Cx}
end
theorem Abe{A B:Prop}(h:B):if false=true then A else B:=by
 rw[if_neg eA]
 exact h
theorem Abx{A B:Prop}(h:A):if true=true then A else B:=by
 rw[if_pos rfl]
 exact h
section
variable {κ:Type}[DecidableEq κ]
noncomputable def Mi(kvs:List (κ×V))(k:κ):Option V:=(kvs.find? fun kv=>decide (kv.1=k)).map (·.2)
noncomputable def Oy(kvs:List (κ×V))(k:κ)(v:V):List (κ×V):=
 if (kvs.any fun kv=>decide (kv.1=k))=true then kvs.map (fun kv=>if kv.1=k then (kv.1,v) else kv) else kvs++[(k,v)]
noncomputable def Qb(kvs:List (κ×V))(k:κ):List (κ×V):=kvs.filter fun kv=>decide (kv.1≠k)
theorem Q7{p:κ×V}{r:List (κ×V)}{k:κ}(e:p.1=k):Mi (p::r) k=some p.2:=by simp[Mi,eF,e]
theorem Qx{p:κ×V}{r:List (κ×V)}{k:κ}(e:¬ p.1=k):Mi (p::r) k=Mi r k:=by simp[Mi,eF,e]
theorem Qo(k:κ):∀ kvs:List (κ×V),(kvs.any fun kv=>decide (kv.1=k))=(Mi kvs k).isSome
 | []=>rfl
 | p::r=>by
  rw[eZ]
  by_cases e:p.1=k
  ·simp only[Q7 e,decide_eq_true e,Bool.true_or,Option.isSome_some]
  ·rw[Qx e,decide_eq_false e,pQ];exact Qo k r
theorem Pk(kvs:List (κ×V))(k:κ)(v:V):(Oy kvs k v).length<=kvs.length+1:=by
 unfold Oy
 split
 ·rw[bB];omega
 ·rw[cN,aI,aL];omega
theorem RelO.isSome_eq{o:Option V}{u:Option aE}(r:RelO o u):o.isSome=u.isSome:=by
 cases o with
 | none=>cases u with
  | none=>rfl
  | some _=>exact (show False from r).elim
 | some _=>cases u with
  | none=>exact (show False from r).elim
  | some _=>rfl
theorem KV.val{kvs:List (κ×V)}{vs:List (κ×aE)}(r:KV kvs vs)(k:κ):RelO (Mi kvs k) (valueAt vs k):=by
 unfold KV at r
 induction r with
 | nil=>exact eY
 | @cons p q ps qs h t ih=>
  obtain ⟨h1,h2⟩:=h
  by_cases e:p.1=k
  ·have e':q.1=k:=h1.symm.trans e
   have b:valueAt (q::qs) k=some q.2:=by simp[valueAt,eF,e']
   rw[Q7 e,b];exact h2
  ·have e':¬ q.1=k:=fun z=>e (h1.trans z)
   have b:valueAt (q::qs) k=valueAt qs k:=by simp[valueAt,eF,e']
   rw[Qx e,b];exact ih
theorem KV.any{kvs:List (κ×V)}{vs:List (κ×aE)}(r:KV kvs vs)(k:κ):(kvs.any fun kv=>decide (kv.1=k))=vs.any fun kv=>decide (kv.1=k):=by
 unfold KV at r
 induction r with
 | nil=>rfl
 | cons h t ih=>rw[eZ,eZ,ih,h.1]
theorem KV.repl{kvs:List (κ×V)}{vs:List (κ×aE)}(r:KV kvs vs)(k:κ){y:V}{u:aE}(ry:RelV y u) :
  KV (kvs.map fun kv=>if kv.1=k then (kv.1,y) else kv) (vs.map fun kv=>if kv.1=k then (kv.1,u) else kv):=by
 unfold KV at r ⊢
 induction r with
 | nil=>exact .nil
 | @cons p q ps qs h t ih=>
  rw[aO,aO]
  refine .cons ?_ ih
  obtain ⟨h1,h2⟩:=h
  by_cases e:p.1=k
  ·rw[if_pos e,if_pos (h1.symm.trans e)];exact ⟨h1,ry⟩
  ·rw[if_neg e,if_neg (fun z=>e (h1.trans z))];exact ⟨h1,h2⟩
theorem KV.put{kvs:List (κ×V)}{vs:List (κ×aE)}(r:KV kvs vs)(k:κ){y:V}{u:aE}(ry:RelV y u):KV (Oy kvs k y) (stored vs k u):=by
 unfold Oy stored
 rw[r.any k]
 by_cases e:(vs.any fun kv=>decide (kv.1=k))=true
 ·rw[if_pos e,if_pos e];exact r.repl k ry
 ·rw[if_neg e,if_neg e];exact qD r ⟨rfl,ry⟩
theorem KV.drop{kvs:List (κ×V)}{vs:List (κ×aE)}(r:KV kvs vs)(k:κ):KV (Qb kvs k) (without vs k):=by
 unfold KV at r ⊢
 unfold Qb without
 induction r with
 | nil=>exact .nil
 | @cons p q ps qs h t ih=>
  obtain ⟨h1,h2⟩:=h
  rw[fG,fG]
  by_cases e:p.1=k
  ·have a:¬ decide (p.1≠k)=true:=by simp[e]
   have b:¬ decide (q.1≠k)=true:=by simp[h1.symm.trans e]
   rw[if_neg a,if_neg b];exact ih
  ·have e':¬ q.1=k:=fun z=>e (h1.trans z)
   have a:decide (p.1≠k)=true:=by simp[e]
   have b:decide (q.1≠k)=true:=by simp[e']
   rw[if_pos a,if_pos b];exact .cons ⟨h1,h2⟩ ih
theorem KV.length{kvs:List (κ×V)}{vs:List (κ×aE)}(r:KV kvs vs):kvs.length=vs.length:=kM r
theorem Ae5(kvs:List (κ×V))(k:κ):(Qb kvs k).length<=kvs.length:=lW _ _
end
theorem Wr{P:bP}{w:cE}{k:Key}{u:aE}(r:RelV (kV k) u):(Cf P w).is k u=true:=by
 cases k with
 | inl i=>obtain ⟨t,e⟩:=(show ∃ t,u=mK i t from r);subst e;exact Vf P w i t
 | inr x=>obtain ⟨t,e⟩:=(show ∃ t,u=mL x t from r);subst e;exact V4 P w x t
theorem Si{P:bP}{w:cE}:∀ {ks:List Key} {us:List aE},Vals (ks.map kV) us->ItemsAre (Cf P w) ks us
 | [],_,r=>by rw[bK] at r;cases r;exact .nil
 | k::ks,_,r=>by
  rw[aO] at r
  cases r with
  | cons h t=>exact .cons (Wr h) (Si t)
abbrev KT(H:Hp):List (List Key×V)->List (List Key×Addr×aE)->Prop:=pA fun p q=>p.1=q.1/\H q.2.1=some (.tup (p.1.map kV))/\RelV p.2 q.2.2
theorem KT.val{H:Hp}{kvs:List (List Key×V)}{xs:List (List Key×Addr×aE)}(r:KT H kvs xs)(k:List Key):RelO (Mi kvs k) ((atKey xs k).map (·.2)):=by
 induction r with
 | nil=>exact eY
 | @cons p q ps qs h t ih=>
  obtain ⟨h1,_,h2⟩:=h
  by_cases e:p.1=k
  ·have e':q.1=k:=h1.symm.trans e
   have b:atKey (q::qs) k=some q.2:=by simp[atKey,eF,e']
   rw[Q7 e,b];exact h2
  ·have e':¬ q.1=k:=fun z=>e (h1.trans z)
   have b:atKey (q::qs) k=atKey qs k:=by simp[atKey,eF,e']
   rw[Qx e,b];exact ih
theorem KT.repl{H:Hp}{kvs:List (List Key×V)}{xs:List (List Key×Addr×aE)}(r:KT H kvs xs)(k:List Key){y:V}{u:aE}(ry:RelV y u) :
  KT H (kvs.map fun kv=>if kv.1=k then (kv.1,y) else kv) (xs.map (putAt k u)):=by
 induction r with
 | nil=>exact .nil
 | @cons p q ps qs h t ih=>
  rw[aO,aO]
  refine .cons ?_ ih
  obtain ⟨h1,h2,h3⟩:=h
  unfold putAt
  by_cases e:p.1=k
  ·rw[if_pos e,if_pos (h1.symm.trans e)];exact ⟨h1,h2,ry⟩
  ·rw[if_neg e,if_neg (fun z=>e (h1.trans z))];exact ⟨h1,h2,h3⟩
theorem KT.put{H:Hp}{kvs:List (List Key×V)}{xs:List (List Key×Addr×aE)}(r:KT H kvs xs)(k:List Key){b:Addr}{y:V}{u:aE}(hb:H b=some (.tup (k.map kV)))(ry:RelV y u) :
  KT H (Oy kvs k y) (storedH xs k b u):=by
 have e:(kvs.any fun kv=>decide (kv.1=k))=(atKey xs k).isSome:=by
  rw[Qo,(r.val k).isSome_eq,fS]
 unfold Oy storedH
 rw[e]
 by_cases q:(atKey xs k).isSome=true
 ·rw[if_pos q,if_pos q];exact r.repl k ry
 ·rw[if_neg q,if_neg q];exact qD r ⟨rfl,hb,ry⟩
theorem KT.keeps{H H':Hp}{kvs:List (List Key×V)}{xs:List (List Key×Addr×aE)}(r:KT H kvs xs)(ht:∀ b ys,H b=some (.tup ys)->H' b=some (.tup ys)):KT H' kvs xs:=
 Paired.mapP r fun _ _ z=>⟨z.1,ht _ _ z.2.1,z.2.2⟩
section
variable {P:bP}{w:cE}{H:Hp}{h:Heap}{a:Addr}
theorem Ai1{u:HO}(ok:HOk P w H h)(e:Rd H a u):ObjOk P w H h a u:=e.ok ok
theorem Wt{kvs:List (Key×V)}(ok:HOk P w H h)(e:Rd H a (.dK kvs)):kvs.length<=sizeLine/\(a == sysModules)=false/\∃ vs,KV kvs vs/\h.DictOf (Cf P w) a vs:=
 show ObjOk P w H h a (.dK kvs) from Ai1 ok e
theorem Q2{kvs:List (Key×V)}(ok:HOk P w H h)(e:H a=some (.dK kvs)):kvs.length<=sizeLine/\(a == sysModules)=false/\∃ vs,KV kvs vs/\h.DictOf (Cf P w) a vs:=Wt ok (.inl e)
theorem Up{ks:List Key}(ok:HOk P w H h)(e:H a=some (.tup (ks.map kV))):(tupleKind (Cf P w)).is h ks a:=by
 obtain ⟨_,its,r,o,h1,h2,n,h3⟩:=(show ObjOk P w H h a (.tup (ks.map kV)) from ok a _ e)
 exact ⟨o,its.toArray,n,h1,(oN h2).1,h3,by simpa using Si r⟩
theorem Aam{kvs:List (List Key×V)}(ok:HOk P w H h)(e:Rd H a (.dT kvs)):kvs.length<=sizeLine/\(a == sysModules)=false /\
  ∃ xs,KT H kvs xs/\h.DictOfH (tupleKind (Cf P w)) a xs:=by
 obtain ⟨z,y,xs,r,o,es,ep,h1,h2,h3,h4,h5⟩:=(show ObjOk P w H h a (.dT kvs) from Ai1 ok e)
 refine ⟨z,y,xs,r,o,es,ep,h1,h2,h3,h4,fun x hx=>?_,h5⟩
 have all:∀ {l:List (List Key×V)} {m:List (List Key×Addr×aE)},KT H l m->∀ x∈m,(tupleKind (Cf P w)).is h x.1 x.2.1:=by
  intro l m q
  induction q with
  | nil=>intro x hx;exact nomatch hx
  | @cons p q ps qs hq t ih=>
   intro x hx
   rcases cB.mp hx with e | hx
   ·subst e
    exact Up ok (by rw[<- hq.1];exact hq.2.1)
   ·exact ih x hx
 exact all r x hx
theorem Al1{kvs:List (List Key×V)}(ok:HOk P w H h)(e:H a=some (.dT kvs)):kvs.length<=sizeLine/\(a == sysModules)=false /\
  ∃ xs,KT H kvs xs/\h.DictOfH (tupleKind (Cf P w)) a xs:=Aam ok (.inl e)
end
noncomputable def DGet(H:Hp)(a:Addr)(y:V)(r:Option V):Prop:=
 (∃ kvs k,Rd H a (.dK kvs)/\y=kV k/\r=Mi kvs k)\/∃ kvs k b,Rd H a (.dT kvs)/\y = .ref b/\H b=some (.tup (k.map kV))/\r=Mi kvs k
noncomputable def DPut(H:Hp)(a:Addr)(y v:V)(H':Hp):Prop:=
 (∃ kvs k,H a=some (.dK kvs)/\y=kV k/\kvs.length < sizeLine/\H'=upd H a (.dK (Oy kvs k v))) \/
 ∃ kvs k b,H a=some (.dT kvs)/\y = .ref b/\H b=some (.tup (k.map kV))/\kvs.length < sizeLine/\H'=upd H a (.dT (Oy kvs k v))
theorem DGet.k{H:Hp}{a:Addr}{kvs:List (Key×V)}{k:Key}(e:H a=some (.dK kvs)):DGet H a (kV k) (Mi kvs k):=.inl ⟨kvs,k,.inl e,rfl,rfl⟩
theorem DPut.k{H:Hp}{a:Addr}{kvs:List (Key×V)}{k:Key}{v:V}(e:H a=some (.dK kvs))(hl:kvs.length < sizeLine):DPut H a (kV k) v (upd H a (.dK (Oy kvs k v))):=.inl ⟨kvs,k,e,rfl,hl,rfl⟩
section
variable {X:Cx}{pins:List (Addr×Obj)}{σ:St}{H:Hp}{s:aJ}{a:Addr}{y v:V}{u r:aE}{o:Option V}{A:cG}{E:aE->aJ->Prop}
theorem Inv.big(I:Inv X pins σ H s):sysModules < s.heap.objs.size:=by
 have h:aP < s.heap.objs.size:=(I.mod.glob.keeps I.bk).lt
 exact Nat.lt_trans (by decide) h
theorem Aoj{Q:aE->aJ->Prop}(hu:A.units+1 < cLine)(I:Inv X pins σ H s)(g:DGet H a y o)(ry:RelV y u)(h:∀ s',Inv X pins σ H s'->Q (.bool o.isSome) s') :
  wpAny (model X.prog X.w) A (dC .In u (.ref a)) Q E s:=by
 rcases g with ⟨kvs,k,e,ey,l⟩ | ⟨kvs,k,b,e,ey,eb,l⟩
 ·subst ey
  obtain ⟨z,hd,vs,rel,dd⟩:=Wt I.hok e
  refine wpAny_in_of (Wr ry) hd dd.mapOf ?_
  rw[<- (rel.val k).isSome_eq,<- l]
  exact h _ (I.tok _)
 ·subst ey
  cases (show u=bN b from ry)
  obtain ⟨z,hd,xs,rel,dd⟩:=Aam I.hok e
  refine wpAny_in_heap (jT hu) (Up I.hok eb) hd dd ?_
  have q:=(rel.val k).isSome_eq
  rw[fS] at q
  rw[<- q,<- l]
  exact h _ (I.tok _)
theorem Ahv{Q:aE->aJ->Prop}(hu:A.units+1 < cLine)(I:Inv X pins σ H s)(g:DGet H a y o)(ry:RelV y u)(h:∀ s',Inv X pins σ H s'->Q (.bool (!o.isSome)) s') :
  wpAny (model X.prog X.w) A (dC .NotIn u (.ref a)) Q E s:=by
 rcases g with ⟨kvs,k,e,ey,l⟩ | ⟨kvs,k,b,e,ey,eb,l⟩
 ·subst ey
  obtain ⟨z,hd,vs,rel,dd⟩:=Wt I.hok e
  refine wpAny_notIn_of (Wr ry) hd dd.mapOf ?_
  rw[<- (rel.val k).isSome_eq,<- l]
  exact h _ (I.tok _)
 ·subst ey
  cases (show u=bN b from ry)
  obtain ⟨z,hd,xs,rel,dd⟩:=Aam I.hok e
  refine wpAny_notIn_heap (jT hu) (Up I.hok eb) hd dd ?_
  have q:=(rel.val k).isSome_eq
  rw[fS] at q
  rw[<- q,<- l]
  exact h _ (I.tok _)
theorem Tz{h':Heap}{t':Nat}{ob:HO}(I:Inv X pins σ H s)(mu:Mut (H a))(hs:fZ a s.heap h')(he:∃ q,h'.get? a=some q)(new:ObjOk X.prog X.w (upd H a ob) h' a ob) :
  Inv X pins σ (upd H a ob) { s with heap:=h',toks:=t' }:=
 I.write (x:=a) (e:=a) mu (.inl rfl) (fun b q hb z=>(hs.2 b hb).trans z) he new
theorem Ada{P:bP}{w:cE}{H':Hp}{h':Heap}{kvs:List (Key×V)}{vs:List (Key×aE)}(z:kvs.length<=sizeLine)(hd:(a == sysModules)=false)(rel:KV kvs vs)(dd:h'.DictOf (Cf P w) a vs) :
  ObjOk P w H' h' a (.dK kvs):=⟨z,hd,vs,rel,dd⟩
theorem Abm{H':Hp}{Q:Unit->aJ->Prop}(hu:A.units+1 < cLine)(I:Inv X pins σ H s)(g:DPut H a y v H')(ry:RelV y u)(rv:RelV v r)(h:∀ s',Inv X pins σ H' s'->Q () s') :
  wpAny (model X.prog X.w) A (setItem (.ref a) u r) Q E s:=by
 rcases g with ⟨kvs,k,e,ey,l,eH⟩ | ⟨kvs,k,b,e,ey,eb,l,eH⟩
 ·subst ey eH
  obtain ⟨z,hd,vs,rel,dd⟩:=Q2 I.hok e
  have hz:vs.length<=sizeLine:=by rw[<- rel.length];exact z
  have hl:(Oy kvs k v).length<=sizeLine:=by have:=Pk kvs k v;omega
  refine wpAny_setItem_pairs (hsz:=hz) (Wr ry) dd fun h' dd' hs=>h _ ?_
  have he:∃ q,h'.get? a=some q:=let ⟨q,_,_,hq,_⟩:=dd';⟨q,hq⟩
  exact Tz I (by rw[e];exact eY) hs he (Ada hl hd (rel.put k rv) dd')
 ·subst ey eH
  cases (show u=bN b from ry)
  obtain ⟨z,hd,xs,rel,dd⟩:=Al1 I.hok e
  have hz:xs.length<=sizeLine:=by rw[<- kM rel];exact z
  have hl:(Oy kvs k v).length<=sizeLine:=by have:=Pk kvs k v;omega
  refine wpAny_setItem_heap (hsz:=hz) (jT hu) (Up I.hok eb) dd fun h' dd' hs=>h _ ?_
  obtain ⟨q,es,ep,hq,h2,h3,h4,_,h5⟩:=dd'
  refine Tz I (by rw[e];exact eY) hs ⟨q,hq⟩ ⟨hl,hd,_,(rel.put k eb rv).keeps fun c ys ec=>?_,q,es,ep,hq,h2,h3,h4,h5⟩
  rw[A9 (Ac6 ec e (fun z=>nomatch z))]
  exact ec
end
section
variable {X:Cx}{pins:List (Addr×Obj)}{σ:St}{H:Hp}{s:aJ}{a:Addr}{kvs:List (Key×V)}{k:Key}{u:aE}{A:cG}{E:aE->aJ->Prop}
theorem Alz{v:V}{more:List aE}{Q:aE->aJ->Prop}(I:Inv X pins σ H s)(e:H a=some (.dK kvs))(ry:RelV (kV k) u)(l:Mi kvs k=some v)(hm:more=[]\/∃ x,more=[x])
  (h:∀ w' s',Inv X pins σ (upd H a (.dK (Qb kvs k))) s'->RelV v w'->Q w' s'):wpAny (model X.prog X.w) A (call (.builtin "dict.pop") (.ref a::u::more)) Q E s:=by
 obtain ⟨z,hd,vs,rel,dd⟩:=Q2 I.hok e
 obtain ⟨w',hw,rw'⟩:=RelO.some_of (v:=v) (o:=valueAt vs k) (by rw[<- l];exact rel.val k)
 have hp:(keyPart u).isSome=true:=by
  cases k with
  | inl i=>obtain ⟨t,q⟩:=(show ∃ t,u=mK i t from ry);subst q;rfl
  | inr x=>obtain ⟨t,q⟩:=(show ∃ t,u=mL x t from ry);subst q;rfl
 have ha:argsOk "dict.pop" ⟨.ref a::u::more,[]⟩:=by
  rcases hm with q | ⟨x,q⟩
  ·subst q;exact PySem.F.args_dict_pop_2 _ _
  ·subst q;exact PySem.F.args_dict_pop_3 _ _ _
 refine lH lX dd.typeIs PySem.F.entry_dict_pop ha (meets_dict_pop_there (Cf X.prog X.w) a (Wr ry) more hm hp)
  ⟨vs,w',dd,by rw[<- rel.length];exact z,hw,fun h' dd' hs=>h w' _ ?_ rw'⟩
 have he:∃ q,h'.get? a=some q:=let ⟨q,_,_,hq,_⟩:=dd';⟨q,hq⟩
 exact Tz I (by rw[e];exact eY) hs he (Ada (cC (Ae5 kvs k) z) hd (rel.drop k) dd')
theorem Anf{Q:aE->aJ->Prop}(I:Inv X pins σ H s)(e:Rd H a (.dK kvs))(h:∀ t s',Inv X pins σ H s'->Q (.int kvs.length t) s'):wpAny (model X.prog X.w) A (call (.builtin "len") [.ref a]) Q E s:=by
 obtain ⟨z,hd,vs,rel,dd⟩:=Wt I.hok e
 refine call_len_dict hd dd (by rw[<- rel.length];rw[kE] at z;omega) ?_
 rw[<- rel.length]
 exact h _ _ (I.tok _)
end
noncomputable def Al8(td ty tv:TE):TS:=fun D σ H=>tv σ H fun v H1=>td σ H1 fun x H2=>ty σ H2 fun y H3=>∃ a H4,x = .ref a/\DPut H3 a y v H4/\D.nx σ H4
section
variable {X:Cx}{o i e value:Expr}{pos pos' tpos:Pos}{td ty tv:TE}
theorem Agb(hu:X.A.units+1 < cLine)(ho:PE X o td)(hi:PE X i ty)(hv:PE X value tv)(hs:swapsWith value (some (.Subscript o i pos')) pos.line X.env=pure false) :
  PS X (.Assign [.Subscript o i pos'] value pos) (Al8 td ty tv):=by
 intro pins s σ H D I h
 refine wpAny_Assign_Subscript (thn (hv pins s σ H _ I h) fun r s1 zz=>zz.elim fun v H1 I1 rv q1=>thn (ho pins s1 σ H1 _ I1 q1) fun u s2 zz=>zz.elim fun x H2 I2 rx q2=>thn (hi pins s2 σ H2 _ I2 q2) fun iv s3 zz=>zz.elim fun y H3 I3 ry zq=>?_) hs
 obtain ⟨a,H4,ex,g,q3⟩:=zq
 subst ex
 obtain rfl:u=bN a:=rx
 exact Abm hu I3 g ry rv fun s4 I4=>⟨σ,H4,I4,q3⟩
end
theorem Ad4{P:bP}{w:cE}{H:Hp}(h:Heap)(hb:sysModules < h.objs.size):ObjOk P w H (h.push { cls:=.type "dict",data:=.dict #[] }) h.objs.size (.dK []):=
 ⟨kH _,beq_eq_false_iff_ne.mpr (cS (bV hb)),[],.nil,Heap.DictOf.new h⟩
noncomputable def Akx:TE:=fun _ H Q=>∀ p,H p=none->Q (.ref p) (upd H p (.dK []))
section
variable {X:Cx}{pos:Pos}
theorem Ady:PE X (.Dict [] [] pos) Akx:=fun pins s σ H Q I h=>
 wpAny_Dict_empty ⟨.ref s.heap.objs.size,_,I.laid (a:=s.heap.objs.size) (o:=.dK []) (t':=s.toks) (fun _ _ q=>aG _ q) (bD _) (Ad4 s.heap I.big),rfl,h _ (I.hok.fresh (bD _))⟩
end
structure M1(X:Cx)(o:Expr)(m:Str)(apos:Pos)(e:Expr)(cpos:Pos):Prop where
 base:attributeBase o m X.env (eval o X.env)=eval o X.env
 few:((backTo cpos (bA [e] X.env)).all (fun x=>!x.1)&&(backToKw cpos (keywordEach [] X.env)).all (fun x=>x.1.isSome)
  && decide (([e]:List Expr).length+([]:List hG).length+(if ([]:List hG).isEmpty then 0 else 1) < 30))=true
 line:(apos.endLine == cpos.line)=true
 trees:backTo cpos (bA [e] X.env)=[(false,eval e X.env)]
structure M2(X:Cx)(o:Expr)(m:Str)(apos:Pos)(e f:Expr)(cpos:Pos):Prop where
 base:attributeBase o m X.env (eval o X.env)=eval o X.env
 few:((backTo cpos (bA [e,f] X.env)).all (fun x=>!x.1)&&(backToKw cpos (keywordEach [] X.env)).all (fun x=>x.1.isSome)
  && decide (([e,f]:List Expr).length+([]:List hG).length+(if ([]:List hG).isEmpty then 0 else 1) < 30))=true
 line:(apos.endLine == cpos.line)=true
 trees:backTo cpos (bA [e,f] X.env)=[(false,eval e X.env),(false,eval f X.env)]
noncomputable def IsD(H:Hp)(a:Addr):Prop:=(∃ kvs,Rd H a (.dK kvs))\/∃ kvs,Rd H a (.dT kvs)
theorem Uk{X:Cx}{pins:List (Addr×Obj)}{σ:St}{H:Hp}{s:aJ}{a:Addr}(I:Inv X pins σ H s)(d:IsD H a) :
  s.TypeIs (.ref a) "dict" /\ (∀ b,bN a = .ref b->∃ ob,s.heap.get? b=some ob/\ob.dict=none)/\(a == sysModules)=false:=by
 rcases d with ⟨kvs,e⟩ | ⟨kvs,e⟩
 ·obtain ⟨_,hd,vs,_,dd⟩:=Wt I.hok e
  refine ⟨dd.typeIs,fun b q=>?_,hd⟩
  cases q
  obtain ⟨ob,_,_,h1,h2,_⟩:=dd
  exact ⟨ob,h1,h2.2.1⟩
 ·obtain ⟨_,hd,xs,_,dd⟩:=Aam I.hok e
  refine ⟨dd.typeIs,fun b q=>?_,hd⟩
  cases q
  obtain ⟨ob,_,_,h1,h2,_⟩:=dd
  exact ⟨ob,h1,h2.2.1⟩
section
variable {X:Cx}{pins:List (Addr×Obj)}{σ:St}{H:Hp}{s:aJ}{a:Addr}{y d:V}{u r:aE}{o:Option V}{A:cG}{E:aE->aJ->Prop}
end
noncomputable def Ak2(td ty:TE):TE:=fun σ H Q=>td σ H fun x H1=>∃ a,x = .ref a/\IsD H1 a/\ty σ H1 fun y H2=>∃ kvs k v,H2 a=some (.dK kvs)/\y=kV k/\Mi kvs k=some v/\Q v (upd H2 a (.dK (Qb kvs k)))
section
variable {X:Cx}{o e f:Expr}{apos cpos:Pos}{td ty tx:TE}
theorem Ac3(ho:PE X o td)(he:PE X e ty)(m:M1 X o "pop" apos e cpos):PE X (.Call (.Attribute o "pop" apos) [e] [] cpos) (Ak2 td ty):=by
 intro pins s σ H Q I h
 refine hZ m.base m.few m.line fH lX PySem.F.type_dict_pop (thn (ho pins s σ H _ I h) fun u s1 zz=>zz.elim fun x H1 I1 rx zq=>?_)
 obtain ⟨a,ex,d,q1⟩:=zq
 subst ex
 obtain rfl:u=bN a:=rx
 obtain ⟨t1,t2,_⟩:=Uk I1 d
 refine ⟨t1,t2,?_⟩
 rw[m.trees]
 refine dX rfl (iQ (jQ (thn (he pins s1 σ H1 _ I1 q1) fun iv s2 zz=>zz.elim fun y H2 I2 ry zq=>kI ?_)))
 obtain ⟨kvs,k,v,ea,ey,l,q2⟩:=zq
 subst ey
 exact Alz I2 ea ry l (.inl rfl) fun w' s3 I3 rw'=>⟨v,_,I3,rw',q2⟩
end
section
variable {X:Cx}{pins:List (Addr×Obj)}{σ:St}{H:Hp}{s:aJ}{a:Addr}{kvs:List (Key×V)}{A:cG}{E:aE->aJ->Prop}
end
section
variable {X:Cx}{pins:List (Addr×Obj)}{σ:St}{H:Hp}{s:aJ}{a:Addr}{y:V}{u:aE}{A:cG}{E:aE->aJ->Prop}
end
end L2
namespace MR
open PySem PySem.Spec PyProof.Rows L2
inductive U where
 | non | bl (b:Bool) | int (i:Int) | str (x:Str) | tup (l:List U) | ref (n:Nat)
inductive HU where
 | lst (xs:List U) | ro (xs:List U) | dic (kvs:List (Key×U)) | rod (kvs:List (Key×U)) | ins (C:Str) (fs:List (Str×U)) | exc (C:Str) (fr:Bool) (fs:List (Str×U))
abbrev UH:=List HU
abbrev UE:=List (Option U)
section
variable (K:aC)(H:Hp)(α:List Addr)
mutual
noncomputable def RepU:U->V->Prop
 | .non,v=>v = .non
 | .bl b,v=>v = .bl b
 | .int i,v=>v = .int i
 | .str x,v=>v = .str x
 | .tup l,v=>∃ a xs,v = .ref a/\SqT K H a xs/\RepL l xs
 | .ref n,v=>∃ a,α[n]? = some a/\v = .ref a
noncomputable def RepL:List U->List V->Prop
 | [],xs=>xs=[]
 | u::l,xs=>∃ x r,xs=x::r/\RepU u x/\RepL l r
end
end
noncomputable def Stay(H H':Hp):Prop:=(∀ b xs,H b=some (.tup xs)->H' b=some (.tup xs))/\∀ b o u,H b=some (.frz o u)->H' b=some (.frz o u)
theorem Stay.refl(H:Hp):Stay H H:=⟨fun _ _ q=>q,fun _ _ _ q=>q⟩
theorem Stay.trans{H H1 H2:Hp}(a:Stay H H1)(b:Stay H1 H2):Stay H H2:=⟨fun c xs q=>b.1 c xs (a.1 c xs q),fun c o u q=>b.2 c o u (a.2 c o u q)⟩
theorem Stay.sqT{K:aC}{H H':Hp}{a:Addr}{xs:List V}(e:Stay H H')(h:SqT K H a xs):SqT K H' a xs:=by
 rcases h with (h | ⟨o,h⟩) | h
 ·exact .inl (.inl (e.1 _ _ h))
 ·exact .inl (.inr ⟨o,e.2 _ _ _ h⟩)
 ·exact .inr h
theorem Stay.new{H:Hp}{p:Addr}(h:H p=none)(o:HO):Stay H (upd H p o):=⟨fun b u q=>by rw[A9 (Br q h)];exact q,fun b o u q=>by rw[A9 (Br q h)];exact q⟩
theorem Stay.write{H:Hp}{p:Addr}{o:HO}(h:H p=some o)(m:Mut (some o))(o':HO):Stay H (upd H p o'):=
 ⟨fun b u q=>by rw[A9 (Ac6 q h (fun z=>by subst z;exact m))];exact q,fun b w u q=>by rw[A9 (Ac6 q h (fun z=>by subst z;exact m))];exact q⟩
structure Gr(H:Hp)(α:List Addr)(H':Hp)(α':List Addr):Prop where
 pre:∃ β,α' = α ++ β
 st:Stay H H'
theorem Gr.refl(H:Hp)(α:List Addr):Gr H α H α:=⟨⟨[],by simp⟩,.refl H⟩
theorem Gr.trans{H H1 H2:Hp}{α α1 α2:List Addr}(a:Gr H α H1 α1)(b:Gr H1 α1 H2 α2):Gr H α H2 α2:=by
 obtain ⟨⟨β,e⟩,s⟩:=a
 obtain ⟨⟨γ,e'⟩,s'⟩:=b
 exact ⟨⟨β ++ γ,by rw[e',e,cA]⟩,s.trans s'⟩
theorem Gr.at{H H':Hp}{α α':List Addr}(g:Gr H α H' α'){n:Nat}{a:Addr}(h:α[n]? = some a):α'[n]? = some a:=by
 obtain ⟨β,e⟩:=g.pre
 have hn:n < α.length:=(aQ.mp h).1
 rw[e,aW hn];exact h
section
variable {K:aC}{H H':Hp}{α α':List Addr}
mutual
theorem RepU.mono(g:Gr H α H' α'):∀ (u:U) (v:V),RepU K H α u v->RepU K H' α' u v
 | .non,_,h=>h
 | .bl _,_,h=>h
 | .int _,_,h=>h
 | .str _,_,h=>h
 | .tup l,v,h=>by
  unfold RepU at h ⊢
  obtain ⟨a,xs,e,s,r⟩:=h
  exact ⟨a,xs,e,g.st.sqT s,RepL.mono g l xs r⟩
 | .ref n,v,h=>by
  unfold RepU at h ⊢
  obtain ⟨a,e,q⟩:=h
  exact ⟨a,g.at e,q⟩
theorem RepL.mono(g:Gr H α H' α'):∀ (l:List U) (xs:List V),RepL K H α l xs->RepL K H' α' l xs
 | [],xs,h=>h
 | u::l,xs,h=>by
  unfold RepL at h ⊢
  obtain ⟨x,r,e,h1,h2⟩:=h
  exact ⟨x,r,e,RepU.mono g u x h1,RepL.mono g l r h2⟩
end
theorem RepL.length:∀ {l:List U} {xs:List V},RepL K H α l xs->l.length=xs.length
 | [],xs,h=>by unfold RepL at h;subst h;rfl
 | u::l,xs,h=>by
  unfold RepL at h
  obtain ⟨x,r,e,_,h2⟩:=h
  subst e
  simp[RepL.length h2]
theorem RepL.get:∀ {l:List U} {xs:List V} {i:Nat} {u:U},RepL K H α l xs->l[i]? = some u->∃ x,xs[i]? = some x/\RepU K H α u x
 | [],xs,i,u,h,e=>by simp at e
 | w::l,xs,i,u,h,e=>by
  unfold RepL at h
  obtain ⟨x,r,e',h1,h2⟩:=h
  subst e'
  cases i with
  | zero=>simp at e;subst e;exact ⟨x,rfl,h1⟩
  | succ i=>simpa using RepL.get (i:=i) h2 (by simpa using e)
theorem RepL.nil:RepL K H α [] []:=by unfold RepL;rfl
theorem RepL.cons{u:U}{l:List U}{x:V}{xs:List V}(h:RepU K H α u x)(t:RepL K H α l xs):RepL K H α (u::l) (x::xs):=by
 unfold RepL;exact ⟨x,xs,rfl,h,t⟩
theorem RepL.append:∀ {l l':List U} {xs ys:List V},RepL K H α l xs->RepL K H α l' ys->RepL K H α (l++l') (xs++ys)
 | [],l',xs,ys,h,t=>by unfold RepL at h;subst h;exact t
 | u::l,l',xs,ys,h,t=>by
  unfold RepL at h
  obtain ⟨x,r,e,h1,h2⟩:=h
  subst e
  exact .cons h1 (RepL.append h2 t)
theorem RepL.take:∀ {l:List U} {xs:List V} (n:Nat),RepL K H α l xs->RepL K H α (l.take n) (xs.take n)
 | [],xs,n,h=>by unfold RepL at h;subst h;simp[RepL.nil]
 | u::l,xs,0,h=>by simp[RepL.nil]
 | u::l,xs,n+1,h=>by
  unfold RepL at h
  obtain ⟨x,r,e,h1,h2⟩:=h
  subst e
  exact .cons h1 (RepL.take n h2)
theorem RepL.drop:∀ {l:List U} {xs:List V} (n:Nat),RepL K H α l xs->RepL K H α (l.drop n) (xs.drop n)
 | [],xs,n,h=>by unfold RepL at h;subst h;simp[RepL.nil]
 | u::l,xs,0,h=>h
 | u::l,xs,n+1,h=>by
  unfold RepL at h
  obtain ⟨x,r,e,h1,h2⟩:=h
  subst e
  exact RepL.drop n h2
theorem RepL.set{u:U}{x:V}(q:RepU K H α u x):∀ {l:List U} {xs:List V} (n:Nat),RepL K H α l xs->RepL K H α (l.set n u) (xs.set n x)
 | [],xs,n,h=>by unfold RepL at h;subst h;exact .nil
 | w::l,xs,0,h=>by
  unfold RepL at h
  obtain ⟨y,r,e,h1,h2⟩:=h
  subst e
  exact .cons q h2
 | w::l,xs,n+1,h=>by
  unfold RepL at h
  obtain ⟨y,r,e,h1,h2⟩:=h
  subst e
  exact .cons h1 (RepL.set q n h2)
theorem RepL.erase:∀ {l:List U} {xs:List V} (n:Nat),RepL K H α l xs->RepL K H α (l.eraseIdx n) (xs.eraseIdx n)
 | [],xs,n,h=>by unfold RepL at h;subst h;exact .nil
 | w::l,xs,0,h=>by
  unfold RepL at h
  obtain ⟨y,r,e,h1,h2⟩:=h
  subst e
  exact h2
 | w::l,xs,n+1,h=>by
  unfold RepL at h
  obtain ⟨y,r,e,h1,h2⟩:=h
  subst e
  exact .cons h1 (RepL.erase n h2)
theorem RepL.ints:∀ (ns:List Int),RepL K H α (ns.map U.int) (ns.map V.int)
 | []=>.nil
 | n::r=>.cons rfl (RepL.ints r)
end
noncomputable def RO(K:aC)(H:Hp)(a:Addr)(xs:List V):Prop:=
 (∃ o,H a=some (.frz o (.lst xs)))\/∃ (o:Obj) (its:Array aE) (n:Nat),K.lookup a=some o/\o.cls = .type "list" /\ o.dict=none/\o.data = .seq its n/\its.size<=sizeLine/\Vals xs its.toList
theorem RO.sq{K:aC}{H:Hp}{a:Addr}{xs:List V}(h:RO K H a xs):SqL K H a xs:=by
 rcases h with ⟨o,h⟩ | h
 ·exact .inl (.inr ⟨o,h⟩)
 ·exact .inr h
theorem RO.stay{K:aC}{H H':Hp}{a:Addr}{xs:List V}(st:Stay H H')(h:RO K H a xs):RO K H' a xs:=by
 rcases h with ⟨o,h⟩ | h
 ·exact .inl ⟨o,st.2 _ _ _ h⟩
 ·exact .inr h
noncomputable def Ct(a Ca:Addr)(dd:Option Addr)(fr:Bool)(h:Heap):Prop:=∃ (o:Obj) (vs:Array aE),h.get? a=some o/\o.cls = .ref Ca/\o.dict=dd/\o.data = .fields vs/\1 < vs.size/\o.slots=#[]/\(fr=true->vs[1]? = some .none)
noncomputable def DictIs(H:Hp)(dd:Option Addr)(vs:List (Str×V)):Prop:=match dd with
 | none=>vs=[]
 | some dx=>vs≠[]/\∃ od,H dx=some (.frz od (.xd vs))
theorem DictIs.stay{H H':Hp}{dd:Option Addr}{vs:List (Str×V)}(st:∀ b o ws,H b=some (.frz o (.xd ws))->H' b=some (.frz o (.xd ws)))(h:DictIs H dd vs):DictIs H' dd vs:=by
 cases dd with
 | none=>exact h
 | some dx=>obtain ⟨ne,od,q⟩:=h;exact ⟨ne,od,st _ _ _ q⟩
noncomputable def HRep(K:aC)(H:Hp)(α:List Addr)(a:Addr):HU->Prop
 | .lst us=>∃ xs,H a=some (.lst xs)/\RepL K H α us xs
 | .ro us=>∃ xs,RO K H a xs/\RepL K H α us xs
 | .dic kvs=>∃ vs,H a=some (.dK vs)/\kvs.map (·.1)=vs.map (·.1)/\RepL K H α (kvs.map (·.2)) (vs.map (·.2))
 | .rod kvs=>∃ o vs,H a=some (.frz o (.dK vs))/\kvs.map (·.1)=vs.map (·.1)/\RepL K H α (kvs.map (·.2)) (vs.map (·.2))
 | .ins C fs=>∃ Ca dx vs,aS K aP C=some (some (.ref Ca))/\H a=some (.ins Ca dx vs)/\fs.map (·.1)=vs.map (·.1)/\RepL K H α (fs.map (·.2)) (vs.map (·.2))
 | .exc C fr fs=>∃ Ca dd vs,aS K aP C=some (some (.ref Ca))/\H a=some (.ext (Ct a Ca dd fr))/\DictIs H dd vs/\fs.map (·.1)=vs.map (·.1)/\RepL K H α (fs.map (·.2)) (vs.map (·.2))
noncomputable def HU.isRo:HU->Bool
 | .ro _=>true
 | _=>false
structure Abs(K:aC)(H:Hp)(α:List Addr)(L:UH):Prop where
 len:α.length=L.length
 inj:∀ (i j:Nat) (a:Addr) (o o':HU),α[i]? = some a->α[j]? = some a->L[i]? = some o->L[j]? = some o'->i=j\/o.isRo=true\/o'.isRo=true
 rep:∀ (i:Nat) (a:Addr) (o:HU),α[i]? = some a->L[i]? = some o->HRep K H α a o
theorem Abs.addr{K:aC}{H:Hp}{α:List Addr}{L:UH}(A:Abs K H α L){n:Nat}{o:HU}(h:L[n]? = some o):∃ a,α[n]? = some a/\HRep K H α a o:=by
 have hn:n < α.length:=by rw[A.len];exact (aQ.mp h).1
 exact ⟨α[n],cK hn,A.rep n _ o (cK hn) h⟩
theorem HRep.other{K:aC}{H H':Hp}{α α':List Addr}{a:Addr}{o:HU}(g:Gr H α H' α')(hs:o.isRo=true\/∀ u,H a=some u->H' a=some u)(h:HRep K H α a o):HRep K H' α' a o:=by
 cases o with
 | lst us=>obtain ⟨xs,e,r⟩:=h;exact ⟨xs,(hs.resolve_left (by simp[HU.isRo])) _ e,r.mono g⟩
 | ro us=>obtain ⟨xs,e,r⟩:=h;exact ⟨xs,e.stay g.st,r.mono g⟩
 | dic kvs=>obtain ⟨vs,e,k,r⟩:=h;exact ⟨vs,(hs.resolve_left (by simp[HU.isRo])) _ e,k,r.mono g⟩
 | rod kvs=>obtain ⟨o,vs,e,k,r⟩:=h;exact ⟨o,vs,(hs.resolve_left (by simp[HU.isRo])) _ e,k,r.mono g⟩
 | ins C fs=>obtain ⟨Ca,dx,vs,n,e,k,r⟩:=h;exact ⟨Ca,dx,vs,n,(hs.resolve_left (by simp[HU.isRo])) _ e,k,r.mono g⟩
 | exc C fr fs=>obtain ⟨Ca,dd,vs,n,e,d,k,r⟩:=h;exact ⟨Ca,dd,vs,n,(hs.resolve_left (by simp[HU.isRo])) _ e,d.stay fun b o ws q=>g.st.2 b o _ q,k,r.mono g⟩
theorem HRep.some{K:aC}{H:Hp}{α:List Addr}{a:Addr}{o:HU}(h:HRep K H α a o)(n:o.isRo=false):∃ u,H a=some u:=by
 cases o with
 | lst us=>obtain ⟨xs,e,r⟩:=h;exact ⟨_,e⟩
 | ro us=>simp[HU.isRo] at n
 | dic kvs=>obtain ⟨vs,e,k,r⟩:=h;exact ⟨_,e⟩
 | rod kvs=>obtain ⟨o,vs,e,k,r⟩:=h;exact ⟨_,e⟩
 | ins C fs=>obtain ⟨Ca,dx,vs,n',e,k,r⟩:=h;exact ⟨_,e⟩
 | exc C fr fs=>obtain ⟨Ca,dd,vs,n',e,k,r⟩:=h;exact ⟨_,e⟩
theorem Abs.new{K:aC}{H:Hp}{α:List Addr}{L:UH}{p:Addr}{o:HO}{u:HU}(A:Abs K H α L)(hp:H p=none)(hr:HRep K (upd H p o) (α ++ [p]) p u) :
  Abs K (upd H p o) (α ++ [p]) (L++[u])/\Gr H α (upd H p o) (α ++ [p]):=by
 have g:Gr H α (upd H p o) (α ++ [p]):=⟨⟨[p],rfl⟩,.new hp o⟩
 have hl:=A.len
 refine ⟨⟨by simp[hl],fun i j a o1 o2 e1 e2 e3 e4=>?_,fun i a o1 e1 e2=>?_⟩,g⟩
 ·have fresh:∀ (k:Nat) (o3:HU),α[k]? = some p->L[k]? = some o3->o3.isRo=true:=fun k o3 q1 q2=>by
   cases hh:o3.isRo with
   | true=>rfl
   | false=>
    obtain ⟨u3,q⟩:=(A.rep k p o3 q1 q2).some hh
    rw[hp] at q;cases q
  by_cases hi:i < α.length
  ·rw[aW hi] at e1
   rw[aW (by omega)] at e3
   by_cases hj:j < α.length
   ·rw[aW hj] at e2
    rw[aW (by omega)] at e4
    exact A.inj i j a o1 o2 e1 e2 e3 e4
   ·rw[bY (by omega)] at e2
    have:a=p:=by
     cases hk:j - α.length with
     | zero=>rw[hk] at e2;simp at e2;exact e2.symm
     | succ k=>rw[hk] at e2;simp at e2
    subst this
    exact .inr (.inl (fresh i o1 e1 e3))
  ·rw[bY (by omega)] at e1
   have hia:a=p/\i = α.length:=by
    cases hk:i - α.length with
    | zero=>rw[hk] at e1;simp at e1;exact ⟨e1.symm,by omega⟩
    | succ k=>rw[hk] at e1;simp at e1
   obtain ⟨rfl,hi'⟩:=hia
   by_cases hj:j < α.length
   ·rw[aW hj] at e2
    rw[aW (by omega)] at e4
    exact .inr (.inr (fresh j o2 e2 e4))
   ·rw[bY (by omega)] at e2
    have:j = α.length:=by
     cases hk:j - α.length with
     | zero=>omega
     | succ k=>rw[hk] at e2;simp at e2
    exact .inl (by omega)
 ·by_cases hi:i < α.length
  ·rw[aW hi] at e1
   rw[aW (by omega)] at e2
   refine (A.rep i a o1 e1 e2).other g ?_
   exact .inr fun u3 q=>by rw[A9 (Br q hp)];exact q
  ·rw[bY (by omega)] at e1
   rw[bY (by omega)] at e2
   have h1:i - α.length=0:=by
    cases hk:i - α.length with
    | zero=>rfl
    | succ k=>rw[hk] at e1;simp at e1
   rw[h1] at e1
   rw[show i - L.length=0 by omega] at e2
   simp at e1 e2
   subst e1;subst e2
   exact hr
theorem Abs.put{K:aC}{H:Hp}{α:List Addr}{L:UH}{p:Addr}{n:Nat}{o0 o:HO}{u0 u:HU}(A:Abs K H α L)(hn:α[n]? = some p)(hL:L[n]? = some u0)(hro:u0.isRo=false)(hro':u.isRo=false)(hp:H p=some o0)(hm:Mut (some o0))(hr:HRep K (upd H p o) α p u) :
  Abs K (upd H p o) α (L.set n u)/\Gr H α (upd H p o) α:=by
 have g:Gr H α (upd H p o) α:=⟨⟨[],by simp⟩,.write hp hm o⟩
 have hl:=A.len
 have hlt:n < L.length:=(aQ.mp hL).1
 have look:∀ (i:Nat) (o1:HU),(L.set n u)[i]? = some o1->∃ o2,L[i]? = some o2/\o2.isRo=o1.isRo/\(i≠n->o2=o1):=fun i o1 e=>by
  by_cases hi:n=i
  ·subst hi
   rw[bU hlt] at e
   cases e
   exact ⟨u0,hL,by rw[hro,hro'],fun z=>absurd rfl z⟩
  ·rw[bI hi] at e
   exact ⟨o1,e,rfl,fun _=>rfl⟩
 refine ⟨⟨by simp[hl],fun i j a o1 o2 e1 e2 e3 e4=>?_,fun i a o1 e1 e2=>?_⟩,g⟩
 ·obtain ⟨x1,q1,r1,_⟩:=look i o1 e3
  obtain ⟨x2,q2,r2,_⟩:=look j o2 e4
  rw[<- r1,<- r2]
  exact A.inj i j a x1 x2 e1 e2 q1 q2
 ·by_cases hi:n=i
  ·subst hi
   rw[bU hlt] at e2
   cases e2
   rw[hn] at e1;cases e1
   exact hr
  ·rw[bI hi] at e2
   refine (A.rep i a o1 e1 e2).other g ?_
   by_cases hap:a=p
   ·subst hap
    rcases A.inj i n a o1 u0 e1 hn e2 hL with z | z | z
    ·exact absurd z.symm hi
    ·exact .inl z
    ·rw[hro] at z;cases z
   ·exact .inr fun u3 q=>by rw[A9 hap];exact q
structure RepS(K:aC)(H:Hp)(α:List Addr)(δ:UE)(σ:L2.St):Prop where
 len:δ.length = σ.length
 at_:∀ (i:Nat) (u:U),δ[i]? = some (some u)->∃ v,σ[i]? = some (some v)/\RepU K H α u v
theorem RepS.mono{K:aC}{H H':Hp}{α α':List Addr}{δ:UE}{σ:L2.St}(g:Gr H α H' α')(h:RepS K H α δ σ):RepS K H' α' δ σ:=
 ⟨h.len,fun i u e=>let ⟨v,q,r⟩:=h.at_ i u e;⟨v,q,r.mono g⟩⟩
theorem RepS.set{K:aC}{H:Hp}{α:List Addr}{δ:UE}{σ:L2.St}(h:RepS K H α δ σ)(i:Nat){u:U}{v:V}(r:RepU K H α u v):RepS K H α (δ.set i (some u)) (σ.set i (some v)):=
 ⟨by simp[h.len],fun j w e=>by
  by_cases hj:i=j
  ·subst hj
   by_cases hi:i < δ.length
   ·rw[bU hi] at e
    cases e
    exact ⟨v,bU (by rw[<- h.len];exact hi),r⟩
   ·rw[dI (by simpa using hi)] at e;cases e
  ·rw[bI hj] at e
   obtain ⟨v',q,r'⟩:=h.at_ j w e
   exact ⟨v',by rw[bI hj];exact q,r'⟩⟩
theorem RepS.start{K:aC}{H:Hp}{α:List Addr}(N:List Str){us:List U}{vs:List V}(h:RepL K H α us vs):RepS K H α (us.map some++bE (N.length - us.length) none) (start N vs):=by
 have hl:=h.length
 refine ⟨by simp[L2.start,hl],fun i u e=>?_⟩
 by_cases hi:i < us.length
 ·rw[aW (by simpa using hi),bO] at e
  cases q:us[i]? with
  | none=>rw[q] at e;simp at e
  | some w=>
   rw[q] at e
   simp at e
   subst e
   obtain ⟨x,e2,r⟩:=h.get q
   refine ⟨x,?_,r⟩
   unfold L2.start
   rw[aW (by simp;omega),bO,e2];rfl
 ·rw[bY (by simpa using hi)] at e
  have:=fV e
  simp at this
abbrev FE:=UE->UH->Option (U×UH)
abbrev FT:=UE->UH->Option (Bool×UH)
abbrev FA:=UE->UH->Option (List U×UH)
inductive lE(K:aC)(f:FE)(σ:L2.St)(H:Hp)(Q:VK):Prop
 | mk (α:List Addr) (δ:UE) (L:UH) (A:Abs K H α L) (S:RepS K H α δ σ) (u:U) (L':UH) (e:f δ L=some (u,L')) (q:∀ v H' α',Gr H α H' α'->Abs K H' α' L'->RepU K H' α' u v->Q v H'):lE K f σ H Q
inductive lT(K:aC)(f:FT)(σ:L2.St)(H:Hp)(Q:Bool->Hp->Prop):Prop
 | mk (α:List Addr) (δ:UE) (L:UH) (A:Abs K H α L) (S:RepS K H α δ σ) (b:Bool) (L':UH) (e:f δ L=some (b,L')) (q:∀ H' α',Gr H α H' α'->Abs K H' α' L'->Q b H'):lT K f σ H Q
inductive lA(K:aC)(f:FA)(σ:L2.St)(H:Hp)(Q:List V->Hp->Prop):Prop
 | mk (α:List Addr) (δ:UE) (L:UH) (A:Abs K H α L) (S:RepS K H α δ σ) (us:List U) (L':UH) (e:f δ L=some (us,L')) (q:∀ vs H' α',Gr H α H' α'->Abs K H' α' L'->RepL K H' α' us vs->Q vs H'):lA K f σ H Q
noncomputable def PEF(X:Cx)(e:Expr)(f:FE):Prop:=PE X e (lE X.K f)
noncomputable def PTF(X:Cx)(e:Expr)(f:FT):Prop:=PT X e (lT X.K f)
noncomputable def PWF(X:Cx)(e:Expr)(f:FT):Prop:=PW X e (lT X.K f)
noncomputable def PAF(X:Cx)(es:List Expr)(f:FA):Prop:=PA X es (lA X.K f)
section
variable {X:Cx}{e:Expr}{es:List Expr}
theorem PE.imp{t t':TE}(h:PE X e t)(hi:∀ σ H Q,t' σ H Q->t σ H Q):PE X e t':=fun pins s σ H Q I q=>h pins s σ H Q I (hi σ H Q q)
theorem PT.imp{t t':TT}(h:PT X e t)(hi:∀ σ H Q,t' σ H Q->t σ H Q):PT X e t':=fun pins s σ H Q I q=>h pins s σ H Q I (hi σ H Q q)
theorem PW.imp{t t':TT}(h:PW X e t)(hi:∀ σ H Q,t' σ H Q->t σ H Q):PW X e t':=fun wh pins s σ H Q I q=>h wh pins s σ H Q I (hi σ H Q q)
theorem PA.imp{t t':TA}(h:PA X es t)(hi:∀ σ H Q,t' σ H Q->t σ H Q):PA X es t':=fun pos pins s σ H Q I q=>h pos pins s σ H Q I (hi σ H Q q)
end
noncomputable def Ae(i:Nat):FE:=fun δ L=>(δ[i]?).join.map fun u=>(u,L)
noncomputable def fC(u:U):FE:=fun _ L=>some (u,L)
section
variable {X:Cx}{a b c e:Expr}{pos:Pos}
theorem Ah(i:Nat){x:Str}{pos:Pos}(hN:X.N[i]? = some x:=by rfl)(hv:Vis X.env.scope x:=by first | exact pV rfl | exact pG (pV rfl) | exact pG (pG rfl))
  (hd:(x == ("__debug__" : Str))=false:=by decide) (hcd:(x == ("__classdict__" : Str))=false:=by decide):PEF X (.Name x pos) (Ae i):=by
 refine PE.imp (Aj3 hN hv hd hcd) ?_
 rintro σ H Q ⟨α,δ,L,A,S,u,L',e,q⟩
 unfold Ae at e
 cases h:δ[i]? with
 | none=>rw[h] at e;simp at e
 | some o=>
  cases o with
  | none=>rw[h] at e;simp at e
  | some w=>
   rw[h] at e
   simp at e
   obtain ⟨rfl,rfl⟩:=e
   obtain ⟨v,hv,r⟩:=S.at_ i w h
   exact ⟨v,hv,q v H α (.refl _ _) A r⟩
theorem Ag7{v:V}{u:U}(h:PE X e (tC v))(r:∀ H α,RepU X.K H α u v):PEF X e (fC u):=by
 refine PE.imp h ?_
 rintro σ H Q ⟨α,δ,L,A,S,w,L',e,q⟩
 unfold fC at e
 cases e
 exact q v H α (.refl _ _) A (r H α)
theorem Ai{i:Int}{j pos}:PEF X (.Constant (.int i) j pos) (fC (.int i)):=Ag7 Alf fun _ _=>rfl
theorem Tr{b:Bool}{j pos}:PEF X (.Constant (.bool b) j pos) (fC (.bl b)):=Ag7 Amx fun _ _=>rfl
theorem Afs{j pos}:PEF X (.Constant .none j pos) (fC .non):=Ag7 Aku fun _ _=>rfl
theorem Dd{x:Str}{j pos}:PEF X (.Constant (.str x) j pos) (fC (.str x)):=Ag7 Akb fun _ _=>rfl
abbrev S2:=U->U->UH->Option (U×UH)
noncomputable def Dh(K:aC)(r:R2)(sem:S2):Prop:=∀ (H:Hp) (α:List Addr) (L:UH) (u w:U) (x y:V) (z:U) (L':UH) (Q:VK),Abs K H α L->RepU K H α u x->RepU K H α w y->sem u w L=some (z,L') ->
 (∀ v H' α',Gr H α H' α'->Abs K H' α' L'->RepU K H' α' z v->Q v H')->r x y H Q
noncomputable def f2(sem:S2)(fa fb:FE):FE:=fun δ L=>(fa δ L).bind fun p=>(fb δ p.2).bind fun q=>sem p.1 q.1 q.2
theorem Yf{K:aC}{r:R2}{sem:S2}{fa fb:FE}(h:Dh K r sem):∀ σ H Q,lE K (f2 sem fa fb) σ H Q->tOp r (lE K fa) (lE K fb) σ H Q:=by
 rintro σ H Q ⟨α,δ,L,A,S,z,L3,e,q⟩
 obtain ⟨⟨u,L1⟩,e1,e⟩:=aB.mp e
 obtain ⟨⟨w,L2⟩,e2,e3⟩:=aB.mp e
 refine ⟨α,δ,L,A,S,u,L1,e1,fun x H1 α1 g1 A1 r1=>⟨α1,δ,L1,A1,S.mono g1,w,L2,e2,fun y H2 α2 g2 A2 r2=>?_⟩⟩
 exact h H2 α2 L2 u w x y z L3 Q A2 (r1.mono g2) r2 e3 fun v H3 α3 g3 A3 r3=>q v H3 α3 (g1.trans (g2.trans g3)) A3 r3
theorem Bp{op:Operator}{r:R2}{sem:S2}{fa fb:FE}(ho:OpR X (eB op) r)(h:Dh X.K r sem)(ha:PEF X a fa)(hb:PEF X b fb):PEF X (.BinOp a op b pos) (f2 sem fa fb):=PE.imp (Alr ho ha hb) (Yf h)
theorem Oi{op:CmpOp}{r:R2}{sem:S2}{fa fb:FE}(ho:OpR X (dC op) r)(h:Dh X.K r sem)(ha:PEF X a fa)(hb:PEF X b fb)(hm:behindInMarks op b=false):PEF X (.Compare a [op] [b] pos) (f2 sem fa fb):=PE.imp (Ahu ho ha hb hm) (Yf h)
noncomputable def Az(f:FE):FT:=fun δ L=>(f δ L).bind fun p=>match p.1 with | .bl k=>some (k,p.2) | _=>none
theorem Ain{K:aC}{t:TE}{f:FE}(ht:∀ σ H Q,lE K f σ H Q->t σ H Q):∀ σ H Q,lT K (Az f) σ H Q->Aiw t σ H Q:=by
 rintro σ H Q ⟨α,δ,L,A,S,b,L1,e,q⟩
 obtain ⟨⟨u,L2⟩,e1,e⟩:=aB.mp e
 refine ht σ H _ ⟨α,δ,L,A,S,u,L2,e1,fun x H1 α1 g1 A1 r1=>?_⟩
 cases u with
 | bl k=>simp at e;obtain ⟨rfl,rfl⟩:=e;exact ⟨k,r1,q H1 α1 g1 A1⟩
 | _=>simp at e
theorem Bo{op:CmpOp}{r:R2}{sem:S2}{fa fb:FE}(ho:OpR X (dC op) r)(h:Dh X.K r sem)(ha:PEF X a fa)(hb:PEF X b fb)(hm:behindInMarks op b=false):PTF X (.Compare a [op] [b] pos) (Az (f2 sem fa fb)):=PT.imp (Agv ho ha hb hm) (Ain (Yf h))
end
section
variable {X:Cx}{a b c e:Expr}{pos:Pos}{rest:List Expr}
noncomputable def Pp(f g:FT):FT:=fun δ L=>(f δ L).bind fun p=>if p.1=true then g δ p.2 else some (false,p.2)
noncomputable def fOr(f g:FT):FT:=fun δ L=>(f δ L).bind fun p=>if p.1=true then some (true,p.2) else g δ p.2
noncomputable def Xq(f:FT):FT:=fun δ L=>(f δ L).map fun p=>(!p.1,p.2)
noncomputable def Th(f g:FE):FE:=fun δ L=>(f δ L).bind fun p=>match p.1 with | .bl k=>if k=true then g δ p.2 else some (.bl false,p.2) | _=>none
noncomputable def Anu(f g:FE):FE:=fun δ L=>(f δ L).bind fun p=>match p.1 with | .bl k=>if k=true then some (.bl true,p.2) else g δ p.2 | _=>none
noncomputable def Amg(f:FE):FE:=fun δ L=>(f δ L).bind fun p=>match p.1 with | .bl k=>some (.bl (!k),p.2) | _=>none
noncomputable def fIf(c:FT)(f g:FE):FE:=fun δ L=>(c δ L).bind fun p=>if p.1=true then f δ p.2 else g δ p.2
theorem Nr{f:FT}(ha:PTF X a f):PWF X (.BoolOp .And [a] pos) f:=Ahg ha
theorem Aie{f:FT}(ha:PTF X a f):PWF X (.BoolOp .Or [a] pos) f:=Aj9 ha
theorem P1{f g:FT}(ha:PTF X a f)(hb:PWF X (.BoolOp .And (b::rest) pos) g):PWF X (.BoolOp .And (a::b::rest) pos) (Pp f g):=by
 refine PW.imp (Aj7 ha hb) ?_
 rintro σ H Q ⟨α,δ,L,A,S,z,L3,e,q⟩
 obtain ⟨⟨u,L1⟩,e1,e⟩:=aB.mp e
 refine ⟨α,δ,L,A,S,u,L1,e1,fun H1 α1 g1 A1=>?_⟩
 cases u with
 | true=>exact Abx ⟨α1,δ,L1,A1,S.mono g1,z,L3,e,fun H2 α2 g2 A2=>q H2 α2 (g1.trans g2) A2⟩
 | false=>cases e;exact Abe (q H1 α1 g1 A1)
theorem Akg{f g:FT}(ha:PTF X a f)(hb:PWF X (.BoolOp .Or (b::rest) pos) g):PWF X (.BoolOp .Or (a::b::rest) pos) (fOr f g):=by
 refine PW.imp (Amy ha hb) ?_
 rintro σ H Q ⟨α,δ,L,A,S,z,L3,e,q⟩
 obtain ⟨⟨u,L1⟩,e1,e⟩:=aB.mp e
 refine ⟨α,δ,L,A,S,u,L1,e1,fun H1 α1 g1 A1=>?_⟩
 cases u with
 | false=>exact Abe ⟨α1,δ,L1,A1,S.mono g1,z,L3,e,fun H2 α2 g2 A2=>q H2 α2 (g1.trans g2) A2⟩
 | true=>cases e;exact Abx (q H1 α1 g1 A1)
theorem PWF.pt{f:FT}(h:PWF X e f):PTF X e f:=PW.pt h
theorem U6{f:FT}(ha:PTF X a f):PTF X (.UnaryOp .Not a pos) (Xq f):=by
 refine PT.imp (Ajm ha) ?_
 rintro σ H Q ⟨α,δ,L,A,S,z,L3,e,q⟩
 obtain ⟨⟨u,L1⟩,e1,e⟩:=aM.mp e
 cases e
 exact ⟨α,δ,L,A,S,u,L1,e1,fun H1 α1 g1 A1=>q H1 α1 g1 A1⟩
theorem Ww{op}{f:FE}(h:PEF X a f):PEF X (.BoolOp op [a] pos) f:=Ajx h
theorem Xi{f g:FE}(ha:PEF X a f)(hb:PEF X (.BoolOp .And (b::rest) pos) g):PEF X (.BoolOp .And (a::b::rest) pos) (Th f g):=by
 refine PE.imp (Ai8 ha hb) ?_
 rintro σ H Q ⟨α,δ,L,A,S,z,L3,e,q⟩
 obtain ⟨⟨u,L1⟩,e1,e⟩:=aB.mp e
 refine ⟨α,δ,L,A,S,u,L1,e1,fun v H1 α1 g1 A1 r1=>?_⟩
 cases u with
 | bl k=>
  cases k with
  | true=>exact ⟨true,r1,Abx ⟨α1,δ,L1,A1,S.mono g1,z,L3,e,fun v H2 α2 g2 A2 r=>q v H2 α2 (g1.trans g2) A2 r⟩⟩
  | false=>cases e;exact ⟨false,r1,Abe (q _ H1 α1 g1 A1 rfl)⟩
 | _=>simp at e
noncomputable def Ag:FA:=fun _ L=>some ([],L)
noncomputable def Ac(f:FE)(g:FA):FA:=fun δ L=>(f δ L).bind fun p=>(g δ p.2).map fun q=>(p.1::q.1,q.2)
theorem Af:PAF X [] Ag:=by
 refine PA.imp Ake ?_
 rintro σ H Q ⟨α,δ,L,A,S,z,L3,e,q⟩
 cases e
 exact q [] H α (.refl _ _) A .nil
theorem Ad{es:List Expr}{f:FE}{g:FA}(ha:PEF X e f)(hr:PAF X es g)(hs:bA (e::es) X.env=(false,eval e X.env)::bA es X.env:=by rfl):PAF X (e::es) (Ac f g):=by
 refine PA.imp (Ag9 ha hr hs) ?_
 rintro σ H Q ⟨α,δ,L,A,S,z,L3,e,q⟩
 obtain ⟨⟨u,L1⟩,e1,e⟩:=aB.mp e
 obtain ⟨⟨us,L2⟩,e2,e⟩:=aM.mp e
 cases e
 exact ⟨α,δ,L,A,S,u,L1,e1,fun x H1 α1 g1 A1 r1=>⟨α1,δ,L1,A1,S.mono g1,us,L2,e2,fun xs H2 α2 g2 A2 r2=>q (x::xs) H2 α2 (g1.trans g2) A2 (.cons (r1.mono g2) r2)⟩⟩
noncomputable def Eb(n:Nat):Bool:=decide (n<=sizeLine)
noncomputable def C7(g:FA):FE:=fun δ L=>(g δ L).bind fun p=>if Eb p.1.length=true then some (.tup p.1,p.2) else none
noncomputable def E5(g:FA):FE:=fun δ L=>(g δ L).bind fun p=>if Eb p.1.length=true then some (.ref p.2.length,p.2++[.lst p.1]) else none
theorem Ed{n:Nat}(h:Eb n=true):n<=sizeLine:=of_decide_eq_true h
theorem Abs.tup{K:aC}{H:Hp}{α:List Addr}{L:UH}{p:Addr}{us:List U}{xs:List V}(A:Abs K H α L)(r:RepL K H α us xs)(hp:H p=none) :
  Gr H α (upd H p (.tup xs)) α/\Abs K (upd H p (.tup xs)) α L/\RepU K (upd H p (.tup xs)) α (.tup us) (.ref p):=by
 have g:Gr H α (upd H p (.tup xs)) α:=⟨⟨[],by simp⟩,.new hp _⟩
 refine ⟨g,⟨A.len,A.inj,fun i a o e1 e2=>(A.rep i a o e1 e2).other g (.inr fun u q=>by rw[A9 (Br q hp)];exact q)⟩,?_⟩
 unfold RepU
 exact ⟨p,xs,rfl,.of upd_same,r.mono g⟩
theorem Abs.lst{K:aC}{H:Hp}{α:List Addr}{L:UH}{p:Addr}{us:List U}{xs:List V}(A:Abs K H α L)(r:RepL K H α us xs)(hp:H p=none) :
  Gr H α (upd H p (.lst xs)) (α ++ [p])/\Abs K (upd H p (.lst xs)) (α ++ [p]) (L++[.lst us])/\RepU K (upd H p (.lst xs)) (α ++ [p]) (.ref L.length) (.ref p):=by
 have g:Gr H α (upd H p (.lst xs)) (α ++ [p]):=⟨⟨[p],rfl⟩,.new hp _⟩
 obtain ⟨A',_⟩:=A.new (o:=.lst xs) (u:=.lst us) hp ⟨xs,upd_same,r.mono g⟩
 refine ⟨g,A',?_⟩
 unfold RepU
 exact ⟨p,by rw[<- A.len];simp,rfl⟩
theorem Dc{es:List Expr}{g:FA}{x1}(h:PAF X es g):PEF X (.Tuple es x1 pos) (C7 g):=by
 refine PE.imp (Ajl h) ?_
 rintro σ H Q ⟨α,δ,L,A,S,z,L3,e,q⟩
 obtain ⟨⟨us,L1⟩,e1,e⟩:=aB.mp e
 refine ⟨α,δ,L,A,S,us,L1,e1,fun xs H1 α1 g1 A1 r1=>?_⟩
 simp only at e
 split at e
 ·rename_i hs
  cases e
  refine ⟨by rw[<- r1.length];exact Ed hs,fun p hp=>?_⟩
  obtain ⟨g2,A2,r2⟩:=A1.tup r1 hp
  exact q _ _ α1 (g1.trans g2) A2 r2
 ·cases e
theorem Hu{es:List Expr}{g:FA}(h:PAF X es g):PEF X (.List es pos) (E5 g):=by
 refine PE.imp (Alc h) ?_
 rintro σ H Q ⟨α,δ,L,A,S,z,L3,e,q⟩
 obtain ⟨⟨us,L1⟩,e1,e⟩:=aB.mp e
 refine ⟨α,δ,L,A,S,us,L1,e1,fun xs H1 α1 g1 A1 r1=>?_⟩
 simp only at e
 split at e
 ·rename_i hs
  cases e
  refine ⟨by rw[<- r1.length];exact Ed hs,fun p hp=>?_⟩
  obtain ⟨g2,A2,r2⟩:=A1.lst r1 hp
  exact q _ _ _ (g1.trans g2) A2 r2
 ·cases e
abbrev SC:=List U->UH->Option (U×UH)
noncomputable def Ow(K:aC)(r:List V->Hp->VK->Prop)(sem:SC):Prop:=∀ (H:Hp) (α:List Addr) (L:UH) (us:List U) (xs:List V) (z:U) (L':UH) (Q:VK),Abs K H α L->RepL K H α us xs->sem us L=some (z,L') ->
 (∀ v H' α',Gr H α H' α'->Abs K H' α' L'->RepU K H' α' z v->Q v H')->r xs H Q
noncomputable def A0(sem:SC)(g:FA):FE:=fun δ L=>(g δ L).bind fun p=>sem p.1 p.2
theorem Aix{K:aC}{r:List V->Hp->VK->Prop}{sem:SC}{g:FA}(h:Ow K r sem):∀ σ H Q,lE K (A0 sem g) σ H Q->tCB r (lA K g) σ H Q:=by
 rintro σ H Q ⟨α,δ,L,A,S,z,L3,e,q⟩
 obtain ⟨⟨us,L1⟩,e1,e⟩:=aB.mp e
 exact ⟨α,δ,L,A,S,us,L1,e1,fun xs H1 α1 g1 A1 r1=>h H1 α1 L1 us xs z L3 Q A1 r1 e fun v H2 α2 g2 A2 r2=>q v H2 α2 (g1.trans g2) A2 r2⟩
variable {x:Str}{p:Pos}{es:List Expr}{id T:String}{r:List V->Hp->VK->Prop}{sem:SC}{g:FA}
theorem B9(hc:CallR X (.builtin id) r)(h:Ow X.K r sem)(hg:Gl X x)(hm:X.mg x=none)(hv:eT x=some (.builtin id))(ha:PAF X (e::es) g)(hn:x ≠ "__name__" := by decide)(hdb:(x == ("__debug__" : Str))=false:=by decide)
  (he:bA (e::es) X.env=(false,eval e X.env)::bA es X.env:=by rfl) (hpl:(backTo pos (bA es X.env)).any (·.1)=false:=by rfl) :
  PEF X (.Call (.Name x p) (e::es) [] pos) (A0 sem g):=PE.imp (Afl hc hg hm hv ha hn hdb he hpl) (Aix h)
theorem Ez(hc:CallR X (.type T) r)(h:Ow X.K r sem)(hg:Gl X x)(hm:X.mg x=none)(hv:eT x=some (.type T))(ha:PAF X (e::es) g)(hn:x ≠ "__name__" := by decide)(hdb:(x == ("__debug__" : Str))=false:=by decide)
  (he:bA (e::es) X.env=(false,eval e X.env)::bA es X.env:=by rfl) (hpl:(backTo pos (bA es X.env)).any (·.1)=false:=by rfl) :
  PEF X (.Call (.Name x p) (e::es) [] pos) (A0 sem g):=PE.imp (Ace hc hg hm hv ha hn hdb he hpl) (Aix h)
abbrev SM:=U->List U->UH->Option (U×UH)
noncomputable def Aib(K:aC)(r:V->List V->Hp->VK->Prop)(sem:SM):Prop:=∀ (H:Hp) (α:List Addr) (L:UH) (u:U) (us:List U) (x:V) (xs:List V) (z:U) (L':UH) (Q:VK),Abs K H α L->RepU K H α u x->RepL K H α us xs->sem u us L=some (z,L') ->
 (∀ v H' α',Gr H α H' α'->Abs K H' α' L'->RepU K H' α' z v->Q v H')->r x xs H Q
noncomputable def tyU(T:String)(u:U)(L:UH):Bool:=match u with
 | .str _=>T == "str"
 | .int _=>T == "int"
 | .tup _=>T == "tuple"
 | .ref n=>match L[n]? with
  | some (.lst _)=>T == "list"
  | some (.ro _)=>T == "list"
  | some (.dic _)=>T == "dict"
  | _=>false
 | _=>false
theorem Ajh{K:aC}{H:Hp}{α:List Addr}{L:UH}{u:U}{x:V}(A:Abs K H α L)(r:RepU K H α u x)(h:tyU T u L=true):tyV K T x H:=by
 cases u with
 | str y=>unfold RepU at r;subst r;simpa[tyU,tyV] using h
 | int i=>unfold RepU at r;subst r;simpa[tyU,tyV] using h
 | ref n=>
  unfold RepU at r
  obtain ⟨a,ea,rfl⟩:=r
  unfold tyU at h
  simp only at h
  cases q:L[n]? with
  | none=>rw[q] at h;simp at h
  | some o=>
   have hr:=A.rep n a o ea q
   rw[q] at h
   cases o with
   | lst us=>simp at h;obtain ⟨xs,e,_⟩:=hr;exact .inl ⟨h,xs,.of e⟩
   | ro us=>simp at h;obtain ⟨xs,e,_⟩:=hr;exact .inl ⟨h,xs,e.sq⟩
   | dic kvs=>simp at h;obtain ⟨vs,e,_⟩:=hr;exact .inr (.inr (.inl ⟨h,.inl ⟨vs,e⟩⟩))
   | rod kvs=>simp at h
   | ins C fs=>simp at h
   | exc C fr fs=>simp at h
 | non=>simp[tyU] at h
 | bl b=>simp[tyU] at h
 | tup l=>
  unfold RepU at r
  obtain ⟨a,ys,rfl,sq,_⟩:=r
  have hT:T = "tuple" := by simpa[tyU] using h
  exact .inr (.inl ⟨hT,ys,sq⟩)
noncomputable def Mp(T:String)(sem:SM)(f:FE)(g:FA):FE:=fun δ L=>(f δ L).bind fun p=>if tyU T p.1 p.2=true then (g δ p.2).bind fun q=>sem p.1 q.1 q.2 else none
theorem Amn{K:aC}{r:V->List V->Hp->VK->Prop}{sem:SM}{f:FE}{g:FA}(h:Aib K r sem):∀ σ H Q,lE K (Mp T sem f g) σ H Q->tBM K T r (lE K f) (lA K g) σ H Q:=by
 rintro σ H Q ⟨α,δ,L,A,S,z,L3,e,q⟩
 obtain ⟨⟨u,L1⟩,e1,e⟩:=aB.mp e
 simp only at e
 split at e
 ·rename_i ht
  obtain ⟨⟨us,L2⟩,e2,e⟩:=aB.mp e
  refine ⟨α,δ,L,A,S,u,L1,e1,fun x H1 α1 g1 A1 r1=>⟨Ajh A1 r1 ht,α1,δ,L1,A1,S.mono g1,us,L2,e2,fun xs H2 α2 g2 A2 r2=>?_⟩⟩
  exact h H2 α2 L2 u us x xs z L3 Q A2 (r1.mono g2) r2 e fun v H3 α3 g3 A3 r3=>q v H3 α3 (g1.trans (g2.trans g3)) A3 r3
 ·cases e
section
variable {o e:Expr}{es:List Expr}{f:FE}{g:FA}{name:Str}{apos cpos:Pos}{T id:String}{r:V->List V->Hp->VK->Prop}{sem:SM}
theorem Aem(pa:PlainAttrs T)(slot:Slot T name id)(hty:typeOf (.builtin id)=pure (.type "method_descriptor"))(hm:MtR X id r)(h:Aib X.K r sem)(ho:PEF X o f)(ha:PAF X (e::es) g)
  (hbase:attributeBase o name X.env (eval o X.env)=eval o X.env:=by rfl)
  (hfew:((backTo cpos (bA (e::es) X.env)).all (fun x=>!x.1)&&(backToKw cpos (keywordEach [] X.env)).all (fun x=>x.1.isSome)&&decide ((e::es).length+([]:List hG).length+(if ([]:List hG).isEmpty then 0 else 1) < 30))=true:=by rfl)
  (hline:(apos.endLine == cpos.line)=true:=by rfl) (hst:bA (e::es) X.env=(false,eval e X.env)::bA es X.env:=by rfl) (hpl:(backTo cpos (bA es X.env)).any (·.1)=false:=by rfl) :
  PEF X (.Call (.Attribute o name apos) (e::es) [] cpos) (Mp T sem f g):=
 PE.imp (Anc pa slot hty hm ho ha hbase hfew hline hst hpl) (Amn h)
end
end
abbrev FN:=List U->UH->Option (U×UH)
inductive spF(K:aC)(n:Nat)(f:FN)(vs:List V)(H:Hp)(Q:VK)(E:XK):Prop
 | mk (α:List Addr) (L:UH) (us:List U) (A:Abs K H α L) (r:RepL K H α us vs) (hl:us.length=n) (u:U) (L':UH) (e:f us L=some (u,L')) (q:∀ v H' α',Gr H α H' α'->Abs K H' α' L'->RepU K H' α' u v->Q v H'):spF K n f vs H Q E
section
variable {X:Cx}{a b c e o:Expr}{es:List Expr}{pos p:Pos}{x:Str}{k:Nat}{f:Addr}{fd:bL}{ps:List Str}{F:FN}{g:FA}{fa fb fc:FE}
noncomputable def Ar(n:Nat)(F:FN)(g:FA):FE:=fun δ L=>(g δ L).bind fun p=>if p.1.length=n then F p.1 p.2 else none
theorem Aq{n:Nat}(hF:FnOk X.prog X.w X.K X.mg X.base CX0 k f fd ps (spF X.K n F))(hr:Room k X.A)(hg:Gl X x)(hm:X.mg x=some (.ref f))(hk:aV X.K (.ref f)=true)(hb:Binds X.K fd ps [])
  (ha:PAF X (e::es) g) (hdb:(x == ("__debug__" : Str))=false:=by decide) (he:bA (e::es) X.env=(false,eval e X.env)::bA es X.env:=by rfl) (hpl:(backTo pos (bA es X.env)).any (·.1)=false:=by rfl) :
  PEF X (.Call (.Name x p) (e::es) [] pos) (Ar n F g):=by
 refine PE.imp (Agp hF hr hg hm hk hb .nil Y2 ha hdb he hpl) ?_
 rintro σ H Q ⟨α,δ,L,A,S,z,L3,e,q⟩
 obtain ⟨⟨us,L1⟩,e1,e⟩:=aB.mp e
 simp only at e
 split at e
 ·rename_i hl
  refine ⟨α,δ,L,A,S,us,L1,e1,fun xs H1 α1 g1 A1 r1=>?_⟩
  exact ⟨α1,L1,us,A1,by rw[aX];exact r1,hl,z,L3,e,fun v H2 α2 g2 A2 r2=>q v H2 α2 (g1.trans g2) A2 r2⟩
 ·cases e
theorem Bs{r:R2}{sem:S2}(hr:IxR X r)(h:Dh X.K r sem)(ha:PEF X a fa)(hb:PEF X b fb)(hs:Y5 b):PEF X (.Subscript a b pos) (f2 sem fa fb):=PE.imp (Amk hr ha hb hs) (Yf h)
abbrev FO:=UE->UH->Option (Option Int×UH)
inductive lO(K:aC)(f:FO)(σ:L2.St)(H:Hp)(Q:Option Int->Hp->Prop):Prop
 | mk (α:List Addr) (δ:UE) (L:UH) (A:Abs K H α L) (S:RepS K H α δ σ) (i:Option Int) (L':UH) (e:f δ L=some (i,L')) (q:∀ H' α',Gr H α H' α'->Abs K H' α' L'->Q i H'):lO K f σ H Q
noncomputable def POF(X:Cx)(e:Option Expr)(f:FO):Prop:=PO X e (lO X.K f)
noncomputable def Kv:FO:=fun _ L=>some (none,L)
noncomputable def Q5(f:FE):FO:=fun δ L=>(f δ L).bind fun p=>match p.1 with | .int i=>some (some i,p.2) | _=>none
theorem PO.imp{e:Option Expr}{t t':TO}(h:PO X e t)(hi:∀ σ H Q,t' σ H Q->t σ H Q):PO X e t':=fun pins s σ H Q I q=>h pins s σ H Q I (hi σ H Q q)
theorem Vp:POF X none Kv:=by
 refine PO.imp Agy ?_
 rintro σ H Q ⟨α,δ,L,A,S,z,L3,e,q⟩
 cases e
 exact q H α (.refl _ _) A
theorem Vm(h:PEF X e fa):POF X (some e) (Q5 fa):=by
 refine PO.imp (Ahd h) ?_
 rintro σ H Q ⟨α,δ,L,A,S,z,L3,e,q⟩
 obtain ⟨⟨u,L1⟩,e1,e⟩:=aB.mp e
 refine ⟨α,δ,L,A,S,u,L1,e1,fun x H1 α1 g1 A1 r1=>?_⟩
 cases u with
 | int i=>cases e;exact ⟨i,r1,q H1 α1 g1 A1⟩
 | _=>simp at e
abbrev SS:=U->Option Int->Option Int->UH->Option (U×UH)
noncomputable def Aiu(K:aC)(r:V->Option Int->Option Int->Hp->VK->Prop)(sem:SS):Prop:=∀ (H:Hp) (α:List Addr) (L:UH) (u:U) (x:V) (lo hi:Option Int) (z:U) (L':UH) (Q:VK),Abs K H α L->RepU K H α u x->sem u lo hi L=some (z,L') ->
 (∀ v H' α',Gr H α H' α'->Abs K H' α' L'->RepU K H' α' z v->Q v H')->r x lo hi H Q
noncomputable def fSl(sem:SS)(f:FE)(l h:FO):FE:=fun δ L=>(f δ L).bind fun p=>(l δ p.2).bind fun q=>(h δ q.2).bind fun r=>sem p.1 q.1 r.1 r.2
theorem Ws{r:V->Option Int->Option Int->Hp->VK->Prop}{sem:SS}{lo hi:Option Expr}{fl fh:FO}{p2:Pos}(hr:SlR X r)(h:Aiu X.K r sem)(he:PEF X e fa)(hl:POF X lo fl)(hu:POF X hi fh):PEF X (.Subscript e (.Slice lo hi none p2) pos) (fSl sem fa fl fh):=by
 refine PE.imp (Ael hr he hl hu) ?_
 rintro σ H Q ⟨α,δ,L,A,S,z,L3,e,q⟩
 obtain ⟨⟨u,L1⟩,e1,e⟩:=aB.mp e
 obtain ⟨⟨i,L2⟩,e2,e⟩:=aB.mp e
 obtain ⟨⟨j,L4⟩,e3,e⟩:=aB.mp e
 refine ⟨α,δ,L,A,S,u,L1,e1,fun x H1 α1 g1 A1 r1=>⟨α1,δ,L1,A1,S.mono g1,i,L2,e2,fun H2 α2 g2 A2=>⟨α2,δ,L2,A2,(S.mono g1).mono g2,j,L4,e3,fun H3 α3 g3 A3=>?_⟩⟩⟩
 exact h H3 α3 L4 u x i j z L3 Q A3 ((r1.mono g2).mono g3) e fun v H4 α4 g4 A4 r4=>q v H4 α4 (g1.trans (g2.trans (g3.trans g4))) A4 r4
noncomputable def Ajd(f:FE):FE:=fun δ L=>(f δ L).bind fun p=>match p.1 with | .int i=>some (.int (-i),p.2) | _=>none
theorem Ajk(ha:PEF X a fa):PEF X (.UnaryOp .USub a pos) (Ajd fa):=by
 refine PE.imp (Anb Ajz ha) ?_
 rintro σ H Q ⟨α,δ,L,A,S,z,L3,e,q⟩
 obtain ⟨⟨u,L1⟩,e1,e⟩:=aB.mp e
 refine ⟨α,δ,L,A,S,u,L1,e1,fun x H1 α1 g1 A1 r1=>?_⟩
 cases u with
 | int i=>cases e;exact ⟨i,r1,q _ H1 α1 g1 A1 rfl⟩
 | _=>simp at e
noncomputable def Ls(s1 s2:S2)(fa fb fc:FE):FE:=fun δ L=>(fa δ L).bind fun p=>(fb δ p.2).bind fun q=>(s1 p.1 q.1 q.2).bind fun r=>match r.1 with
 | .bl k=>if k=true then (fc δ r.2).bind fun t=>s2 q.1 t.1 t.2 else some (.bl false,r.2)
 | _=>none
theorem Adq{K:aC}{r r':R2}{s1 s2:S2}(h1:Dh K r s1)(h2:Dh K r' s2):∀ σ H Q,lE K (Ls s1 s2 fa fb fc) σ H Q->Adp r r' (lE K fa) (lE K fb) (lE K fc) σ H Q:=by
 rintro σ H Q ⟨α,δ,L,A,S,z,L3,e,q⟩
 obtain ⟨⟨u,L1⟩,e1,e⟩:=aB.mp e
 obtain ⟨⟨w,L2⟩,e2,e⟩:=aB.mp e
 obtain ⟨⟨t,L4⟩,e3,e⟩:=aB.mp e
 refine ⟨α,δ,L,A,S,u,L1,e1,fun x H1 α1 g1 A1 r1=>⟨α1,δ,L1,A1,S.mono g1,w,L2,e2,fun y H2 α2 g2 A2 r2=>?_⟩⟩
 refine h1 H2 α2 L2 u w x y t L4 _ A2 (r1.mono g2) r2 e3 fun v H3 α3 g3 A3 r3=>?_
 cases t with
 | bl k=>
  refine ⟨k,r3,?_⟩
  cases k with
  | true=>
   obtain ⟨⟨s,L5⟩,e4,e⟩:=aB.mp e
   refine Abx ⟨α3,δ,L4,A3,((S.mono g1).mono g2).mono g3,s,L5,e4,fun y' H4 α4 g4 A4 r4=>?_⟩
   exact h2 H4 α4 L5 w s y y' z L3 Q A4 ((r2.mono g3).mono g4) r4 e fun v H5 α5 g5 A5 r5=>q v H5 α5 (g1.trans (g2.trans (g3.trans (g4.trans g5)))) A5 r5
  | false=>cases e;exact Abe (q _ H3 α3 (g1.trans (g2.trans g3)) A3 rfl)
 | _=>simp at e
theorem We{op op':CmpOp}{r r':R2}{s1 s2:S2}(ho:OpR X (dC op) r)(ho':OpR X (dC op') r')(h1:Dh X.K r s1)(h2:Dh X.K r' s2)(ha:PEF X a fa)(hb:PEF X b fb)(hc:PEF X c fc)(hm:lastMarks [op,op'] [b,c]=false:=by with_unfolding_all rfl) :
  PEF X (.Compare a [op,op'] [b,c] pos) (Ls s1 s2 fa fb fc):=PE.imp (Aey ho ho' ha hb hc hm) (Adq h1 h2)
noncomputable def Acr(u:U)(L:UH):Option Bool:=match u with
 | .non=>some false
 | .bl b=>some b
 | .int i=>some (i != 0)
 | .str y=>if Eb y.length=true then some ((y.length:Int) != 0) else none
 | .tup l=>some (!l.isEmpty)
 | .ref n=>match L[n]? with
  | some (.lst xs)=>some (!xs.isEmpty)
  | some (.ro xs)=>some (!xs.isEmpty)
  | some (.dic kvs)=>some (!kvs.isEmpty)
  | _=>none
theorem Iu{α β:Type}{l:List α}{m:List β}(h:l.length=m.length):l.isEmpty=m.isEmpty:=by
 cases l <;> cases m <;> simp_all
theorem Aik{K:aC}{H:Hp}{α:List Addr}{L:UH}{u:U}{x:V}{k:Bool}(A:Abs K H α L)(r:RepU K H α u x)(h:Acr u L=some k):Ak4 K x H k:=by
 cases u with
 | non=>unfold RepU at r;subst r;exact (bQ h).symm
 | bl b=>unfold RepU at r;subst r;exact (bQ h).symm
 | int i=>unfold RepU at r;subst r;exact (bQ h).symm
 | str y=>
  unfold RepU at r;subst r
  unfold Acr at h
  simp only at h
  split at h
  ·rename_i hs;cases h;exact ⟨Ed hs,rfl⟩
  ·cases h
 | tup l=>
  unfold RepU at r
  obtain ⟨a,xs,rfl,s,r⟩:=r
  exact .inr (.inl ⟨xs,s,by rw[<- Iu r.length];exact (bQ h).symm⟩)
 | ref n=>
  unfold RepU at r
  obtain ⟨a,ea,rfl⟩:=r
  unfold Acr at h
  simp only at h
  cases q:L[n]? with
  | none=>rw[q] at h;simp at h
  | some o=>
   have hr:=A.rep n a o ea q
   rw[q] at h
   cases o with
   | lst us=>obtain ⟨xs,e,r⟩:=hr;exact .inl ⟨xs,.of e,by rw[<- Iu r.length];exact (bQ h).symm⟩
   | ro us=>obtain ⟨xs,e,r⟩:=hr;exact .inl ⟨xs,e.sq,by rw[<- Iu r.length];exact (bQ h).symm⟩
   | dic kvs=>obtain ⟨vs,e,ek,_⟩:=hr;exact .inr (.inr ⟨vs,e,by rw[<- Iu (show kvs.length=vs.length by simpa using congrArg kK ek)];exact (bQ h).symm⟩)
   | rod kvs=>simp at h
   | ins C fs=>simp at h
   | exc C fr fs=>simp at h
noncomputable def Pw(f:FE):FT:=fun δ L=>(f δ L).bind fun p=>(Acr p.1 p.2).map fun k=>(k,p.2)
theorem Im(ha:PEF X a fa)(he:∀ whole,isTrue a X.env whole=(do let v <- whole;standAt a.pos;holding [v] (truthy v)):=by intro _;rfl):PTF X a (Pw fa):=by
 refine PT.imp (Ad8 ha he) ?_
 rintro σ H Q ⟨α,δ,L,A,S,z,L3,e,q⟩
 obtain ⟨⟨u,L1⟩,e1,e⟩:=aB.mp e
 obtain ⟨k,e2,e⟩:=aM.mp e
 cases e
 exact ⟨α,δ,L,A,S,u,_,e1,fun x H1 α1 g1 A1 r1=>⟨_,Aik A1 r1 e2,q H1 α1 g1 A1⟩⟩
end
inductive Fl where
 | nx (δ:UE) | rt (u:U) | bk (δ:UE) | ct (δ:UE)
abbrev FS:=UE->UH->Option (Fl×UH)
noncomputable def Post(K:aC)(D:Ends)(H:Hp)(α:List Addr)(fl:Fl)(L':UH):Prop:=match fl with
 | .nx δ'=>∀ σ' H' α',Gr H α H' α'->Abs K H' α' L'->RepS K H' α' δ' σ'->D.nx σ' H'
 | .bk δ'=>∀ σ' H' α',Gr H α H' α'->Abs K H' α' L'->RepS K H' α' δ' σ'->D.bk σ' H'
 | .ct δ'=>∀ σ' H' α',Gr H α H' α'->Abs K H' α' L'->RepS K H' α' δ' σ'->D.ct σ' H'
 | .rt u=>∀ v H' α',Gr H α H' α'->Abs K H' α' L'->RepU K H' α' u v->D.rt v H'
theorem Post.from{K:aC}{D:Ends}{H H1:Hp}{α α1:List Addr}{fl:Fl}{L':UH}(g:Gr H α H1 α1)(p:Post K D H α fl L'):Post K D H1 α1 fl L':=by
 cases fl with
 | nx δ=>exact fun σ' H' α' g'=>p σ' H' α' (g.trans g')
 | bk δ=>exact fun σ' H' α' g'=>p σ' H' α' (g.trans g')
 | ct δ=>exact fun σ' H' α' g'=>p σ' H' α' (g.trans g')
 | rt u=>exact fun v H' α' g'=>p v H' α' (g.trans g')
inductive lS(K:aC)(f:FS)(D:Ends)(σ:L2.St)(H:Hp):Prop
 | mk (α:List Addr) (δ:UE) (L:UH) (A:Abs K H α L) (S:RepS K H α δ σ) (fl:Fl) (L':UH) (e:f δ L=some (fl,L')) (q:Post K D H α fl L'):lS K f D σ H
noncomputable def PSF(X:Cx)(st:Stmt)(f:FS):Prop:=PS X st (lS X.K f)
noncomputable def Rz(X:Cx)(st:List Stmt)(f:FS):Prop:=PSs X st (lS X.K f)
section
variable {X:Cx}{st:Stmt}{rest:List Stmt}{e:Expr}{pos:Pos}{f g:FS}{fe:FE}
theorem PS.imp{t t':TS}(h:PS X st t)(hi:∀ D σ H,t' D σ H->t D σ H):PS X st t':=fun pins s σ H D I q=>h pins s σ H D I (hi D σ H q)
theorem PSs.imp{sts:List Stmt}{t t':TS}(h:PSs X sts t)(hi:∀ D σ H,t' D σ H->t D σ H):PSs X sts t':=fun pins s σ H D I q=>h pins s σ H D I (hi D σ H q)
noncomputable def Cq:FS:=fun δ L=>some (.nx δ,L)
noncomputable def Bf(f g:FS):FS:=fun δ L=>(f δ L).bind fun p=>match p.1 with | .nx δ'=>g δ' p.2 | fl=>some (fl,p.2)
theorem Co:Rz X [] Cq:=by
 refine PSs.imp Agc ?_
 rintro D σ H ⟨α,δ,L,A,S,fl,L',e,q⟩
 cases e
 exact q σ H α (.refl _ _) A S
theorem Ak(h1:PSF X st f)(h2:Rz X rest g):Rz X (st::rest) (Bf f g):=by
 refine PSs.imp (Ac1 h1 h2) ?_
 rintro D σ H ⟨α,δ,L,A,S,fl,L',e,q⟩
 obtain ⟨⟨fl1,L1⟩,e1,e⟩:=aB.mp e
 refine ⟨α,δ,L,A,S,fl1,L1,e1,?_⟩
 cases fl1 with
 | nx δ1=>exact fun σ1 H1 α1 g1 A1 S1=>⟨α1,δ1,L1,A1,S1,fl,L',e,q.from g1⟩
 | rt u=>cases e;exact q
 | bk δ1=>cases e;exact q
 | ct δ1=>cases e;exact q
theorem Am(h1:PSF X st f):Rz X [st] f:=Aga h1
noncomputable def Ci(f:FE):FS:=fun δ L=>(f δ L).map fun p=>(.rt p.1,p.2)
noncomputable def C3(f:FE):FS:=fun δ L=>(f δ L).map fun p=>(.nx δ,p.2)
noncomputable def Amr:FS:=fun _ L=>some (.rt .non,L)
theorem Au(he:PEF X e fe):PSF X (.Return (some e) pos) (Ci fe):=by
 refine PS.imp (Ajn he) ?_
 rintro D σ H ⟨α,δ,L,A,S,fl,L',e,q⟩
 obtain ⟨⟨u,L1⟩,e1,e⟩:=aM.mp e
 cases e
 exact ⟨α,δ,L,A,S,u,_,e1,fun v H1 α1 g1 A1 r1=>q v H1 α1 g1 A1 r1⟩
theorem De(he:PEF X e fe)(hs:swapsWith e none pos.line X.env=pure false:=by rfl):PSF X (.Expr e pos) (C3 fe):=by
 refine PS.imp (Ahb he hs) ?_
 rintro D σ H ⟨α,δ,L,A,S,fl,L',e,q⟩
 obtain ⟨⟨u,L1⟩,e1,e⟩:=aM.mp e
 cases e
 exact ⟨α,δ,L,A,S,u,_,e1,fun v H1 α1 g1 A1 r1=>q σ H1 α1 g1 A1 (S.mono g1)⟩
noncomputable def Dv(c:FT)(f g:FS):FS:=fun δ L=>(c δ L).bind fun p=>if p.1=true then f δ p.2 else g δ p.2
theorem Cu{c:Expr}{a b:List Stmt}{tc:FT}(hc:PTF X c tc)(ha:Rz X a f)(hb:Rz X b g):PSF X (.If c a b pos) (Dv tc f g):=by
 refine PS.imp (Anh hc ha hb) ?_
 rintro D σ H ⟨α,δ,L,A,S,fl,L',e,q⟩
 obtain ⟨⟨u,L1⟩,e1,e⟩:=aB.mp e
 refine ⟨α,δ,L,A,S,u,L1,e1,fun H1 α1 g1 A1=>?_⟩
 cases u with
 | true=>exact Abx ⟨α1,δ,L1,A1,S.mono g1,fl,L',e,q.from g1⟩
 | false=>exact Abe ⟨α1,δ,L1,A1,S.mono g1,fl,L',e,q.from g1⟩
noncomputable def Lj:FS:=fun _ _=>none
theorem Su:PSF X st Lj:=by
 refine PS.imp Ac7 ?_
 rintro D σ H ⟨α,δ,L,A,S,fl,L',e,q⟩
 cases e
end
abbrev FG:=U->UE->UH->Option (UE×UH)
abbrev FGs:=List U->UE->UH->Option (UE×UH)
inductive lG(K:aC)(f:FG)(v:V)(σ:L2.St)(H:Hp)(Q:L2.St->Hp->Prop):Prop
 | mk (α:List Addr) (δ:UE) (L:UH) (u:U) (A:Abs K H α L) (S:RepS K H α δ σ) (r:RepU K H α u v) (δ':UE) (L':UH) (e:f u δ L=some (δ',L')) (q:∀ σ' H' α',Gr H α H' α'->Abs K H' α' L'->RepS K H' α' δ' σ'->Q σ' H'):lG K f v σ H Q
inductive lGs(K:aC)(f:FGs)(vs:List V)(σ:L2.St)(H:Hp)(Q:L2.St->Hp->Prop):Prop
 | mk (α:List Addr) (δ:UE) (L:UH) (us:List U) (A:Abs K H α L) (S:RepS K H α δ σ) (r:RepL K H α us vs) (δ':UE) (L':UH) (e:f us δ L=some (δ',L')) (q:∀ σ' H' α',Gr H α H' α'->Abs K H' α' L'->RepS K H' α' δ' σ'->Q σ' H'):lGs K f vs σ H Q
noncomputable def PGF(X:Cx)(e:Expr)(f:FG):Prop:=PG X e (lG X.K f)
noncomputable def Afc(X:Cx)(es:List Expr)(f:FGs):Prop:=PGs X es (lGs X.K f)
section
variable {X:Cx}{e:Expr}{es:List Expr}{pos:Pos}
theorem PG.imp{t t':TG}(h:PG X e t)(hi:∀ v σ H Q,t' v σ H Q->t v σ H Q):PG X e t':=fun pins s σ H v u Q I r q=>h pins s σ H v u Q I r (hi v σ H Q q)
theorem PGs.imp{t t':TGs}(h:PGs X es t)(hi:∀ v σ H Q,t' v σ H Q->t v σ H Q):PGs X es t':=fun pins s σ H v u Q I r q=>h pins s σ H v u Q I r (hi v σ H Q q)
noncomputable def gN(i:Nat):FG:=fun u δ L=>some (δ.set i (some u),L)
theorem Ap{i:Nat}{x:Str}(hN:X.N.Nodup)(hi:X.N[i]? = some x:=by rfl)(hx:Loc X.env.scope x:=by first | exact pV rfl | exact pG rfl)(hf:X.fn x=true\/X.env.scope.names.lookup x=some .local:=by first | exact .inl rfl | exact .inr rfl):PGF X (.Name x pos) (gN i):=by
 refine PG.imp (Aax (i:=i) hN hi hx hf) ?_
 rintro v σ H Q ⟨α,δ,L,u,A,S,r,δ',L',e,q⟩
 cases e
 exact q _ H α (.refl _ _) A (S.set i r)
noncomputable def gNil:FGs:=fun us δ L=>match us with | []=>some (δ,L) | _=>none
noncomputable def gCons(f:FG)(g:FGs):FGs:=fun us δ L=>match us with | []=>none | u::r=>(f u δ L).bind fun p=>g r p.1 p.2
theorem Ec:Afc X [] MR.gNil:=by
 refine PGs.imp Ahs ?_
 rintro vs σ H Q ⟨α,δ,L,us,A,S,r,δ',L',e,q⟩
 cases us with
 | nil=>cases e;exact ⟨by unfold RepL at r;exact r,q σ H α (.refl _ _) A S⟩
 | cons u us=>cases e
theorem Av{f:FG}{g:FGs}(h1:PGF X e f)(h2:Afc X es g)(hs:(assignEach (e::es) X.env).map (·.2)=assign e X.env::(assignEach es X.env).map (·.2):=by rfl):Afc X (e::es) (MR.gCons f g):=by
 refine PGs.imp (Afr h1 h2 hs) ?_
 rintro vs σ H Q ⟨α,δ,L,us,A,S,r,δ',L',e,q⟩
 cases us with
 | nil=>cases e
 | cons u us=>
  unfold RepL at r
  obtain ⟨x,xs,rfl,r1,r2⟩:=r
  obtain ⟨⟨δ1,L1⟩,e1,e⟩:=aB.mp e
  refine ⟨x,xs,rfl,α,δ,L,u,A,S,r1,δ1,L1,e1,fun σ1 H1 α1 g1 A1 S1=>?_⟩
  exact ⟨α1,δ1,L1,us,A1,S1,r2.mono g1,δ',L',e,fun σ2 H2 α2 g2 A2 S2=>q σ2 H2 α2 (g1.trans g2) A2 S2⟩
noncomputable def gTup(n:Nat)(g:FGs):FG:=fun u δ L=>match u with | .tup us=>if us.length=n then g us δ L else none | _=>none
theorem Gz{k:Nat}{g:FGs}{n:Nat}(hc:X.calm=true)(h:Afc X es g)(hn:(assignEach es X.env).length=n:=by rfl)(hst:(assignEach es X.env).findIdx? (·.1)=none:=by rfl):PGF X (.Tuple es k pos) (MR.gTup n g):=by
 refine PG.imp (Ak1 hc h hn hst) ?_
 rintro v σ H Q ⟨α,δ,L,u,A,S,r,δ',L',e,q⟩
 cases u with
 | tup us=>
  unfold RepU at r
  obtain ⟨a,xs,rfl,s,r⟩:=r
  unfold MR.gTup at e
  simp only at e
  split at e
  ·rename_i hl
   exact ⟨a,xs,rfl,s,by rw[<- r.length];exact hl,α,δ,L,us,A,S,r,δ',L',e,q⟩
  ·cases e
 | _=>simp[MR.gTup] at e
noncomputable def Bq(fe:FE)(g:FG):FS:=fun δ L=>(fe δ L).bind fun p=>(g p.1 δ p.2).map fun q=>(.nx q.1,q.2)
theorem P7{tg:Expr}{fe:FE}{g:FG}(he:PEF X e fe)(hg:PGF X tg g)(hs:swapsWithSole [tg] e pos.line X.env=pure false:=by rfl)(hw:swappedStores [tg] e X.env=pure none:=by rfl)(h1:(assignEach [tg] X.env).map (·.2)=[assign tg X.env]:=by rfl) :
  PSF X (.Assign [tg] e pos) (Bq fe g):=by
 refine PS.imp (Aj8 he hg hs hw h1) ?_
 rintro D σ H ⟨α,δ,L,A,S,fl,L',e,q⟩
 obtain ⟨⟨u,L1⟩,e1,e⟩:=aB.mp e
 obtain ⟨⟨δ2,L2⟩,e2,e⟩:=aM.mp e
 cases e
 exact ⟨α,δ,L,A,S,u,L1,e1,fun v H1 α1 g1 A1 r1=>⟨α1,δ,L1,u,A1,S.mono g1,r1,δ2,_,e2,fun σ2 H2 α2 g2 A2 S2=>q σ2 H2 α2 (g1.trans g2) A2 S2⟩⟩
theorem Bg{i:Nat}{x:Str}{fe:FE}{pos':Pos}(hN:X.N.Nodup)(he:PEF X e fe)(hi:X.N[i]? = some x:=by rfl)(hx:Loc X.env.scope x:=by first | exact pV rfl | exact pG rfl)
  (hs:swapsWith e (some (.Name x pos')) pos.line X.env=pure false:=by rfl) (hf:X.fn x=true\/X.env.scope.names.lookup x=some .local:=by first | exact .inl rfl | exact .inr rfl) :
  PSF X (.Assign [.Name x pos'] e pos) (Bq fe (gN i)):=by
 refine PS.imp (Ald (i:=i) hN hi hx he hs hf) ?_
 rintro D σ H ⟨α,δ,L,A,S,fl,L',e,q⟩
 obtain ⟨⟨u,L1⟩,e1,e⟩:=aB.mp e
 obtain ⟨⟨δ2,L2⟩,e2,e⟩:=aM.mp e
 cases e
 cases e2
 exact ⟨α,δ,L,A,S,u,_,e1,fun v H1 α1 g1 A1 r1=>q _ H1 α1 g1 A1 ((S.mono g1).set i r1)⟩
end
noncomputable def Hb(L:UH)(n:Nat):Option (List U):=match L[n]? with
 | some (.lst us)=>some us
 | _=>none
noncomputable def Ba(L:UH)(n:Nat):Option (List U):=match L[n]? with
 | some (.lst us)=>some us
 | some (.ro us)=>some us
 | _=>none
inductive IU where
 | seq (us:List U) | ref (n:Nat) | enm (n:Nat) | zip2 (n m:Nat) | zipT (us:List U) (m:Nat) | zipL (n:Nat) (ws:List U)
noncomputable def O8:Option U->Option U->Option U
 | some x,some y=>some (.tup [x,y])
 | _,_=>none
noncomputable def IU.at(i:IU)(k:Nat)(L:UH):Option (Option U):=match i with
 | .seq us=>some us[k]?
 | .ref n=>match L[n]? with
  | some (.lst us)=>some us[k]?
  | some (.ro us)=>some us[k]?
  | _=>none
 | .enm n=>(Ba L n).map fun us=>(us[k]?).map fun u=>.tup [.int k,u]
 | .zip2 n m=>(Ba L n).bind fun us=>(Ba L m).map fun ws=>O8 us[k]? ws[k]?
 | .zipT us m=>(Ba L m).map fun ws=>O8 us[k]? ws[k]?
 | .zipL n ws=>(Ba L n).map fun us=>O8 us[k]? ws[k]?
noncomputable def IU.size(i:IU)(L:UH):Nat:=match i with
 | .seq us=>us.length
 | .ref n=>match L[n]? with
  | some (.lst us)=>us.length
  | some (.ro us)=>us.length
  | _=>0
 | .enm n=>match Ba L n with
  | some us=>us.length
  | none=>0
 | .zip2 n m=>match Ba L n,Ba L m with
  | some us,some ws=>min us.length ws.length
  | _,_=>0
 | .zipT us m=>match Ba L m with
  | some ws=>min us.length ws.length
  | none=>0
 | .zipL n ws=>match Ba L n with
  | some us=>min us.length ws.length
  | none=>0
abbrev FI:=UE->UH->Option (IU×UH)
noncomputable def Nq(K:aC)(J:It)(i:IU)(H:Hp)(α:List Addr):Prop:=∀ (H2:Hp) (α2:List Addr) (L2:UH),Gr H α H2 α2->Abs K H2 α2 L2->∀ k:Nat,
 (∀ u,i.at k L2=some (some u)->J.go k H2/\∀ x H3,J.yld k H2 x H3->Gr H2 α2 H3 α2/\Abs K H3 α2 L2/\RepU K H3 α2 u x)/\(i.at k L2=some none->J.stop k H2)
inductive lI(K:aC)(f:FI)(σ:L2.St)(H:Hp)(R:It->Hp->Prop):Prop
 | mk (α:List Addr) (δ:UE) (L:UH) (A:Abs K H α L) (S:RepS K H α δ σ) (i:IU) (L':UH) (e:f δ L=some (i,L')) (q:∀ J H' α',Gr H α H' α'->Abs K H' α' L'->Nq K J i H' α'->R J H'):lI K f σ H R
noncomputable def PIF(X:Cx)(tg iter:Expr)(f:FI):Prop:=PI X tg iter (lI X.K f)
section
variable {X:Cx}{tg iter l:Expr}{pos:Pos}{fe:FE}
theorem PI.imp{t t':TI}(h:PI X tg iter t)(hi:∀ σ H R,t' σ H R->t σ H R):PI X tg iter t':=fun pins s σ H R I q=>h pins s σ H R I (hi σ H R q)
theorem PI.or{t t':TI}(h:PI X tg iter t)(h':PI X tg iter t'):PI X tg iter (fun σ H R=>t σ H R\/t' σ H R):=fun pins s σ H R I q=>by
 rcases q with q | q
 ·exact h pins s σ H R I q
 ·exact h' pins s σ H R I q
noncomputable def O9(u:U)(L:UH):Option IU:=match u with
 | .tup us=>some (.seq us)
 | .ref n=>match L[n]? with
  | some (.lst _)=>some (.ref n)
  | some (.ro _)=>some (.ref n)
  | _=>none
 | _=>none
theorem Y4{K:aC}{H:Hp}{α:List Addr}{n:Nat}{a:Addr}(ea:α[n]? = some a):Nq K (Itl K a) (.ref n) H α:=by
 intro H2 α2 L2 g A2 k
 have ea2:=g.at ea
 have go:∀ (us:List U) (xs:List V),SqL K H2 a xs->RepL K H2 α2 us xs->(∀ ys,SqL K H2 a ys->True)->(∀ u,us[k]? = some u->(Itl K a).go k H2/\∀ x H3,(Itl K a).yld k H2 x H3->Gr H2 α2 H3 α2/\Abs K H3 α2 L2/\RepU K H3 α2 u x)/\(us[k]? = none->(Itl K a).stop k H2):=by
  intro us xs sq r _
  refine ⟨fun u eu=>?_,fun eu=>?_⟩
  ·obtain ⟨x,ex,rx⟩:=r.get eu
   refine ⟨⟨xs,x,sq,ex⟩,?_⟩
   rintro y H3 ⟨rfl,hy⟩
   have:=hy xs sq
   rw[ex] at this;cases this
   exact ⟨.refl _ _,A2,rx⟩
  ·exact ⟨xs,sq,by rw[<- r.length];exact cP.mp eu⟩
 unfold IU.at
 simp only
 cases q:L2[n]? with
 | none=>simp
 | some o=>
  have hr:=A2.rep n a o ea2 q
  cases o with
  | lst us=>
   obtain ⟨xs,e,r⟩:=hr
   obtain ⟨h1,h2⟩:=go us xs (.of e) r fun _ _=>trivial
   exact ⟨fun u eu=>h1 u (bQ eu),fun eu=>h2 (bQ eu)⟩
  | ro us=>
   obtain ⟨xs,e,r⟩:=hr
   obtain ⟨h1,h2⟩:=go us xs e.sq r fun _ _=>trivial
   exact ⟨fun u eu=>h1 u (bQ eu),fun eu=>h2 (bQ eu)⟩
  | dic kvs=>simp
  | rod kvs=>simp
  | ins C fs=>simp
  | exc C fr fs=>simp
theorem Aig{K:aC}{H:Hp}{α:List Addr}{us:List U}{xs:List V}{a:Addr}(sq:SqT K H a xs)(r:RepL K H α us xs):Nq K (Itt K a) (.seq us) H α:=by
 intro H2 α2 L2 g A2 k
 have sq2:=g.st.sqT (K:=K) sq
 have r2:=r.mono g
 refine ⟨fun u eu=>?_,fun eu=>?_⟩
 ·obtain ⟨x,ex,rx⟩:=r2.get (bQ eu)
  refine ⟨⟨xs,x,sq2,ex⟩,?_⟩
  rintro y H3 ⟨rfl,hy⟩
  have:=hy xs sq2
  rw[ex] at this;cases this
  exact ⟨.refl _ _,A2,rx⟩
 ·exact ⟨xs,sq2,by rw[<- r2.length];exact cP.mp (bQ eu)⟩
theorem Af8{K:aC}{H:Hp}{α:List Addr}(lo:Int)(n:Nat):Nq K (Itr lo n) (.seq ((dU n).map fun i=>U.int (lo+(i:Nat)))) H α:=by
 intro H2 α2 L2 g A2 k
 refine ⟨fun u eu=>?_,fun eu=>?_⟩
 ·have eu:=bQ eu
  rw[bO] at eu
  by_cases hk:k < n
  ·rw[gG hk] at eu
   simp at eu
   refine ⟨hk,?_⟩
   rintro x H3 ⟨rfl,rfl⟩
   subst eu
   exact ⟨.refl _ _,A2,rfl⟩
  ·rw[dI (by simpa using hk)] at eu
   simp at eu
 ·have:=cP.mp (bQ eu)
  show n<=k
  simpa using this
noncomputable def Bu(f:FE):FI:=fun δ L=>(f δ L).bind fun p=>(O9 p.1 p.2).map fun i=>(i,p.2)
theorem Df(h:PEF X l fe):PIF X tg l (Bu fe):=by
 refine PI.imp (PI.or (Ag5 h) (Aj2 h)) ?_
 rintro σ H R ⟨α,δ,L,A,S,i,L3,e,q⟩
 obtain ⟨⟨u,L1⟩,e1,e⟩:=aB.mp e
 obtain ⟨j,e2,e⟩:=aM.mp e
 cases e
 cases u with
 | tup us=>
  cases e2
  refine .inr ⟨α,δ,L,A,S,_,_,e1,fun x H1 α1 g1 A1 r1=>?_⟩
  unfold RepU at r1
  obtain ⟨a,xs,rfl,sq,r⟩:=r1
  exact ⟨a,rfl,⟨xs,sq⟩,q _ H1 α1 g1 A1 (Aig sq r)⟩
 | ref n=>
  refine .inl ⟨α,δ,L,A,S,_,_,e1,fun x H1 α1 g1 A1 r1=>?_⟩
  unfold RepU at r1
  obtain ⟨a,ea,rfl⟩:=r1
  refine ⟨a,rfl,?_⟩
  unfold O9 at e2
  simp only at e2
  cases w:L1[n]? with
  | none=>simp only[w] at e2;cases e2
  | some o=>
   have hr:=A1.rep n a o ea w
   cases o with
   | lst us=>simp only[w] at e2;cases e2;obtain ⟨xs,e,r⟩:=hr;exact ⟨⟨xs,.of e⟩,q _ H1 α1 g1 A1 (Y4 ea)⟩
   | ro us=>simp only[w] at e2;cases e2;obtain ⟨xs,e,r⟩:=hr;exact ⟨⟨xs,e.sq⟩,q _ H1 α1 g1 A1 (Y4 ea)⟩
   | dic kvs=>simp only[w] at e2;cases e2
   | rod kvs=>simp only[w] at e2;cases e2
   | ins C fs=>simp only[w] at e2;cases e2
   | exc C fr fs=>simp only[w] at e2;cases e2
 | _=>cases e2
noncomputable def Cp(lo:Int)(n:Nat):List U:=(dU n).map fun i=>U.int (lo+(i:Nat))
noncomputable def E2(g:FA):FI:=fun δ L=>(g δ L).bind fun p=>match p.1 with
 | [.int j]=>if -(2 ^ 62)<=j/\j < 2 ^ 62 then some (.seq (Cp 0 j.toNat),p.2) else none
 | _=>none
noncomputable def Aip(g:FA):FI:=fun δ L=>(g δ L).bind fun p=>match p.1 with
 | [.int i,.int j]=>if (-(2 ^ 62)<=i/\i < 2 ^ 62)/\-(2 ^ 62)<=j/\j < 2 ^ 62 then some (.seq (Cp i (j - i).toNat),p.2) else none
 | _=>none
theorem RepL.one{K:aC}{H:Hp}{α:List Addr}{u:U}{xs:List V}(h:RepL K H α [u] xs):∃ x,xs=[x]/\RepU K H α u x:=by
 unfold RepL at h
 obtain ⟨x,r,e,h1,h2⟩:=h
 unfold RepL at h2
 subst h2
 exact ⟨x,e,h1⟩
theorem RepL.two{K:aC}{H:Hp}{α:List Addr}{u w:U}{xs:List V}(h:RepL K H α [u,w] xs):∃ x y,xs=[x,y]/\RepU K H α u x/\RepU K H α w y:=by
 unfold RepL at h
 obtain ⟨x,r,e,h1,h2⟩:=h
 obtain ⟨y,e2,h3⟩:=h2.one
 subst e2
 exact ⟨x,y,e,h1,h3⟩
theorem En{a:Expr}{g:FA}{p pos:Pos}(hg:Gl X "range")(hm:X.mg "range" = none)(ha:PAF X [a] g)(hs:bA [a] X.env=[(false,eval a X.env)]:=by rfl):PIF X tg (.Call (.Name "range" p) [a] [] pos) (E2 g):=by
 refine PI.imp (Acp hg hm ha hs) ?_
 rintro σ H R ⟨α,δ,L,A,S,i,L3,e,q⟩
 obtain ⟨⟨us,L1⟩,e1,e⟩:=aB.mp e
 refine ⟨α,δ,L,A,S,us,L1,e1,fun xs H1 α1 g1 A1 r1=>?_⟩
 simp only at e
 split at e
 ·rename_i _ j
  split at e
  ·rename_i hj
   cases e
   obtain ⟨x,rfl,rx⟩:=r1.one
   unfold RepU at rx
   subst rx
   exact ⟨j,rfl,hj.1,hj.2,q _ H1 α1 g1 A1 (Af8 0 _)⟩
  ·cases e
 ·cases e
noncomputable def N3(i:IU)(g:FG)(body:FS):Nat->Nat->UE->UH->Option (Fl×UH)
 | 0,_,_,_=>none
 | m+1,k,δ,L=>match i.at k L with
  | none=>none
  | some none=>some (.nx δ,L)
  | some (some u)=>(g u δ L).bind fun p=>(body p.1 p.2).bind fun q=>match q.1 with
   | .nx δ'=>N3 i g body m (k+1) δ' q.2
   | .ct δ'=>N3 i g body m (k+1) δ' q.2
   | .bk δ'=>some (.nx δ',q.2)
   | .rt w=>some (.rt w,q.2)
noncomputable def Lf(fi:FI)(g:FG)(body:FS):FS:=fun δ L=>(fi δ L).bind fun p=>N3 p.1 g body (p.1.size p.2+1) 0 δ p.2
inductive FI_(K:aC)(D:Ends)(H1:Hp)(α1:List Addr)(fl:Fl)(L':UH)(go:UE->UH->Option (Fl×UH))(σ2:_root_.L2.St)(H2:Hp):Prop
 | mk (α2:List Addr) (δ2:UE) (L2:UH) (g2:Gr H1 α1 H2 α2) (A2:Abs K H2 α2 L2) (S2:RepS K H2 α2 δ2 σ2) (e2:go δ2 L2=some (fl,L')) (q2:Post K D H2 α2 fl L'):FI_ K D H1 α1 fl L' go σ2 H2
theorem Gy{body:List Stmt}{fi:FI}{g:FG}{fb:FS}(hp:PassesOwn (model X.prog X.w) X.A X.env X.xe)(hc:X.calm=true)(hi:PIF X tg iter fi)(hg:PGF X tg g)(hb:Rz X body fb)
  (hs:∀ x,foldedSetIterable iter X.env x=pure x:=by intro _;rfl):PSF X (.For tg iter body [] pos) (Lf fi g fb):=by
 refine PS.imp (Akf hp hc hi hg hb hs) ?_
 rintro D σ H ⟨α,δ,L,A,S,fl,L',e,q⟩
 obtain ⟨⟨it,L1⟩,e1,e⟩:=aB.mp e
 refine ⟨α,δ,L,A,S,it,L1,e1,fun J H1 α1 g1 A1 hJ=>?_⟩
 refine ⟨fun k m=>FI_ X.K D H1 α1 fl L' (N3 it g fb m k),⟨_,α1,δ,L1,.refl _ _,A1,S.mono g1,e,q.from g1⟩,?_⟩
 rintro k m σ2 H2 ⟨α2,δ2,L2,g2,A2,S2,e2,q2⟩
 cases m with
 | zero=>cases e2
 | succ m=>
  obtain ⟨hgo,hstop⟩:=hJ H2 α2 L2 g2 A2 k
  unfold N3 at e2
  cases hat:it.at k L2 with
  | none=>rw[hat] at e2;cases e2
  | some o=>
   cases o with
   | none=>
    rw[hat] at e2
    cases e2
    exact .inl ⟨hstop hat,q2 σ2 H2 α2 (.refl _ _) A2 S2⟩
   | some u=>
    rw[hat] at e2
    obtain ⟨go,yld⟩:=hgo u hat
    obtain ⟨⟨δ3,L3⟩,e3,e2⟩:=aB.mp e2
    obtain ⟨⟨fl4,L4⟩,e4,e2⟩:=aB.mp e2
    refine .inr ⟨go,FI_ X.K D H1 α1 fl L' (N3 it g fb m (k+1)),fun σ5 H5 h5=>⟨m,fD _,h5⟩,fun x H3 y3=>?_⟩
    obtain ⟨g3,A3,r3⟩:=yld x H3 y3
    refine ⟨α2,δ2,L2,u,A3,S2.mono g3,r3,δ3,L3,e3,fun σ4 H4 α4 g4 A4 S4=>⟨α4,δ3,L3,A4,S4,fl4,L4,e4,?_⟩⟩
    have gA:=g2.trans (g3.trans g4)
    have gB:=g3.trans g4
    cases fl4 with
    | nx δ5=>exact fun σ5 H5 α5 g5 A5 S5=>⟨α5,δ5,L4,gA.trans g5,A5,S5,e2,q2.from (gB.trans g5)⟩
    | ct δ5=>exact fun σ5 H5 α5 g5 A5 S5=>⟨α5,δ5,L4,gA.trans g5,A5,S5,e2,q2.from (gB.trans g5)⟩
    | bk δ5=>cases e2;exact fun σ5 H5 α5 g5 A5 S5=>q2 σ5 H5 α5 (gB.trans g5) A5 S5
    | rt w=>cases e2;exact fun v H5 α5 g5 A5 r5=>q2 v H5 α5 (gB.trans g5) A5 r5
inductive WI_(K:aC)(D:Ends)(fl:Fl)(L':UH)(go:UE->UH->Option (Fl×UH))(σ2:_root_.L2.St)(H2:Hp):Prop
 | mk (α2:List Addr) (δ2:UE) (L2:UH) (A2:Abs K H2 α2 L2) (S2:RepS K H2 α2 δ2 σ2) (e2:go δ2 L2=some (fl,L')) (q2:Post K D H2 α2 fl L'):WI_ K D fl L' go σ2 H2
end
noncomputable def fnU(n m:Nat)(body:FS):FN:=fun us L=>if us.length=m then (body (us.map some++bE (n - us.length) none) L).bind fun p=>match p.1 with
 | .rt u=>some (u,p.2)
 | .nx _=>some (.non,p.2)
 | _=>none
 else none
section
variable {P:bP}{w:cE}{K:aC}{mg:Str->Option aE}{base:Heap}
theorem Fun.okF{x qual:Str}{st:Stmt}{f:Addr}{fd:bL}{N ps:List Str}{k:Nat}{body:FS}(F:Fun K x qual st f fd)(S:FnScope N ps (Aj st))
  (hbody:∀ (cdv:aE) (A:cG) (outer:List eD) (s:aJ) (H:Hp) (E:XK),Room k (A.deeper (envOfC qual (Aj st) s.heap.objs.size f cdv))->Rz (Uc CX0 P w K mg base N qual (Aj st) f cdv A outer s H E).nox (Aw st) body) :
  FnOk P w K mg base CX0 (k+1) f fd ps (spF K ps.length (fnU N.length ps.length body)):=by
 refine F.ok S (fun vs H Q E zz=>by obtain ⟨α,L,us,A,r,hl,_,_,_,_⟩:=zz;rw[<- r.length];exact hl) (fun cdv A outer s H vs Q E hr h=>?_)
 obtain ⟨α,L,us,Ab,r,hl,u,L',e,q⟩:=h
 refine ⟨_,hbody cdv A outer s H E hr,?_⟩
 unfold fnU at e
 rw[if_pos hl] at e
 obtain ⟨⟨fl,L1⟩,e1,e⟩:=aB.mp e
 refine ⟨α,_,L,Ab,RepS.start N r,fl,L1,e1,?_⟩
 cases fl with
 | rt w=>cases e;exact q
 | nx δ=>cases e;exact fun σ' H' α' g' A' S'=>q .non H' α' g' A' rfl
 | bk δ=>cases e
 | ct δ=>cases e
end
section
variable {K:aC}{H:Hp}{α:List Addr}{L:UH}{u:U}{x:V}
theorem Ru{n:Nat}{us:List U}(h:Hb L n=some us):L[n]? = some (.lst us):=by
 unfold Hb at h
 split at h
 ·rename_i e;cases h;exact e
 ·cases h
inductive lstAt_ok_I(α:List Addr)(H:Hp)(K:aC)(n:Nat)(us:List U):Prop
 | mk (a:_) (xs:_) (h0:α[n]? = some a) (h1:H a=some (.lst xs)) (h2:RepL K H α us xs):lstAt_ok_I α H K n us
theorem N6{n:Nat}{us:List U}(A:Abs K H α L)(h:Hb L n=some us):lstAt_ok_I α H K n us:=by
 obtain ⟨a,ea,xs,e,r⟩:=A.addr (Ru h)
 exact ⟨a,xs,ea,e,r⟩
inductive seqAt_ok_I(α:List Addr)(H:Hp)(K:aC)(n:Nat)(us:List U):Prop
 | mk (a:_) (xs:_) (h0:α[n]? = some a) (h1:SqL K H a xs) (h2:RepL K H α us xs):seqAt_ok_I α H K n us
theorem Lh{n:Nat}{us:List U}(A:Abs K H α L)(h:Ba L n=some us):seqAt_ok_I α H K n us:=by
 unfold Ba at h
 split at h
 ·rename_i e;cases h
  obtain ⟨a,ea,xs,e,r⟩:=A.addr e
  exact ⟨a,xs,ea,.of e,r⟩
 ·rename_i e;cases h
  obtain ⟨a,ea,xs,e,r⟩:=A.addr e
  exact ⟨a,xs,ea,e.sq,r⟩
 ·cases h
theorem Abs.setL{n:Nat}{a:Addr}{xs ys:List V}{us ws:List U}(A:Abs K H α L)(h:Hb L n=some us)(ea:α[n]? = some a)(e:H a=some (.lst xs))(r:RepL K H α ws ys) :
  Gr H α (upd H a (.lst ys)) α/\Abs K (upd H a (.lst ys)) α (L.set n (.lst ws)):=by
 have g:Gr H α (upd H a (.lst ys)) α:=⟨⟨[],by simp⟩,.write e (by exact trivial) _⟩
 obtain ⟨A',_⟩:=A.put (o:=.lst ys) (u:=.lst ws) ea (Ru h) rfl rfl e (by exact trivial) ⟨ys,upd_same,r.mono g⟩
 exact ⟨g,A'⟩
theorem RepU.ref_of{n:Nat}(A:Abs K H α L)(h:RepU K H α (.ref n) x):∃ a,α[n]? = some a/\x = .ref a:=by unfold RepU at h;exact h
end
noncomputable def Ax:S2:=fun u w L=>match u,w with
 | .int i,.int j=>some (.int (i+j),L)
 | .str a,.str b=>if Eb (a.length+b.length)=true then some (.str (a++b),L) else none
 | .tup a,.tup b=>if a.isEmpty=false/\Eb (a.length+b.length)=true then some (.tup (a++b),L) else none
 | .ref n,.ref m=>(Hb L n).bind fun a=>(Hb L m).bind fun b=>if Eb (a.length+b.length)=true then some (.ref L.length,L++[.lst (a++b)]) else none
 | _,_=>none
noncomputable def Ae0(K:aC):R2:=fun x y H Q=>rI0 (fun i j=>.int (i+j)) x y H Q\/(∃ i j,x = .str i/\y = .str j/\i.length+j.length<=sizeLine/\Q (.str (i++j)) H)\/Aiq K x y H Q\/Am8 x y H Q
theorem C1{X:Cx}:OpR X (eB .Add) (Ae0 X.K):=Akd.or (Xb.or (Agt.or Aka))
theorem C0{K:aC}:Dh K (Ae0 K) Ax:=by
 intro H α L u w x y z L' Q A ru rw e q
 unfold Ax at e
 split at e
 ·cases e
  unfold RepU at ru rw
  exact .inl ⟨_,_,ru,rw,q _ H α (.refl _ _) A rfl⟩
 ·split at e
  ·rename_i h
   cases e
   unfold RepU at ru rw
   exact .inr (.inl ⟨_,_,ru,rw,Ed h,q _ H α (.refl _ _) A rfl⟩)
  ·cases e
 ·rename_i a b
  split at e
  ·rename_i h
   cases e
   unfold RepU at ru rw
   obtain ⟨p,xs,rfl,s1,r1⟩:=ru
   obtain ⟨p2,ys,rfl,s2,r2⟩:=rw
   have e1:=r1.length
   have e2:=r2.length
   refine .inr (.inr (.inl ⟨p,p2,xs,ys,rfl,rfl,s1,s2,?_,by rw[<- e1,<- e2];exact Ed h.2,fun hy=>?_,fun hy l hl=>?_⟩))
   ·intro hx;subst hx
    cases a with
    | nil=>simp at h
    | cons _ _=>simp at e1
   ·subst hy
    have hb:b=[]:=by
     cases b with
     | nil=>rfl
     | cons _ _=>simp at e2
    subst hb
    refine q _ H α (.refl _ _) A ?_
    unfold RepU
    exact ⟨p,xs,rfl,s1,by rw[aX];exact r1⟩
   ·obtain ⟨g,A',r⟩:=A.tup (r1.append r2) hl
    exact q _ _ α g A' r
  ·cases e
 ·rename_i n m
  obtain ⟨a,ha,e⟩:=aB.mp e
  obtain ⟨b,hb,e⟩:=aB.mp e
  split at e
  ·rename_i h
   cases e
   obtain ⟨p,xs,e1,h1,r1⟩:=N6 A ha
   obtain ⟨p2,ys,e2,h2,r2⟩:=N6 A hb
   obtain ⟨p',e1',rfl⟩:=ru.ref_of A
   obtain ⟨p2',e2',rfl⟩:=rw.ref_of A
   rw[e1] at e1';cases e1'
   rw[e2] at e2';cases e2'
   refine .inr (.inr (.inr ⟨p,p2,xs,ys,rfl,rfl,h1,h2,by rw[<- r1.length,<- r2.length];exact Ed h,fun l hl=>?_⟩))
   obtain ⟨g,A',r⟩:=A.lst (r1.append r2) hl
   exact q _ _ _ g A' r
  ·cases e
 ·cases e
noncomputable def Acx(C:Int->Int->Bool)(g:Int->Int->U):S2:=fun u w L=>match u,w with
 | .int i,.int j=>if C i j=true then some (g i j,L) else none
 | _,_=>none
theorem Aej{K:aC}{C:Int->Int->Prop}{Cb:Int->Int->Bool}{g:Int->Int->V}{g':Int->Int->U}(hC:∀ i j,Cb i j=true->C i j)(hg:∀ i j H α,RepU K H α (g' i j) (g i j)):Dh K (rI C g) (Acx Cb g'):=by
 intro H α L u w x y z L' Q A ru rw e q
 unfold Acx at e
 split at e
 ·split at e
  ·rename_i h
   cases e
   unfold RepU at ru rw
   exact ⟨_,_,ru,rw,hC _ _ h,q _ H α (.refl _ _) A (hg _ _ _ _)⟩
  ·cases e
 ·cases e
noncomputable def Qy(g:Int->Int->U):S2:=fun u w L=>match u,w with
 | .int i,.int j=>some (g i j,L)
 | _,_=>none
theorem Qc{K:aC}{g:Int->Int->V}{g':Int->Int->U}(hg:∀ i j H α,RepU K H α (g' i j) (g i j)):Dh K (rI0 g) (Qy g'):=by
 intro H α L u w x y z L' Q A ru rw e q
 unfold Qy at e
 split at e
 ·cases e
  unfold RepU at ru rw
  exact ⟨_,_,ru,rw,q _ H α (.refl _ _) A (hg _ _ _ _)⟩
 ·cases e
noncomputable def E3:S2:=Qy fun i j=>.int (i - j)
theorem Ki{K:aC}:Dh K (rI0 fun i j=>.int (i - j)) E3:=Qc fun _ _ _ _=>rfl
noncomputable def Ip(i j:Int):Bool:=(decide (-(2 ^ 64) < i)&&decide (i < 2 ^ 64)) || (decide (-(2 ^ 64) < j)&&decide (j < 2 ^ 64))
noncomputable def Ji:S2:=fun u w L=>match u,w with
 | .int i,.int j=>if Ip i j=true then some (.int (i * j),L) else none
 | .str a,.int j=>if a.length<=1000/\-1000<=j/\j<=1000 then some (.str (pW a j),L) else none
 | .ref n,.int k=>(Hb L n).bind fun a=>if -1000000<=k/\k<=1000000/\Eb (a.length * k.toNat)=true then some (.ref L.length,L++[.lst (bE k.toNat a).flatten]) else none
 | _,_=>none
noncomputable def Aiz:R2:=fun x y H Q=>rI CMul (fun i j=>.int (i * j)) x y H Q\/(∃ a j,x = .str a/\y = .int j/\MulOk a j/\Q (.str (pW a j)) H)\/Amb x y H Q
theorem Xy{X:Cx}:OpR X (eB .Mult) (fun x y H Q=>∃ a j,x = .str a/\y = .int j/\MulOk a j/\Q (.str (pW a j)) H):=by
 intro pins s σ H x y v u Q I rx ry h
 obtain ⟨a,j,rfl,rfl,hok,q⟩:=h
 obtain ⟨t,rfl⟩:=rx
 obtain ⟨t',rfl⟩:=ry
 exact SB.mul hok fun t' k=>⟨.str (pW a j),H,I.tok _,⟨_,rfl⟩,q⟩
theorem Km{X:Cx}:OpR X (eB .Mult) Aiz:=Aja.or (Xy.or Ajo)
theorem RepL.flat{K:aC}{H:Hp}{α:List Addr}{us:List U}{xs:List V}(h:RepL K H α us xs):∀ k:Nat,RepL K H α (bE k us).flatten (bE k xs).flatten
 | 0=>.nil
 | k+1=>by rw[dY,dY,eW,eW];exact h.append (RepL.flat h k)
theorem Kg{K:aC}:Dh K Aiz Ji:=by
 intro H α L u w x y z L' Q A ru rw e q
 unfold Ji at e
 split at e
 ·rename_i i j
  split at e
  ·rename_i h
   cases e
   unfold RepU at ru rw
   refine .inl ⟨_,_,ru,rw,?_,q _ H α (.refl _ _) A rfl⟩
   simp only[Ip,iZ,cQ,decide_eq_true_eq] at h
   exact h
  ·cases e
 ·rename_i a j
  split at e
  ·rename_i h
   cases e
   unfold RepU at ru rw
   exact .inr (.inl ⟨_,_,ru,rw,mulOk_of 1000 1000 h.1 (by omega) (by omega) (by decide) (by decide),q _ H α (.refl _ _) A rfl⟩)
  ·cases e
 ·rename_i n k
  obtain ⟨a,ha,e⟩:=aB.mp e
  split at e
  ·rename_i h
   cases e
   obtain ⟨p,xs,e1,h1,r1⟩:=N6 A ha
   obtain ⟨p',e1',rfl⟩:=ru.ref_of A
   rw[e1] at e1';cases e1'
   unfold RepU at rw
   refine .inr (.inr ⟨p,k,xs,rfl,rw,h1,by omega,by omega,by rw[<- r1.length];exact Ed h.2.2,fun l hl=>?_⟩)
   obtain ⟨g,A',r⟩:=A.lst (r1.flat k.toNat) hl
   exact q _ _ _ g A' r
  ·cases e
 ·cases e
noncomputable def Adl(i j:Int):Prop:=0 < j/\j < 1152921504606846976
theorem Vh{X:Cx}:OpR X (eB .FloorDiv) (rI Adl fun i j=>.int (i / j)):=opI fun i j _ _ _ _ _ hc q=>by
 have h1:(0:Int) < j:=hc.1
 have h2:j < 1152921504606846976:=hc.2
 refine floordiv_int (by omega) (by rw[Int.fdiv_eq_ediv_of_nonneg i (by omega)];exact q) (.inl (PyProof.noPylong_of_log2 ?_))
 have h3:j.natAbs.log2 < 60:=(Nat.log2_lt (by omega)).mpr (by omega)
 omega
noncomputable def Sk(i j:Int):Bool:=decide (0 < j)&&decide (j < 1152921504606846976)
noncomputable def Uw:S2:=Acx Sk fun i j=>.int (i / j)
theorem Yo{K:aC}:Dh K (rI Adl fun i j=>.int (i / j)) Uw:=Aej (fun i j h=>by simpa[Sk,Adl] using h) fun _ _ _ _=>rfl
noncomputable def Ja:S2:=Acx (fun _ j=>decide (0 < j)) fun i j=>.int (i % j)
theorem Ii{K:aC}:Dh K (rI (fun _ j=>0 < j) fun i j=>.int (i % j)) Ja:=Aej (fun i j h=>by simpa using h) fun _ _ _ _=>rfl
noncomputable def Ro(i j:Int):Bool:=decide (0<=j)&&decide (j<=1000000)&&decide (i.natAbs < 2 ^ 64)
noncomputable def Fj:S2:=Acx Ro fun i j=>.int (i ^ j.toNat)
theorem Kq{K:aC}:Dh K (rI Amf fun i j=>.int (i ^ j.toNat)) Fj:=Aej (fun i j h=>by simp[Ro] at h;exact ⟨h.1.1,h.1.2,h.2⟩) fun _ _ _ _=>rfl
noncomputable def Ka:S2:=Qy fun i j=>.bl (decide (i<=j))
noncomputable def Adc:S2:=Qy fun i j=>.bl (decide (j < i))
noncomputable def Aet:S2:=Qy fun i j=>.bl (decide (j<=i))
noncomputable def Q9:S2:=Qy fun i j=>.bl (decide (i < j))
theorem Qw{K:aC}:Dh K (rI0 fun i j=>.bl (decide (i<=j))) Ka:=Qc fun _ _ _ _=>rfl
theorem Ajw{K:aC}:Dh K (rI0 fun i j=>.bl (decide (j < i))) Adc:=Qc fun _ _ _ _=>rfl
theorem Ajt{K:aC}:Dh K (rI0 fun i j=>.bl (decide (j<=i))) Aet:=Qc fun _ _ _ _=>rfl
theorem Afn{K:aC}:Dh K (rI0 fun i j=>.bl (decide (i < j))) Q9:=Qc fun _ _ _ _=>rfl
noncomputable def mapO{β γ:Type}(f:β->Option γ):List β->Option (List γ)
 | []=>some []
 | u::r=>(f u).bind fun d=>(mapO f r).map fun ds=>d::ds
noncomputable def toP(L:UH):Nat->U->Option pH
 | 0,_=>none
 | _+1,.non=>some .none
 | _+1,.bl b=>some (.bool b)
 | _+1,.int i=>some (.int i)
 | _+1,.str x=>some (.str x)
 | n+1,.tup l=>(mapO (toP L n) l).map .tuple
 | n+1,.ref k=>(Ba L k).bind fun l=>(mapO (toP L n) l).map .list
section
variable {X:Cx}{pins:List (Addr×Obj)}{σ:L2.St}{H:Hp}{s:aJ}{α:List Addr}{L:UH}
theorem Tv{n:Nat}(ih:∀ (u:U) (x:V) (v:aE) (d:pH),RepU X.K H α u x->RelV x v->toP L n u=some d->∃ as,Reads s.heap v d as):∀ (l:List U) (xs:List V) (vs:List aE) (ds:List pH),RepL X.K H α l xs->Vals xs vs->mapO (toP L n) l=some ds->∃ as,ReadsAll s.heap vs ds as
 | [],xs,vs,ds,r,hv,e=>by
  unfold RepL at r;subst r;cases hv;cases e;exact ⟨_,.nil⟩
 | u::l,xs,vs,ds,r,hv,e=>by
  unfold RepL at r
  obtain ⟨x,xr,rfl,r1,r2⟩:=r
  cases hv with
  | cons h1 h2=>
   obtain ⟨d,e1,e⟩:=aB.mp e
   obtain ⟨dr,e2,e⟩:=aM.mp e
   subst e
   obtain ⟨as,q1⟩:=ih u x _ d r1 h1 e1
   obtain ⟨bs,q2⟩:=Tv ih l xr _ dr r2 h2 e2
   exact ⟨_,.cons q1 q2⟩
theorem Ov(I:Inv X pins σ H s)(A:Abs X.K H α L):∀ (n:Nat) (u:U) (x:V) (v:aE) (d:pH),RepU X.K H α u x->RelV x v->toP L n u=some d->∃ as,Reads s.heap v d as
 | 0,_,_,_,_,_,_,e=>by cases e
 | n+1,u,x,v,d,r,hv,e=>by
  cases u with
  | non=>unfold RepU at r;subst r;cases hv;cases e;exact ⟨_,.none⟩
  | bl b=>unfold RepU at r;subst r;cases hv;cases e;exact ⟨_,.bool b⟩
  | int i=>unfold RepU at r;subst r;obtain ⟨t,rfl⟩:=hv;cases e;exact ⟨_,.int i t⟩
  | str y=>unfold RepU at r;subst r;obtain ⟨t,rfl⟩:=hv;cases e;exact ⟨_,.str y t⟩
  | tup l=>
   unfold RepU at r
   obtain ⟨a,xs,rfl,sq,r⟩:=r
   cases hv
   unfold toP at e
   obtain ⟨ds,e1,e⟩:=aM.mp e
   subst e
   obtain ⟨its,hv,⟨o,h1,h2,m,h3⟩,_⟩:=I.tuple sq
   obtain ⟨as,q⟩:=Tv (Ov I A n) l xs its ds r hv e1
   exact ⟨_,.tuple h1 h2 h3 (by simpa using q)⟩
  | ref k=>
   unfold RepU at r
   obtain ⟨a,ea,rfl⟩:=r
   cases hv
   unfold toP at e
   obtain ⟨l,hl,e⟩:=aB.mp e
   obtain ⟨ds,e1,e⟩:=aM.mp e
   subst e
   obtain ⟨a',xs,ea',sq,r⟩:=Lh A hl
   rw[ea] at ea';cases ea'
   obtain ⟨its,hv,⟨o,m,h1,h2,_,h3⟩,_⟩:=I.list sq
   obtain ⟨as,q⟩:=Tv (Ov I A n) l xs its ds r hv e1
   exact ⟨_,.list h1 h2 h3 (by simpa using q)⟩
end
noncomputable def eqP(u w:U)(L:UH):Option Bool:=(toP L 8 u).bind fun d=>(toP L 8 w).bind fun e=>if iA d=true/\iA e=true then some (cU d e) else none
noncomputable def Ag8(K:aC)(neg:Bool):R2:=fun x y H Q=>∃ α L u w b,Abs K H α L/\RepU K H α u x/\RepU K H α w y/\eqP u w L=some b/\Q (.bl (if neg then !b else b)) H
theorem Dk{X:Cx}(hu:X.A.units+64 < cLine):OpR X (dC .Eq) (Ag8 X.K false):=by
 intro pins s σ H x y v u Q I rx ry h
 obtain ⟨α,L,a,b,k,A,ra,rb,e,q⟩:=h
 obtain ⟨d,e1,e⟩:=aB.mp e
 obtain ⟨d2,e2,e⟩:=aB.mp e
 split at e
 ·rename_i hs
  cases e
  obtain ⟨as,q1⟩:=Ov I A 8 a x v d ra rx e1
  obtain ⟨bs,q2⟩:=Ov I A 8 b y u d2 rb ry e2
  exact eq_dataH q1 q2 hs.1 hs.2 hu ⟨.bl _,H,I,rfl,q⟩
 ·cases e
theorem Xk{X:Cx}(hu:X.A.units+64 < cLine):OpR X (dC .NotEq) (Ag8 X.K true):=by
 intro pins s σ H x y v u Q I rx ry h
 obtain ⟨α,L,a,b,k,A,ra,rb,e,q⟩:=h
 obtain ⟨d,e1,e⟩:=aB.mp e
 obtain ⟨d2,e2,e⟩:=aB.mp e
 split at e
 ·rename_i hs
  cases e
  obtain ⟨as,q1⟩:=Ov I A 8 a x v d ra rx e1
  obtain ⟨bs,q2⟩:=Ov I A 8 b y u d2 rb ry e2
  exact ne_dataH q1 q2 hs.1 hs.2 hu ⟨.bl _,H,I,rfl,q⟩
 ·cases e
noncomputable def B2:S2:=fun u w L=>(eqP u w L).map fun b=>(.bl b,L)
noncomputable def He:S2:=fun u w L=>(eqP u w L).map fun b=>(.bl (!b),L)
theorem Dl{K:aC}:Dh K (Ag8 K false) B2:=by
 intro H α L u w x y z L' Q A ru rw e q
 obtain ⟨b,e1,e⟩:=aM.mp e
 cases e
 exact ⟨α,_,u,w,b,A,ru,rw,e1,q _ H α (.refl _ _) A rfl⟩
theorem X3{K:aC}:Dh K (Ag8 K true) He:=by
 intro H α L u w x y z L' Q A ru rw e q
 obtain ⟨b,e1,e⟩:=aM.mp e
 cases e
 exact ⟨α,_,u,w,b,A,ru,rw,e1,q _ H α (.refl _ _) A rfl⟩
noncomputable def Anj(neg:Bool):S2:=fun u w L=>match u,w with
 | .non,.non=>some (.bl (!neg),L)
 | .bl a,.bl b=>some (.bl (if neg then !(a == b) else a == b),L)
 | .int _,.non=>some (.bl neg,L)
 | .bl _,.non=>some (.bl neg,L)
 | .str _,.non=>some (.bl neg,L)
 | .tup _,.non=>some (.bl neg,L)
 | .ref _,.non=>some (.bl neg,L)
 | _,_=>none
noncomputable def isSome:U->Bool
 | .non=>false
 | _=>true
noncomputable def Nx:S2:=fun u w L=>match w with
 | .non=>some (.bl (isSome u),L)
 | _=>none
theorem Afx{K:aC}:Dh K (fun x y H Q=>y = .non/\Q (.bl (!decide (x = .non))) H) Nx:=by
 intro H α L u w x y z L' Q A ru rw e q
 unfold Nx at e
 split at e
 ·cases e
  unfold RepU at rw
  refine ⟨rw,?_⟩
  have:(!decide (x=V.non))=isSome u:=by
   cases u with
   | non=>unfold RepU at ru;simp[ru,isSome]
   | bl b=>unfold RepU at ru;simp[ru,isSome]
   | int b=>unfold RepU at ru;simp[ru,isSome]
   | str b=>unfold RepU at ru;simp[ru,isSome]
   | tup b=>unfold RepU at ru;obtain ⟨_,_,rfl,_⟩:=ru;simp[isSome]
   | ref b=>unfold RepU at ru;obtain ⟨_,_,rfl⟩:=ru;simp[isSome]
  rw[this]
  exact q _ H α (.refl _ _) A rfl
 ·cases e
theorem RepL.atI{K:aC}{H:Hp}{α:List Addr}{us:List U}{xs:List V}{i:Int}{u:U}(r:RepL K H α us xs)(h:L2.atI us i=some u):∃ x,L2.atI xs i=some x/\RepU K H α u x:=by
 unfold L2.atI at h ⊢
 obtain ⟨j,e1,e2⟩:=aB.mp h
 obtain ⟨x,e3,r3⟩:=r.get e2
 exact ⟨x,by rw[<- r.length,e1];exact e3,r3⟩
noncomputable def Ao:S2:=fun u w L=>match u,w with
 | .tup l,.int i=>(L2.atI l i).map fun z=>(z,L)
 | .ref n,.int i=>(Ba L n).bind fun l=>(L2.atI l i).map fun z=>(z,L)
 | .str x,.int i=>if Eb x.length=true then (L2.atI x.cps.toList i).map fun c=>(.str ⟨#[c]⟩,L) else none
 | _,_=>none
theorem A8{K:aC}:Dh K (rIx K) Ao:=by
 intro H α L u w x y z L' Q A ru rw e q
 unfold Ao at e
 split at e
 ·obtain ⟨c,e1,e⟩:=aM.mp e
  cases e
  unfold RepU at ru rw
  obtain ⟨a,xs,rfl,sq,r⟩:=ru
  obtain ⟨v,e2,r2⟩:=r.atI e1
  exact .inr (.inl ⟨a,xs,_,v,rfl,rw,sq,e2,q _ H α (.refl _ _) A r2⟩)
 ·obtain ⟨l,hl,e⟩:=aB.mp e
  obtain ⟨c,e1,e⟩:=aM.mp e
  cases e
  obtain ⟨a,xs,ea,sq,r⟩:=Lh A hl
  obtain ⟨a',ea',rfl⟩:=ru.ref_of A
  rw[ea] at ea';cases ea'
  unfold RepU at rw
  obtain ⟨v,e2,r2⟩:=r.atI e1
  exact .inl ⟨a,xs,_,v,rfl,rw,sq,e2,q _ H α (.refl _ _) A r2⟩
 ·split at e
  ·rename_i hs
   obtain ⟨c,e1,e⟩:=aM.mp e
   cases e
   unfold RepU at ru rw
   exact .inr (.inr ⟨_,_,c,ru,rw,Ed hs,e1,q _ H α (.refl _ _) A rfl⟩)
  ·cases e
 ·cases e
noncomputable def Wx(l:List U)(lo hi:Option Int):List U:=(l.drop (HT.sIx l.length 0 lo)).take (HT.sIx l.length l.length hi - HT.sIx l.length 0 lo)
theorem RepL.cut{K:aC}{H:Hp}{α:List Addr}{us:List U}{xs:List V}(r:RepL K H α us xs)(lo hi:Option Int):RepL K H α (Wx us lo hi) (V0 xs lo hi):=by
 unfold Wx V0
 rw[r.length]
 exact (r.drop _).take _
noncomputable def semSl:SS:=fun u lo hi L=>match u with
 | .tup l=>if HT.sIx l.length 0 lo=0/\HT.sIx l.length l.length hi=l.length then none else some (.tup (Wx l lo hi),L)
 | .ref n=>(Ba L n).map fun l=>(.ref L.length,L++[.lst (Wx l lo hi)])
 | _=>none
noncomputable def Amm(K:aC):V->Option Int->Option Int->Hp->VK->Prop:=fun x lo hi H Q=>Am7 K x lo hi H Q\/Amj K x lo hi H Q
theorem Ad9{X:Cx}:SlR X (Amm X.K):=Aj1.or Af6
theorem Ad1{K:aC}:Aiu K (Amm K) semSl:=by
 intro H α L u x lo hi z L' Q A ru e q
 unfold semSl at e
 split at e
 ·split at e
  ·cases e
  ·rename_i hn
   cases e
   unfold RepU at ru
   obtain ⟨a,xs,rfl,sq,r⟩:=ru
   refine .inl ⟨a,xs,rfl,sq,by rw[<- r.length];exact hn,fun p hp=>?_⟩
   obtain ⟨g,A',r'⟩:=A.tup (r.cut lo hi) hp
   exact q _ _ α g A' r'
 ·obtain ⟨l,hl,e⟩:=aM.mp e
  cases e
  obtain ⟨a,xs,ea,sq,r⟩:=Lh A hl
  obtain ⟨a',ea',rfl⟩:=ru.ref_of A
  rw[ea] at ea';cases ea'
  refine .inr ⟨a,xs,rfl,sq,fun p hp=>?_⟩
  obtain ⟨g,A',r'⟩:=A.lst (r.cut lo hi) hp
  exact q _ _ _ g A' r'
 ·cases e
noncomputable def lenU(u:U)(L:UH):Option Nat:=match u with
 | .str y=>if Eb y.length=true then some y.length else none
 | .tup l=>some l.length
 | .ref n=>(Ba L n).map kK
 | _=>none
noncomputable def Cc:SC:=fun us L=>match us with
 | [u]=>(lenU u L).map fun (n:Nat)=>(U.int (n:Int),L)
 | _=>none
theorem Fi{K:aC}:Ow K (fun xs H Q=>∃ x n,xs=[x]/\Al7 K x H n/\Q (.int n) H) Cc:=by
 intro H α L us xs z L' Q A r e q
 unfold Cc at e
 split at e
 ·rename_i u
  obtain ⟨n,e1,e⟩:=aM.mp e
  cases e
  obtain ⟨x,rfl,rx⟩:=r.one
  refine ⟨x,n,rfl,?_,q _ H α (.refl _ _) A rfl⟩
  cases u with
  | str y=>
   unfold lenU at e1
   simp only at e1
   split at e1
   ·rename_i hs;cases e1;unfold RepU at rx;subst rx;exact ⟨Ed hs,rfl⟩
   ·cases e1
  | tup l=>
   cases e1
   unfold RepU at rx
   obtain ⟨a,ys,rfl,sq,r2⟩:=rx
   exact .inr ⟨ys,sq,r2.length⟩
  | ref k=>
   obtain ⟨l,hl,e2⟩:=aM.mp e1
   subst e2
   obtain ⟨a,ys,ea,sq,r2⟩:=Lh A hl
   obtain ⟨a',ea',rfl⟩:=rx.ref_of A
   rw[ea] at ea';cases ea'
   exact .inl ⟨ys,sq,r2.length⟩
  | _=>cases e1
 ·cases e
noncomputable def toI:U->Option Int
 | .int i=>some i
 | _=>none
theorem P6{K:aC}{H:Hp}{α:List Addr}:∀ {us:List U} {xs:List V} {ns:List Int},RepL K H α us xs->mapO toI us=some ns->xs=ns.map V.int
 | [],xs,ys,r,h=>by unfold RepL at r;subst r;cases h;rfl
 | u::us,xs,ys,r,h=>by
  unfold RepL at r
  obtain ⟨x,xr,rfl,r1,r2⟩:=r
  obtain ⟨y,e1,h⟩:=aB.mp h
  obtain ⟨yr,e2,h⟩:=aM.mp h
  subst h
  cases u <;> simp only[toI] at e1 <;> first
   | (cases e1;unfold RepU at r1;subst r1;rw[P6 r2 e2];rfl)
   | cases e1
noncomputable def T3:List Int->Int
 | []=>0
 | [a]=>a
 | a::r=>max a (T3 r)
noncomputable def Tx:List Int->Int
 | []=>0
 | [a]=>a
 | a::r=>min a (Tx r)
theorem Ye:∀ (ns:List Int) (M:Int),M∈ns->(∀ a,a∈ns->a<=M)->T3 ns=M
 | [],M,h,_=>by cases h
 | [a],M,h,_=>by simp at h;exact h.symm
 | a::b::r,M,h,hm=>by
  show max a (T3 (b::r))=M
  by_cases hb:M∈b::r
  ·rw[Ye (b::r) M hb fun c hc=>hm c (bG _ hc)]
   have:=hm a (bT ..)
   omega
  ·rcases cB.mp h with rfl | h
   ·have hle:∀ (l:List Int),l≠[]->(∀ c,c∈l->c<=M)->T3 l<=M:=by
     intro l
     induction l with
     | nil=>intro h;exact absurd rfl h
     | cons c t ih=>
      intro _ hc
      cases t with
      | nil=>exact hc c (bT ..)
      | cons d t=>
       have h1:=hc c (bT ..)
       have h2:=ih (by simp) fun e he=>hc e (bG _ he)
       show max c (T3 (d::t))<=M
       omega
    have:=hle (b::r) (by simp) fun c hc=>hm c (bG _ hc)
    omega
   ·exact absurd h hb
theorem Yx:∀ (ns:List Int) (M:Int),M∈ns->(∀ a,a∈ns->M<=a)->Tx ns=M
 | [],M,h,_=>by cases h
 | [a],M,h,_=>by simp at h;exact h.symm
 | a::b::r,M,h,hm=>by
  show min a (Tx (b::r))=M
  by_cases hb:M∈b::r
  ·rw[Yx (b::r) M hb fun c hc=>hm c (bG _ hc)]
   have:=hm a (bT ..)
   omega
  ·rcases cB.mp h with rfl | h
   ·have hle:∀ (l:List Int),l≠[]->(∀ c,c∈l->M<=c)->M<=Tx l:=by
     intro l
     induction l with
     | nil=>intro h;exact absurd rfl h
     | cons c t ih=>
      intro _ hc
      cases t with
      | nil=>exact hc c (bT ..)
      | cons d t=>
       have h1:=hc c (bT ..)
       have h2:=ih (by simp) fun e he=>hc e (bG _ he)
       show M<=min c (Tx (d::t))
       omega
    have:=hle (b::r) (by simp) fun c hc=>hm c (bG _ hc)
    omega
   ·exact absurd h hb
section
variable {X:Cx}
theorem Ack(hc:X.calm=true):CallR X (.builtin "sum") (fun xs H Q=>∃ (p:Addr) (ns:List Int),xs=[.ref p]/\SqL X.K H p (ns.map V.int)/\Q (.int ns.sum) H):=by
 intro pins s σ H xs us Q I r h
 obtain ⟨p,ns,rfl,hq,q⟩:=h
 obtain ⟨u,rfl,rx⟩:=Ll r
 cases rx
 obtain ⟨its,r',pl,hz⟩:=I.list hq
 have hi:jK its ns:=Kp r'
 obtain ⟨m,F⟩:=I.fr
 obtain ⟨xs,hx⟩:=hi.allInts.items
 have hl':s.heap.IsList p (intItems xs):=hx ▸ pl.isList
 refine sum_intListG (I.ok.hd hc) hl' fun h' tk t' hk=>?_
 have e1:ns=xs.toList.map (·.1):=by
  rw[<- kO,<- hx]
  exact (show numsOf its.toArray.toList=ns from hi.numsOf).symm
 have e2:preSum (numAt xs) xs.size=ns.sum:=by
  rw[preSum_eq,eJ (by simp),e1]
 rw[e2]
 exact ⟨.int ns.sum,H,I.kept hk,⟨_,rfl⟩,q⟩
theorem Abg(hc:X.calm=true):CallR X (.builtin "sum") (fun xs H Q=>∃ (p:Addr) (ns:List Int),xs=[.ref p]/\SqT X.K H p (ns.map V.int)/\Q (.int ns.sum) H):=by
 intro pins s σ H xs us Q I r h
 obtain ⟨p,ns,rfl,hq,q⟩:=h
 obtain ⟨u,rfl,rx⟩:=Ll r
 cases rx
 obtain ⟨its,r',pl,hz⟩:=I.tuple hq
 have hi:jK its ns:=Kp r'
 obtain ⟨xs,hx⟩:=hi.allInts.items
 have hl':s.heap.IsTuple p (intItems xs):=hx ▸ pl
 refine PySem.W.ktm_sumG (I.ok.hd hc) hl' fun h' tk t' hk=>?_
 have e1:ns=xs.toList.map (·.1):=by
  rw[<- kO,<- hx]
  exact (show numsOf its.toArray.toList=ns from hi.numsOf).symm
 have e2:preSum (numAt xs) xs.size=ns.sum:=by
  rw[preSum_eq,eJ (by simp),e1]
 rw[e2]
 exact ⟨.int ns.sum,H,I.kept hk,⟨_,rfl⟩,q⟩
theorem Abl(hc:X.calm=true):CallR X (.builtin "sum") (fun xs H Q=>(∃ (p:Addr) (ns:List Int),xs=[.ref p]/\SqL X.K H p (ns.map V.int)/\Q (.int ns.sum) H)\/∃ (p:Addr) (ns:List Int),xs=[.ref p]/\SqT X.K H p (ns.map V.int)/\Q (.int ns.sum) H):=(Ack hc).or (Abg hc)
theorem Acn(hc:X.calm=true):CallR X (.builtin "max") (fun xs H Q=>∃ (p:Addr) (ns:List Int),xs=[.ref p]/\SqL X.K H p (ns.map V.int)/\0 < ns.length/\Q (.int (T3 ns)) H):=by
 intro pins s σ H xs us Q I r h
 obtain ⟨p,ns,rfl,hq,hne,q⟩:=h
 obtain ⟨u,rfl,rx⟩:=Ll r
 cases rx
 obtain ⟨its,r',pl,hz⟩:=I.list hq
 have hi:jK its ns:=Kp r'
 obtain ⟨xs,e⟩:=hi.allInts.items
 have hns:ns=xs.toList.map (·.1):=by rw[<- hi.numsOf,<- kO,<- e]
 have hsz:0 < xs.size:=by
  have h3:=hne;rw[hns,bB,cO] at h3;exact h3
 have hl':s.heap.IsList p (intItems xs):=e ▸ pl.isList
 refine max_intList (I.ok.hd hc) hl' hsz fun v h' tk hv hk=>?_
 obtain ⟨t,rfl⟩:=intItems_at hv
 obtain ⟨h1,h2⟩:=argBest_gt (numAt xs) (xs.size - 1)
 have hM:=Ye ns (numAt xs (argBest (fun i j=>decide (numAt xs i > numAt xs j)) (xs.size - 1))) (by rw[hns,pI];exact getD_mem (by rw[bB,cO];omega)) (fun a ha=>by
  rw[hns] at ha
  obtain ⟨j,hj,rfl⟩:=mem_getD ha
  rw[bB,cO] at hj
  rw[<- pI];exact h2 j (by omega))
 rw[hM] at q
 exact ⟨.int _,H,I.kept hk,⟨_,rfl⟩,q⟩
theorem Aa8(hc:X.calm=true):CallR X (.builtin "min") (fun xs H Q=>∃ (p:Addr) (ns:List Int),xs=[.ref p]/\SqL X.K H p (ns.map V.int)/\0 < ns.length/\Q (.int (Tx ns)) H):=by
 intro pins s σ H xs us Q I r h
 obtain ⟨p,ns,rfl,hq,hne,q⟩:=h
 obtain ⟨u,rfl,rx⟩:=Ll r
 cases rx
 obtain ⟨its,r',pl,hz⟩:=I.list hq
 have hi:jK its ns:=Kp r'
 obtain ⟨xs,e⟩:=hi.allInts.items
 have hns:ns=xs.toList.map (·.1):=by rw[<- hi.numsOf,<- kO,<- e]
 have hsz:0 < xs.size:=by
  have h3:=hne;rw[hns,bB,cO] at h3;exact h3
 have hl':s.heap.IsList p (intItems xs):=e ▸ pl.isList
 refine min_intList (I.ok.hd hc) hl' hsz fun v h' tk hv hk=>?_
 obtain ⟨t,rfl⟩:=intItems_at hv
 obtain ⟨h1,h2⟩:=argBest_lt (numAt xs) (xs.size - 1)
 have hM:=Yx ns (numAt xs (argBest (fun i j=>decide (numAt xs i < numAt xs j)) (xs.size - 1))) (by rw[hns,pI];exact getD_mem (by rw[bB,cO];omega)) (fun a ha=>by
  rw[hns] at ha
  obtain ⟨j,hj,rfl⟩:=mem_getD ha
  rw[bB,cO] at hj
  rw[<- pI];exact h2 j (by omega))
 rw[hM] at q
 exact ⟨.int _,H,I.kept hk,⟨_,rfl⟩,q⟩
end
noncomputable def Qs:SC:=fun us L=>match us with
 | [.ref n]=>(Ba L n).bind fun l=>(mapO toI l).map fun ns=>(.int ns.sum,L)
 | [.tup l]=>(mapO toI l).map fun ns=>(.int ns.sum,L)
 | _=>none
inductive refs_at_I(K:aC)(H:Hp)(α:List Addr)(l:List U)(x:V):Prop
 | mk (a:_) (ys:_) (h0:x = .ref a) (h1:SqL K H a ys) (h2:RepL K H α l ys):refs_at_I K H α l x
theorem N8{K:aC}{H:Hp}{α:List Addr}{L:UH}{n:Nat}{l:List U}{x:V}(A:Abs K H α L)(hl:Ba L n=some l)(rx:RepU K H α (.ref n) x):refs_at_I K H α l x:=by
 obtain ⟨a,ys,ea,sq,r2⟩:=Lh A hl
 obtain ⟨a',ea',rfl⟩:=rx.ref_of A
 rw[ea] at ea';cases ea'
 exact ⟨a,ys,rfl,sq,r2⟩
theorem Ahl{K:aC}:Ow K (fun xs H Q=>(∃ (p:Addr) (ns:List Int),xs=[.ref p]/\SqL K H p (ns.map V.int)/\Q (.int ns.sum) H)\/∃ (p:Addr) (ns:List Int),xs=[.ref p]/\SqT K H p (ns.map V.int)/\Q (.int ns.sum) H) Qs:=by
 intro H α L us xs z L' Q A r e q
 unfold Qs at e
 split at e
 ·obtain ⟨l,hl,e⟩:=aB.mp e
  obtain ⟨ns,e1,e⟩:=aM.mp e
  cases e
  obtain ⟨x,rfl,rx⟩:=r.one
  obtain ⟨a,ys,rfl,sq,r2⟩:=N8 A hl rx
  rw[P6 r2 e1] at sq
  exact .inl ⟨a,ns,rfl,sq,q _ H α (.refl _ _) A rfl⟩
 ·obtain ⟨ns,e1,e⟩:=aM.mp e
  cases e
  obtain ⟨x,rfl,rx⟩:=r.one
  unfold RepU at rx
  obtain ⟨a,ys,rfl,sq,r2⟩:=rx
  rw[P6 r2 e1] at sq
  exact .inr ⟨a,ns,rfl,sq,q _ H α (.refl _ _) A rfl⟩
 ·cases e
noncomputable def Aae(g2:Int->Int->Int)(gl:List Int->Int):SC:=fun us L=>match us with
 | [.int i,.int j]=>some (.int (g2 i j),L)
 | [.ref n]=>(Ba L n).bind fun l=>(mapO toI l).bind fun ns=>if ns.isEmpty=true then none else some (.int (gl ns),L)
 | _=>none
noncomputable def G6:SC:=Aae (fun i j=>if j > i then j else i) T3
noncomputable def Hs:SC:=Aae (fun i j=>if j < i then j else i) Tx
theorem Afu{K:aC}{g2:Int->Int->Int}{gl:List Int->Int}:Ow K (fun xs H Q=>(∃ i j,xs=[.int i,.int j]/\Q (.int (g2 i j)) H)\/∃ (p:Addr) (ns:List Int),xs=[.ref p]/\SqL K H p (ns.map V.int)/\0 < ns.length/\Q (.int (gl ns)) H) (Aae g2 gl):=by
 intro H α L us xs z L' Q A r e q
 unfold Aae at e
 split at e
 ·cases e
  obtain ⟨x,y,rfl,rx,ry⟩:=r.two
  unfold RepU at rx ry
  exact .inl ⟨_,_,by rw[rx,ry],q _ H α (.refl _ _) A rfl⟩
 ·obtain ⟨l,hl,e⟩:=aB.mp e
  obtain ⟨ns,e1,e⟩:=aB.mp e
  split at e
  ·cases e
  ·rename_i hne
   cases e
   obtain ⟨x,rfl,rx⟩:=r.one
   obtain ⟨a,ys,rfl,sq,r2⟩:=N8 A hl rx
   rw[P6 r2 e1] at sq
   exact .inr ⟨a,ns,rfl,sq,by cases ns <;> simp_all,q _ H α (.refl _ _) A rfl⟩
 ·cases e
theorem Ly{X:Cx}(hc:X.calm=true):CallR X (.builtin "max") (fun xs H Q=>(∃ i j,xs=[.int i,.int j]/\Q (.int (if j > i then j else i)) H)\/∃ (p:Addr) (ns:List Int),xs=[.ref p]/\SqL X.K H p (ns.map V.int)/\0 < ns.length/\Q (.int (T3 ns)) H):=(Abr hc).or (Acn hc)
theorem Om{X:Cx}(hc:X.calm=true):CallR X (.builtin "min") (fun xs H Q=>(∃ i j,xs=[.int i,.int j]/\Q (.int (if j < i then j else i)) H)\/∃ (p:Addr) (ns:List Int),xs=[.ref p]/\SqL X.K H p (ns.map V.int)/\0 < ns.length/\Q (.int (Tx ns)) H):=(Aa3 hc).or (Aa8 hc)
theorem P9{K:aC}:Ow K (fun xs H Q=>(∃ i j,xs=[.int i,.int j]/\Q (.int (if j > i then j else i)) H)\/∃ (p:Addr) (ns:List Int),xs=[.ref p]/\SqL K H p (ns.map V.int)/\0 < ns.length/\Q (.int (T3 ns)) H) G6:=Afu
theorem T4{K:aC}:Ow K (fun xs H Q=>(∃ i j,xs=[.int i,.int j]/\Q (.int (if j < i then j else i)) H)\/∃ (p:Addr) (ns:List Int),xs=[.ref p]/\SqL K H p (ns.map V.int)/\0 < ns.length/\Q (.int (Tx ns)) H) Hs:=Afu
noncomputable def Oq:SC:=fun us L=>match us with
 | [.int i]=>some (.int i,L)
 | [.bl k]=>some (.int (if k then 1 else 0),L)
 | _=>none
theorem Aab{K:aC}:Ow K (fun xs H Q=>(∃ i,xs=[.int i]/\Q (.int i) H)\/∃ k,xs=[.bl k]/\Q (.int (if k then 1 else 0)) H) Oq:=by
 intro H α L us xs z L' Q A r e q
 unfold Oq at e
 split at e
 ·cases e
  obtain ⟨x,rfl,rx⟩:=r.one
  unfold RepU at rx
  exact .inl ⟨_,by rw[rx],q _ H α (.refl _ _) A rfl⟩
 ·cases e
  obtain ⟨x,rfl,rx⟩:=r.one
  unfold RepU at rx
  exact .inr ⟨_,by rw[rx],q _ H α (.refl _ _) A rfl⟩
 ·cases e
noncomputable def semTuple:SC:=fun us L=>match us with
 | [.ref n]=>(Ba L n).map fun l=>(.tup l,L)
 | [.tup l]=>some (.tup l,L)
 | _=>none
theorem Hm{K:aC}:Ow K (fun xs H Q=>∃ p ys,xs=[.ref p]/\((SqL K H p ys/\∀ l,H l=none->Q (.ref l) (upd H l (.tup ys)))\/(SqT K H p ys/\Q (.ref p) H))) semTuple:=by
 intro H α L us xs z L' Q A r e q
 unfold semTuple at e
 split at e
 ·obtain ⟨l,hl,e⟩:=aM.mp e
  cases e
  obtain ⟨x,rfl,rx⟩:=r.one
  obtain ⟨a,ys,rfl,sq,r2⟩:=N8 A hl rx
  refine ⟨a,ys,rfl,.inl ⟨sq,fun p hp=>?_⟩⟩
  obtain ⟨g,A',r'⟩:=A.tup r2 hp
  exact q _ _ _ g A' r'
 ·cases e
  obtain ⟨x,rfl,rx⟩:=r.one
  have rx':=rx
  unfold RepU at rx
  obtain ⟨a,ys,rfl,sq,r2⟩:=rx
  exact ⟨a,ys,rfl,.inr ⟨sq,q _ H α (.refl _ _) A rx'⟩⟩
 ·cases e
noncomputable def Jn:SM:=fun u us L=>match u,us with
 | .ref n,[y]=>(Hb L n).bind fun l=>if decide (l.length < sizeLine)=true then some (.non,L.set n (.lst (l++[y]))) else none
 | _,_=>none
inductive ref_lst_I(K:aC)(H:Hp)(α:List Addr)(n:Nat)(l:List U)(x:V):Prop
 | mk (a:_) (ys:_) (h0:x = .ref a) (h1:α[n]? = some a) (h2:H a=some (.lst ys)) (h3:RepL K H α l ys):ref_lst_I K H α n l x
theorem Ua{K:aC}{H:Hp}{α:List Addr}{L:UH}{n:Nat}{l:List U}{x:V}(A:Abs K H α L)(hl:Hb L n=some l)(rx:RepU K H α (.ref n) x):ref_lst_I K H α n l x:=by
 obtain ⟨a,ys,ea,sq,r2⟩:=N6 A hl
 obtain ⟨a',ea',rfl⟩:=rx.ref_of A
 rw[ea] at ea';cases ea'
 exact ⟨a,ys,rfl,ea,sq,r2⟩
theorem W2{K:aC}:Aib K Y3 Jn:=by
 intro H α L u us x xs z L' Q A ru r e q
 unfold Jn at e
 split at e
 ·obtain ⟨l,hl,e⟩:=aB.mp e
  split at e
  ·rename_i hs
   cases e
   obtain ⟨y,rfl,ry⟩:=r.one
   obtain ⟨a,ys,rfl,ea,h,r2⟩:=Ua A hl ru
   obtain ⟨g,A'⟩:=A.setL hl ea h (r2.append (.cons ry .nil))
   exact ⟨a,ys,y,rfl,rfl,h,by rw[<- r2.length];exact of_decide_eq_true hs,q _ _ _ g A' rfl⟩
  ·cases e
 ·cases e
noncomputable def Kt:SM:=fun u us L=>match u,us with
 | .ref n,[.int i]=>(Hb L n).bind fun l=>if -(2 ^ 63)<=i/\i < 2 ^ 63 then (seqIndex? i l.length).bind fun k=>(l[k]?).map fun y=>(y,L.set n (.lst (l.eraseIdx k))) else none
 | _,_=>none
theorem Aao{K:aC}:Aib K Aev Kt:=by
 intro H α L u us x xs z L' Q A ru r e q
 unfold Kt at e
 split at e
 ·obtain ⟨l,hl,e⟩:=aB.mp e
  split at e
  ·rename_i hs
   obtain ⟨k,ek,e⟩:=aB.mp e
   obtain ⟨y,ey,e⟩:=aM.mp e
   cases e
   obtain ⟨v,rfl,rv⟩:=r.one
   unfold RepU at rv
   subst rv
   obtain ⟨a,ys,rfl,ea,h,r2⟩:=Ua A hl ru
   obtain ⟨w,ew,rw⟩:=r2.get ey
   obtain ⟨g,A'⟩:=A.setL hl ea h (r2.erase k)
   exact ⟨a,ys,_,k,w,rfl,rfl,h,hs.1,hs.2,by rw[<- r2.length];exact ek,ew,q _ _ _ g A' (rw.mono g)⟩
  ·cases e
 ·cases e
noncomputable def gSub(fo fi:FE):FG:=fun v δ L=>(fo δ L).bind fun p=>(fi δ p.2).bind fun q=>match p.1,q.1 with
 | .ref n,.int k=>(Hb q.2 n).bind fun l=>(ixN l.length k).map fun j=>(δ,q.2.set n (.lst (l.set j v)))
 | _,_=>none
theorem Yk{X:Cx}{o i:Expr}{fo fi:FE}{pos:Pos}(ho:PEF X o fo)(hi:PEF X i fi)(ha:∀ v,assign (.Subscript o i pos) X.env v=(do let ov <- holding [v] (eval o X.env);let iv <- holding [v,ov] (eval i X.env);standAt pos;holding [v,ov,iv] (setItem ov iv v);release [v,ov,iv] []):=by intro _;rfl):PGF X (.Subscript o i pos) (MR.gSub fo fi):=by
 refine PG.imp (Ai5 ho hi Afm ha) ?_
 rintro v σ H Q ⟨α,δ,L,u,A,S,r,δ',L',e,q⟩
 obtain ⟨⟨o',L1⟩,e1,e⟩:=aB.mp e
 obtain ⟨⟨i',L2⟩,e2,e⟩:=aB.mp e
 refine ⟨α,δ,L,A,S,o',L1,e1,fun x H1 α1 g1 A1 r1=>⟨α1,δ,L1,A1,S.mono g1,i',L2,e2,fun y H2 α2 g2 A2 r2=>?_⟩⟩
 simp only at e
 split at e
 ·obtain ⟨l,hl,e⟩:=aB.mp e
  obtain ⟨j,ej,e⟩:=aM.mp e
  cases e
  unfold RepU at r2
  subst r2
  obtain ⟨a,ys,rfl,ea,h,r3⟩:=Ua A2 hl (r1.mono g2)
  obtain ⟨g,A'⟩:=A2.setL hl ea h (r3.set ((r.mono g1).mono g2) j)
  exact ⟨a,ys,_,j,rfl,rfl,h,by rw[<- r3.length];exact ej,q _ _ _ (g1.trans (g2.trans g)) A' (((S.mono g1).mono g2).mono g)⟩
 ·cases e
noncomputable def Aes(u:U)(L:UH):Option String:=match u with
 | .non=>some "NoneType"
 | .bl _=>some "bool"
 | .int _=>some "int"
 | .str _=>some "str"
 | .tup _=>some "tuple"
 | .ref n=>match L[n]? with
  | some (.lst _)=>some "list"
  | some (.ro _)=>some "list"
  | some (.dic _)=>some "dict"
  | _=>none
noncomputable def isT(t c:String):Bool:=t == c || (t == "bool" && c == "int")
noncomputable def Aof(c:String)(f:FE):FE:=fun δ L=>(f δ L).bind fun p=>(Aes p.1 p.2).map fun t=>(.bl (isT t c),p.2)
theorem Aj5{K:aC}{F:FN}{H:Hp}{a:Addr}{ns:List Int}{E:XK}(ho:Ahy H)(hS:SqL K H a (ns.map V.int))(h:∃ L',F [.ref 0] [.ro (ns.map U.int)]=some (.bl true,L')):spF K 1 F [.ref a] H (fun v _=>v = .bl true) E:=by
 obtain ⟨L',e⟩:=h
 have ro:RO K H a (ns.map V.int):=by
  rcases hS with (q | ⟨o,q⟩) | q
  ·rcases ho a with z | ⟨o,xs,z⟩
   ·rw[z] at q;cases q
   ·rw[z] at q;cases q
  ·exact .inl ⟨o,q⟩
  ·exact .inr q
 refine ⟨[a],[.ro (ns.map U.int)],[.ref 0],⟨rfl,fun i j b o o' e1 e2 e3 e4=>?_,fun i b o e1 e2=>?_⟩,.cons ?_ .nil,rfl,.bl true,L',e,fun v H' α' _ _ r=>r⟩
 ·cases i with
  | zero=>cases j with
   | zero=>exact .inl rfl
   | succ j=>simp at e2
  | succ i=>simp at e1
 ·cases i with
  | zero=>simp at e1 e2;subst e1;subst e2;exact ⟨_,ro,RepL.ints ns⟩
  | succ i=>simp at e1
 ·unfold RepU;exact ⟨a,rfl,rfl⟩
theorem Mz(env:eD):∀ (names:List (Str×hU)) (cs:List (Str×Addr)),(∀ y∈names,y.2 = .free->∃ c,env.cells.lookup y.1=some c)->(∀ x c,cs.lookup x=some c->env.cells.lookup x=some c) ->
  ∃ cl:List (Str×Addr),(forIn names cs fun (x:Str×hU) r=>if (x.2 == fO)=true then do let c <- cellOf env x.1;pure (fL ((x.1,c)::r)) else pure (fL r):Sem (List (Str×Addr)))=pure cl /\
   (∀ x c,cl.lookup x=some c->env.cells.lookup x=some c)/\(∀ y∈names,y.2 = .free->∃ c,cl.lookup y.1=some c)/\∀ x,(∃ c,cs.lookup x=some c)->∃ c,cl.lookup x=some c
 | [],cs,_,h2=>⟨cs,rfl,h2,(fun _ h=>nomatch h),fun _ h=>h⟩
 | (n,k)::r,cs,h1,h2=>by
  cases hk:k == fO with
  | true=>
   have hk':k = .free:=by simpa using hk
   obtain ⟨c,hc⟩:=h1 (n,k) (bT ..) hk'
   have look:∀ x c',eL x ((n,c)::cs)=some c'->env.cells.lookup x=some c':=fun x c' e=>by
    rw[bX] at e
    cases hx:x == n with
    | true => rw [hx] at e; simp at e; subst e; have : x = n := by simpa using hx
              rw[this];exact hc
    | false=>rw[hx] at e;exact h2 x c' e
   obtain ⟨cl,e,p1,p2,p3⟩:=Mz env r ((n,c)::cs) (fun y hy=>h1 y (bG _ hy)) look
   refine ⟨cl,?_,p1,fun y hy hf=>?_,fun x hx=>?_⟩
   ·rw[jA]
    have e0:(cellOf env n:Sem Addr)=pure c:=by unfold cellOf;rw[hc]
    simp only[hk,if_true,e0]
    exact e
   ·rcases cB.mp hy with rfl | hy
    ·exact p3 n ⟨c,by simp⟩
    ·exact p2 y hy hf
   ·refine p3 x ?_
    rw[bX]
    cases hx':x == n with
    | true=>exact ⟨c,rfl⟩
    | false=>exact hx
  | false=>
   obtain ⟨cl,e,p1,p2,p3⟩:=Mz env r cs (fun y hy=>h1 y (bG _ hy)) h2
   refine ⟨cl,?_,p1,fun y hy hf=>?_,p3⟩
   ·rw[jA]
    simp only[hk,bJ,if_false]
    exact e
   ·rcases cB.mp hy with rfl | hy
    ·rw[show k=fO from hf] at hk;cases hk
    ·exact p2 y hy hf
theorem R0{scope:gX}{env:eD}(h:∀ y∈scope.names,y.2 = .free->∃ c,env.cells.lookup y.1=some c) :
  ∃ cl,closureFor scope env=pure cl/\(∀ x c,cl.lookup x=some c->env.cells.lookup x=some c)/\∀ y∈scope.names,y.2 = .free->∃ c,cl.lookup y.1=some c:=by
 obtain ⟨cl,e,p1,p2,_⟩:=Mz env scope.names [] h (fun x c e=>by simp at e)
 refine ⟨cl,?_,p1,p2⟩
 unfold closureFor
 show (forIn scope.names [] _ >>= fun cs=>pure cs)=pure cl
 have:(forIn scope.names ([]:List (Str×Addr)) (fun (x:Str×hU) (r:List (Str×Addr))=>if (x.2 == fO)=true then do let c <- cellOf env x.1;pure (fL ((x.1,c)::r)) else pure (fL r)):Sem (List (Str×Addr))) >>= (fun cs=>pure cs)=pure cl:=by rw[e];rfl
 exact this
noncomputable def blk(X:Cx)(scope:gX)(cl:List (Str×Addr))(C:Addr)(N':List Str)(s2:aJ)(H2:Hp)(fp:List Addr)(pins:List (Addr×Obj)):Cx:=
 { X with env:=compEnvC scope cl C X.env,N:=N',s₀:=s2,H₀:=H2,outer:=X.stack,ex:=fp,fn:=fun _=>false,pn:=X.pn++pins,xe:=fun _ _=>False }
theorem HOk.adopt{P:bP}{w:cE}{H:Hp}{h:Heap}{a:Addr}{o:HO}(x:HOk P w H h)(hn:H a=none)(new:ObjOk P w (upd H a o) h a o):HOk P w (upd H a o) h:=fun b u e=>by
 by_cases hb:b=a
 ·subst hb;rw[upd_same] at e;cases e;exact new
 ·rw[A9 hb] at e
  exact (x b u e).stay (fun c v _ q=>q) (fun c q=>by rw[A9 (Br q hn)];exact q) fun c xs q=>by rw[A9 (Br q hn)];exact q
theorem Un.adopt{fs ex:List Addr}{H H1:Hp}{h h1:Heap}{a:Addr}{o:HO}(u:Un fs ex H H1 h h1)(hn:H1 a=none)(ha:h.get? a=none):Un fs ex H (upd H1 a o) h h1 where
 keep:=u.keep
 slot:=u.slot
 free:=fun b ob q n hx=>by
  have:b≠a:=fun z=>by rw[z,ha] at q;cases q
  rw[A9 this];exact u.free b ob q n hx
 there:=u.there
 tups:=fun b xs q=>by have q':=u.tups b xs q;rw[A9 (Br q' hn)];exact q'
 frzs:=fun b ob xs q=>by have q':=u.frzs b ob xs q;rw[A9 (Br q' hn)];exact q'
 tbls:=fun b ps q=>by
  obtain ⟨m,q'⟩:=u.tbls b ps q
  exact ⟨m,by rw[A9 (Br q' hn)];exact q'⟩
structure CompSc(X:Cx)(scope:gX)(N':List Str)(ix:List (Option Nat)):Prop where
 kind:scope.kind = .function
 cell:(scope.names.all fun y=>y.2 != .cell)=true
 loc:(scope.names.all fun y=>y.2 != .local || scope.names.lookup y.1 == some .local)=true
 free:(scope.names.all fun y=>y.2 != .free || (X.env.kindOf y.1 == some .cell || X.env.kindOf y.1 == some .free))=true
 ixs:((N'.zip ix).all fun p=>match p.2 with | none=>true | some i=>(X.N[i]? == some p.1)&&(scope.names.lookup p.1 == some .free))=true
 len:N'.length=ix.length
noncomputable def inner(ix:List (Option Nat))(σ:L2.St):L2.St:=ix.map fun o=>o.bind fun i=>(σ[i]?).join
noncomputable def Ado(J:It)(g:TG)(tt:TT)(te:TE)(σ':L2.St)(H:Hp)(Fin:List V->Hp->Prop):Prop:=∃ W:Nat->Nat->List V->L2.St->Hp->Prop,(∃ m,W 0 m [] σ' H)/\∀ i m acc σ1 H1,W i m acc σ1 H1 ->
 (J.stop i H1/\Fin acc H1)\/(J.go i H1/\∀ x H3,J.yld i H1 x H3->g x σ1 H3 fun σ2 H4=>tt σ2 H4 fun b H5=>
  if b=true then te σ2 H5 fun y H6=>acc.length < sizeLine/\∃ m',m' < m/\W (i+1) m' (acc++[y]) σ2 H6 else ∃ m',m' < m/\W (i+1) m' acc σ2 H5)
section
variable {X:Cx}{scope:gX}{N':List Str}{ix:List (Option Nat)}{pins:List (Addr×Obj)}{σ:L2.St}{H2:Hp}{s2:aJ}{cl:List (Str×Addr)}{fp:List Addr}
theorem Ic{β:Type}{x:Str}{v:β}:∀ {l:List (Str×β)},l.lookup x=some v->(x,v)∈l
 | [],h=>by simp at h
 | (n,k)::r,h=>by
  rw[bX] at h
  cases hx:x == n with
  | true => rw [hx] at h; simp at h; have : x = n := by simpa using hx
            subst this;subst h;exact bT ..
  | false=>rw[hx] at h;exact bG _ (Ic h)
theorem Ib{env:eD}{x:Str}:∀ {names:List (Str×hU)} {k:hU},(names.map fun (n,k)=>if (k == fO&&env.scope.kind == .function&&env.kindOf n == some .cell) then (n,mU) else (n,k)).lookup x=some k ->
  names.lookup x=some k\/(names.lookup x=some .free/\k = .cell)
 | [],k,h=>by simp at h
 | (n,k')::r,k,h=>by
  have ih:=@Ib env x r k
  rw[aO] at h
  cases hx:x == n with
  | true=>
   rw[bX,hx]
   simp only at h ⊢
   split at h
   ·rename_i hc
    rw[bX,hx] at h
    simp at h
    simp only[cQ] at hc
    have:k' = .free:=by simpa using hc.1.1
    subst this
    exact .inr ⟨rfl,h.symm⟩
   ·rw[bX,hx] at h
    exact .inl h
  | false=>
   rw[bX,hx]
   simp only at h ⊢
   split at h
   ·rw[bX,hx] at h;exact ih h
   ·rw[bX,hx] at h;exact ih h
theorem G9{env:eD}{x:Str}:∀ {names:List (Str×hU)},names.lookup x=some .free ->
  (names.map fun (n,k)=>if (k == fO&&env.scope.kind == .function&&env.kindOf n == some .cell) then (n,mU) else (n,k)).lookup x=some .free\/(names.map fun (n,k)=>if (k == fO&&env.scope.kind == .function&&env.kindOf n == some .cell) then (n,mU) else (n,k)).lookup x=some .cell
 | [],h=>by simp at h
 | (n,k')::r,h=>by
  have ih:=@G9 env x r
  rw[aO]
  cases hx:x == n with
  | true=>
   rw[bX,hx] at h
   simp at h
   subst h
   simp only
   split
   ·right;rw[bX,hx]
   ·left;rw[bX,hx]
  | false=>
   rw[bX,hx] at h
   have:=ih h
   simp only
   split
   ·rw[bX,hx];exact this
   ·rw[bX,hx];exact this
theorem Acj(S:CompSc X scope N' ix)(hcalm:X.calm=true)(I2:Inv X pins σ H2 s2)(hcl:∀ x c,cl.lookup x=some c->X.env.cells.lookup x=some c)(hcl2:∀ y∈scope.names,y.2 = .free->∃ c,cl.lookup y.1=some c)
  (f2:∀ b∈fp,Mj X pins H2 b) (hfp:∀ b∈fp,b < s2.heap.objs.size) {C:Addr} {h4:Heap} {m:Str->Option aE} {t4:Nat} (hC:s2.heap.objs.size<=C) (hns:h4.Ns C m) (keep:∀ b o,s2.heap.get? b=some o->h4.get? b=some o) :
  Inv (blk X scope cl C N' s2 H2 fp pins) [] (inner ix σ) H2 { s2 with heap:=h4,toks:=t4 }:=by
 have hkindC:(relabel scope X.env).kind = .function:=S.kind
 have ok:(blk X scope cl C N' s2 H2 fp pins).Ok:=
  { mod:=I2.ok.mod
    kind:=hkindC
    glob:=I2.ok.glob
    blt:=I2.ok.blt
    above:=hC
    inj:=fun x y c e1 e2=>I2.ok.inj x y c (hcl x c e1) (hcl y c e2)
    has:=fun x h=>by
     have h':(relabel scope X.env).names.lookup x=some .cell\/(relabel scope X.env).names.lookup x=some .free:=h
     have hfree:scope.names.lookup x=some .free:=by
      rcases h' with h' | h'
      ·rcases Ib h' with q | ⟨q,_⟩
       ·have:=cL.mp S.cell _ (Ic q)
        simp at this
       ·exact q
      ·rcases Ib h' with q | ⟨q,z⟩
       ·exact q
       ·cases z
     exact hcl2 _ (Ic hfree) rfl
    cab:=fun x c h=>by cases h
    hd:=fun _=>I2.ok.hd hcalm
    frames:=I2.ok.frames
    stk:=.inl rfl
    exf:=fun b hb=>⟨bV (aU (hfp b hb) hC),fun x c e=>(f2 b hb).2.2.2.2.1 x c (hcl x c e)⟩
    bs:=fun b o e=>I2.bs b o e
    bsz:=cC I2.ok.bsz I2.sz
    noex:=fun b o e hb=>by
     rcases (f2 b hb).2.2.2.1 with z | z
     ·exact I2.ok.noex b o e z
     ·exact absurd (aU (aR (I2.ok.bs b o e).1) z) (dL _)
    exfs:=fun b hb z=>by
     rcases cB.mp (I2.stkSub b z) with q | q
     ·exact (f2 b hb).2.1 q
     ·exact (f2 b hb).2.2.1 q
    funs:=I2.stack
    frf:=I2.stkFree }
 obtain ⟨m0,hn0,hl0⟩:=id I2.loc
 refine ⟨ok,rfl,I2.bare,Un.kept keep,⟨m,hns,fun j x v e1 e2 e3=>?_⟩,fun x c e=>?_,I2.hok.fresh hC,fun x c e=>I2.freeC x c (hcl x c e),fun p hp=>?_,I2.hok.kept keep,?_⟩
 ·-- a name that the block takes along
  have e1':N'[j]? = some x:=e1
  have e2':(inner ix σ)[j]? = some (some v):=e2
  unfold inner at e2'
  rw[bO] at e2'
  cases hx:ix[j]? with
  | none=>rw[hx] at e2';simp at e2'
  | some o=>
   rw[hx] at e2'
   cases o with
   | none=>simp at e2'
   | some i=>
    simp at e2'
    have hz:(x,some i)∈N'.zip ix:=fV (i:=j) (by rw[List.getElem?_zip_eq_some];exact ⟨e1',hx⟩)
    have hz':=cL.mp S.ixs _ hz
    simp only[cQ,beq_iff_eq] at hz'
    obtain ⟨hXN,hfr⟩:=hz'
    have hσ:σ[i]? = some (some v):=by
     cases q:σ[i]? with
     | none=>rw[q] at e2';simp at e2'
     | some o=>rw[q] at e2';simp at e2';rw[e2']
    have hk:=cL.mp S.free _ (Ic hfr)
    simp at hk
    have hvis:Vis X.env.scope x:=by
     rcases hk with q | q
     ·exact .inr (.inl q)
     ·exact .inr (.inr q)
    obtain ⟨u,r,look⟩:=hl0 i x v hXN hσ hvis
    rcases look with ⟨q,_⟩ | ⟨_,c,ec,hc⟩
    ·rcases hk with z | z
     ·rw[z] at q;cases q
     ·rw[z] at q;cases q
    ·obtain ⟨c',ec'⟩:=hcl2 _ (Ic hfr) rfl
     have:c'=c:=by have:=hcl x c' ec';rw[ec] at this;cases this;rfl
     subst this
     refine ⟨u,r,.inr ⟨?_,c',ec',?_⟩⟩
     ·rcases G9 (env:=X.env) hfr with q | q
      ·exact .inr q
      ·exact .inl q
     ·obtain ⟨oc,ho,hd⟩:=hc
      exact ⟨oc,keep _ _ ho,hd⟩
 ·obtain ⟨v,oc,ho,hd⟩:=I2.cell x c (hcl x c e)
  exact ⟨v,oc,keep _ _ ho,hd⟩
 ·have hp':p∈X.pn++pins:=by simpa[blk] using hp
  obtain ⟨q1,q2,q3,q4,q5⟩:=I2.pin p hp'
  refine ⟨keep _ _ q1,q2,bV (aU (aR q1) hC),fun z=>?_,q5⟩
  rcases cB.mp (I2.stkSub p.1 z) with q | q
  ·exact q3 q
  ·exact q4 q
 ·show (inner ix σ).length=N'.length
  rw[S.len];simp[inner]
end
section
variable {X:Cx}{scope:gX}{N':List Str}{ix:List (Option Nat)}{pins:List (Addr×Obj)}{σ:L2.St}{H2:Hp}{s2:aJ}{cl:List (Str×Addr)}{fp:List Addr}
noncomputable def Sv(X':Cx)(ifs:List Expr)(tt:TT):Prop:=∀ (pins:List (Addr×Obj)) (s:aJ) (σ:L2.St) (H:Hp) (Q:Bool->Hp->Prop) (E:aE->aJ->Prop),Inv X' pins σ H s->tt σ H Q->(∀ e s,X'.xe e s->E e s) ->
 wpAny (model X'.prog X'.w) X'.A (forIn ifs true fun c r=>if r=true then do let ok <- isTrue c X'.env (eval c X'.env);pure (fL ok) else pure (fL r)) (TP X' pins σ Q) E s
noncomputable def Agi:TT:=fun _ H Q=>Q true H
theorem Sl{X':Cx}:Sv X' [] Agi:=fun pins s σ H Q E I h _=>wpAny_tests_nil ⟨H,I,h⟩
theorem Aaz{X':Cx}{c:Expr}{tt:TT}(h:PT X' c tt):Sv X' [c] tt:=fun pins s σ H Q E I q hE=>wpAny_tests_one (cM (h pins s σ H Q I q) (fun _ _ z=>z) hE)
noncomputable def D9(its:List aE)(n:Nat):Obj:={ cls:=.type "list",data:=.seq its.toArray n }
theorem Abk{elt tg iter:Expr}{ifs:List Expr}{pos:Pos}{it D C:Addr}{J:It}{tn:Nat->Heap->Prop}{g:TG}{tt:TT}{te:TE}{Fin:List V->Hp->Prop}{R:Result->aJ->Prop}{X':Cx}
  (hX:X'.A=X.A/\X'.prog=X.prog/\X'.w=X.w/\X'.K=X.K/\X'.calm=true/\∀ e s,¬ X'.xe e s) (T:Turn X.prog X.w X.K tg J fp it tn) (hg:PG X' tg g) (ht:Sv X' ifs tt) (he:PE X' elt te)
  (hD1:s2.heap.objs.size<=D) (hDC:D≠C) (hC:s2.heap.objs.size<=C) (hfp:∀ b∈fp,Mj X' [] H2 b/\b≠D) (hDf:∀ H,H D=none->Mj X' [] H D)
  {s:aJ} {σ1:L2.St} {H1:Hp} {n0:Nat} (I:Inv X' [(D,D9 [] n0)] σ1 H1 s) (st:tn 0 s.heap) (fr:∀ b∈fp,H1 b=none) (hloop:Ado J g tt te σ1 H1 Fin)
  (hR:∀ (s':aJ) (σ':L2.St) (H':Hp) (acc:List V) (its:List aE) (n:Nat),Inv X' [(D,D9 its n)] σ' H' s'->Vals acc its->acc.length<=sizeLine->Fin acc H'->R (.ok .next) s') :
  iN (model X.prog X.w) X.A (.compLoop (.ListComp elt [⟨tg,iter,ifs,0⟩] scope pos) 0 (.ref it) (.ref D) X'.env) R s:=by
 obtain ⟨W,⟨m0,w0⟩,turn⟩:=hloop
 obtain ⟨hXA,hXp,hXw,hXK,hXc,hxe⟩:=hX
 have hfpo:∀ (o:Obj) (H:Hp),(∀ b∈fp,H b=none)->∀ b∈fp,Mj X' [(D,o)] H b:=fun o H hn b hb=>by
  obtain ⟨⟨_,q1,q2,q3,q4,q5⟩,q6⟩:=hfp b hb
  refine ⟨hn b hb,q1,q2,q3,q4,fun p hp=>?_⟩
  rcases eS.mp hp with z | z
  ·exact q5 p (dR _ z)
  ·have:p=(D,o):=by simpa using z
   rw[this];exact fun z=>q6 z.symm
 refine codeAny_loop rfl (fun n s=>∃ i acc its k σ1 H1,Inv X' [(D,D9 its k)] σ1 H1 s/\Vals acc its/\acc.length<=sizeLine/\tn i s.heap/\(∀ b∈fp,H1 b=none)/\W i n acc σ1 H1) (fun n s hI=>?_) m0 ⟨0,[],[],n0,σ1,H1,I,.nil,kH _,st,fr,w0⟩
 show wpAny _ X.A ((compTurn (.ListComp elt [⟨tg,iter,ifs,0⟩] scope pos) 0 (.ref it) (.ref D) X'.env).onRaise (fun x=>do noteFrame x X'.env;theTreesLotGoes x)) _ _ s
 refine wpAny_noted ?_
 rw[compTurn_list]
 obtain ⟨i,acc,its,k,σ1,H1,I,hv,hz,st,fr,w1⟩:=hI
 refine aF (gI (aF ?_))
 rcases turn i n acc σ1 H1 w1 with ⟨stop,fin⟩ | ⟨go,step⟩
 ·have h:=T.done X' hXp hXw hXK hXc i _ s σ1 H1 (notedBy (model X.prog X.w) X.A X'.env fun e s'=>R (.error e) s') I (hfpo _ H1 fr) st stop
  rw[hXA] at h
  refine thn h fun r s4 zz=>?_
  obtain ⟨hr,I4⟩:=zz
  subst hr
  exact aT (hR s4 σ1 H1 acc its k I4 hv hz fin)
 ·have h:=T.item X' hXp hXw hXK hXc i _ s σ1 H1 (notedBy (model X.prog X.w) X.A X'.env fun e s'=>R (.error e) s') I (hfpo _ H1 fr) st go
  rw[hXA] at h
  refine thn h fun r s4 zz=>?_
  obtain ⟨u,hr,h4⟩:=zz
  subst hr
  refine aF (thn h4 fun _ s5 zz=>?_)
  obtain ⟨x,H5,I5,r5,y5,st5,fr5⟩:=zz
  have I5':=I5.pinned (hfpo _ H5 fr5) (T.obj _ _ st5)
  have hg5:=hg _ s5 σ1 H5 x u _ I5' r5 (step x H5 y5)
  rw[hXp,hXw,hXA] at hg5
  refine aF (cM hg5 (fun _ s6 zz=>?_) fun e s z=>absurd z (hxe e s))
  obtain ⟨σ6,H6,I6,q6⟩:=zz
  have ht6:=ht _ s6 σ6 H6 _ (notedBy (model X.prog X.w) X.A X'.env fun e s'=>R (.error e) s') I6 q6 (fun e s z=>absurd z (hxe e s))
  rw[hXp,hXw,hXA] at ht6
  refine aF (thn ht6 fun b s7 zz=>?_)
  obtain ⟨H7,I7,q7⟩:=zz
  have back:∀ {σ8:L2.St} {H8:Hp} {s8:aJ},Inv X' ([(D,D9 its k)]++Rg fp s5.heap) σ8 H8 s8->tn (i+1) s8.heap/\(∀ b∈fp,H8 b=none)/\s8.heap.get? D=some (D9 its k)/\H8 D=none:=fun {σ8 H8 s8} I8=>by
   refine ⟨T.keep _ _ _ st5 fun b hb o e=>(I8.pin (b,o) (bR _ (bR _ (Ko hb e)))).1,fun b hb=>?_,?_,?_⟩
   ·obtain ⟨o,e,d⟩:=T.obj _ _ st5 b hb
    exact (I8.pin (b,o) (bR _ (bR _ (Ko hb e)))).2.1
   ·exact (I8.pin (D,D9 its k) (bR _ (dR _ (dQ.mpr rfl)))).1
   ·exact (I8.pin (D,D9 its k) (bR _ (dR _ (dQ.mpr rfl)))).2.1
  cases b with
  | false=>
   obtain ⟨m',hm,w8⟩:=(q7:if false=true then _ else _)
   obtain ⟨st8,fr8,_,_⟩:=back I7
   refine aT ⟨rfl,m',hm,i+1,acc,its,k,σ6,H7,?_,hv,hz,st8,fr8,w8⟩
   exact I7.pins_of fun p hp=>I7.pin p (bR _ (dR _ hp))
  | true=>
   have q7':te σ6 H7 fun y H6=>acc.length < sizeLine/\∃ m',m' < n/\W (i+1) m' (acc++[y]) σ6 H6:=q7
   have he7:=he _ s7 σ6 H7 _ I7 q7'
   rw[hXp,hXw,hXA] at he7
   refine aF (aF (cM he7 (fun y s8 zz=>zz.elim fun v H8 I8 r8 zq=>?_) fun e s z=>absurd z (hxe e s)))
   obtain ⟨hlt,m',hm,w8⟩:=zq
   obtain ⟨st8,fr8,hDo,hDn⟩:=back I8
   have hlen:=hv.length
   have hisl:s8.heap.IsList D its.toArray:=⟨_,hDo,rfl,k,rfl⟩
   refine aF ?_
   obtain ⟨k',hd'⟩:∃ k',fI (·.push y) (D9 its k)=D9 (its++[y]) k':=⟨_,by simp[D9,fI];rfl⟩
   refine fF slot_list_append hisl.typeIs entry_list_append ?_ (args_list_append _ _)
   show wpAny _ _ (updateSeq D (·.push y) >>= fun _=>ret .none) _ _ s8
   refine aF (wpAny_updateSeq hDo rfl (aT ⟨.none,rfl,?_⟩))
   have hk9:∀ b o,b≠D->s8.heap.get? b=some o->(s8.heap.update D (fI (·.push y))).get? b=some o:=fun b o hb e=>(jF (h:=s8.heap) (a:=D) ..).2 b hb |>.trans e
   have hD9:(s8.heap.update D (fI (·.push y))).get? D=some (D9 (its++[y]) k'):=by
    rw[<- hd'];exact cY _ hDo (by rw[hd'];exact Obj.isFreed_of_seq (xs:=(its++[y]).toArray) (n:=k') rfl)
   have I8':Inv X' [] σ6 H8 s8:=I8.pins_of fun p hp=>by cases hp
   obtain ⟨d0,d1,d2,d3,d4,d5⟩:=hDf H8 hDn
   have I9:Inv X' [] σ6 H8 { s8 with heap:=s8.heap.update D (fI (·.push y)) }:=I8'.turned (t':=s8.toks) hk9 hDn d1 d3 d4 d5
   have I10:=I9.pins_of (pins':=[(D,D9 (its++[y]) k')]) fun p hp=>by
    have:p=(D,D9 (its++[y]) k'):=by simpa using hp
    subst this
    exact ⟨hD9,hDn,d1,d2,fun v z=>by simp[D9] at z⟩
   refine aT (aT ⟨rfl,m',hm,i+1,acc++[v],its++[y],k',σ6,H8,I10,Vals.append hv (.cons r8 .nil),by rw[cN];simp;omega,?_,fr8,w8⟩)
   refine T.keep _ _ _ st8 fun b hb o e=>hk9 b o (hfp b hb).2 e
end
section
variable {X:Cx}{scope:gX}{N':List Str}{ix:List (Option Nat)}
noncomputable def Aft(ix:List (Option Nat))(wi:TI)(g:TG)(tt:TT)(te:TE):TE:=fun σ H Q=>wi σ H fun J H1=>Ado J g tt te (inner ix σ) H1 fun acc H2=>∀ p,H2 p=none->Q (.ref p) (upd H2 p (.lst acc))
theorem Se{elt tg iter:Expr}{ifs:List Expr}{pos:Pos}{g:TG}{tt:TT}{te:TE}{pins:List (Addr×Obj)}{σ:L2.St}{H2:Hp}{s2:aJ}{cl:List (Str×Addr)}{fp:List Addr}{it:Addr}{J:It}{tn:Nat->Heap->Prop}{E:aE->aJ->Prop}{Fin:List V->Hp->Prop}{RR:aE->Addr->Result->aJ->Prop}
  (S:CompSc X scope N' ix) (hcalm:X.calm=true) (hcl:∀ x c,cl.lookup x=some c->X.env.cells.lookup x=some c) (hcl2:∀ y∈scope.names,y.2 = .free->∃ c,cl.lookup y.1=some c)
  (hg:∀ C,PG (blk X scope cl C N' s2 H2 fp pins) tg g) (ht:∀ C,Sv (blk X scope cl C N' s2 H2 fp pins) ifs tt) (he:∀ C,PE (blk X scope cl C N' s2 H2 fp pins) elt te)
  (I2:Inv X pins σ H2 s2) (T:Turn X.prog X.w X.K tg J fp it tn) (st2:tn 0 s2.heap) (f2:∀ b∈fp,Mj X pins H2 b) (hloop:Ado J g tt te (inner ix σ) H2 Fin)
  (hRR:∀ (D C:Addr) (s':aJ) (H':Hp) (acc:List V),Inv X pins σ (upd H' D (.lst acc)) s'->H' D=none->(∃ m,s'.heap.Ns C m)->(upd H' D (.lst acc)) C=none->Mj X pins (upd H' D (.lst acc)) C->Fin acc H'->RR (.ref D) C (.ok .next) s') :
  wpAny (model X.prog X.w) X.A (newList []) (fun acc s₃=>wpAny (model X.prog X.w) X.A (newFunctionEnv scope X.env.globals cl [] X.env.qual none .none (some X.env)) (fun cenv s₄=>
   iN (model X.prog X.w) X.A (.compStart (.ListComp elt [⟨tg,iter,ifs,0⟩] scope pos) 0 (.ref it) acc { cenv with scope:=relabel scope X.env }) (RR acc cenv.locals) s₄) E s₃) E s2:=by
 have hcell:∀ y∈scope.names,y.2≠.cell:=fun y hy z=>by
  have:=cL.mp S.cell y hy
  rw[z] at this;simp at this
 refine cR (wpAny_newFunctionEnv hcell (by intro y hy;simp at hy) (fun h₁ hns₁ hsb₁=>?_) S.kind)
 dsimp only at hns₁ hsb₁ ⊢
 generalize hH2:s2.heap.push { cls:=.type "list",dict:=none,data:=.seq ([]:List aE).toArray } = HP at hns₁ hsb₁ ⊢
 have hCs:HP.objs.size=s2.heap.objs.size+1:=by rw[<- hH2,dW]
 have hDC:s2.heap.objs.size≠HP.objs.size:=by rw[hCs];exact bV (fD _)
 have hCle:s2.heap.objs.size<=HP.objs.size:=by rw[hCs];exact iP _
 have old:∀ b o,s2.heap.get? b=some o->h₁.get? b=some o:=fun b o e=>hsb₁.extBut b o (bV (aU (aR e) hCle)) (aG _ (hH2 ▸ aG _ e))
 have hacc:h₁.get? s2.heap.objs.size=some (D9 [] 0):=hsb₁.extBut _ _ hDC (aG _ (hH2 ▸ aY _ rfl))
 have hfp:∀ b∈fp,b < s2.heap.objs.size:=fun b hb=>by
  obtain ⟨o,e,_⟩:=T.obj _ _ st2 b hb
  exact aR e
 generalize hDg:s2.heap.objs.size=D at hDC hacc
 generalize hCg:HP.objs.size=C at *
 have hDle:s2.heap.objs.size<=D:=nK hDg
 have hD2:s2.heap.get? D=none:=by
  cases q:s2.heap.get? D with
  | none=>rfl
  | some o=>exact absurd (aU (aR q) hDle) (dL _)
 have I4:=Acj (t4:=s2.toks+([]:List (Str×aE)).length) S hcalm I2 hcl hcl2 f2 hfp hCle hns₁ old
 have above:∀ a,s2.heap.objs.size<=a->a∉frs X.stack/\(∀ x c,X.env.cells.lookup x=some c->c≠a)/\(∀ p∈X.pn++pins,p.1≠a)/\a≠X.env.locals:=fun a ha=>by
  refine ⟨fun z=>?_,fun x c e z=>?_,fun p hp z=>?_,?_⟩
  ·rcases cB.mp (I2.stkSub a z) with q | q
   ·exact absurd (aU I2.lt (q ▸ ha)) (dL _)
   ·exact I2.nofs ha q
  ·obtain ⟨v,q⟩:=I2.cell x c e
   exact absurd (aU q.lt (z ▸ ha)) (dL _)
  ·exact absurd (aU (aR (I2.pin p hp).1) (z ▸ ha)) (dL _)
  ·intro z;exact absurd (aU I2.lt (z ▸ ha)) (dL _)
 have hfpX:∀ b∈fp,Mj (blk X scope cl C N' s2 H2 fp pins) [] H2 b/\b≠D:=fun b hb=>by
  obtain ⟨q0,q1,q2,q3,q4,q5⟩:=f2 b hb
  have hlt:=hfp b hb
  refine ⟨⟨q0,bV (aU hlt hCle),fun z=>?_,.inl hb,fun x c e=>q4 x c (hcl x c e),fun p hp=>q5 p (by simpa[blk] using hp)⟩,bV (aU hlt hDle)⟩
  rcases cB.mp (I2.stkSub b z) with q | q
  ·exact q1 q
  ·exact q2 q
 have hDf:∀ H:Hp,H D=none->Mj (blk X scope cl C N' s2 H2 fp pins) [] H D:=fun H hn=>by
  obtain ⟨a1,a2,a3,a4⟩:=above D hDle
  exact ⟨hn,hDC,a1,.inr hDle,fun x c e=>a2 x c (hcl x c e),fun p hp=>a3 p (by simpa[blk] using hp)⟩
 have hDn2:H2 D=none:=I2.hok.fresh hDle
 have I5:Inv (blk X scope cl C N' s2 H2 fp pins) [(D,D9 [] 0)] (inner ix σ) H2 { s2 with heap:=h₁,toks:=s2.toks+([]:List (Str×aE)).length }:=I4.pins_of fun p hp=>by
  have:p=(D,D9 [] 0):=by simpa using hp
  subst this
  obtain ⟨_,d1,d2,_⟩:=hDf H2 hDn2
  exact ⟨hacc,hDn2,d1,d2,fun v z=>by simp[D9] at z⟩
 have st5:tn 0 h₁:=T.keep _ _ _ st2 fun b _ o e=>old b o e
 have loop:iN (model X.prog X.w) X.A (.compLoop (.ListComp elt [⟨tg,iter,ifs,0⟩] scope pos) 0 (.ref it) (.ref D) (blk X scope cl C N' s2 H2 fp pins).env) (RR (.ref D) C) { s2 with heap:=h₁,toks:=s2.toks+([]:List (Str×aE)).length }:=by
  refine Abk (X':=blk X scope cl C N' s2 H2 fp pins) ⟨rfl,rfl,rfl,rfl,hcalm,fun _ _ z=>z⟩ T (hg C) (ht C) (he C) hDle hDC hCle hfpX hDf I5 st5 (fun b hb=>(f2 b hb).1) hloop ?_
  intro s' σ' H' acc its n I hv hz fin
  obtain ⟨hDo,hDn,_⟩:=I.pin (D,D9 its n) (bR _ (dQ.mpr rfl))
  have hbase:Un (frs X.stack) fp H2 H' s2.heap s'.heap:=I.base
  have hok:HOk X.prog X.w (upd H' D (.lst acc)) s'.heap:=HOk.adopt I.hok hDn ⟨hz,its,n,hv,hDo⟩
  have IX:Inv X pins σ (upd H' D (.lst acc)) s':=I2.call' I.os (Un.adopt hbase hDn hD2) hok I.bare fun b hb=>⟨(f2 b hb).2.2.2.1,(f2 b hb).2.1,(f2 b hb).2.2.2.2.1,(f2 b hb).2.2.2.2.2⟩
  obtain ⟨m,hm,_⟩:=I.loc
  have hCn:(upd H' D (.lst acc)) C=none:=by rw[A9 (cS hDC)];exact I.free
  obtain ⟨a1,a2,a3,a4⟩:=above C hCle
  refine hRR D C s' H' acc IX hDn ⟨m,hm⟩ hCn ⟨hCn,a4,fun z=>?_,.inr (cC I2.sz hCle),a2,a3⟩ fin
  exact I2.nofs hCle z
 have e1:({ newEnv scope C X.env.globals cl X.env.qual none .none (some X.env) mY with scope:=relabel scope X.env }:eD)=(blk X scope cl C N' s2 H2 fp pins).env:=rfl
 exact codeAny_compStart_list loop (T.self _ 0 _ _ _ st5 loop)
theorem CompSc.names{scope:gX}(S:CompSc X scope N' ix):∀ x∈scope.names,x.2 = .local->scope.names.lookup x.1=some .local:=fun x hx hl=>by
 have:=cL.mp S.loc x hx
 rw[hl] at this
 simpa using this
theorem CompSc.clos{scope:gX}(S:CompSc X scope N' ix)(ok:X.Ok):∃ cl,closureFor scope X.env=pure cl/\(∀ x c,cl.lookup x=some c->X.env.cells.lookup x=some c)/\∀ y∈scope.names,y.2 = .free->∃ c,cl.lookup y.1=some c:=by
 refine R0 fun y hy hf=>?_
 have:=cL.mp S.free y hy
 rw[hf] at this
 simp at this
 exact ok.has y.1 this
theorem Yz{elt tg iter:Expr}{ifs:List Expr}{pos:Pos}{wi:TI}{g:TG}{tt:TT}{te:TE}(S:CompSc X scope N' ix)(hcalm:X.calm=true)(hi:PI X tg iter wi)
  (hg:∀ cl C s2 H2 fp pins,PG (blk X scope cl C N' s2 H2 fp pins) tg g) (ht:∀ cl C s2 H2 fp pins,Sv (blk X scope cl C N' s2 H2 fp pins) ifs tt) (he:∀ cl C s2 H2 fp pins,PE (blk X scope cl C N' s2 H2 fp pins) elt te)
  (hs:∀ x,foldedSetIterable iter X.env x=pure x:=by intro _;rfl):PE X (.ListComp elt [⟨tg,iter,ifs,0⟩] scope pos) (Aft ix wi g tt te):=by
 intro pins s σ H Q I h
 obtain ⟨cl,hclos,hcl,hcl2⟩:=S.clos I.ok
 rw[eval_ListComp]
 refine kP (use:=none) rfl hs hclos S.kind S.names (thn (hi pins s σ H _ I h) fun v s1 h1=>thn h1 fun itv s2 h2=>?_)
 obtain ⟨it,fp,tn,J,H2,e,I2,T,st2,f2,loop⟩:=h2
 subst e
 refine Se (RR:=fun acc C=>compPost (model X.prog X.w) X.A X.xe none (EP X pins σ Q) acc C) S hcalm hcl hcl2 (fun C=>hg cl C s2 H2 fp pins) (fun C=>ht cl C s2 H2 fp pins) (fun C=>he cl C s2 H2 fp pins) I2 T st2 f2 loop ?_
 intro D C s' H' acc IX hDn ⟨m,hm⟩ hCn hC fin
 refine ⟨m,hm,fun h' hsb=>?_⟩
 obtain ⟨c0,c1,c2,c3,c4,c5⟩:=hC
 exact ⟨.ref D,_,IX.turned (t':=s'.toks) (fun b o hb e=>hsb.2 b hb |>.trans e) c0 c1 c3 c4 c5,rfl,fin D hDn⟩
theorem Agf{i:Nat}{y:Str}{py spos:Pos}{elt tg iter:Expr}{ifs:List Expr}{pos:Pos}{wi:TI}{g:TG}{tt:TT}{te:TE}(hN:X.N.Nodup)(hiN:X.N[i]? = some y)(hx:Loc X.env.scope y)(hf:X.fn y=true\/X.env.scope.names.lookup y=some .local)
  (S:CompSc X scope N' ix) (hcalm:X.calm=true) (hi:PI X tg iter wi)
  (hg:∀ cl C s2 H2 fp pins,PG (blk X scope cl C N' s2 H2 fp pins) tg g) (ht:∀ cl C s2 H2 fp pins,Sv (blk X scope cl C N' s2 H2 fp pins) ifs tt) (he:∀ cl C s2 H2 fp pins,PE (blk X scope cl C N' s2 H2 fp pins) elt te)
  (hsw:swapsWith (.ListComp elt [⟨tg,iter,ifs,0⟩] scope pos) (some (.Name y py)) spos.line X.env=pure true)
  (hs:∀ x,foldedSetIterable iter X.env x=pure x:=by intro _;rfl):PS X (.Assign [.Name y py] (.ListComp elt [⟨tg,iter,ifs,0⟩] scope pos) spos) (Age (Aft ix wi g tt te) (Vl i)):=by
 intro pins s σ H Dn I h
 obtain ⟨cl,hclos,hcl,hcl2⟩:=S.clos I.ok
 rw[exec_Assign_Name_used _ _ _ _ hsw]
 refine aF (gI (aF ?_))
 show wpAny _ X.A (do let _ <- comprehension (.ListComp elt [⟨tg,iter,ifs,0⟩] scope pos) scope X.env _ (newList []) false (eval iter X.env) (some (assign (.Name y py) X.env))) _ _ s
 refine aF (cM (kP (Q:=fun _ s'=>SP X pins Dn .next s') (use:=some (assign (.Name y py) X.env)) rfl hs hclos S.kind S.names (thn (hi pins s σ H _ I h) fun v s1 h1=>thn h1 fun itv s2 h2=>?_)) (fun _ s' hq=>aT (aT hq)) fun _ _ e=>e)
 obtain ⟨it,fp,tn,J,H2,e,I2,T,st2,f2,loop⟩:=h2
 subst e
 refine Se (RR:=fun acc C=>compPost (model X.prog X.w) X.A X.xe (some (assign (.Name y py) X.env)) (fun _ s'=>SP X pins Dn .next s') acc C) S hcalm hcl hcl2 (fun C=>hg cl C s2 H2 fp pins) (fun C=>ht cl C s2 H2 fp pins) (fun C=>he cl C s2 H2 fp pins) I2 T st2 f2 loop ?_
 intro D C s' H' acc IX hDn ⟨m,hm⟩ hCn hC fin
 obtain ⟨c0,c1,c2,c3,c4,c5⟩:=hC
 obtain ⟨oC,es,ep,hoC,hdC,hrest⟩:=id hm
 have IP:Inv X (pins++[(C,oC)]) σ (upd H' D (.lst acc)) s':=IX.pins_of fun p hp=>by
  rcases eS.mp hp with z | z
  ·exact IX.pin p (bR _ z)
  ·have:p=(C,oC):=by simpa using z
   subst this
   exact ⟨hoC,c0,c1,c2,fun v z=>by rw[hdC] at z;cases z⟩
 have hq:Vl i (.ref D) σ (upd H' D (.lst acc)) Dn.nx:=fin D hDn
 refine thn (Aax (i:=i) (pos:=py) hN hiN hx hf (pins++[(C,oC)]) s' σ _ (.ref D) (.ref D) Dn.nx IP rfl hq) fun _ s'' zz=>?_
 obtain ⟨σ'',H'',I'',q''⟩:=zz
 obtain ⟨p1,p2,p3,p4,p5⟩:=I''.pin (C,oC) (bR _ (bR _ (dQ.mpr rfl)))
 refine ⟨m,⟨oC,es,ep,p1,hdC,hrest⟩,fun h' hsb=>?_⟩
 exact ⟨σ'',H'',(I''.unpinned).turned (t':=s''.toks) (fun b o hb e=>hsb.2 b hb |>.trans e) p2 p3 c3 c4 c5,q''⟩
end
noncomputable def Hf(tt:Option FT):FT:=fun δ L=>match tt with
 | none=>some (true,L)
 | some f=>f δ L
noncomputable def Rr(it:IU)(g:FG)(tt:Option FT)(fe:FE):Nat->Nat->List U->UE->UH->Option (List U×UH)
 | 0,_,_,_,_=>none
 | m+1,k,acc,δ,L=>match it.at k L with
  | none=>none
  | some none=>some (acc,L)
  | some (some u)=>(g u δ L).bind fun p=>(Hf tt p.1 p.2).bind fun q=>if q.1=true then (fe p.1 q.2).bind fun r=>if decide (acc.length < sizeLine)=true then Rr it g tt fe m (k+1) (acc++[r.1]) p.1 r.2 else none
   else Rr it g tt fe m (k+1) acc p.1 q.2
noncomputable def Jf(ix:List (Option Nat))(δ:UE):UE:=ix.map fun o=>o.bind fun i=>(δ[i]?).join
noncomputable def Bn(ix:List (Option Nat))(fi:FI)(g:FG)(tt:Option FT)(fe:FE):FE:=fun δ L=>(fi δ L).bind fun p=>(Rr p.1 g tt fe (p.1.size p.2+1) 0 [] (Jf ix δ) p.2).map fun q=>(.ref q.2.length,q.2++[.lst q.1])
theorem RepS.inner{K:aC}{H:Hp}{α:List Addr}{δ:UE}{σ:L2.St}(S:RepS K H α δ σ)(ix:List (Option Nat)):RepS K H α (Jf ix δ) (MR.inner ix σ):=by
 refine ⟨by simp[Jf,MR.inner],fun j u e=>?_⟩
 unfold Jf at e
 unfold MR.inner
 rw[bO] at e ⊢
 cases hx:ix[j]? with
 | none=>rw[hx] at e;simp at e
 | some o=>
  rw[hx] at e
  cases o with
  | none=>simp at e
  | some i=>
   simp at e
   have:δ[i]? = some (some u):=by
    cases q:δ[i]? with
    | none=>rw[q] at e;simp at e
    | some o=>rw[q] at e;simp at e;rw[e]
   obtain ⟨v,hv,r⟩:=S.at_ i u this
   exact ⟨v,by simp[hv],r⟩
noncomputable def lTo(K:aC)(tt:Option FT):TT:=match tt with
 | none=>Agi
 | some f=>lT K f
inductive CI(K:aC)(it:IU)(g:FG)(tt:Option FT)(fe:FE)(H1:Hp)(α1:List Addr)(ys:List U)(L2:UH)(k m:Nat)(acc:List V)(σ2:_root_.L2.St)(H2:Hp):Prop
 | mk (α2:List Addr) (δ2:UE) (M:UH) (us:List U) (g2:Gr H1 α1 H2 α2) (A2:Abs K H2 α2 M) (S2:RepS K H2 α2 δ2 σ2) (r2:RepL K H2 α2 us acc) (e:Rr it g tt fe m k us δ2 M=some (ys,L2)):CI K it g tt fe H1 α1 ys L2 k m acc σ2 H2
theorem Ur{K:aC}{ix:List (Option Nat)}{fi:FI}{g:FG}{tt:Option FT}{fe:FE}:∀ σ H Q,lE K (Bn ix fi g tt fe) σ H Q->Aft ix (lI K fi) (lG K g) (lTo K tt) (lE K fe) σ H Q:=by
 rintro σ H Q ⟨α,δ,L,A,S,z,L3,e,q⟩
 obtain ⟨⟨it,L1⟩,e1,e⟩:=aB.mp e
 obtain ⟨⟨ys,L2⟩,e2,e⟩:=aM.mp e
 cases e
 refine ⟨α,δ,L,A,S,it,L1,e1,fun J H1 α1 g1 A1 hJ=>?_⟩
 refine ⟨CI K it g tt fe H1 α1 ys L2,⟨_,α1,_,L1,[],.refl _ _,A1,(S.mono g1).inner ix,.nil,e2⟩,?_⟩
 rintro k m acc σ2 H2 ⟨α2,δ2,M,us,g2,A2,S2,r2,e3⟩
 cases m with
 | zero=>cases e3
 | succ m=>
  obtain ⟨hgo,hstop⟩:=hJ H2 α2 M g2 A2 k
  unfold Rr at e3
  cases hat:it.at k M with
  | none=>rw[hat] at e3;cases e3
  | some o=>
   cases o with
   | none=>
    rw[hat] at e3
    cases e3
    refine .inl ⟨hstop hat,fun p hp=>?_⟩
    obtain ⟨g3,A3,r3⟩:=A2.lst r2 hp
    exact q _ _ _ (g1.trans (g2.trans g3)) A3 r3
   | some u=>
    rw[hat] at e3
    obtain ⟨go,yld⟩:=hgo u hat
    obtain ⟨⟨δ3,L3⟩,e4,e3⟩:=aB.mp e3
    obtain ⟨⟨b,L4⟩,e5,e3⟩:=aB.mp e3
    refine .inr ⟨go,fun x H3 y3=>?_⟩
    obtain ⟨g3,A3,r3⟩:=yld x H3 y3
    refine ⟨α2,δ2,M,u,A3,S2.mono g3,r3,δ3,L3,e4,fun σ4 H4 α4 g4 A4 S4=>?_⟩
    have after:∀ H5 α5,Gr H4 α4 H5 α5->Abs K H5 α5 L4->(if b=true then lE K fe σ4 H5 (fun y H6=>acc.length < sizeLine/\∃ m',m' < m+1/\CI K it g tt fe H1 α1 ys L2 (k+1) m' (acc++[y]) σ4 H6) else ∃ m',m' < m+1/\CI K it g tt fe H1 α1 ys L2 (k+1) m' acc σ4 H5):=fun H5 α5 g5 A5=>by
     have gA:=g2.trans (g3.trans (g4.trans g5))
     have gB:=g3.trans (g4.trans g5)
     cases b with
     | false=>exact Abe ⟨m,fD _,α5,δ3,L4,us,gA,A5,S4.mono g5,r2.mono gB,e3⟩
     | true=>
      obtain ⟨⟨w,L5⟩,e6,e3⟩:=aB.mp e3
      simp only at e3
      split at e3
      ·rename_i hlt
       refine Abx ⟨α5,δ3,L4,A5,S4.mono g5,w,L5,e6,fun y H6 α6 g6 A6 r6=>?_⟩
       exact ⟨by rw[<- r2.length];exact of_decide_eq_true hlt,m,fD _,α6,δ3,L5,us++[w],gA.trans g6,A6,(S4.mono g5).mono g6,(r2.mono (gB.trans g6)).append (.cons r6 .nil),e3⟩
      ·cases e3
    cases tt with
    | none=>
     cases e5
     exact after H4 α4 (.refl _ _) A4
    | some f=>exact ⟨α4,δ3,L3,A4,S4,b,L4,e5,fun H5 α5 g5 A5=>after H5 α5 g5 A5⟩
section
variable {X:Cx}{scope:gX}{N':List Str}{ix:List (Option Nat)}{elt tg iter c:Expr}{pos:Pos}{fi:FI}{g:FG}{ft:FT}{fe:FE}
theorem Dm(S:CompSc X scope N' ix)(hcalm:X.calm=true)(hi:PIF X tg iter fi)(hg:∀ cl C s2 H2 fp pins,PGF (blk X scope cl C N' s2 H2 fp pins) tg g)(he:∀ cl C s2 H2 fp pins,PEF (blk X scope cl C N' s2 H2 fp pins) elt fe)
  (hs:∀ x,foldedSetIterable iter X.env x=pure x:=by intro _;rfl):PEF X (.ListComp elt [⟨tg,iter,[],0⟩] scope pos) (Bn ix fi g none fe):=
 PE.imp (Yz (g:=lG X.K g) (te:=lE X.K fe) (tt:=Agi) S hcalm hi hg (fun _ _ _ _ _ _=>Sl) he hs) Ur
theorem K7(S:CompSc X scope N' ix)(hcalm:X.calm=true)(hi:PIF X tg iter fi)(hg:∀ cl C s2 H2 fp pins,PGF (blk X scope cl C N' s2 H2 fp pins) tg g)(ht:∀ cl C s2 H2 fp pins,PTF (blk X scope cl C N' s2 H2 fp pins) c ft)(he:∀ cl C s2 H2 fp pins,PEF (blk X scope cl C N' s2 H2 fp pins) elt fe)
  (hs:∀ x,foldedSetIterable iter X.env x=pure x:=by intro _;rfl):PEF X (.ListComp elt [⟨tg,iter,[c],0⟩] scope pos) (Bn ix fi g (some ft) fe):=
 PE.imp (Yz (g:=lG X.K g) (te:=lE X.K fe) (tt:=lT X.K ft) S hcalm hi hg (fun _ _ _ _ _ _=>Aaz (ht _ _ _ _ _ _)) he hs) (Ur (tt:=some ft))
theorem Ak8{K:aC}{i:Nat}{fc:FE}{t:TE}(ht:∀ σ H Q,lE K fc σ H Q->t σ H Q):∀ D σ H,lS K (Bq fc (gN i)) D σ H->Age t (Vl i) D σ H:=by
 rintro D σ H ⟨α,δ,L,A,S,fl,L',e,q⟩
 obtain ⟨⟨u,L1⟩,e1,e⟩:=aB.mp e
 obtain ⟨⟨δ2,L2⟩,e2,e⟩:=aM.mp e
 cases e
 cases e2
 exact ht σ H _ ⟨α,δ,L,A,S,u,_,e1,fun v H1 α1 g1 A1 r1=>q _ H1 α1 g1 A1 ((S.mono g1).set i r1)⟩
theorem Wu{i:Nat}{y:Str}{py spos:Pos}(hN:X.N.Nodup)(S:CompSc X scope N' ix)(hcalm:X.calm=true)(hi:PIF X tg iter fi)(hg:∀ cl C s2 H2 fp pins,PGF (blk X scope cl C N' s2 H2 fp pins) tg g)(he:∀ cl C s2 H2 fp pins,PEF (blk X scope cl C N' s2 H2 fp pins) elt fe)
  (hiN:X.N[i]? = some y:=by rfl) (hx:Loc X.env.scope y:=by first | exact pV rfl | exact pG rfl) (hf:X.fn y=true\/X.env.scope.names.lookup y=some .local:=by first | exact .inl rfl | exact .inr rfl)
  (hsw:swapsWith (.ListComp elt [⟨tg,iter,[],0⟩] scope pos) (some (.Name y py)) spos.line X.env=pure true:=by rfl)
  (hs:∀ x,foldedSetIterable iter X.env x=pure x:=by intro _;rfl):PSF X (.Assign [.Name y py] (.ListComp elt [⟨tg,iter,[],0⟩] scope pos) spos) (Bq (Bn ix fi g none fe) (gN i)):=
 PS.imp (Agf (i:=i) (g:=lG X.K g) (te:=lE X.K fe) (tt:=Agi) hN hiN hx hf S hcalm hi hg (fun _ _ _ _ _ _=>Sl) he hsw hs) (Ak8 Ur)
end
section
variable {X:Cx}{pins:List (Addr×Obj)}{σ:L2.St}{H:Hp}{s:aJ}{h':Heap}
theorem Inv.turnNew{ch:List Addr}{p:Addr}{o:HO}{t':Nat}(I:L2.Inv X pins σ H s)(hch:∀ b∈ch,Mj X pins H b)(k:∀ b o,b∉ch->s.heap.get? b=some o->h'.get? b=some o)(hp:s.heap.objs.size<=p)(new:ObjOk X.prog X.w (upd H p o) h' p o) :
  L2.Inv X pins σ (upd H p o) { s with heap:=h',toks:=t' }:=by
 have hn:H p=none:=I.hok.fresh hp
 have nch:∀ b u,H b=some u->b∉ch:=fun b u e hb=>by rw[(hch b hb).1] at e;cases e
 have st:=Stay.new hn o
 refine I.step (g':=s.gens) (d':=s.drawn) (ch:=ch) (fun b hb=>?_) (fun b o _ _ hc e _=>k b o hc e) (fun b o _ _ hc e _=>⟨o.slots,k b o hc e⟩) (fun b u hc e n=>?_) (fun b u hc e=>⟨u,k b u hc e⟩) st.1 st.2 (fun b ps e=>⟨#[],?_⟩) (fun m hm=>?_) (fun b u e=>?_) I.bare
 ·obtain ⟨_,f1,_,f3,f4,f5⟩:=hch b hb
  exact ⟨f3,f1,f4,f5⟩
 ·rw[A9 (bV (aU (aR e) hp))];exact n
 ·rw[A9 (Br e hn),e];simp
 ·obtain ⟨o1,es,ep,ho,r⟩:=hm
  exact ⟨o1,es,ep,k _ o1 (fun z=>(hch _ z).2.1 rfl) ho,r⟩
 ·by_cases hb:b=p
  ·subst hb;rw[upd_same] at e;cases e;exact new
  ·rw[A9 hb] at e
   refine (I.hok b u e).stay (fun c v hc q=>k c v ?_ q) (fun c q=>by rw[A9 (Br q hn)];exact q) fun c xs q=>by rw[A9 (Br q hn)];exact q
   rcases hc with z | z
   ·rw[z];exact nch b u e
   ·exact nch c _ z
end
theorem Acd(n l1 l2:Nat)(h1:l1 < n)(h2:l2 < n):mD (n+4) (n+2) (n+3) n (n+1) l1 l2:=by
 constructor <;> (intro q;exact absurd (show (_:Nat)=_ from q) (by omega))
section
variable {X:Cx}{elts:List Expr}{x1:Nat}{tpos:Pos}
theorem Ae7:eT "zip" = some (.type "zip"):=by decide +kernel
noncomputable def Alx(g:FA):FI:=fun δ L=>(g δ L).bind fun p=>match p.1 with
 | [.ref n]=>(Ba p.2 n).map fun _=>(.enm n,p.2)
 | _=>none
noncomputable def Aoc(g:FA):FI:=fun δ L=>(g δ L).bind fun p=>match p.1 with
 | [.ref n,.ref m]=>(Ba p.2 n).bind fun _=>(Ba p.2 m).map fun _=>(.zip2 n m,p.2)
 | _=>none
end
end MR
namespace HT
open PySem PySem.Spec PyProof.Rows
section
variable {prog:bP}{w:cE}{A:cG}{E:aE->aJ->Prop}{s:aJ}
end
end HT
namespace MR
open PySem PySem.Spec PyProof.Rows L2
section
variable {X:Cx}{e st:Expr}{fa fs:FE}{p2 pos:Pos}
noncomputable def Anw(f:FE):FE:=fun δ L=>(f δ L).bind fun p=>match p.1 with | .ref n=>(Ba p.2 n).map fun l=>(.ref p.2.length,p.2++[.lst l.reverse]) | .tup l=>some (.tup l.reverse,p.2) | _=>none
end
structure ClsF(K:aC)(C:Str)(Ca:Addr):Prop where
 ns:aS K aP C=some (some (.ref Ca))
 cl:Cls K Ca
theorem ClsF.eq{K:aC}{C:Str}{Ca Cb:Addr}(T:ClsF K C Ca)(h:aS K aP C=some (some (.ref Cb))):Cb=Ca:=by
 have:=T.ns.symm.trans h
 simpa using this.symm
noncomputable def Pg(C:Str)(u:U)(L:UH):Option (Nat×List (Str×U)):=match u with
 | .ref n=>match L[n]? with
  | some (.ins C' fs)=>if C'=C then some (n,fs) else none
  | _=>none
 | _=>none
theorem Nk{C:Str}{u:U}{L:UH}{n:Nat}{fs:List (Str×U)}(h:Pg C u L=some (n,fs)):u = .ref n/\L[n]? = some (.ins C fs):=by
 unfold Pg at h
 split at h
 ·split at h
  ·rename_i e
   split at h
   ·rename_i hc
    cases h
    exact ⟨rfl,by rw[e,hc]⟩
   ·cases h
  ·cases h
 ·cases h
theorem Hz{K:aC}{H:Hp}{α:List Addr}{f:Str}:∀ {fs:List (Str×U)} {vs:List (Str×V)},fs.map (·.1)=vs.map (·.1)->RepL K H α (fs.map (·.2)) (vs.map (·.2))->(∀ u,fs.lookup f=some u->∃ v,vs.lookup f=some v/\RepU K H α u v)/\(fs.lookup f=none->vs.lookup f=none)
 | [],[],_,_=>⟨fun u h=>by simp at h,fun _=>rfl⟩
 | [],_::_,h,_=>by simp at h
 | _::_,[],h,_=>by simp at h
 | (g,u)::fs,(g',v)::vs,h,r=>by
  simp only[aO,jB] at h
  obtain ⟨h1,h2⟩:=h
  subst h1
  simp only[aO] at r
  unfold RepL at r
  obtain ⟨x,xr,e,r1,r2⟩:=r
  cases e
  obtain ⟨i1,i2⟩:=Hz (f:=f) h2 r2
  rw[bX,bX]
  cases hq:f == g with
  | true=>exact ⟨fun w hw=>by cases hw;exact ⟨v,rfl,r1⟩,fun hw=>by cases hw⟩
  | false=>exact ⟨i1,i2⟩
noncomputable def Yc(f:Str)(v:U):List (Str×U)->List (Str×U)
 | []=>[(f,v)]
 | (g,x)::r=>if g=f then (g,v)::r else (g,x)::Yc f v r
theorem Ys{K:aC}{H:Hp}{α:List Addr}{f:Str}{u:U}{v:V}(ru:RepU K H α u v):∀ {fs:List (Str×U)} {vs:List (Str×V)},fs.map (·.1)=vs.map (·.1)->RepL K H α (fs.map (·.2)) (vs.map (·.2))->(Yc f u fs).map (·.1)=(Jd f v vs).map (·.1)/\RepL K H α ((Yc f u fs).map (·.2)) ((Jd f v vs).map (·.2))
 | [],[],_,_=>⟨rfl,.cons ru .nil⟩
 | [],_::_,h,_=>by simp at h
 | _::_,[],h,_=>by simp at h
 | (g,x)::fs,(g',y)::vs,h,r=>by
  simp only[aO,jB] at h
  obtain ⟨h1,h2⟩:=h
  subst h1
  simp only[aO] at r
  unfold RepL at r
  obtain ⟨z,zr,e,r1,r2⟩:=r
  cases e
  obtain ⟨i1,i2⟩:=Ys (f:=f) ru h2 r2
  unfold Yc Jd
  by_cases hq:g=f
  ·simp only[hq,if_true,aO]
   exact ⟨by rw[h2],.cons ru r2⟩
  ·simp only[hq,if_false,aO]
   exact ⟨by rw[i1],.cons r1 i2⟩
section
variable {X:Cx}{o e value:Expr}{es:List Expr}{f m C x:Str}{p pos pos' apos:Pos}{Ca fa:Addr}{fd:bL}{ps:List Str}{k n:Nat}{F:FN}{fe fo fv:FE}{g:FA}
noncomputable def Lr(C f:Str)(fe:FE):FE:=fun δ L=>(fe δ L).bind fun p=>(Pg C p.1 p.2).bind fun q=>(q.2.lookup f).map fun v=>(v,p.2)
theorem Kh(T:ClsF X.K C Ca)(hn:NoAttr X.K Ca f)(he:PEF X e fe)(hb:attributeBase e f X.env (eval e X.env)=eval e X.env:=by rfl):PEF X (.Attribute e f pos) (Lr C f fe):=by
 refine PE.imp (Akt he hb) ?_
 rintro σ H Q ⟨α,δ,L,A,S,z,L3,ee,q⟩
 obtain ⟨⟨u,L1⟩,e1,ee⟩:=aB.mp ee
 obtain ⟨⟨n,fs⟩,e2,ee⟩:=aB.mp ee
 obtain ⟨w,e3,ee⟩:=aM.mp ee
 cases ee
 obtain ⟨rfl,hL⟩:=Nk e2
 refine ⟨α,δ,L,A,S,_,L1,e1,fun x H1 α1 g1 A1 r1=>?_⟩
 obtain ⟨a,ea,Cb,dx,vs,hns,ha,hk,rr⟩:=A1.addr hL
 obtain ⟨a',ea',rfl⟩:=r1.ref_of A1
 rw[ea] at ea';cases ea'
 have:=T.eq hns
 subst this
 obtain ⟨v,hv,rv⟩:=(Hz hk rr).1 _ e3
 exact ⟨a,Cb,dx,vs,v,rfl,ha,T.cl,hn,hv,q v H1 α1 g1 A1 rv⟩
noncomputable def Afw(C f:Str)(fo fv:FE):FS:=fun δ L=>(fv δ L).bind fun p=>(fo δ p.2).bind fun q=>(Pg C q.1 q.2).bind fun r=>if r.2.length < 1000 then some (.nx δ,q.2.set r.1 (.ins C (Yc f p.1 r.2))) else none
theorem Ahx(T:ClsF X.K C Ca)(hn:NoAttr X.K Ca f)(ho:PEF X o fo)(hv:PEF X value fv)(hs:swapsWith value (some (.Attribute o f pos')) pos.line X.env=pure false:=by rfl):PSF X (.Assign [.Attribute o f pos'] value pos) (Afw C f fo fv):=by
 refine PS.imp (Ajg ho hv hs) ?_
 rintro D σ H ⟨α,δ,L,A,S,fl,L',ee,q⟩
 obtain ⟨⟨u,L1⟩,e1,ee⟩:=aB.mp ee
 obtain ⟨⟨w,L2⟩,e2,ee⟩:=aB.mp ee
 obtain ⟨⟨n,fs⟩,e3,ee⟩:=aB.mp ee
 simp only at ee
 split at ee
 ·rename_i hlen
  cases ee
  obtain ⟨rfl,hL⟩:=Nk e3
  refine ⟨α,δ,L,A,S,u,L1,e1,fun y H1 α1 g1 A1 r1=>⟨α1,δ,L1,A1,S.mono g1,_,L2,e2,fun x H2 α2 g2 A2 r2=>?_⟩⟩
  obtain ⟨a,ea,Cb,dx,vs,hns,ha,hk,rr⟩:=A2.addr hL
  obtain ⟨a',ea',rfl⟩:=r2.ref_of A2
  rw[ea] at ea';cases ea'
  have:=T.eq hns
  subst this
  have hl:vs.length < 1000:=by
   have:=congrArg kK hk
   rw[bB,bB] at this
   omega
  have g3:Gr H2 α2 (upd H2 a (.ins Cb dx (Jd f y vs))) α2:=⟨⟨[],by simp⟩,.write ha (by exact trivial) _⟩
  obtain ⟨k1,k2⟩:=Ys (f:=f) ((r1.mono g2)) hk rr
  obtain ⟨A3,_⟩:=A2.put (o:=.ins Cb dx (Jd f y vs)) (u:=.ins C (Yc f u fs)) ea hL rfl rfl ha (by exact trivial) ⟨Cb,dx,_,hns,upd_same,k1,k2.mono g3⟩
  exact ⟨a,Cb,dx,vs,rfl,ha,T.cl,hn,hl,q _ _ α2 ((g1.trans g2).trans g3) A3 (((S.mono g1).mono g2).mono g3)⟩
 ·cases ee
noncomputable def Bj(C m:Str)(k:Nat)(F:FN)(fo:FE)(g:FA):FE:=fun δ L=>(fo δ L).bind fun p=>(Pg C p.1 p.2).bind fun r=>if r.2.lookup m=none then (g δ p.2).bind fun q=>if q.1.length+1=k then F (.ref r.1::q.1) q.2 else none else none
theorem Wc{K:aC}{E:XK}(T:ClsF K C Ca):∀ σ H Q,lE K (Bj C m n F fo g) σ H Q->Ad5 Ca m (spF K n F) [] E (lE K fo) (lA K g) σ H Q:=by
 rintro σ H Q ⟨α,δ,L,A,S,z,L3,ee,q⟩
 obtain ⟨⟨u,L1⟩,e1,ee⟩:=aB.mp ee
 obtain ⟨⟨j,fs⟩,e2,ee⟩:=aB.mp ee
 simp only at ee
 split at ee
 ·rename_i hno
  obtain ⟨⟨us,L2⟩,e3,ff⟩:=aB.mp ee
  simp only at ff
  split at ff
  ·rename_i hlen
   obtain ⟨rfl,hL⟩:=Nk e2
   refine ⟨α,δ,L,A,S,_,L1,e1,fun x H1 α1 g1 A1 r1=>?_⟩
   obtain ⟨a,ea,Cb,dx,vs,hns,ha,hk,rr⟩:=A1.addr hL
   obtain ⟨a',ea',hx⟩:=r1.ref_of A1
   rw[ea] at ea';cases ea'
   have:=T.eq hns
   subst this
   refine ⟨a,dx,vs,hx,ha,(Hz hk rr).2 hno,α1,δ,L1,A1,S.mono g1,us,L2,e3,fun xs H2 α2 g2 A2 r2=>?_⟩
   refine ⟨α2,L2,.ref j::us,A2,?_,by simpa using hlen,z,L3,ff,fun v H3 α3 g3 A3 r3=>q v H3 α3 (g1.trans (g2.trans g3)) A3 r3⟩
   rw[aX]
   exact .cons (r1.mono g2) r2
  ·cases ff
 ·cases ee
theorem Fh{pl:Sem Bool}(T:ClsF X.K C Ca)(hm:Meth X.K Ca m fa)(hF:FnOk X.prog X.w X.K X.mg X.base CX0 k fa fd ps (spF X.K n F))(hr:Room k X.A)(hb:Binds X.K fd ps [])(ho:PEF X o fo)(ha:PAF X (e::es) g)
  (hst:bA (e::es) X.env=(false,eval e X.env)::bA es X.env:=by rfl) (hpl:(backTo pos (bA es X.env)).any (·.1)=false:=by rfl)
  (ht:eval (.Call (.Attribute o m apos) (e::es) [] pos) X.env=(do
   let ov <- eval o X.env
   standAt apos.atName
   let (f,first) <- holding [ov] (getMethod ov m pl)
   callWith pos f first (backTo pos (bA (e::es) X.env)) (backToKw pos (keywordEach [] X.env))):=by rfl) :
  PEF X (.Call (.Attribute o m apos) (e::es) [] pos) (Bj C m n F fo g):=
 PE.imp (Agm (pl:=pl) ho T.cl hm hF hr hb .nil Y2 ha hst hpl ht) (Wc T)
theorem Jm{pl:Sem Bool}(T:ClsF X.K C Ca)(hm:Meth X.K Ca m fa)(hF:FnOk X.prog X.w X.K X.mg X.base CX0 k fa fd ps (spF X.K n F))(hr:Room k X.A)(hb:Binds X.K fd ps [])(ho:PEF X o fo)
  (ht:eval (.Call (.Attribute o m apos) [] [] pos) X.env=(do
   let ov <- eval o X.env
   standAt apos.atName
   let (f,first) <- holding [ov] (getMethod ov m pl)
   callWith pos f first (backTo pos (bA [] X.env)) (backToKw pos (keywordEach [] X.env))):=by rfl) :
  PEF X (.Call (.Attribute o m apos) [] [] pos) (Bj C m n F fo Ag):=
 PE.imp (Adk (pl:=pl) ho T.cl hm hF hr hb .nil Y2 ht) (fun σ H Q h=>by
  have h:=Wc (E:=E0) T σ H Q h
  obtain ⟨α,δ,L,A,S,u,L1,e1,h⟩:=h
  refine ⟨α,δ,L,A,S,u,L1,e1,fun x H1 α1 g1 A1 r1=>?_⟩
  obtain ⟨a,dx,vs,hx,ha,hl,α2,δ2,L2,A2,S2,us,L3,e3,h3⟩:=h x H1 α1 g1 A1 r1
  cases e3
  exact ⟨a,dx,vs,hx,ha,hl,h3 [] H1 α2 (.refl _ _) A2 .nil⟩)
noncomputable def Oe(C:Str)(k:Nat)(F:FN)(g:FA):FE:=fun δ L=>(g δ L).bind fun p=>if p.1.length+1=k then (F (.ref p.2.length::p.1) (p.2++[.ins C []])).bind fun q=>match q.1 with | .non=>some (.ref p.2.length,q.2) | _=>none else none
theorem Afg{K:aC}{E:XK}(hns:aS K aP C=some (some (.ref Ca))):∀ σ H Q,lE K (Oe C n F g) σ H Q->Ai0 Ca (spF K n F) [] E (lA K g) σ H Q:=by
 rintro σ H Q ⟨α,δ,L,A,S,z,L3,ee,q⟩
 obtain ⟨⟨us,L1⟩,e1,ee⟩:=aB.mp ee
 simp only at ee
 split at ee
 ·rename_i hlen
  obtain ⟨⟨w,L2⟩,e2,ee⟩:=aB.mp ee
  cases w with
  | non=>
   cases ee
   refine ⟨α,δ,L,A,S,us,L1,e1,fun xs H1 α1 g1 A1 r1 x dx nx ndx nex=>?_⟩
   have ga:Gr H1 α1 (upd H1 dx (.own x)) α1:=⟨⟨[],by simp⟩,.new ndx _⟩
   have Aa:Abs K (upd H1 dx (.own x)) α1 L1:=⟨A1.len,A1.inj,fun i a o e1 e2=>(A1.rep i a o e1 e2).other ga (.inr fun u q=>by rw[A9 (Br q ndx)];exact q)⟩
   have nx':(upd H1 dx (.own x)) x=none:=by rw[A9 (cS nex)];exact nx
   obtain ⟨Ab,gb⟩:=Aa.new (o:=.ins Ca dx []) (u:=.ins C []) nx' ⟨Ca,dx,[],hns,upd_same,rfl,.nil⟩
   have rx:RepU K (upd (upd H1 dx (.own x)) x (.ins Ca dx [])) (α1++[x]) (.ref L1.length) (.ref x):=by
    unfold RepU
    exact ⟨x,by rw[<- A1.len];simp,rfl⟩
   refine ⟨α1++[x],L1++[.ins C []],.ref L1.length::us,Ab,?_,by simpa using hlen,.non,L2,e2,fun v H3 α3 g3 A3 r3=>?_⟩
   ·rw[aX]
    exact .cons rx ((r1.mono ga).mono gb)
   ·have hv:v = .non:=by unfold RepU at r3;exact r3
    exact ⟨hv,q _ H3 α3 (g1.trans (ga.trans (gb.trans g3))) A3 (rx.mono g3)⟩
  | _=>cases ee
 ·cases ee
theorem Wl(hns:aS X.K aP C=some (some (.ref Ca)))(M:Mk X.K Ca fa)(hF:FnOk X.prog X.w X.K X.mg X.base CX0 k fa fd ps (spF X.K n F))(hr:Room (k+1) X.A)(hg:Gl X C)(hm:X.mg C=some (.ref Ca))(hb:Binds X.K fd ps [])
  (hdb:(C == ("__debug__" : Str))=false:=by decide):PEF X (.Call (.Name C p) [] [] pos) (Oe C n F Ag):=
 PE.imp (Aek M hF hr hg hm hb .nil Y2 hdb) (fun σ H Q h=>by
  obtain ⟨α,δ,L,A,S,us,L1,e1,h⟩:=Afg (E:=E0) hns σ H Q h
  cases e1
  exact h [] H α (.refl _ _) A .nil)
end
end MR
namespace ZT
open PySem PySem.Spec PyProof.Rows
open Sem (wp)
noncomputable def SqK(b:Bool)(h:Heap)(l:Addr)(xs:Array aE):Prop:=match b with
 | true=>h.IsList l xs
 | false=>h.IsTuple l xs
noncomputable def ItK(b:Bool)(h:Heap)(jt l:Addr)(k:Nat):Prop:=match b with
 | true=>h.IsListIter jt l k
 | false=>h.IsTupleIter jt l k
theorem SqK.keep{b:Bool}{h h':Heap}{l:Addr}{xs:Array aE}(x:SqK b h l xs)(e:∀ o,h.get? l=some o->h'.get? l=some o):SqK b h' l xs:=by
 cases b with
 | true=>obtain ⟨o,ho,r⟩:=x;exact ⟨o,e _ ho,r⟩
 | false=>obtain ⟨o,ho,r⟩:=x;exact ⟨o,e _ ho,r⟩
theorem ItK.keep{b:Bool}{h h':Heap}{jt l:Addr}{k:Nat}(x:ItK b h jt l k)(e:∀ o,h.get? jt=some o->h'.get? jt=some o):ItK b h' jt l k:=by
 cases b with
 | true=>obtain ⟨o,ho,r⟩:=x;exact ⟨o,e _ ho,r⟩
 | false=>obtain ⟨o,ho,r⟩:=x;exact ⟨o,e _ ho,r⟩
theorem ItK.lt{b:Bool}{h:Heap}{jt l:Addr}{k:Nat}(x:ItK b h jt l k):jt < h.objs.size:=by
 cases b with
 | true=>obtain ⟨o,ho,r⟩:=x;exact aR ho
 | false=>obtain ⟨o,ho,r⟩:=x;exact aR ho
theorem ItK.obj{b:Bool}{h:Heap}{jt l:Addr}{k:Nat}(x:ItK b h jt l k):∃ o,h.get? jt=some o/\o.data = .fields #[.ref l,.int k 0]:=by
 cases b with
 | true=>obtain ⟨o,ho,_,r⟩:=x;exact ⟨o,ho,r⟩
 | false=>obtain ⟨o,ho,_,r⟩:=x;exact ⟨o,ho,r⟩
section
variable {prog:bP}{w:cE}{A:cG}{E:aE->aJ->Prop}{s:aJ}
theorem Ae1{jt t:Addr}{k:Nat}{its:Array aE}{v:aE}{Q:aE->aJ->Prop}(hj:s.heap.IsTupleIter jt t k)(ht:s.heap.IsTuple t its)(hv:its[k]? = some v)
  (hQ:∀ h',h'.IsTupleIter jt t (k+1)->fZ jt s.heap h'->Q v { s with heap:=h' }):wpAny (model prog w) A (cD (.ref jt)) Q E s:=by
 obtain ⟨ob,hob,hcl,hda⟩:=id hj
 obtain ⟨ot,hot,_,nt,hdt⟩:=ht
 unfold cD
 refine aF (eC (name:=jJ "__next__") hj.typeIs eN (fF eN hj.typeIs jL ?_ (jC _)))
 show wpAny _ _ (field (.ref jt) 0 >>= _) _ _ s
 refine aF (cJ hob hda (x:=.ref t) rfl ?_)
 show wpAny _ _ (if (bN t == dE)=true then _ else _) _ _ s
 rw[if_neg (show ¬ ((bN t == dE)=true) from (fun z=>eA z))]
 show wpAny _ _ (field (.ref jt) 1 >>= _) _ _ s
 refine aF (cJ hob hda (x:=.int k 0) rfl ?_)
 show wpAny _ _ (seqItems? (.ref t) >>= fun z=>_) _ _ s
 refine aF (eO hot hdt ?_)
 simp only[dH,hv]
 refine aF (fW hob hda (by simp) (aT ⟨v,rfl,aT (hQ _ ?_ (jF ..))⟩))
 exact ⟨_,cY _ hob (dJ (cZ hda _)),(Obj.cls_mapFields ..).trans hcl,by rw[cZ hda];simp[rawInt]⟩
theorem Afk{jt t:Addr}{k:Nat}{its:Array aE}{Q:aE->aJ->Prop}(hh:A.handled=none)(hj:s.heap.IsTupleIter jt t k)(ht:s.heap.IsTuple t its)(hv:its[k]? = none)
  (hE:∀ h' e,iS jt s.heap h'->(∃ ob,h'.get? e=some ob/\ob.cls = .type "StopIteration")->E (.ref e) { s with heap:=h' }):wpAny (model prog w) A (cD (.ref jt)) Q E s:=by
 obtain ⟨ob,hob,hcl,hda⟩:=id hj
 obtain ⟨ot,hot,_,nt,hdt⟩:=ht
 unfold cD
 refine aF (eC (name:=jJ "__next__") hj.typeIs eN (fF eN hj.typeIs jL ?_ (jC _)))
 show wpAny _ _ (field (.ref jt) 0 >>= _) _ _ s
 refine aF (cJ hob hda (x:=.ref t) rfl ?_)
 show wpAny _ _ (if (bN t == dE)=true then _ else _) _ _ s
 rw[if_neg (show ¬ ((bN t == dE)=true) from (fun z=>eA z))]
 show wpAny _ _ (field (.ref jt) 1 >>= _) _ _ s
 refine aF (cJ hob hda (x:=.int k 0) rfl ?_)
 show wpAny _ _ (seqItems? (.ref t) >>= fun z=>_) _ _ s
 refine aF (eO hot hdt ?_)
 simp only[dH,hv]
 refine aF (pJ (aF (fW hob hda (by simp) ?_)))
 show wpAny _ _ (newExc (.type "StopIteration") [] >>= fun z=>_) _ _ _
 refine aF ?_
 simp only[newExc,newTuple];refine aF (cR ?_ (by size_fits))
 refine aF (m:=firstArgMember _ _) (wpAny_of_eq (a:=dE) (by first | rfl | (simp only[firstArgMember];rfl)) (cR ?_ (by size_fits)))
 simp only[raiseNew];refine aF (wpAny_handled ?_)
 first | rw[show A.in1.handled=none from hh] | (rw[hh])
 exact aF (aT (wpAny_throw (hE _ _ (((jF ..).extBut.push _).push _) ⟨_,aY _ rfl,rfl⟩)))
theorem Xl{b:Bool}{jt l:Addr}{k:Nat}{its:Array aE}{v:aE}{Q:aE->aJ->Prop}(hj:ItK b s.heap jt l k)(hl:SqK b s.heap l its)(hv:its[k]? = some v)
  (hQ:∀ h',ItK b h' jt l (k+1)->fZ jt s.heap h'->Q v { s with heap:=h' }):wpAny (model prog w) A (cD (.ref jt)) Q E s:=by
 cases b with
 | true=>exact wpAny_nextOf_list_item hj hl hv hQ
 | false=>exact Ae1 hj hl hv hQ
theorem Adf{b:Bool}{jt l:Addr}{k:Nat}{its:Array aE}{Q:aE->aJ->Prop}(hh:A.handled=none)(hj:ItK b s.heap jt l k)(hl:SqK b s.heap l its)(hv:its[k]? = none)
  (hE:∀ h' e,iS jt s.heap h'->(∃ ob,h'.get? e=some ob/\ob.cls = .type "StopIteration")->E (.ref e) { s with heap:=h' }):wpAny (model prog w) A (cD (.ref jt)) Q E s:=by
 cases b with
 | true=>exact wpAny_nextOf_list_end hh hj hl hv hE
 | false=>exact Afk hh hj hl hv hE
theorem SqK.but{b:Bool}{h h':Heap}{l c:Addr}{xs:Array aE}(x:SqK b h l xs)(e:iS c h h')(hne:l≠c):SqK b h' l xs:=x.keep fun o q=>e l o hne q
theorem ItK.but{b:Bool}{h h':Heap}{jt l c:Addr}{k:Nat}(x:ItK b h jt l k)(e:iS c h h')(hne:jt≠c):ItK b h' jt l k:=x.keep fun o q=>e jt o hne q
variable {b1 b2:Bool}{z TI TO j1 j2 l1 l2:Addr}{k1 k2:Nat}{xs ys:Array aE}{a b:aE}
theorem Agg{x y:aE}{Q:aE->aJ->Prop}(D:mD z TI TO j1 j2 l1 l2)(hz:jU s.heap z TI TO .none)(hI:eR s.heap TI (.ref j1) (.ref j2))(hO:eR s.heap TO a b)
  (h1:ItK b1 s.heap j1 l1 k1) (h2:ItK b2 s.heap j2 l2 k2) (g1:SqK b1 s.heap l1 xs) (g2:SqK b2 s.heap l2 ys) (hx:xs[k1]? = some x) (hy:ys[k2]? = some y)
  (hQ:∀ h',jU h' z TI TO (rawInt s.heap.objs.size)->eR h' TO x y->ItK b1 h' j1 l1 (k1+1)->ItK b2 h' j2 l2 (k2+1)->eR h' s.heap.objs.size x y->h'.objs.size=s.heap.objs.size+1 ->
   (∀ c o,c≠z->c≠TO->c≠j1->c≠j2->s.heap.get? c=some o->h'.get? c=some o)->Q (.ref s.heap.objs.size) { s with heap:=h' }) :
  wpAny (model prog w) A (lJ.«zip.__next__» ⟨[.ref z],[]⟩) (fun fin s'=>∃ v,fin = .done (.ret v)/\Q v s') E s:=by
 show wpAny _ _ (field (.ref z) 2 >>= fun q=>_) _ _ _
 refine aF (cJ hz rfl (x:=.bool false) rfl ?_);show wpAny _ _ (field (.ref z) 3 >>= _) _ _ _
 refine aF (cJ hz rfl (x:=.ref TI) rfl (aF (eO hI rfl ?_)))
 show wpAny _ _ (dN (.ref z) >>= fun q=>_) _ _ _
 refine aF ?_;unfold dN
 refine aF (cJ hz rfl (x:=.none) rfl (aT ?_));simp only[if_true]
 refine aF (pJ (aF (cJ hz rfl (x:=.ref TO) rfl (aF (eP hz (by simp) fun p1 z1 s1=>?_)))))
 replace z1:jU p1 z TI TO .ellipsis:=z1
 refine aF ?_;simp only[oF,oS,jA,pK]
 refine aF (aF (kQ ?_));show wpAny _ _ (cD (.ref j1) >>= _) _ _ _
 refine aF (Xl (h1.but s1.extBut D.i1z) (g1.but s1.extBut D.l1z) hx fun p2 i2 s2=>aT ?_)
 have O2:eR p2 TO a b:=s2.extBut _ _ D.TOi1 (s1.extBut _ _ D.TOz hO)
 refine aF (eO O2 rfl (aF (iT O2 fun p3 O3 s3=>?_)))
 replace O3:eR p3 TO x b:=O3
 refine aF (mE (aT ?_));refine aF (aF (kQ ?_))
 show wpAny _ _ (cD (.ref j2) >>= fun q=>_) _ _ _
 refine aF (Xl (((h2.but s1.extBut D.i2z).but s2.extBut D.i12.symm).but s3.extBut D.TOi2.symm) (((g2.but s1.extBut D.l2z).but s2.extBut D.l2i1).but s3.extBut D.l2TO) hy fun p4 i4 s4=>aT ?_)
 have O4:eR p4 TO x b:=s4.extBut _ _ D.TOi2 O3
 refine aF (eO O4 rfl (aF (iT O4 fun p5 O5 s5=>?_)))
 replace O5:eR p5 TO x y:=O5
 refine aF (mE (aT (aT ?_)));refine aF (eO O5 rfl (aF (wpAny_newTuple ?_)))
 have hsz:p5.objs.size=s.heap.objs.size:=by rw[s5.1,s4.1,s3.1,s2.1,s1.1]
 have z5:jU p5 z TI TO .ellipsis:=s5.extBut _ _ D.TOz.symm (s4.extBut _ _ D.i2z.symm (s3.extBut _ _ D.TOz.symm (s2.extBut _ _ D.i1z.symm z1)))
 have k5:∀ c o,c≠z->c≠TO->c≠j1->c≠j2->s.heap.get? c=some o->p5.get? c=some o:=fun c o c1 c2 c3 c4 e=>s5.extBut _ _ c2 (s4.extBut _ _ c4 (s3.extBut _ _ c2 (s2.extBut _ _ c3 (s1.extBut _ _ c1 e))))
 have i15:ItK b1 p5 j1 l1 (k1+1):=((i2.but s3.extBut D.TOi1.symm).but s4.extBut D.i12).but s5.extBut D.TOi1.symm
 have i25:ItK b2 p5 j2 l2 (k2+1):=i4.but s5.extBut D.TOi2.symm
 have zlt:z < p5.objs.size:=aR z5
 show wpAny _ _ (gH (.ref z) (.ref p5.objs.size) >>= fun q=>_) _ _ _
 refine aF ?_;unfold gH
 have z6:jU (p5.push { cls:=.type "tuple",data:=.seq #[x,y] }) z TI TO .ellipsis:=aG _ z5
 refine aF (eP z6 (by simp) fun p7 z7 s7=>?_)
 replace z7:jU p7 z TI TO (rawInt p5.objs.size):=z7
 refine eP z7 (by simp) fun p8 z8 s8=>?_
 replace z8:jU p8 z TI TO (rawInt p5.objs.size):=z8
 have up:∀ c o,c≠z->p5.get? c=some o->p8.get? c=some o:=fun c o c1 e=>s8.extBut _ _ c1 (s7.extBut _ _ c1 (aG _ e))
 have t8:eR p8 p5.objs.size x y:=s8.extBut _ _ (gC zlt) (s7.extBut _ _ (gC zlt) (aY _ rfl))
 have e8:p8.objs.size=p5.objs.size+1:=by rw[s8.1,s7.1,dW]
 rw[hsz] at z8 t8 e8
 refine aT ⟨_,rfl,?_⟩
 show Q (.ref p5.objs.size) _
 rw[hsz]
 exact hQ p8 z8 (up _ _ D.TOz O5) (i15.keep fun o e=>up _ o D.i1z e) (i25.keep fun o e=>up _ o D.i2z e) t8 e8 fun c o c1 c2 c3 c4 e=>up c o c1 (k5 c o c1 c2 c3 c4 e)
theorem Ak5{Q:Fin->aJ->Prop}(hh:A.handled=none)(D:mD z TI TO j1 j2 l1 l2)(hz:jU s.heap z TI TO .none)(hI:eR s.heap TI (.ref j1) (.ref j2))(hO:eR s.heap TO a b)
  (h1:ItK b1 s.heap j1 l1 k1) (h2:ItK b2 s.heap j2 l2 k2) (g1:SqK b1 s.heap l1 xs) (g2:SqK b2 s.heap l2 ys) (hend:xs[k1]? = none\/ys[k2]? = none)
  (hE:∀ h' e,(∀ c o,c≠z->c≠TO->c≠j1->c≠j2->s.heap.get? c=some o->h'.get? c=some o)->(∃ ob,h'.get? e=some ob/\ob.cls = .type "StopIteration")->E (.ref e) { s with heap:=h' }) :
  wpAny (model prog w) A (lJ.«zip.__next__» ⟨[.ref z],[]⟩) Q E s:=by
 show wpAny _ _ (field (.ref z) 2 >>= fun q=>_) _ _ _
 refine aF (cJ hz rfl (x:=.bool false) rfl ?_);show wpAny _ _ (field (.ref z) 3 >>= _) _ _ _
 refine aF (cJ hz rfl (x:=.ref TI) rfl (aF (eO hI rfl ?_)))
 show wpAny _ _ (dN (.ref z) >>= fun q=>_) _ _ _
 refine aF ?_;unfold dN
 refine aF (cJ hz rfl (x:=.none) rfl (aT ?_));simp only[if_true]
 refine aF (pJ (aF (cJ hz rfl (x:=.ref TO) rfl (aF (eP hz (by simp) fun p1 z1 s1=>?_)))))
 replace z1:jU p1 z TI TO .ellipsis:=z1
 refine aF ?_;simp only[oF,oS,jA,pK]
 refine aF (aF (kQ ?_));show wpAny _ _ (cD (.ref j1) >>= _) _ _ _
 cases hx:xs[k1]? with
 | none=>
  refine aF (Adf hh (h1.but s1.extBut D.i1z) (g1.but s1.extBut D.l1z) hx fun p2 e s2 he=>?_)
  obtain ⟨oe,hoe,hce⟩:=he
  have z2:jU p2 z TI TO .ellipsis:=s2 _ _ D.i1z.symm z1
  have hez:e≠z:=fun q=>by subst q;rw[z2] at hoe;cases hoe;simp at hce
  refine eP z2 (by simp) fun p3 _ s3=>hE p3 e (fun c o c1 _ c3 _ q=>s3.extBut _ _ c1 (s2 _ _ c3 (s1.extBut _ _ c1 q))) ⟨oe,s3.extBut _ _ hez hoe,hce⟩
 | some x=>
  have hy:ys[k2]? = none:=by rcases hend with h | h;(rw[hx] at h;cases h);exact h
  refine aF (Xl (h1.but s1.extBut D.i1z) (g1.but s1.extBut D.l1z) hx fun p2 i2 s2=>aT ?_)
  have O2:eR p2 TO a b:=s2.extBut _ _ D.TOi1 (s1.extBut _ _ D.TOz hO)
  refine aF (eO O2 rfl (aF (iT O2 fun p3 O3 s3=>?_)))
  refine aF (mE (aT ?_));refine aF (aF (kQ ?_))
  show wpAny _ _ (cD (.ref j2) >>= fun q=>_) _ _ _
  refine aF (Adf hh (((h2.but s1.extBut D.i2z).but s2.extBut D.i12.symm).but s3.extBut D.TOi2.symm) (((g2.but s1.extBut D.l2z).but s2.extBut D.l2i1).but s3.extBut D.l2TO) hy fun p4 e s4 he=>?_)
  obtain ⟨oe,hoe,hce⟩:=he
  have z4:jU p4 z TI TO .ellipsis:=s4 _ _ D.i2z.symm (s3.extBut _ _ D.TOz.symm (s2.extBut _ _ D.i1z.symm z1))
  have hez:e≠z:=fun q=>by subst q;rw[z4] at hoe;cases hoe;simp at hce
  refine eP z4 (by simp) fun p5 _ s5=>hE p5 e (fun c o c1 c2 c3 c4 q=>s5.extBut _ _ c1 (s4 _ _ c4 (s3.extBut _ _ c2 (s2.extBut _ _ c3 (s1.extBut _ _ c1 q))))) ⟨oe,s5.extBut _ _ hez hoe,hce⟩
theorem Ag2{x y:aE}{Q:Option aE->aJ->Prop}(D:mD z TI TO j1 j2 l1 l2)(hz:jU s.heap z TI TO .none)(hI:eR s.heap TI (.ref j1) (.ref j2))(hO:eR s.heap TO a b)
  (h1:ItK b1 s.heap j1 l1 k1) (h2:ItK b2 s.heap j2 l2 k2) (g1:SqK b1 s.heap l1 xs) (g2:SqK b2 s.heap l2 ys) (hx:xs[k1]? = some x) (hy:ys[k2]? = some y)
  (hQ:∀ h',jU h' z TI TO (rawInt s.heap.objs.size)->eR h' TO x y->ItK b1 h' j1 l1 (k1+1)->ItK b2 h' j2 l2 (k2+1)->eR h' s.heap.objs.size x y->h'.objs.size=s.heap.objs.size+1 ->
   (∀ c o,c≠z->c≠TO->c≠j1->c≠j2->s.heap.get? c=some o->h'.get? c=some o)->Q (some (.ref s.heap.objs.size)) { s with heap:=h' }) :
  wpAny (model prog w) A (pyNext (.ref z)) Q E s:=by
 have ty:s.TypeIs (.ref z) "zip" := ⟨_,hz,rfl⟩
 unfold pyNext
 exact aF (mV (eC (name:=jJ "__next__") ty jD (fF jD ty oG (Agg D hz hI hO h1 h2 g1 g2 hx hy fun h' q1 q2 q3 q4 q5 q6 q7=>aT (hQ h' q1 q2 q3 q4 q5 q6 q7)) (nT _))))
theorem Aks{Q:Option aE->aJ->Prop}(hh:A.handled=none)(D:mD z TI TO j1 j2 l1 l2)(hz:jU s.heap z TI TO .none)(hI:eR s.heap TI (.ref j1) (.ref j2))(hO:eR s.heap TO a b)
  (h1:ItK b1 s.heap j1 l1 k1) (h2:ItK b2 s.heap j2 l2 k2) (g1:SqK b1 s.heap l1 xs) (g2:SqK b2 s.heap l2 ys) (hend:xs[k1]? = none\/ys[k2]? = none)
  (hQ:∀ h',(∀ c o,c≠z->c≠TO->c≠j1->c≠j2->s.heap.get? c=some o->h'.get? c=some o)->Q none { s with heap:=h' }):wpAny (model prog w) A (pyNext (.ref z)) Q E s:=by
 have ty:s.TypeIs (.ref z) "zip" := ⟨_,hz,rfl⟩
 unfold pyNext
 refine aF (mV (eC (name:=jJ "__next__") ty jD (fF jD ty oG (Ak5 hh D hz hI hO h1 h2 g1 g2 hend fun h' e hk he=>?_) (nT _))))
 obtain ⟨ob,hob,hcl⟩:=he
 exact aF (wpAny_isInstance (T := "StopIteration") (b:=true) ⟨ob,hob,hcl⟩ isSubtype_stop (aT (hQ _ hk)))
end
abbrev zh1(c1:String)(h:Heap)(l1:Addr):Heap:=h.push { cls:=.type c1,data:=.fields #[.ref l1,.int 0 0] }
abbrev zh2(c1 c2:String)(h:Heap)(l1 l2:Addr):Heap:=(zh1 c1 h l1).push { cls:=.type c2,data:=.fields #[.ref l2,.int 0 0] }
abbrev zh3(c1 c2:String)(h:Heap)(l1 l2:Addr):Heap:=(zh2 c1 c2 h l1 l2).push { cls:=.type "tuple",data:=.seq #[.ref h.objs.size,.ref (zh1 c1 h l1).objs.size] }
abbrev zh4(c1 c2:String)(h:Heap)(l1 l2:Addr):Heap:=(zh3 c1 c2 h l1 l2).push { cls:=.type "tuple",data:=.seq #[.none,.none] }
abbrev zh5(c1 c2:String)(h:Heap)(l1 l2:Addr):Heap:=(zh4 c1 c2 h l1 l2).push { cls:=.type "zip",data:=.fields #[.none,.bool false,.bool false,.ref (zh2 c1 c2 h l1 l2).objs.size,.ref (zh3 c1 c2 h l1 l2).objs.size] }
theorem Akv (l1 l2 : Addr) (xs ys : Array aE) : Meets (lJ.«zip.__new__» ⟨[.type "zip", .ref l1, .ref l2], []⟩) (fun _ R s => s.heap.IsTuple l1 xs /\ s.heap.IsTuple l2 ys /\
   R (.ok (.ret (.ref (zh4 "tuple_iterator" "tuple_iterator" s.heap l1 l2).objs.size))) { s with heap:=zh5 "tuple_iterator" "tuple_iterator" s.heap l1 l2 }):=
 .of_wp fun prog w A R s h=>by
  obtain ⟨hp,g,d,tk,os⟩:=s
  obtain ⟨t1,t2,h⟩:=h
  have hsub:=sub_zip
  have T1:pX (qE ⟨hp,g,d,tk,os⟩) l1 xs:=t1
  have T2:pX (qE ⟨hp.push { cls:=.type "tuple_iterator",data:=.fields #[.ref l1,.int 0 0] },g,d,tk,os⟩) l2 ys:=pX.push t2 _
  wp_walk using jO T1,jO T2
  exact ⟨_,rfl,h⟩
section
variable {prog:bP}{w:cE}{A:cG}{E:aE->aJ->Prop}{s:aJ}
theorem Afz{l1 l2:Addr}{xs ys:Array aE}{Q:aE->aJ->Prop}(t1:s.heap.IsTuple l1 xs)(t2:s.heap.IsTuple l2 ys)
  (h:∀ h',jU h' (s.heap.objs.size+4) (s.heap.objs.size+2) (s.heap.objs.size+3) .none->eR h' (s.heap.objs.size+2) (.ref s.heap.objs.size) (.ref (s.heap.objs.size+1)) ->
   eR h' (s.heap.objs.size+3) .none .none->ItK false h' s.heap.objs.size l1 0->ItK false h' (s.heap.objs.size+1) l2 0->(∀ c o,s.heap.get? c=some o->h'.get? c=some o)->Q (.ref (s.heap.objs.size+4)) { s with heap:=h' }) :
  wpAny (model prog w) A (call (.type "zip") [.ref l1,.ref l2]) Q E s:=by
 refine callType_new F.called_zip (by decide) (F.typeCall_zip_2 _ _) (F.newCall_zip_2 _ _) (fun obj=>F.args_object_init_3 obj _ _) F.entry_zip_new (Akv l1 l2 xs ys) ⟨t1,t2,?_⟩
 have z1:(zh1 "tuple_iterator" s.heap l1).objs.size=s.heap.objs.size+1:=dW ..
 have z2:(zh2 "tuple_iterator" "tuple_iterator" s.heap l1 l2).objs.size=s.heap.objs.size+2:=by rw[dW,z1]
 have z3:(zh3 "tuple_iterator" "tuple_iterator" s.heap l1 l2).objs.size=s.heap.objs.size+3:=by rw[dW,z2]
 have z4:(zh4 "tuple_iterator" "tuple_iterator" s.heap l1 l2).objs.size=s.heap.objs.size+4:=by rw[dW,z3]
 have q5:(zh5 "tuple_iterator" "tuple_iterator" s.heap l1 l2).get? (zh4 "tuple_iterator" "tuple_iterator" s.heap l1 l2).objs.size=some _:=aY _ rfl
 have q4:(zh5 "tuple_iterator" "tuple_iterator" s.heap l1 l2).get? (zh3 "tuple_iterator" "tuple_iterator" s.heap l1 l2).objs.size=some _:=aG _ (aY _ rfl)
 have q3:(zh5 "tuple_iterator" "tuple_iterator" s.heap l1 l2).get? (zh2 "tuple_iterator" "tuple_iterator" s.heap l1 l2).objs.size=some _:=aG _ (aG _ (aY _ rfl))
 have q2:(zh5 "tuple_iterator" "tuple_iterator" s.heap l1 l2).get? (zh1 "tuple_iterator" s.heap l1).objs.size=some _:=aG _ (aG _ (aG _ (aY _ rfl)))
 have q1:(zh5 "tuple_iterator" "tuple_iterator" s.heap l1 l2).get? s.heap.objs.size=some _:=aG _ (aG _ (aG _ (aG _ (aY _ rfl))))
 show _/\_
 rw[z2,z3,z4] at q5;rw[z1,z2] at q3;rw[z3] at q4
 rw[z1] at q2;rw[z4]
 exact ⟨⟨_,q5,rfl⟩,h _ q5 q3 q4 ⟨_,q1,rfl,rfl⟩ ⟨_,q2,rfl,rfl⟩ fun c o q=>aG _ (aG _ (aG _ (aG _ (aG _ q))))⟩
end
end ZT
namespace MR
open PySem PySem.Spec PyProof.Rows L2
noncomputable def SK(bb:Bool)(K:aC)(H:Hp)(a:Addr)(xs:List V):Prop:=match bb with
 | true=>SqL K H a xs
 | false=>SqT K H a xs
theorem SK.at{X:Cx}{pins:List (Addr×Obj)}{σ:L2.St}{H:Hp}{s:aJ}{bb:Bool}{a:Addr}{xs:List V}(I:L2.Inv X pins σ H s)(h:SK bb X.K H a xs):∃ its:List aE,Vals xs its/\ZT.SqK bb s.heap a its.toArray/\xs.length<=sizeLine:=by
 cases bb with
 | true=>obtain ⟨its,r,p,z⟩:=I.list h;exact ⟨its,r,p.isList,z⟩
 | false=>obtain ⟨its,r,p,z⟩:=I.tuple h;exact ⟨its,r,p,z⟩
theorem SK.inj{X:Cx}{pins:List (Addr×Obj)}{σ:L2.St}{H:Hp}{s:aJ}{bb:Bool}{a:Addr}{xs ys:List V}(I:L2.Inv X pins σ H s)(h:SK bb X.K H a xs)(h':SK bb X.K H a ys):xs=ys:=by
 cases bb with
 | true=>exact I.list_inj h h'
 | false=>exact I.tuple_inj h h'
noncomputable def Akw(b1 b2:Bool)(K:aC)(a b:Addr):It:=
 ⟨fun i H=>∃ xs ys x y,SK b1 K H a xs/\SK b2 K H b ys/\xs[i]? = some x/\ys[i]? = some y,fun i H z H'=>∃ p x y,H p=none/\z = .ref p/\H'=upd H p (.tup [x,y])/\(∀ xs,SK b1 K H a xs->xs[i]? = some x)/\∀ ys,SK b2 K H b ys->ys[i]? = some y,
  fun i H=>∃ xs ys,SK b1 K H a xs/\SK b2 K H b ys/\(xs.length<=i\/ys.length<=i)⟩
theorem Ab7{b1 b2:Bool}{P:bP}{w:cE}{K:aC}{elts:List Expr}{x1}{pos:Pos}(a b z TI TO i1 i2:Addr)(D:mD z TI TO i1 i2 a b):Turn P w K (.Tuple elts x1 pos) (Akw b1 b2 K a b) [z,TI,TO,i1,i2] z
  (fun i h=>jU h z TI TO .none/\eR h TI (.ref i1) (.ref i2)/\(∃ u v,eR h TO u v)/\ZT.ItK b1 h i1 a i/\ZT.ItK b2 h i2 b i) where
 mem:=by simp
 obj:=fun i h st c hb=>by
  obtain ⟨h1,h2,⟨u,v,h3⟩,h4',h5'⟩:=st
  obtain ⟨o4,h4,d4⟩:=h4'.obj
  obtain ⟨o5,h5,d5⟩:=h5'.obj
  simp only[cB,iK,or_false] at hb
  rcases hb with rfl | rfl | rfl | rfl | rfl
  ·exact ⟨_,h1,fun v z=>by simp at z⟩
  ·exact ⟨_,h2,fun v z=>by simp at z⟩
  ·exact ⟨_,h3,fun v z=>by simp at z⟩
  ·exact ⟨_,h4,fun v z=>by rw[d4] at z;cases z⟩
  ·exact ⟨_,h5,fun v z=>by rw[d5] at z;cases z⟩
 keep:=fun i h h' st k=>by
  obtain ⟨h1,h2,⟨u,v,h3⟩,h4,h5⟩:=st
  exact ⟨k z (by simp) _ h1,k TI (by simp) _ h2,⟨u,v,k TO (by simp) _ h3⟩,h4.keep (k i1 (by simp)),h5.keep (k i2 (by simp))⟩
 item:=by
  intro X hP hw hK hc i pins s σ H E I hf st hg
  subst hP hw hK
  obtain ⟨h1,h2,⟨u0,v0,h3⟩,h4,h5⟩:=st
  obtain ⟨xs,ys,x,y,sq1,sq2,hx,hy⟩:=hg
  obtain ⟨its1,hv1,pl1,hz1⟩:=SK.at I sq1
  obtain ⟨its2,hv2,pl2,hz2⟩:=SK.at I sq2
  obtain ⟨u,hu,r⟩:=hv1.get hx
  obtain ⟨u',hu',r'⟩:=hv2.get hy
  refine ZT.Ag2 D h1 h2 h3 h4 h5 pl1 pl2 (by simpa using hu) (by simpa using hu') fun h' o1 o2 o3 o4 o5 o6 o7=>?_
  refine ⟨_,rfl,?_⟩
  have hfr:H s.heap.objs.size=none:=I.hok.fresh (bD _)
  have I1:L2.Inv X pins σ (upd H s.heap.objs.size (.tup [x,y])) { s with heap:=h',toks:=s.toks }:=
   Inv.turnNew (ch:=[z,TI,TO,i1,i2]) I hf (fun c o hb q=>o7 c o (fun z=>hb (by simp[z])) (fun z=>hb (by simp[z])) (fun z=>hb (by simp[z])) (fun z=>hb (by simp[z])) q) (bD _)
    (show ObjOk X.prog X.w _ h' _ (.tup [x,y]) from ⟨by show 2<=sizeLine;decide,[u,u'],.cons r (.cons r' .nil),⟨_,o5,rfl,_,rfl⟩⟩)
  refine wpAny_letOwnedTupleGo_zip o1 fun h9 e2 sb2=>?_
  have hlt:∀ c∈[z,TI,TO,i1,i2],c < s.heap.objs.size:=fun c hb=>by
   simp only[cB,iK,or_false] at hb
   rcases hb with rfl | rfl | rfl | rfl | rfl
   ·exact aR h1
   ·exact aR h2
   ·exact aR h3
   ·exact h4.lt
   ·exact h5.lt
  have hnone:∀ c∈[z,TI,TO,i1,i2],(upd H s.heap.objs.size (.tup [x,y])) c=none:=fun c hb=>by rw[A9 (bV (hlt c hb))];exact (hf c hb).1
  obtain ⟨f0,f1,f2,f3,f4,f5⟩:=hf z (by simp)
  have I2:=I1.turned (t':=s.toks) (h':=h9) (it:=z) (fun c o hb q=>sb2.2 c hb |>.trans q) (hnone z (by simp)) f1 f3 f4 f5
  have hTI:eR h' TI (.ref i1) (.ref i2):=o7 TI _ D.TIz D.TITO D.TIi1 D.TIi2 h2
  refine ⟨.ref s.heap.objs.size,_,I2,rfl,⟨_,x,y,hfr,rfl,rfl,fun ys sq'=>?_,fun ys sq'=>?_⟩,⟨e2,(sb2.2 TI D.TIz).trans hTI,⟨_,_,(sb2.2 TO D.TOz).trans o2⟩,o3.keep (fun o q=>(sb2.2 i1 D.i1z).trans q),o4.keep (fun o q=>(sb2.2 i2 D.i2z).trans q)⟩,hnone⟩
  ·rw[SK.inj I sq' sq1];exact hx
  ·rw[SK.inj I sq' sq2];exact hy
 done:=by
  intro X hP hw hK hc i pins s σ H E I hf st hg
  subst hP hw hK
  obtain ⟨h1,h2,⟨u0,v0,h3⟩,h4,h5⟩:=st
  obtain ⟨xs,ys,sq1,sq2,hx⟩:=hg
  obtain ⟨its1,hv1,pl1,hz1⟩:=SK.at I sq1
  obtain ⟨its2,hv2,pl2,hz2⟩:=SK.at I sq2
  have hl1:=hv1.length
  have hl2:=hv2.length
  refine ZT.Aks (I.ok.hd hc) D h1 h2 h3 h4 h5 pl1 pl2 (by simp;omega) fun h' k=>⟨rfl,?_⟩
  have nch:∀ b u,H b=some u->b∉[z,TI,TO,i1,i2]:=fun b u e hb=>by rw[(hf b hb).1] at e;cases e
  have k':∀ b o,b∉[z,TI,TO,i1,i2]->s.heap.get? b=some o->h'.get? b=some o:=fun c o hb q=>k c o (fun z=>hb (by simp[z])) (fun z=>hb (by simp[z])) (fun z=>hb (by simp[z])) (fun z=>hb (by simp[z])) q
  refine I.step (g':=s.gens) (d':=s.drawn) (t':=s.toks) (ch:=[z,TI,TO,i1,i2]) (fun b hb=>?_) (fun b o _ _ hc e _=>k' b o hc e) (fun b o _ _ hc e _=>⟨o.slots,k' b o hc e⟩) (fun _ _ _ _ n=>n) (fun b u hc e=>⟨u,k' b u hc e⟩) (fun _ _ e=>e) (fun _ _ _ e=>e) (fun b ps e=>⟨#[],by rw[e];simp⟩) (fun m hm=>?_) (fun b u e=>?_) I.bare
  ·obtain ⟨_,f1,_,f3,f4,f5⟩:=hf b hb
   exact ⟨f3,f1,f4,f5⟩
  ·obtain ⟨o1,es,ep,ho,r⟩:=hm
   exact ⟨o1,es,ep,k' _ o1 (fun z=>(hf _ z).2.1 rfl) ho,r⟩
  ·refine (I.hok b u e).stay (fun c v hc q=>k' c v ?_ q) (fun _ q=>q) fun _ _ q=>q
   rcases hc with z | z
   ·rw[z];exact nch b u e
   ·exact nch c _ z
 self:=fun _ _ _ _ _ st h=>oH st.1 h
section
variable {X:Cx}{elts:List Expr}{x1:Nat}{tpos:Pos}
noncomputable def Am4(K:aC)(ta:TA):TI:=fun σ H R=>ta σ H fun vs H1=>∃ a b xs ys,vs=[.ref a,.ref b]/\SqT K H1 a xs/\SqT K H1 b ys/\R (Akw false false K a b) H1
theorem Aih{a b:Expr}{ta:TA}{p pos:Pos}(hg:Gl X "zip")(hm:X.mg "zip" = none)(ha:PA X [a,b] ta)(hs:bA [a,b] X.env=(false,eval a X.env)::bA [b] X.env:=by rfl)(hpl:(backTo pos (bA [b] X.env)).any (·.1)=false:=by rfl):PI X (.Tuple elts x1 tpos) (.Call (.Name "zip" p) [a,b] [] pos) (Am4 X.K ta):=by
 intro pins s σ H R I h
 refine Call_ (Rj I hg hm Ae7 (eI (thn (ha pos pins s σ H _ I h) fun us s1 ⟨vs,H1,I1,r1,q1⟩=>?_) hs hpl))
 obtain ⟨l1,l2,xs,ys,rfl,sq1,sq2,q⟩:=q1
 obtain ⟨u,u',rfl,ru,ru'⟩:=Adm r1
 cases ru;cases ru'
 obtain ⟨its1,hv1,pl1,hz1⟩:=I1.tuple sq1
 obtain ⟨its2,hv2,pl2,hz2⟩:=I1.tuple sq2
 have lt1:l1 < s1.heap.objs.size:=by obtain ⟨o,e,_⟩:=pl1;exact aR e
 have lt2:l2 < s1.heap.objs.size:=by obtain ⟨o,e,_⟩:=pl2;exact aR e
 refine ZT.Afz pl1 pl2 fun h' o1 o2 o3 o4 o5 o7=>?_
 have I2:L2.Inv X pins σ H1 { s1 with heap:=h' }:=I1.kept (t':=s1.toks) o7
 refine oH o1 ⟨_,_,_,_,H1,rfl,I2,Ab7 (b1:=false) (b2:=false) l1 l2 _ _ _ _ _ (Acd _ _ _ lt1 lt2),⟨o1,o2,⟨_,_,o3⟩,o4,o5⟩,fun b hb=>?_,q⟩
 have hb':s1.heap.objs.size<=b:=by
  simp only[cB,iK,or_false] at hb
  rcases hb with rfl | rfl | rfl | rfl | rfl <;> first | exact oI _ _ | exact bD _
 exact L2.Inv.fpOk I1 hb' (I1.hok.fresh hb')
noncomputable def Ot(us ws:List U):List U:=(us.zip ws).map fun p=>.tup [p.1,p.2]
theorem Qp(us ws:List U)(k:Nat):(Ot us ws)[k]? = O8 us[k]? ws[k]?:=by
 unfold Ot
 rw[bO,List.zip,List.getElem?_zipWith]
 cases us[k]? <;> cases ws[k]? <;> rfl
theorem Adg{K:aC}{H:Hp}{α:List Addr}{a b:Addr}{us ws:List U}{xs ys:List V}(sa:SqT K H a xs)(sb:SqT K H b ys)(ra:RepL K H α us xs)(rb:RepL K H α ws ys):Nq K (Akw false false K a b) (.seq (Ot us ws)) H α:=by
 intro H2 α2 L2 g A2 k
 have mv:∀ (c:Addr) (vs:List U) (zs:List V),SqT K H c zs->RepL K H α vs zs->∃ zs2,SqT K H2 c zs2/\RepL K H2 α2 vs zs2:=fun c vs zs s r=>by
  have m:=(show RepU K H α (.tup vs) (.ref c) by unfold RepU;exact ⟨c,zs,rfl,s,r⟩).mono g
  unfold RepU at m
  obtain ⟨c',zs2,e,s2,r2⟩:=m
  cases e
  exact ⟨zs2,s2,r2⟩
 obtain ⟨xs2,sa2,ra2⟩:=mv a us xs sa ra
 obtain ⟨ys2,sb2,rb2⟩:=mv b ws ys sb rb
 refine ⟨fun u eu=>?_,fun eu=>?_⟩
 ·have eu:(Ot us ws)[k]? = some u:=by simpa[IU.at] using eu
  rw[Qp] at eu
  cases h1:us[k]? with
  | none=>rw[h1] at eu;simp[O8] at eu
  | some u1=>
   cases h2:ws[k]? with
   | none=>rw[h1,h2] at eu;simp[O8] at eu
   | some u2=>
    rw[h1,h2] at eu
    simp[O8] at eu
    subst eu
    obtain ⟨x,hx,rx⟩:=ra2.get h1
    obtain ⟨y,hy,ry⟩:=rb2.get h2
    refine ⟨⟨xs2,ys2,x,y,sa2,sb2,hx,hy⟩,?_⟩
    rintro z H3 ⟨p,v,v',hp,rfl,rfl,hy1,hy2⟩
    have e1:=hy1 xs2 sa2
    have e2:=hy2 ys2 sb2
    rw[hx] at e1;cases e1
    rw[hy] at e2;cases e2
    exact A2.tup (.cons rx (.cons ry .nil)) hp
 ·have eu:(Ot us ws)[k]? = none:=by simpa[IU.at] using eu
  rw[Qp] at eu
  refine ⟨xs2,ys2,sa2,sb2,?_⟩
  cases h1:us[k]? with
  | none=>left;rw[<- ra2.length];exact cP.mp h1
  | some u1=>
   cases h2:ws[k]? with
   | none=>right;rw[<- rb2.length];exact cP.mp h2
   | some u2=>rw[h1,h2] at eu;simp[O8] at eu
end
end MR
namespace MR
open PySem PySem.Spec PyProof.Rows PySem.Calls L2
theorem Ahw{bs:List Bool}:∀ {us:List aE},Vals (bs.map V.bl) us->∀ (i:Nat) (v:aE),us[i]? = some v->∃ b,bs[i]? = some b/\v = .bool b:=by
 induction bs with
 | nil=>intro us r i v e;rw[bK] at r;cases r;simp at e
 | cons n ns ih=>
  intro us r i v e
  rw[aO] at r
  cases r with
  | cons r1 r2=>
   cases i with
   | zero=>simp at e;subst e;exact ⟨n,rfl,r1⟩
   | succ i=>simpa using ih r2 i v (by simpa using e)
theorem Ah8{bs:List Bool}:∀ {us:List aE},Vals (bs.map V.bl) us->us.length=bs.length:=by
 induction bs with
 | nil=>intro us r;rw[bK] at r;cases r;rfl
 | cons n ns ih=>
  intro us r
  rw[aO] at r
  cases r with
  | cons r1 r2=>simp[ih r2]
theorem Af3(bs:List Bool):((dU bs.length).all fun i=>(bs[i]?).getD true)=bs.all id:=by
 rw[Bool.eq_iff_iff,cL,cL]
 constructor
 ·intro h b hb
  obtain ⟨i,hi,e⟩:=List.getElem_of_mem hb
  have:=h i (gW.mpr hi)
  simp only[cK hi,kW,e] at this
  exact this
 ·intro h i hi
  have hi':=gW.mp hi
  simp only[cK hi',kW]
  exact h _ (iL hi')
section
variable {X:Cx}
theorem Af2{s:aJ}{h':Heap}{o:Obj}(hk:∀ b x,b∉[s.heap.objs.size]->(s.heap.push o).get? b=some x->h'.get? b=some x):∀ b x,s.heap.get? b=some x->h'.get? b=some x:=
 fun b x e=>hk b x (fun hm=>by rw[dQ.mp hm] at e;exact dL _ (aR e)) (aG _ e)
theorem Abp(hc:X.calm=true):CallR X (.builtin "all") (fun xs H Q=>∃ (p:Addr) (bs:List Bool),xs=[.ref p]/\SqL X.K H p (bs.map V.bl)/\Q (.bl (bs.all id)) H):=by
 intro pins s σ H xs us Q I r h
 obtain ⟨p,bs,rfl,hq,q⟩:=h
 obtain ⟨u,rfl,rx⟩:=Ll r
 cases rx
 obtain ⟨its,r',pl,hz⟩:=I.list hq
 have hl:=pl.isList
 have hlt:p < s.heap.objs.size:=by obtain ⟨_,e,_⟩:=hl;exact aR e
 refine call_all_walk (kD hl ?_)
 refine ⟨s.heap.objs.size,[s.heap.objs.size,p],[s.heap.objs.size],its.toArray.size,_,_,fun i=>(bs[i]?).getD true,rfl,Walks.list (A:=cG.in1 _) (I.ok.hd hc) _ p (bV hlt) its.toArray,
  ⟨⟨_,aY _ rfl,rfl,rfl⟩,hl.push _⟩,fun i v s' Q' E' hP hQ=>?_,fun h' tk hk=>?_⟩
 ·obtain ⟨b,e,rfl⟩:=Ahw r' i v (by simpa using hP)
  simp only[e,kW] at hQ
  exact fR hQ
 ·have e:((dU its.toArray.size).all fun i=>(bs[i]?).getD true)=bs.all id:=by
   rw[bH,Ah8 r'];exact Af3 bs
  rw[e]
  exact ⟨.bl (bs.all id),H,I.kept (Af2 hk),rfl,q⟩
end
noncomputable def toB:U->Option Bool
 | .bl b=>some b
 | _=>none
theorem Yn{K:aC}{H:Hp}{α:List Addr}:∀ {us:List U} {xs:List V} {bs:List Bool},RepL K H α us xs->mapO toB us=some bs->xs=bs.map V.bl
 | [],xs,ys,r,h=>by unfold RepL at r;subst r;cases h;rfl
 | u::us,xs,ys,r,h=>by
  unfold RepL at r
  obtain ⟨x,xr,rfl,r1,r2⟩:=r
  obtain ⟨y,e1,h⟩:=aB.mp h
  obtain ⟨yr,e2,h⟩:=aM.mp h
  subst h
  cases u <;> simp only[toB] at e1 <;> first
   | (cases e1;unfold RepU at r1;subst r1;rw[Yn r2 e2];rfl)
   | cases e1
noncomputable def Qn:SC:=fun us L=>match us with
 | [.ref n]=>(Ba L n).bind fun l=>(mapO toB l).map fun bs=>(.bl (bs.all id),L)
 | _=>none
theorem Aij{K:aC}:Ow K (fun xs H Q=>∃ (p:Addr) (bs:List Bool),xs=[.ref p]/\SqL K H p (bs.map V.bl)/\Q (.bl (bs.all id)) H) Qn:=by
 intro H α L us xs z L' Q A r e q
 unfold Qn at e
 split at e
 ·obtain ⟨l,hl,e⟩:=aB.mp e
  obtain ⟨bs,e1,e⟩:=aM.mp e
  cases e
  obtain ⟨x,rfl,rx⟩:=r.one
  obtain ⟨a,ys,rfl,sq,r2⟩:=N8 A hl rx
  rw[Yn r2 e1] at sq
  exact ⟨a,bs,rfl,sq,q _ H α (.refl _ _) A rfl⟩
 ·cases e
section
variable {X:Cx}
end
end MR
namespace ZT
open PySem PySem.Spec PyProof.Rows
open Sem (wp)
section
variable {prog:bP}{w:cE}{A:cG}{E:aE->aJ->Prop}{s:aJ}
end
section
variable {prog:bP}{w:cE}{A:cG}{E:aE->aJ->Prop}{s:aJ}
end
end ZT
namespace MR
open PySem PySem.Spec PyProof.Rows L2
section
variable {X:Cx}{elts:List Expr}{x1:Nat}{tpos:Pos}
end
structure CompScC(X:Cx)(scope:gX)(N':List Str)(ix:List (Option Nat)):Prop where
 kind:scope.kind = .function
 own:(scope.names.all fun y=>scope.names.lookup y.1 == some y.2)=true
 free:(scope.names.all fun y=>y.2 != .free || (X.env.kindOf y.1 == some .cell || X.env.kindOf y.1 == some .free))=true
 ixs:((N'.zip ix).all fun p=>match p.2 with | none=>true | some i=>(X.N[i]? == some p.1)&&(scope.names.lookup p.1 == some .free))=true
 len:N'.length=ix.length
section
variable {X:Cx}{scope:gX}{N':List Str}{ix:List (Option Nat)}{pins:List (Addr×Obj)}{σ:L2.St}{H2:Hp}{s2:aJ}{cl:List (Str×Addr)}{fp:List Addr}
end
section
variable {X:Cx}{scope:gX}{N':List Str}{ix:List (Option Nat)}{elt tg iter c:Expr}{pos:Pos}{fi:FI}{g:FG}{ft:FT}{fe:FE}
end
noncomputable def Its(x:Str):It:=⟨fun i _=>i < x.cps.size,fun i H v H'=>H'=H/\∃ c,x.cps[i]? = some c/\v = .str ⟨#[c]⟩,fun i _=>x.cps.size<=i⟩
theorem Adb{P:bP}{w:cE}{K:aC}{tg:Expr}(x:Str)(t:Tok)(it:Addr):Turn P w K tg (Its x) [it] it (fun i h=>h.IsStrIter it "str_ascii_iterator" x t i) where
 mem:=by simp
 obj:=fun i h st b hb=>by
  have e:b=it:=by simpa using hb
  subst e
  obtain ⟨o,e,c,d⟩:=st
  exact ⟨o,e,fun v z=>by rw[d] at z;cases z⟩
 keep:=fun i h h' st k=>by
  obtain ⟨o,e,r⟩:=st
  exact ⟨o,k it (by simp) o e,r⟩
 item:=by
  intro X hP hw hK hc i pins s σ H E I hf st hg
  subst hP hw hK
  obtain ⟨f0,f1,f2,f3,f4,f5⟩:=hf it (by simp)
  have hg:i < x.cps.size:=hg
  have hx:x.cps[i]? = some (x.cps[i]'hg):=kA hg
  refine wpAny_pyNext_ascii_item st hx fun h' st' sb=>?_
  have I1:Inv X pins σ H { s with heap:=h',toks:=s.toks+1 }:=I.turned (t':=s.toks+1) (fun b o hb e=>(sb.2 b hb).trans e) f0 f1 f3 f4 f5
  obtain ⟨o,e,c,d⟩:=id st'
  exact ⟨_,rfl,Ym (s:={ s with heap:=h',toks:=s.toks+1 }) e c d (by decide) ⟨.str ⟨#[x.cps[i]'hg]⟩,H,I1,⟨_,rfl⟩,⟨rfl,_,hx,rfl⟩,st',fun b hb=>(hf b hb).1⟩⟩
 done:=by
  intro X hP hw hK hc i pins s σ H E I hf st hg
  subst hP hw hK
  obtain ⟨f0,f1,f2,f3,f4,f5⟩:=hf it (by simp)
  have hx:x.cps[i]? = none:=Array.getElem?_eq_none hg
  exact wpAny_pyNext_ascii_end (I.ok.hd hc) st hx fun h' eb=>⟨rfl,I.turned (t':=s.toks) (fun b o hb e=>eb b o hb e) f0 f1 f3 f4 f5⟩
 self:=fun _ _ _ _ _ st h=>wpAny_pyIter_striter_ascii st h
noncomputable def Aoa(tl:TE):TI:=fun σ H R=>tl σ H fun v H1=>∃ x:Str,v = .str x/\x.cps.all (· < 128)=true/\R (Its x) H1
section
variable {X:Cx}{tg:Expr}
theorem Ak6{l:Expr}{tl:TE}(hl:PE X l tl):PI X tg l (Aoa tl):=by
 intro pins s σ H R I h
 refine thn (hl pins s σ H _ I h) fun v s1 zz=>?_
 obtain ⟨x,H1,I1,r1,q1⟩:=zz
 obtain ⟨x,rfl,ha,q⟩:=q1
 obtain ⟨t,rfl⟩:=r1
 refine wpAny_pyIter_ascii ha ?_
 refine ⟨s1.heap.objs.size,[s1.heap.objs.size],_,_,H1,rfl,I1.kept (t':=s1.toks) fun b o e=>aG _ e,Adb x t _,⟨_,aY _ rfl,rfl,rfl⟩,fun b hb=>?_,q⟩
 have e:b=s1.heap.objs.size:=by simpa using hb
 subst e
 exact I1.fpOk (bD _) (I1.hok.fresh (bD _))
noncomputable def Xv(x:Str):List U:=x.cps.toList.map fun c=>.str ⟨#[c]⟩
noncomputable def Mq(f:FE):FI:=fun δ L=>(f δ L).bind fun p=>match p.1 with
 | .str x=>if x.cps.all (· < 128)=true then some (.seq (Xv x),p.2) else none
 | _=>none
theorem Agh{K:aC}{H:Hp}{α:List Addr}(x:Str):Nq K (Its x) (.seq (Xv x)) H α:=by
 intro H2 α2 L2 g A2 k
 refine ⟨fun u eu=>?_,fun eu=>?_⟩
 ·have eu:(Xv x)[k]? = some u:=by simpa[IU.at] using eu
  unfold Xv at eu
  rw[bO] at eu
  obtain ⟨c,hc,eu⟩:=aM.mp eu
  subst eu
  have hc':x.cps[k]? = some c:=by simpa using hc
  have hk:k < x.cps.size:=by
   have:=(aQ.mp hc).1
   simpa using this
  refine ⟨hk,?_⟩
  rintro y H3 ⟨rfl,c',hc2,rfl⟩
  rw[hc'] at hc2;cases hc2
  exact ⟨.refl _ _,A2,rfl⟩
 ·have eu:(Xv x)[k]? = none:=by simpa[IU.at] using eu
  unfold Xv at eu
  have:x.cps.toList.length<=k:=by simpa using eu
  show x.cps.size<=k
  simpa using this
theorem U4{l:Expr}{f:FE}(hl:PEF X l f):PIF X tg l (Mq f):=by
 refine PI.imp (Ak6 hl) ?_
 rintro σ H R ⟨α,δ,L,A,S,i,L3,e,q⟩
 obtain ⟨⟨u,L1⟩,e1,e⟩:=aB.mp e
 simp only at e
 split at e
 ·split at e
  ·rename_i ha
   cases e
   refine ⟨α,δ,L,A,S,_,_,e1,fun x H1 α1 g1 A1 r1=>?_⟩
   unfold RepU at r1
   subst r1
   exact ⟨_,rfl,ha,q _ H1 α1 g1 A1 (Agh _)⟩
  ·cases e
 ·cases e
end
end MR
namespace ZT
open PySem PySem.Spec PyProof.Rows
open Sem (wp)
section
variable {prog:bP}{w:cE}{A:cG}{s:aJ}{R:Result->aJ->Prop}
variable {I:Addr}{fp wr:List Addr}{G:Array kS->Array kS->Prop}{n:Nat}{P:Nat->aE->Prop}{St:Nat->aJ->Prop}
end
section
variable {prog:bP}{w:cE}{A:cG}{E:aE->aJ->Prop}{s:aJ}
variable {I:Addr}{fp wr:List Addr}{G:Array kS->Array kS->Prop}{n:Nat}{P:Nat->aE->Prop}{St:Nat->aJ->Prop}
end
end ZT
namespace MR
open PySem PySem.Spec PyProof.Rows PySem.Calls L2
section
variable {X:Cx}
theorem Vx:eT "tuple" = some (.type "tuple"):=by decide +kernel
end
end MR
namespace ZT
open PySem PySem.Spec PyProof.Rows HT
section
variable {prog:bP}{w:cE}{A:cG}{E:aE->aJ->Prop}{s:aJ}
end
end ZT
namespace MR
open PySem PySem.Spec PyProof.Rows PySem.Calls L2
section
variable {X:Cx}{tg:Expr}
end
section
variable {X:Cx}
noncomputable def Aiy(K:aC):R2:=fun x y H Q=>∃ a b ys,x = .ref a/\y = .ref b/\SqT K H a []/\SqT K H b ys/\Q (.ref b) H
theorem Agj:OpR X (eB .Add) (Aiy X.K):=by
 intro pins s σ H x y v u Q I rx ry h
 obtain ⟨a,b,ys,rfl,rfl,ha,hb,q⟩:=h
 cases rx
 cases ry
 obtain ⟨its,r1,p1,_⟩:=I.tuple ha
 obtain ⟨its2,r2,p2,_⟩:=I.tuple hb
 have he:its=[]:=r1.nil_iff.mpr rfl
 obtain ⟨⟨cls,dd,data,sl⟩,ho,hc,n,hd⟩:=id p1
 obtain ⟨⟨cls2,dd2,data2,sl2⟩,ho2,hc2,n2,hd2⟩:=id p2
 simp only at hc hd hc2 hd2
 subst hc hd hc2 hd2
 exact nQ ⟨_,ho,rfl⟩ ⟨_,ho2,rfl⟩ kT mT hW gR (gJ _ _)
  (tuple_addW0 a b its.toArray its2.toArray n n2 dd dd2 sl sl2 (by simp[he])) ⟨ho,ho2,⟨.ref b,H,I,rfl,q⟩⟩
end
noncomputable def Eu:S2:=fun u w L=>match u,w with
 | .tup [],.tup b=>some (.tup b,L)
 | u,w=>Ax u w L
noncomputable def Air(K:aC):R2:=fun x y H Q=>Ae0 K x y H Q\/Aiy K x y H Q
theorem Um{X:Cx}:OpR X (eB .Add) (Air X.K):=C1.or Agj
theorem Q3{K:aC}:Dh K (Air K) Eu:=by
 intro H α L u w x y z L' Q A ru rw e q
 unfold Eu at e
 split at e
 ·cases e
  have rw':=rw
  unfold RepU at ru rw
  obtain ⟨a,xs,rfl,sq,r2⟩:=ru
  obtain ⟨b,ys,rfl,sq',r2'⟩:=rw
  unfold RepL at r2
  subst r2
  exact .inr ⟨a,b,ys,rfl,rfl,sq,sq',q _ H α (.refl _ _) A rw'⟩
 ·exact .inl (C0 H α L _ _ x y z L' Q A ru rw e q)
@[simp] theorem semAddA_int(i j:Int)(L:UH):Eu (.int i) (.int j) L=some (.int (i+j),L):=rfl
end MR
namespace MR
open PySem PyProof.Rows L2
section
variable {X:Cx}
end
end MR
namespace MR
open PySem PySem.W PyProof.Rows L2
end MR
namespace Att
open PySem PySem.W PySem.Calls PyProof.Rows L2 MR
end Att
namespace MR
open PySem PyProof.Rows L2
noncomputable def g0(us ws:List aE):List aE:=match us with | []=>ws | _=>[]
section
variable {X:Cx}{k:Nat}{f:Addr}{fd:bL}{p:Str}{ps:List Str}{x:Str}{pp pos kpos:Pos}{e:Expr}{kws:List hG}{nm:Option Str}
end
end MR
namespace MR
open PySem PySem.Spec PyProof.Rows PySem.Calls L2
section
variable {X:Cx}
end
section
variable {X:Cx}
end
end MR
namespace MR
open PySem PyProof.Rows L2
noncomputable def toK:U->Option Key
 | .int i=>some (.inl i)
 | .str x=>some (.inr x)
 | _=>none
theorem Ub{K:aC}{H:Hp}{α:List Addr}{u:U}{x:V}{k:Key}(r:RepU K H α u x)(h:toK u=some k):x=kV k:=by
 cases u <;> simp only[toK] at h <;> first | (cases h;unfold RepU at r;exact r) | cases h
noncomputable def Qe(kvs:List (Key×U))(k:Key):Option U:=(kvs.find? fun kv=>decide (kv.1=k)).map (·.2)
noncomputable def Ae3(kvs:List (Key×U))(k:Key)(v:U):List (Key×U):=
 if (kvs.any fun kv=>decide (kv.1=k))=true then kvs.map (fun kv=>if kv.1=k then (kv.1,v) else kv) else kvs++[(k,v)]
section
variable {K:aC}{H:Hp}{α:List Addr}
noncomputable def RepKV(K:aC)(H:Hp)(α:List Addr)(kvs:List (Key×U))(vs:List (Key×V)):Prop:=kvs.map (·.1)=vs.map (·.1)/\RepL K H α (kvs.map (·.2)) (vs.map (·.2))
theorem RepKV.nil:RepKV K H α [] []:=⟨rfl,.nil⟩
theorem RepKV.cons{kv:Key×U}{kvs:List (Key×U)}{vs:List (Key×V)}(h:RepKV K H α (kv::kvs) vs):∃ x vs',vs=(kv.1,x)::vs'/\RepU K H α kv.2 x/\RepKV K H α kvs vs':=by
 obtain ⟨h1,h2⟩:=h
 cases vs with
 | nil=>simp at h1
 | cons w vs'=>
  simp only[aO,jB] at h1
  rw[aO,aO] at h2
  unfold RepL at h2
  obtain ⟨x,xr,hx,rx,r⟩:=h2
  injection hx with e1 e2
  subst e1
  refine ⟨w.2,vs',by rw[h1.1],rx,h1.2,?_⟩
  rw[e2];exact r
theorem RepKV.mk{k:Key}{u:U}{x:V}{kvs:List (Key×U)}{vs:List (Key×V)}(r:RepU K H α u x)(h:RepKV K H α kvs vs):RepKV K H α ((k,u)::kvs) ((k,x)::vs):=
 ⟨by simp[h.1],by rw[aO,aO];exact .cons r h.2⟩
theorem RepKV.val{k:Key}{u:U}:∀ {kvs:List (Key×U)} {vs:List (Key×V)},RepKV K H α kvs vs->Qe kvs k=some u->∃ x,Mi vs k=some x/\RepU K H α u x
 | [],vs,_,e=>by simp[Qe] at e
 | kv::kvs,vs,r,e=>by
  obtain ⟨x,vs',rfl,rx,r'⟩:=r.cons
  unfold Qe at e
  unfold Mi
  rw[eF] at e ⊢
  by_cases h:kv.1=k
  ·simp only[h,decide_true,aD] at e ⊢
   cases e
   exact ⟨x,rfl,rx⟩
  ·simp only[h,decide_false] at e ⊢
   exact RepKV.val r' e
theorem RepKV.any{k:Key}:∀ {kvs:List (Key×U)} {vs:List (Key×V)},RepKV K H α kvs vs->(kvs.any fun kv=>decide (kv.1=k))=(vs.any fun kv=>decide (kv.1=k))
 | [],vs,r=>by
  obtain ⟨h1,_⟩:=r
  cases vs with
  | nil=>rfl
  | cons _ _=>simp at h1
 | kv::kvs,vs,r=>by
  obtain ⟨x,vs',rfl,rx,r'⟩:=r.cons
  rw[eZ,eZ,RepKV.any r']
theorem RepKV.len{kvs:List (Key×U)}{vs:List (Key×V)}(r:RepKV K H α kvs vs):kvs.length=vs.length:=by
 have:=congrArg kK r.1
 simpa using this
theorem RepKV.upd{k:Key}{u:U}{x:V}(ru:RepU K H α u x):∀ {kvs:List (Key×U)} {vs:List (Key×V)},RepKV K H α kvs vs->RepKV K H α (kvs.map fun kv=>if kv.1=k then (kv.1,u) else kv) (vs.map fun kv=>if kv.1=k then (kv.1,x) else kv)
 | [],vs,r=>by
  obtain ⟨h1,_⟩:=r
  cases vs with
  | nil=>exact .nil
  | cons _ _=>simp at h1
 | kv::kvs,vs,r=>by
  obtain ⟨y,vs',rfl,ry,r'⟩:=r.cons
  rw[aO,aO]
  by_cases h:kv.1=k
  ·rw[if_pos h,if_pos h]
   exact .mk ru (RepKV.upd ru r')
  ·rw[if_neg h,if_neg h]
   exact .mk ry (RepKV.upd ru r')
theorem RepKV.add{k:Key}{u:U}{x:V}(ru:RepU K H α u x):∀ {kvs:List (Key×U)} {vs:List (Key×V)},RepKV K H α kvs vs->RepKV K H α (kvs++[(k,u)]) (vs++[(k,x)])
 | [],vs,r=>by
  obtain ⟨h1,_⟩:=r
  cases vs with
  | nil=>exact .mk ru .nil
  | cons _ _=>simp at h1
 | kv::kvs,vs,r=>by
  obtain ⟨y,vs',rfl,ry,r'⟩:=r.cons
  exact .mk ry (RepKV.add ru r')
theorem RepKV.put{k:Key}{u:U}{x:V}{kvs:List (Key×U)}{vs:List (Key×V)}(ru:RepU K H α u x)(r:RepKV K H α kvs vs):RepKV K H α (Ae3 kvs k u) (Oy vs k x):=by
 unfold Ae3 Oy
 rw[r.any]
 split
 ·exact r.upd ru
 ·exact r.add ru
theorem RepKV.mono{H':Hp}{α':List Addr}{kvs:List (Key×U)}{vs:List (Key×V)}(r:RepKV K H α kvs vs)(g:Gr H α H' α'):RepKV K H' α' kvs vs:=⟨r.1,r.2.mono g⟩
end
noncomputable def E9(L:UH)(n:Nat):Option (List (Key×U)):=match L[n]? with
 | some (.dic kvs)=>some kvs
 | _=>none
theorem Mu{L:UH}{n:Nat}{kvs:List (Key×U)}(h:E9 L n=some kvs):L[n]? = some (.dic kvs):=by
 unfold E9 at h
 split at h
 ·rename_i e;cases h;exact e
 ·cases h
inductive ref_dic_I(K:aC)(H:Hp)(α:List Addr)(n:Nat)(x:V)(kvs:List (Key×U)):Prop
 | mk (a:_) (vs:_) (h0:x = .ref a) (h1:α[n]? = some a) (h2:H a=some (.dK vs)) (h3:RepKV K H α kvs vs):ref_dic_I K H α n x kvs
theorem Gg{K:aC}{H:Hp}{α:List Addr}{L:UH}{n:Nat}{x:V}{kvs:List (Key×U)}(A:Abs K H α L)(h:E9 L n=some kvs)(r:RepU K H α (.ref n) x):ref_dic_I K H α n x kvs:=by
 unfold RepU at r
 obtain ⟨a,ea,rfl⟩:=r
 obtain ⟨vs,e,k1,k2⟩:=A.rep n a _ ea (Mu h)
 exact ⟨a,vs,rfl,ea,e,k1,k2⟩
theorem Abs.setD{K:aC}{H:Hp}{α:List Addr}{L:UH}{n:Nat}{a:Addr}{vs ws:List (Key×V)}{kvs kws:List (Key×U)}(A:Abs K H α L)(h:E9 L n=some kvs)(ea:α[n]? = some a)(e:H a=some (.dK vs))(r:RepKV K H α kws ws) :
  Gr H α (upd H a (.dK ws)) α/\Abs K (upd H a (.dK ws)) α (L.set n (.dic kws)):=by
 have g:Gr H α (upd H a (.dK ws)) α:=⟨⟨[],by simp⟩,.write e (by exact trivial) _⟩
 obtain ⟨A',_⟩:=A.put (o:=.dK ws) (u:=.dic kws) ea (Mu h) rfl rfl e (by exact trivial) ⟨ws,upd_same,(r.mono g).1,(r.mono g).2⟩
 exact ⟨g,A'⟩
section
variable {X:Cx}{o i value:Expr}{pos pos':Pos}{fo fi fv:FE}
noncomputable def fDNew:FE:=fun _ L=>some (.ref L.length,L++[.dic []])
theorem Us:PEF X (.Dict [] [] pos) fDNew:=by
 refine PE.imp Ady ?_
 rintro σ H Q ⟨α,δ,L,A,S,z,L3,e,q⟩
 cases e
 intro p hp
 have g:Gr H α (upd H p (.dK [])) (α ++ [p]):=⟨⟨[p],rfl⟩,.new hp _⟩
 obtain ⟨A',_⟩:=A.new (o:=.dK []) (u:=.dic []) hp ⟨[],upd_same,rfl,.nil⟩
 refine q _ _ _ g A' ?_
 unfold RepU
 exact ⟨p,by rw[<- A.len];simp,rfl⟩
noncomputable def Lu(fo fi fv:FE):FS:=fun δ L=>(fv δ L).bind fun p=>(fo δ p.2).bind fun q=>(fi δ q.2).bind fun r=>match q.1 with
 | .ref n=>(toK r.1).bind fun k=>(E9 r.2 n).bind fun kvs=>if kvs.length < 1000000 then some (.nx δ,r.2.set n (.dic (Ae3 kvs k p.1))) else none
 | _=>none
theorem N0(hu:X.A.units+64 < cLine)(ho:PEF X o fo)(hi:PEF X i fi)(hv:PEF X value fv)(hs:swapsWith value (some (.Subscript o i pos')) pos.line X.env=pure false:=by rfl):PSF X (.Assign [.Subscript o i pos'] value pos) (Lu fo fi fv):=by
 refine PS.imp (Agb (by omega) ho hi hv hs) ?_
 rintro D σ H ⟨α,δ,L,A,S,fl,L',e,q⟩
 obtain ⟨⟨v,L1⟩,e1,e⟩:=aB.mp e
 obtain ⟨⟨u,L2⟩,e2,e⟩:=aB.mp e
 obtain ⟨⟨w,L3⟩,e3,e⟩:=aB.mp e
 refine ⟨α,δ,L,A,S,v,L1,e1,fun xv H1 α1 g1 A1 rv=>⟨α1,δ,L1,A1,S.mono g1,u,L2,e2,fun x H2 α2 g2 A2 rx=>⟨α2,δ,L2,A2,(S.mono g1).mono g2,w,L3,e3,fun y H3 α3 g3 A3 ry=>?_⟩⟩⟩
 simp only at e
 split at e
 ·obtain ⟨k,hk,e⟩:=aB.mp e
  obtain ⟨kvs,hd,e⟩:=aB.mp e
  split at e
  ·rename_i hl
   cases e
   obtain ⟨a,vs,rfl,ea,ha,rk⟩:=Gg A3 hd (rx.mono g3)
   have rv':=rv.mono (g2.trans g3)
   obtain ⟨g4,A4⟩:=A3.setD hd ea ha (rk.put (k:=k) rv')
   refine ⟨a,_,rfl,?_,q σ _ α3 ((g1.trans (g2.trans g3)).trans g4) A4 ((((S.mono g1).mono g2).mono g3).mono g4)⟩
   rw[Ub ry hk]
   exact DPut.k ha (by rw[<- rk.len];unfold sizeLine;omega)
  ·cases e
 ·cases e
end
theorem An0{β:Type}{P:List β->Prop}(h:P [])(us:List β)(hl:us.length=0):P us:=by
 cases us with
 | nil=>exact h
 | cons=>cases hl
theorem Ae8{β:Type}{n:Nat}{P:List β->Prop}(h:∀ (a:β) (us:List β),us.length=n->P (a::us))(us:List β)(hl:us.length=n+1):P us:=by
 cases us with
 | nil=>cases hl
 | cons a us=>exact h a us (Nat.succ.inj hl)
theorem O1{β:Type}{P:List β->Prop}(h:∀ a,P [a]):∀ us:List β,us.length=1->P us:=Ae8 fun a=>An0 (h a)
theorem Lc{β:Type}{P:List β->Prop}(h:∀ a b,P [a,b]):∀ us:List β,us.length=2->P us:=Ae8 fun a=>O1 (h a)
theorem Aca{β:Type}{P:List β->Prop}(h:∀ a b c,P [a,b,c]):∀ us:List β,us.length=3->P us:=Ae8 fun a=>Lc (h a)
theorem Af5{β:Type}{P:List β->Prop}(h:∀ a b c d,P [a,b,c,d]):∀ us:List β,us.length=4->P us:=Ae8 fun a=>Aca (h a)
theorem An1{β:Type}{P:List β->Prop}(h:∀ a b c d e,P [a,b,c,d,e]):∀ us:List β,us.length=5->P us:=Ae8 fun a=>Af5 (h a)
section
variable {X:Cx}{elts:List Expr}{x1:Nat}{tpos:Pos}
noncomputable def Aad(g:FA):FI:=fun δ L=>(g δ L).bind fun p=>match p.1 with
 | [.tup us,.tup ws]=>some (.seq (Ot us ws),p.2)
 | _=>none
theorem Ad2{a b:Expr}{g:FA}{p pos:Pos}(hg:Gl X "zip")(hm:X.mg "zip" = none)(ha:PAF X [a,b] g)(hs:bA [a,b] X.env=(false,eval a X.env)::bA [b] X.env:=by rfl)(hpl:(backTo pos (bA [b] X.env)).any (·.1)=false:=by rfl):PIF X (.Tuple elts x1 tpos) (.Call (.Name "zip" p) [a,b] [] pos) (Aad g):=by
 refine PI.imp (Aih hg hm ha hs hpl) ?_
 rintro σ H R ⟨α,δ,L,A,S,i,L3,e,q⟩
 obtain ⟨⟨us,L1⟩,e1,ee⟩:=aB.mp e
 simp only at ee
 split at ee
 ·cases ee
  refine ⟨α,δ,L,A,S,_,_,e1,fun xs H1 α1 g1 A1 r1=>?_⟩
  obtain ⟨x,y,rfl,rx,ry⟩:=r1.two
  unfold RepU at rx ry
  obtain ⟨a',ys,rfl,sq,r2⟩:=rx
  obtain ⟨b',ys',rfl,sq',r2'⟩:=ry
  exact ⟨a',b',ys,ys',rfl,sq,sq',q _ H1 α1 g1 A1 (Adg sq sq' r2 r2')⟩
 ·cases ee
end
end MR
namespace MR
open PySem L2
@[simp] theorem fVar_eq(i:Nat)(δ:UE)(L:UH):Ae i δ L=(δ[i]?).join.map fun u=>(u,L):=rfl
@[simp] theorem fC_eq(u:U)(δ:UE)(L:UH):fC u δ L=some (u,L):=rfl
@[simp] theorem f2_eq(s:S2)(a b:FE)(δ:UE)(L:UH):f2 s a b δ L=(a δ L).bind fun p=>(b δ p.2).bind fun q=>s p.1 q.1 q.2:=rfl
@[simp] theorem fTest_eq(f:FE)(δ:UE)(L:UH):Az f δ L=(f δ L).bind fun p=>match p.1 with | .bl k=>some (k,p.2) | _=>none:=rfl
@[simp] theorem fAnd_eq(f g:FT)(δ:UE)(L:UH):Pp f g δ L=(f δ L).bind fun p=>if p.1=true then g δ p.2 else some (false,p.2):=rfl
@[simp] theorem fOr_eq(f g:FT)(δ:UE)(L:UH):fOr f g δ L=(f δ L).bind fun p=>if p.1=true then some (true,p.2) else g δ p.2:=rfl
@[simp] theorem fNot_eq(f:FT)(δ:UE)(L:UH):Xq f δ L=(f δ L).map fun p=>(!p.1,p.2):=rfl
@[simp] theorem Ob(f g:FE)(δ:UE)(L:UH):Th f g δ L=(f δ L).bind fun p=>match p.1 with | .bl k=>if k=true then g δ p.2 else some (.bl false,p.2) | _=>none:=rfl
@[simp] theorem Ans(f g:FE)(δ:UE)(L:UH):Anu f g δ L=(f δ L).bind fun p=>match p.1 with | .bl k=>if k=true then some (.bl true,p.2) else g δ p.2 | _=>none:=rfl
@[simp] theorem Aml(f:FE)(δ:UE)(L:UH):Amg f δ L=(f δ L).bind fun p=>match p.1 with | .bl k=>some (.bl (!k),p.2) | _=>none:=rfl
@[simp] theorem An8(c:FT)(f g:FE)(δ:UE)(L:UH):fIf c f g δ L=(c δ L).bind fun p=>if p.1=true then f δ p.2 else g δ p.2:=rfl
@[simp] theorem fNil_eq(δ:UE)(L:UH):Ag δ L=some ([],L):=rfl
@[simp] theorem fCons_eq(f:FE)(g:FA)(δ:UE)(L:UH):Ac f g δ L=(f δ L).bind fun p=>(g δ p.2).map fun q=>(p.1::q.1,q.2):=rfl
@[simp] theorem fTup_eq(g:FA)(δ:UE)(L:UH):C7 g δ L=(g δ L).bind fun p=>if Eb p.1.length=true then some (.tup p.1,p.2) else none:=rfl
@[simp] theorem Mg(g:FA)(δ:UE)(L:UH):E5 g δ L=(g δ L).bind fun p=>if Eb p.1.length=true then some (.ref p.2.length,p.2++[.lst p.1]) else none:=rfl
@[simp] theorem fCall_eq(s:SC)(g:FA)(δ:UE)(L:UH):A0 s g δ L=(g δ L).bind fun p=>s p.1 p.2:=rfl
@[simp] theorem fOwn_eq(n:Nat)(F:FN)(g:FA)(δ:UE)(L:UH):Ar n F g δ L=(g δ L).bind fun p=>if p.1.length=n then F p.1 p.2 else none:=rfl
@[simp] theorem fMeth_eq(T:String)(s:SM)(f:FE)(g:FA)(δ:UE)(L:UH):Mp T s f g δ L=(f δ L).bind fun p=>if tyU T p.1 p.2=true then (g δ p.2).bind fun q=>s p.1 q.1 q.2 else none:=rfl
@[simp] theorem fPart_eq(f:FE)(δ:UE)(L:UH):Q5 f δ L=(f δ L).bind fun p=>match p.1 with | .int i=>some (some i,p.2) | _=>none:=rfl
@[simp] theorem fNoPart_eq(δ:UE)(L:UH):Kv δ L=some (none,L):=rfl
@[simp] theorem fSl_eq(s:SS)(f:FE)(l h:FO)(δ:UE)(L:UH):fSl s f l h δ L=(f δ L).bind fun p=>(l δ p.2).bind fun q=>(h δ q.2).bind fun r=>s p.1 q.1 r.1 r.2:=rfl
@[simp] theorem Ann(f:FE)(δ:UE)(L:UH):Ajd f δ L=(f δ L).bind fun p=>match p.1 with | .int i=>some (.int (-i),p.2) | _=>none:=rfl
@[simp] theorem fTru_eq(f:FE)(δ:UE)(L:UH):Pw f δ L=(f δ L).bind fun p=>(Acr p.1 p.2).map fun k=>(k,p.2):=rfl
@[simp] theorem Ano(c:String)(f:FE)(δ:UE)(L:UH):Aof c f δ L=(f δ L).bind fun p=>(Aes p.1 p.2).map fun t=>(.bl (isT t c),p.2):=rfl
@[simp] theorem Du(δ:UE)(L:UH):Cq δ L=some (.nx δ,L):=rfl
@[simp] theorem fSeq_eq(f g:FS)(δ:UE)(L:UH):Bf f g δ L=(f δ L).bind fun p=>match p.1 with | .nx δ'=>g δ' p.2 | fl=>some (fl,p.2):=rfl
@[simp] theorem fRet_eq(f:FE)(δ:UE)(L:UH):Ci f δ L=(f δ L).map fun p=>(.rt p.1,p.2):=rfl
@[simp] theorem Nu(f:FE)(δ:UE)(L:UH):C3 f δ L=(f δ L).map fun p=>(.nx δ,p.2):=rfl
@[simp] theorem Amo(δ:UE)(L:UH):Amr δ L=some (.rt .non,L):=rfl
@[simp] theorem fIfS_eq(c:FT)(f g:FS)(δ:UE)(L:UH):Dv c f g δ L=(c δ L).bind fun p=>if p.1=true then f δ p.2 else g δ p.2:=rfl
@[simp] theorem gN_eq(i:Nat)(u:U)(δ:UE)(L:UH):gN i u δ L=some (δ.set i (some u),L):=rfl
@[simp] theorem Anm(δ:UE)(L:UH):MR.gNil [] δ L=some (δ,L):=rfl
@[simp] theorem Ang(f:FG)(g:FGs)(u:U)(r:List U)(δ:UE)(L:UH):MR.gCons f g (u::r) δ L=(f u δ L).bind fun p=>g r p.1 p.2:=rfl
@[simp] theorem Anq(n:Nat)(g:FGs)(us:List U)(δ:UE)(L:UH):MR.gTup n g (.tup us) δ L=if us.length=n then g us δ L else none:=rfl
@[simp] theorem Anl(a b:FE)(v:U)(δ:UE)(L:UH):MR.gSub a b v δ L=(a δ L).bind fun p=>(b δ p.2).bind fun q=>match p.1,q.1 with
 | .ref n,.int k=>(Hb q.2 n).bind fun l=>(ixN l.length k).map fun j=>(δ,q.2.set n (.lst (l.set j v)))
 | _,_=>none:=rfl
@[simp] theorem Cy(f:FE)(g:FG)(δ:UE)(L:UH):Bq f g δ L=(f δ L).bind fun p=>(g p.1 δ p.2).map fun q=>(.nx q.1,q.2):=rfl
@[simp] theorem T7(fi:FI)(g:FG)(b:FS)(δ:UE)(L:UH):Lf fi g b δ L=(fi δ L).bind fun p=>N3 p.1 g b (p.1.size p.2+1) 0 δ p.2:=rfl
@[simp] theorem Kc(f:FE)(δ:UE)(L:UH):Bu f δ L=(f δ L).bind fun p=>(O9 p.1 p.2).map fun i=>(i,p.2):=rfl
@[simp] theorem Aeh(g:FA)(δ:UE)(L:UH):E2 g δ L=(g δ L).bind fun p=>match p.1 with
 | [.int j]=>if -(2 ^ 62)<=j/\j < 2 ^ 62 then some (.seq (Cp 0 j.toNat),p.2) else none
 | _=>none:=rfl
@[simp] theorem W9(i j:Int)(L:UH):Ax (.int i) (.int j) L=some (.int (i+j),L):=rfl
@[simp] theorem semSub_int(i j:Int)(L:UH):E3 (.int i) (.int j) L=some (.int (i - j),L):=rfl
@[simp] theorem Akq(i j:Int)(L:UH):Ji (.int i) (.int j) L=if Ip i j=true then some (.int (i * j),L) else none:=rfl
@[simp] theorem Aki(i j:Int)(L:UH):Uw (.int i) (.int j) L=if Sk i j=true then some (.int (i / j),L) else none:=rfl
@[simp] theorem Akl(i j:Int)(L:UH):Ja (.int i) (.int j) L=if decide (0 < j)=true then some (.int (i % j),L) else none:=rfl
@[simp] theorem Akz(i j:Int)(L:UH):Fj (.int i) (.int j) L=if Ro i j=true then some (.int (i ^ j.toNat),L) else none:=rfl
@[simp] theorem Acm(i j:Int)(L:UH):Ka (.int i) (.int j) L=some (.bl (decide (i<=j)),L):=rfl
@[simp] theorem Alp(i j:Int)(L:UH):Q9 (.int i) (.int j) L=some (.bl (decide (i < j)),L):=rfl
@[simp] theorem Alo(i j:Int)(L:UH):Adc (.int i) (.int j) L=some (.bl (decide (j < i)),L):=rfl
@[simp] theorem Aln(i j:Int)(L:UH):Aet (.int i) (.int j) L=some (.bl (decide (j<=i)),L):=rfl
@[simp] theorem Hr(i j:Int)(L:UH):B2 (.int i) (.int j) L=some (.bl (i == j),L):=rfl
@[simp] theorem Alq(i j:Int)(L:UH):He (.int i) (.int j) L=some (.bl (!(i == j)),L):=rfl
@[simp] theorem Ams(i j:Bool)(L:UH):B2 (.bl i) (.bl j) L=some (.bl (i == j),L):=rfl
@[simp] theorem Alw(i j:Bool)(L:UH):He (.bl i) (.bl j) L=some (.bl (!(i == j)),L):=rfl
@[simp] theorem Ana(i j:Bool)(L:UH):Anj false (.bl i) (.bl j) L=some (.bl (i == j),L):=rfl
@[simp] theorem semIx_tup(l:List U)(i:Int)(L:UH):Ao (.tup l) (.int i) L=(L2.atI l i).map fun z=>(z,L):=rfl
@[simp] theorem semIx_ref(n:Nat)(i:Int)(L:UH):Ao (.ref n) (.int i) L=(Ba L n).bind fun l=>(L2.atI l i).map fun z=>(z,L):=rfl
@[simp] theorem truU_bl(b:Bool)(L:UH):Acr (.bl b) L=some b:=rfl
theorem Be{L:UH}{n:Nat}{us:List U}(h:L[n]? = some (.lst us)):Ba L n=some us:=by unfold Ba;rw[h]
theorem Fx{L:UH}{n:Nat}{us:List U}(h:L[n]? = some (.lst us)):Hb L n=some us:=by unfold Hb;rw[h]
theorem B1{n:Nat}(h:n<=16777216):Eb n=true:=by unfold Eb sizeLine;exact decide_eq_true (by omega)
theorem Qz{β:Type}{l:List β}{i:Int}(h0:0<=i)(h:i < l.length):L2.atI l i=l[i.toNat]?:=by
 unfold L2.atI ixN
 rw[if_pos h0,if_pos h];rfl
theorem Yq{i j:Int}(h1:-1000000000000000000<=i)(h2:i<=1000000000000000000):Ip i j=true:=by
 unfold Ip;simp only[iZ,cQ,decide_eq_true_eq];left;constructor <;> omega
theorem Nj{i j:Int}(h1:-1000000000000000000<=j)(h2:j<=1000000000000000000):Ip i j=true:=by
 unfold Ip;simp only[iZ,cQ,decide_eq_true_eq];right;constructor <;> omega
theorem Vn{i j:Int}(h1:0 < j)(h2:j < 1152921504606846976):Sk i j=true:=by
 unfold Sk;simp only[cQ,decide_eq_true_eq];exact ⟨h1,h2⟩
noncomputable def W6(g:FG)(body:FS)(u:U)(δ:UE)(L:UH)(R:UE->UH->Prop):Prop:=∃ δ1 L1,g u δ L=some (δ1,L1)/\∃ δ2 L2,(body δ1 L1=some (.nx δ2,L2)\/body δ1 L1=some (.ct δ2,L2))/\R δ2 L2
theorem Q8{it:IU}{g:FG}{body:FS}{us:List U}(P:Nat->UE->UH->Prop)(hat:∀ k δ L,k<=us.length->P k δ L->it.at k L=some us[k]?)
  (step:∀ k u δ L,us[k]? = some u->P k δ L->W6 g body u δ L (P (k+1))) :
  ∀ (m k:Nat) (δ:UE) (L:UH),us.length < m+k->k<=us.length->P k δ L->∃ δ' L',N3 it g body m k δ L=some (.nx δ',L')/\P us.length δ' L'
 | 0,k,δ,L,h1,h2,_=>by omega
 | m+1,k,δ,L,h1,h2,hP=>by
  have hk:=hat k δ L h2 hP
  unfold N3
  rw[hk]
  cases hu:us[k]? with
  | none=>
   have:k=us.length:=by have:=cP.mp hu;omega
   subst this
   exact ⟨δ,L,rfl,hP⟩
  | some u=>
   have hlt:k < us.length:=(aQ.mp hu).1
   obtain ⟨δ1,L1,e1,δ2,L2,e2,hP2⟩:=step k u δ L hu hP
   obtain ⟨δ',L',e3,hP3⟩:=Q8 P hat step m (k+1) δ2 L2 (by omega) (by omega) hP2
   refine ⟨δ',L',?_,hP3⟩
   rcases e2 with e2 | e2
   ·simp only[e1,aA,e2,e3]
   ·simp only[e1,aA,e2,e3]
theorem Nm{fi:FI}{g:FG}{body:FS}{us:List U}{δ:UE}{L L0:UH}(P:Nat->UE->UH->Prop)(hi:fi δ L=some (.seq us,L0))(h0:P 0 δ L0)(step:∀ k u δ L,us[k]? = some u->P k δ L->W6 g body u δ L (P (k+1))) :
  ∃ δ' L',Lf fi g body δ L=some (.nx δ',L')/\P us.length δ' L':=by
 obtain ⟨δ',L',e,h⟩:=Q8 (it:=.seq us) (g:=g) (body:=body) (us:=us) P (fun _ _ _ _ _=>rfl) step (us.length+1) 0 δ L0 (by omega) (by omega) h0
 exact ⟨δ',L',by rw[T7,hi];exact e,h⟩
theorem T6{fi:FI}{g:FG}{body:FS}{us:List U}{n:Nat}{δ:UE}{L L0:UH}(P:Nat->UE->UH->Prop)(hi:fi δ L=some (.ref n,L0))(h0:P 0 δ L0)(hl:∀ k δ L,P k δ L->Ba L n=some us)(step:∀ k u δ L,us[k]? = some u->P k δ L->W6 g body u δ L (P (k+1))) :
  ∃ δ' L',Lf fi g body δ L=some (.nx δ',L')/\P us.length δ' L':=by
 have hat:∀ k δ L,k<=us.length->P k δ L->(IU.ref n).at k L=some us[k]?:=fun k δ L _ hp=>by
  have:=hl k δ L hp
  unfold Ba at this
  unfold IU.at
  simp only
  split at this
  ·rename_i e;cases this;first | rw[e] | rfl
  ·rename_i e;cases this;first | rw[e] | rfl
  ·cases this
 have hsz:(IU.ref n).size L0=us.length:=by
  have:=hl 0 δ L0 h0
  unfold Ba at this
  unfold IU.size
  simp only
  split at this
  ·rename_i e;cases this;first | rw[e] | rfl
  ·rename_i e;cases this;first | rw[e] | rfl
  ·cases this
 obtain ⟨δ',L',e,h⟩:=Q8 (it:=.ref n) (g:=g) (body:=body) (us:=us) P hat step (us.length+1) 0 δ L0 (by omega) (by omega) h0
 exact ⟨δ',L',by rw[T7,hi];simp only[aA,hsz];exact e,h⟩
theorem Gn{L:UH}{n:Nat}{us:List U}(h:Ba L n=some us):O9 (.ref n) L=some (.ref n):=by
 unfold Ba at h
 unfold O9
 simp only
 split at h
 ·rename_i e;first | rw[e] | rfl
 ·rename_i e;first | rw[e] | rfl
 ·cases h
theorem Gx{lo:Int}{n k:Nat}{u:U}(h:(Cp lo n)[k]? = some u):k < n/\u = .int (lo+k):=by
 unfold Cp at h
 rw[bO] at h
 by_cases hk:k < n
 ·rw[gG hk] at h
  simp at h
  exact ⟨hk,h.symm⟩
 ·rw[dI (by simpa using hk)] at h
  simp at h
theorem Ia{lo:Int}{n:Nat}:(Cp lo n).length=n:=by simp[Cp]
@[simp] theorem Amq(g:FA)(δ:UE)(L:UH):Alx g δ L=(g δ L).bind fun p=>match p.1 with
 | [.ref n]=>(Ba p.2 n).map fun _=>(.enm n,p.2)
 | _=>none:=rfl
@[simp] theorem Anp(g:FA)(δ:UE)(L:UH):Aoc g δ L=(g δ L).bind fun p=>match p.1 with
 | [.ref n,.ref m]=>(Ba p.2 n).bind fun _=>(Ba p.2 m).map fun _=>(.zip2 n m,p.2)
 | _=>none:=rfl
@[simp] theorem Anr(f:FE)(δ:UE)(L:UH):Anw f δ L=(f δ L).bind fun p=>match p.1 with | .ref n=>(Ba p.2 n).map fun l=>(.ref p.2.length,p.2++[.lst l.reverse]) | .tup l=>some (.tup l.reverse,p.2) | _=>none:=rfl
@[simp] theorem Ane(g:FA)(δ:UE)(L:UH):Aip g δ L=(g δ L).bind fun p=>match p.1 with
 | [.int i,.int j]=>if (-(2 ^ 62)<=i/\i < 2 ^ 62)/\(-(2 ^ 62)<=j/\j < 2 ^ 62) then some (.seq (Cp i (j - i).toNat),p.2) else none
 | _=>none:=by first | rfl | (unfold Aip;rfl)
theorem Q4{it:IU}{g:FG}{tt:Option FT}{fe:FE}{us:List U}(P:Nat->List U->UE->UH->Prop)(hat:∀ k acc δ L,k<=us.length->P k acc δ L->it.at k L=some us[k]?)
  (step:∀ k u acc δ L,us[k]? = some u->P k acc δ L->∃ δ1 L1,g u δ L=some (δ1,L1)/\∃ b L2,Hf tt δ1 L1=some (b,L2)/\(b=true->∃ r L3,fe δ1 L2=some (r,L3)/\acc.length < 16777216/\P (k+1) (acc++[r]) δ1 L3)/\(b=false->P (k+1) acc δ1 L2)) :
  ∀ (m k:Nat) (acc:List U) (δ:UE) (L:UH),us.length < m+k->k<=us.length->P k acc δ L->∃ ys δ' L',Rr it g tt fe m k acc δ L=some (ys,L')/\P us.length ys δ' L'
 | 0,k,acc,δ,L,h1,h2,_=>by omega
 | m+1,k,acc,δ,L,h1,h2,hP=>by
  have hk:=hat k acc δ L h2 hP
  unfold Rr
  rw[hk]
  cases hu:us[k]? with
  | none=>
   have:k=us.length:=by have:=cP.mp hu;omega
   subst this
   exact ⟨acc,δ,L,rfl,hP⟩
  | some u=>
   have hlt:k < us.length:=(aQ.mp hu).1
   obtain ⟨δ1,L1,e1,b,L2,e2,h3,h4⟩:=step k u acc δ L hu hP
   cases b with
   | true=>
    obtain ⟨r,L3,e3,hl,hP2⟩:=h3 rfl
    obtain ⟨ys,δ',L',e4,hP3⟩:=Q4 P hat step m (k+1) (acc++[r]) δ1 L3 (by omega) (by omega) hP2
    refine ⟨ys,δ',L',?_,hP3⟩
    have hz:decide (acc.length < sizeLine)=true:=decide_eq_true (by unfold sizeLine;omega)
    simp only[e1,aA,e2,e3,if_true,hz,e4]
   | false=>
    obtain ⟨ys,δ',L',e4,hP3⟩:=Q4 P hat step m (k+1) acc δ1 L2 (by omega) (by omega) (h4 rfl)
    refine ⟨ys,δ',L',?_,hP3⟩
    simp only[e1,aA,e2,e4,bJ,if_false]
theorem Yi{ix:List (Option Nat)}{fi:FI}{it:IU}{g:FG}{tt:Option FT}{fe:FE}{us:List U}{δ:UE}{L L0:UH}(P:Nat->List U->UE->UH->Prop)(hi:fi δ L=some (it,L0))(hsz:us.length<=it.size L0)(h0:P 0 [] (Jf ix δ) L0)
  (hat:∀ k acc δ L,k<=us.length->P k acc δ L->it.at k L=some us[k]?)
  (step:∀ k u acc δ L,us[k]? = some u->P k acc δ L->∃ δ1 L1,g u δ L=some (δ1,L1)/\∃ b L2,Hf tt δ1 L1=some (b,L2)/\(b=true->∃ r L3,fe δ1 L2=some (r,L3)/\acc.length < 16777216/\P (k+1) (acc++[r]) δ1 L3)/\(b=false->P (k+1) acc δ1 L2)) :
  ∃ ys δ' L',Bn ix fi g tt fe δ L=some (.ref L'.length,L'++[.lst ys])/\P us.length ys δ' L':=by
 obtain ⟨ys,δ',L',e,h⟩:=Q4 P hat step (it.size L0+1) 0 [] (Jf ix δ) L0 (by omega) (by omega) h0
 refine ⟨ys,δ',L',?_,h⟩
 unfold Bn
 simp only[hi,aA,e,aD]
theorem Ux{n k:Nat}{L:UH}{us:List U}(h:Ba L n=some us):(IU.ref n).at k L=some us[k]?:=by
 unfold Ba at h
 unfold IU.at
 simp only
 split at h
 ·rename_i e;cases h;first | rw[e] | rfl
 ·rename_i e;cases h;first | rw[e] | rfl
 ·cases h
theorem Nh{n:Nat}{L:UH}{us:List U}(h:Ba L n=some us):(IU.ref n).size L=us.length:=by
 unfold Ba at h
 unfold IU.size
 simp only
 split at h
 ·rename_i e;cases h;first | rw[e] | rfl
 ·rename_i e;cases h;first | rw[e] | rfl
 ·cases h
theorem Dt{β:Type}{ix:List (Option Nat)}{fi:FI}{it:IU}{g:FG}{tt:Option FT}{fe:FE}{δ:UE}{L L0:UH}(as:List β)(rep:β->U)(f:β->Bool)(e:β->U)(E:UE->Prop)(hi:fi δ L=some (it,L0))(hsz:as.length<=it.size L0)(hl:as.length < 16777216)(h0:E (Jf ix δ))
  (hat:∀ k x,it.at k (L0++x)=some (as.map rep)[k]?)
  (step:∀ (a:β) δ x,a∈as->E δ->∃ δ1,g (rep a) δ (L0++x)=some (δ1,L0++x)/\E δ1/\∃ y,Hf tt δ1 (L0++x)=some (f a,L0++x++y)/\(f a=true->∃ z,fe δ1 (L0++x++y)=some (e a,L0++x++y++z))) :
  ∃ x,Bn ix fi g tt fe δ L=some (.ref (L0++x).length,L0++x++[.lst ((as.filter f).map e)]):=by
 obtain ⟨ys,δ',L',e1,⟨h1,h2,x,rfl⟩,h3⟩:=Yi (us:=as.map rep) (ix:=ix) (tt:=tt) (g:=g) (fe:=fe) (δ:=δ) (fun k acc δ L=>(acc=((as.take k).filter f).map e/\E δ/\∃ x,L=L0++x)/\acc.length<=k) hi (by simpa using hsz) ⟨⟨rfl,h0,[],by simp⟩,by simp⟩
  (fun k acc δ L _ zz=>by obtain ⟨⟨_,_,x,hx⟩,_⟩:=zz;rw[hx];exact hat k x)
  (fun k u acc δ L hu zz=>by
   obtain ⟨⟨ha,hE,x,hx⟩,hlen⟩:=zz
   subst hx
   rw[bO] at hu
   obtain ⟨a,hk,rfl⟩:=aM.mp hu
   have hk':=(aQ.mp hk).1
   obtain ⟨δ1,g1,E1,y,t1,r1⟩:=step a δ x (fV hk) hE
   have ht:as.take (k+1)=as.take k++[a]:=by
    rw[iB,hk];rfl
   refine ⟨δ1,_,g1,f a,_,t1,fun hf=>?_,fun hf=>?_⟩
   ·obtain ⟨z,q⟩:=r1 hf
    refine ⟨_,_,q,by omega,⟨?_,E1,x++y++z,by simp⟩,by simp;omega⟩
    rw[ha,ht];simp[hf]
   ·refine ⟨⟨?_,E1,x++y,by simp⟩,by omega⟩
    rw[ha,ht];simp[hf])
 refine ⟨x,?_⟩
 rw[e1,h1]
 simp
theorem Gv{L x:UH}{n:Nat}{us:List U}(h:Ba L n=some us):Ba (L++x) n=some us:=by
 unfold Ba at h ⊢
 cases hn:L[n]? with
 | none=>rw[hn] at h;cases h
 | some o=>rw[aW (aQ.mp hn).1,hn];rw[hn] at h;exact h
noncomputable def Pl:Nat->U->Prop
 | _,.non=>True
 | _,.int _=>True
 | _,.str x=>cV x=true
 | n+1,.tup l=>∀ u∈l,Pl n u
 | _,_=>False
mutual
noncomputable def pd:U->pH
 | .non=>.none
 | .bl b=>.bool b
 | .int i=>.int i
 | .str x=>.str x
 | .tup l=>.tuple (pds l)
 | .ref _=>.none
noncomputable def pds:List U->List pH
 | []=>[]
 | u::r=>pd u::pds r
end
theorem Li{n:Nat}{l:List U}:Pl (n+1) (.tup l)↔∀ u∈l,Pl n u:=by rw[Pl]
theorem Yg{L:UH}{n m:Nat}(ih:∀ u,Pl n u->toP L m u=some (pd u)):∀ l:List U,(∀ u∈l,Pl n u)->mapO (toP L m) l=some (pds l)
 | [],_=>rfl
 | u::r,h=>by
  simp only[mapO,ih u (h u (bT ..)),Yg ih r (fun x hx=>h x (bG _ hx)),aA,aD,pds]
theorem Xx(L:UH):∀ (n m:Nat) (u:U),n < m->Pl n u->toP L m u=some (pd u)
 | n,0,u,h,_=>by omega
 | n,m+1,.non,_,_=>rfl
 | n,m+1,.int _,_,_=>rfl
 | n,m+1,.str _,_,_=>rfl
 | n,m+1,.bl _,_,h=>by cases n <;> exact absurd h (by simp[Pl])
 | n,m+1,.ref _,_,h=>by cases n <;> exact absurd h (by simp[Pl])
 | 0,m+1,.tup l,_,h=>absurd h (by simp[Pl])
 | n+1,m+1,.tup l,hm,h=>by
  have:=Yg (L:=L) (n:=n) (m:=m) (fun u hu=>Xx L n m u (by omega) hu) l (Li.mp h)
  show (mapO (toP L m) l).map pH.tuple=_
  rw[this]
  rfl
theorem Yr{n:Nat}(ih:∀ u,Pl n u->fX (pd u)=true/\iC (pd u)<=n):∀ l:List U,(∀ u∈l,Pl n u)->nU (pds l)=true/\oU (pds l)<=n
 | [],_=>⟨rfl,kH _⟩
 | u::r,h=>by
  obtain ⟨a1,a2⟩:=ih u (h u (bT ..))
  obtain ⟨b1,b2⟩:=Yr ih r (fun x hx=>h x (bG _ hx))
  refine ⟨by simp[pds,nU,a1,b1],?_⟩
  simp only[pds,oU]
  omega
theorem W5:∀ (n:Nat) (u:U),Pl n u->fX (pd u)=true/\iC (pd u)<=n
 | n,.non,_=>by simp[pd,fX,iC]
 | n,.int _,_=>by simp[pd,fX,iC]
 | n,.str x,h=>by
  have h':cV x=true:=by cases n <;> simpa[Pl] using h
  simp[pd,fX,iC,h']
 | n,.bl _,h=>by cases n <;> exact absurd h (by simp[Pl])
 | n,.ref _,h=>by cases n <;> exact absurd h (by simp[Pl])
 | 0,.tup l,h=>absurd h (by simp[Pl])
 | n+1,.tup l,h=>by
  obtain ⟨a,b⟩:=Yr (fun u hu=>W5 n u hu) l (Li.mp h)
  simp only[pd,fX,iC]
  exact ⟨a,by omega⟩
theorem Rm{n:Nat}(ih:∀ u w,Pl n u->Pl n w->(cU (pd u) (pd w)=true↔u=w)):∀ l m:List U,(∀ u∈l,Pl n u)->(∀ u∈m,Pl n u)->(iO (pds l) (pds m)=true↔l=m)
 | [],[],_,_=>by simp[pds,iO]
 | [],_::_,_,_=>by simp[pds,iO]
 | _::_,[],_,_=>by simp[pds,iO]
 | u::l,w::m,h1,h2=>by
  simp only[pds,iO,cQ,ih u w (h1 u (bT ..)) (h2 w (bT ..)),Rm ih l m (fun x hx=>h1 x (bG _ hx)) (fun x hx=>h2 x (bG _ hx)),jB]
theorem Aak:∀ (n:Nat) (u w:U),Pl n u->Pl n w->(cU (pd u) (pd w)=true↔u=w)
 | n,.bl _,_,h,_=>by cases n <;> exact absurd h (by simp[Pl])
 | n,.ref _,_,h,_=>by cases n <;> exact absurd h (by simp[Pl])
 | n,_,.bl _,_,h=>by cases n <;> exact absurd h (by simp[Pl])
 | n,_,.ref _,_,h=>by cases n <;> exact absurd h (by simp[Pl])
 | 0,.tup _,_,h,_=>absurd h (by simp[Pl])
 | 0,_,.tup _,_,h=>absurd h (by simp[Pl])
 | n+1,.tup l,.tup m,h1,h2=>by
  simp only[pd,cU,U.tup.injEq]
  exact Rm (fun u w=>Aak n u w) l m (Li.mp h1) (Li.mp h2)
 | n,.non,.non,_,_=>by simp[pd,cU]
 | n,.non,.int _,_,_=>by simp[pd,cU]
 | n,.non,.str _,_,_=>by simp[pd,cU]
 | n+1,.non,.tup _,_,_=>by simp[pd,cU]
 | n,.int _,.non,_,_=>by simp[pd,cU]
 | n,.int _,.int _,_,_=>by simp[pd,cU]
 | n,.int _,.str _,_,_=>by simp[pd,cU]
 | n+1,.int _,.tup _,_,_=>by simp[pd,cU]
 | n,.str _,.non,_,_=>by simp[pd,cU]
 | n,.str _,.int _,_,_=>by simp[pd,cU]
 | n,.str _,.str _,_,_=>by simp[pd,cU]
 | n+1,.str _,.tup _,_,_=>by simp[pd,cU]
 | n+1,.tup _,.non,_,_=>by simp[pd,cU]
 | n+1,.tup _,.int _,_,_=>by simp[pd,cU]
 | n+1,.tup _,.str _,_,_=>by simp[pd,cU]
noncomputable def eqB(u w:U):Bool:=cU (pd u) (pd w)
theorem Aag{u w:U}(h1:Pl 6 u)(h2:Pl 6 w):eqB u w=true↔u=w:=Aak 6 u w h1 h2
theorem Rc{u:U}(h1:Pl 6 u):eqB u u=true:=(Aag h1 h1).mpr rfl
theorem Afh{u w:U}(L:UH)(h1:Pl 6 u)(h2:Pl 6 w):eqP u w L=some (eqB u w):=by
 obtain ⟨a1,a2⟩:=W5 6 u h1
 obtain ⟨b1,b2⟩:=W5 6 w h2
 have s1:iA (pd u)=true:=by unfold iA;rw[a1];simp;omega
 have s2:iA (pd w)=true:=by unfold iA;rw[b1];simp;omega
 unfold eqP
 simp only[Xx L 6 8 u (by decide) h1,Xx L 6 8 w (by decide) h2,aA,s1,s2,and_self,if_true,eqB]
theorem V6{u w:U}(L:UH)(h1:Pl 6 u)(h2:Pl 6 w):B2 u w L=some (.bl (eqB u w),L):=by unfold B2;rw[Afh L h1 h2];rfl
theorem Vi{u w:U}(L:UH)(h1:Pl 6 u)(h2:Pl 6 w):He u w L=some (.bl (!eqB u w),L):=by unfold He;rw[Afh L h1 h2];rfl
theorem Pl.int(n:Nat)(i:Int):Pl n (.int i):=by cases n <;> exact trivial
theorem Ah5{g:FA}{δ:UE}{L L':UH}{j:Int}(hg:g δ L=some ([.int j],L'))(h0:0<=j)(h1:j < 1000000):E2 g δ L=some (.seq (Cp 0 j.toNat),L'):=by
 rw[Aeh,hg]
 simp only[aA]
 rw[if_pos ⟨by omega,by omega⟩]
theorem Ie{g:FA}{δ:UE}{L L':UH}{n:Nat}(hg:g δ L=some ([.int n],L'))(h1:n < 1000000):E2 g δ L=some (.seq (Cp 0 n),L'):=by
 have:=Ah5 hg (by omega) (by omega)
 rwa [dH] at this
end MR
namespace Lw
open PySem L2 MR
end Lw
namespace MR
open PySem PySem.Spec PyProof.Rows L2
section
variable {X:Cx}{pins:List (Addr×Obj)}{σ:L2.St}{H H':Hp}{s:aJ}
theorem Inv.freeze{a:Addr}{o:Obj}{kvs:List (Key×V)}(I:L2.Inv X pins σ H s)(e:H a=some (.dK kvs))(ho:s.heap.get? a=some o):L2.Inv X pins σ (upd H a (.frz o (.dK kvs))) s:=by
 have tp:∀ b u,H b=some u->(∀ ks,u≠.dK ks)->upd H a (.frz o (.dK kvs)) b=some u:=fun b u q n=>by
  rw[A9 (fun z=>by subst z;rw[e] at q;cases q;exact n _ rfl)];exact q
 refine I.un (t':=s.toks) (h':=s.heap) ⟨fun b ob q n _ _=>q,fun b ob q n _ _=>⟨ob.slots,q⟩,fun b ob q n _=>?_,fun b ob q _=>⟨ob,q⟩,fun b xs q=>tp b _ q fun ks z=>(nomatch z),fun b ob u q=>tp b _ q fun ks z=>(nomatch z),fun b ps q=>⟨#[],by rw[tp b _ q fun ks z=>(nomatch z)];simp⟩⟩ fun b u q=>?_
 ·rw[A9 (fun z=>by subst z;rw[e] at n;cases n)];exact n
 ·have own:∀ c,H c=some (.own b)->upd H a (.frz o (.dK kvs)) c=some (.own b):=fun c z=>tp c _ z fun ks z=>(nomatch z)
  have tups:∀ c xs,H c=some (.tup xs)->upd H a (.frz o (.dK kvs)) c=some (.tup xs):=fun c xs z=>tp c _ z fun ks z=>(nomatch z)
  by_cases hb:b=a
  ·subst hb
   rw[upd_same] at q
   cases q
   exact ⟨ho,(I.hok b _ e).stay (fun _ _ _ z=>z) own tups⟩
  ·rw[A9 hb] at q
   exact (I.hok b u q).stay (fun _ _ _ z=>z) own tups
noncomputable def Thaw(H H' H2:Hp):Prop:=∀ b,H2 b=H' b\/∃ o vs,H' b=some (.frz o (.dK vs))/\H2 b=some (.dK vs)/\∀ o u,H b≠some (.frz o u)
theorem Thaw.stay{H2:Hp}(t:Thaw H H' H2){b:Addr}{u:Option HO}(e:H' b=u)(n:∀ o ks,u≠some (.frz o (.dK ks))):H2 b=u:=by
 rcases t b with z | ⟨o,vs,z,_⟩
 ·rw[z];exact e
 ·rw[e] at z;exact absurd z (n _ _)
theorem Inv.thaw{pins0:List (Addr×Obj)}{σ0:L2.St}{s0:aJ}{H2:Hp}(I0:L2.Inv X pins0 σ0 H s0)(I:L2.Inv X pins σ H' s)(t:Thaw H H' H2):L2.Inv X pins σ H2 s:=by
 have nn:∀ b,H' b=none->H2 b=none:=fun b e=>t.stay e fun _ _ z=>(nomatch z)
 refine ⟨I.ok,I.os,I.bare,⟨I.base.keep,I.base.slot,fun b o e n hx=>nn b (I.base.free b o e n hx),I.base.there,fun b xs e=>t.stay (I.base.tups b xs e) fun _ _ z=>(nomatch z),fun b o u e=>?_,fun b ps e=>?_⟩,I.loc,I.cell,nn _ I.free,fun x c e=>nn _ (I.freeC x c e),fun p hp=>?_,fun a o e=>?_,I.len⟩
 ·have h0:=I0.base.frzs b o u e
  rcases t b with z | ⟨o',vs,_,_,z⟩
  ·rw[z];exact I.base.frzs b o u e
  ·exact absurd h0 (z _ _)
 ·obtain ⟨more,q⟩:=I.base.tbls b ps e
  exact ⟨more,t.stay q fun _ _ z=>(nomatch z)⟩
 ·obtain ⟨h1,h2,h3⟩:=I.pin p hp
  exact ⟨h1,nn _ h2,h3⟩
 ·have own:∀ c,H' c=some (.own a)->H2 c=some (.own a):=fun c z=>t.stay z fun _ _ z=>(nomatch z)
  have tups:∀ c xs,H' c=some (.tup xs)->H2 c=some (.tup xs):=fun c xs z=>t.stay z fun _ _ z=>(nomatch z)
  rcases t a with z | ⟨o',vs,z1,z2,_⟩
  ·rw[z] at e
   exact (I.hok a o e).stay (fun _ _ _ z=>z) own tups
  ·rw[z2] at e
   cases e
   exact (show ObjOk X.prog X.w H' s.heap a (.dK vs) from (I.hok a _ z1).2).stay (fun _ _ _ z=>z) own tups
theorem Agl{e:Expr}{t:TE}(h:PE X e t):PE X e (fun σ H Q=>t σ H fun x H'=>∃ H2,Thaw H H' H2/\Q x H2):=fun pins s σ H Q I q=>
 thn (h pins s σ H _ I q) fun v s1 zz=>by obtain ⟨x,H1,I1,r,H2,th,q⟩:=zz;exact ⟨x,H2,Inv.thaw I I1 th,r,q⟩
end
section
variable {K:aC}{H H':Hp}{α:List Addr}
mutual
theorem RepU.via(g:∀ a xs,SqT K H a xs->SqT K H' a xs):∀ (u:U) (v:V),RepU K H α u v->RepU K H' α u v
 | .non,_,h=>h
 | .bl _,_,h=>h
 | .int _,_,h=>h
 | .str _,_,h=>h
 | .tup l,v,h=>by
  unfold RepU at h ⊢
  obtain ⟨a,xs,e,s,r⟩:=h
  exact ⟨a,xs,e,g _ _ s,RepL.via g l xs r⟩
 | .ref n,v,h=>by
  unfold RepU at h ⊢
  exact h
theorem RepL.via(g:∀ a xs,SqT K H a xs->SqT K H' a xs):∀ (l:List U) (xs:List V),RepL K H α l xs->RepL K H' α l xs
 | [],xs,h=>h
 | u::l,xs,h=>by
  unfold RepL at h ⊢
  obtain ⟨x,r,e,h1,h2⟩:=h
  exact ⟨x,r,e,RepU.via g u x h1,RepL.via g l r h2⟩
end
end
noncomputable def Lp:Option HU->Option HU->Option HU
 | some (.dic _),some (.rod kvs)=>some (.dic kvs)
 | _,x=>x
noncomputable def Em:UH->UH->UH
 | [],L'=>L'
 | _::_,[]=>[]
 | .dic _::L,.rod kvs::L'=>.dic kvs::Em L L'
 | _::L,x::L'=>x::Em L L'
theorem Nl:∀ (L L':UH),(Em L L').length=L'.length
 | [],L'=>by unfold Em;rfl
 | a::L,[]=>by unfold Em;rfl
 | a::L,x::L'=>by
  cases a <;> cases x <;> simp[Em,Nl L L']
theorem Qm:∀ (L L':UH) (n:Nat),(Em L L')[n]? = Lp L[n]? L'[n]?
 | [],L',n=>by
  unfold Em
  cases h:L'[n]? <;> simp[Lp]
 | a::L,[],n=>by
  unfold Em
  cases h:(a::L)[n]? with
  | none=>simp[Lp]
  | some w=>cases w <;> simp[Lp]
 | a::L,x::L',0=>by
  cases a <;> cases x <;> simp[Em,Lp]
 | a::L,x::L',n+1=>by
  have:=Qm L L' n
  cases a <;> cases x <;> simpa[Em] using this
theorem Rn{a:Option HU}{x y:HU}(h:Lp a (some x)=some y):y.isRo=x.isRo/\(x.isRo=true->y=x):=by
 unfold Lp at h
 split at h
 ·rename_i h1 h2
  cases h2;cases h
  exact ⟨rfl,fun z=>(nomatch z)⟩
 ·cases h;exact ⟨rfl,fun _=>rfl⟩
theorem Ad3{K:aC}{H H':Hp}{α α':List Addr}{L L':UH}(A:Abs K H α L)(g:Gr H α H' α')(A':Abs K H' α' L') :
  ∃ H2,Thaw H H' H2/\Gr H α H2 α'/\Abs K H2 α' (Em L L')/\(∀ u v,RepU K H' α' u v->RepU K H2 α' u v):=by
 classical
 let T:Addr->Prop:=fun b=>∃ (n:Nat) (kvs kws:List (Key×U)),α'[n]? = some b/\L[n]? = some (HU.dic kvs)/\L'[n]? = some (HU.rod kws)
 let H2:Hp:=fun b=>if T b then (match H' b with | some (.frz o (.dK vs))=>some (.dK vs) | x=>x) else H' b
 have Tfrz:∀ b,T b->∃ o vs,H' b=some (.frz o (.dK vs)):=by
  rintro b ⟨n,kvs,kws,e1,e2,e3⟩
  obtain ⟨o,vs,q,_⟩:=A'.rep n b _ e1 e3
  exact ⟨o,vs,q⟩
 have Told:∀ b,T b->∃ vs,H b=some (.dK vs):=by
  rintro b ⟨n,kvs,kws,e1,e2,e3⟩
  obtain ⟨a,ea,vs,q,_⟩:=A.addr e2
  have:=g.at ea
  rw[e1] at this;cases this
  exact ⟨vs,q⟩
 have on:∀ b o vs,T b->H' b=some (.frz o (.dK vs))->H2 b=some (.dK vs):=fun b o vs t e=>by
  show (if T b then _ else _)=_
  rw[if_pos t,e]
 have off:∀ b,¬ T b->H2 b=H' b:=fun b t=>by
  show (if T b then _ else _)=_
  rw[if_neg t]
 have th:Thaw H H' H2:=fun b=>by
  by_cases t:T b
  ·obtain ⟨o,vs,e⟩:=Tfrz b t
   obtain ⟨ws,e0⟩:=Told b t
   exact .inr ⟨o,vs,e,on b o vs t e,fun o u z=>by rw[e0] at z;cases z⟩
  ·exact .inl (off b t)
 have sq:∀ a xs,SqT K H' a xs->SqT K H2 a xs:=fun a xs h=>by
  rcases h with (h | ⟨o,h⟩) | h
  ·exact .inl (.inl (th.stay h fun _ _ z=>(nomatch z)))
  ·exact .inl (.inr ⟨o,th.stay h fun _ _ z=>(nomatch z)⟩)
  ·exact .inr h
 have gr:Gr H α H2 α':=⟨g.pre,fun b xs q=>th.stay (g.st.1 b xs q) fun _ _ z=>(nomatch z),fun b o u q=>by
  rcases th b with z | ⟨_,_,_,_,z⟩
  ·rw[z];exact g.st.2 b o u q
  ·exact absurd q (z _ _)⟩
 refine ⟨H2,th,gr,⟨?_,fun i j a o o' e1 e2 e3 e4=>?_,fun i a o e1 e2=>?_⟩,fun u v r=>RepU.via sq u v r⟩
 ·rw[Nl];exact A'.len
 ·rw[Qm] at e3 e4
  cases q1:L'[i]? with
  | none=>rw[q1] at e3;unfold Lp at e3;split at e3 <;> cases e3;rename_i z;cases z
  | some x1=>
   cases q2:L'[j]? with
   | none=>rw[q2] at e4;unfold Lp at e4;split at e4 <;> cases e4;rename_i z;cases z
   | some x2=>
    rw[q1] at e3
    rw[q2] at e4
    rw[(Rn e3).1,(Rn e4).1]
    exact A'.inj i j a x1 x2 e1 e2 q1 q2
 ·rw[Qm] at e2
  cases q1:L'[i]? with
  | none=>rw[q1] at e2;unfold Lp at e2;split at e2 <;> cases e2;rename_i z;cases z
  | some x1=>
   rw[q1] at e2
   have hr:=A'.rep i a x1 e1 q1
   by_cases t:T a
   ·obtain ⟨o',vs,ef⟩:=Tfrz a t
    obtain ⟨n,kvs,kws,n1,n2,n3⟩:=id t
    rcases A'.inj i n a x1 _ e1 n1 q1 n3 with z | z | z
    ·subst z
     rw[q1] at n3;cases n3
     rw[n2] at e2
     cases e2
     obtain ⟨o2,ws,f1,f2,f3⟩:=hr
     exact ⟨ws,on a o2 ws t f1,f2,RepL.via sq _ _ f3⟩
    ·have:=(Rn e2).2 z
     subst this
     cases o with
     | ro us=>
      obtain ⟨xs,f1,f2⟩:=hr
      refine ⟨xs,?_,RepL.via sq _ _ f2⟩
      rcases f1 with ⟨o2,f1⟩ | f1
      ·rw[ef] at f1;cases f1
      ·exact .inr f1
     | _=>cases z
    ·cases z
   ·have same:o=x1:=by
     unfold Lp at e2
     split at e2
     ·rename_i h1 h2
      cases h2
      exact absurd ⟨i,_,_,e1,h1,q1⟩ t
     ·cases e2;rfl
    subst same
    have ea:=off a t
    cases o with
    | lst us=>obtain ⟨xs,f1,f2⟩:=hr;exact ⟨xs,by rw[ea];exact f1,RepL.via sq _ _ f2⟩
    | ro us=>
     obtain ⟨xs,f1,f2⟩:=hr
     refine ⟨xs,?_,RepL.via sq _ _ f2⟩
     rcases f1 with ⟨o2,f1⟩ | f1
     ·exact .inl ⟨o2,by rw[ea];exact f1⟩
     ·exact .inr f1
    | dic kvs=>obtain ⟨vs,f1,f2,f3⟩:=hr;exact ⟨vs,by rw[ea];exact f1,f2,RepL.via sq _ _ f3⟩
    | rod kvs=>obtain ⟨o2,vs,f1,f2,f3⟩:=hr;exact ⟨o2,vs,by rw[ea];exact f1,f2,RepL.via sq _ _ f3⟩
    | ins C fs=>obtain ⟨Ca,dx,vs,n,f1,f2,f3⟩:=hr;exact ⟨Ca,dx,vs,n,by rw[ea];exact f1,f2,RepL.via sq _ _ f3⟩
    | exc C fr fs=>obtain ⟨Ca,dd,vs,n,f1,f0,f2,f3⟩:=hr;exact ⟨Ca,dd,vs,n,by rw[ea];exact f1,f0.stay fun b o ws q=>th.stay q fun _ _ z=>(nomatch z),f2,RepL.via sq _ _ f3⟩
noncomputable def Ms(f:FE):FE:=fun δ L=>(f δ L).map fun p=>(p.1,Em L p.2)
theorem Uz{X:Cx}{e:Expr}{f:FE}(h:PEF X e f):PEF X e (Ms f):=by
 refine PE.imp (Agl h) ?_
 rintro σ H Q ⟨α,δ,L,A,S,z,L3,e,q⟩
 obtain ⟨⟨z',L1⟩,e1,e⟩:=aM.mp e
 cases e
 refine ⟨α,δ,L,A,S,z',L1,e1,fun v H1 α1 g1 A1 r1=>?_⟩
 obtain ⟨H2,th,g2,A2,r2⟩:=Ad3 A g1 A1
 exact ⟨H2,th,q v H2 α1 g2 A2 (r2 _ _ r1)⟩
structure DObj(P:bP)(w:cE)(o:Obj)(kvs:List (Key×V))(vs:List (Key×aE))(ep:Nat):Prop where
 rel:KV kvs vs
 at_:∀ (h:Heap) (d:Addr),h.get? d=some o->h.DictAt (Cf P w) d vs ep
noncomputable def Itv(d:Addr)(o:Obj)(xs:List V):It:=⟨fun i H=>(∃ u,H d=some (.frz o u))/\i < xs.length,fun i H x H'=>H'=H/\xs[i]? = some x,fun i H=>(∃ u,H d=some (.frz o u))/\xs.length<=i⟩
noncomputable def Iti(d:Addr)(o:Obj)(kvs:List (Key×V)):It:=⟨fun i H=>(∃ u,H d=some (.frz o u))/\i < kvs.length,fun i H x H'=>∃ p kv,H p=none/\x = .ref p/\kvs[i]? = some kv/\H'=upd H p (.tup [kV kv.1,kv.2]),fun i H=>(∃ u,H d=some (.frz o u))/\kvs.length<=i⟩
theorem Ahr{P:bP}{w:cE}{k:Key}{v:aE}(h:(Cf P w).is k v=true):RelV (kV k) v:=by
 rw[Wv] at h
 rcases Cv h with ⟨i,t,rfl,rfl⟩ | ⟨x,t,rfl,rfl⟩
 ·exact ⟨t,rfl⟩
 ·exact ⟨t,rfl⟩
theorem KV.at_:∀ {kvs:List (Key×V)} {vs:List (Key×aE)} {i:Nat} {p:Key×aE},KV kvs vs->vs[i]? = some p->∃ q,kvs[i]? = some q/\q.1=p.1/\RelV q.2 p.2
 | _,_,i,p,.nil,e=>by simp at e
 | _,_,0,p,.cons r t,e=>by simp at e;subst e;exact ⟨_,rfl,r⟩
 | _,_,i+1,p,.cons r t,e=>by simpa using KV.at_ (i:=i) t (by simpa using e)
section
variable {P:bP}{w:cE}{K:aC}{d it:Addr}{o:Obj}{kvs:List (Key×V)}{vs:List (Key×aE)}{ep:Nat}
theorem Ab5{tg:Expr}(D:DObj P w o kvs vs ep):Turn P w K tg (Itv d o (kvs.map fun kv=>kv.2)) [it] it (fun i h=>h.IsValIter it d i vs.length ep) where
 mem:=by simp
 obj:=fun i h st b hb=>by
  have e:b=it:=by simpa using hb
  subst e
  obtain ⟨o,e,c,d⟩:=st
  exact ⟨o,e,fun v z=>by rw[d] at z;cases z⟩
 keep:=fun i h h' st k=>st.at fun o e=>k it (by simp) o e
 item:=by
  intro X hP hw hK hc i pins s σ H E I hf st hg
  subst hP hw hK
  obtain ⟨⟨u,hd⟩,hi⟩:=hg
  have da:=D.at_ s.heap d (I.hok d _ hd).1
  have hl:=KV.length D.rel
  have hi':i < vs.length:=by rw[<- hl];simpa using hi
  obtain ⟨⟨k,x⟩,hx⟩:∃ p,vs[i]? = some p:=⟨vs[i],by simp[hi']⟩
  obtain ⟨q,hq,q1,q2⟩:=KV.at_ D.rel hx
  obtain ⟨f0,f1,f2,f3,f4,f5⟩:=hf it (by simp)
  refine wpAny_pyNext_values_item st da hx fun h' st' sb=>?_
  have I1:L2.Inv X pins σ H { s with heap:=h' }:=I.turned (t':=s.toks) (fun b o hb e=>(sb.2 b hb).trans e) f0 f1 f3 f4 f5
  refine ⟨x,rfl,letGo_valiter (s':={ s with heap:=h' }) st' ⟨q.2,H,I1,q2,⟨rfl,?_⟩,st',fun b hb=>(hf b hb).1⟩⟩
  rw[bO,hq]
  rfl
 done:=by
  intro X hP hw hK hc i pins s σ H E I hf st hg
  subst hP hw hK
  obtain ⟨⟨u,hd⟩,hi⟩:=hg
  have da:=D.at_ s.heap d (I.hok d _ hd).1
  have hl:=KV.length D.rel
  obtain ⟨f0,f1,f2,f3,f4,f5⟩:=hf it (by simp)
  exact wpAny_pyNext_values_end (I.ok.hd hc) st da (dI (by rw[<- hl];simpa using hi)) fun h' eb=>⟨rfl,I.turned (t':=s.toks) (fun b o hb e=>eb b o hb e) f0 f1 f3 f4 f5⟩
 self:=fun _ _ _ _ _ st h=>wpAny_pyIter_valiter st h
theorem Xt{elts:List Expr}{x1}{pos:Pos}(D:DObj P w o kvs vs ep):Turn P w K (.Tuple elts x1 pos) (Iti d o kvs) [it] it (fun i h=>∃ ok ov,IsItemIter h it d i vs.length ep ok ov) where
 mem:=by simp
 obj:=fun i h st b hb=>by
  have e:b=it:=by simpa using hb
  subst e
  obtain ⟨ok,ov,st⟩:=st
  exact ⟨_,st,fun v z=>by cases z⟩
 keep:=fun i h h' st k=>by
  obtain ⟨ok,ov,st⟩:=st
  exact ⟨ok,ov,k it (by simp) _ st⟩
 item:=by
  intro X hP hw hK hc i pins s σ H E I hf st hg
  subst hP hw hK
  obtain ⟨ok,ov,st⟩:=st
  obtain ⟨⟨u,hd⟩,hi⟩:=hg
  have da:=D.at_ s.heap d (I.hok d _ hd).1
  have hl:=KV.length D.rel
  have hi':i < vs.length:=by rw[<- hl];simpa using hi
  obtain ⟨⟨k,x⟩,hx⟩:∃ p,vs[i]? = some p:=⟨vs[i],by simp[hi']⟩
  obtain ⟨q,hq,q1,q2⟩:=KV.at_ D.rel hx
  obtain ⟨f0,f1,f2,f3,f4,f5⟩:=hf it (by simp)
  refine wpAny_pyNext_items_item st da hx fun key h' hkey ho hT hsz hk=>?_
  refine ⟨_,rfl,?_⟩
  have hfr:H s.heap.objs.size=none:=I.hok.fresh (bD _)
  have I1:L2.Inv X pins σ (upd H s.heap.objs.size (.tup [kV q.1,q.2])) { s with heap:=h',toks:=s.toks }:=
   Inv.turnNew (ch:=[it]) I hf (fun b o hb z=>hk b o (fun y=>hb (by simp[y])) z) (bD _)
    (show ObjOk X.prog X.w _ h' _ (.tup [kV q.1,q.2]) from ⟨by show 2<=sizeLine;decide,[key,x],.cons (by rw[q1];exact Ahr hkey) (.cons q2 .nil),⟨_,hT,rfl,_,rfl⟩⟩)
  refine wpAny_letOwnedTupleGo_items (s:={ s with heap:=h' }) ho fun h2 e2 sb2=>?_
  have hne:it≠s.heap.objs.size:=bV (aR st)
  have hnone:(upd H s.heap.objs.size (.tup [kV q.1,q.2])) it=none:=by rw[A9 hne];exact f0
  have I2:=I1.turned (t':=s.toks) (h':=h2) (it:=it) (fun b o hb z=>sb2.2 b hb |>.trans z) hnone f1 f3 f4 f5
  exact ⟨.ref s.heap.objs.size,_,I2,rfl,⟨_,q,hfr,rfl,hq,rfl⟩,⟨_,_,e2⟩,fun b hb=>by
   have e:b=it:=by simpa using hb
   subst e;exact hnone⟩
 done:=by
  intro X hP hw hK hc i pins s σ H E I hf st hg
  subst hP hw hK
  obtain ⟨ok,ov,st⟩:=st
  obtain ⟨⟨u,hd⟩,hi⟩:=hg
  have da:=D.at_ s.heap d (I.hok d _ hd).1
  have hl:=KV.length D.rel
  obtain ⟨f0,f1,f2,f3,f4,f5⟩:=hf it (by simp)
  exact wpAny_pyNext_items_end (I.ok.hd hc) st da (dI (by rw[<- hl];exact hi)) fun h' eb=>⟨rfl,I.turned (t':=s.toks) (fun b o hb e=>eb b o hb e) f0 f1 f3 f4 f5⟩
 self:=fun A i s Q E st h=>by
  obtain ⟨ok,ov,st⟩:=st
  exact PySem.W.kcp_self st h
end
section
variable {X:Cx}{tg o e:Expr}{apos cpos:Pos}{td:TE}
structure M0(X:Cx)(o:Expr)(m:Str)(apos cpos:Pos):Prop where
 base:attributeBase o m X.env (eval o X.env)=eval o X.env
 few:((backTo cpos (bA [] X.env)).all (fun x=>!x.1)&&(backToKw cpos (keywordEach [] X.env)).all (fun x=>x.1.isSome)
  && decide (([]:List Expr).length+([]:List hG).length+(if ([]:List hG).isEmpty then 0 else 1) < 30))=true
 line:(apos.endLine == cpos.line)=true
 trees:backTo cpos (bA [] X.env)=[]
theorem Mc{pins:List (Addr×Obj)}{σ:L2.St}{H:Hp}{s:aJ}{a:Addr}{kvs:List (Key×V)}(I:L2.Inv X pins σ H s)(e:H a=some (.dK kvs)) :
  (a == sysModules)=false/\∃ ob vs ep,s.heap.get? a=some ob/\DObj X.prog X.w ob kvs vs ep:=by
 obtain ⟨z,hd,vs,rel,ob,es,ep,h1,h2⟩:=Q2 I.hok e
 exact ⟨hd,ob,vs,ep,h1,rel,fun h d hg=>⟨ob,es,hg,h2⟩⟩
noncomputable def Am9(td:TE):TI:=fun σ H R=>td σ H fun x H1=>∃ a kvs,x = .ref a/\H1 a=some (.dK kvs)/\∀ ob,R (Itv a ob (kvs.map fun kv=>kv.2)) (upd H1 a (.frz ob (.dK kvs)))
noncomputable def Alh(td:TE):TI:=fun σ H R=>td σ H fun x H1=>∃ a kvs,x = .ref a/\H1 a=some (.dK kvs)/\∀ ob,R (Iti a ob kvs) (upd H1 a (.frz ob (.dK kvs)))
theorem Y9{pins:List (Addr×Obj)}{σ:L2.St}{H:Hp}{s:aJ}{a:Addr}{ob:Obj}{kvs:List (Key×V)}(I:L2.Inv X pins σ H s)(e:H a=some (.dK kvs)) :
  ∀ b∈[s.heap.objs.size],Mj X pins (upd H a (.frz ob (.dK kvs))) b:=fun b hb=>by
 have q:b=s.heap.objs.size:=by simpa using hb
 subst q
 have hn:=I.hok.fresh (bD _)
 exact L2.Inv.fpOk I (bD _) (by rw[A9 (fun z=>by rw[z,e] at hn;cases hn)];exact hn)
theorem Ahz(hl:PE X o td)(m:M0 X o "values" apos cpos):PI X tg (.Call (.Attribute o "values" apos) [] [] cpos) (Am9 td):=by
 intro pins s σ H R I h
 refine hZ m.base m.few m.line fH fA kR (thn (hl pins s σ H _ I h) fun u s1 zz=>zz.elim fun x H1 I1 rx zq=>?_)
 obtain ⟨a,kvs,ex,ea,q⟩:=zq
 subst ex
 obtain rfl:u=bN a:=rx
 obtain ⟨t1,t2,_⟩:=Uk I1 (.inl ⟨kvs,.inl ea⟩)
 refine ⟨t1,t2,?_⟩
 rw[m.trees]
 obtain ⟨hd,ob,vs,ep,ho,D⟩:=Mc I1 ea
 have da:=D.at_ _ _ ho
 refine dX rfl (jG ?_)
 refine lH fA t1 kB (jV _) (nV (Cf X.prog X.w) a hd) ⟨⟨vs,da.dictOf⟩,?_⟩
 have I2:L2.Inv X pins σ H1 { s1 with heap:=s1.heap.push { cls:=.type "dict_values",data:=.fields #[.ref a] } }:=I1.kept (t':=s1.toks) fun b o e=>aG _ e
 obtain ⟨hd,ob,vs,ep,ho,D⟩:=Mc I2 ea
 have da:=D.at_ _ _ ho
 refine wpAny_pyIter_values ⟨_,aY _ rfl,rfl,rfl⟩ da ?_
 have I3:=I2.kept (t':=s1.toks) (h':=(s1.heap.push { cls:=.type "dict_values",data:=.fields #[.ref a] }).push { cls:=.type "dict_valueiterator",data:=.fields #[.ref a,.int 0 0,.int vs.length 0,.int ep 0] }) fun b o e=>aG _ e
 exact ⟨_,[_],_,_,_,rfl,Inv.freeze I3 ea (aG _ ho),Ab5 D,⟨_,aY _ rfl,rfl,rfl⟩,Y9 I2 ea,q ob⟩
theorem Aef{elts:List Expr}{x1}{tpos:Pos}(hl:PE X o td)(m:M0 X o "items" apos cpos):PI X (.Tuple elts x1 tpos) (.Call (.Attribute o "items" apos) [] [] cpos) (Alh td):=by
 intro pins s σ H R I h
 refine hZ m.base m.few m.line fH kX PySem.F.type_dict_items (thn (hl pins s σ H _ I h) fun u s1 zz=>zz.elim fun x H1 I1 rx zq=>?_)
 obtain ⟨a,kvs,ex,ea,q⟩:=zq
 subst ex
 obtain rfl:u=bN a:=rx
 obtain ⟨t1,t2,_⟩:=Uk I1 (.inl ⟨kvs,.inl ea⟩)
 refine ⟨t1,t2,?_⟩
 rw[m.trees]
 obtain ⟨hd,ob,vs,ep,ho,D⟩:=Mc I1 ea
 have da:=D.at_ _ _ ho
 refine dX rfl (jG ?_)
 refine lH kX t1 PySem.F.entry_dict_items (PySem.F.args_dict_items_1 _) (meets_dict_items (Cf X.prog X.w) a hd) ⟨⟨vs,da.dictOf⟩,?_⟩
 have I2:L2.Inv X pins σ H1 { s1 with heap:=s1.heap.push { cls:=.type "dict_items",data:=.fields #[.ref a] } }:=I1.kept (t':=s1.toks) fun b o e=>aG _ e
 obtain ⟨hd,ob,vs,ep,ho,D⟩:=Mc I2 ea
 have da:=D.at_ _ _ ho
 refine wpAny_pyIter_items ⟨_,aY _ rfl,rfl,rfl⟩ da ?_
 have I3:=I2.kept (t':=s1.toks) (h':=(s1.heap.push { cls:=.type "dict_items",data:=.fields #[.ref a] }).push { cls:=.type "dict_itemiterator",data:=.fields #[.none,.bool false,.ref a,.int 0 0,.int vs.length 0,.int ep 0,.none,.none] }) fun b o e=>aG _ e
 exact ⟨_,[_],_,_,_,rfl,Inv.freeze I3 ea (aG _ ho),Xt D,⟨_,_,aY _ rfl⟩,Y9 I2 ea,q ob⟩
end
noncomputable def kU:Key->U
 | .inl i=>.int i
 | .inr x=>.str x
theorem Aer{K:aC}{H:Hp}{α:List Addr}(k:Key):RepU K H α (kU k) (kV k):=by
 cases k <;> (unfold RepU kU kV;rfl)
noncomputable def Yl(kvs:List (Key×U)):List U:=kvs.map fun kv=>kU kv.1
noncomputable def Sr(kvs:List (Key×U)):List U:=kvs.map fun kv=>kv.2
noncomputable def Fm(kvs:List (Key×U)):List U:=kvs.map fun kv=>.tup [kU kv.1,kv.2]
noncomputable def Ju(v:List (Key×U)->List U)(f:FE):FI:=fun δ L=>(f δ L).bind fun p=>match p.1 with
 | .ref n=>(E9 p.2 n).map fun kvs=>(.seq (v kvs),p.2.set n (.rod kvs))
 | _=>none
section
variable {K:aC}{H:Hp}{α:List Addr}{L:UH}{a:Addr}{ob:Obj}
theorem Ri:∀ {kvs:List (Key×U)} {vs:List (Key×V)},RepKV K H α kvs vs->RepL K H α (Yl kvs) (vs.map fun kv=>kV kv.1)
 | [],vs,r=>by
  have:=r.1
  cases vs with
  | nil=>exact .nil
  | cons _ _=>simp at this
 | kv::kvs,vs,r=>by
  obtain ⟨x,vs',rfl,rx,r'⟩:=r.cons
  exact .cons (Aer _) (Ri r')
theorem Va:∀ {kvs:List (Key×U)} {vs:List (Key×V)} {k:Nat} {p:Key×U},RepKV K H α kvs vs->kvs[k]? = some p->∃ x,vs[k]? = some (p.1,x)/\RepU K H α p.2 x
 | [],vs,k,p,r,e=>by simp at e
 | kv::kvs,vs,0,p,r,e=>by
  obtain ⟨x,vs',rfl,rx,r'⟩:=r.cons
  simp at e;subst e
  exact ⟨x,rfl,rx⟩
 | kv::kvs,vs,k+1,p,r,e=>by
  obtain ⟨x,vs',rfl,rx,r'⟩:=r.cons
  simpa using Va (k:=k) r' (by simpa using e)
theorem Aia{u:HO}{us:List U}{xs:List V}(e:H a=some (.frz ob u))(r:RepL K H α us xs):Nq K (Itv a ob xs) (.seq us) H α:=by
 intro H2 α2 L2 g A2 k
 have e2:=g.st.2 _ _ _ e
 have r2:=r.mono g
 refine ⟨fun w eu=>?_,fun eu=>?_⟩
 ·have eu:us[k]? = some w:=by simpa[IU.at] using eu
  obtain ⟨x,hx,rx⟩:=r2.get eu
  refine ⟨⟨⟨u,e2⟩,(aQ.mp hx).1⟩,?_⟩
  rintro y H3 ⟨rfl,hy⟩
  rw[hx] at hy;cases hy
  exact ⟨.refl _ _,A2,rx⟩
 ·have eu:us[k]? = none:=by simpa[IU.at] using eu
  exact ⟨⟨u,e2⟩,by rw[<- r2.length];exact cP.mp eu⟩
theorem Ago{u:HO}{kvs:List (Key×U)}{vs:List (Key×V)}(e:H a=some (.frz ob u))(r:RepKV K H α kvs vs):Nq K (Iti a ob vs) (.seq (Fm kvs)) H α:=by
 intro H2 α2 L2 g A2 k
 have e2:=g.st.2 _ _ _ e
 have r2:=r.mono g
 refine ⟨fun w eu=>?_,fun eu=>?_⟩
 ·have eu:(Fm kvs)[k]? = some w:=by simpa[IU.at] using eu
  unfold Fm at eu
  rw[bO] at eu
  obtain ⟨p,hp,eu⟩:=aM.mp eu
  subst eu
  obtain ⟨x,hx,rx⟩:=Va r2 hp
  refine ⟨⟨⟨u,e2⟩,(aQ.mp hx).1⟩,?_⟩
  rintro y H3 ⟨q,kv,hq,rfl,hkv,rfl⟩
  rw[hx] at hkv;cases hkv
  exact A2.tup (.cons (Aer _) (.cons rx .nil)) hq
 ·have eu:(Fm kvs)[k]? = none:=by simpa[IU.at] using eu
  unfold Fm at eu
  have:kvs.length<=k:=by simpa using eu
  exact ⟨⟨u,e2⟩,by rw[<- r2.len];exact this⟩
theorem X6{n:Nat}{kvs:List (Key×U)}{vs:List (Key×V)}(A:Abs K H α L)(h:E9 L n=some kvs)(ea:α[n]? = some a)(e:H a=some (.dK vs))(r:RepKV K H α kvs vs)(ob:Obj) :
  Gr H α (upd H a (.frz ob (.dK vs))) α/\Abs K (upd H a (.frz ob (.dK vs))) α (L.set n (.rod kvs)):=by
 have g:Gr H α (upd H a (.frz ob (.dK vs))) α:=⟨⟨[],by simp⟩,.write e (by exact trivial) _⟩
 obtain ⟨A',_⟩:=A.put (o:=.frz ob (.dK vs)) (u:=.rod kvs) ea (Mu h) rfl rfl e (by exact trivial) ⟨ob,vs,upd_same,(r.mono g).1,(r.mono g).2⟩
 exact ⟨g,A'⟩
end
section
variable {X:Cx}{tg o:Expr}{apos cpos:Pos}{fo:FE}
theorem R8{v:List (Key×U)->List U}{J:Addr->Obj->List (Key×V)->It}(hJ:∀ (H:Hp) (α:List Addr) (a:Addr) (ob:Obj) (u:HO) (kvs:List (Key×U)) (vs:List (Key×V)),H a=some (.frz ob u)->RepKV X.K H α kvs vs->Nq X.K (J a ob vs) (.seq (v kvs)) H α)
  {σ:L2.St} {H:Hp} {R:It->Hp->Prop} (h:lI X.K (Ju v fo) σ H R):lE X.K fo σ H fun x H1=>∃ a kvs,x = .ref a/\H1 a=some (.dK kvs)/\∀ ob,R (J a ob kvs) (upd H1 a (.frz ob (.dK kvs))):=by
 obtain ⟨α,δ,L,A,S,i,L3,e,q⟩:=h
 obtain ⟨⟨u,L1⟩,e1,e⟩:=aB.mp e
 simp only at e
 split at e
 ·obtain ⟨kvs,hd,e⟩:=aM.mp e
  cases e
  refine ⟨α,δ,L,A,S,_,_,e1,fun x H1 α1 g1 A1 r1=>?_⟩
  obtain ⟨a,vs,rfl,ea,ha,rk⟩:=Gg A1 hd r1
  refine ⟨a,vs,rfl,ha,fun ob=>?_⟩
  obtain ⟨g2,A2⟩:=X6 A1 hd ea ha rk ob
  exact q _ _ _ (g1.trans g2) A2 (hJ _ _ _ _ _ _ _ upd_same (rk.mono g2))
 ·cases e
noncomputable def Alv(a:Addr)(ob:Obj)(vs:List (Key×V)):It:=Itv a ob (vs.map fun kv=>kv.2)
theorem Adv(ho:PEF X o fo)(m:M0 X o "values" apos cpos):PIF X tg (.Call (.Attribute o "values" apos) [] [] cpos) (Ju Sr fo):=
 PI.imp (Ahz ho m) fun _ _ _ h=>R8 (J:=Alv) (fun _ _ _ _ _ _ _ e r=>Aia e r.2) h
theorem Tp{elts:List Expr}{x1}{tpos:Pos}(ho:PEF X o fo)(m:M0 X o "items" apos cpos):PIF X (.Tuple elts x1 tpos) (.Call (.Attribute o "items" apos) [] [] cpos) (Ju Fm fo):=
 PI.imp (Aef ho m) fun _ _ _ h=>R8 (J:=Iti) (fun _ _ _ _ _ _ _ e r=>Ago e r) h
noncomputable def Ame:R2:=fun y x H Q=>∃ a r,x = .ref a/\DGet H a y r/\Q (.bl r.isSome) H
noncomputable def Aaa:R2:=fun y x H Q=>∃ a r,x = .ref a/\DGet H a y r/\Q (.bl (!r.isSome)) H
theorem U8(hu:X.A.units+64 < cLine):OpR X (dC .In) Ame:=by
 intro pins s σ H x y u w Q I rx ry h
 obtain ⟨a,r,rfl,g,q⟩:=h
 obtain rfl:w=bN a:=ry
 exact Aoj (by omega) I g rx fun s' I'=>⟨.bl _,H,I',rfl,q⟩
theorem Oh(hu:X.A.units+64 < cLine):OpR X (dC .NotIn) Aaa:=by
 intro pins s σ H x y u w Q I rx ry h
 obtain ⟨a,r,rfl,g,q⟩:=h
 obtain rfl:w=bN a:=ry
 exact Ahv (by omega) I g rx fun s' I'=>⟨.bl _,H,I',rfl,q⟩
noncomputable def H0:S2:=fun y x L=>match x with
 | .ref n=>(toK y).bind fun k=>(E9 L n).map fun kvs=>(.bl (Qe kvs k).isSome,L)
 | _=>none
noncomputable def Ei:S2:=fun y x L=>match x with
 | .ref n=>(toK y).bind fun k=>(E9 L n).map fun kvs=>(.bl (!(Qe kvs k).isSome),L)
 | _=>none
theorem find_any(k:Key):∀ kvs:List (Key×U),(kvs.find? fun kv=>decide (kv.1=k)).isSome=kvs.any fun kv=>decide (kv.1=k)
 | []=>rfl
 | kv::kvs=>by
  rw[eF,eZ]
  by_cases h:kv.1=k
  ·simp[h]
  ·simp only[h,decide_false,pQ]
   exact find_any k kvs
theorem RepKV.some{K:aC}{H:Hp}{α:List Addr}{kvs:List (Key×U)}{vs:List (Key×V)}(r:RepKV K H α kvs vs)(k:Key):(Qe kvs k).isSome=(Mi vs k).isSome:=by
 have h1:(Qe kvs k).isSome=kvs.any fun kv=>decide (kv.1=k):=by
  unfold Qe
  rw[fS]
  exact find_any k kvs
 rw[h1,r.any,Qo]
theorem P0{K:aC}:Dh K Ame H0:=by
 intro H α L u w x y z L' Q A ru rw' e q
 unfold H0 at e
 split at e
 ·obtain ⟨k,hk,e⟩:=aB.mp e
  obtain ⟨kvs,hd,e⟩:=aM.mp e
  cases e
  obtain ⟨a,vs,rfl,ea,ha,rk⟩:=Gg A hd rw'
  refine ⟨a,_,rfl,by rw[Ub ru hk];exact DGet.k ha,?_⟩
  rw[<- rk.some k]
  exact q _ H α (.refl _ _) A rfl
 ·cases e
theorem Nc{K:aC}:Dh K Aaa Ei:=by
 intro H α L u w x y z L' Q A ru rw' e q
 unfold Ei at e
 split at e
 ·obtain ⟨k,hk,e⟩:=aB.mp e
  obtain ⟨kvs,hd,e⟩:=aM.mp e
  cases e
  obtain ⟨a,vs,rfl,ea,ha,rk⟩:=Gg A hd rw'
  refine ⟨a,_,rfl,by rw[Ub ru hk];exact DGet.k ha,?_⟩
  rw[<- rk.some k]
  exact q _ H α (.refl _ _) A rfl
 ·cases e
end
noncomputable def Wo(kvs:List (Key×U))(k:Key):List (Key×U):=kvs.filter fun kv=>decide (kv.1≠k)
theorem RepKV.drop{K:aC}{H:Hp}{α:List Addr}(k:Key):∀ {kvs:List (Key×U)} {vs:List (Key×V)},RepKV K H α kvs vs->RepKV K H α (Wo kvs k) (Qb vs k)
 | [],vs,r=>by
  have:=r.1
  cases vs with
  | nil=>exact .nil
  | cons _ _=>simp at this
 | kv::kvs,vs,r=>by
  obtain ⟨x,vs',rfl,rx,r'⟩:=r.cons
  unfold Wo Qb
  rw[fG,fG]
  by_cases h:kv.1=k
  ·simp only[h,ne_eq,not_true_eq_false,decide_false,bJ,if_false]
   exact RepKV.drop k r'
  ·simp only[h,ne_eq,not_false_eq_true,decide_true,if_true]
   exact .mk rx (RepKV.drop k r')
noncomputable def Sy(fo fe:FE):FE:=fun δ L=>(fo δ L).bind fun p=>match p.1 with
 | .ref n=>(E9 p.2 n).bind fun _=>(fe δ p.2).bind fun q=>(toK q.1).bind fun k=>(E9 q.2 n).bind fun kvs=>(Qe kvs k).map fun u=>(u,q.2.set n (.dic (Wo kvs k)))
 | _=>none
theorem Aau{X:Cx}{o e:Expr}{apos cpos:Pos}{fo fe:FE}(ho:PEF X o fo)(he:PEF X e fe)(m:M1 X o "pop" apos e cpos):PEF X (.Call (.Attribute o "pop" apos) [e] [] cpos) (Sy fo fe):=by
 refine PE.imp (Ac3 ho he m) ?_
 rintro σ H Q ⟨α,δ,L,A,S,z,L3,e,q⟩
 obtain ⟨⟨u,L1⟩,e1,e⟩:=aB.mp e
 simp only at e
 split at e
 ·obtain ⟨kvs0,hd0,e⟩:=aB.mp e
  obtain ⟨⟨w,L2⟩,e2,e⟩:=aB.mp e
  obtain ⟨k,hk,e⟩:=aB.mp e
  obtain ⟨kvs,hd,e⟩:=aB.mp e
  obtain ⟨v,hv,e⟩:=aM.mp e
  cases e
  refine ⟨α,δ,L,A,S,_,L1,e1,fun x H1 α1 g1 A1 r1=>?_⟩
  obtain ⟨a,vs0,rfl,ea0,ha0,rk0⟩:=Gg A1 hd0 r1
  refine ⟨a,rfl,.inl ⟨vs0,.inl ha0⟩,α1,δ,L1,A1,S.mono g1,w,L2,e2,fun y H2 α2 g2 A2 r2=>?_⟩
  obtain ⟨a',vs,e',ea,ha,rk⟩:=Gg A2 hd (r1.mono g2)
  cases e'
  obtain ⟨x',hx',rx'⟩:=rk.val hv
  obtain ⟨g3,A3⟩:=A2.setD hd ea ha (rk.drop k)
  exact ⟨vs,k,x',ha,Ub r2 hk,hx',q _ _ _ (g1.trans (g2.trans g3)) A3 (rx'.mono g3)⟩
 ·cases e
end MR
namespace MR
open PySem PyProof.Rows L2
theorem Qk:∀ L:UH,Em L L=L
 | []=>by unfold Em;rfl
 | x::L=>by cases x <;> simp[Em,Qk L]
theorem R7:∀ (L L' x:UH),L.length=L'.length->Em L (L'++x)=Em L L'++x
 | [],[],x,_=>by simp[Em]
 | [],y::L',x,h=>by simp at h
 | a::L,[],x,h=>by simp at h
 | a::L,y::L',x,h=>by
  have:=R7 L L' x (by simpa using h)
  cases a <;> cases y <;> simp[Em,this]
theorem Tg:∀ (L:UH) (n:Nat) (kvs:List (Key×U)),L[n]? = some (.dic kvs)->Em L (L.set n (.rod kvs))=L
 | [],n,kvs,h=>by simp at h
 | x::L,0,kvs,h=>by
  simp at h;subst h
  simp[Em,Qk]
 | x::L,n+1,kvs,h=>by
  have:=Tg L n kvs (by simpa using h)
  cases x <;> simp[Em,this]
theorem Ag6{v:List (Key×U)->List U}{fo:FE}{δ:UE}{L:UH}{n:Nat}{kvs:List (Key×U)}(hf:fo δ L=some (.ref n,L))(hn:L[n]? = some (.dic kvs)):Ju v fo δ L=some (.seq (v kvs),L.set n (.rod kvs)):=by
 have hd:E9 L n=some kvs:=by unfold E9;rw[hn]
 unfold Ju
 rw[hf]
 simp only[aA,hd,aD]
theorem Ss{β:Type}{ix:List (Option Nat)}{v:List (Key×U)->List U}{fo:FE}{g:FG}{tt:Option FT}{fe:FE}{δ:UE}{L:UH}{n:Nat}{kvs:List (Key×U)}(as:List β)(rep:β->U)(f:β->Bool)(e:β->U)(E:UE->Prop)(hf:fo δ L=some (.ref n,L))(hn:L[n]? = some (.dic kvs))(hv:v kvs=as.map rep)(hl:as.length < 16777216)(h0:E (Jf ix δ))
  (step:∀ (a:β) δ (M:UH),a∈as->E δ->∃ δ1,g (rep a) δ M=some (δ1,M)/\E δ1/\∃ y,Hf tt δ1 M=some (f a,M++y)/\(f a=true->∃ z,fe δ1 (M++y)=some (e a,M++y++z))) :
  ∃ x,Ms (Bn ix (Ju v fo) g tt fe) δ L=some (.ref (L++x).length,L++x++[.lst ((as.filter f).map e)]):=by
 have hi:=Ag6 (v:=v) hf hn
 rw[hv] at hi
 obtain ⟨x,q⟩:=Dt (ix:=ix) (g:=g) (tt:=tt) (fe:=fe) as rep f e E hi (by simp[IU.size]) hl h0 (fun k x=>rfl) (fun a δ x ha hE=>step a δ _ ha hE)
 refine ⟨x,?_⟩
 unfold Ms
 rw[q]
 have ln:(L.set n (.rod kvs)).length=L.length:=by simp
 simp only[aD]
 rw[cA,R7 _ _ _ ln.symm,Tg L n kvs hn,<- cA]
 simp
end MR
namespace Lw
open PySem L2 MR
structure Ex(d:Nat)(L L':UH):Prop where
 le:L.length<=L'.length
 at_:∀ i,i < L.length->i≠d->L'[i]? = L[i]?
theorem Ex.refl(d:Nat)(L:UH):Ex d L L:=⟨bD _,fun _ _ _=>rfl⟩
theorem Ex.trans{d:Nat}{L L1 L2:UH}(a:Ex d L L1)(b:Ex d L1 L2):Ex d L L2:=
 ⟨cC a.le b.le,fun i h1 h2=>by rw[b.at_ i (aU h1 a.le) h2,a.at_ i h1 h2]⟩
theorem Ex.new(d:Nat)(L:UH)(x:List HU):Ex d L (L++x):=⟨by simp,fun i h _=>by rw[aW h]⟩
theorem Ex.put(d:Nat)(L:UH)(o:HU):Ex d L (L.set d o):=⟨by simp,fun i _ h=>by rw[bI (cS h)]⟩
theorem Ex.set{d:Nat}{L L':UH}(h:Ex d L L'){n:Nat}(hn:L.length<=n)(o:HU):Ex d L (L'.set n o):=
 ⟨by rw[lP];exact h.le,fun i h1 h2=>by rw[bI (by omega)];exact h.at_ i h1 h2⟩
theorem Ex.get{d:Nat}{L L':UH}{i:Nat}{o:HU}(h:Ex d L L')(e:L[i]? = some o)(hi:i≠d):L'[i]? = some o:=by
 rw[h.at_ i (aQ.mp e).1 hi];exact e
noncomputable def Gw(L L':UH):Prop:=∃ x,L'=L++x
theorem Gw.refl(L:UH):Gw L L:=⟨[],by simp⟩
theorem Gw.trans{L L1 M:UH}(a:Gw L L1)(b:Gw L1 M):Gw L M:=by obtain ⟨x,rfl⟩:=a;obtain ⟨y,rfl⟩:=b;exact ⟨x++y,by simp⟩
theorem Gw.new(L x:UH):Gw L (L++x):=⟨x,rfl⟩
theorem Gw.set{L L':UH}(h:Gw L L'){n:Nat}(hn:L.length<=n)(o:HU):Gw L (L'.set n o):=by
 obtain ⟨x,rfl⟩:=h
 exact ⟨x.set (n - L.length) o,by rw[List.set_append_right _ _ hn]⟩
theorem Gw.le{L L':UH}(h:Gw L L'):L.length<=L'.length:=by obtain ⟨x,rfl⟩:=h;simp
theorem Gw.get{L L':UH}(h:Gw L L'){n:Nat}{o:HU}(e:L[n]? = some o):L'[n]? = some o:=by
 obtain ⟨x,rfl⟩:=h
 rw[aW (aQ.mp e).1];exact e
theorem Gw.seq{L L':UH}(h:Gw L L'){n:Nat}{us:List U}(e:Ba L n=some us):Ba L' n=some us:=by
 obtain ⟨x,rfl⟩:=h;exact Gv e
theorem Gw.ex{L L':UH}(h:Gw L L')(d:Nat):Ex d L L':=by obtain ⟨x,rfl⟩:=h;exact Ex.new d L x
theorem Acq{L:UH}{n:Nat}{l:List U}(u:U)(h:L[n]? = some (.lst l))(hl:l.length < 16777216):Jn (.ref n) [u] L=some (.non,L.set n (.lst (l++[u]))):=by
 show (Hb L n).bind _=_
 rw[Fx h]
 simp only[aA]
 rw[if_pos (decide_eq_true (by unfold sizeLine;omega))]
theorem Ut{L:UH}{n:Nat}{l:List U}(h:L[n]? = some (.lst l)):tyU "list" (.ref n) L=true:=by simp[tyU,h]
theorem Iy{L:UH}{n:Nat}{l:List U}(h:L[n]? = some (.lst l)):Cc [.ref n] L=some (.int l.length,L):=by simp[Cc,lenU,Be h]
theorem An{f g:FS}{δ δ':UE}{L L':UH}(h:f δ L=some (.nx δ',L')):Bf f g δ L=g δ' L':=by rw[fSeq_eq,h];rfl
noncomputable def Ni:FS:=(Bf (Bq (f2 Ax (f2 Ao (Ae 0) (fC (.int 2))) (fC (.int 1))) (MR.gSub (Ae 0) (fC (.int 2)))) (Bf (Dv (Pp (Az (f2 B2 (f2 Ao (Ae 0) (fC (.int 1))) (fC (.int 1)))) (Az (f2 Adc (f2 Ao (Ae 0) (fC (.int 0))) (fC (.int 0))))) (Bf (Bq (f2 Ja (f2 Ao (Ae 0) (fC (.int 0))) (Ae 1)) (gN 2)) (Bf (Bq (f2 Uw (f2 Ao (Ae 0) (fC (.int 0))) (Ae 1)) (MR.gSub (Ae 0) (fC (.int 0)))) (Ci (Ae 2)))) Cq) (Bf (Bq (f2 Ja (f2 Ji (f2 Ax (f2 Ax (f2 Ao (Ae 0) (fC (.int 3))) (f2 Ji (fC (.int 6997)) (f2 Ao (Ae 0) (fC (.int 2))))) (fC (.int 11))) (fC (.int 48271))) (fC (.int 2147483647))) (gN 3)) (Bf (Bq (f2 Ja (f2 Ji (f2 Ja (f2 Ji (Ae 3) (Ae 3)) (fC (.int 2147483629))) (fC (.int 40692))) (fC (.int 2147483399))) (gN 3)) (Ci (f2 Ja (f2 Uw (Ae 3) (fC (.int 7))) (Ae 1)))))))
noncomputable def Al:FN:=fnU 4 2 Ni
noncomputable def Ks:FS:=(Bq (f2 Ja (f2 Ax (f2 Ji (Ae 1) (fC (.int 48271))) (f2 Ja (Ae 2) (fC (.int 2147483629)))) (fC (.int 2147483647))) (gN 1))
noncomputable def Rh:FS:=(Bf (Bq (A0 Cc (Ac (Ae 0) Ag)) (gN 1)) (Bf (Lf (Bu (Ae 0)) (gN 2) Ks) (Ci (Ae 1))))
noncomputable def Gm:FN:=fnU 3 1 Rh
noncomputable def Kj:FS:=(Bf (Dv (Az (f2 B2 (Ae 1) (fC (.int 0)))) (Ci (f2 E3 (Ar 2 Al (Ac (Ae 0) (Ac (fC (.int 4)) Ag))) (fC (.int 1)))) Cq) (Bf (Dv (Az (f2 B2 (Ae 1) (fC (.int 1)))) (Ci (f2 E3 (Ar 2 Al (Ac (Ae 0) (Ac (fC (.int 41)) Ag))) (fC (.int 20)))) Cq) (Bf (Bq (f2 Ao (E5 (Ac (f2 Ax (f2 Ji (Ar 2 Al (Ac (Ae 0) (Ac (f2 Fj (fC (.int 10)) (fC (.int 5))) Ag))) (f2 Fj (fC (.int 10)) (fC (.int 5)))) (Ar 2 Al (Ac (Ae 0) (Ac (f2 Fj (fC (.int 10)) (fC (.int 5))) Ag)))) (Ac (f2 E3 (f2 Fj (fC (.int 10)) (fC (.int 10))) (fC (.int 1))) Ag))) (A0 Oq (Ac (f2 B2 (Ar 2 Al (Ac (Ae 0) (Ac (fC (.int 8)) Ag))) (fC (.int 0))) Ag))) (gN 2)) (Ci (f2 Ji (f2 Ao (E5 (Ac (fC (.int 1)) (Ac (Ajd (fC (.int 1))) Ag))) (Ar 2 Al (Ac (Ae 0) (Ac (fC (.int 2)) Ag)))) (Ae 2))))))
noncomputable def Eo:FN:=fnU 3 2 Kj
noncomputable def Vw:FS:=(Bf (Bq (A0 G6 (Ac (Ae 0) (Ac (f2 E3 (fC (.int 0)) (Ae 0)) Ag))) (gN 1)) (Ci (E5 (Ac (Ae 1) (Ac (A0 Oq (Ac (f2 Aet (Ae 1) (f2 Fj (fC (.int 10)) (fC (.int 18)))) Ag)) (Ac (fC (.int 0)) (Ac (f2 Ja (Ae 0) (fC (.int 1999999913))) Ag)))))))
noncomputable def K8:FN:=fnU 2 1 Vw
structure Seed(L:UH)(d:Nat)(B:Int):Prop where
 ex:∃ (a b c e:Int),L[d]? = some (.lst [.int a,.int b,.int c,.int e])/\0<=a/\0<=c/\c<=B/\0<=e/\e < 1999999913
theorem Seed.lt{L:UH}{d:Nat}{B:Int}(h:Seed L d B):d < L.length:=by
 obtain ⟨a,b,c,e,h1,_⟩:=h.ex
 exact (aQ.mp h1).1
theorem Seed.mono{L:UH}{d:Nat}{B B':Int}(h:Seed L d B)(hb:B<=B'):Seed L d B':=by
 obtain ⟨a,b,c,e,h1,h2,h3,h4,h5⟩:=h.ex
 exact ⟨a,b,c,e,h1,h2,h3,by omega,h5⟩
theorem Seed.new{L:UH}{d:Nat}{B:Int}(h:Seed L d B)(x:List HU):Seed (L++x) d B:=by
 obtain ⟨a,b,c,e,h1,h2⟩:=h.ex
 exact ⟨a,b,c,e,by rw[aW (aQ.mp h1).1];exact h1,h2⟩
theorem Seed.set{L:UH}{d:Nat}{B:Int}(h:Seed L d B){n:Nat}(hn:n≠d)(o:HU):Seed (L.set n o) d B:=by
 obtain ⟨a,b,c,e,h1,h2⟩:=h.ex
 exact ⟨a,b,c,e,by rw[bI hn];exact h1,h2⟩
theorem Seed.gw{L L':UH}{d:Nat}{B:Int}(h:Seed L d B)(g:Gw L L'):Seed L' d B:=by obtain ⟨x,rfl⟩:=g;exact h.new x
inductive draw_ok_I(L:UH)(d:Nat)(B:Int)(many:Int):Prop
 | mk (r:_) (L':_) (h0:Al [.ref d,.int many] L=some (.int r,L')) (h1:0<=r) (h2:r < many) (h3:Seed L' d (B+1)) (h4:Ex d L L'):draw_ok_I L d B many
theorem Cd{L:UH}{d:Nat}{B many:Int}(D:Seed L d B)(hB:B<=1000000000000)(h0:0 < many)(h1:many < 1000000000000000):draw_ok_I L d B many:=by
 obtain ⟨a,b,c,e,hd,ha,hc0,hc1,he0,he1⟩:=D.ex
 have hdl:d < L.length:=(aQ.mp hd).1
 have q1:=Be hd
 have q2:=Fx hd
 have md:∀ x:Int,0<=x % many/\x % many < many:=fun x=>⟨lQ _ (by omega),jW _ h0⟩
 have i0:∀ (x0 x1 x2 x3:U),L2.atI [x0,x1,x2,x3] 0=some x0:=fun _ _ _ _=>rfl
 have i1:∀ (x0 x1 x2 x3:U),L2.atI [x0,x1,x2,x3] 1=some x1:=fun _ _ _ _=>rfl
 have i2:∀ (x0 x1 x2 x3:U),L2.atI [x0,x1,x2,x3] 2=some x2:=fun _ _ _ _=>rfl
 have i3:∀ (x0 x1 x2 x3:U),L2.atI [x0,x1,x2,x3] 3=some x3:=fun _ _ _ _=>rfl
 have j0:ixN 4 0=some 0:=rfl
 have j2:ixN 4 2=some 2:=rfl
 have set1:∀ us:List U,Ba (L.set d (.lst us)) d=some us/\Hb (L.set d (.lst us)) d=some us:=fun us=>by
  have:(L.set d (.lst us))[d]? = some (.lst us):=bU hdl
  exact ⟨Be this,Fx this⟩
 have s1:=set1 [.int a,.int b,.int (c+1),.int e]
 have keep:∀ x:Int,0<=x->Seed (L.set d (.lst [.int x,.int b,.int (c+1),.int e])) d (B+1)/\Ex d L (L.set d (.lst [.int x,.int b,.int (c+1),.int e])):=fun x hx=>
  ⟨⟨x,b,c+1,e,bU hdl,hx,by omega,by omega,he0,he1⟩,Ex.put d L _⟩
 by_cases hb:b=1/\0 < a
 ·obtain ⟨rfl,hap⟩:=hb
  refine ⟨a % many,L.set d (.lst [.int (a / many),.int 1,.int (c+1),.int e]),?_,(md a).1,(md a).2,(keep (a / many) (oV (by omega) (by omega))).1,(keep (a / many) (oV (by omega) (by omega))).2⟩
  simp[Al,fnU,Ni,q1,q2,i0,i1,i2,i3,j0,j2,s1,hap,h0,Vn h0 (by omega),bE]
 ·generalize hA:(e+6997 * (c+1)+11) * 48271 % 2147483647=A
  have hA0:0<=A/\A < 2147483647:=by rw[<- hA];exact ⟨lQ _ (by decide),jW _ (by decide)⟩
  generalize hC:A * A % 2147483629 * 40692 % 2147483399=Cn
  have m1:Ip 6997 (c+1)=true:=Yq (by decide) (by decide)
  have m2:∀ x:Int,Ip x 48271=true:=fun x=>Nj (by decide) (by decide)
  have m3:Ip A A=true:=Yq (by omega) (by omega)
  have m4:∀ x:Int,Ip x 40692=true:=fun x=>Nj (by decide) (by decide)
  have d7:∀ x:Int,Sk x 7=true:=fun x=>Vn (by decide) (by decide)
  refine ⟨Cn / 7 % many,L.set d (.lst [.int a,.int b,.int (c+1),.int e]),?_,(md _).1,(md _).2,(keep a ha).1,(keep a ha).2⟩
  by_cases hb1:b=1
  ·have hna:¬ 0 < a:=fun z=>hb ⟨hb1,z⟩
   simp[Al,fnU,Ni,q1,q2,i0,i1,i2,i3,j0,j2,s1,hb1,hna,h0,m1,m2,m3,m4,d7,hA,hC,bE]
   subst hb1
   simp[q1,q2,i0,i1,i2,i3,j2,s1,hna,h0,m1,m2,m3,m4,d7,hA,hC]
  ·simp[Al,fnU,Ni,q1,q2,i0,i1,i2,i3,j0,j2,s1,hb1,h0,m1,m2,m3,m4,d7,hA,hC,bE]
theorem Af1(cell:Int)(L:UH):∃ L',K8 [.int cell] L=some (.ref L.length,L')/\Seed L' L.length 0/\Gw L L':=by
 have hmax:G6 [.int cell,.int (0 - cell)] L=some (.int (if 0 - cell > cell then 0 - cell else cell),L):=rfl
 generalize hn:(if 0 - cell > cell then 0 - cell else cell)=n at hmax
 have hn0:0<=n:=by rw[<- hn];split <;> omega
 have p18:Ro 10 18=true:=rfl
 have hint:∀ k:Bool,Oq [.bl k] L=some (.int (if k then 1 else 0),L):=fun _=>rfl
 refine ⟨L++[.lst [.int n,.int (if decide (1000000000000000000<=n)=true then 1 else 0),.int 0,.int (cell % 1999999913)]],?_,⟨n,(if decide (1000000000000000000<=n)=true then 1 else 0),0,cell % 1999999913,by simp,hn0,by omega,by omega,lQ _ (by decide),jW _ (by decide)⟩,Gw.new _ _⟩
 simp only[Int.zero_sub] at hmax
 simp[K8,fnU,Vw,hmax,p18,hint,B1,bE]
theorem Acb{L:UH}{n:Nat}(ns:List Int)(hs:Ba L n=some (ns.map U.int)):∃ r,Gm [.ref n] L=some (.int r,L):=by
 obtain ⟨δ',L',e,hP⟩:=T6 (us:=ns.map U.int) (n:=n) (L0:=L) (L:=L) (δ:=[some (.ref n),some (.int ns.length),none]) (body:=Ks) (g:=gN 2) (fi:=Bu (Ae 0))
  (fun _ δ' L'=>∃ y1 y2,δ'=[some (.ref n),some (.int y1),y2]/\L'=L)
  (by simp[Gn hs]) ⟨ns.length,none,rfl,rfl⟩
  (fun k δ L' zz=>by obtain ⟨_,_,_,hL⟩:=zz;rw[hL];exact hs)
  (fun k u δ L' hu zz=>by
   obtain ⟨y1,y2,hδ,hL⟩:=zz
   subst hδ;subst hL
   rw[bO] at hu
   obtain ⟨c,_,rfl⟩:=aM.mp hu
   refine ⟨_,_,rfl,[some (.ref n),some (.int ((y1 * 48271+c % 2147483629) % 2147483647)),some (.int c)],_,.inl ?_,_,_,rfl,rfl⟩
   have m1:Ip y1 48271=true:=Nj (by decide) (by decide)
   simp[Ks,m1])
 obtain ⟨y1,y2,hδ,hL⟩:=hP
 subst hL
 refine ⟨y1,?_⟩
 have hlen:Cc [.ref n] L'=some (.int ns.length,L'):=by simp[Cc,lenU,hs]
 rw[hδ] at e
 simp[Gm,fnU,Rh,-T7,hlen,e,bE]
theorem Aje(k:Bool)(L:UH):Oq [.bl k] L=some (.int (if k then 1 else 0),L):=rfl
inductive number2_ok_I(L:UH)(d:Nat)(B:Int)(way:Int):Prop
 | mk (r:_) (L':_) (h0:Eo [.ref d,.int way] L=some (.int r,L')) (h1:-9999999999<=r) (h2:r<=9999999999) (h3:Seed L' d (B+4)) (h4:Ex d L L'):number2_ok_I L d B way
theorem Xa{L:UH}{d:Nat}{B way:Int}(D:Seed L d B)(hB:B<=100000000000)(hw:way=0\/way=1\/way=2):number2_ok_I L d B way:=by
 rcases hw with rfl | rfl | rfl
 ·obtain ⟨r,L1,e1,a1,b1,D1,x1⟩:=Cd (many:=4) D (by omega) (by decide) (by decide)
  exact ⟨r - 1,L1,by simp[Eo,fnU,Kj,e1,bE],by omega,by omega,D1.mono (by omega),x1⟩
 ·obtain ⟨r,L1,e1,a1,b1,D1,x1⟩:=Cd (many:=41) D (by omega) (by decide) (by decide)
  exact ⟨r - 20,L1,by simp[Eo,fnU,Kj,e1,bE],by omega,by omega,D1.mono (by omega),x1⟩
 ·obtain ⟨r1,L1,e1,a1,b1,D1,x1⟩:=Cd (many:=100000) D (by omega) (by decide) (by decide)
  obtain ⟨r2,K2,e2,a2,b2,D2,x2⟩:=Cd (many:=100000) D1 (by omega) (by decide) (by decide)
  obtain ⟨r3,L3,e3,a3,b3,D3,x3⟩:=Cd (many:=8) (D2.new [HU.lst [.int (r1 * 100000+r2),.int 9999999999]]) (by omega) (by decide) (by decide)
  have hdl:=D2.lt
  have q3:Ba L3 K2.length=some [.int (r1 * 100000+r2),.int 9999999999]:=Be (x3.get (i:=K2.length) (by simp) (by omega))
  have hg:∃ g:Int,L2.atI [U.int (r1 * 100000+r2),.int 9999999999] (if (r3 == 0)=true then 1 else 0)=some (.int g)/\0<=g/\g<=9999999999:=by
   by_cases h:r3=0
   ·exact ⟨9999999999,by simp[h];rfl,by decide,by decide⟩
   ·exact ⟨r1 * 100000+r2,by simp[h];rfl,by omega,by omega⟩
  obtain ⟨g,hg,g0,g1⟩:=hg
  obtain ⟨r4,L4,e4,a4,b4,D4,x4⟩:=Cd (many:=2) (D3.new [HU.lst [.int 1,.int (-1)]]) (by omega) (by decide) (by decide)
  have q4:Ba L4 L3.length=some [.int 1,.int (-1)]:=Be (x4.get (i:=L3.length) (by simp) (by have:=D3.lt;omega))
  have hs:∃ sg:Int,L2.atI [U.int 1,.int (-1)] r4=some (.int sg)/\(sg=1\/sg = -1):=by
   have:r4=0\/r4=1:=by omega
   rcases this with rfl | rfl
   ·exact ⟨1,rfl,.inl rfl⟩
   ·exact ⟨-1,rfl,.inr rfl⟩
  obtain ⟨sg,hs,hsg⟩:=hs
  have p5:Ro 10 5=true:=rfl
  have p10:Ro 10 10=true:=rfl
  have m1:Ip r1 100000=true:=Nj (by decide) (by decide)
  have m2:Ip sg g=true:=Nj (by omega) (by omega)
  refine ⟨sg * g,L4,?_,by rcases hsg with rfl | rfl <;> omega,by rcases hsg with rfl | rfl <;> omega,D4.mono (by omega),x1.trans (x2.trans ((Ex.new d K2 _).trans (x3.trans ((Ex.new d L3 _).trans x4))))⟩
  simp only[beq_iff_eq] at hg
  simp[Eo,fnU,Kj,p5,p10,e1,m1,e2,B1,e3,Aje,q3,hg,e4,q4,hs,m2,bE]
end Lw
namespace MR
open PySem PySem.Spec PyProof.Rows L2
noncomputable def XObj(e Ca:Addr)(dd:Option Addr)(h:Heap)(vs:Array aE):Prop:=∃ o:Obj,h.get? e=some o/\o.cls = .ref Ca/\o.dict=dd/\o.data = .fields vs/\1 < vs.size/\o.slots=#[]
noncomputable def Tra(N:Nat)(e Ca:Addr)(dd:Option Addr)(fl:aE)(h:Heap):Prop:=∃ vs T oT ts,XObj e Ca dd h vs/\vs[1]? = some (.ref T)/\N<=T/\T≠e/\h.get? T=some oT/\oT.data = .fields ts/\ts[3]? = some fl
noncomputable def Raw(e Ca:Addr)(dd:Option Addr)(h:Heap):Prop:=∃ vs,XObj e Ca dd h vs/\vs[1]? = some .none
noncomputable def Fly(N:Nat)(e Ca:Addr)(dd:Option Addr)(h:Heap):Prop:=N<=h.objs.size/\(Raw e Ca dd h\/∃ fl,Tra N e Ca dd fl h)
theorem XObj.excIs{e Ca:Addr}{dd:Option Addr}{h:Heap}{vs:Array aE}(x:XObj e Ca dd h vs):Ct e Ca dd false h:=by
 obtain ⟨o,h1,h2,h3,h4,h5,h6⟩:=x
 exact ⟨o,vs,h1,h2,h3,h4,h5,h6,fun z=>nomatch z⟩
theorem Fly.excIs{N:Nat}{e Ca:Addr}{dd:Option Addr}{h:Heap}(x:Fly N e Ca dd h):Ct e Ca dd false h:=by
 rcases x.2 with ⟨vs,q,_⟩ | ⟨_,vs,_,_,_,q,_⟩
 ·exact q.excIs
 ·exact q.excIs
structure Stp(N:Nat)(fs:List Addr)(e:Addr)(h h':Heap):Prop where
 keep:∀ b o,b < N->b∉fs->b≠e->h.get? b=some o->h'.get? b=some o
 slot:∀ b o,b∈fs->h.get? b=some o->∃ sl,h'.get? b=some { o with slots:=sl }
 all:∀ b o,h.get? b=some o->∃ o',h'.get? b=some o'
 sz:h.objs.size<=h'.objs.size
theorem Stp.refl{N:Nat}{fs:List Addr}{e:Addr}{h:Heap}:Stp N fs e h h:=⟨fun _ _ _ _ _ q=>q,fun b o _ q=>⟨o.slots,q⟩,fun _ o q=>⟨o,q⟩,bD _⟩
theorem Stp.trans{N:Nat}{fs:List Addr}{e:Addr}{h h1 h2:Heap}(x:Stp N fs e h h1)(y:Stp N fs e h1 h2):Stp N fs e h h2:=
 ⟨fun b o l n z q=>y.keep b o l n z (x.keep b o l n z q),fun b o m q=>let ⟨_,q1⟩:=x.slot b o m q;let ⟨sl,q2⟩:=y.slot b _ m q1;⟨sl,q2⟩,fun b o q=>let ⟨o1,q1⟩:=x.all b o q;y.all b o1 q1,cC x.sz y.sz⟩
theorem O0{h:Heap}{a b:Addr}{f:Obj->Obj}{o oa:Obj}(q:h.get? b=some o)(qa:h.get? a=some oa)(hf:(f oa).isFreed=false):∃ o',(h.update a f).get? b=some o':=by
 by_cases z:a=b
 ·subst z;exact ⟨_,cY f qa hf⟩
 ·exact ⟨o,(cH h f z).trans q⟩
section
variable {M:pB}{A:cG}{E:aE->aJ->Prop}{s:aJ}{base:Heap}{N:Nat}{env:eD}{outer:List eD}{L e Ca:Addr}{dd:Option Addr}
theorem V9{o:Obj}{vs:Array aE}{h:Heap}{k:Nat}{x:aE}(hd:o.data = .fields vs)(hq:(o.cls = .ref Ca/\o.dict=dd)/\1 < vs.size/\o.slots=#[])(hg:h.get? e=some (o.mapFields (·.setIfInBounds k x))) :
  XObj e Ca dd h (vs.setIfInBounds k x):=by
 obtain ⟨cl,di,da,sl⟩:=o
 dsimp only at hd hq
 subst hd
 exact ⟨_,hg,hq.1.1,hq.1.2,rfl,by rw[Array.size_setIfInBounds];exact hq.2.1,hq.2.2⟩
theorem Adz{h:Heap}{l:List eD}{b:Addr}{o:Obj}{vs:Array aE}(fr:h.FunFrames base l)(q:h.get? b=some o)(hd:o.data = .fields vs):b∉frs l:=fun m=>by
 obtain ⟨_,o',ho,hnf⟩:=fr.mem m
 rw[q] at ho
 cases ho
 exact hnf vs hd
theorem Rq{head:aE}{hadNext:Bool}{vs:Array aE}{Q:Unit->aJ->Prop}(hfr:A.frames=some (env::outer))(hf:env.frame=some L)
  (hN:N<=s.heap.objs.size) (fr:s.heap.FunFrames base (env::outer)) (hx:XObj e Ca dd s.heap vs)
  (hQ:∀ h',Tra N e Ca dd (rawInt L) h'->Stp N (frs (env::outer)) e s.heap h'->h'.FunFrames base (env::outer)->Q () { s with heap:=h' }) :
  wpAny M A (do setField (.ref e) 1 (<- mP head (<- frameOf env) .none (rawInt L) .none (<- entryPlaceOf L hadNext))) Q E s:=by
 obtain ⟨oe,he,hc,hdd,hd,hsz,hsl⟩:=hx
 have noFr:e∉frs (env::outer):=Adz fr he hd
 refine aF (wpAny_frameOf_fun hfr fr hf fun h1 so=>?_)
 refine aF (wpAny_entryPlaceOf fun pl hpl=>?_)
 unfold mP newFields
 refine aF (cR ?_ (hpl.sizeOk5 _ _ _ _ _))
 generalize hT:({ cls:=.type "traceback",dict:=none,data:=.fields ([head,.ref L,.none,rawInt L,.none]++(if pl.isEmpty then bE 6 dE else pl)).toArray }:Obj)=oT
 have e1:h1.get? e=some oe:=(so.2.1 e noFr).trans he
 have e2:(h1.push oT).get? e=some oe:=aG oT e1
 have z1:h1.objs.size=s.heap.objs.size:=so.1
 have hne:h1.objs.size≠e:=gC (aR e1)
 have hd3:=cZ hd (·.setIfInBounds 1 (bN h1.objs.size))
 have e3:=cY (dS (·.setIfInBounds 1 (bN h1.objs.size))) e2 (dJ hd3)
 have hTf:oT.isFreed=false:=by subst hT;rfl
 have t3:((h1.push oT).update e (dS (·.setIfInBounds 1 (bN h1.objs.size)))).get? h1.objs.size=some oT:=(cH _ _ (cS hne)).trans (aY h1 hTf)
 have up:∀ b o,b≠e->h1.get? b=some o->((h1.push oT).update e (dS (·.setIfInBounds 1 (bN h1.objs.size)))).get? b=some o:=fun b o hb q=>by
  rw[cH _ _ (cS hb)]
  exact aG oT q
 refine fW e2 hd hsz (hQ _ ?_ ⟨fun b o _ hb hbe q=>up b o hbe ((so.2.1 b hb).trans q),fun b o hb q=>?_,fun b o q=>?_,?_⟩ (fr.of_keeps fun b o q hnf=>?_))
 ·refine ⟨_,h1.objs.size,oT,_,V9 hd ⟨⟨hc,hdd⟩,hsz,hsl⟩ e3,by simp[hsz],by rw[z1];exact hN,hne,t3,by subst hT;rfl,?_⟩
  first
   | (simp;done)
   | (rcases hpl with rfl | ⟨_,_,_,_,_,_,_,rfl⟩ <;> simp)
 ·obtain ⟨sl,q2⟩:=so.2.2 b o q
  exact ⟨sl,up b _ (fun z=>noFr (z ▸ hb)) q2⟩
 ·obtain ⟨sl,q2⟩:=so.2.2 b o q
  exact O0 (aG oT q2) e2 (dJ (cZ hd _))
 ·rw[fJ,dW,z1];exact iP _
 ·obtain ⟨sl,q2⟩:=so.2.2 b o q
  exact ⟨_,up b _ (fun z=>by rw[z,he] at q;cases q;exact hnf vs hd) q2,rfl⟩
theorem Acs{Q:Unit->aJ->Prop}(hfr:A.frames=some (env::outer))(hf:env.frame=some L)(fr:s.heap.FunFrames base (env::outer))(F:Fly N e Ca dd s.heap)
  (hQ:∀ h',Tra N e Ca dd (rawInt L) h'->Stp N (frs (env::outer)) e s.heap h'->h'.FunFrames base (env::outer)->Q () { s with heap:=h' }):wpAny M A (noteFrame (.ref e) env) Q E s:=by
 unfold noteFrame
 simp only[hf]
 rcases F.2 with ⟨vs,hx,h1⟩ | ⟨fl,vs,T,oT,ts,hx,h1,hB,hne,hT,hdT,h3⟩
 ·obtain ⟨oe,he,hc,hdd,hd,hsz,hsl⟩:=id hx
  refine aF (cJ he hd h1 ?_)
  rw[if_neg (by decide)]
  exact Rq hfr hf F.1 fr hx hQ
 ·obtain ⟨oe,he,hc,hdd,hd,hsz,hsl⟩:=id hx
  refine aF (cJ he hd h1 ?_)
  rw[if_pos (show (bN T != dE)=true from by simp)]
  refine aF (cJ hT hdT h3 ?_)
  by_cases hfl:(fl == rawInt L)=true
  ·rw[if_pos hfl]
   have hfl':fl=rawInt L:=by simpa using hfl
   subst hfl'
   exact aT (hQ s.heap ⟨vs,T,oT,ts,hx,h1,hB,hne,hT,hdT,h3⟩ .refl fr)
  rw[if_neg hfl]
  refine aF (fW hT hdT (jX.mp h3).1 ?_)
  have other:∀ b,b≠T->(s.heap.update T (dS (·.setIfInBounds 3 dE))).get? b=s.heap.get? b:=fun b hb=>cH _ _ (cS hb)
  have noT:∀ b o,s.heap.get? b=some o->(∀ ws,o.data≠.fields ws)->b≠T:=fun b o q n z=>by
   rw[z,hT] at q;cases q;exact n ts hdT
  refine Rq (N:=N) (s:={ s with heap:=s.heap.update T (dS (·.setIfInBounds 3 dE)) }) hfr hf (by show N<=(s.heap.update T _).objs.size;rw[fJ];exact F.1)
   (fr.of_keeps fun b o q n=>⟨o,(other b (noT b o q n)).trans q,rfl⟩) ⟨oe,(other e (cS hne)).trans he,hc,hdd,hd,hsz,hsl⟩ fun h' F' up fr'=>hQ h' F' ⟨fun b o l n z q=>?_,fun b o m q=>?_,fun b o q=>?_,?_⟩ fr'
  ·exact up.keep b o l n z ((other b (fun y=>absurd l (by rw[y];exact jY.mpr hB))).trans q)
  ·exact up.slot b o m ((other b fun y=>Adz fr hT hdT (y ▸ m)).trans q)
  ·obtain ⟨o1,q1⟩:=O0 (f:=dS (·.setIfInBounds 3 dE)) q hT (dJ (cZ hdT _))
   exact up.all b o1 q1
  ·have:=up.sz
   rw[show ({ s with heap:=s.heap.update T (dS (·.setIfInBounds 3 dE)) }:aJ).heap.objs.size=s.heap.objs.size from fJ _ _ _] at this
   exact this
theorem Pm{fl:aE}{frm:Option Addr}{l:List eD}{Q:Unit->aJ->Prop}(fr:s.heap.FunFrames base l)(F:Tra N e Ca dd fl s.heap)
  (hQ:∀ h',Tra N e Ca dd (frm.elim dE fun f=>rawInt f) h'->Stp N (frs l) e s.heap h'->h'.FunFrames base l->Q () { s with heap:=h' }):wpAny M A (setFlight (.ref e) frm) Q E s:=by
 obtain ⟨vs,T,oT,ts,hx,h1,hB,hne,hT,hdT,h3⟩:=F
 obtain ⟨oe,he,hc,hdd,hd,hsz,hsl⟩:=id hx
 unfold setFlight
 refine aF (cJ he hd h1 ?_)
 rw[if_pos (show (bN T != dE)=true from by simp)]
 have hs3:3 < ts.size:=(jX.mp h3).1
 have noT:∀ b o,s.heap.get? b=some o->(∀ ws,o.data≠.fields ws)->b≠T:=fun b o q n z=>by
  rw[z,hT] at q;cases q;exact n ts hdT
 have other:∀ b,b≠T->(s.heap.update T (dS (·.setIfInBounds 3 (frm.elim dE fun f=>rawInt f)))).get? b=s.heap.get? b:=fun b hb=>cH _ _ (cS hb)
 refine fW hT hdT hs3 (hQ _ ?_ ⟨fun b o l n z q=>(other b (fun y=>absurd l (by rw[y];exact jY.mpr hB))).trans q,fun b o m q=>⟨o.slots,(other b fun y=>Adz fr hT hdT (y ▸ m)).trans q⟩,fun b o q=>O0 q hT (dJ (cZ hdT _)),by rw[fJ];exact bD _⟩ (fr.of_keeps fun b o q n=>⟨o,(other b (noT b o q n)).trans q,rfl⟩))
 exact ⟨vs,T,_,_,⟨oe,(other e (cS hne)).trans he,hc,hdd,hd,hsz,hsl⟩,h1,hB,hne,cY _ hT (dJ (cZ hdT _)),cZ hdT _,by simp[hs3]⟩
theorem Y6{Q:Unit->aJ->Prop}(hfr:A.frames=some (env::outer))(hf:env.frame=some L)(fr:s.heap.FunFrames base (env::outer))(F:Fly N e Ca dd s.heap)
  (hQ:∀ h',Fly N e Ca dd h'->Stp N (frs (env::outer)) e s.heap h'->h'.FunFrames base (env::outer)->Q () { s with heap:=h' }):wpAny M A (noteFrame (.ref e) env) (fun _ s'=>wpAny M A (setFlight (.ref e) none) Q E s') E s:=by
 refine Acs hfr hf fr F fun h1 F1 u1 fr1=>?_
 refine Pm (s:={ s with heap:=h1 }) fr1 F1 fun h2 F2 u2 fr2=>hQ h2 ⟨cC F.1 (cC u1.sz u2.sz),.inr ⟨_,F2⟩⟩ (u1.trans u2) fr2
theorem Wz{Q:Unit->aJ->Prop}(hfr:A.frames=some (env::outer))(hf:env.frame=some L)(fr:s.heap.FunFrames base (env::outer))(F:Fly N e Ca dd s.heap)
  (hQ:∀ h',Fly N e Ca dd h'->Stp N (frs (env::outer)) e s.heap h'->h'.FunFrames base (env::outer)->Q () { s with heap:=h' }):wpAny M A (leaving env (.ref e)) Q E s:=by
 unfold leaving
 exact aF (Y6 hfr hf fr F hQ)
end
theorem Y7{P:bP}{w:cE}{H:Hp}{h h':Heap}{N:Nat}{fs:List Addr}{e Ca:Addr}{dd:Option Addr}(ok:HOk P w H h)(hf:∀ b∈fs,H b=none)(tr:∀ b o,H b=some o->b < N)(S:Stp N fs e h h')
  (me:H e=some (.ext (Ct e Ca dd false))) (x:Ct e Ca dd false h'):HOk P w H h':=fun a o q=>by
 by_cases ha:a=e
 ·subst ha
  rw[me] at q
  cases q
  obtain ⟨o,vs,h1,r⟩:=id x
  refine ⟨x,⟨o,h1⟩,fun h1 h2 ⟨o1,ws,q1,r1⟩ k=>⟨o1,ws,k _ q1,r1⟩⟩
 ·refine (ok a o q).stay (fun b u hb z=>?_) (fun _ z=>z) fun _ _ z=>z
  have hbt:∃ ob,H b=some ob:=by
   rcases hb with hb | hb
   ·exact ⟨o,by rw[hb];exact q⟩
   ·exact ⟨_,hb⟩
  obtain ⟨ob,hob⟩:=hbt
  refine S.keep b u (tr b ob hob) (fun m=>by rw[hf b m] at hob;cases hob) ?_ z
  rintro rfl
  rcases hb with hb | hb
  ·exact ha hb.symm
  ·rw[me] at hb;cases hb
theorem Un.stp{fs fs':List Addr}{H H':Hp}{h0 h h':Heap}{N:Nat}{e:Addr}(u:Un fs [] H H' h0 h)(S:Stp N fs' e h h')(hN:∀ b o,h0.get? b=some o->b < N/\(b∉fs->b∉fs'))(hs:∀ b∈fs,b∈fs')(me:H' e≠none):Un fs [] H H' h0 h' where
 keep:=fun b o q n hb hx=>S.keep b o (hN b o q).1 ((hN b o q).2 hb) (fun z=>me (by rw[<- z];exact u.free b o q n hx)) (u.keep b o q n hb hx)
 slot:=fun b o q n hb hx=>by
  obtain ⟨sl,q1⟩:=u.slot b o q n hb hx
  obtain ⟨sl2,q2⟩:=S.slot b _ (hs b hb) q1
  exact ⟨sl2,q2⟩
 free:=u.free
 there:=fun b o q hx=>let ⟨o1,q1⟩:=u.there b o q hx;S.all b o1 q1
 tups:=u.tups
 frzs:=u.frzs
 tbls:=u.tbls
structure Bd(X:Cx)(pins:List (Addr×Obj))(N:Nat):Prop where
 s0:X.s₀.heap.objs.size<=N
 lo:X.env.locals < N
 ce:∀ x c,X.env.cells.lookup x=some c->c < N
 pi:∀ p∈X.pn++pins,p.1 < N
theorem Bd.of{X:Cx}{pins:List (Addr×Obj)}{σ:L2.St}{H:Hp}{s:aJ}{N:Nat}(I:L2.Inv X pins σ H s)(h:s.heap.objs.size<=N):Bd X pins N:=
 ⟨cC I.sz h,aU I.lt h,fun x c q=>by
  obtain ⟨v,o,ho,_⟩:=I.cell x c q
  exact aU (aR ho) h,fun p hp=>aU (aR (I.pin p hp).1) h⟩
structure FlX(X:Cx)(pins:List (Addr×Obj))(σ:L2.St)(H:Hp)(e Ca:Addr)(dd:Option Addr)(N:Nat)(s:aJ):Prop where
 inv:L2.Inv X pins σ H s
 bd:Bd X pins N
 fly:Fly N e Ca dd s.heap
 tr:∀ b o,H b=some o->b < N
 me:H e=some (.ext (Ct e Ca dd false))
section
variable {X:Cx}{pins:List (Addr×Obj)}{σ:L2.St}{H:Hp}{s:aJ}{e Ca:Addr}{dd:Option Addr}{N:Nat}{h':Heap}
theorem Inv.stepX{t':Nat}(I:L2.Inv X pins σ H s)(bd:Bd X pins N)(tr:∀ b o,H b=some o->b < N)(me:H e=some (.ext (Ct e Ca dd false)))(S:Stp N (frs X.stack) e s.heap h')(fl:Ct e Ca dd false h'):L2.Inv X pins σ H { s with heap:=h',toks:=t' }:=by
 refine I.call (g':=s.gens) (d':=s.drawn) (t':=t') (h':=h') (ch:=(dU s.heap.objs.size).filter (N<=·)) ⟨fun b o q n hb hx=>?_,fun b o q n hb hx=>S.slot b o hb q,fun _ _ _ n _=>n,fun b o q _=>S.all b o q,fun _ _ z=>z,fun _ _ _ z=>z,fun b ps z=>⟨#[],by rw[z];simp⟩⟩ (Y7 I.hok I.stkFree tr S me fl) I.bare (fun b hb=>?_)
 ·refine S.keep b o ?_ hb (fun z=>by rw[z,me] at n;cases n) q
  by_cases hl:b < N
  ·exact hl
  ·exact absurd (fK.mpr ⟨gW.mpr (aR q),by simpa using hl⟩) hx
 ·have hb:N<=b:=by simpa using (fK.mp hb).2
  refine ⟨.inr (cC bd.s0 hb),fun z=>absurd bd.lo (by rw[<- z];exact jY.mpr hb),fun x c q z=>absurd (bd.ce x c q) (by rw[z];exact jY.mpr hb),fun p hp z=>absurd (bd.pi p hp) (by rw[z];exact jY.mpr hb)⟩
theorem FlX.step(F:FlX X pins σ H e Ca dd N s)(S:Stp N (frs X.stack) e s.heap h')(fl:Fly N e Ca dd h'):FlX X pins σ H e Ca dd N { s with heap:=h' }:=
 ⟨Inv.stepX (t':=s.toks) F.inv F.bd F.tr F.me S fl.excIs,F.bd,fl,F.tr,F.me⟩
end
noncomputable def CFl(P:bP)(w:cE)(K:aC)(outer:List eD)(H:Hp)(α:List Addr)(s:aJ)(n:Nat)(L':UH)(e:aE)(s':aJ):Prop:=
 ∃ ea Ca dd N H' α',e = .ref ea/\s'.os=s.os/\jI s'.gens/\Un (frs outer) [] H H' s.heap s'.heap/\HOk P w H' s'.heap/\s.heap.objs.size<=N/\Fly N ea Ca dd s'.heap/\(∀ b o,H' b=some o->b < N) /\
  H' ea=some (.ext (Ct ea Ca dd false))/\Gr H α H' α'/\Abs K H' α' L'/\α'[n]? = some ea
abbrev XN:=List U->UH->Option (Nat×UH)
structure FnX(P:bP)(w:cE)(K:aC)(mg:Str->Option aE)(base:Heap)(k:Nat)(f:Addr)(fd:bL)(ps:List Str)(x:XN):Prop where
 run:∀ (A:cG) (outer:List eD) (s:aJ) (H:Hp) (args:Args) (us:List aE) (vs:List V) (α:List Addr) (L:UH) (ws:List U) (n:Nat) (L':UH),Room k A->Env0 P w K mg base A outer s H->kJ s fd args (ps.zip us)->Vals vs us ->
  Abs K H α L->RepL K H α ws vs->ws.length=ps.length->x ws L=some (n,L')->iN (model P w) A (.call (.ref f) args) (fun r s'=>∃ e,r = .error e/\CFl P w K outer H α s n L' e s') s
abbrev XS:=UE->UH->Option (Nat×UE×UH)
abbrev XE:=UE->UH->Option (Nat×UH)
noncomputable def FXP(X:Cx)(pins:List (Addr×Obj))(H:Hp)(α:List Addr)(n:Nat)(δ':UE)(L':UH)(e:aE)(s':aJ):Prop:=
 ∃ ea Ca dd N σ' H' α',e = .ref ea/\FlX X pins σ' H' ea Ca dd N s'/\Gr H α H' α'/\Abs X.K H' α' L'/\RepS X.K H' α' δ' σ'/\α'[n]? = some ea
theorem FXP.from{X:Cx}{pins:List (Addr×Obj)}{H H1:Hp}{α α1:List Addr}{n:Nat}{δ':UE}{L':UH}{e:aE}{s':aJ}(g:Gr H α H1 α1)(h:FXP X pins H1 α1 n δ' L' e s'):FXP X pins H α n δ' L' e s':=by
 obtain ⟨ea,Ca,dd,N,σ',H',α',h1,h2,h3,r⟩:=h
 exact ⟨ea,Ca,dd,N,σ',H',α',h1,h2,g.trans h3,r⟩
noncomputable def PXE(X:Cx)(e:Expr)(x:XE):Prop:=∀ (pins:List (Addr×Obj)) (s:aJ) (σ:L2.St) (H:Hp) (α:List Addr) (δ:UE) (L:UH) (n:Nat) (L':UH),L2.Inv X pins σ H s->Abs X.K H α L->RepS X.K H α δ σ->x δ L=some (n,L') ->
 wpAny (model X.prog X.w) X.A (eval e X.env) (fun _ _=>False) (FXP X pins H α n δ L') s
noncomputable def PXS(X:Cx)(st:Stmt)(x:XS):Prop:=∀ (pins:List (Addr×Obj)) (s:aJ) (σ:L2.St) (H:Hp) (α:List Addr) (δ:UE) (L:UH) (n:Nat) (δ':UE) (L':UH),L2.Inv X pins σ H s->Abs X.K H α L->RepS X.K H α δ σ->x δ L=some (n,δ',L') ->
 wpAny (model X.prog X.w) X.A (exec st X.env) (fun _ _=>False) (FXP X pins H α n δ' L') s
noncomputable def Xn(X:Cx)(sts:List Stmt)(x:XS):Prop:=∀ (pins:List (Addr×Obj)) (s:aJ) (σ:L2.St) (H:Hp) (α:List Addr) (δ:UE) (L:UH) (n:Nat) (δ':UE) (L':UH),L2.Inv X pins σ H s->Abs X.K H α L->RepS X.K H α δ σ->x δ L=some (n,δ',L') ->
 wpAny (model X.prog X.w) X.A (execs sts X.env) (fun _ _=>False) (FXP X pins H α n δ' L') s
section
variable {X:Cx}{e:Expr}{es:List Expr}{st:Stmt}{pins:List (Addr×Obj)}{s:aJ}{σ:L2.St}{H:Hp}{α:List Addr}{δ:UE}{L L':UH}{E:aE->aJ->Prop}
theorem PEF.go{f:FE}{u:U}{Q:aE->aJ->Prop}(h:PEF X e f)(hx:∀ e s,X.xe e s->False)(I:L2.Inv X pins σ H s)(A:Abs X.K H α L)(S:RepS X.K H α δ σ)(hf:f δ L=some (u,L'))
  (q:∀ x v H' α' s',L2.Inv X pins σ H' s'->Gr H α H' α'->Abs X.K H' α' L'->RepU X.K H' α' u v->RelV v x->Q x s'):wpAny (model X.prog X.w) X.A (eval e X.env) Q E s:=
 cM (h pins s σ H (fun v H'=>∃ α',Gr H α H' α'/\Abs X.K H' α' L'/\RepU X.K H' α' u v) I ⟨α,δ,L,A,S,u,L',hf,fun v H' α' g A' r=>⟨α',g,A',r⟩⟩) (fun x s' zz=>by obtain ⟨v,H',I',rv,α',g,A',r⟩:=zz;exact q x v H' α' s' I' g A' r rv) fun _ _ z=>(hx _ _ z).elim
theorem PTF.go{f:FT}{b:Bool}{Q:Bool->aJ->Prop}(h:PTF X e f)(hx:∀ e s,X.xe e s->False)(I:L2.Inv X pins σ H s)(A:Abs X.K H α L)(S:RepS X.K H α δ σ)(hf:f δ L=some (b,L'))
  (q:∀ H' α' s',L2.Inv X pins σ H' s'->Gr H α H' α'->Abs X.K H' α' L'->Q b s'):wpAny (model X.prog X.w) X.A (isTrue e X.env (eval e X.env)) Q E s:=
 cM (h pins s σ H (fun b' H'=>b'=b/\∃ α',Gr H α H' α'/\Abs X.K H' α' L') I ⟨α,δ,L,A,S,b,L',hf,fun H' α' g A'=>⟨rfl,α',g,A'⟩⟩) (fun x s' zz=>by obtain ⟨H',I',hb,α',g,A'⟩:=zz;subst hb;exact q H' α' s' I' g A') fun _ _ z=>(hx _ _ z).elim
theorem PAF.go{f:FA}{us:List U}{pos:Pos}{Q:List aE->aJ->Prop}(h:PAF X es f)(hx:∀ e s,X.xe e s->False)(I:L2.Inv X pins σ H s)(A:Abs X.K H α L)(S:RepS X.K H α δ σ)(hf:f δ L=some (us,L'))
  (q:∀ xs vs H' α' s',L2.Inv X pins σ H' s'->Gr H α H' α'->Abs X.K H' α' L'->RepL X.K H' α' us vs->Vals vs xs->Q xs s'):wpAny (model X.prog X.w) X.A (spliced (backTo pos (bA es X.env))) Q E s:=
 cM (h pos pins s σ H (fun vs H'=>∃ α',Gr H α H' α'/\Abs X.K H' α' L'/\RepL X.K H' α' us vs) I ⟨α,δ,L,A,S,us,L',hf,fun vs H' α' g A' r=>⟨α',g,A',r⟩⟩) (fun x s' zz=>by obtain ⟨vs,H',I',rv,α',g,A',r⟩:=zz;exact q x vs H' α' s' I' g A' r rv) fun _ _ z=>(hx _ _ z).elim
end
section
variable {X:Cx}{e:Expr}{es:List Expr}{st:Stmt}{rest:List Stmt}{pos:Pos}
noncomputable def xNo:XS:=fun _ _=>none
noncomputable def Xj(f:FS)(x y:XS):XS:=fun δ L=>match x δ L with
 | some r=>some r
 | none=>match f δ L with
  | some (.nx δ',L')=>y δ' L'
  | _=>none
theorem Iq{x:XS}(h1:PXS X st x):Xn X [st] x:=by
 intro pins s σ H α δ L n δ' L' I A S q
 exact iI (cM (h1 pins s σ H α δ L n δ' L' I A S q) (fun _ _ z=>z.elim) fun _ _ z=>z)
noncomputable def xOf(x:XE):XS:=fun δ L=>(x δ L).map fun r=>(r.1,δ,r.2)
theorem Alm{x:XE}{δ δ':UE}{L L':UH}{n:Nat}(q:xOf x δ L=some (n,δ',L')):x δ L=some (n,L')/\δ' = δ:=by
 unfold xOf at q
 obtain ⟨r,h1,h2⟩:=aM.mp q
 cases h2
 exact ⟨h1,rfl⟩
theorem N9{x:XE}(h:PXE X e x)(hs:swapsWith e none pos.line X.env=pure false:=by rfl):PXS X (.Expr e pos) (xOf x):=by
 intro pins s σ H α δ L n δ' L' I A S q
 obtain ⟨q,rfl⟩:=Alm q
 exact wpAny_Expr_any (cM (h pins s σ H α δ' L n L' I A S q) (fun _ _ z=>z.elim) fun _ _ z=>z) I.quiet hs
noncomputable def xIf(c:FT)(x y:XS):XS:=fun δ L=>match c δ L with
 | some (b,L1)=>if b=true then x δ L1 else y δ L1
 | none=>none
theorem Yw{c:Expr}{a b:List Stmt}{tc:FT}{x y:XS}(hc:PTF X c tc)(ha:Xn X a x)(hb:Xn X b y)(hx:∀ e s,X.xe e s->False:=by exact fun _ _ z=>z):PXS X (.If c a b pos) (xIf tc x y):=by
 intro pins s σ H α δ L n δ' L' I A S q
 unfold xIf at q
 split at q
 ·rename_i k L1 q1
  refine wpAny_If (hc.go hx I A S q1 fun H1 α1 s1 I1 g1 A1=>?_)
  cases k with
  | true=>exact cM (ha pins s1 σ H1 α1 δ L1 n δ' L' I1 A1 (S.mono g1) q) (fun _ _ z=>z.elim) fun _ _ z=>z.from g1
  | false=>exact cM (hb pins s1 σ H1 α1 δ L1 n δ' L' I1 A1 (S.mono g1) q) (fun _ _ z=>z.elim) fun _ _ z=>z.from g1
 ·cases q
theorem Ae4{sts:List Stmt}:Xn X sts xNo:=fun _ _ _ _ _ _ _ _ _ _ _ _ _ z=>nomatch z
end
section
variable {X:Cx}{e o:Expr}{es:List Expr}{p pos apos:Pos}{x m C:Str}{k n:Nat}{f fa Ca:Addr}{fd:bL}{ps:List Str}{F:XN}{g:FA}{fo:FE}
theorem Akm{pins:List (Addr×Obj)}{σ:L2.St}{H:Hp}{α:List Addr}{δ:UE}{L L':UH}{s:aJ}{us:List aE}{vs:List V}{ws:List U}{r:Nat}{Q:aE->aJ->Prop}(hF:FnX X.prog X.w X.K X.mg X.base k f fd ps F)(hr:Room k X.A)(hb:Binds X.K fd ps [])
  (I:L2.Inv X pins σ H s) (A:Abs X.K H α L) (S:RepS X.K H α δ σ) (rv:Vals vs us) (rl:RepL X.K H α ws vs) (hl:ws.length=ps.length) (q:F ws L=some (r,L')) :
  wpAny (model X.prog X.w) X.A (call (.ref f) us) Q (FXP X pins H α r δ L') s:=by
 have h1:us.length=ps.length:=by rw[<- rv.length,<- rl.length];exact hl
 have hbt:kJ s fd ⟨us,[]⟩ (ps.zip us):=by have:=hb s us I.kIn (by rw[aX];exact h1);rwa [aX] at this
 refine iJ (gZ (hF.run X.A X.stack s H ⟨us,[]⟩ us vs α L ws r L' hr I.env0 hbt rv A rl hl q) fun res s' hq=>?_)
 obtain ⟨ev,rfl,ea,Cx,dd,N,H',α',rfl,os,bare,un,hok,hN,fl,tr,me,g',A',at'⟩:=hq
 refine ⟨ea,Cx,dd,N,σ,H',α',rfl,⟨?_,.of I hN,fl,tr,me⟩,g',A',S.mono g',at'⟩
 exact I.call' os un hok bare fun b z=>absurd z (by simp)
noncomputable def Lg(C m:Str)(k:Nat)(F:XN)(fo:FE)(g:FA):XE:=fun δ L=>(fo δ L).bind fun p=>(Pg C p.1 p.2).bind fun r=>if r.2.lookup m=none then (g δ p.2).bind fun q=>if q.1.length+1=k then F (.ref r.1::q.1) q.2 else none else none
theorem Nf{pl:Sem Bool}(T:ClsF X.K C Ca)(hm:Meth X.K Ca m fa)(hF:FnX X.prog X.w X.K X.mg X.base k fa fd ps F)(hr:Room k X.A)(hb:Binds X.K fd ps [])(ho:PEF X o fo)(ha:PAF X (e::es) g)
  (hn:n=ps.length:=by rfl) (hx:∀ e s,X.xe e s->False:=by exact fun _ _ z=>z) (hst:bA (e::es) X.env=(false,eval e X.env)::bA es X.env:=by rfl) (hpl:(backTo pos (bA es X.env)).any (·.1)=false:=by rfl)
  (ht:eval (.Call (.Attribute o m apos) (e::es) [] pos) X.env=(do
   let ov <- eval o X.env
   standAt apos.atName
   let (f,first) <- holding [ov] (getMethod ov m pl)
   callWith pos f first (backTo pos (bA (e::es) X.env)) (backToKw pos (keywordEach [] X.env))):=by rfl) :
  PXE X (.Call (.Attribute o m apos) (e::es) [] pos) (Lg C m n F fo g):=by
 intro pins s σ H α δ L r L' I A S q
 obtain ⟨⟨u,L1⟩,q1,qa⟩:=aB.mp q
 obtain ⟨⟨j,fs⟩,q2,qb⟩:=aB.mp qa
 simp only at qb
 split at qb
 ·rename_i hno
  obtain ⟨⟨ws,L2⟩,q3,qc⟩:=aB.mp qb
  simp only at qc
  split at qc
  ·rename_i hl
   obtain ⟨rfl,hL⟩:=Nk q2
   refine fP (pl:=pl) (ho.go hx I A S q1 fun x0 v H1 α1 s1 I1 g1 A1 r1 rv1=>?_) ht
   obtain ⟨a,ea,Cb,dx,vs,hns,hav,hk,rr⟩:=A1.addr hL
   obtain ⟨a',ea',rfl⟩:=r1.ref_of A1
   rw[ea] at ea';cases ea'
   have:=T.eq hns
   subst this
   obtain rfl:x0=bN a:=rv1
   refine Mv I1 hav T.cl hm ((Hz hk rr).2 hno) ?_
   refine gQ (first:=[.ref a]) (h₀:=X.base) I.ok.mod.kin hm.kp (ha.go hx I1 A1 (S.mono g1) q3 fun us vs2 H2 α2 s2 I2 g2 A2 rl rv=>⟨I2.kIn,?_⟩) hst hpl
   refine cM (Akm (Q:=fun _ _=>False) (δ:=δ) (us:=.ref a::us) (vs:=.ref a::vs2) (ws:=.ref j::ws) hF hr hb I2 A2 ((S.mono g1).mono g2) (.cons rfl rv) (.cons ?_ rl) (by rw[aI];exact hl.trans hn) qc) (fun _ _ z=>z) fun _ _ z=>(z.from g2).from g1
   unfold RepU
   exact ⟨a,g2.at ea,rfl⟩
  ·cases qc
 ·cases qb
end
noncomputable def fnX(N m:Nat)(x:XS):XN:=fun us L=>if us.length=m then (x (us.map some++bE (N - us.length) none) L).map fun r=>(r.1,r.2.2) else none
section
variable {P:bP}{w:cE}{K:aC}{mg:Str->Option aE}{base:Heap}
theorem Fun.okX{x qual:Str}{st:Stmt}{f:Addr}{fd:bL}{N ps:List Str}{k:Nat}{body:XS}(F:Fun K x qual st f fd)(S:FnScope N ps (Aj st))
  (hbody:∀ (cdv:aE) (A:cG) (outer:List eD) (s:aJ) (H:Hp) (E:XK),Room k (A.deeper (envOfC qual (Aj st) s.heap.objs.size f cdv))->Xn (Uc CX0 P w K mg base N qual (Aj st) f cdv A outer s H E).nox (Aw st) body) :
  FnX P w K mg base (k+1) f fd ps (fnX N.length ps.length body):=by
 obtain ⟨oc,od,kV,doc,pm,an,cdv,ct,osl,rfl,lk,hcd⟩:=F.ex
 refine ⟨fun A outer s H args us vs α L ws n L' hr e0 hb rv Ab rl hl q=>?_⟩
 unfold fnX at q
 rw[if_pos hl] at q
 obtain ⟨⟨n1,δ1,L1⟩,qb,q2⟩:=aM.mp q
 cases q2
 have hvl:vs.length=ps.length:=by rw[<- rl.length];exact hl
 have KX:K.In s.heap:=e0.mod.kin.keeps fun b o e=>(e0.bs b o e).1
 have lim:s.heap.NoLimit:=e0.mod.nolimit.keeps fun b o e=>(e0.bs b o e).1
 have hkind:∀ y∈ps.zip us,(Aj st).names.lookup y.1=some .local\/((Aj st).names.lookup y.1=some .cell/\((cellsFrom (s.heap.objs.size+1) (Aj st).names []).lookup y.1).isSome=true):=fun ⟨y,v⟩ hy=>by
  rcases S.par y (iY hy).1 with z | z
  ·exact .inl z
  ·exact .inr ⟨z,hV _ _ _ (.inl z)⟩
 refine lV hr.depth (KX _ _ lk) rfl S.co S.gen rfl (mZ KX hcd) (hb _ _ _ _ ?_)
 refine jR S.kind hkind fun env he s1 xc=>?_
 subst he
 refine ⟨lim.keeps xc.toInCall.keep,codeAny_func ?_⟩
 have I:L2.Inv (Uc CX0 P w K mg base N qual (Aj st) f cdv A outer s H E0) [] (start N vs) H s1:=Sw S hr.hd e0 hvl rv xc
 refine cM (hbody cdv A outer s H E0 (hr.deeper _) [] s1 (start N vs) H α _ L n1 δ1 L1 (I.wish _) Ab (RepS.start N rl) qb) (fun _ _ z=>z.elim) fun e s' hs=>?_
 obtain ⟨ea,Ca,dd,Nn,σ',H',α',rfl,Fl,g',A',S',at'⟩:=hs
 refine Wz (mC e0.frames) rfl Fl.inv.stack Fl.fly fun h2 fl2 st2 fr2=>?_
 have J:=Fl.inv
 refine ⟨_,rfl,ea,Ca,dd,Nn,H',α',rfl,J.os,J.bare,?_,Y7 J.hok J.stkFree Fl.tr st2 Fl.me fl2.excIs,Fl.bd.s0,fl2,Fl.tr,Fl.me,g',A',at'⟩
 refine Un.stp (fs:=frs outer) J.base st2 (fun b o hb=>⟨aU (aR hb) Fl.bd.s0,fun nb m=>?_⟩) (fun b hb=>?_) (by rw[Fl.me];intro z;cases z)
 ·rcases cB.mp (J.stkSub b m) with z | z
  ·exact absurd (aR hb) (by rw[z];exact jY.mpr J.ok.above)
  ·exact nb z
 ·show b∈frs (_::outer)
  unfold frs
  rw[gF]
  exact bG _ hb
end
noncomputable def bmV:List aE:=[.type "ValueError",.type "Exception",.type "BaseException",.type "object"]
noncomputable def Af0(d:Data):Option ClassData:=match d with
 | .cls cd=>some cd
 | _=>none
theorem Ag3{d:Data}{cd:ClassData}(h:Af0 d=some cd):d = .cls cd:=by
 unfold Af0 at h
 split at h
 ·cases h;rfl
 ·cases h
noncomputable def Pt(K:aC)(C:Addr):Bool:=match K.lookup C with
 | some o=>(o.cls == .type "type" && (match Af0 o.data with | some cd=>!cd.hasDel&&(cd.mro.head? == some (.ref C)&&PySem.W.tailIn K bmV cd.mro.tail) | none=>false))&&(o.slots.toList.length == 6&&o.slots.toList[4]? == some (some (.builtin "ValueError.__new__")))
 | none=>false
theorem six{α:Type}{l:List α}{k:α}(h:l.length=6)(e:l[4]? = some k):∃ k0 k1 k2 k3 k5,l=[k0,k1,k2,k3,k,k5]:=by
 rcases l with _ | ⟨k0,l⟩
 ·cases h
 rcases l with _ | ⟨k1,l⟩
 ·cases h
 rcases l with _ | ⟨k2,l⟩
 ·cases h
 rcases l with _ | ⟨k3,l⟩
 ·cases h
 rcases l with _ | ⟨k4,l⟩
 ·cases h
 rcases l with _ | ⟨k5,l⟩
 ·cases h
 rcases l with _ | ⟨_,l⟩
 ·cases e;exact ⟨k0,k1,k2,k3,k5,rfl⟩
 ·cases h
theorem N5{K:aC}{h:Heap}{C:Addr}(X:K.In h)(q:Pt K C=true):∃ nm qn N bs bm hdct sn sub ab col dd k0 k1 k2 k3 k5,
  h.get? C=some (excClassObj nm qn C N bs bm hdct sn sub ab col dd k0 k1 k2 k3 k5 "ValueError.__new__")/\OwnTail h bmV bm:=by
 unfold Pt at q
 cases ho:K.lookup C with
 | none=>rw[ho] at q;cases q
 | some o=>
  rw[ho] at q
  obtain ⟨q1,q2⟩:=eX.mp q
  obtain ⟨q1,q3⟩:=eX.mp q1
  obtain ⟨q4,q5⟩:=eX.mp q2
  obtain ⟨cls,dd,dat,⟨l⟩⟩:=o
  obtain ⟨k0,k1,k2,k3,k5,e6⟩:=six (beq_iff_eq.mp q4) (beq_iff_eq.mp q5)
  obtain rfl:l=_:=e6
  obtain rfl:=beq_iff_eq.mp q1
  cases hd:Af0 dat with
  | none=>simp only[hd] at q3;cases q3
  | some cd=>
   simp only[hd] at q3
   obtain ⟨nm,bs,mro,ns,qn,hdt,sn,sub,ab,col,del⟩:=cd
   obtain rfl:=Ag3 hd
   obtain ⟨q6,q7⟩:=eX.mp q3
   obtain ⟨q7,ht⟩:=eX.mp q7
   cases mro with
   | nil=>cases beq_iff_eq.mp q7
   | cons D bm=>
    cases beq_iff_eq.mp q7
    cases del with
    | true=>cases q6
    | false=>exact ⟨nm,qn,ns,bs,bm,hdt,sn,sub,ab,col,dd,k0,k1,k2,k3,k5,X _ _ ho,PySem.W.tail_of_in X ht⟩
abbrev Ac0(rest:List aE):Obj:={ cls:=.type "tuple",data:=.seq rest.toArray }
abbrev X5(C t:Addr):Obj:={ cls:=.ref C,data:=.fields #[.ref t,.none,.none,.none,.bool false,.none] }
abbrev Jg(h:Heap)(C:Addr)(rest:List aE):Heap:=(h.push (Ac0 rest)).push (X5 C h.objs.size)
section
variable {prog:bP}{w:cE}{A:cG}{E:aE->aJ->Prop}{K:aC}{C f:Addr}{rest:List aE}
theorem exHeap_e{h:Heap}:(Jg h C rest).get? (h.objs.size+1)=some (X5 C h.objs.size):=by
 have:=aY (h.push (Ac0 rest)) (o:=X5 C h.objs.size) rfl
 rwa [dW] at this
theorem Wd{h:Heap}{b:Addr}{o:Obj}(q:h.get? b=some o):(Jg h C rest).get? b=some o:=aG _ (aG _ q)
theorem Acl{h:Heap}{g:Array kS}{d:Drawn}{t:Nat}{os:OsState}{Q:Fin->aJ->Prop}(X:K.In h)(q:Pt K C=true)(hf:aZ K (.ref C) "__init__" = some (some (.ref f)))(ht:mB K (.ref f)=some (.type "function"))(hl:rest.length<=sizeLine)
  (k:wpAny (model prog w) A (call (.ref f) (.ref (h.objs.size+1)::rest)) (fun r s'=>r = .none/\Q (.done (.ret (.ref (h.objs.size+1)))) s') E ⟨Jg h C rest,g,d,t,os⟩) :
  wpAny (model prog w) A (lJ.«type.__call__» ⟨.ref C::rest,[]⟩) Q E ⟨h,g,d,t,os⟩:=by
 obtain ⟨nm,qn,N,bs,bm,hdct,sn,sub,ab,col,dd,k0,k1,k2,k3,k5,hC,T⟩:=N5 X q
 have FV:ExcBaseFacts "ValueError" "ValueError.__new__" "ValueError.__init__" bmV:=jZ
 repeat (first | with_reducible refine fT hC ?_ | with_reducible refine wpAny_madeBy_exc hC ?_ | wp_step)
 refine codeAny_call_builtin_code (nE _ FV.quiet) (wpAny_check_new_subT FV T hC ?_)
 refine codeAny_exc_new_subT FV T hC ?_ hl
 show wpAny _ _ _ _ _ _
 have hC1:=aG { cls:=.ref C,data:=.fields #[.ref h.objs.size,.none,.none,.none,.bool false,.none] } (aG { cls:=.type "tuple",data:=.seq rest.toArray } hC)
 have X1:K.In (Jg h C rest):=X.keeps fun b o e=>Wd e
 have hget:((h.push { cls:=.type "tuple",data:=.seq rest.toArray }).push { cls:=.ref C,data:=.fields #[.ref h.objs.size,.none,.none,.none,.bool false,.none] }).get? (h.objs.size+1)=some { cls:=.ref C,data:=.fields #[.ref h.objs.size,.none,.none,.none,.bool false,.none] }:=exHeap_e
 have hcC:(bN C::bm).contains (.ref C)=true:=by simp
 unfold isInstance
 repeat (first | with_reducible refine fT hget ?_ | (with_reducible refine mQ hC1 ?_;rw[hcC]) | wp_step)
 show wpAny _ _ (typeLookup (.ref C) _) _ _ _
 refine dP (s:=⟨Jg h C rest,g,d,t,os⟩) (fU X1 hf) ?_
 refine dA (aF ?_)
 unfold bindSpecial
 refine aF (dP (s:=⟨Jg h C rest,g,d,t,os⟩) (PySem.W.looks_typeIn X1 ht) ?_)
 rw[if_pos (by decide)]
 refine aT (aF (cM k (fun r s' hr=>?_) fun _ _ x=>x))
 obtain ⟨rfl,hQ⟩:=hr
 wp_walk
 exact hQ
theorem Aec{s:aJ}{Q:aE->aJ->Prop}(X:K.In s.heap)(q:Pt K C=true)(hf:aZ K (.ref C) "__init__" = some (some (.ref f)))(ht:mB K (.ref f)=some (.type "function"))(hl:rest.length<=sizeLine)
  (k:wpAny (model prog w) (A.under (.builtin "type.__call__" ⟨.ref C::rest,[]⟩)) (call (.ref f) (.ref (s.heap.objs.size+1)::rest)) (fun r s'=>r = .none/\Q (.ref (s.heap.objs.size+1)) s') E { s with heap:=Jg s.heap C rest }) :
  wpAny (model prog w) A (call (.ref C) rest) Q E s:=by
 obtain ⟨h,g,d,t,os⟩:=s
 obtain ⟨nm,qn,N,bs,bm,hdct,sn,sub,ab,col,dd,k0,k1,k2,k3,k5,hC,T⟩:=N5 X q
 have x1:=tc_lookup
 have x2:=tc_bind (.ref C)
 have hT:(⟨h,g,d,t,os⟩:aJ).TypeIs (.ref C) "type" := ⟨_,hC,rfl⟩
 refine iJ (codeAny_of_tree ?_)
 show wpAny _ _ (callAny (.ref C) _) _ _ _
 repeat (any_goals (first | assumption | with_reducible refine fT hC ?_ | wp_step))
 refine ⟨rfl,?_⟩
 exact codeAny_call_builtin_at (nE _ (by decide +kernel)) entry_typeCall (wpAny_check_type_call_sub hC (Acl X q hf ht hl k))
end
theorem Nt{P:bP}{w:cE}{H:Hp}{h:Heap}{e Ca:Addr}{dd:Option Addr}{fr:Bool}(x:Ct e Ca dd fr h):ObjOk P w H h e (.ext (Ct e Ca dd fr)):=by
 obtain ⟨o,vs,h1,r⟩:=id x
 exact ⟨x,⟨o,h1⟩,fun h1 h2 ⟨o1,ws,q1,r1⟩ k=>⟨o1,ws,k _ q1,r1⟩⟩
structure MkX(K:aC)(C f:Addr):Prop where
 ex:Pt K C=true
 init:aZ K (.ref C) "__init__" = some (some (.ref f))
 fn:cT K (.ref f)=true
 kp:aV K (.ref C)=true
noncomputable def Alb(Ca:Addr)(sp:Sp)(t:TA):TE:=fun σ H Q=>t σ H fun vs H1=>vs.length<=sizeLine/\∀ x,H1 x=none->sp (.ref x::vs) (upd H1 x (.ext (Ct x Ca none true))) (fun v H2=>v = .non/\Q (.ref x) H2) E0
section
variable {X:Cx}{k n:Nat}{f Ca:Addr}{fd:bL}{ps:List Str}{sp:Sp}{C x:Str}{p pos apos:Pos}{e:Expr}{es:List Expr}{t:TA}
theorem Acf{pins:List (Addr×Obj)}{σ:L2.St}{H:Hp}{s:aJ}{Q:VK}{us:List aE}{vs:List V}(M:MkX X.K Ca f)(F:FnOk X.prog X.w X.K X.mg X.base CX0 k f fd ps sp)(hr:Room (k+1) X.A)(hb:Binds X.K fd ps [])
  (I:L2.Inv X pins σ H s) (r:Vals vs us) (hz:vs.length<=sizeLine) (h:∀ x,H x=none->sp (.ref x::vs) (upd H x (.ext (Ct x Ca none true))) (fun v H2=>v = .non/\Q (.ref x) H2) E0) :
  wpAny (model X.prog X.w) X.A (call (.ref Ca) us) (EP X pins σ Q) X.xe s:=by
 have hq:=h (s.heap.objs.size+1) (I.hok.fresh (iP _))
 have x0:Ct (s.heap.objs.size+1) Ca none true (Jg s.heap Ca us):=⟨_,_,exHeap_e,rfl,rfl,rfl,by simp,rfl,fun _=>rfl⟩
 have I2:L2.Inv X pins σ (upd H (s.heap.objs.size+1) (.ext (Ct (s.heap.objs.size+1) Ca none true))) { s with heap:=Jg s.heap Ca us,toks:=s.toks }:=I.laid (fun b u q=>Wd q) (iP _) (Nt x0)
 have r2:Vals (V.ref (s.heap.objs.size+1)::vs) (bN (s.heap.objs.size+1)::us):=.cons rfl r
 have hl:(bN (s.heap.objs.size+1)::us++[]).length=ps.length:=by rw[aX,<- r2.length];exact F.len _ _ _ _ hq
 have hbt:=hb { s with heap:=Jg s.heap Ca us,toks:=s.toks } (bN (s.heap.objs.size+1)::us) I2.kIn hl
 rw[aX] at hbt
 refine Aec (f:=f) I.kIn M.ex M.init (beq_iff_eq.mp M.fn) (by rw[<- r.length];exact hz) ?_
 refine iJ (gZ (F.run _ X.stack _ _ ⟨_,[]⟩ _ _ _ E0 (hr.make Ca us []) (I2.env0.make Ca us []) hbt r2 hq) fun r s' hq'=>?_)
 cases r with
 | error e=>exact dF hq'
 | ok fl=>
  cases fl with
  | ret u=>
   obtain ⟨v,H',I3,rv,ev,q3⟩:=I2.after hq'
   subst ev
   exact ⟨rv,⟨V.ref (s.heap.objs.size+1),H',I3,rfl,q3⟩⟩
  | next=>exact dF hq'
  | brk=>exact dF hq'
  | cont=>exact dF hq'
theorem Adn(M:MkX X.K Ca f)(F:FnOk X.prog X.w X.K X.mg X.base CX0 k f fd ps sp)(hr:Room (k+1) X.A)(hg:Gl X x)(hm:X.mg x=some (.ref Ca))(hb:Binds X.K fd ps [])
  (ha:PA X (e::es) t) (hdb:(x == ("__debug__" : Str))=false:=by decide) (he:bA (e::es) X.env=(false,eval e X.env)::bA es X.env:=by rfl) (hpl:(backTo pos (bA es X.env)).any (·.1)=false:=by rfl) :
  PE X (.Call (.Name x p) (e::es) [] pos) (Alb Ca sp t):=by
 intro pins s σ H Q I h
 refine eM (Og I hg hm ?_ hdb)
 refine gQ (h₀:=X.base) I.ok.mod.kin M.kp (thn (ha pos pins s σ H _ I h) fun us s1 zz=>zz.elim fun vs H1 I1 r zq=>⟨I1.kIn,?_⟩) he hpl
 obtain ⟨z,q⟩:=zq
 exact Acf M F hr hb I1 r z q
noncomputable def Na(C:Str)(k:Nat)(F:FN)(g:FA):FE:=fun δ L=>(g δ L).bind fun p=>if p.1.length+1=k/\p.1.length<=100 then (F (.ref p.2.length::p.1) (p.2++[.exc C true []])).bind fun q=>match q.1 with | .non=>some (.ref p.2.length,q.2) | _=>none else none
theorem Wa{F:FN}{g:FA}(hns:aS X.K aP C=some (some (.ref Ca)))(M:MkX X.K Ca f)(hF:FnOk X.prog X.w X.K X.mg X.base CX0 k f fd ps (spF X.K n F))(hr:Room (k+1) X.A)(hg:Gl X C)(hm:X.mg C=some (.ref Ca))(hb:Binds X.K fd ps [])
  (ha:PAF X (e::es) g) (hdb:(C == ("__debug__" : Str))=false:=by decide) (he:bA (e::es) X.env=(false,eval e X.env)::bA es X.env:=by rfl) (hpl:(backTo pos (bA es X.env)).any (·.1)=false:=by rfl) :
  PEF X (.Call (.Name C p) (e::es) [] pos) (Na C n F g):=by
 refine PE.imp (Adn M hF hr hg hm hb ha hdb he hpl) ?_
 rintro σ H Q ⟨α,δ,L,A,S,z,L3,ee,q⟩
 obtain ⟨⟨us,L1⟩,e1,ee⟩:=aB.mp ee
 simp only at ee
 split at ee
 ·rename_i hlen
  obtain ⟨⟨w,L2⟩,e2,ee⟩:=aB.mp ee
  cases w with
  | non=>
   cases ee
   refine ⟨α,δ,L,A,S,us,L1,e1,fun xs H1 α1 g1 A1 r1=>⟨?_,fun x nx=>?_⟩⟩
   ·rw[<- r1.length];exact lC (Ab6 (by omega))
   obtain ⟨Ab,gb⟩:=A1.new (o:=.ext (Ct x Ca none true)) (u:=.exc C true []) nx ⟨Ca,none,[],hns,upd_same,rfl,rfl,.nil⟩
   have rx:RepU X.K (upd H1 x (.ext (Ct x Ca none true))) (α1++[x]) (.ref L1.length) (.ref x):=by
    unfold RepU
    exact ⟨x,by rw[<- A1.len];simp,rfl⟩
   refine ⟨α1++[x],L1++[.exc C true []],.ref L1.length::us,Ab,.cons rx (r1.mono gb),by simpa using hlen.1,.non,L2,e2,fun v H3 α3 g3 A3 r3=>?_⟩
   have hv:v = .non:=by unfold RepU at r3;exact r3
   exact ⟨hv,q _ H3 α3 (g1.trans (gb.trans g3)) A3 (rx.mono g3)⟩
  | _=>cases ee
 ·cases ee
end
noncomputable def Aep(K:aC)(B:Addr):Bool:=match oW K (.ref B) (.type "type") "__init__" with
 | some (.val (.builtin id))=>id == "ValueError.__init__"
 | _=>false
structure BInit(K:aC)(B:Addr):Prop where
 sp:eV K (.ref B) "__getattribute__" = some (some (.builtin "type.__getattribute__"))
 rd:oX K B (.type "type")=true
 fd:Aep K B=true
theorem BInit.found{K:aC}{B:Addr}(b:BInit K B):oW K (.ref B) (.type "type") "__init__" = some (.val (.builtin "ValueError.__init__")):=by
 have h:=b.fd
 unfold Aep at h
 split at h
 ·rename_i id q
  rw[q,beq_iff_eq.mp h]
 ·cases h
noncomputable def Akk(K:aC)(t:TA):TE:=fun σ H Q=>t σ H fun vs H1=>∃ a Ca dd fr y,vs=[.ref a,y]/\H1 a=some (.ext (Ct a Ca dd fr))/\Pt K Ca=true/\Q .non H1
section
variable {X:Cx}{B:Addr}{x:Str}{p pos apos:Pos}{a b:Expr}{t:TA}
theorem W3{pins:List (Addr×Obj)}{σ:L2.St}{H:Hp}{s:aJ}{Q:VK}{ea Ca:Addr}{dd:Option Addr}{fr:Bool}{v:aE}(I:L2.Inv X pins σ H s)(he:H ea=some (.ext (Ct ea Ca dd fr)))(hc:Pt X.K Ca=true)(q:Q .non H) :
  wpAny (model X.prog X.w) X.A (call (.builtin "ValueError.__init__") [.ref ea,v]) (EP X pins σ Q) X.xe s:=by
 have x:=(I.hok ea _ he).1
 obtain ⟨o,vs,h1,h2,h3,h4,h5,h6,h7⟩:=id x
 obtain ⟨nm,qn,N,bs,bm,hdct,sn,sub,ab,col,dd',k0,k1,k2,k3,k5,hC,T⟩:=N5 I.kIn hc
 have FV:ExcBaseFacts "ValueError" "ValueError.__new__" "ValueError.__init__" bmV:=jZ
 obtain ⟨h,g,d,tk,os⟩:=s
 refine iJ (iU FV.init.plain FV.initEntry (wpAny_check_init_subT FV T hC h1 h2 ?_))
 unfold lJ.«BaseException.__init__»
 dsimp only
 obtain ⟨v0,hv0⟩:∃ v0,vs[0]? = some v0:=⟨vs[0],kA (by omega)⟩
 unfold newTuple lJ.BaseException.bexcPut
 rw[if_neg (by decide)]
 refine aF (cR ?_ (by show (1:Nat)<=sizeLine;decide))
 have e2:(h.push { cls:=.type "tuple",data:=.seq #[v] }).get? ea=some o:=aG _ h1
 have fin:∀ s':aJ,s'=⟨(h.push { cls:=.type "tuple",data:=.seq #[v] }).update ea (dS (·.setIfInBounds 0 (bN h.objs.size))),g,d,tk,os⟩->EP X pins σ Q .none s':=fun s' hs=>by
  subst hs
  have hd3:=cZ h4 (·.setIfInBounds 0 (bN h.objs.size))
  have e3:=cY (dS (·.setIfInBounds 0 (bN h.objs.size))) e2 (dJ hd3)
  refine ⟨.non,H,?_,rfl,q⟩
  have hupd:upd H ea (.ext (Ct ea Ca dd fr))=H:=by
   funext b
   unfold upd
   split
   ·rename_i hb;rw[hb,he]
   ·rfl
  have J:=I.write (h':=(h.push { cls:=.type "tuple",data:=.seq #[v] }).update ea (dS (·.setIfInBounds 0 (bN h.objs.size)))) (x:=ea) (e:=ea) (o:=.ext (Ct ea Ca dd fr)) (t':=tk) (by rw[he];exact eY) (.inl rfl) (fun b u hb z=>by
   rw[cH _ _ (cS hb)]
   exact aG _ z) ⟨_,e3⟩ (Nt (by obtain ⟨o2,g1,g2,g3,g4,g5,g6⟩:=V9 h4 ⟨⟨h2,h3⟩,h5,h6⟩ e3;exact ⟨o2,_,g1,g2,g3,g4,g5,g6,fun z=>by rw[Array.getElem?_setIfInBounds_ne (by decide)];exact h7 z⟩))
  rw[hupd] at J
  exact J
 refine aF (aF (cJ e2 h4 hv0 (aF (fW e2 h4 (by omega) ?_))))
 cases v0 with
 | ref a0=>exact mE (aT (fin _ rfl))
 | _=>exact aT (aT (fin _ rfl))
theorem Ae9{pl:Sem Bool}(Bi:BInit X.K B)(hg:Gl X x)(hm:X.mg x=some (.ref B))(ha:PA X [a,b] t)(hdb:(x == ("__debug__" : Str))=false:=by decide)
  (hst:bA [a,b] X.env=(false,eval a X.env)::bA [b] X.env:=by rfl) (hpl:(backTo pos (bA [b] X.env)).any (·.1)=false:=by rfl)
  (ht:eval (.Call (.Attribute (.Name x p) "__init__" apos) [a,b] [] pos) X.env=(do
   let ov <- eval (.Name x p) X.env
   standAt apos.atName
   let (f,first) <- holding [ov] (getMethod ov "__init__" pl)
   callWith pos f first (backTo pos (bA [a,b] X.env)) (backToKw pos (keywordEach [] X.env))):=by rfl) :
  PE X (.Call (.Attribute (.Name x p) "__init__" apos) [a,b] [] pos) (Akk X.K t):=by
 intro pins s σ H Q I h
 refine fP (pl:=pl) (Og I hg hm ?_ hdb) ht
 refine PySem.W.method_cls I.kIn Bi.sp (PySem.W.cls_value I.kIn Bi.rd Bi.found (by decide +kernel) ?_)
 have I1:=I.tok (s.toks+1)
 have hA:=ha pos pins { s with toks:=s.toks+1 } σ H _ I1 h
 rw[hst] at hA ⊢
 refine dX (by show (false || (backTo pos (bA [b] X.env)).any (·.1))=false;rw[hpl] <;> rfl) (iQ ?_)
 refine thn hA fun us s2 zz=>zz.elim fun vs H2 I2 r2 zq=>?_
 obtain ⟨ea,Ca,dd,fr,y,hv,he,hc,q2⟩:=zq
 subst hv
 obtain ⟨u1,u2,rfl,ru1,ru2⟩:=r2.two
 obtain rfl:u1=bN ea:=ru1
 exact W3 I2 he hc q2
noncomputable def AllX(K:aC)(Cs:List Str):Prop:=∀ C∈Cs,∀ Ca,aS K aP C=some (some (.ref Ca))->Pt K Ca=true
noncomputable def Oa(Cs:List Str)(g:FA):FE:=fun δ L=>(g δ L).bind fun p=>match p.1 with
 | [.ref n,_]=>match p.2[n]? with
  | some (.exc C _ _)=>if C∈Cs then some (.non,p.2) else none
  | _=>none
 | _=>none
theorem Adw{pl:Sem Bool}{Cs:List Str}{g:FA}(hC:AllX X.K Cs)(Bi:BInit X.K B)(hg:Gl X x)(hm:X.mg x=some (.ref B))(ha:PAF X [a,b] g)(hdb:(x == ("__debug__" : Str))=false:=by decide)
  (hst:bA [a,b] X.env=(false,eval a X.env)::bA [b] X.env:=by rfl) (hpl:(backTo pos (bA [b] X.env)).any (·.1)=false:=by rfl)
  (ht:eval (.Call (.Attribute (.Name x p) "__init__" apos) [a,b] [] pos) X.env=(do
   let ov <- eval (.Name x p) X.env
   standAt apos.atName
   let (f,first) <- holding [ov] (getMethod ov "__init__" pl)
   callWith pos f first (backTo pos (bA [a,b] X.env)) (backToKw pos (keywordEach [] X.env))):=by rfl) :
  PEF X (.Call (.Attribute (.Name x p) "__init__" apos) [a,b] [] pos) (Oa Cs g):=by
 refine PE.imp (Ae9 (pl:=pl) Bi hg hm ha hdb hst hpl ht) ?_
 rintro σ H Q ⟨α,δ,L,A,S,z,L3,ee,q⟩
 obtain ⟨⟨us,L1⟩,e1,ee⟩:=aB.mp ee
 refine ⟨α,δ,L,A,S,us,L1,e1,fun xs H1 α1 g1 A1 r1=>?_⟩
 simp only at ee
 split at ee
 ·rename_i n w
  split at ee
  ·rename_i C fr fs hL
   split at ee
   ·rename_i hin
    cases ee
    obtain ⟨x1,x2,rfl,rx1,rx2⟩:=r1.two
    obtain ⟨a,ea,Ca,dd,vs,hns,ha,_⟩:=A1.addr hL
    obtain ⟨a',ea',rfl⟩:=rx1.ref_of A1
    rw[ea] at ea';cases ea'
    exact ⟨a,Ca,dd,fr,x2,rfl,ha,hC C hin Ca hns,q _ H1 α1 g1 A1 rfl⟩
   ·cases ee
  ·cases ee
 ·cases ee
end
theorem Aeo{M:pB}{A:cG}{E:aE->aJ->Prop}{s:aJ}{env:eD}{K:aC}{x:Sem aE}{Q:Flow->aJ->Prop}{Ca ea:Addr}(hh:A.handled=none)
  (h:wpAny M A x (fun v s1=>∃ ea Ca dd,v = .ref ea/\K.In s1.heap/\Pt K Ca=true/\Ct ea Ca dd true s1.heap/\E (.ref ea) s1) E s):wpAny M A (raiseStmt env (some x) none) Q E s:=by
 unfold raiseStmt
 refine aF (cM h (fun v s1 h1=>?_) fun _ _ z=>z)
 obtain ⟨ea,Ca,dd,rfl,X,hc,⟨o,vs,h1,h2,h3,h4,h5,h6,h7⟩,hE⟩:=h1
 obtain ⟨cl,di,da,sl⟩:=o
 dsimp only at h2 h3 h4 h6
 subst h2 h3 h4 h6
 obtain ⟨nm,qn,N,bs,bm,hdct,sn,sub,ab,col,dd',k0,k1,k2,k3,k5,hC,T⟩:=N5 X hc
 have hb:(bN Ca::bm).contains (.type "BaseException")=true:=by rw[List.contains_cons,T.hasType jZ.hasBase,Bool.or_true]
 obtain ⟨hp,g,d,tk,os⟩:=s1
 have h8:=h7 rfl
 repeat (first | with_reducible refine fT h1 ?_ | with_reducible refine fT hC ?_ | (with_reducible refine mQ hC ?_;rw[hb]) | with_reducible refine cJ h1 rfl h8 ?_ | wp_step)
 exact wpAny_raiseNew_none hh hE
noncomputable def Oz(Cs:List Str)(fe:FE):XS:=fun δ L=>(fe δ L).bind fun p=>match p.1 with
 | .ref n=>match p.2[n]? with
  | some (.exc C true fs)=>if C∈Cs then some (n,δ,p.2.set n (.exc C false fs)) else none
  | _=>none
 | _=>none
section
variable {X:Cx}{e:Expr}{pos:Pos}{fe:FE}{Cs:List Str}
theorem Vv(hA:AllX X.K Cs)(he:PEF X e fe)(hc:X.calm=true:=by rfl)(hx:∀ e s,X.xe e s->False:=by exact fun _ _ z=>z):PXS X (.Raise (some e) none pos) (Oz Cs fe):=by
 intro pins s σ H α δ L n δ' L' I A S q
 obtain ⟨⟨u,L1⟩,q1,q2⟩:=aB.mp q
 simp only at q2
 split at q2
 ·rename_i m
  split at q2
  ·rename_i C fs hL
   split at q2
   ·rename_i hin
    cases q2
    rw[arm_exec_Raise]
    show wpAny _ _ (do standAt pos;raiseStmt X.env (some (do let v <- eval e X.env;standAt pos;pure v)) none) _ _ _
    refine aF (gI (Aeo (K:=X.K) (Ca:=0) (ea:=0) (I.ok.hd hc) (aF (he.go hx I A S q1 fun x v H1 α1 s1 I1 g1 A1 r1 rv=>aF (gI (aT ?_))))))
    obtain ⟨a,ea,Ca,dd,vs,hns,ha,hd,hk,rr⟩:=A1.addr hL
    obtain ⟨a',ea',rfl⟩:=r1.ref_of A1
    rw[ea] at ea';cases ea'
    obtain rfl:x=bN a:=rv
    have hex:=(I1.hok a _ ha).1
    refine ⟨a,Ca,dd,rfl,I1.kIn,hA C hin Ca hns,hex,?_⟩
    obtain ⟨o,ws,h1,h2,h3,h4,h5,h6,h7⟩:=id hex
    have hxf:Ct a Ca dd false s1.heap:=⟨o,ws,h1,h2,h3,h4,h5,h6,fun z=>nomatch z⟩
    have g2:Gr H1 α1 (upd H1 a (.ext (Ct a Ca dd false))) α1:=⟨⟨[],by simp⟩,.write ha (by exact trivial) _⟩
    obtain ⟨A2,_⟩:=A1.put (o:=.ext (Ct a Ca dd false)) (u:=.exc C false fs) ea hL rfl rfl ha (by exact trivial) ⟨Ca,dd,vs,hns,upd_same,hd.stay (fun b o ws q=>g2.st.2 b o _ q),hk,rr.mono g2⟩
    have I2:=I1.write (h':=s1.heap) (t':=s1.toks) (x:=a) (e:=a) (o:=.ext (Ct a Ca dd false)) (by rw[ha];exact eY) (.inl rfl) (fun b u _ z=>z) ⟨_,h1⟩ (Nt hxf)
    refine ⟨a,Ca,dd,s1.heap.objs.size,σ,_,α1,rfl,⟨I2,.of I1 (bD _),⟨bD _,.inl ⟨ws,⟨o,h1,h2,h3,h4,h5,h6⟩,h7 rfl⟩⟩,fun b o2 hb=>I2.hok.lt hb,upd_same⟩,g1.trans g2,A2,(S.mono g1).mono g2,ea⟩
   ·cases q2
  ·cases q2
 ·cases q2
end
abbrev hld(X:Cx)(e:Addr):Cx:={ X with A:=X.A.mark (some (.ref e)),calm:=false }
theorem Ok.hld{X:Cx}(ok:X.Ok)(e:Addr):(hld X e).Ok:=
 ⟨ok.mod,ok.kind,ok.glob,ok.blt,ok.above,ok.inj,ok.has,ok.cab,(fun z=>(nomatch z)),ok.frames,ok.stk,ok.exf,ok.bs,ok.bsz,ok.noex,ok.exfs,ok.funs,ok.frf⟩
theorem Inv.hld{X:Cx}{pins:List (Addr×Obj)}{σ:L2.St}{H:Hp}{s:aJ}(I:L2.Inv X pins σ H s)(e:Addr):L2.Inv (hld X e) pins σ H s:=⟨Ok.hld I.ok e,I.os,I.bare,I.base,I.loc,I.cell,I.free,I.freeC,I.pin,I.hok,I.len⟩
theorem Inv.unhld{X:Cx}{pins:List (Addr×Obj)}{σ:L2.St}{H:Hp}{s:aJ}{e:Addr}(ok:X.Ok)(I:L2.Inv (MR.hld X e) pins σ H s):L2.Inv X pins σ H s:=⟨ok,I.os,I.bare,I.base,I.loc,I.cell,I.free,I.freeC,I.pin,I.hok,I.len⟩
theorem Agn{X:Cx}{pins:List (Addr×Obj)}{σ:L2.St}{H:Hp}{s:aJ}{M:pB}{A:cG}{E:aE->aJ->Prop}{i:Nat}{n:Str}{pos:Pos}{Q:Unit->aJ->Prop}(I:L2.Inv X pins σ H s)(hN:X.N.Nodup)(hi:X.N[i]? = some n)(hl:X.env.kindOf n=some .local)
  (q:∀ s',L2.Inv X pins (σ.set i none) H s'->Q () s'):wpAny M A (do bindName X.env n .none;unbindBehindTheSuite X.env n pos) Q E s:=by
 obtain ⟨m,hn,hloc⟩:=id I.loc
 have hcls:(X.env.scope.kind == .class || (X.env.scope.kind == .module&&X.env.locals != X.env.globals))=false:=by rw[I.ok.kind];rfl
 obtain ⟨oL,_,_,hoL,_⟩:=id hn
 refine wpAny_nameGoes_keeps hl hn hcls fun h' v hn' hs=>q _ ?_
 have far:∀ b o,X.s₀.heap.get? b=some o->b≠X.env.locals:=fun b o e=>bV (aU (aR e) I.ok.above)
 refine ⟨I.ok,I.os,I.bare,⟨fun b o e n hb hx=>(hs.2 b (far b o e)).trans (I.base.keep b o e n hb hx),fun b o e n hb hx=>?_,I.base.free,fun b o e hx=>?_,I.base.tups,I.base.frzs,I.base.tbls⟩,⟨_,hn',fun j y w e1 e2 e3=>?_⟩,fun y c e=>?_,I.free,I.freeC,fun p hp=>?_,fun b ob e=>?_,by simpa using I.len⟩
 ·obtain ⟨sl,e1⟩:=I.base.slot b o e n hb hx
  exact ⟨sl,(hs.2 b (far b o e)).trans e1⟩
 ·obtain ⟨o',e1⟩:=I.base.there b o e hx
  exact ⟨o',(hs.2 b (far b o e)).trans e1⟩
 ·have hj:j≠i:=by
   rintro rfl
   by_cases hz:j < σ.length
   ·rw[bU hz] at e2;cases e2
   ·rw[dI (by simpa using hz)] at e2;cases e2
  rw[bI (cS hj)] at e2
  obtain ⟨u,r,l⟩:=hloc j y w e1 e2 e3
  refine ⟨u,r,?_⟩
  rcases l with ⟨k,e⟩ | ⟨k,c,e,z⟩
  ·refine .inl ⟨k,?_⟩
   have:y≠n:=fun e=>hj (Qi hN e1 (e ▸ hi))
   simp[this,e]
  ·exact .inr ⟨k,c,e,z.sameBut hs (I.cne y c e)⟩
 ·obtain ⟨w,z⟩:=I.cell y c e
  exact ⟨w,z.sameBut hs (I.cne y c e)⟩
 ·obtain ⟨e,n,ne,nf,d⟩:=I.pin p hp
  exact ⟨(hs.2 p.1 ne).trans e,n,ne,nf,d⟩
 ·refine (I.hok b ob e).stay (fun c w hc z=>(hs.2 c ?_).trans z) (fun _ z=>z) fun _ _ z=>z
  rintro rfl
  rcases hc with hc | hc
  ·rw[<- hc,I.free] at e;cases e
  ·rw[I.free] at hc;cases hc
theorem RepS.unset{K:aC}{H:Hp}{α:List Addr}{δ:UE}{σ:L2.St}(h:RepS K H α δ σ)(i:Nat):RepS K H α (δ.set i none) (σ.set i none):=
 ⟨by simp[h.len],fun j w e=>by
  by_cases hj:i=j
  ·subst hj
   by_cases hi:i < δ.length
   ·rw[bU hi] at e;cases e
   ·rw[dI (by simpa using hi)] at e;cases e
  ·rw[bI hj] at e
   obtain ⟨v',q,r'⟩:=h.at_ j w e
   exact ⟨v',by rw[bI hj];exact q,r'⟩⟩
theorem Xo{M:pB}{A:cG}{E:aE->aJ->Prop}{s:aJ}{base:Heap}{N:Nat}{l:List eD}{e Ca:Addr}{dd:Option Addr}{Q:Unit->aJ->Prop}(fr:s.heap.FunFrames base l)(F:Fly N e Ca dd s.heap)
  (hQ:∀ h',Fly N e Ca dd h'->Stp N (frs l) e s.heap h'->h'.FunFrames base l->Q () { s with heap:=h' }):wpAny M A (setFlight (.ref e) none) Q E s:=by
 rcases F.2 with ⟨vs,hx,h1⟩ | ⟨fl,T⟩
 ·obtain ⟨oe,he,hc,hdd,hd,hsz,hsl⟩:=id hx
  unfold setFlight
  refine aF (cJ he hd h1 ?_)
  rw[if_neg (by decide)]
  exact aT (hQ s.heap F ⟨fun _ _ _ _ _ z=>z,fun b o _ z=>⟨o.slots,z⟩,fun b o z=>⟨o,z⟩,bD _⟩ fr)
 ·exact Pm fr T fun h2 F2 u2 fr2=>hQ h2 ⟨cC F.1 u2.sz,.inr ⟨_,F2⟩⟩ u2 fr2
noncomputable def AllM(K:aC)(Cs:List Str)(D:Addr):Prop:=∀ C∈Cs,∀ Ca,aS K aP C=some (some (.ref Ca))->mF K (.ref Ca) (.ref D)=some true
noncomputable def Abt(b:FS)(x:XS)(Cs:List Str)(i:Nat)(suite:FS):FS:=fun δ L=>match x δ L with
 | some (n,δ1,L1)=>match L1[n]? with
  | some (.exc C _ _)=>if C∈Cs then (suite (δ1.set i (some (.ref n))) L1).bind fun p=>match p.1 with
    | .nx δ2=>some (.nx (δ2.set i none),p.2)
    | _=>none
   else none
  | _=>none
 | none=>b δ L
section
variable {X:Cx}{body suite:List Stmt}{b0:Stmt}{x n:Str}{np hpos pos:Pos}{D:Addr}{Cs:List Str}{fb fs:FS}{xb:XS}{i:Nat}
theorem Ags(hM:AllM X.K Cs D)(hN:X.N.Nodup)(hb:Rz X body fb)(hx:Xn X body xb)(hs:∀ e,Rz (hld X e) (b0::suite) fs)(hg:Gl X x)(hm:X.mg x=some (.ref D))
  (hi:X.N[i]? = some n:=by rfl) (hl:X.env.kindOf n=some .local:=by rfl) (hxe:∀ e s,X.xe e s->False:=by exact fun _ _ z=>z) (hst:X.stack=X.env::X.outer:=by rfl) (hfr:X.env.frame=some X.env.locals:=by rfl)
  (hdb:(x == ("__debug__" : Str))=false:=by decide):PSF X (.Try body [.ExceptHandler (some (.Name x np)) (some n) (b0::suite) hpos] [] [] pos) (Abt fb xb Cs i fs):=by
 intro pins s σ H E I h
 obtain ⟨α,δ,L,A,S,fl,L',ee,q⟩:=h
 refine wpAny_Try_except ?_
 unfold Abt at ee
 cases q1:xb δ L with
 | none=>
  rw[q1] at ee
  refine cM (hb pins s σ H E I ⟨α,δ,L,A,S,fl,L',ee,q⟩) (fun f s1 h1=>?_) fun _ _ z=>(hxe _ _ z).elim
  cases f with
  | next=>exact iW h1
  | ret v=>exact h1
  | brk=>exact h1
  | cont=>exact h1
 | some r=>
  obtain ⟨k,δ1,L1⟩:=r
  rw[q1] at ee
  simp only at ee
  split at ee
  ·rename_i C fr0 fs0 hL
   split at ee
   ·rename_i hin
    obtain ⟨⟨fl2,L2⟩,e2,e3⟩:=aB.mp ee
    cases fl2 with
    | nx δ2=>
     cases e3
     refine cM (hx pins s σ H α δ L k δ1 L1 I A S q1) (fun _ _ z=>z.elim) fun ev s1 hf=>?_
     obtain ⟨ea,Ca,dd,N,σ1,H1,α1,rfl,Fl,g1,A1,S1,at1⟩:=hf
     have hfrm:X.A.frames=some (X.env::X.outer):=by rw[<- hst];exact Fl.inv.ok.frames
     have hstk:s1.heap.FunFrames X.base (X.env::X.outer):=by rw[<- hst];exact Fl.inv.stack
     refine Y6 hfrm hfr hstk Fl.fly fun h2 F2 u2 fr2=>?_
     have Fl2:=Fl.step (h':=h2) (by rw[hst];exact u2) F2
     have J2:=Inv.hld Fl2.inv ea
     obtain ⟨ox,vx,y1,y2,_⟩:=id F2.excIs
     obtain ⟨a,ea',Cb,dd',vs,hns,hav,_⟩:=A1.addr hL
     rw[at1] at ea';cases ea'
     have hCa:Cb=Ca:=by
      have hh:=Fl.me
      rw[hav] at hh
      have:=(Fl2.inv.hok ea _ hav).1
      obtain ⟨o3,_,z1,z2,_⟩:=this
      rw[y1] at z1;cases z1
      rw[y2] at z2;cases z2;rfl
     subst hCa
     have LT:mW (model X.prog X.w) h2 (typeOf (.ref ea)) (.ref Cb):=by
      have z:mW (model X.prog X.w) h2 (typeOf (.ref ea)) ox.cls:=(mW.ld y1).andThen .now
      rw[y2] at z
      exact z
     refine wpAny_handleBy_cons (codeAny_handlers_test ?_) (by intro z;cases z)
     refine Og (X:=hld X ea) J2 hg hm ?_ hdb
     refine dP (s:={ s1 with heap:=h2 }) (PySem.W.exm_one Fl2.inv.kIn LT (hM C hin Cb hns)) ?_
     refine codeAny_handlers_suite_as ?_
     refine Xo (s:={ s1 with heap:=h2 }) fr2 F2 fun h3 F3 u3 fr3=>?_
     have Fl3:=Fl2.step (h':=h3) (by rw[hst];exact u3) F3
     have J3:=Inv.hld Fl3.inv ea
     refine Q6 (X:=hld X ea) (v:=.ref ea) J3 hN hi (.inl hl) rfl (fun s4 J4=>?_) (.inr hl)
     refine cM (hs ea pins s4 _ H1 { nx:=fun σ2 H2=>∃ α2,Gr H1 α1 H2 α2/\Abs X.K H2 α2 L2/\RepS X.K H2 α2 δ2 σ2,rt:=fun _ _=>False } J4 ⟨α1,_,L1,A1,S1.set i (u:=.ref k) (v:=.ref ea) (by unfold RepU;exact ⟨ea,at1,rfl⟩),.nx δ2,L2,e2,fun σ2 H2 α2 g2 A2 S2=>⟨α2,g2,A2,S2⟩⟩) (fun f s5 h5=>?_) fun _ _ z=>(hxe _ _ z).elim
     cases f with
     | next=>
      obtain ⟨σ2,H2,J5,α2,g2,A2,S2⟩:=h5
      have I5:=Inv.unhld I.ok J5
      refine Agn I5 hN hi hl fun s6 I6=>?_
      exact ⟨_,H2,I6,q _ H2 α2 (g1.trans g2) A2 (S2.unset i)⟩
     | ret v=>obtain ⟨_,_,_,_,_,z⟩:=h5;exact z.elim
     | brk=>obtain ⟨_,_,_,z⟩:=h5;exact z.elim
     | cont=>obtain ⟨_,_,_,z⟩:=h5;exact z.elim
    | rt w=>cases e3
    | bk w=>cases e3
    | ct w=>cases e3
   ·cases ee
  ·cases ee
end
noncomputable def Akj(K:aC)(C:Addr):Bool:=Pt K C&&aZ K (.ref C) "__getattribute__" == some (some (.builtin "BaseException.__getattribute__"))&&aZ K (.ref C) "__getattr__" == some none &&
 pR K (.ref C) (.type "BaseException") == some true&&aZ K (.ref C) "__class__" == some (some (.builtin "object.__class__"))&&mS K C (.type "object") == some true&&eU K C &&
 eV K (.builtin "object.__class__") "__get__" == some (some (.builtin "getset_descriptor.__get__"))&&lN K (.builtin "object.__class__") == some true
structure ExcA(K:aC)(C:Addr):Prop where
 ex:Pt K C=true
 ga:aZ K (.ref C) "__getattribute__" = some (some (.builtin "BaseException.__getattribute__"))
 gk:aZ K (.ref C) "__getattr__" = some none
 sb:pR K (.ref C) (.type "BaseException")=some true
 cl:aZ K (.ref C) "__class__" = some (some (.builtin "object.__class__"))
 mo:mS K C (.type "object")=some true
 hd:eU K C=true
 sg:eV K (.builtin "object.__class__") "__get__" = some (some (.builtin "getset_descriptor.__get__"))
 tk:lN K (.builtin "object.__class__")=some true
theorem Ahk{K:aC}{C:Addr}(h:Akj K C=true):ExcA K C:=by
 unfold Akj at h
 simp only[cQ,beq_iff_eq] at h
 obtain ⟨⟨⟨⟨⟨⟨⟨⟨a,b⟩,c⟩,d⟩,e⟩,f⟩,g⟩,i⟩,j⟩:=h
 exact ⟨a,b,c,d,e,f,g,i,j⟩
noncomputable def isX(C D:Str):Bool:=C == D || D == "BelowError" || D == "ValueError"
noncomputable def Aho(K:aC)(D:Str):Option aE:=match aS K aP D with
 | some (some (.ref a))=>some (.ref a)
 | some none=>if D == "ValueError" then some (.type "ValueError") else none
 | _=>none
noncomputable def W4(K:aC)(Cs Ds:List Str):Bool:=Cs.all fun C=>match aS K aP C with
 | some (some (.ref a))=>Akj K a&&Ds.all fun D=>match Aho K D with
  | some v=>pL K (.ref a) v == some (isX C D)&&(!isX C D || mF K (.ref a) v == some true)
  | none=>false
 | _=>false
section
variable {K:aC}{Cs Ds:List Str}
theorem Pz(T:W4 K Cs Ds=true){C:Str}{Ca:Addr}(hC:C∈Cs)(hn:aS K aP C=some (some (.ref Ca))):ExcA K Ca/\∀ D∈Ds,∃ v,Aho K D=some v/\pL K (.ref Ca) v=some (isX C D)/\(isX C D=true->mF K (.ref Ca) v=some true):=by
 have h:=cL.mp T C hC
 rw[hn] at h
 simp only[cQ] at h
 refine ⟨Ahk h.1,fun D hD=>?_⟩
 have h2:=cL.mp h.2 D hD
 split at h2
 ·rename_i v hv
  simp only[cQ,beq_iff_eq,iZ,Bool.not_eq_true'] at h2
  exact ⟨v,hv,h2.1,fun z=>h2.2.resolve_left (by rw[z];exact Bool.noConfusion)⟩
 ·cases h2
theorem AllX.of(T:W4 K Cs Ds=true):AllX K Cs:=fun C hC Ca hn=>(Pz T hC hn).1.ex
theorem Ade{D:Str}{Da:Addr}(h:aS K aP D=some (some (.ref Da))):Aho K D=some (.ref Da):=by unfold Aho;rw[h]
theorem AllM.sub{Es:List Str}{D:Str}{Da:Addr}(T:W4 K Cs Ds=true)(hs:∀ C∈Es,C∈Cs)(hD:D∈Ds)(hn:aS K aP D=some (some (.ref Da)))(ha:Es.all (fun C=>isX C D)=true):AllM K Es Da:=fun C hC Ca hc=>by
 obtain ⟨v,hv,_,h2⟩:=(Pz T (hs C hC) hc).2 D hD
 rw[Ade hn] at hv
 cases hv
 exact h2 (cL.mp ha C hC)
end
section
variable {prog:bP}{w:cE}{A:cG}{E:aE->aJ->Prop}{s:aJ}{K:aC}{x C:Addr}{ox:Obj}{od:Option Obj}{name:Str}
theorem Ajr{fill expr:Bool}{tk:Tok}{Q:aE->aJ->Prop}(X:K.In s.heap)(T:ExcA K C)(I:gY s.heap x ox C od)
  (h:wpAny (model prog w) A.in1 (lJ.«object.__getattribute__» ⟨[.ref x,.str name tk],[]⟩) (fun fin s'=>match fin with | .done (.ret v)=>wpAny (model prog w) A (handedOut v) Q E s' | _=>False) (fun _ _=>False) s) :
  wpAny (model prog w) A (getAttrBy (.ref x) (.str name tk) fill expr) Q E s:=by
 have FB:=PySem.F.attr_ValueError
 have hB:(mX "BaseException.__getattribute__" == mX "object.__getattribute__")=false:=by decide +kernel
 unfold getAttrBy
 refine dA (aF (I.type.here (aF ((fU X T.ga).here ?_))))
 dsimp only
 rw[hB,mG,if_neg (by decide)]
 unfold getAttrByItsOwn
 refine aF ((PySem.W.looks_hook X (mc:=.ref C) (r:=none) (by rw[if_pos (show onTheHeap (.ref C)=true from rfl)];exact T.gk)).here (aF (mV (dA ?_))))
 unfold callGetattribute
 rw[show (expr&&onTheHeap (mX "BaseException.__getattribute__"))=false from mG _,if_neg (by decide)]
 unfold boundAndCalled
 rw[FB.ga.bind]
 refine aF (aT ?_)
 show wpAny _ _ (call (.builtin "BaseException.__getattribute__") [.ref x,.str name tk]) _ _ _
 refine iJ (iU FB.ga.plain PySem.F.entry_bexc_ga ?_)
 refine @nF (model prog w) _ _ s "BaseException.__getattribute__" "BaseException" "__getattribute__" (.ref x) [.str name tk] [] _ (by decide +kernel) (by decide +kernel) (I.type.andThen (PySem.W.looks_subIn X T.sb)) (PySem.F.args_bexc_ga (.ref x) (.str name tk)) ?_
 refine cM h (fun fin s' z=>?_) fun _ _ z=>z.elim
 rcases fin with (_ | _ | _ | _) | _ <;> first | exact z | exact z.elim
theorem Ajf{r:lJ.ObjectAttr.Found}{tk:Tok}{Q:Fin->aJ->Prop}(X:K.In s.heap)(I:gY s.heap x ox C od)(hf:oY K C od name=some r)
  (h:match r with
   | .value v=>Q (.done (.ret v)) s
   | .bind g a=>wpAny (model prog w) A (call g [a,.ref x,.ref C]) (fun v s'=>Q (.done (.ret v)) s') E s
   | .missing=>False):wpAny (model prog w) A (lJ.«object.__getattribute__» ⟨[.ref x,.str name tk],[]⟩) Q E s:=by
 unfold lJ.«object.__getattribute__»
 refine aF (aT ?_)
 refine aF (aT ?_)
 refine aF (I.type.here (aF ((PySem.W.looks_find X I hf).here ?_)))
 cases r with
 | value v=>exact aT h
 | bind g a=>
  show wpAny _ _ (holding [a] (call g [a,.ref x,.ref C]) >>= ret) _ _ _
  exact aF (dA (cM h (fun v s' z=>aT z) fun _ _ z=>z))
 | missing=>exact h.elim
end
section
variable {X:Cx}{Cs Ds:List Str}
noncomputable def Vb(Cs:List Str)(u:U)(L:UH):Option (Nat×Str×List (Str×U)):=match u with
 | .ref n=>match L[n]? with
  | some (.exc C _ fs)=>if C∈Cs then some (n,C,fs) else none
  | _=>none
 | _=>none
theorem Ad7{u:U}{L:UH}{n:Nat}{C:Str}{fs:List (Str×U)}(h:Vb Cs u L=some (n,C,fs)):u = .ref n/\C∈Cs/\∃ fr,L[n]? = some (.exc C fr fs):=by
 unfold Vb at h
 split at h
 ·split at h
  ·rename_i e
   split at h
   ·rename_i hc
    cases h
    exact ⟨rfl,hc,_,e⟩
   ·cases h
  ·cases h
 ·cases h
inductive Names(X:Cx):List Str->List Addr->List Expr->Prop where
 | nil:Names X [] [] []
 | cons {D:Str} {Da:Addr} {Dn:List Str} {ds:List Addr} {es:List Expr} {p2:Pos} (hns:aS X.K aP D=some (some (.ref Da))) (hg2:Gl X D) (hm2:X.mg D=some (.ref Da)) (t:Names X Dn ds es)
   (hdb:(D == ("__debug__" : Str))=false:=by decide) (hs:bA (.Name D p2::es) X.env=(false,eval (.Name D p2) X.env)::bA es X.env:=by rfl):Names X (D::Dn) (Da::ds) (.Name D p2::es)
end
section
variable {X:Cx}{e:Expr}{pos pos':Pos}{x:Str}{xe:XE}
theorem Ol{st:Stmt}{rest:List Stmt}{y:XS}(h1:PXS X st y):Xn X (st::rest) (Xj Lj y xNo):=by
 intro pins s σ H α δ L n δ' L' I A S q
 have q1:y δ L=some (n,δ',L'):=by
  unfold Xj at q
  cases h:y δ L with
  | some r=>rw[h] at q;exact q
  | none=>rw[h] at q;cases q
 exact iI (cM (h1 pins s σ H α δ L n δ' L' I A S q1) (fun _ _ z=>z.elim) fun _ _ z=>z)
end
end MR
namespace MR
open PySem PySem.Spec PyProof.Rows PySem.Calls L2
section
variable {X:Cx}
end
section
variable {X:Cx}
noncomputable def tJ:Str->List TE->L2.St->Hp->VK->Prop
 | out,[],_,H,Q=>out.length<=sizeLine/\Q (.str out) H
 | out,t::r,σ,H,Q=>t σ H fun v H1=>∃ x,v = .str x/\(out++x).length<=sizeLine/\tJ (out++x) r σ H1 Q
inductive PEs(X:Cx):List Expr->List TE->Prop
 | nil:PEs X [] []
 | cons {e:Expr} {t:TE} {es:List Expr} {ts:List TE} (h:PE X e t) (r:PEs X es ts):PEs X (e::es) (t::ts)
theorem Abj{es:List Expr}{ts:List TE}(h:PEs X es ts):∀ (pins:List (Addr×Obj)) (s:aJ) (σ:L2.St) (H:Hp) (Q:VK) (out:Str),Inv X pins σ H s ->
  tJ out ts σ H Q->wpAny (model X.prog X.w) X.A (joinParts out (evalEach es X.env)) (EP X pins σ Q) X.xe s:=by
 induction h with
 | nil=>
  intro pins s σ H Q out I q
  obtain ⟨hl,q⟩:=q
  exact joinParts_nil ⟨.str out,H,I.tok _,⟨_,rfl⟩,q⟩ hl
 | @cons e t es ts h r ih=>
  intro pins s σ H Q out I q
  show wpAny _ _ (joinParts out (eval e X.env::evalEach es X.env)) _ _ _
  refine joinParts_cons (thn (h pins s σ H _ I q) fun v s1 zz=>?_)
  obtain ⟨x,H1,I1,r1,y,ey,hl,q1⟩:=zz
  subst ey
  obtain ⟨t',rfl⟩:=r1
  exact ⟨hl,ih pins s1 σ H1 Q (out++y) I1 q1⟩
theorem Acg{v1 v2:Expr}{es:List Expr}{ts:List TE}{pos:Pos}(h:PEs X (v1::v2::es) ts):PE X (.JoinedStr (v1::v2::es) pos) (tJ jM ts):=fun pins s σ H Q I q=>
 JoinedStr_many (Abj h pins s σ H Q jM I q)
end
noncomputable def goJ:Str->List FE->UE->UH->Option (U×UH)
 | out,[],_,L=>some (.str out,L)
 | out,f::r,δ,L=>(f δ L).bind fun p=>match p.1 with
  | .str x=>if Eb (out++x).length=true then goJ (out++x) r δ p.2 else none
  | _=>none
noncomputable def Lz(fs:List FE):FE:=fun δ L=>goJ jM fs δ L
inductive PFs(X:Cx):List Expr->List FE->Prop
 | nil:PFs X [] []
 | cons {e:Expr} {f:FE} {es:List Expr} {fs:List FE} (h:PEF X e f) (r:PFs X es fs):PFs X (e::es) (f::fs)
theorem PFs.pes{X:Cx}{es:List Expr}{fs:List FE}(h:PFs X es fs):PEs X es (fs.map (lE X.K)):=by
 induction h with
 | nil=>exact .nil
 | cons h r ih=>exact .cons h ih
theorem Acy{K:aC}:∀ (fs:List FE) (out:Str) (σ:L2.St) (H:Hp) (Q:VK) (α:List Addr) (δ:UE) (L:UH) (z:U) (L3:UH),Abs K H α L->RepS K H α δ σ->goJ out fs δ L=some (z,L3)->out.length<=sizeLine ->
  (∀ v H' α',Gr H α H' α'->Abs K H' α' L3->RepU K H' α' z v->Q v H')->tJ out (fs.map (lE K)) σ H Q
 | [],out,σ,H,Q,α,δ,L,z,L3,A,S,e,hl,q=>by
  cases e
  exact ⟨hl,q _ H α (.refl _ _) A (by unfold RepU;rfl)⟩
 | f::r,out,σ,H,Q,α,δ,L,z,L3,A,S,e,hl,q=>by
  unfold goJ at e
  obtain ⟨⟨u,L1⟩,e1,e⟩:=aB.mp e
  refine ⟨α,δ,L,A,S,u,L1,e1,fun x H1 α1 g1 A1 r1=>?_⟩
  simp only at e
  split at e
  ·split at e
   ·rename_i x' hc
    unfold RepU at r1
    subst r1
    exact ⟨x',rfl,Ed hc,Acy r (out++x') σ H1 Q α1 δ L1 z L3 A1 (S.mono g1) e (Ed hc) fun v H' α' g A' r'=>q v H' α' (g1.trans g) A' r'⟩
   ·cases e
  ·cases e
theorem Ab0{X:Cx}{v1 v2:Expr}{es:List Expr}{fs:List FE}{pos:Pos}(h:PFs X (v1::v2::es) fs):PEF X (.JoinedStr (v1::v2::es) pos) (Lz fs):=by
 refine PE.imp (Acg h.pes) ?_
 rintro σ H Q ⟨α,δ,L,A,S,z,L3,e,q⟩
 exact Acy fs jM σ H Q α δ L z L3 A S e (kH _) q
end MR
namespace MR
open PySem PySem.Spec PyProof.Rows L2
noncomputable def Al4(t:TE):TE:=fun σ H Q=>t σ H fun v H1=>∃ x,v = .str x/\(reprText x).length<=sizeLine/\Q (.str (reprText x)) H1
section
variable {X:Cx}
theorem Agk{e:Expr}{t:TE}{pos:Pos}(h:PE X e t):PE X (.FormattedValue e 114 none pos) (Al4 t):=by
 intro pins s σ H Q I q
 refine wpAny_FormattedValue_repr (thn (h pins s σ H _ I q) fun v s1 zz=>?_)
 obtain ⟨x,H1,I1,r1,a,ea,hl,q1⟩:=zz
 subst ea
 obtain ⟨t',rfl⟩:=r1
 refine wpAny_pyReprObj_str ?_ hl
 exact formatField_str (fun t'' tk=>⟨.str (reprText a),H1,I1.tok tk,⟨_,rfl⟩,q1⟩) hl
noncomputable def Sz(f:FE):FE:=fun δ L=>(f δ L).bind fun p=>match p.1 with
 | .str x=>if Eb (reprText x).length=true then some (.str (reprText x),p.2) else none
 | _=>none
theorem Afy{e:Expr}{f:FE}{pos:Pos}(h:PEF X e f):PEF X (.FormattedValue e 114 none pos) (Sz f):=by
 refine PE.imp (Agk h) ?_
 rintro σ H Q ⟨α,δ,L,A,S,z,L3,e,q⟩
 obtain ⟨⟨u,L1⟩,e1,e⟩:=aB.mp e
 refine ⟨α,δ,L,A,S,u,L1,e1,fun x H1 α1 g1 A1 r1=>?_⟩
 simp only at e
 split at e
 ·split at e
  ·rename_i hc
   cases e
   unfold RepU at r1
   subst r1
   exact ⟨_,rfl,Ed hc,q _ _ _ g1 A1 (by unfold RepU;rfl)⟩
  ·cases e
 ·cases e
end
theorem Ae2(self:aE):oJ self "__setattr__" bmV=pure ():=by kernel_rfl
theorem Vr{h:Heap}{l:List aE}(self:aE)(T:OwnTail h bmV l):oJ self "__setattr__" l=pure ():=by
 generalize hb:bmV=b at T
 induction T with
 | base=>rw[<- hb];exact Ae2 self
 | own _ _ _ _ ih=>rw[PySem.refuseLoop_ref];exact ih
noncomputable def Afd(K:aC)(Cs:List Str)(f:Str):Bool:=Cs.all fun C=>match aS K aP C with
 | some (some (.ref a))=>aZ K (.ref a) f == some none&&aZ K (.ref a) "__setattr__" == some (some (.builtin "object.__setattr__"))
 | _=>false
theorem Yj{K:aC}{Cs:List Str}{f C:Str}{Ca:Addr}(T:Afd K Cs f=true)(hC:C∈Cs)(hn:aS K aP C=some (some (.ref Ca))):aZ K (.ref Ca) f=some none/\aZ K (.ref Ca) "__setattr__" = some (some (.builtin "object.__setattr__")):=by
 have h:=cL.mp T C hC
 rw[hn] at h
 simpa only[cQ,beq_iff_eq] using h
section
variable {prog:bP}{w:cE}{A:cG}{E:aE->aJ->Prop}{s:aJ}{K:aC}{x C:Addr}{name:Str}{v:aE}{vs:Array aE}
theorem Aha{Q:Unit->aJ->Prop}(X:K.In s.heap)(T:ExcA K C)(hf:aZ K (.ref C) name=some none)(hs:aZ K (.ref C) "__setattr__" = some (some (.builtin "object.__setattr__")))
  (hx:s.heap.get? x=some ⟨.ref C,none,.fields vs,#[]⟩)
  (h:∀ h',(∀ b o,b≠x->s.heap.get? b=some o->h'.get? b=some o)->h'.get? x=some ⟨.ref C,some s.heap.objs.size,.fields vs,#[]⟩->h'.Ns1 s.heap.objs.size (fun y=>if y=name then some v else none)->Q () { s with heap:=h',toks:=s.toks+2 }) :
  wpAny (model prog w) A (setAttr (.ref x) name v) Q E s:=by
 have I:gY s.heap x ⟨.ref C,none,.fields vs,#[]⟩ C none:=⟨hx,rfl,rfl,trivial⟩
 have SF:=PySem.F.store_object
 obtain ⟨cd,hc,hd⟩:=nX T.hd
 refine nI X I hs ?_
 have hs1:({ s with toks:=s.toks+1 }:aJ).heap=s.heap:=rfl
 have sub:mW (model prog w) s.heap (isInstance (.ref x) (.type "object")) true:=I.type.andThen (PySem.W.looks_mroIn X T.mo)
 refine iU SF.slot.plain SF.entry (@nF (model prog w) _ _ { s with toks:=s.toks+1 } "object.__setattr__" "object" "__setattr__" (.ref x) [.str name s.toks,v] [] _ SF.kind SF.split sub (SF.args (.ref x) (.str name s.toks) v) ?_)
 obtain ⟨nm,qn,N,bs,bm,hdct,sn,sub',ab,col,dd',k0,k1,k2,k3,k5,hC,OT⟩:=N5 X T.ex
 rw[PySem.W.osa_eq,refuse_eq]
 refine aF (aF (dP (s:={ s with toks:=s.toks+1 }) I.type (aF ?_)))
 refine wpAny_mroOf_exc (g:=s.gens) (d:=s.drawn) (t:=s.toks+1) (os:=s.os) hC ?_
 rw[refuseLoop_ref,Vr _ OT]
 refine aT (aF (dP (s:={ s with toks:=s.toks+1 }) I.type (aF (dP (s:={ s with toks:=s.toks+1 }) (fU X hf) ?_))))
 refine aF (aT (a:=none) ?_)
 show wpAny _ _ (gT (.ref x) (.ref C) (.str name s.toks) name v false) _ _ _
 unfold gT lJ.ObjectAttr.ownDictForStores instanceDict
 refine aF (aT ?_)
 rw[if_neg (show ¬ ((bN C == lB "module")=true) from by simp)]
 refine aF ?_
 refine aF (wpAny_loadPart hx ?_)
 refine aF (dP (s:={ s with toks:=s.toks+1 }) (mN X hc) ?_)
 rw[hd]
 show wpAny _ _ (do
  let d <- alloc { cls:=.type "dict",data:=.dict #[] }
  update x fun o=>{ o with dict:=some d }
  dictMade (.ref C) x d) _ _ _
 refine aF (wpAny_alloc ?_)
 have hx1:(s.heap.push { cls:=.type "dict",data:=.dict #[] }).get? x=some ⟨.ref C,none,.fields vs,#[]⟩:=aG _ hx
 refine aF (wpAny_update hx1 (aT ?_))
 have hne:x≠s.heap.objs.size:=bV (aR hx)
 have e2:((s.heap.push { cls:=.type "dict",data:=.dict #[] }).update x fun o=>{ o with dict:=some s.heap.objs.size }).get? x=some ⟨.ref C,some s.heap.objs.size,.fields vs,#[]⟩:=cY _ hx1 rfl
 have e1:((s.heap.push { cls:=.type "dict",data:=.dict #[] }).update x fun o=>{ o with dict:=some s.heap.objs.size }).get? s.heap.objs.size=some { cls:=.type "dict",data:=.dict #[] }:=(cH _ _ hne).trans (aY s.heap rfl)
 have n0:((s.heap.push { cls:=.type "dict",data:=.dict #[] }).update x fun o=>{ o with dict:=some s.heap.objs.size }).Ns1 s.heap.objs.size (fun _=>none):=nL ⟨_,#[],_,e1,rfl,(fun e he=>absurd he (by simp)),fun _=>rfl⟩
 generalize hh2:((s.heap.push { cls:=.type "dict",data:=.dict #[] }).update x fun o=>{ o with dict:=some s.heap.objs.size })=h2 at *
 show wpAny _ _ (iM s.heap.objs.size (.str name s.toks) name v) _ _ _
 unfold iM
 refine aF (aT (aF ?_))
 refine wpAny_nsSet1 n0 fun h3 n3 sb=>?_
 obtain ⟨oD,esD,epD,hoD,hdD,hcD⟩:=n3.count (nJ (ns:=[]) name v (fun y hy=>absurd rfl hy))
 refine aF (nY hoD (by rw[hdD];exact nZ (cC hcD (by show 1<=sizeLine+1;decide))) ?_)
 refine aT (h h3 (fun b o hb q=>?_) ((sb.2 x hne).trans e2) n3)
 have hb2:b≠s.heap.objs.size:=bV (aR q)
 rw[sb.2 b hb2,<- hh2,cH _ _ (cS hb)]
 exact aG _ q
end
noncomputable def Amz(K:aC)(to tv:TE)(f:Str):TS:=fun D σ H=>tv σ H fun y H1=>to σ H1 fun x H2=>∃ a Ca fr,x = .ref a/\H2 a=some (.ext (Ct a Ca none fr))/\ExcA K Ca/\aZ K (.ref Ca) f=some none /\
 aZ K (.ref Ca) "__setattr__" = some (some (.builtin "object.__setattr__"))/\∀ d od,H2 d=none->d≠a->D.nx σ (upd (upd H2 d (.frz od (.xd [(f,y)]))) a (.ext (Ct a Ca (some d) fr)))
section
variable {X:Cx}{o e value:Expr}{f:Str}{p pos pos':Pos}{to tv:TE}
theorem Af7(ho:PE X o to)(hv:PE X value tv)(hs:swapsWith value (some (.Attribute o f pos')) pos.line X.env=pure false:=by rfl):PS X (.Assign [.Attribute o f pos'] value pos) (Amz X.K to tv f):=by
 intro pins s σ H D I h
 refine iD (thn (hv pins s σ H _ I h) fun u s1 ⟨y,H1,I1,ry,q⟩=>thn (ho pins s1 σ H1 _ I1 q) fun ov s2 ⟨x,H2,I2,rx,a,Ca,fr,ex,ea,T,hf,hsa,q2⟩=>?_) hs
 subst ex
 obtain rfl:ov=bN a:=rx
 obtain ⟨ob,vs,h1,h2,h3,h4,h5,h6,h7⟩:=(I2.hok a _ ea).1
 obtain ⟨cl,di,da,sl⟩:=ob
 dsimp only at h2 h3 h4 h6
 subst h2 h3 h4 h6
 refine Aha I2.kIn T hf hsa h1 fun h' k hx hn=>?_
 have hfr:H2 s2.heap.objs.size=none:=I2.hok.fresh (bD _)
 have hne:s2.heap.objs.size≠a:=gC (aR h1)
 obtain ⟨od,es,ep,ho',hrest⟩:=id hn
 have hfd:od.isFreed=false:=(Heap.get?_some_iff.mp ho').2
 have e1:(s2.heap.push od).get? s2.heap.objs.size=some od:=aY s2.heap hfd
 have nx:(s2.heap.push od).Ns1 s2.heap.objs.size (fun z=>if z=f then some u else none):=⟨od,es,ep,e1,hrest⟩
 have rel:∀ g,RelO (eL g [(f,y)]) (if g=f then some u else none):=fun g=>by
  rw[bX]
  by_cases hg:g=f
  ·subst hg;simp;exact ry
  ·have:(g == f)=false:=by simpa using hg
   rw[this,if_neg hg]
   exact eY
 have J1:=I2.laid (a:=s2.heap.objs.size) (o:=.frz od (.xd [(f,y)])) (h':=s2.heap.push od) (t':=s2.toks) (fun b u q=>aG _ q) (bD _) ⟨e1,_,nx,rel⟩
 have hxI:Ct a Ca (some s2.heap.objs.size) fr h':=⟨_,vs,hx,rfl,rfl,rfl,h5,rfl,h7⟩
 have J2:=J1.write (h':=h') (x:=a) (e:=a) (o:=.ext (Ct a Ca (some s2.heap.objs.size) fr)) (t':=s2.toks+2) (by rw[A9 (cS hne),ea];exact eY) (.inl rfl) (fun b w hb z=>by
  rcases Heap.get?_push_cases z with ⟨hd,ho2⟩ | z2
  ·subst hd;subst ho2;exact ho'
  ·exact k b w hb z2) ⟨_,hx⟩ (Nt hxI)
 exact ⟨σ,_,J2,q2 _ od hfr hne⟩
end
noncomputable def Aac(Cs:List Str)(f:Str)(fo fv:FE):FS:=fun δ L=>(fv δ L).bind fun p=>(fo δ p.2).bind fun q=>match q.1 with
 | .ref n=>match q.2[n]? with
  | some (.exc C fr [])=>if C∈Cs then some (.nx δ,q.2.set n (.exc C fr [(f,p.1)])) else none
  | _=>none
 | _=>none
section
variable {X:Cx}{o e value:Expr}{f:Str}{p pos pos':Pos}{fo fv fe:FE}{Cs Ds:List Str}
theorem Acz(T:W4 X.K Cs Ds=true)(F:Afd X.K Cs f=true)(ho:PEF X o fo)(hv:PEF X value fv)(hs:swapsWith value (some (.Attribute o f pos')) pos.line X.env=pure false:=by rfl) :
  PSF X (.Assign [.Attribute o f pos'] value pos) (Aac Cs f fo fv):=by
 refine PS.imp (Af7 ho hv hs) ?_
 rintro D σ H ⟨α,δ,L,A,S,fl,L',ee,q⟩
 obtain ⟨⟨u,L1⟩,e1,ee⟩:=aB.mp ee
 obtain ⟨⟨w,L2⟩,e2,ee⟩:=aB.mp ee
 simp only at ee
 split at ee
 ·rename_i n
  split at ee
  ·rename_i C fr hL
   split at ee
   ·rename_i hC
    cases ee
    refine ⟨α,δ,L,A,S,u,L1,e1,fun y H1 α1 g1 A1 r1=>⟨α1,δ,L1,A1,S.mono g1,_,L2,e2,fun x H2 α2 g2 A2 r2=>?_⟩⟩
    obtain ⟨a,ea,Ca,dd,vs,hns,ha,hd,hk,rr⟩:=A2.addr hL
    obtain ⟨a',ea',rfl⟩:=r2.ref_of A2
    rw[ea] at ea';cases ea'
    have hvs:vs=[]:=by
     cases vs with
     | nil=>rfl
     | cons z zs=>simp at hk
    subst hvs
    have hdn:dd=none:=by
     cases dd with
     | none=>rfl
     | some dx=>exact absurd rfl hd.1
    subst hdn
    obtain ⟨TA,_⟩:=Pz T hC hns
    obtain ⟨F1,F2⟩:=Yj F hC hns
    refine ⟨a,Ca,fr,rfl,ha,TA,F1,F2,fun d od nd hne=>?_⟩
    have ga:Gr H2 α2 (upd H2 d (.frz od (.xd [(f,y)]))) α2:=⟨⟨[],by simp⟩,.new nd _⟩
    have Aa:Abs X.K (upd H2 d (.frz od (.xd [(f,y)]))) α2 L2:=⟨A2.len,A2.inj,fun i b o' e1 e2=>(A2.rep i b o' e1 e2).other ga (.inr fun v z=>by rw[A9 (Br z nd)];exact z)⟩
    have ha':(upd H2 d (.frz od (.xd [(f,y)]))) a=some (.ext (Ct a Ca none fr)):=by rw[A9 (cS hne)];exact ha
    have gb:Gr (upd H2 d (.frz od (.xd [(f,y)]))) α2 (upd (upd H2 d (.frz od (.xd [(f,y)]))) a (.ext (Ct a Ca (some d) fr))) α2:=⟨⟨[],by simp⟩,.write ha' (by exact trivial) _⟩
    have hdd:DictIs (upd (upd H2 d (.frz od (.xd [(f,y)]))) a (.ext (Ct a Ca (some d) fr))) (some d) [(f,y)]:=⟨by simp,od,by rw[A9 hne,upd_same]⟩
    obtain ⟨Ab,_⟩:=Aa.put (o:=.ext (Ct a Ca (some d) fr)) (u:=.exc C fr [(f,u)]) ea hL rfl rfl ha' (by exact trivial) ⟨Ca,some d,[(f,y)],hns,upd_same,hdd,rfl,.cons (((r1.mono g2).mono ga).mono gb) .nil⟩
    exact q _ _ α2 ((g1.trans g2).trans (ga.trans gb)) Ab ((((S.mono g1).mono g2).mono ga).mono gb)
   ·cases ee
  ·cases ee
 ·cases ee
noncomputable def Ank(K:aC)(t:TE)(f:Str):TE:=fun σ H Q=>t σ H fun x H1=>∃ a Ca dx fr vs od v,x = .ref a/\H1 a=some (.ext (Ct a Ca (some dx) fr))/\H1 dx=some (.frz od (.xd vs))/\ExcA K Ca/\aZ K (.ref Ca) f=some none/\vs.lookup f=some v/\Q v H1
theorem Ahj{t:TE}(he:PE X e t)(hb:attributeBase e f X.env (eval e X.env)=eval e X.env:=by rfl):PE X (.Attribute e f pos) (Ank X.K t f):=by
 intro pins s σ H Q I h
 refine Aal hb (thn (he pins s σ H _ I h) fun u s1 zz=>?_)
 obtain ⟨x,H1,I1,rx,a,Ca,dx,fr,vs,od,v,ex,ea,ed,T,hf,hl,q⟩:=zz
 subst ex
 obtain rfl:u=bN a:=rx
 obtain ⟨ob,ws,h1,h2,h3,h4,_⟩:=(I1.hok a _ ea).1
 obtain ⟨hod,mA,hn,hr⟩:=I1.hok dx _ ed
 have J:gY s1.heap a ob Ca (some od):=⟨h1,h2,by unfold PySem.W.notCls;rw[h4],by rw[h3];exact hod⟩
 obtain ⟨od2,ho2,hlk⟩:=Te hn
 rw[hod] at ho2
 cases ho2
 have hv:=hr f
 rw[hl] at hv
 cases hm:mA f with
 | none=>rw[hm] at hv;exact hv.elim
 | some v'=>
  rw[hm] at hv
  have hfo:oY X.K Ca (some od) f=some (.value v'):=mM T.hd hf rfl (by rw[hlk,hm])
  unfold getAttr
  refine aF (wpAny_mkText ?_)
  refine Ajr (s:={ s1 with toks:=s1.toks+1 }) I1.kIn T J (Ajf (s:={ s1 with toks:=s1.toks+1 }) I1.kIn J hfo ?_)
  exact PySem.W.handed_on (Tq hv) ⟨v,H1,I1.tok _,hv,q⟩
noncomputable def Wb(Cs:List Str)(f:Str)(fe:FE):FE:=fun δ L=>(fe δ L).bind fun p=>(Vb Cs p.1 p.2).bind fun t=>(t.2.2.lookup f).map fun v=>(v,p.2)
theorem Aht(T:W4 X.K Cs Ds=true)(F:Afd X.K Cs f=true)(he:PEF X e fe)(hb:attributeBase e f X.env (eval e X.env)=eval e X.env:=by rfl):PEF X (.Attribute e f pos) (Wb Cs f fe):=by
 refine PE.imp (Ahj he hb) ?_
 rintro σ H Q ⟨α,δ,L,A,S,z,L3,ee,q⟩
 obtain ⟨⟨u,L1⟩,e1,ee⟩:=aB.mp ee
 obtain ⟨⟨n,C,fs⟩,e2,ee⟩:=aB.mp ee
 obtain ⟨w,e3,ee⟩:=aM.mp ee
 cases ee
 obtain ⟨rfl,hC,fr,hL⟩:=Ad7 e2
 refine ⟨α,δ,L,A,S,_,_,e1,fun x H1 α1 g1 A1 r1=>?_⟩
 obtain ⟨a,ea,Ca,dd,vs,hns,ha,hd,hk,rr⟩:=A1.addr hL
 obtain ⟨a',ea',rfl⟩:=r1.ref_of A1
 rw[ea] at ea';cases ea'
 obtain ⟨v,hv,rv⟩:=(Hz hk rr).1 _ e3
 cases dd with
 | none=>
  have hd:vs=[]:=hd
  subst hd
  cases hv
 | some dx=>
  obtain ⟨_,od,hdx⟩:=hd
  exact ⟨a,Ca,dx,fr,vs,od,v,rfl,ha,hdx,(Pz T hC hns).1,(Yj F hC hns).1,hv,q v H1 α1 g1 A1 rv⟩
end
end MR
namespace ZT
open PySem PySem.Spec PyProof.Rows PySem.W
open Sem (wp)
section
variable {prog:bP}{w:cE}{A:cG}{E:aE->aJ->Prop}{s:aJ}{T:String}{r d:Addr}{n:Nat}{P:Nat->aE->Prop}{OK:Heap->Prop}
theorem V2{Q:List aE->aJ->Prop}(K:KdlSrc prog w T r d n P OK)(hh:A.handled=none)(hok:OK s.heap)
  (hQ:∀ (h':Heap) (tk:Nat) (acc:Array aE),(∀ b o,s.heap.get? b=some o->h'.get? b=some o)->ItemsOf P acc n->Q acc.toList { s with heap:=h',toks:=tk }) (hn:n<=sizeLine):wpAny (model prog w) A (collect (.ref r)) Q E s:=by
 have hlt:=K.there _ hok
 unfold collect
 refine aF (wpAny_runValue (lR PySem.F.entry_proto_collect ?_))
 rw[iV PySem.F.plain_proto_collect _]
 show wpAny _ A.in1 (newList [] >>= fun l=>again (.builtin "list.__iadd__" ⟨[l,.ref r],[]⟩)) _ _ s
 refine aF (cR ?_)
 refine aT ⟨plainId_quiet kY _,lR PySem.F.entry_list_iadd ?_⟩
 rw[iV kY _]
 have hS₁:(s.heap.push { cls:=.type "list",data:=.seq ([]:List aE).toArray }).get? s.heap.objs.size=some { cls:=.type "list",data:=.seq ([]:List aE).toArray }:=aY _ rfl
 show wpAny _ A.in1 (lJ.List.listExtendWith (.ref s.heap.objs.size) (.ref r) (.ref s.heap.objs.size)) _ _ _
 refine kdl_extend (R:=wants _ E) (s:={ s with heap:=s.heap.push { cls:=.type "list",data:=.seq ([]:List aE).toArray } }) K hh (K.keep _ _ hok fun b _ o e=>aG _ e) s.heap.objs.size (gC hlt.1) (gC hlt.2) _ _ hS₁ (fun h' tk acc' c' hk hS' hacc=>?_) hn
 show wpAny _ A (load s.heap.objs.size >>= _) _ _ _
 refine aF (wpAny_load hS' ?_)
 exact aT (hQ h' tk acc' (fun b o e=>hk b o (bV (aR e)) (aG _ e)) hacc)
theorem Rk{Q₁:aE->aJ->Prop}(K:KdlSrc prog w T r d n P OK)(hh:A.handled=none)(hok:OK s.heap)
  (h:∀ (h':Heap) (tk:Nat) (acc:Array aE),(∀ b o,s.heap.get? b=some o->h'.get? b=some o)->ItemsOf P acc n->Q₁ (.ref h'.objs.size) { s with heap:=h'.push { cls:=.type "tuple",data:=.seq acc },toks:=tk }) (hsz:n<=sizeLine) :
  iN (model prog w) A (.call (.builtin "tuple.__new__") ⟨[.type "tuple",.ref r],[]⟩) (wants Q₁ E) s:=by
 refine codeAny_of_tree ?_
 show wpAny _ A.in1 (do checkBuiltinCall "tuple.__new__" ⟨[.type "tuple",.ref r],[]⟩;again (.builtin "tuple.__new__" ⟨[.type "tuple",.ref r],[]⟩)) _ _ s
 refine aF (wpAny_of_eq (PySem.F.newCall_tuple_1 _) (aT ⟨plainId_quiet kZ _,lR PySem.F.entry_tuple_new ?_⟩))
 rw[iV kZ _]
 have hsub:=sub_tuple_self
 have hinit:=init_tuple_lookup
 have hmh:=madeHere_tuple
 have hTI:=K.type s hok
 have hnt:=K.notTuple
 wp_walk using wpAny_typeOf hTI,V2 (A:=A.in1) (hn:=hsz) K hh hok
 intro h' tk acc hm hacc
 show wpAny _ _ (dM acc.toList.toArray >>= fun v=>ret v) _ _ _
 unfold dM
 refine aF (cR ?_ (by show acc.toList.toArray.size<=sizeLine;simp only[Array.toArray_toList];rw[hacc.1];exact hsz))
 refine aT ?_
 have e:acc.toList.toArray=acc:=by simp
 rw[e]
 exact h h' tk acc hm hacc
theorem Qh{Q:aE->aJ->Prop}(K:KdlSrc prog w T r d n P OK)(hh:A.handled=none)(hok:OK s.heap)
  (hQ:∀ (h':Heap) (tk:Nat) (acc:Array aE),(∀ b o,s.heap.get? b=some o->h'.get? b=some o)->ItemsOf P acc n->Q (.ref h'.objs.size) { s with heap:=h'.push { cls:=.type "tuple",data:=.seq acc },toks:=tk }) (hsz:n<=sizeLine) :
  wpAny (model prog w) A (call (.type "tuple") [.ref r]) Q E s:=by
 refine callType_codes (Q₁:=fun obj s₁=>s₁.TypeIs obj "tuple" /\ Q obj s₁) PySem.F.called_tuple (PySem.F.typeCall_tuple_1 _) PySem.F.entry_object_init
  (Rk (hsz:=hsz) K hh hok fun h' tk acc hm hacc=>⟨⟨_,aY _ rfl,rfl⟩,hQ h' tk acc hm hacc⟩) fun obj s₁ h₁=>?_
 exact ⟨h₁.1,PySem.F.args_object_init_2 obj _,object_init_meets PySem.F.called_tuple.init.lookup PySem.F.called_tuple.made (by decide) prog w A.in1 _ s₁ ⟨h₁.1,rfl,h₁.2⟩⟩
end
end ZT
namespace MR
open PySem PySem.Spec PyProof.Rows PySem.Calls L2
theorem Aaw:∀ {kvs:List (Key×V)} {vs:List (Key×aE)},KV kvs vs->Vals (kvs.map (·.2)) (vs.map (·.2))
 | _,_,.nil=>.nil
 | _,_,.cons r t=>.cons r.2 (Aaw t)
theorem Xd{vs:List (Key×aE)}{acc:Array aE}(h:ItemsOf (fun i v=>∃ k,vs[i]? = some (k,v)) acc vs.length):acc.toList=vs.map (·.2):=
 PySem.W.kdl_vals_eq acc.toList (by rw[cO];exact h.1) fun j v e=>h.2 j v (by rw[<- iG];exact e)
section
variable {X:Cx}{o:Expr}{apos cpos p pos:Pos}{td:TE}{fo:FE}
noncomputable def Ak3(td:TE):TE:=fun σ H Q=>td σ H fun x H1=>∃ a kvs,x = .ref a/\H1 a=some (.dK kvs)/\∀ l,H1 l=none->Q (.ref l) (upd H1 l (.tup (kvs.map (·.2))))
theorem Afv(hc:X.calm=true)(hgL:Gl X "tuple")(hmL:X.mg "tuple" = none)(hl:PE X o td)(m:M0 X o "values" apos cpos)
  (hs2:bA [.Call (.Attribute o "values" apos) [] [] cpos] X.env=[(false,eval (.Call (.Attribute o "values" apos) [] [] cpos) X.env)]:=by rfl):PE X (.Call (.Name "tuple" p) [.Call (.Attribute o "values" apos) [] [] cpos] [] pos) (Ak3 td):=by
 intro pins s σ H Q I h
 refine eM (Rj I hgL hmL Vx ?_)
 refine eI ?_ hs2 rfl
 rw[hs2]
 refine jQ ?_
 refine hZ m.base m.few m.line fH fA kR (thn (hl pins s σ H _ I h) fun u s1 zz=>zz.elim fun x H1 I1 rx zq=>?_)
 obtain ⟨a,kvs,ex,ea,q⟩:=zq
 subst ex
 obtain rfl:u=bN a:=rx
 obtain ⟨t1,t2,_⟩:=Uk I1 (.inl ⟨kvs,.inl ea⟩)
 refine ⟨t1,t2,?_⟩
 rw[m.trees]
 obtain ⟨hd,ob,vs,ep,ho,D⟩:=Mc I1 ea
 have da:=D.at_ _ _ ho
 refine dX rfl (jG ?_)
 refine lH fA t1 kB (jV _) (nV (Cf X.prog X.w) a hd) ⟨⟨vs,da.dictOf⟩,?_⟩
 refine kI ?_
 have I2:L2.Inv X pins σ H1 { s1 with heap:=s1.heap.push { cls:=.type "dict_values",data:=.fields #[.ref a] } }:=I1.kept (t':=s1.toks) fun b o e=>aG _ e
 have hz:kvs.length<=sizeLine:=(Q2 I1.hok ea).1
 have hl:=KV.length D.rel
 refine ZT.Qh (PySem.W.kdl_values (knd:=Cf X.prog X.w) (kvs:=vs) (ep:=ep)) (I2.ok.hd hc) ⟨⟨_,aY _ rfl,rfl,rfl⟩,da.push _⟩ (fun h' tk acc hk hacc=>?_) (by rw[<- hl];exact hz)
 have hacc':=Xd hacc
 have hacc2:acc=(vs.map (·.2)).toArray:=by rw[<- hacc']
 have I3:L2.Inv X pins σ H1 { s1 with heap:=h',toks:=tk }:=I2.kept (t':=tk) hk
 have I4:L2.Inv X pins σ (upd H1 h'.objs.size (.tup (kvs.map (·.2)))) { s1 with heap:=h'.push { cls:=.type "tuple",data:=.seq acc },toks:=tk }:=
  I3.laid (t':=tk) (fun b o e=>aG _ e) (bD _) (show ObjOk X.prog X.w _ _ _ (.tup (kvs.map (·.2))) from ⟨by rw[bB];exact hz,vs.map (·.2),Aaw D.rel,by rw[hacc2];exact TupN.new _ _⟩)
 exact ⟨.ref h'.objs.size,_,I4,rfl,q _ (I3.hok.fresh (bD _))⟩
noncomputable def W0(f:FE):FE:=fun δ L=>(f δ L).bind fun p=>match p.1 with
 | .ref n=>(E9 p.2 n).map fun kvs=>(.tup (Sr kvs),p.2)
 | _=>none
theorem Aex(hc:X.calm=true)(hgL:Gl X "tuple")(hmL:X.mg "tuple" = none)(hl:PEF X o fo)(m:M0 X o "values" apos cpos)
  (hs2:bA [.Call (.Attribute o "values" apos) [] [] cpos] X.env=[(false,eval (.Call (.Attribute o "values" apos) [] [] cpos) X.env)]:=by rfl):PEF X (.Call (.Name "tuple" p) [.Call (.Attribute o "values" apos) [] [] cpos] [] pos) (W0 fo):=by
 refine PE.imp (Afv hc hgL hmL hl m hs2) ?_
 rintro σ H Q ⟨α,δ,L,A,S,u,L3,e,q⟩
 obtain ⟨⟨u,L1⟩,e1,e⟩:=aB.mp e
 simp only at e
 split at e
 ·obtain ⟨kvs,hd,e⟩:=aM.mp e
  cases e
  refine ⟨α,δ,L,A,S,_,_,e1,fun x H1 α1 g1 A1 r1=>?_⟩
  obtain ⟨a,vs,rfl,ea,ha,rk⟩:=Gg A1 hd r1
  refine ⟨a,vs,rfl,ha,fun l hl=>?_⟩
  obtain ⟨g',A',r'⟩:=A1.tup rk.2 hl
  exact q _ _ _ (g1.trans g') A' r'
 ·cases e
end
section
variable {X:Cx}
theorem Agu{prog:bP}{w:cE}{k:Key}{v:aE}(h:(Cf prog w).is k v=true):RelV (kV k) v:=by
 rcases Cv h with ⟨i,t,rfl,rfl⟩ | ⟨x,t,rfl,rfl⟩
 ·exact ⟨t,rfl⟩
 ·exact ⟨t,rfl⟩
theorem Adj{prog:bP}{w:cE}:∀ {kvs:List (Key×V)} {vs:List (Key×aE)},KV kvs vs->∀ {its:List aE},its.length=vs.length->(∀ (i:Nat) (v:aE),its[i]? = some v->∃ (k:Key) (x:aE),vs[i]? = some (k,x)/\(Cf prog w).is k v=true)->Vals (kvs.map fun kv=>kV kv.1) its:=by
 intro kvs vs r
 induction r with
 | nil=>intro its hl _;cases its with | nil=>exact .nil | cons _ _=>simp at hl
 | @cons a b as bs h t ih=>
  intro its hl hk
  cases its with
  | nil=>simp at hl
  | cons v its=>
   obtain ⟨k,x,e1,e2⟩:=hk 0 v rfl
   simp at e1
   refine .cons ?_ (ih (by simpa using hl) fun i v e=>hk (i+1) v (by simpa using e))
   show L2.RelV (kV a.1) v
   rw[h.1,e1];exact Agu e2
abbrev Ac4:List V->Hp->VK->Prop:=fun xs H Q=>∃ (a:Addr) (kvs:List (Key×V)),xs=[.ref a]/\H a=some (.dK kvs)/\∀ l,H l=none->Q (.ref l) (upd H l (.lst (kvs.map fun kv=>kV kv.1)))
theorem Ya(hc:X.calm=true):CallR X (.type "list") Ac4:=by
 intro pins s σ H xs us Q I r h
 obtain ⟨a,kvs,rfl,ea,q⟩:=h
 obtain ⟨u,rfl,rx⟩:=Ll r
 cases rx
 obtain ⟨hd,ob,vs,ep,ho,D⟩:=Mc I ea
 have da:=D.at_ _ _ ho
 have hz:kvs.length<=sizeLine:=(Q2 I.hok ea).1
 have hl:=KV.length D.rel
 refine PySem.W.kdl_call (PySem.W.kdl_dict (knd:=Cf X.prog X.w) (kvs:=vs) (ep:=ep) hd) (I.ok.hd hc) da (by rw[<- hl];exact hz) fun h' tk acc c' hk hS hacc=>?_
 have new:ObjOk X.prog X.w (upd H s.heap.objs.size (.lst (kvs.map fun kv=>kV kv.1))) h' s.heap.objs.size (.lst (kvs.map fun kv=>kV kv.1)):=
  ⟨by rw[bB];exact hz,acc.toList,c',Adj D.rel (by rw[cO];exact hacc.1) (fun i v e=>hacc.2 i v (by rw[<- iG];exact e)),by rw[hS]⟩
 exact ⟨.ref _,_,I.laid (t':=tk) hk (bD _) new,rfl,q _ (I.hok.fresh (bD _))⟩
abbrev Aio:List V->Hp->VK->Prop:=fun xs H Q=>∃ (a:Addr) (kvs:List (Key×V)),xs=[.ref a]/\H a=some (.dK kvs)/\Q (.int kvs.length) H
theorem Abh:CallR X (.builtin "len") Aio:=by
 intro pins s σ H xs us Q I r h
 obtain ⟨a,kvs,rfl,ea,q⟩:=h
 obtain ⟨u,rfl,rx⟩:=Ll r
 cases rx
 exact Anf I (.inl ea) fun t s' I'=>⟨.int kvs.length,H,I',⟨t,rfl⟩,q⟩
noncomputable def Amd:R2:=fun x y H Q=>∃ a b ka,x = .ref a/\y = .ref b/\H a=some (.dK ka)/\H b=some (.dK [])/\Q (.bl (!ka.isEmpty)) H
theorem Akh(hu:X.A.units+64 < cLine):OpR X (dC .NotEq) Amd:=by
 intro pins s σ H x y v u Q I rx ry h
 obtain ⟨a,b,ka,rfl,rfl,ha,hb,q⟩:=h
 cases rx
 cases ry
 obtain ⟨_,d1,wa,ra,da⟩:=Q2 I.hok ha
 obtain ⟨_,d2,wb,rb,db⟩:=Q2 I.hok hb
 have l1:=ra.length
 cases rb
 refine PySem.W.keq_ne (r:=true) d1 d2 da db (nD (oI _ _) hu) (fun e=>?_) ⟨.bl (!ka.isEmpty),H,I,?_,q⟩
 ·cases wa with
  | nil=>exact .nil
  | cons _ _=>simp at e
 ·cases ka with
  | nil=>cases wa with
   | nil=>rfl
   | cons _ _=>simp at l1
  | cons _ _=>cases wa with
   | nil=>simp at l1
   | cons _ _=>exact rfl
end
noncomputable def semListD:SC:=fun us L=>match us with
 | [.ref n]=>(E9 L n).map fun kvs=>(.ref L.length,L++[.lst (Yl kvs)])
 | _=>none
theorem Ab2{K:aC}:Ow K Ac4 semListD:=by
 intro H α L us xs z L' Q A r e q
 unfold semListD at e
 split at e
 ·obtain ⟨x,rfl,rx⟩:=r.one
  obtain ⟨kvs,hd,e⟩:=aM.mp e
  cases e
  obtain ⟨a,vs,rfl,ea,ha,rk⟩:=Gg A hd rx
  refine ⟨a,vs,rfl,ha,fun p hp=>?_⟩
  obtain ⟨g',A',r'⟩:=A.lst (Ri rk) hp
  exact q _ _ _ g' A' r'
 ·cases e
noncomputable def Kr:SC:=fun us L=>match us with
 | [.ref n]=>(E9 L n).map fun kvs=>(.int (kvs.length:Nat),L)
 | _=>none
theorem Ad0{K:aC}:Ow K Aio Kr:=by
 intro H α L us xs z L' Q A r e q
 unfold Kr at e
 split at e
 ·obtain ⟨x,rfl,rx⟩:=r.one
  obtain ⟨kvs,hd,e⟩:=aM.mp e
  cases e
  obtain ⟨a,vs,rfl,ea,ha,rk⟩:=Gg A hd rx
  refine ⟨a,vs,rfl,ha,?_⟩
  rw[<- rk.len]
  exact q _ _ _ (.refl _ _) A rfl
 ·cases e
noncomputable def Je:S2:=fun u w L=>match u,w with
 | .ref n,.ref m=>(E9 L n).bind fun ka=>(E9 L m).bind fun kb=>if kb.isEmpty=true then some (.bl (!ka.isEmpty),L) else none
 | _,_=>none
theorem Ag0{K:aC}:Dh K Amd Je:=by
 intro H α L u w x y z L' Q A ru rw e q
 unfold Je at e
 split at e
 ·obtain ⟨ka,hd,e⟩:=aB.mp e
  obtain ⟨kb,hb,e⟩:=aB.mp e
  split at e
  ·rename_i hk
   cases e
   obtain ⟨p,vs,rfl,ep,hp,rk⟩:=Gg A hd ru
   obtain ⟨p2,vs2,rfl,ep2,hp2,rk2⟩:=Gg A hb rw
   have h2:vs2=[]:=by
    have:=rk2.1
    rw[List.isEmpty_iff.mp hk] at this
    simpa using this.symm
   have h1:ka.isEmpty=vs.isEmpty:=by
    have:=rk.len
    cases ka <;> cases vs <;> simp_all
   subst h2
   rw[h1] at q
   exact ⟨p,p2,vs,rfl,rfl,hp,hp2,q _ H α (.refl _ _) A rfl⟩
  ·cases e
 ·cases e
end MR
namespace UL
open PySem PySem.Spec PyProof.Rows
section
variable {prog:bP}{w:cE}{A:cG}{E:aE->aJ->Prop}{s:aJ}
theorem Ts{it l:Addr}{items:Array aE}(hne:l≠it):∀ (n i:Nat) (s:aJ) (Q:List aE->aJ->Prop),s.heap.IsListIter it l i->s.heap.IsList l items->i+n<=items.size ->
  (∀ h',h'.IsListIter it l (i+n)->fZ it s.heap h'->Q ((items.toList.drop i).take n) { s with heap:=h' })->wpAny (model prog w) A (draw (.ref it) n) Q E s
 | 0,i,s,Q,hit,_,_,hQ=>by
  show wpAny _ _ (pure []) Q E s
  exact aT (by simpa using hQ s.heap hit (fZ.refl ..))
 | n+1,i,s,Q,hit,ht,hle,hQ=>by
  have hlt:i < items.size:=by omega
  show wpAny _ _ (pyNext (.ref it) >>= _) Q E s
  refine aF (lD hit ht (x:=items[i]) (by simp[hlt]) fun h₁ hit₁ hs₁=>?_)
  refine aF (dA (Ts hne n (i+1) _ _ hit₁ (ht.extBut hs₁.extBut hne) (by omega) fun h₂ hit₂ hs₂=>aT ?_))
  have hd:items.toList.drop i=items[i]::items.toList.drop (i+1):=by simp[List.drop_eq_getElem_cons,hlt]
  have:=hQ h₂ (by rw[show i+(n+1)=i+1+n by omega];exact hit₂) (hs₁.trans hs₂)
  rw[hd,List.take_succ_cons] at this
  exact this
theorem Ou{t:Addr}{items:Array aE}{Q:List aE->aJ->Prop}(hh:A.handled=none)(ht:s.heap.IsList t items)
  (hQ:∀ h',iS s.heap.objs.size s.heap h'->Q items.toList { s with heap:=h' }):wpAny (model prog w) A (unpackItems (.ref t) items.size none) Q E s:=by
 have hlt:t≠s.heap.objs.size:=by obtain ⟨o,ho,_⟩:=ht;exact bV (aR ho)
 have ty:s.TypeIs (.ref t) "list" := by obtain ⟨o,ho,hc,_⟩:=ht;exact ⟨o,ho,hc⟩
 unfold unpackItems
 refine aF ?_
 ·unfold notIterableAtAll
  refine aF (wpAny_specialOf ty F.slot_list_iter.lookup ?_)
  refine aT ?_
  simp only[bJ,if_false]
  refine aF (dA (kD ht ?_))
  refine aF (dA (Ts hlt items.size 0 _ _ ⟨_,aY _ rfl,rfl,rfl⟩ (ht.push _) (by omega) fun h₁ hit₁ hs₁=>?_))
  have hall:List.take items.size (List.drop 0 items.toList)=items.toList:=by
   rw[pM];exact eJ (by simp)
  rw[hall]
  rw[if_neg (by simp)]
  have ht₁:h₁.IsList t items:=(ht.push _).extBut hs₁.extBut hlt
  refine aF (dA (lU hh hit₁ ht₁ (by simp) fun h₂ he₂=>?_))
  simp only[Option.isSome_none,bJ,if_false]
  refine aT (hQ h₂ fun b o hb e=>he₂ b o hb (hs₁.extBut b o hb (aG _ e)))
theorem assign_Tuple_list{env:Env}{elts:List Expr}{x1}{pos:Pos}{t:Addr}{items:Array aE}{Q:Unit->aJ->Prop}(hh:A.handled=none)(ht:s.heap.IsList t items)
  (hn:(assignEach elts env).length=items.size) (hstar:(assignEach elts env).findIdx? (·.1)=none)
  (h:∀ h',iS s.heap.objs.size s.heap h'->wpAny (model prog w) A (assignInOrder ((assignEach elts env).map (·.2)) items.toList) Q E { s with heap:=h' }) :
  wpAny (model prog w) A (assign (.Tuple elts x1 pos) env (.ref t)) Q E s:=by
 rw[assign_Tuple]
 refine aF (gI ?_)
 unfold unpack
 rw[hn,hstar]
 exact aF (dA (Ou hh ht h))
end
end UL
namespace MR
open PySem PySem.Spec PyProof.Rows PySem.Calls L2
section
variable {X:Cx}{es:List Expr}{pos:Pos}
noncomputable def Am0(K:aC)(n:Nat)(t:TGs):TG:=fun v σ H Q=>∃ a xs,v = .ref a/\SqL K H a xs/\xs.length=n/\t xs σ H Q
theorem Ahn{k:Nat}{t:TGs}{n:Nat}(hc:X.calm=true)(h:PGs X es t)
  (hn:(assignEach es X.env).length=n:=by rfl) (hst:(assignEach es X.env).findIdx? (·.1)=none:=by rfl):PG X (.Tuple es k pos) (Am0 X.K n t):=by
 intro pins s σ H v u Q I r hw
 obtain ⟨a,xs,e1,hq,hl,hw⟩:=hw
 subst e1
 cases r
 obtain ⟨its,rv,ht,hz⟩:=I.list hq
 refine UL.assign_Tuple_list (I.ok.hd hc) ht.isList (by simp[hn,<- hl,rv.length]) hst fun h' hx=>?_
 have I1:L2.Inv X pins σ H { s with heap:=h' }:=I.kept (t':=s.toks) fun b o e=>hx b o (bV (aR e)) e
 exact h pins _ σ H xs _ Q I1 (by simpa using rv) hw
noncomputable def K6(n:Nat)(g:FGs):FG:=fun u δ L=>match u with
 | .ref m=>(Ba L m).bind fun us=>if us.length=n then g us δ L else none
 | u=>MR.gTup n g u δ L
theorem Q1{k:Nat}{g:FGs}{n:Nat}(hc:X.calm=true)(h:Afc X es g)(hn:(assignEach es X.env).length=n:=by rfl)(hst:(assignEach es X.env).findIdx? (·.1)=none:=by rfl):PGF X (.Tuple es k pos) (K6 n g):=by
 intro pins s σ H v u Q I r hw
 obtain ⟨α,δ,L,w,A,S,rw,δ',L',e,q⟩:=hw
 cases w with
 | ref m=>
  unfold K6 at e
  simp only at e
  obtain ⟨us,hus,e⟩:=aB.mp e
  split at e
  ·rename_i hl
   obtain ⟨a,ys,rfl,sq,r2⟩:=N8 A hus rw
   exact Ahn hc h hn hst pins s σ H _ u Q I r ⟨a,ys,rfl,sq,by rw[<- r2.length];exact hl,α,δ,L,us,A,S,r2,δ',L',e,q⟩
  ·cases e
 | tup us=>exact Gz (k:=k) (pos:=pos) hc h hn hst pins s σ H v u Q I r ⟨α,δ,L,.tup us,A,S,rw,δ',L',e,q⟩
 | _=>simp[K6,MR.gTup] at e
end
end MR
namespace Lw
open PySem L2 MR
noncomputable def Gi:FS:=(Afw "KeptPoints" "points" (Ae 0) fDNew)
noncomputable def Bb:FN:=fnU 1 1 Gi
noncomputable def Ik:FS:=(Bf (C3 (Oa ["NoName"] (Ac (Ae 0) (Ac (Lz [(fC (.str "the name ")),(Sz (Ae 1)),(fC (.str " is refused here"))]) Ag)))) (Aac ["NoName"] "word" (Ae 0) (Ae 1)))
noncomputable def Cw:FN:=fnU 2 2 Ik
noncomputable def Gf:FS:=(Bf (Dv (Az (f2 H0 (Ae 1) (Lr "KeptPoints" "points" (Ae 0)))) Lj Cq) (Lu (Lr "KeptPoints" "points" (Ae 0)) (Ae 1) (C7 (Ac (Ae 1) (Ac (Ae 2) (Ac (Ae 3) Ag))))))
noncomputable def Bh:FN:=fnU 4 4 Gf
noncomputable def J7:XS:=(Xj Lj (xIf (Az (f2 H0 (Ae 1) (Lr "KeptPoints" "points" (Ae 0)))) (Oz ["NoName"] (Na "NoName" 2 Cw (Ac (Ae 1) Ag))) xNo) xNo)
noncomputable def D8:XN:=fnX 4 4 J7
noncomputable def Pf:FE:=(f2 Ax (C7 (Ac (Ae 0) Ag)) (Ae 1))
noncomputable def V8:FS:=(Ci (A0 semTuple (Ac (Ms (Bn [none,none] (Ju Fm (Ae 0)) (MR.gTup 2 (MR.gCons (gN 0) (MR.gCons (gN 1) MR.gNil))) none Pf)) Ag)))
noncomputable def Dw:FN:=fnU 1 1 V8
noncomputable def N7:FS:=(C3 (Bj "KeptPoints" "put_point" 4 Bh (Ae 1) (Ac (Ae 2) (Ac (Ae 3) (Ac (Ae 4) Ag)))))
noncomputable def Qf:FS:=(Bf (Bq (Oe "KeptPoints" 1 Bb Ag) (gN 1)) (Bf (Lf (Bu (Ar 1 Dw (Ac (Ae 0) Ag))) (MR.gTup 3 (MR.gCons (gN 2) (MR.gCons (gN 3) (MR.gCons (gN 4) MR.gNil)))) N7) (Ci (Ae 1))))
noncomputable def Kn:FN:=fnU 5 1 Qf
noncomputable def Wq:FS:=(Bf (Dv (fOr (Az (f2 B2 (Ae 1) (C7 Ag))) (Az (f2 B2 (Ar 2 Al (Ac (Ae 0) (Ac (fC (.int 5)) Ag))) (fC (.int 0))))) (Ci (Ar 2 Eo (Ac (Ae 0) (Ac (Ar 2 Al (Ac (Ae 0) (Ac (fC (.int 3)) Ag))) Ag)))) Cq) (Bf (Bq (f2 E3 (f2 Ax (f2 Ao (Ae 1) (Ar 2 Al (Ac (Ae 0) (Ac (A0 Cc (Ac (Ae 1) Ag)) Ag)))) (Ar 2 Al (Ac (Ae 0) (Ac (fC (.int 3)) Ag)))) (fC (.int 1))) (gN 2)) (Ci (A0 G6 (Ac (f2 E3 (fC (.int 1)) (f2 Fj (fC (.int 10)) (fC (.int 10)))) (Ac (A0 Hs (Ac (f2 E3 (f2 Fj (fC (.int 10)) (fC (.int 10))) (fC (.int 1))) (Ac (Ae 2) Ag))) Ag))))))
noncomputable def Ga:FN:=fnU 3 2 Wq
noncomputable def Gh:FE:=(Ae 2)
noncomputable def Fz:FE:=(Ae 1)
noncomputable def Sn:FS:=(Bf (Dv (Pp (Az (f2 He (Ae 1) (C7 Ag))) (Az (f2 B2 (Ar 2 Al (Ac (Ae 0) (Ac (fC (.int 4)) Ag))) (fC (.int 0))))) (Ci (fSl semSl (f2 Ao (Ae 1) (Ar 2 Al (Ac (Ae 0) (Ac (A0 Cc (Ac (Ae 1) Ag)) Ag)))) (Q5 (fC (.int 1))) Kv)) Cq) (Bf (Bq (A0 semTuple (Ac (Bn [none,none,none] (Bu (Ae 1)) (MR.gTup 3 (MR.gCons (gN 0) (MR.gCons (gN 1) (MR.gCons (gN 2) MR.gNil)))) none Fz) Ag)) (gN 2)) (Bf (Bq (A0 semTuple (Ac (Bn [none,none,none] (Bu (Ae 1)) (MR.gTup 3 (MR.gCons (gN 0) (MR.gCons (gN 1) (MR.gCons (gN 2) MR.gNil)))) none Gh) Ag)) (gN 3)) (Ci (C7 (Ac (Ar 2 Ga (Ac (Ae 0) (Ac (Ae 2) Ag))) (Ac (Ar 2 Ga (Ac (Ae 0) (Ac (Ae 3) Ag))) Ag)))))))
noncomputable def Eh:FN:=fnU 4 2 Sn
noncomputable def Aas:FS:=(Bf (Bq (Ar 2 Eh (Ac (Ae 0) (Ac (Ae 1) Ag))) (gN 2)) (Bf (Bq (Ar 2 Eh (Ac (Ae 0) (Ac (Ae 1) Ag))) (gN 3)) (Bf (Dv (Az (f2 B2 (Ar 2 Al (Ac (Ae 0) (Ac (fC (.int 8)) Ag))) (fC (.int 0)))) (Ci (f2 Ax (Ae 2) (Ae 3))) Cq) (Bf (Bq (C7 (Ac (A0 Hs (Ac (f2 Ao (Ae 2) (fC (.int 0))) (Ac (f2 Ao (Ae 3) (fC (.int 0))) Ag))) (Ac (A0 Hs (Ac (f2 Ao (Ae 2) (fC (.int 1))) (Ac (f2 Ao (Ae 3) (fC (.int 1))) Ag))) Ag))) (gN 4)) (Ci (f2 Ax (Ae 4) (C7 (Ac (A0 G6 (Ac (f2 Ao (Ae 2) (fC (.int 0))) (Ac (f2 Ao (Ae 3) (fC (.int 0))) Ag))) (Ac (A0 G6 (Ac (f2 Ao (Ae 2) (fC (.int 1))) (Ac (f2 Ao (Ae 3) (fC (.int 1))) Ag))) Ag)))))))))
noncomputable def Py:FN:=fnU 5 2 Aas
noncomputable def Gd:FS:=(Dv (Az (f2 Ei (Ae 1) (Lr "KeptPoints" "points" (Ae 0)))) Lj Cq)
noncomputable def B6:FN:=fnU 2 2 Gd
noncomputable def Ke:XS:=(xIf (Az (f2 Ei (Ae 1) (Lr "KeptPoints" "points" (Ae 0)))) (Oz ["NoName"] (Na "NoName" 2 Cw (Ac (Ae 1) Ag))) xNo)
noncomputable def C4:XN:=fnX 2 2 Ke
noncomputable def Ft:FS:=(Bf (C3 (Bj "KeptPoints" "need_name" 2 B6 (Ae 0) (Ac (Ae 1) Ag))) (Lu (Lr "KeptPoints" "points" (Ae 0)) (Ae 1) (C7 (Ac (Ae 1) (Ac (Ae 2) (Ac (Ae 3) Ag))))))
noncomputable def B0:FN:=fnU 4 4 Ft
noncomputable def Jc:XS:=(Xj Lj (xOf (Lg "KeptPoints" "need_name" 2 C4 (Ae 0) (Ac (Ae 1) Ag))) xNo)
noncomputable def Dx:XN:=fnX 4 4 Jc
noncomputable def Fw:FS:=(Bf (C3 (Bj "KeptPoints" "need_name" 2 B6 (Ae 0) (Ac (Ae 1) Ag))) (C3 (Sy (Lr "KeptPoints" "points" (Ae 0)) (Ae 1))))
noncomputable def Bl:FN:=fnU 2 2 Fw
noncomputable def Jh:XS:=(Xj Lj (xOf (Lg "KeptPoints" "need_name" 2 C4 (Ae 0) (Ac (Ae 1) Ag))) xNo)
noncomputable def D7:XN:=fnX 2 2 Jh
noncomputable def Lb:FE:=(f2 Ax (C7 (Ac (Ae 0) Ag)) (Ae 1))
noncomputable def Vo:FS:=(Bf (Bq (f2 Ao (Ae 3) (Ar 2 Al (Ac (Ae 0) (Ac (A0 Cc (Ac (Ae 3) Ag)) Ag)))) (gN 4)) (Bf (Bq (A0 semTuple (Ac (Ms (Bn [none,none] (Ju Fm (Ae 2)) (MR.gTup 2 (MR.gCons (gN 0) (MR.gCons (gN 1) MR.gNil))) none Lb)) Ag)) (gN 5)) (Bf (Bq (Ar 2 Eh (Ac (Ae 0) (Ac (Ae 5) Ag))) (gN 6)) (Bf (Bq (Ar 2 Al (Ac (Ae 0) (Ac (fC (.int 5)) Ag))) (gN 7)) (Dv (Az (f2 Ei (Ae 4) (Ae 2))) (Bf (C3 (Bj "KeptPoints" "put_point" 4 Bh (Ae 1) (Ac (Ae 4) (Ac (f2 Ao (Ae 6) (fC (.int 0))) (Ac (f2 Ao (Ae 6) (fC (.int 1))) Ag))))) (Lu (Ae 2) (Ae 4) (Ae 6))) (Dv (Az (f2 Q9 (Ae 7) (fC (.int 2)))) (Bf (C3 (Bj "KeptPoints" "take_point" 2 Bl (Ae 1) (Ac (Ae 4) Ag))) (C3 (Sy (Ae 2) (Ae 4)))) (Dv (Az (f2 Q9 (Ae 7) (fC (.int 4)))) (Bf (C3 (Bj "KeptPoints" "move_point" 4 B0 (Ae 1) (Ac (Ae 4) (Ac (f2 Ao (Ae 6) (fC (.int 0))) (Ac (f2 Ao (Ae 6) (fC (.int 1))) Ag))))) (Lu (Ae 2) (Ae 4) (Ae 6))) Cq)))))))
noncomputable def Hv:FN:=fnU 8 4 Vo
noncomputable def Jr:FS:=(Dv (Az (f2 H0 (Ae 4) (Ae 2))) (C3 (Bj "KeptPoints" "put_point" 4 Bh (Ae 1) (Ac (Ae 4) (Ac (fC (.int 3)) (Ac (fC (.int 3)) Ag))))) (Dv (Az (f2 B2 (Ae 5) (fC (.int 1)))) (C3 (Bj "KeptPoints" "move_point" 4 B0 (Ae 1) (Ac (Ae 4) (Ac (fC (.int 3)) (Ac (fC (.int 3)) Ag))))) (C3 (Bj "KeptPoints" "take_point" 2 Bl (Ae 1) (Ac (Ae 4) Ag)))))
noncomputable def El:XS:=(xIf (Az (f2 H0 (Ae 4) (Ae 2))) (xOf (Lg "KeptPoints" "put_point" 4 D8 (Ae 1) (Ac (Ae 4) (Ac (fC (.int 3)) (Ac (fC (.int 3)) Ag))))) (xIf (Az (f2 B2 (Ae 5) (fC (.int 1)))) (xOf (Lg "KeptPoints" "move_point" 4 Dx (Ae 1) (Ac (Ae 4) (Ac (fC (.int 3)) (Ac (fC (.int 3)) Ag))))) (xOf (Lg "KeptPoints" "take_point" 2 D7 (Ae 1) (Ac (Ae 4) Ag)))))
noncomputable def Il:FS:=(Bq (Ae 6) (gN 3))
noncomputable def Lo:FS:=(Bf (Bq (fC .non) (gN 3)) (Bf (Bq (fC (.str "qqqqqqqq")) (gN 4)) (Bf (Bq (Ar 2 Al (Ac (Ae 0) (Ac (fC (.int 3)) Ag))) (gN 5)) (Bf (Dv (Pp (Az (f2 Je (Ae 2) fDNew)) (Az (f2 B2 (Ae 5) (fC (.int 0))))) (Bq (f2 Ao (A0 semListD (Ac (Ae 2) Ag)) (Ar 2 Al (Ac (Ae 0) (Ac (A0 Kr (Ac (Ae 2) Ag)) Ag)))) (gN 4)) Cq) (Bf (Abt Jr El ["NoName"] 6 Il) (Ci (Th (f2 Nx (Ae 3) (fC .non)) (f2 B2 (Wb ["NoName"] "word" (Ae 3)) (Ae 4)))))))))
noncomputable def Ep:FN:=fnU 7 3 Lo
noncomputable def Tf:FS:=(Ci (Th (Ls Ka Ka (f2 Ao (Ae 1) (fC (.int 0))) (f2 Ao (Ae 0) (fC (.int 1))) (f2 Ao (Ae 1) (fC (.int 2)))) (Ls Ka Ka (f2 Ao (Ae 1) (fC (.int 1))) (f2 Ao (Ae 0) (fC (.int 2))) (f2 Ao (Ae 1) (fC (.int 3))))))
noncomputable def Mf:FN:=fnU 2 2 Tf
noncomputable def Lm:FE:=(Ae 0)
noncomputable def Hx:FT:=(Pw (Ar 2 Mf (Ac (Ae 0) (Ac (Ae 1) Ag))))
noncomputable def Pn:FS:=(Ci (Bn [none,some 1] (Bu (Ae 0)) (gN 0) (some Hx) Lm))
noncomputable def Ij:FN:=fnU 2 2 Pn
noncomputable def Jl:FE:=(A0 Cc (Ac (Ar 2 Ij (Ac (Ae 1) (Ac (Ae 0) Ag))) Ag))
noncomputable def Qg:FS:=(Ci (A0 semTuple (Ac (Bn [none,some 0] (Bu (Ae 1)) (gN 0) none Jl) Ag)))
noncomputable def Hw:FN:=fnU 2 2 Qg
noncomputable def G8:FE:=(f2 Ka (Ae 0) (Ae 1))
noncomputable def Kw:FS:=(Ci (Th (f2 He (Ae 0) (Ae 1)) (A0 Qn (Ac (Bn [none,none] (Aad (Ac (Ae 0) (Ac (Ae 1) Ag))) (MR.gTup 2 (MR.gCons (gN 0) (MR.gCons (gN 1) MR.gNil))) none G8) Ag))))
noncomputable def Dg:FN:=fnU 2 2 Kw
noncomputable def G7:FE:=(Ae 0)
noncomputable def b_many_below_1t:FT:=(Pw (Ar 2 Dg (Ac (Ae 0) (Ac (Ae 1) Ag))))
noncomputable def N2:FS:=(Ci (A0 Cc (Ac (Bn [none,some 1] (Bu (Ae 0)) (gN 0) (some b_many_below_1t) G7) Ag)))
noncomputable def Fy:FN:=fnU 2 2 N2
noncomputable def Ql:FS:=(Ci (C7 (Ac (f2 Ao (Ae 0) (fC (.int 1))) (Ac (f2 Ao (Ae 0) (fC (.int 2))) Ag))))
noncomputable def Ht:FN:=fnU 1 1 Ql
noncomputable def G5:FE:=(Ar 2 Fy (Ac (Ae 1) (Ac (Ae 0) Ag)))
noncomputable def G3:FE:=(Ar 1 Ht (Ac (Ae 0) Ag))
noncomputable def Od:FS:=(Bf (Bq (Bn [none] (Bu (Ae 0)) (gN 0) none G3) (gN 1)) (Ci (A0 semTuple (Ac (Bn [none,some 1] (Bu (Ae 1)) (gN 0) none G5) Ag))))
noncomputable def Hg:FN:=fnU 2 1 Od
noncomputable def Lq:FS:=(Ci (A0 Qs (Ac (Ar 1 Hg (Ac (Ae 0) Ag)) Ag)))
noncomputable def Dr:FN:=fnU 1 1 Lq
noncomputable def Rt:FE:=(fC (.int 1))
noncomputable def Mx:FT:=(Pw (Ar 2 Dg (Ac (Ae 3) (Ac (C7 (Ac (Ae 1) (Ac (Ae 2) Ag))) Ag))))
noncomputable def Qq:FE:=(fC (.int 1))
noncomputable def Nb:FT:=(Pw (Ar 2 Dg (Ac (C7 (Ac (Ae 1) (Ac (Ae 2) Ag))) (Ac (Ae 3) Ag))))
noncomputable def T8:FS:=(Bf (Dv (Az (f2 B2 (Ae 1) (fC (.int 0)))) (Ci (Ae 0)) Cq) (Bf (Dv (Az (f2 B2 (Ae 1) (fC (.int 1)))) (Ci (Ar 1 Dr (Ac (Ae 0) Ag))) Cq) (Bf (Dv (Az (f2 B2 (Ae 1) (fC (.int 2)))) (Ci (A0 Cc (Ac (Bn [none,none,none,some 2] (Bu (Ae 0)) (MR.gTup 3 (MR.gCons (gN 0) (MR.gCons (gN 1) (MR.gCons (gN 2) MR.gNil)))) (some Nb) Qq) Ag))) Cq) (Bf (Dv (Az (f2 B2 (Ae 1) (fC (.int 3)))) (Ci (A0 Cc (Ac (Bn [none,none,none,some 2] (Bu (Ae 0)) (MR.gTup 3 (MR.gCons (gN 0) (MR.gCons (gN 1) (MR.gCons (gN 2) MR.gNil)))) (some Mx) Rt) Ag))) Cq) (Ci (f2 Ao (Ar 2 Hw (Ac (Ae 0) (Ac (C7 (Ac (Ae 2) Ag)) Ag))) (fC (.int 0))))))))
noncomputable def U5:FN:=fnU 3 3 T8
noncomputable def C9:FE:=(Ar 1 Ht (Ac (Ae 0) Ag))
noncomputable def Fq:FS:=(Ci (Ms (Bn [none] (Ju Sr (Lr "KeptPoints" "points" (Ae 0))) (gN 0) none C9)))
noncomputable def Bm:FN:=fnU 1 1 Fq
noncomputable def G4:FE:=(Ae 0)
noncomputable def b_many_above_1t:FT:=(Pw (Ar 2 Dg (Ac (Ae 1) (Ac (Ae 0) Ag))))
noncomputable def Nv:FS:=(Ci (A0 Cc (Ac (Bn [none,some 1] (Bu (Ae 0)) (gN 0) (some b_many_above_1t) G4) Ag)))
noncomputable def Hj:FN:=fnU 2 2 Nv
noncomputable def Ku:FS:=(Ci (Ar 2 Hj (Ac (Bj "KeptPoints" "places_now" 1 Bm (Ae 0) Ag) (Ac (C7 (Ac (Ae 1) (Ac (Ae 2) Ag))) Ag))))
noncomputable def C6:FN:=fnU 3 3 Ku
noncomputable def Kl:FS:=(Ci (Ar 2 Fy (Ac (Bj "KeptPoints" "places_now" 1 Bm (Ae 0) Ag) (Ac (C7 (Ac (Ae 1) (Ac (Ae 2) Ag))) Ag))))
noncomputable def C5:FN:=fnU 3 3 Kl
noncomputable def Fo:FS:=(Ci (W0 (Lr "KeptPoints" "points" (Ae 0))))
noncomputable def Bk:FN:=fnU 1 1 Fo
noncomputable def G1:FS:=(Ci (f2 Ao (Ar 2 Hw (Ac (Bj "KeptPoints" "points_now" 1 Bk (Ae 0) Ag) (Ac (C7 (Ac (Ae 1) Ag)) Ag))) (fC (.int 0))))
noncomputable def Cr:FN:=fnU 2 2 G1
noncomputable def Ge:FS:=(Ci (Ar 1 Dr (Ac (Bj "KeptPoints" "points_now" 1 Bk (Ae 0) Ag) Ag)))
noncomputable def Cm:FN:=fnU 1 1 Ge
noncomputable def Qd:FS:=(Bf (Dv (Az (f2 B2 (Ae 1) (fC (.int 0)))) (Ci (Bj "KeptPoints" "points_now" 1 Bk (Ae 0) Ag)) Cq) (Bf (Dv (Az (f2 B2 (Ae 1) (fC (.int 1)))) (Ci (Bj "KeptPoints" "pairs_now" 1 Cm (Ae 0) Ag)) Cq) (Bf (Dv (Az (f2 B2 (Ae 1) (fC (.int 2)))) (Ci (Bj "KeptPoints" "below_now" 3 C5 (Ae 0) (Ac (f2 Ao (Ae 2) (fC (.int 0))) (Ac (f2 Ao (Ae 2) (fC (.int 1))) Ag)))) Cq) (Bf (Dv (Az (f2 B2 (Ae 1) (fC (.int 3)))) (Ci (Bj "KeptPoints" "above_now" 3 C6 (Ae 0) (Ac (f2 Ao (Ae 2) (fC (.int 0))) (Ac (f2 Ao (Ae 2) (fC (.int 1))) Ag)))) Cq) (Ci (Bj "KeptPoints" "box_now" 2 Cr (Ae 0) (Ac (Ae 2) Ag)))))))
noncomputable def Rp:FN:=fnU 3 3 Qd
noncomputable def Ea:FS:=(Bf (Bq (Mp "list" Kt (Ae 5) (Ac (Ar 2 Al (Ac (Ae 0) (Ac (A0 Cc (Ac (Ae 5) Ag)) Ag))) Ag)) (MR.gTup 2 (MR.gCons (gN 8) (MR.gCons (gN 9) MR.gNil)))) (Dv (Az (f2 He (Ar 3 Rp (Ac (Ae 1) (Ac (Ae 8) (Ac (Ae 9) Ag)))) (Ar 3 U5 (Ac (Ae 6) (Ac (Ae 8) (Ac (Ae 9) Ag)))))) (Ci (fC (.bl false))) Cq))
noncomputable def E6:FE:=(C7 (Ac (fC (.int 4)) (Ac (Ae 0) Ag)))
noncomputable def Hc:FE:=(C7 (Ac (fC (.int 2)) (Ac (Ae 0) Ag)))
noncomputable def Ha:FE:=(C7 (Ac (fC (.int 3)) (Ac (Ae 0) Ag)))
noncomputable def J8:FS:=(Bf (Bq (f2 Ax (f2 Ax (E5 (Ac (C7 (Ac (fC (.int 0)) (Ac (C7 Ag) Ag))) (Ac (C7 (Ac (fC (.int 1)) (Ac (C7 Ag) Ag))) Ag))) (Bn [none] (Bu (Ae 3)) (gN 0) none Hc)) (Bn [none] (Bu (Ae 3)) (gN 0) none Ha)) (gN 5)) (Bf (Bq (f2 Ax (Ae 5) (Bn [none] (Bu (Ae 4)) (gN 0) none E6)) (gN 5)) (Bf (Bq (Ar 1 Dw (Ac (Ae 2) Ag)) (gN 6)) (Bf (Lf (E2 (Ac (A0 Cc (Ac (Ae 5) Ag)) Ag)) (gN 7) Ea) (Ci (fC (.bl true)))))))
noncomputable def Dy:FN:=fnU 10 5 J8
noncomputable def Hi:FE:=(Mp "list" Kt (Ae 1) (Ac (Ar 2 Al (Ac (Ae 2) (Ac (A0 Cc (Ac (Ae 1) Ag)) Ag))) Ag))
noncomputable def Hk:FE:=(Ae 0)
noncomputable def Hl:FE:=(f2 Ax (Ae 0) (fC (.str "b")))
noncomputable def Hh:FE:=(f2 Ax (fC (.str "zzzzzzz")) (Ae 0))
noncomputable def So:FS:=(Bf (Bq (fC (.str "abcdefghijklmnopqrstuvwxyz")) (gN 2)) (Bf (Bq (f2 Ax (f2 Ax (Bn [none] (Mq (Ae 2)) (gN 0) none Hk) (Bn [none] (Mq (Ae 2)) (gN 0) none Hl)) (Bn [none] (Mq (Ae 2)) (gN 0) none Hh)) (gN 3)) (Bf (Bq (f2 Ax (Ae 3) (E5 (Ac (fC (.str "put")) (Ac (fC (.str "take")) (Ac (fC (.str "move")) (Ac (fC (.str "points")) (Ac (fC (.str "counts")) (Ac (fC (.str "pairs")) (Ac (fC (.str "halves")) (Ac (fC (.str "below")) (Ac (fC (.str "above")) (Ac (fC (.str "abcdefgh")) Ag)))))))))))) (gN 3)) (Bf (Bq (f2 Ax (Ae 3) (E5 (Ac (fC (.str "mall")) (Ac (fC (.str "mill")) (Ac (fC (.str "mell")) (Ac (fC (.str "abcxefgh")) (Ac (fC (.str "millmal")) (Ac (fC (.str "mellmal")) (Ac (fC (.str "ba")) Ag))))))))) (gN 3)) (Ci (Bn [none,some 3,some 0] (E2 (Ac (Ae 1) Ag)) (gN 0) none Hi))))))
noncomputable def Jx:FN:=fnU 4 2 So
noncomputable def Uv:FS:=(Dv (Xq (Pw (Ar 5 Dy (Ac (Ae 2) (Ac (Ar 1 Kn (Ac (Ae 13) Ag)) (Ac (Ae 13) (Ac (Ae 8) (Ac (Ae 9) Ag)))))))) (Ci (fC (.bl false))) Cq)
noncomputable def Uo:FS:=(Dv (Xq (Pw (Ar 5 Dy (Ac (Ae 2) (Ac (Ae 12) (Ac (Ae 13) (Ac (Ae 8) (Ac (Ae 9) Ag)))))))) (Ci (fC (.bl false))) Cq)
noncomputable def Ug:FS:=(C3 (Ar 4 Hv (Ac (Ae 2) (Ac (Ae 10) (Ac (Ae 11) (Ac (Ae 5) Ag))))))
noncomputable def P2:FS:=(Bf (Bq (f2 Ao (Ae 3) (Ar 2 Al (Ac (Ae 2) (Ac (fC (.int 2)) Ag)))) (K6 3 (MR.gCons (gN 10) (MR.gCons (gN 11) (MR.gCons (gN 5) MR.gNil))))) (Bf (Lf (E2 (Ac (Ar 2 Al (Ac (Ae 2) (Ac (f2 Ao (E5 (Ac (fC (.int 2)) (Ac (fC (.int 13)) Ag))) (Ar 2 Al (Ac (Ae 2) (Ac (fC (.int 2)) Ag)))) Ag))) Ag)) (gN 6) Ug) (Bf (Dv (Pp (Az (f2 B2 (Ar 2 Al (Ac (Ae 2) (Ac (fC (.int 2)) Ag))) (fC (.int 0)))) (Xq (Pw (Ar 3 Ep (Ac (Ae 2) (Ac (Ae 10) (Ac (Ae 11) Ag))))))) (Ci (fC (.bl false))) Cq) (Lf (Bu (Ae 3)) (K6 3 (MR.gCons (gN 12) (MR.gCons (gN 13) (MR.gCons (gN 14) MR.gNil)))) Uo))))
noncomputable def V3:FE:=(Ar 2 Py (Ac (Ae 1) (Ac (Ae 2) Ag)))
noncomputable def V1:FE:=(Ar 2 Eh (Ac (Ae 1) (Ac (Ae 2) Ag)))
noncomputable def U0:FS:=(C3 (Ar 4 Hv (Ac (Ae 2) (Ac (f2 Ao (f2 Ao (Ae 3) (Ae 4)) (fC (.int 0))) (Ac (f2 Ao (f2 Ao (Ae 3) (Ae 4)) (fC (.int 1))) (Ac (Ae 5) Ag))))))
noncomputable def Nw:FS:=(Bf (Bq (Ar 2 Jx (Ac (Ae 2) (Ac (f2 Eu (fC (.int 1)) (Ar 2 Al (Ac (Ae 2) (Ac (f2 Ao (E5 (Ac (fC (.int 6)) (Ac (fC (.int 60)) Ag))) (Ar 2 Al (Ac (Ae 2) (Ac (fC (.int 2)) Ag)))) Ag)))) Ag))) (gN 5)) (Bf (C3 (Mp "list" Jn (Ae 3) (Ac (E5 (Ac (Oe "KeptPoints" 1 Bb Ag) (Ac fDNew (Ac (Ae 5) Ag)))) Ag))) (Lf (E2 (Ac (Ar 2 Al (Ac (Ae 2) (Ac (fC (.int 41)) Ag))) Ag)) (gN 6) U0)))
noncomputable def P8:FS:=(Bf (Bq (Ar 1 K8 (Ac (Ae 1) Ag)) (gN 2)) (Bf (Bq (E5 Ag) (gN 3)) (Bf (Lf (E2 (Ac (fC (.int 2)) Ag)) (gN 4) Nw) (Bf (Bq (f2 Eu (Ar 1 Dw (Ac (f2 Ao (f2 Ao (Ae 3) (fC (.int 0))) (fC (.int 1))) Ag)) (Ar 1 Dw (Ac (f2 Ao (f2 Ao (Ae 3) (fC (.int 1))) (fC (.int 1))) Ag))) (gN 7)) (Bf (Bq (Bn [none,some 2,some 7] (E2 (Ac (fC (.int 2)) Ag)) (gN 0) none V1) (gN 8)) (Bf (Bq (Bn [none,some 2,some 7] (E2 (Ac (fC (.int 2)) Ag)) (gN 0) none V3) (gN 9)) (Bf (Lf (E2 (Ac (fC (.int 8)) Ag)) (gN 4) P2) (Lf (Bu (Ae 3)) (K6 3 (MR.gCons (gN 12) (MR.gCons (gN 13) (MR.gCons (gN 14) MR.gNil)))) Uv))))))))
noncomputable def Ait:FS:=(Bf (Lf (Bu (f2 Eu (fSl semSl (Ae 0) Kv (Q5 (fC (.int 1)))) (E5 (Ac (Ar 1 Gm (Ac (Ae 0) Ag)) Ag)))) (gN 1) P8) (Ci (fC (.bl true))))
noncomputable def Tj:FN:=fnU 15 1 Ait
theorem Aed{L:UH}{n:Nat}{l:List U}{i:Int}(h:L[n]? = some (.lst l))(h0:0<=i)(h1:i < l.length)(hs:l.length < 1000000):Kt (.ref n) [.int i] L=some (l[i.toNat]'(by omega),L.set n (.lst (l.eraseIdx i.toNat))):=by
 have hk:seqIndex? i l.length=some i.toNat:=by unfold seqIndex?;simp;omega
 have hg:l[i.toNat]? = some (l[i.toNat]'(by omega)):=cK (by omega)
 simp only[Kt,Fx h,aA,hk,hg,aD]
 rw[if_pos ⟨by omega,by omega⟩]
theorem Mn{β γ:Type}(f:β->γ)(l:List β)(i:Nat):(l.map f).eraseIdx i=(l.eraseIdx i).map f:=by
 rw[iF,iF,eG,pS,List.map_drop]
theorem Rf{β:Type}:∀ (l:List β) (i:Nat) (h:i < l.length),(l[i]'h::l.eraseIdx i).Perm l
 | a::l,0,_=>by simp
 | a::l,i+1,h=>by
  have ih:=Rf l i (by simpa using h)
  simp only[List.getElem_cons_succ,List.eraseIdx_cons_succ]
  exact (List.Perm.swap _ _ _).trans (ih.cons a)
inductive pop_turnS_I(β:Type)(rep:β->U)(L:UH)(d:Nat)(n:Nat)(B:Int)(l:List β)(x0:Option U):Prop
 | mk (r:β) (L':UH) (l':List β) (h0:(Mp "list" Kt (Ae 1) (Ac (Ar 2 Al (Ac (Ae 2) (Ac (A0 Cc (Ac (Ae 1) Ag)) Ag))) Ag)) [x0,some (.ref n),some (.ref d)] L=some (rep r,L')) (h1:Seed L' d (B+1)) (h2:L'[n]? = some (.lst (l'.map rep))) (h3:l'.length+1=l.length) (h4:(∀ L0,Ex d L0 L->L0.length<=n->Ex d L0 L')) (h5:(r::l').Perm l):pop_turnS_I β rep L d n B l x0
theorem Aa6{β:Type}(rep:β->U){L:UH}{d n:Nat}{B:Int}{l:List β}(D:Seed L d B)(hB:B<=1000000000)(hd:n≠d)(h:L[n]? = some (.lst (l.map rep)))(hl:0 < l.length)(hs:l.length < 1000)(x0:Option U):pop_turnS_I β rep L d n B l x0:=by
 obtain ⟨i,L1,e1,i0,i1,D1,x1⟩:=Cd (many:=((l.map rep).length:Nat)) D (by omega) (by simp;omega) (by simp;omega)
 have h':L1[n]? = some (.lst (l.map rep)):=x1.get h hd
 have hi:i < l.length:=by simpa using i1
 have hp:=Aed h' i0 i1 (by simp;omega)
 refine ⟨l[i.toNat]'(by omega),L1.set n (.lst ((l.map rep).eraseIdx i.toNat)),l.eraseIdx i.toNat,?_,D1.set hd _,?_,?_,fun L0 x0 hn=>(x0.trans x1).set hn _,Rf l i.toNat (by omega)⟩
 ·have ty:=Ut h
  have e1':=e1
  simp only[bB] at e1'
  simp[ty,Iy h,e1',hp]
 ·rw[bU (by have:=(aQ.mp h').1;exact this)]
  rw[Mn]
 ·rw[mH,if_pos (by omega)];omega
noncomputable def abc:Str := "abcdefghijklmnopqrstuvwxyz"
noncomputable def K4:List Nat:=abc.cps.toList
theorem Aa4:abc.cps.all (· < 128)=true:=by decide +kernel
theorem Rb:K4.length=26:=by decide +kernel
noncomputable def one(c:Nat):Str:=⟨#[c]⟩
noncomputable def Qt:List Str:=K4.map one++K4.map (fun c=>one c ++ "b")++K4.map (fun c => "zzzzzzz" ++ one c)
noncomputable def Ln:List Str:=["put","take","move","points","counts","pairs","halves","below","above","abcdefgh"]
noncomputable def Lx:List Str:=["mall","mill","mell","abcxefgh","millmal","mellmal","ba"]
noncomputable def Lv:List Str:=Qt++Ln
noncomputable def spare3:List Str:=Lv++Lx
theorem Uh:spare3.Nodup:=by decide +kernel
theorem X0:spare3.length=95:=by decide +kernel
theorem Am6(c:Nat):(one c).length+("b" : Str).length<=16777216:=by show 1+_<=_;decide
theorem Amv(c:Nat):("zzzzzzz" : Str).length+(one c).length<=16777216:=by show _+1<=_;decide
theorem Qj(fe:FE)(f:Nat->Str)(hf:∀ c L,fe [some (.str (one c))] L=some (.str (f c),L))(x0 x1 x3:Option U)(L:UH) :
  ∃ L',Bn [none] (Mq (Ae 2)) (gN 0) none fe [x0,x1,some (.str abc),x3] L=some (.ref L.length,L')/\L'=L++[.lst ((K4.map f).map U.str)]:=by
 have hi:Mq (Ae 2) [x0,x1,some (.str abc),x3] L=some (.seq (K4.map fun c=>.str (one c)),L):=by
  show ((some (U.str abc,L)).bind fun p=>_)=_
  rw[aA]
  show (if abc.cps.all (· < 128)=true then some (IU.seq (Xv abc),L) else none)=_
  rw[if_pos Aa4];rfl
 have hc:∃ x:UH,x=[]/\Bn [none] (Mq (Ae 2)) (gN 0) none fe [x0,x1,some (.str abc),x3] L=some (.ref (L++x).length,L++x++[.lst (K4.map fun c=>.str (f c))]):=by
  obtain ⟨ys,δ',M,e,⟨z,hδ⟩,hM,hys⟩:=Yi (ix:=[none]) (it:=.seq (K4.map fun c=>.str (one c))) (g:=gN 0) (tt:=none) (fe:=fe) (us:=K4.map fun c=>.str (one c)) (δ:=[x0,x1,some (.str abc),x3]) (L:=L) (L0:=L)
   (fun k acc δ' M=>(∃ z,δ'=[z])/\M=L/\acc=(K4.take k).map fun c=>.str (f c)) hi (by simp[IU.size]) ⟨⟨none,rfl⟩,rfl,by simp⟩
   (fun k acc δ L _ _=>rfl)
   (fun k u acc δ M hu zz=>by
    obtain ⟨⟨z,hδ⟩,hM,ha⟩:=zz
    subst hδ;subst hM
    rw[bO] at hu
    obtain ⟨c,hc,rfl⟩:=aM.mp hu
    have hk:k < K4.length:=(aQ.mp hc).1
    refine ⟨[some (.str (one c))],M,rfl,true,M,rfl,fun _=>⟨_,M,hf c M,?_,⟨_,rfl⟩,rfl,?_⟩,fun h=>by cases h⟩
    ·rw[ha,bB,fE];have:=Rb;omega
    ·rw[ha,iB,hc];simp)
  refine ⟨[],rfl,?_⟩
  rw[bB,oK] at hys
  rw[e,hM,hys];simp
 obtain ⟨x,rfl,e⟩:=hc
 refine ⟨_,?_,rfl⟩
 rw[e];simp
theorem U3{L:UH}{n m:Nat}{a b:List Str}(h1:L[n]? = some (.lst (a.map U.str)))(h2:L[m]? = some (.lst (b.map U.str)))(hs:a.length+b.length<=1000):Ax (.ref n) (.ref m) L=some (.ref L.length,L++[.lst ((a++b).map U.str)]):=by
 unfold Ax
 simp only[Fx h1,Fx h2,aA]
 rw[if_pos (B1 (by simp;omega)),eG]
noncomputable def Adu:FS:=(Bq (f2 Ax (f2 Ax (Bn [none] (Mq (Ae 2)) (gN 0) none Hk) (Bn [none] (Mq (Ae 2)) (gN 0) none Hl)) (Bn [none] (Mq (Ae 2)) (gN 0) none Hh)) (gN 3))
inductive n_let_ok_I(x0:Option U)(x1:Option U)(x3:Option U)(L:UH):Prop
 | mk (n:Nat) (L':UH) (h0:Adu [x0,x1,some (.str abc),x3] L=some (.nx [x0,x1,some (.str abc),some (.ref n)],L')) (h1:L'[n]? = some (.lst (Qt.map U.str))) (h2:L.length<=n) (h3:Gw L L'):n_let_ok_I x0 x1 x3 L
theorem Afe(x0 x1 x3:Option U)(L:UH):n_let_ok_I x0 x1 x3 L:=by
 obtain ⟨L1,e1,h1⟩:=Qj Hk one (fun c L=>by simp[Hk]) x0 x1 x3 L
 obtain ⟨K2,e2,h2⟩:=Qj Hl (fun c=>one c ++ "b") (fun c L=>by
  unfold Hl
  rw[f2_eq]
  show Ax (.str (one c)) (.str "b") L=_
  unfold Ax
  simp only
  rw[if_pos (B1 (Am6 c))]) x0 x1 x3 L1
 have k1:K2[L.length]? = some (.lst ((K4.map one).map U.str)):=by rw[h2,h1];simp
 have k2:K2[L1.length]? = some (.lst ((K4.map fun c=>one c ++ "b").map U.str)):=by rw[h2];simp
 have c1:=U3 k1 k2 (by simp[Rb])
 generalize hM:K2++[HU.lst ((K4.map one++K4.map fun c=>one c ++ "b").map U.str)]=M at c1
 obtain ⟨L3,e3,h3⟩:=Qj Hh (fun c => "zzzzzzz" ++ one c) (fun c L=>by
  unfold Hh
  rw[f2_eq]
  show Ax (.str "zzzzzzz") (.str (one c)) L=_
  unfold Ax
  simp only
  rw[if_pos (B1 (Amv c))]) x0 x1 x3 M
 have k3:L3[K2.length]? = some (.lst ((K4.map one++K4.map fun c=>one c ++ "b").map U.str)):=by rw[h3,<- hM];simp
 have k4:L3[M.length]? = some (.lst ((K4.map fun c => "zzzzzzz" ++ one c).map U.str)):=by rw[h3];simp
 have c2:=U3 k3 k4 (by simp[Rb])
 have g:Gw L L3:=((Gw.trans ⟨_,h1⟩ ⟨_,h2⟩:Gw L K2).trans ⟨_,hM.symm⟩).trans ⟨_,h3⟩
 refine ⟨L3.length,L3++[.lst (Qt.map U.str)],?_,by simp,g.le,g.trans (Gw.new _ _)⟩
 unfold Adu
 rw[Cy,f2_eq,f2_eq,e1,aA,e2,aA,c1,aA,e3,aA,c2]
 rfl
theorem Alj(a b c d e f g h i j:Str)(δ:UE)(L:UH):(E5 (Ac (fC (.str a)) (Ac (fC (.str b)) (Ac (fC (.str c)) (Ac (fC (.str d)) (Ac (fC (.str e)) (Ac (fC (.str f)) (Ac (fC (.str g)) (Ac (fC (.str h)) (Ac (fC (.str i)) (Ac (fC (.str j)) Ag))))))))))) δ L=some (.ref L.length,L++[.lst ([a,b,c,d,e,f,g,h,i,j].map U.str)]):=by
 have sm:∀ a b c d e f g h i j:U,Eb [a,b,c,d,e,f,g,h,i,j].length=true:=fun _ _ _ _ _ _ _ _ _ _=>B1 (by show 10<=16777216;decide)
 simp only[Mg,fCons_eq,fC_eq,fNil_eq,aA,aD]
 rw[if_pos (sm _ _ _ _ _ _ _ _ _ _)]
 rfl
theorem Ani(a b c d e f g:Str)(δ:UE)(L:UH):(E5 (Ac (fC (.str a)) (Ac (fC (.str b)) (Ac (fC (.str c)) (Ac (fC (.str d)) (Ac (fC (.str e)) (Ac (fC (.str f)) (Ac (fC (.str g)) Ag)))))))) δ L=some (.ref L.length,L++[.lst ([a,b,c,d,e,f,g].map U.str)]):=by
 have sm:∀ a b c d e f g:U,Eb [a,b,c,d,e,f,g].length=true:=fun _ _ _ _ _ _ _=>B1 (by show 7<=16777216;decide)
 simp only[Mg,fCons_eq,fC_eq,fNil_eq,aA,aD]
 rw[if_pos (sm _ _ _ _ _ _ _)]
 rfl
theorem An3:Ln.length=10:=rfl
theorem Aod:Lx.length=7:=rfl
theorem Ak7:Qt.length=78:=by decide +kernel
theorem Akr:Lv.length=88:=by decide +kernel
inductive names_ok_I(L:UH)(d:Nat)(many:Nat)(B:Int):Prop
 | mk (n:Nat) (names:List Str) (L':UH) (h0:Jx [.ref d,.int many] L=some (.ref n,L')) (h1:L'[n]? = some (.lst (names.map U.str))) (h2:names.length=many) (h3:names.Nodup) (h4:(∀ x∈names,x∈spare3)) (h5:Seed L' d (B+many)) (h6:Ex d L L') (h7:L.length<=n):names_ok_I L d many B
theorem Afq{L:UH}{d many:Nat}{B:Int}(D:Seed L d B)(hB:B<=100000000)(hm:many<=95):names_ok_I L d many B:=by
 have s1:(Bq (fC (.str "abcdefghijklmnopqrstuvwxyz")) (gN 2)) [some (.ref d),some (.int many),none,none] L=some (.nx [some (.ref d),some (.int many),some (.str abc),none],L):=rfl
 obtain ⟨n1,L1,e1,k1,hn1,g1⟩:=Afe (some (.ref d)) (some (.int many)) none L
 have k1':(L1++[HU.lst (Ln.map U.str)])[n1]? = some (.lst (Qt.map U.str)):=(Gw.new L1 _).get k1
 have c2:=U3 k1' (b:=Ln) (m:=L1.length) (by simp) (by rw[Ak7,An3];decide)
 have s2:(Bq (f2 Ax (Ae 3) (E5 (Ac (fC (.str "put")) (Ac (fC (.str "take")) (Ac (fC (.str "move")) (Ac (fC (.str "points")) (Ac (fC (.str "counts")) (Ac (fC (.str "pairs")) (Ac (fC (.str "halves")) (Ac (fC (.str "below")) (Ac (fC (.str "above")) (Ac (fC (.str "abcdefgh")) Ag)))))))))))) (gN 3)) [some (.ref d),some (.int many),some (.str abc),some (.ref n1)] L1=some (.nx [some (.ref d),some (.int many),some (.str abc),some (.ref (L1++[HU.lst (Ln.map U.str)]).length)],L1++[HU.lst (Ln.map U.str)]++[.lst (Lv.map U.str)]):=by
  have v3:Ae 3 [some (.ref d),some (.int many),some (.str abc),some (.ref n1)] L1=some (.ref n1,L1):=rfl
  have sA:=Alj "put" "take" "move" "points" "counts" "pairs" "halves" "below" "above" "abcdefgh" [some (.ref d),some (.int many),some (.str abc),some (.ref n1)] L1
  rw[Cy,f2_eq,v3,aA,sA,aA]
  show (Ax (.ref n1) (.ref L1.length) (L1++[HU.lst (Ln.map U.str)])).bind _=_
  rw[c2]
  rfl
 generalize hK2:L1++[HU.lst (Ln.map U.str)]=K1 at s2
 have k2:(K1++[HU.lst (Lv.map U.str)])[K1.length]? = some (.lst (Lv.map U.str)):=by simp
 have g2:Gw L (K1++[HU.lst (Lv.map U.str)]):=by rw[<- hK2];exact (g1.trans (Gw.new L1 _)).trans (Gw.new _ _)
 have gK:Gw L K1:=by rw[<- hK2];exact g1.trans (Gw.new L1 _)
 generalize hK3:K1++[HU.lst (Lv.map U.str)]=K2 at s2 k2 g2
 have k2':(K2++[HU.lst (Lx.map U.str)])[K1.length]? = some (.lst (Lv.map U.str)):=(Gw.new K2 _).get k2
 have c3:=U3 k2' (b:=Lx) (m:=K2.length) (by simp) (by rw[Akr,Aod];decide)
 have s3:(Bq (f2 Ax (Ae 3) (E5 (Ac (fC (.str "mall")) (Ac (fC (.str "mill")) (Ac (fC (.str "mell")) (Ac (fC (.str "abcxefgh")) (Ac (fC (.str "millmal")) (Ac (fC (.str "mellmal")) (Ac (fC (.str "ba")) Ag))))))))) (gN 3)) [some (.ref d),some (.int many),some (.str abc),some (.ref K1.length)] K2=some (.nx [some (.ref d),some (.int many),some (.str abc),some (.ref (K2++[HU.lst (Lx.map U.str)]).length)],K2++[HU.lst (Lx.map U.str)]++[.lst (spare3.map U.str)]):=by
  have v3:Ae 3 [some (.ref d),some (.int many),some (.str abc),some (.ref K1.length)] K2=some (.ref K1.length,K2):=rfl
  have sB:=Ani "mall" "mill" "mell" "abcxefgh" "millmal" "mellmal" "ba" [some (.ref d),some (.int many),some (.str abc),some (.ref K1.length)] K2
  rw[Cy,f2_eq,v3,aA,sB,aA]
  show (Ax (.ref K1.length) (.ref K2.length) (K2++[HU.lst (Lx.map U.str)])).bind _=_
  rw[c3]
  rfl
 generalize hK4:K2++[HU.lst (Lx.map U.str)]=K3 at s3
 have g3:Gw L (K3++[HU.lst (spare3.map U.str)]):=by rw[<- hK4];exact (g2.trans (Gw.new K2 _)).trans (Gw.new _ _)
 have gK3:Gw L K3:=by rw[<- hK4];exact g2.trans (Gw.new K2 _)
 have k4:(K3++[HU.lst (spare3.map U.str)])[K3.length]? = some (.lst (spare3.map U.str)):=by simp
 have D4:=D.gw g3
 have x4:=g3.ex d
 have dl:=D.lt
 have le3:=gK3.le
 generalize K3++[HU.lst (spare3.map U.str)]=M at s3 k4 D4 x4
 generalize K3.length=sp at s3 k4 le3
 have hi:E2 (Ac (Ae 1) Ag) [some (.ref d),some (.int many),some (.str abc),some (.ref sp)] M=some (.seq (Cp 0 many),M):=Ie rfl (by omega)
 obtain ⟨ys,δ',M',e,⟨z,hδ⟩,vs,rest,hvs,hlv,hlr,hp,hat,DM,xM⟩:=Yi (ix:=[none,some 3,some 0]) (it:=.seq (Cp 0 many)) (g:=gN 0) (tt:=none) (fe:=Hi) (us:=Cp 0 many) (δ:=[some (.ref d),some (.int many),some (.str abc),some (.ref sp)]) (L:=M) (L0:=M)
   (fun k acc δ' M=>(∃ z,δ'=[z,some (.ref sp),some (.ref d)])/\∃ (vs rest:List Str),acc=vs.map U.str/\vs.length=k/\rest.length+k=95/\(vs++rest).Perm spare3/\M[sp]? = some (.lst (rest.map U.str))/\Seed M d (B+k)/\Ex d L M)
   hi (by simp[IU.size]) ⟨⟨none,rfl⟩,[],spare3,rfl,rfl,by rw[X0],by simp,k4,by simpa using D4,x4⟩
   (fun k acc δ L _ _=>rfl)
   (fun k u acc δ M hu zz=>by
    obtain ⟨⟨z,hδ⟩,vs,rest,hvs,hlv,hlr,hp,hat,DM,xM⟩:=zz
    subst hδ
    obtain ⟨hk,rfl⟩:=Gx hu
    obtain ⟨r,M',l',e,D',hat',hl',hx',hperm⟩:=Aa6 U.str DM (by omega) (by omega) hat (by omega) (by omega) (some (.int (0+(k:Int))))
    have ha:acc.length < 16777216:=by rw[hvs,bB,hlv];omega
    refine ⟨[some (.int (0+k)),some (.ref sp),some (.ref d)],M,rfl,true,M,rfl,fun _=>⟨.str r,M',?_,ha,⟨_,rfl⟩,vs++[r],l',by simp[hvs],by simp[hlv],by omega,?_,hat',?_,hx' L xM le3⟩,fun h=>by cases h⟩
    ·unfold Hi;exact e
    ·refine List.Perm.trans ?_ hp
     rw[cA]
     exact List.Perm.append_left vs hperm
    ·have:B+((k+1:Nat):Int)=B+(k:Int)+1:=by omega
     rw[this];exact D')
 rw[Ia] at hlv DM
 have hnd:(vs++rest).Nodup:=hp.nodup_iff.mpr Uh
 rw[kL] at hnd
 refine ⟨M'.length,vs,M'++[.lst ys],?_,by rw[hvs];simp,hlv,hnd.1,fun x hx=>hp.mem_iff.mp (dR _ hx),DM.new _,xM.trans (Ex.new d _ _),xM.le⟩
 have sp:So=Bf (Bq (fC (.str "abcdefghijklmnopqrstuvwxyz")) (gN 2)) (Bf Adu (Bf (Bq (f2 Ax (Ae 3) (E5 (Ac (fC (.str "put")) (Ac (fC (.str "take")) (Ac (fC (.str "move")) (Ac (fC (.str "points")) (Ac (fC (.str "counts")) (Ac (fC (.str "pairs")) (Ac (fC (.str "halves")) (Ac (fC (.str "below")) (Ac (fC (.str "above")) (Ac (fC (.str "abcdefgh")) Ag)))))))))))) (gN 3)) (Bf (Bq (f2 Ax (Ae 3) (E5 (Ac (fC (.str "mall")) (Ac (fC (.str "mill")) (Ac (fC (.str "mell")) (Ac (fC (.str "abcxefgh")) (Ac (fC (.str "millmal")) (Ac (fC (.str "mellmal")) (Ac (fC (.str "ba")) Ag))))))))) (gN 3)) (Ci (Bn [none,some 3,some 0] (E2 (Ac (Ae 1) Ag)) (gN 0) none Hi))))):=rfl
 unfold Jx fnU
 simp only[aI,aL,if_true,aO,bK,bE,dD,dB]
 rw[sp,An s1,An e1,An s2,An s3,fRet_eq,e]
 rfl
noncomputable def ptU(p:Str×(Int×Int)):U:=.tup [.str p.1,.int p.2.1,.int p.2.2]
theorem Ac8:∀ x∈spare3,cV x=true:=cL.mp (show (spare3.all fun x=>cV x)=true by decide +kernel)
theorem Ajb(n:Nat){p:Str×(Int×Int)}(h:cV p.1=true):Pl (n+1) (ptU p):=by
 unfold ptU
 rw[Li]
 intro u hu
 simp only[cB,iK,or_false] at hu
 rcases hu with rfl | rfl | rfl
 ·show Pl n (.str p.1)
  cases n <;> simpa[Pl] using h
 ·exact Pl.int _ _
 ·exact Pl.int _ _
theorem Ra{ps:List (Str×(Int×Int))}(h:∀ p∈ps,cV p.1=true):Pl 6 (.tup (ps.map ptU)):=by
 rw[Li]
 intro u hu
 obtain ⟨p,hp,rfl⟩:=lK.mp hu
 exact Ajb 4 (h p hp)
theorem Aaf(xs:List Int):Pl 6 (.tup (xs.map U.int)):=by
 rw[Li]
 intro u hu
 obtain ⟨a,_,rfl⟩:=lK.mp hu
 exact Pl.int _ _
theorem Uu:Pl 6 (.tup []):=by rw[Li];intro u hu;cases hu
theorem Yh{us:List U}(h:Pl 6 (.tup us)):eqB (.tup us) (.tup [])=us.isEmpty:=by
 cases us with
 | nil=>exact Rc Uu
 | cons a r=>
  cases hb:eqB (.tup (a::r)) (.tup []) with
  | false=>rfl
  | true=>
   have:=(Aag h Uu).mp hb
   injection this with h1
   cases h1
theorem tup0(δ:UE)(L:UH):(C7 Ag) δ L=some (.tup [],L):=by
 have sm0:Eb ([]:List U).length=true:=B1 (by show 0<=16777216;decide)
 rw[fTup_eq,fNil_eq,aA,if_pos sm0]
theorem Ahm{row:List Int}{k:Nat}(h:k < row.length):L2.atI (row.map U.int) (k:Int)=some (.int (row.getD k 0)):=by
 rw[Qz (by omega) (by simp;omega),bO,dH,cK h]
 simp[List.getD_eq_getElem?_getD,h]
theorem p10:Ro 10 10=true:=rfl
theorem Ais(δ:UE)(L:UH):(f2 Fj (fC (.int 10)) (fC (.int 10))) δ L=some (.int 10000000000,L):=by simp[p10]
noncomputable def nr1:FS:=(Dv (fOr (Az (f2 B2 (Ae 1) (C7 Ag))) (Az (f2 B2 (Ar 2 Al (Ac (Ae 0) (Ac (fC (.int 5)) Ag))) (fC (.int 0))))) (Ci (Ar 2 Eo (Ac (Ae 0) (Ac (Ar 2 Al (Ac (Ae 0) (Ac (fC (.int 3)) Ag))) Ag)))) Cq)
theorem Aap{L:UH}{d:Nat}{B:Int}(xs:List Int)(hl:xs.length<=1000)(D:Seed L d B)(hB:B<=1000000) :
  ∃ (v:Int) (L':UH),Ga [.ref d,.tup (xs.map U.int)] L=some (.int v,L')/\Seed L' d (B+6)/\Ex d L L':=by
 have sp:Wq=Bf nr1 (Bf (Bq (f2 E3 (f2 Ax (f2 Ao (Ae 1) (Ar 2 Al (Ac (Ae 0) (Ac (A0 Cc (Ac (Ae 1) Ag)) Ag)))) (Ar 2 Al (Ac (Ae 0) (Ac (fC (.int 3)) Ag)))) (fC (.int 1))) (gN 2)) (Ci (A0 G6 (Ac (f2 E3 (fC (.int 1)) (f2 Fj (fC (.int 10)) (fC (.int 10)))) (Ac (A0 Hs (Ac (f2 E3 (f2 Fj (fC (.int 10)) (fC (.int 10))) (fC (.int 1))) (Ac (Ae 2) Ag))) Ag))))):=rfl
 have he:∀ L,B2 (.tup (xs.map U.int)) (.tup []) L=some (.bl (xs.map U.int).isEmpty,L):=fun L=>by rw[V6 L (Aaf xs) Uu,Yh (Aaf xs)]
 unfold Ga fnU
 simp only[aI,aL,if_true,aO,bK,bE,dD,dB]
 rw[sp]
 have out:∀ (M:UH) (B':Int),B'<=B+1->Seed M d B'->Ex d L M->∃ (v:Int) (L':UH),(Ci (Ar 2 Eo (Ac (Ae 0) (Ac (Ar 2 Al (Ac (Ae 0) (Ac (fC (.int 3)) Ag))) Ag)))) [some (.ref d),some (.tup (xs.map U.int)),none] M=some (.rt (.int v),L')/\Seed L' d (B+6)/\Ex d L L':=fun M B' hb D' x'=>by
  obtain ⟨w,M1,e1,a1,b1,D1,y1⟩:=Cd (many:=3) D' (by omega) (by decide) (by decide)
  obtain ⟨v,M2,e2,_,_,D2,y2⟩:=Xa (way:=w) D1 (by omega) (by omega)
  refine ⟨v,M2,?_,D2.mono (by omega),(x'.trans y1).trans y2⟩
  simp only[fRet_eq,fOwn_eq,fCons_eq,fNil_eq,fVar_eq,fC_eq,aK,aH,aN,aD,aA,aI,aL,if_true,e1,e2]
 have t1:(Az (f2 B2 (Ae 1) (C7 Ag))) [some (.ref d),some (.tup (xs.map U.int)),none] L=some ((xs.map U.int).isEmpty,L):=by
  rw[fTest_eq,f2_eq]
  simp only[fVar_eq,aK,aH,aN,aD,aA,tup0,he]
 cases hem:(xs.map U.int).isEmpty with
 | true=>
  obtain ⟨v,L',e,D',x'⟩:=out L B (by omega) D (Ex.refl _ _)
  refine ⟨v,L',?_,D',x'⟩
  rw[fSeq_eq]
  unfold nr1
  rw[fIfS_eq,fOr_eq,t1,hem]
  simp only[aA,if_true,e]
 | false=>
  obtain ⟨w,L1,e1,a1,b1,D1,y1⟩:=Cd (many:=5) D (by omega) (by decide) (by decide)
  have t2:(Az (f2 B2 (Ar 2 Al (Ac (Ae 0) (Ac (fC (.int 5)) Ag))) (fC (.int 0)))) [some (.ref d),some (.tup (xs.map U.int)),none] L=some (w == 0,L1):=by
   simp only[fTest_eq,f2_eq,fOwn_eq,fCons_eq,fNil_eq,fVar_eq,fC_eq,aK,aH,aN,aD,aA,aI,aL,if_true,e1,Hr]
  cases hw:(w == 0) with
  | true=>
   obtain ⟨v,L',e,D',x'⟩:=out L1 (B+1) (by omega) D1 y1
   refine ⟨v,L',?_,D',x'⟩
   rw[fSeq_eq]
   unfold nr1
   rw[fIfS_eq,fOr_eq,t1,hem]
   simp only[aA,bJ,if_false,t2,hw,if_true,e]
  | false=>
   have s1:nr1 [some (.ref d),some (.tup (xs.map U.int)),none] L=some (.nx [some (.ref d),some (.tup (xs.map U.int)),none],L1):=by
    unfold nr1
    rw[fIfS_eq,fOr_eq,t1,hem]
    simp only[aA,bJ,if_false,t2,hw,Du]
   rw[An s1]
   have hpos:0 < xs.length:=by
    cases xs with
    | nil=>cases hem
    | cons=>simp
   have hlen:∀ M,Cc [.tup (xs.map U.int)] M=some (.int xs.length,M):=fun M=>by simp[Cc,lenU]
   obtain ⟨i,L3,e3,a3,b3,D3,y3⟩:=Cd (many:=(xs.length:Nat)) D1 (by omega) (by omega) (by omega)
   obtain ⟨k,hk⟩:∃ k:Nat,i=(k:Int):=⟨i.toNat,by omega⟩
   subst hk
   have hat:=Ahm (row:=xs) (k:=k) (by omega)
   generalize xs.getD k 0=a at hat
   obtain ⟨j,L4,e4,a4,b4,D4,y4⟩:=Cd (many:=3) D3 (by omega) (by decide) (by decide)
   have s3:(Bq (f2 E3 (f2 Ax (f2 Ao (Ae 1) (Ar 2 Al (Ac (Ae 0) (Ac (A0 Cc (Ac (Ae 1) Ag)) Ag)))) (Ar 2 Al (Ac (Ae 0) (Ac (fC (.int 3)) Ag)))) (fC (.int 1))) (gN 2)) [some (.ref d),some (.tup (xs.map U.int)),none] L1=some (.nx [some (.ref d),some (.tup (xs.map U.int)),some (.int (a+j - 1))],L4):=by
    simp only[Cy,f2_eq,fOwn_eq,fCall_eq,fCons_eq,fNil_eq,fVar_eq,fC_eq,aK,aH,aN,aD,aA,hlen,aI,aL,if_true,e3,semIx_tup,hat,e4,W9,semSub_int,gN_eq,cF,bZ]
   rw[An s3]
   generalize a+j - 1=b
   have hmin:∀ M,∃ m:Int,Hs [.int 9999999999,.int b] M=some (.int m,M):=fun M=>⟨_,rfl⟩
   obtain ⟨m,hm⟩:=hmin L4
   have hmax:∀ M,∃ v:Int,G6 [.int (-9999999999),.int m] M=some (.int v,M):=fun M=>⟨_,rfl⟩
   obtain ⟨v,hv⟩:=hmax L4
   refine ⟨v,L4,?_,D4.mono (by omega),(y1.trans y3).trans y4⟩
   have c1:(f2 E3 (fC (.int 1)) (f2 Fj (fC (.int 10)) (fC (.int 10)))) [some (.ref d),some (.tup (xs.map U.int)),some (.int b)] L4=some (.int (-9999999999),L4):=by rw[f2_eq,fC_eq,aA,Ais];rfl
   have c2:(f2 E3 (f2 Fj (fC (.int 10)) (fC (.int 10))) (fC (.int 1))) [some (.ref d),some (.tup (xs.map U.int)),some (.int b)] L4=some (.int 9999999999,L4):=by rw[f2_eq,Ais];rfl
   have c3:(A0 Hs (Ac (f2 E3 (f2 Fj (fC (.int 10)) (fC (.int 10))) (fC (.int 1))) (Ac (Ae 2) Ag))) [some (.ref d),some (.tup (xs.map U.int)),some (.int b)] L4=some (.int m,L4):=by
    rw[fCall_eq,fCons_eq,c2]
    simp only[aA,fCons_eq,fVar_eq,fNil_eq,aK,aH,aN,aD,hm]
   rw[fRet_eq,fCall_eq,fCons_eq,c1,aA,fCons_eq,c3]
   simp only[aA,fNil_eq,aD,hv]
noncomputable def prU(p:Int×Int):U:=.tup [.int p.1,.int p.2]
noncomputable def bxU(b:Int×Int×Int×Int):U:=.tup [.int b.1,.int b.2.1,.int b.2.2.1,.int b.2.2.2]
theorem Yu{ps:List (Str×(Int×Int))}(hl:ps.length<=1000)(fe:FE)(f:Int×Int->Int)(hf:∀ (p:Str×(Int×Int)) (L:UH),fe [some (.str p.1),some (.int p.2.1),some (.int p.2.2)] L=some (.int (f p.2),L))(δ:UE)(L:UH)(h1:Ae 1 δ L=some (.tup (ps.map ptU),L)) :
  ∃ L',(A0 semTuple (Ac (Bn [none,none,none] (Bu (Ae 1)) (MR.gTup 3 (MR.gCons (gN 0) (MR.gCons (gN 1) (MR.gCons (gN 2) MR.gNil)))) none fe) Ag)) δ L=some (.tup ((ps.map fun p=>f p.2).map U.int),L')/\Gw L L':=by
 have hi:Bu (Ae 1) δ L=some (.seq (ps.map ptU),L):=by rw[Kc,h1];rfl
 obtain ⟨x,e⟩:=Dt (ix:=[none,none,none]) (fi:=Bu (Ae 1)) (it:=.seq (ps.map ptU)) (g:=(MR.gTup 3 (MR.gCons (gN 0) (MR.gCons (gN 1) (MR.gCons (gN 2) MR.gNil))))) (tt:=none) (fe:=fe) (δ:=δ) (L:=L) (L0:=L)
  ps ptU (fun _=>true) (fun p=>.int (f p.2)) (fun δ=>∃ a b c,δ = [a,b,c]) hi (by simp[IU.size]) (by omega) ⟨none,none,none,rfl⟩
  (fun k x=>rfl)
  (fun p δ x _ zz=>by
   obtain ⟨a,b,c,hδ⟩:=zz
   subst hδ
   refine ⟨[some (.str p.1),some (.int p.2.1),some (.int p.2.2)],rfl,⟨_,_,_,rfl⟩,[],by simp[Hf],fun _=>⟨[],?_⟩⟩
   rw[aX,aX]
   exact hf p _)
 have hff:fY (fun _=>true) ps=ps:=dZ.mpr (fun _ _=>rfl)
 have hm:ps.map (fun p=>U.int (f p.2))=(ps.map fun p=>f p.2).map U.int:=by simp
 rw[hff,hm] at e
 have q2:Ba (L++x++[HU.lst ((ps.map fun p=>f p.2).map U.int)]) (L++x).length=some ((ps.map fun p=>f p.2).map U.int):=Be (by simp)
 refine ⟨L++x++[HU.lst ((ps.map fun p=>f p.2).map U.int)],?_,⟨x++[HU.lst ((ps.map fun p=>f p.2).map U.int)],by rw[cA]⟩⟩
 rw[fCall_eq,fCons_eq,e]
 simp only[aA,fNil_eq,aD,semTuple,q2]
noncomputable def pl1:FS:=(Dv (Pp (Az (f2 He (Ae 1) (C7 Ag))) (Az (f2 B2 (Ar 2 Al (Ac (Ae 0) (Ac (fC (.int 4)) Ag))) (fC (.int 0))))) (Ci (fSl semSl (f2 Ao (Ae 1) (Ar 2 Al (Ac (Ae 0) (Ac (A0 Cc (Ac (Ae 1) Ag)) Ag)))) (Q5 (fC (.int 1))) Kv)) Cq)
theorem N4{L:UH}{d:Nat}{B:Int}{ps:List (Str×(Int×Int))}(hl:ps.length<=1000)(hok:∀ p∈ps,cV p.1=true)(D:Seed L d B)(hB:B<=100000) :
  ∃ (q:Int×Int) (L':UH),Eh [.ref d,.tup (ps.map ptU)] L=some (prU q,L')/\Seed L' d (B+13)/\Ex d L L':=by
 have sp:Sn=Bf pl1 (Bf (Bq (A0 semTuple (Ac (Bn [none,none,none] (Bu (Ae 1)) (MR.gTup 3 (MR.gCons (gN 0) (MR.gCons (gN 1) (MR.gCons (gN 2) MR.gNil)))) none Fz) Ag)) (gN 2)) (Bf (Bq (A0 semTuple (Ac (Bn [none,none,none] (Bu (Ae 1)) (MR.gTup 3 (MR.gCons (gN 0) (MR.gCons (gN 1) (MR.gCons (gN 2) MR.gNil)))) none Gh) Ag)) (gN 3)) (Ci (C7 (Ac (Ar 2 Ga (Ac (Ae 0) (Ac (Ae 2) Ag))) (Ac (Ar 2 Ga (Ac (Ae 0) (Ac (Ae 3) Ag))) Ag)))))):=rfl
 have hne:∀ L,He (.tup (ps.map ptU)) (.tup []) L=some (.bl (!(ps.map ptU).isEmpty),L):=fun L=>by rw[Vi L (Ra hok) Uu,Yh (Ra hok)]
 unfold Eh fnU
 simp only[aI,aL,if_true,aO,bK,bE,dD,dB]
 rw[sp]
 have rest:∀ (M:UH) (B':Int),B'<=B+1->Seed M d B'->Ex d L M->∃ (q:Int×Int) (L':UH),(Bf (Bq (A0 semTuple (Ac (Bn [none,none,none] (Bu (Ae 1)) (MR.gTup 3 (MR.gCons (gN 0) (MR.gCons (gN 1) (MR.gCons (gN 2) MR.gNil)))) none Fz) Ag)) (gN 2)) (Bf (Bq (A0 semTuple (Ac (Bn [none,none,none] (Bu (Ae 1)) (MR.gTup 3 (MR.gCons (gN 0) (MR.gCons (gN 1) (MR.gCons (gN 2) MR.gNil)))) none Gh) Ag)) (gN 3)) (Ci (C7 (Ac (Ar 2 Ga (Ac (Ae 0) (Ac (Ae 2) Ag))) (Ac (Ar 2 Ga (Ac (Ae 0) (Ac (Ae 3) Ag))) Ag)))))) [some (.ref d),some (.tup (ps.map ptU)),none,none] M=some (.rt (prU q),L')/\Seed L' d (B+13)/\Ex d L L':=fun M B' hb D' x'=>by
  obtain ⟨M1,e1,g1⟩:=Yu (by omega) Fz (·.1) (fun p L=>rfl) [some (.ref d),some (.tup (ps.map ptU)),none,none] M rfl
  obtain ⟨M2,e2,g2⟩:=Yu (by omega) Gh (·.2) (fun p L=>rfl) [some (.ref d),some (.tup (ps.map ptU)),some (.tup ((ps.map fun p=>p.2.1).map U.int)),none] M1 rfl
  have D2:=(D'.gw g1).gw g2
  obtain ⟨v,M3,e3,D3,y3⟩:=Aap (ps.map fun p=>p.2.1) (by simp;omega) D2 (by omega)
  obtain ⟨w,M4,e4,D4,y4⟩:=Aap (ps.map fun p=>p.2.2) (by simp;omega) D3 (by omega)
  refine ⟨(v,w),M4,?_,D4.mono (by omega),((x'.trans ((g1.trans g2).ex d)).trans y3).trans y4⟩
  have s1:(Bq (A0 semTuple (Ac (Bn [none,none,none] (Bu (Ae 1)) (MR.gTup 3 (MR.gCons (gN 0) (MR.gCons (gN 1) (MR.gCons (gN 2) MR.gNil)))) none Fz) Ag)) (gN 2)) [some (.ref d),some (.tup (ps.map ptU)),none,none] M=some (.nx [some (.ref d),some (.tup (ps.map ptU)),some (.tup ((ps.map fun p=>p.2.1).map U.int)),none],M1):=by rw[Cy,e1];rfl
  have s2:(Bq (A0 semTuple (Ac (Bn [none,none,none] (Bu (Ae 1)) (MR.gTup 3 (MR.gCons (gN 0) (MR.gCons (gN 1) (MR.gCons (gN 2) MR.gNil)))) none Gh) Ag)) (gN 3)) [some (.ref d),some (.tup (ps.map ptU)),some (.tup ((ps.map fun p=>p.2.1).map U.int)),none] M1=some (.nx [some (.ref d),some (.tup (ps.map ptU)),some (.tup ((ps.map fun p=>p.2.1).map U.int)),some (.tup ((ps.map fun p=>p.2.2).map U.int))],M2):=by rw[Cy,e2];rfl
  have sm2:∀ x y:U,Eb [x,y].length=true:=fun _ _=>B1 (by show 2<=16777216;decide)
  rw[An s1,An s2]
  generalize (ps.map fun p=>p.2.1)=as at e3
  generalize (ps.map fun p=>p.2.2)=bs at e4
  simp only[fRet_eq,fTup_eq,fOwn_eq,fCons_eq,fNil_eq,fVar_eq,aK,aH,aN,aD,aA,aI,aL,if_true,e3,e4]
  rw[if_pos (B1 (by show 2<=16777216;decide))]
  rfl
 have t1:(Az (f2 He (Ae 1) (C7 Ag))) [some (.ref d),some (.tup (ps.map ptU)),none,none] L=some (!(ps.map ptU).isEmpty,L):=by
  rw[fTest_eq,f2_eq]
  simp only[fVar_eq,aK,aH,aN,aD,aA,tup0,hne]
 cases hem:(!(ps.map ptU).isEmpty) with
 | false=>
  have s1:pl1 [some (.ref d),some (.tup (ps.map ptU)),none,none] L=some (.nx [some (.ref d),some (.tup (ps.map ptU)),none,none],L):=by
   unfold pl1
   rw[fIfS_eq,fAnd_eq,t1,hem]
   simp only[aA,bJ,if_false,Du]
  rw[An s1]
  obtain ⟨q,L',e,D',x'⟩:=rest L B (by omega) D (Ex.refl _ _)
  exact ⟨q,L',by rw[e];rfl,D',x'⟩
 | true=>
  obtain ⟨w,L1,e1,a1,b1,D1,y1⟩:=Cd (many:=4) D (by omega) (by decide) (by decide)
  have t2:(Az (f2 B2 (Ar 2 Al (Ac (Ae 0) (Ac (fC (.int 4)) Ag))) (fC (.int 0)))) [some (.ref d),some (.tup (ps.map ptU)),none,none] L=some (w == 0,L1):=by
   simp only[fTest_eq,f2_eq,fOwn_eq,fCons_eq,fNil_eq,fVar_eq,fC_eq,aK,aH,aN,aD,aA,aI,aL,if_true,e1,Hr]
  cases hw:(w == 0) with
  | false=>
   have s1:pl1 [some (.ref d),some (.tup (ps.map ptU)),none,none] L=some (.nx [some (.ref d),some (.tup (ps.map ptU)),none,none],L1):=by
    unfold pl1
    rw[fIfS_eq,fAnd_eq,t1,hem]
    simp only[aA,if_true,t2,hw,bJ,if_false,Du]
   rw[An s1]
   obtain ⟨q,L',e,D',x'⟩:=rest L1 (B+1) (by omega) D1 y1
   exact ⟨q,L',by rw[e];rfl,D',x'⟩
  | true=>
   have hpos:0 < ps.length:=by
    cases ps with
    | nil=>cases hem
    | cons=>simp
   have hlen:∀ M,Cc [.tup (ps.map ptU)] M=some (.int ps.length,M):=fun M=>by simp[Cc,lenU]
   obtain ⟨i,K2,e2,a2,b2,D2,y2⟩:=Cd (many:=(ps.length:Nat)) D1 (by omega) (by omega) (by omega)
   obtain ⟨k,hk⟩:∃ k:Nat,i=(k:Int):=⟨i.toNat,by omega⟩
   subst hk
   have hk:k < ps.length:=by omega
   have hat:L2.atI (ps.map ptU) (k:Int)=some (ptU (ps[k]'hk)):=by
    rw[Qz (by omega) (by simp;omega),bO,dH,cK hk];rfl
   generalize ps[k]'hk=o at hat
   refine ⟨o.2,K2,?_,D2.mono (by omega),y1.trans y2⟩
   have hsl:∀ L,semSl (ptU o) (some 1) none L=some (prU o.2,L):=fun L=>rfl
   have hix:(f2 Ao (Ae 1) (Ar 2 Al (Ac (Ae 0) (Ac (A0 Cc (Ac (Ae 1) Ag)) Ag)))) [some (.ref d),some (.tup (ps.map ptU)),none,none] L1=some (ptU o,K2):=by
    simp only[f2_eq,fOwn_eq,fCall_eq,fCons_eq,fNil_eq,fVar_eq,aK,aH,aN,aD,aA,hlen,aI,aL,if_true,e2,semIx_tup,hat]
   rw[fSeq_eq]
   unfold pl1
   rw[fIfS_eq,fAnd_eq,t1,hem]
   simp only[aA,if_true,t2,hw]
   rw[fRet_eq,fSl_eq,hix]
   simp only[aA,fPart_eq,fC_eq,fNoPart_eq,aD,hsl]
theorem Ai6{L:UH}{d:Nat}{B:Int}{ps:List (Str×(Int×Int))}(hl:ps.length<=1000)(hok:∀ p∈ps,cV p.1=true)(D:Seed L d B)(hB:B<=50000) :
  ∃ (b:Int×Int×Int×Int) (L':UH),Py [.ref d,.tup (ps.map ptU)] L=some (bxU b,L')/\Seed L' d (B+27)/\Ex d L L':=by
 obtain ⟨p,L1,e1,D1,y1⟩:=N4 hl hok D (by omega)
 obtain ⟨q,K2,e2,D2,y2⟩:=N4 hl hok D1 (by omega)
 obtain ⟨w,L3,e3,a3,b3,D3,y3⟩:=Cd (many:=8) D2 (by omega) (by decide) (by decide)
 have x3:=(y1.trans y2).trans y3
 generalize hP:U.tup (ps.map ptU)=P at e1 e2
 have s1:(Bq (Ar 2 Eh (Ac (Ae 0) (Ac (Ae 1) Ag))) (gN 2)) [some (.ref d),some P,none,none,none] L=some (.nx [some (.ref d),some P,some (prU p),none,none],L1):=by
  simp only[Cy,fOwn_eq,fCons_eq,fNil_eq,fVar_eq,aK,aH,aN,aD,aA,aI,aL,if_true,e1,gN_eq,cF,bZ]
 have s2:(Bq (Ar 2 Eh (Ac (Ae 0) (Ac (Ae 1) Ag))) (gN 3)) [some (.ref d),some P,some (prU p),none,none] L1=some (.nx [some (.ref d),some P,some (prU p),some (prU q),none],K2):=by
  simp only[Cy,fOwn_eq,fCons_eq,fNil_eq,fVar_eq,aK,aH,aN,aD,aA,aI,aL,if_true,e2,gN_eq,cF,bZ]
 have t3:(Az (f2 B2 (Ar 2 Al (Ac (Ae 0) (Ac (fC (.int 8)) Ag))) (fC (.int 0)))) [some (.ref d),some P,some (prU p),some (prU q),none] K2=some (w == 0,L3):=by
  simp only[fTest_eq,f2_eq,fOwn_eq,fCons_eq,fNil_eq,fVar_eq,fC_eq,aK,aH,aN,aD,aA,aI,aL,if_true,e3,Hr]
 have cat:∀ (a b:Int×Int) L,Ax (prU a) (prU b) L=some (bxU (a.1,a.2,b.1,b.2),L):=fun a b L=>by
  unfold prU Ax
  simp only
  rw[if_pos ⟨rfl,B1 (by show 4<=16777216;decide)⟩]
  rfl
 unfold Py fnU Aas
 simp only[aI,aL,if_true,aO,bK,bE,dD,dB]
 rw[An s1,An s2]
 cases hw:(w == 0) with
 | true=>
  refine ⟨(p.1,p.2,q.1,q.2),L3,?_,D3.mono (by omega),x3⟩
  rw[fSeq_eq,fIfS_eq,t3,hw]
  simp only[aA,if_true,fRet_eq,f2_eq,fVar_eq,aK,aH,aN,aD,cat]
 | false=>
  have s3:(Dv (Az (f2 B2 (Ar 2 Al (Ac (Ae 0) (Ac (fC (.int 8)) Ag))) (fC (.int 0)))) (Ci (f2 Ax (Ae 2) (Ae 3))) Cq) [some (.ref d),some P,some (prU p),some (prU q),none] K2=some (.nx [some (.ref d),some P,some (prU p),some (prU q),none],L3):=by
   rw[fIfS_eq,t3,hw]
   simp only[aA,bJ,if_false,Du]
  rw[An s3]
  obtain ⟨m1,hm1⟩:∃ m:Int,Hs [.int p.1,.int q.1] L3=some (.int m,L3):=⟨_,rfl⟩
  obtain ⟨m2,hm2⟩:∃ m:Int,Hs [.int p.2,.int q.2] L3=some (.int m,L3):=⟨_,rfl⟩
  obtain ⟨m3,hm3⟩:∃ m:Int,G6 [.int p.1,.int q.1] L3=some (.int m,L3):=⟨_,rfl⟩
  obtain ⟨m4,hm4⟩:∃ m:Int,G6 [.int p.2,.int q.2] L3=some (.int m,L3):=⟨_,rfl⟩
  have h0:∀ p:Int×Int,L2.atI [U.int p.1,.int p.2] 0=some (.int p.1):=fun _=>rfl
  have h1:∀ p:Int×Int,L2.atI [U.int p.1,.int p.2] 1=some (.int p.2):=fun _=>rfl
  have sm2:∀ x y:U,Eb [x,y].length=true:=fun _ _=>B1 (by show 2<=16777216;decide)
  have s4:(Bq (C7 (Ac (A0 Hs (Ac (f2 Ao (Ae 2) (fC (.int 0))) (Ac (f2 Ao (Ae 3) (fC (.int 0))) Ag))) (Ac (A0 Hs (Ac (f2 Ao (Ae 2) (fC (.int 1))) (Ac (f2 Ao (Ae 3) (fC (.int 1))) Ag))) Ag))) (gN 4)) [some (.ref d),some P,some (prU p),some (prU q),none] L3=some (.nx [some (.ref d),some P,some (prU p),some (prU q),some (prU (m1,m2))],L3):=by
   unfold prU
   simp only[Cy,fTup_eq,fCall_eq,fCons_eq,fNil_eq,f2_eq,fVar_eq,fC_eq,aK,aH,aN,aD,aA,semIx_tup,h0,h1,hm1,hm2]
   rw[if_pos (sm2 _ _)]
   rfl
  rw[An s4]
  refine ⟨(m1,m2,m3,m4),L3,?_,D3.mono (by omega),x3⟩
  have c5:(C7 (Ac (A0 G6 (Ac (f2 Ao (Ae 2) (fC (.int 0))) (Ac (f2 Ao (Ae 3) (fC (.int 0))) Ag))) (Ac (A0 G6 (Ac (f2 Ao (Ae 2) (fC (.int 1))) (Ac (f2 Ao (Ae 3) (fC (.int 1))) Ag))) Ag))) [some (.ref d),some P,some (prU p),some (prU q),some (prU (m1,m2))] L3=some (prU (m3,m4),L3):=by
   unfold prU
   simp only[fTup_eq,fCall_eq,fCons_eq,fNil_eq,f2_eq,fVar_eq,fC_eq,aK,aH,aN,aD,aA,semIx_tup,h0,h1,hm3,hm4]
   rw[if_pos (sm2 _ _)]
  have v4:Ae 4 [some (.ref d),some P,some (prU p),some (prU q),some (prU (m1,m2))] L3=some (prU (m1,m2),L3):=rfl
  rw[fRet_eq,f2_eq,v4,aA,c5]
  simp only[aA,cat,aD]
noncomputable def Ef(p q:Int×Int):Bool:=decide (p.1<=q.1)&&(decide (p.2<=q.2) && !(p.1 == q.1&&(p.2 == q.2&&true)))
theorem Ai3(p q:Int×Int)(L:UH):He (prU p) (prU q) L=some (.bl (!(p.1 == q.1&&(p.2 == q.2&&true))),L):=rfl
theorem Afp{β:Type}(as:List β)(f:β->Bool):mapO toB (as.map fun a=>U.bl (f a))=some (as.map f):=by
 induction as with
 | nil=>rfl
 | cons a as ih=>simp[mapO,toB,ih]
theorem Ahh{β:Type}{L:UH}{n:Nat}(as:List β)(f:β->Bool)(h:Ba L n=some (as.map fun a=>U.bl (f a))):Qn [.ref n] L=some (.bl (as.all f),L):=by
 simp[Qn,h,Afp]
theorem P4(p q:Int×Int)(L:UH):∃ x,Dg [prU p,prU q] L=some (.bl (Ef p q),L++x):=by
 have hz:(Aad (Ac (Ae 0) (Ac (Ae 1) Ag))) [some (prU p),some (prU q)] L=some (.seq ([(p.1,q.1),(p.2,q.2)].map fun a=>.tup [.int a.1,.int a.2]),L):=rfl
 obtain ⟨x,e⟩:=Dt (ix:=[none,none]) (fi:=Aad (Ac (Ae 0) (Ac (Ae 1) Ag))) (it:=.seq ([(p.1,q.1),(p.2,q.2)].map fun a=>.tup [.int a.1,.int a.2])) (g:=(MR.gTup 2 (MR.gCons (gN 0) (MR.gCons (gN 1) MR.gNil)))) (tt:=none) (fe:=G8) (δ:=[some (prU p),some (prU q)]) (L:=L) (L0:=L)
  [(p.1,q.1),(p.2,q.2)] (fun a=>.tup [.int a.1,.int a.2]) (fun _=>true) (fun a=>.bl (decide (a.1<=a.2))) (fun δ=>∃ a b,δ = [a,b]) hz (by simp[IU.size]) (by simp) ⟨none,none,rfl⟩
  (fun k x=>rfl)
  (fun a δ x _ zz=>by
   obtain ⟨y,z,hδ⟩:=zz
   subst hδ
   refine ⟨_,rfl,⟨_,_,rfl⟩,[],by simp[Hf],fun _=>⟨[],?_⟩⟩
   simp[G8])
 have hf:fY (fun _:Int×Int=>true) [(p.1,q.1),(p.2,q.2)]=[(p.1,q.1),(p.2,q.2)]:=by simp
 rw[hf] at e
 have q1:Ba (L++x++[HU.lst ([(p.1,q.1),(p.2,q.2)].map fun a=>.bl (decide (a.1<=a.2)))]) (L++x).length=some ([(p.1,q.1),(p.2,q.2)].map fun a=>U.bl (decide (a.1<=a.2))):=Be (by simp)
 have ha:=Ahh _ _ q1
 by_cases h:(!(p.1 == q.1&&(p.2 == q.2&&true)))=true
 ·refine ⟨x++[HU.lst ([(p.1,q.1),(p.2,q.2)].map fun a=>.bl (decide (a.1<=a.2)))],?_⟩
  have hb:Ef p q=List.all [(p.1,q.1),(p.2,q.2)] fun a=>decide (a.1<=a.2):=by
   simp only[Ef,h,List.all_cons,List.all_nil]
  have hn:=Ai3 p q L
  rw[h] at hn
  unfold Dg fnU Kw
  simp only[aI,aL,if_true,aO,bK,cI,bM,aX,fRet_eq,Ob,f2_eq,fVar_eq,aH,aK,aN,aD,aA,hn,fCall_eq,fCons_eq,fNil_eq]
  simp only[aO,bK] at e ha
  rw[hb,<- cA]
  simp only[e,ha,aD,aA]
 ·have h':(!(p.1 == q.1&&(p.2 == q.2&&true)))=false:=by simpa using h
  refine ⟨[],?_⟩
  have hb:Ef p q=false:=by simp only[Ef,h',mG]
  have hn:=Ai3 p q L
  rw[h'] at hn
  unfold Dg fnU Kw
  simp only[aI,aL,if_true,aO,bK,cI,bM,aX,fRet_eq,Ob,f2_eq,fVar_eq,aH,aK,aN,aD,aA,hn,hb]
  simp
abbrev NP:=Str×(Int×Int)
noncomputable def kG(g:NP->U)(m:List NP):List (Key×U):=m.map fun p=>(.inr p.1,g p)
noncomputable def Gq(m:List NP)(nm:Str):Bool:=m.any fun p=>decide (p.1=nm)
noncomputable def Js(m:List NP)(nm:Str)(q:Int×Int):List NP:=if Gq m nm=true then m.map (fun p=>if p.1=nm then (nm,q) else p) else m++[(nm,q)]
noncomputable def K5(m:List NP)(nm:Str):List NP:=m.filter fun p=>decide (p.1≠nm)
theorem U1(a b:Str):((gU a:Key) = .inr b)↔a=b:=⟨fun h=>by injection h,fun h=>by rw[h]⟩
theorem X7(g:NP->U)(nm:Str):∀ m:List NP,((kG g m).any fun kv=>decide (kv.1 = .inr nm))=Gq m nm
 | []=>rfl
 | p::m=>by
  have ih:=X7 g nm m
  unfold kG Gq at ih ⊢
  rw[aO,eZ,eZ,ih]
  simp only[U1]
theorem U9(g:NP->U)(m:List NP)(nm:Str):(Qe (kG g m) (.inr nm)).isSome=Gq m nm:=by
 unfold Qe
 rw[fS,find_any,X7]
theorem Adi(g:NP->U)(m:List NP)(nm:Str)(q:Int×Int):Ae3 (kG g m) (.inr nm) (g (nm,q))=kG g (Js m nm q):=by
 unfold Ae3 Js
 rw[X7]
 split
 ·unfold kG
  rw[eK,eK]
  apply jH
  intro p _
  show (if (gU p.1:Key) = .inr nm then (gU p.1,g (nm,q)) else (gU p.1,g p))=_
  by_cases h:p.1=nm
  ·rw[if_pos ((U1 _ _).mpr h)]
   show _=(gU (if p.1=nm then (nm,q) else p).1,g (if p.1=nm then (nm,q) else p))
   rw[if_pos h,h]
  ·rw[if_neg (fun z=>h ((U1 _ _).mp z))]
   simp only[Function.comp_apply,if_neg h]
 ·unfold kG
  rw[eG]
  rfl
theorem Yv(g:NP->U)(nm:Str):∀ m:List NP,Wo (kG g m) (.inr nm)=kG g (K5 m nm)
 | []=>rfl
 | p::m=>by
  have ih:=Yv g nm m
  unfold Wo kG K5 at ih ⊢
  rw[aO,fG,fG,ih]
  by_cases h:p.1=nm
  ·simp[h]
  ·simp[h]
theorem Wk(m:List NP)(nm:Str)(q:Int×Int):(Js m nm q).length<=m.length+1:=by
 unfold Js;split <;> simp
theorem Abz(m:List NP)(nm:Str):(K5 m nm).length<=m.length:=lW _ _
noncomputable def OkM(m:List NP):Prop:=∀ p∈m,cV p.1=true
theorem OkM.put{m:List NP}{nm:Str}{q:Int×Int}(h:OkM m)(hn:cV nm=true):OkM (Js m nm q):=by
 intro p hp
 unfold Js at hp
 split at hp
 ·obtain ⟨p',hp',e⟩:=lK.mp hp
  split at e
  ·subst e;exact hn
  ·subst e;exact h _ hp'
 ·rcases eS.mp hp with z | z
  ·exact h _ z
  ·have:=dQ.mp z
   subst this;exact hn
theorem OkM.drop{m:List NP}{nm:Str}(h:OkM m):OkM (K5 m nm):=fun p hp=>h p (fK.mp hp).1
theorem Eg{C:Str}{L:UH}{t:Nat}{fs:List (Str×U)}(h:L[t]? = some (.ins C fs)):Pg C (.ref t) L=some (t,fs):=by
 unfold Pg
 simp only[h,if_true]
noncomputable def kfl(p:Nat):List (Str×U):=[("points",.ref p)]
theorem kf_pts(p:Nat):eL ("points" : Str) (kfl p)=some (.ref p):=rfl
theorem Ml{s:Str}(p:Nat)(h:(s == "points")=false):eL s (kfl p)=none:=by
 unfold kfl
 rw[bX,h]
 rfl
structure Kept(L:UH)(k p:Nat)(m:List NP):Prop where
 ob:L[k]? = some (.ins "KeptPoints" (kfl p))
 pt:L[p]? = some (.dic (kG ptU m))
theorem Kept.ne{L:UH}{k p:Nat}{m:List NP}(T:Kept L k p m):k≠p:=fun h=>by
 have a:=T.ob
 rw[h,T.pt] at a
 cases a
theorem Kept.gw{L L':UH}{k p:Nat}{m:List NP}(T:Kept L k p m)(g:Gw L L'):Kept L' k p m:=⟨g.get T.ob,g.get T.pt⟩
theorem Kept.set{L:UH}{k p:Nat}{m m':List NP}(T:Kept L k p m):Kept (L.set p (.dic (kG ptU m'))) k p m':=
 ⟨by rw[bI (cS T.ne)];exact T.ob,bU (aQ.mp T.pt).1⟩
theorem Kept.fld{L:UH}{k p:Nat}{m:List NP}(T:Kept L k p m){δ:UE}{fe:FE}(h:fe δ L=some (.ref k,L)):Lr "KeptPoints" "points" fe δ L=some (.ref p,L):=by
 unfold Lr
 rw[h]
 simp only[aA,Eg T.ob,kf_pts,aD]
theorem Jj{L:UH}{n:Nat}{kvs:List (Key×U)}(h:L[n]? = some (.dic kvs)):E9 L n=some kvs:=by unfold E9;rw[h]
theorem W7{L:UH}{n:Nat}{g:NP->U}{m:List NP}(h:L[n]? = some (.dic (kG g m)))(nm:Str):H0 (.str nm) (.ref n) L=some (.bl (Gq m nm),L):=by
 unfold H0
 simp only[toK,aA,Jj h,aD,U9]
theorem O6{L:UH}{n:Nat}{g:NP->U}{m:List NP}(h:L[n]? = some (.dic (kG g m)))(nm:Str):Ei (.str nm) (.ref n) L=some (.bl (!Gq m nm),L):=by
 unfold Ei
 simp only[toK,aA,Jj h,aD,U9]
theorem Agq{L:UH}{k p:Nat}{m:List NP}{nm:Str}(T:Kept L k p m)(h:Gq m nm=true):B6 [.ref k,.str nm] L=some (.non,L):=by
 have f1:=T.fld (δ:=[some (.ref k),some (.str nm)]) (fe:=Ae 0) rfl
 unfold B6 fnU Gd
 simp only[aI,aL,if_true,aO,bK,cI,bM,aX]
 rw[fIfS_eq,fTest_eq,f2_eq]
 simp only[fVar_eq,aH,aK,aN,aD,aA,f1,O6 T.pt,h,gO,bJ,if_false,Du]
theorem Sx{L:UH}{k p:Nat}{m:List NP}{nm:Str}{δ:UE}(T:Kept L k p m)(h:Gq m nm=true)(h0:Ae 0 δ L=some (.ref k,L))(h1:Ae 1 δ L=some (.str nm,L)):(C3 (Bj "KeptPoints" "need_name" 2 B6 (Ae 0) (Ac (Ae 1) Ag))) δ L=some (.nx δ,L):=by
 have no:=Ml (s := "need_name") p (by decide +kernel)
 have e:=Agq T h
 unfold C3 Bj
 rw[h0]
 simp only[aA,Eg T.ob,no,if_true,fCons_eq,h1,fNil_eq,aD,aI,aL,e]
theorem Yy{L:UH}{k p:Nat}{m:List NP}{nm:Str}{x y:Int}(T:Kept L k p m)(hl:m.length < 1000) :
  (Lu (Lr "KeptPoints" "points" (Ae 0)) (Ae 1) (C7 (Ac (Ae 1) (Ac (Ae 2) (Ac (Ae 3) Ag))))) [some (.ref k),some (.str nm),some (.int x),some (.int y)] L=some (.nx [some (.ref k),some (.str nm),some (.int x),some (.int y)],L.set p (.dic (kG ptU (Js m nm (x,y))))):=by
 have f1:=T.fld (δ:=[some (.ref k),some (.str nm),some (.int x),some (.int y)]) (fe:=Ae 0) rfl
 have ht:(C7 (Ac (Ae 1) (Ac (Ae 2) (Ac (Ae 3) Ag)))) [some (.ref k),some (.str nm),some (.int x),some (.int y)] L=some (ptU (nm,(x,y)),L):=by
  simp only[fTup_eq,fCons_eq,fNil_eq,fVar_eq,aH,aK,aN,aD,aA]
  rw[if_pos (B1 (by show 3<=16777216;decide))]
  rfl
 have hk:(kG ptU m).length < 1000000:=by unfold kG;rw[bB];omega
 unfold Lu
 rw[ht]
 simp only[aA,f1,fVar_eq,aH,aK,aN,aD,toK,Jj T.pt]
 rw[if_pos hk,Adi]
theorem Aai{L:UH}{k p:Nat}{m:List NP}{nm:Str}{x y:Int}(T:Kept L k p m)(h:Gq m nm=false)(hl:m.length < 1000) :
  Bh [.ref k,.str nm,.int x,.int y] L=some (.non,L.set p (.dic (kG ptU (Js m nm (x,y))))):=by
 have f1:=T.fld (δ:=[some (.ref k),some (.str nm),some (.int x),some (.int y)]) (fe:=Ae 0) rfl
 have s1:(Dv (Az (f2 H0 (Ae 1) (Lr "KeptPoints" "points" (Ae 0)))) Lj Cq) [some (.ref k),some (.str nm),some (.int x),some (.int y)] L=some (.nx [some (.ref k),some (.str nm),some (.int x),some (.int y)],L):=by
  rw[fIfS_eq,fTest_eq,f2_eq]
  simp only[fVar_eq,aH,aK,aN,aD,aA,f1,W7 T.pt,h,bJ,if_false,Du]
 unfold Bh fnU Gf
 simp only[aI,aL,if_true,aO,bK,cI,bM,aX]
 rw[An s1,Yy T hl]
 rfl
theorem Acw{L:UH}{k p:Nat}{m:List NP}{nm:Str}{x y:Int}(T:Kept L k p m)(h:Gq m nm=true)(hl:m.length < 1000) :
  B0 [.ref k,.str nm,.int x,.int y] L=some (.non,L.set p (.dic (kG ptU (Js m nm (x,y))))):=by
 unfold B0 fnU Ft
 simp only[aI,aL,if_true,aO,bK,cI,bM,aX]
 rw[An (Sx T h rfl rfl),Yy T hl]
 rfl
theorem Aav{L:UH}{n:Nat}{g:NP->U}{m:List NP}{nm:Str}{fo fe:FE}{δ:UE}(hn:L[n]? = some (.dic (kG g m)))(h:Gq m nm=true)(h0:fo δ L=some (.ref n,L))(h1:fe δ L=some (.str nm,L)):(C3 (Sy fo fe)) δ L=some (.nx δ,L.set n (.dic (kG g (K5 m nm)))):=by
 have hs:=U9 g m nm
 rw[h] at hs
 obtain ⟨v,hv⟩:=kN.mp hs
 unfold C3 Sy
 rw[h0]
 simp only[aA,Jj hn,h1,toK,hv,aD,Yv]
theorem Ac9{L:UH}{k p:Nat}{m:List NP}{nm:Str}(T:Kept L k p m)(h:Gq m nm=true) :
  Bl [.ref k,.str nm] L=some (.non,L.set p (.dic (kG ptU (K5 m nm)))):=by
 have f1:=T.fld (δ:=[some (.ref k),some (.str nm)]) (fe:=Ae 0) rfl
 unfold Bl fnU Fw
 simp only[aI,aL,if_true,aO,bK,cI,bM,aX]
 rw[An (Sx T h rfl rfl),Aav T.pt h f1 rfl]
 rfl
theorem Vs(L:UH):(Oe "KeptPoints" 1 Bb Ag)=fun δ L=>some (.ref L.length,L++[.ins "KeptPoints" (kfl (L.length+1))]++[.dic (kG ptU [])]):=by
 funext δ L
 have e:Bb [.ref L.length] (L++[.ins "KeptPoints" []])=some (.non,L++[.ins "KeptPoints" (kfl (L.length+1))]++[.dic (kG ptU [])]):=by
  have ha:(L++[HU.ins "KeptPoints" []]++[HU.dic []])[L.length]? = some (.ins "KeptPoints" []):=by simp
  have hp:Yc "points" (.ref (L++[HU.ins "KeptPoints" []]).length) []=kfl (L.length+1):=by
   rw[cN];rfl
  unfold Bb fnU Gi Afw fDNew
  simp only[aI,aL,if_true,aO,bK,cI,bM,aX,aA,fVar_eq,aH,aN,aD,Eg ha]
  rw[if_pos (by decide),hp]
  simp[kG]
 unfold Oe
 rw[fNil_eq,aA]
 simp only[aL,if_true,e,aA]
theorem Pj(p:NP)(L:UH):Ht [ptU p] L=some (prU p.2,L):=by
 have h1:L2.atI [U.str p.1,.int p.2.1,.int p.2.2] 1=some (.int p.2.1):=rfl
 have h2:L2.atI [U.str p.1,.int p.2.1,.int p.2.2] 2=some (.int p.2.2):=rfl
 simp[Ht,fnU,Ql,ptU,h1,h2,B1,prU]
theorem Aan(g:NP->U)(m:List NP):Sr (kG g m)=m.map g:=by
 unfold Sr kG
 rw[eK]
 rfl
theorem Aew(g:NP->U)(m:List NP):Fm (kG g m)=m.map fun p=>.tup [.str p.1,g p]:=by
 unfold Fm kG
 rw[eK]
 rfl
noncomputable def cnt(qs:List (Int×Int))(q:Int×Int):Int:=((qs.filter fun o=>Ef o q).length:Nat)
theorem Mo{L:UH}{r:Nat}{qs:List (Int×Int)}(q:Int×Int)(hr:Ba L r=some (qs.map prU))(hl:qs.length < 1000000):∃ L',Fy [.ref r,prU q] L=some (.int (cnt qs q),L')/\Gw L L':=by
 obtain ⟨x,e⟩:=Dt (ix:=[none,some 1]) (fi:=Bu (Ae 0)) (it:=.ref r) (g:=gN 0) (tt:=some b_many_below_1t) (fe:=G7) (δ:=[some (.ref r),some (prU q)]) (L:=L) (L0:=L)
  qs prU (fun o=>Ef o q) prU (fun δ=>∃ a,δ = [a,some (prU q)]) (by simp[Gn hr]) (by rw[Nh hr];simp) (by omega) ⟨none,rfl⟩
  (fun k x=>Ux (Gv hr))
  (fun a δ x _ zz=>by
   obtain ⟨y,hδ⟩:=zz
   subst hδ
   obtain ⟨xl,hx⟩:=P4 a q (L++x)
   refine ⟨_,rfl,⟨_,rfl⟩,xl,?_,fun _=>⟨[],?_⟩⟩
   ·simp[Hf,b_many_below_1t,hx]
   ·simp[G7])
 have q1:(L++x++[HU.lst ((qs.filter fun o=>Ef o q).map prU)])[(L++x).length]? = some (.lst ((qs.filter fun o=>Ef o q).map prU)):=by simp
 have hlen:=Iy q1
 rw[bB] at hlen
 refine ⟨L++x++[HU.lst ((qs.filter fun o=>Ef o q).map prU)],?_,⟨x++[HU.lst ((qs.filter fun o=>Ef o q).map prU)],by rw[cA]⟩⟩
 unfold Fy fnU N2
 simp only[aI,aL,if_true,aO,bK,cI,bM,aX,fRet_eq,fCall_eq,fCons_eq,fNil_eq,aD,aA,e,hlen,cnt]
theorem R1(ps:List (Str×(Int×Int)))(L:UH)(hl:ps.length < 1000000):∃ L',Hg [.tup (ps.map ptU)] L=some (.tup (ps.map fun p=>.int (cnt (ps.map (·.2)) p.2)),L')/\Gw L L':=by
 obtain ⟨x,e⟩:=Dt (ix:=[none]) (fi:=Bu (Ae 0)) (it:=.seq (ps.map ptU)) (g:=gN 0) (tt:=none) (fe:=G3) (δ:=[some (.tup (ps.map ptU)),none]) (L:=L) (L0:=L)
  ps ptU (fun _=>true) (fun p=>prU p.2) (fun δ=>∃ a,δ = [a]) (by simp[O9]) (by simp[IU.size]) (by omega) ⟨none,rfl⟩
  (fun k x=>rfl)
  (fun a δ x _ zz=>by
   obtain ⟨y,hδ⟩:=zz
   subst hδ
   refine ⟨_,rfl,⟨_,rfl⟩,[],by simp[Hf],fun _=>⟨[],?_⟩⟩
   simp[G3,Pj])
 have hf:∀ (l:List (Str×(Int×Int))),fY (fun _=>true) l=l:=fun l=>dZ.mpr (fun _ _=>rfl)
 rw[hf] at e
 have hm:(ps.map fun p=>prU p.2)=(ps.map (·.2)).map prU:=by rw[eK];rfl
 rw[hm] at e
 generalize hM:L++x++[HU.lst ((ps.map (·.2)).map prU)]=M at e
 have hr:Ba M (L++x).length=some ((ps.map (·.2)).map prU):=by rw[<- hM];exact Be (by simp)
 have gM:Gw L M:=⟨x++[HU.lst ((ps.map (·.2)).map prU)],by rw[<- hM,cA]⟩
 obtain ⟨y,e2⟩:=Dt (ix:=[none,some 1]) (fi:=Bu (Ae 1)) (it:=.ref (L++x).length) (g:=gN 0) (tt:=none) (fe:=G5) (δ:=[some (.tup (ps.map ptU)),some (.ref (L++x).length)]) (L:=M) (L0:=M)
  (ps.map (·.2)) prU (fun _=>true) (fun q=>.int (cnt (ps.map (·.2)) q)) (fun δ=>∃ a,δ = [a,some (.ref (L++x).length)]) (by simp only[Kc,fVar_eq,aK,aH,aN,aD,aA,Gn hr]) (by rw[Nh hr];simp) (by simp;omega) ⟨none,rfl⟩
  (fun k x=>Ux (Gv hr))
  (fun a δ z _ zz=>by
   obtain ⟨y,hδ⟩:=zz
   subst hδ
   obtain ⟨L',e3,w,hw⟩:=Mo (L:=M++z) a (Gv hr) (by simp;omega)
   refine ⟨_,rfl,⟨_,rfl⟩,[],by simp[Hf],fun _=>⟨w,?_⟩⟩
   rw[aX,<- hw]
   unfold G5
   simp only[fOwn_eq,fCons_eq,fNil_eq,fVar_eq,bZ,aK,aH,aN,aD,aA,aI,aL,if_true,e3])
 have hf2:∀ (l:List (Int×Int)),fY (fun _=>true) l=l:=fun l=>dZ.mpr (fun _ _=>rfl)
 rw[hf2] at e2
 generalize hR:((ps.map (·.2)).map fun q=>U.int (cnt (ps.map (·.2)) q))=R at e2
 have q2:Ba (M++y++[HU.lst R]) (M++y).length=some R:=Be (by simp)
 have ht:semTuple [.ref (M++y).length] (M++y++[HU.lst R])=some (.tup R,M++y++[HU.lst R]):=by simp only[semTuple,q2,aD]
 refine ⟨M++y++[HU.lst R],?_,gM.trans ⟨y++[HU.lst R],by rw[cA]⟩⟩
 have hR':(ps.map fun p=>U.int (cnt (ps.map (·.2)) p.2))=R:=by rw[<- hR,eK];rfl
 rw[hR']
 unfold Hg fnU Od
 simp only[aI,aL,if_true,aO,bK,bE,dD,dB,fSeq_eq,Cy,e,gN_eq,aD,aA,cF,bZ,fRet_eq,fCall_eq,fCons_eq,fNil_eq,e2,ht]
noncomputable def tupU(ps:List (Str×(Int×Int))):U:=.tup (ps.map ptU)
theorem toI_map{β:Type}(f:β->Int):∀ l:List β,mapO toI (l.map fun a=>U.int (f a))=some (l.map f)
 | []=>rfl
 | a::l=>by simp only[aO,mapO,toI,toI_map f l,aA,aD]
noncomputable def pairs(qs:List (Int×Int)):Int:=(qs.map (cnt qs)).sum
theorem Vt(ps:List (Str×(Int×Int)))(L:UH)(hl:ps.length < 1000000):∃ L',Dr [tupU ps] L=some (.int (pairs (ps.map (·.2))),L')/\Gw L L':=by
 obtain ⟨L',e,g⟩:=R1 ps L hl
 refine ⟨L',?_,g⟩
 have hs:Qs [.tup (ps.map fun p=>.int (cnt (ps.map (·.2)) p.2))] L'=some (.int (pairs (ps.map (·.2))),L'):=by
  simp only[Qs,toI_map,aD,pairs,eK];rfl
 simp[Dr,fnU,Lq,tupU,e,hs]
noncomputable def Am2(qs:List (Int×Int))(q:Int×Int):Int:=((qs.filter fun o=>Ef q o).length:Nat)
theorem Rv{L:UH}{r:Nat}{qs:List (Int×Int)}(q:Int×Int)(hr:Ba L r=some (qs.map prU))(hl:qs.length < 1000000):∃ L',Hj [.ref r,prU q] L=some (.int (Am2 qs q),L')/\Gw L L':=by
 obtain ⟨x,e⟩:=Dt (ix:=[none,some 1]) (fi:=Bu (Ae 0)) (it:=.ref r) (g:=gN 0) (tt:=some b_many_above_1t) (fe:=G4) (δ:=[some (.ref r),some (prU q)]) (L:=L) (L0:=L)
  qs prU (fun o=>Ef q o) prU (fun δ=>∃ a,δ = [a,some (prU q)]) (by simp[Gn hr]) (by rw[Nh hr];simp) (by omega) ⟨none,rfl⟩
  (fun k x=>Ux (Gv hr))
  (fun a δ x _ zz=>by
   obtain ⟨y,hδ⟩:=zz
   subst hδ
   obtain ⟨xl,hx⟩:=P4 q a (L++x)
   refine ⟨_,rfl,⟨_,rfl⟩,xl,?_,fun _=>⟨[],?_⟩⟩
   ·simp[Hf,b_many_above_1t,hx]
   ·simp[G4])
 have q1:(L++x++[HU.lst ((qs.filter fun o=>Ef q o).map prU)])[(L++x).length]? = some (.lst ((qs.filter fun o=>Ef q o).map prU)):=by simp
 have hlen:=Iy q1
 rw[bB] at hlen
 refine ⟨L++x++[HU.lst ((qs.filter fun o=>Ef q o).map prU)],?_,⟨x++[HU.lst ((qs.filter fun o=>Ef q o).map prU)],by rw[cA]⟩⟩
 unfold Hj fnU Nv
 simp only[aI,aL,if_true,aO,bK,cI,bM,aX,fRet_eq,fCall_eq,fCons_eq,fNil_eq,aD,aA,e,hlen,Am2]
theorem Aa9{L:UH}{k p:Nat}{m:List NP}(T:Kept L k p m)(hl:m.length < 1000) :
  ∃ (r:Nat) (L':UH),Bm [.ref k] L=some (.ref r,L')/\L'[r]? = some (.lst (m.map fun p=>prU p.2))/\Gw L L':=by
 obtain ⟨x,e⟩:=Ss (ix:=[none]) (v:=Sr) (fo:=Lr "KeptPoints" "points" (Ae 0)) (g:=gN 0) (tt:=none) (fe:=C9) (δ:=[some (.ref k)]) (L:=L)
  m ptU (fun _=>true) (fun p=>prU p.2) (fun δ=>∃ a,δ = [a]) (T.fld rfl) T.pt (Aan ptU m) (by omega) ⟨none,rfl⟩
  (fun p δ M _ zz=>by
   obtain ⟨a,hδ⟩:=zz
   subst hδ
   refine ⟨_,rfl,⟨_,rfl⟩,[],by simp[Hf],fun _=>⟨[],?_⟩⟩
   have:=Pj p M
   simp only[C9,fOwn_eq,fCons_eq,fNil_eq,fVar_eq,bZ,aH,aN,aD,aA,aI,aL,if_true,this,aX])
 have hf:fY (fun _=>true) m=m:=dZ.mpr (fun _ _=>rfl)
 rw[hf] at e
 refine ⟨(L++x).length,L++x++[.lst (m.map fun p=>prU p.2)],?_,by simp,⟨x++[.lst (m.map fun p=>prU p.2)],by rw[cA]⟩⟩
 unfold Bm fnU Fq
 simp only[aI,aL,if_true,aO,bK,cI,bM,aX]
 rw[fRet_eq,e]
 rfl
theorem Aaj{fN fM:FN}{rel:Int×Int->Bool}{x y:Int}(hN:fN=fnU 3 3 (Ci (Ar 2 fM (Ac (Bj "KeptPoints" "places_now" 1 Bm (Ae 0) Ag) (Ac (C7 (Ac (Ae 1) (Ac (Ae 2) Ag))) Ag)))))
  (hM:∀ (L:UH) (r:Nat) (as:List (Int×Int)),L[r]? = some (.lst (as.map prU))->as.length < 1000->∃ L',fM [.ref r,prU (x,y)] L=some (.int ((as.filter rel).length:Nat),L')/\Gw L L')
  {L:UH} {k p:Nat} {m:List NP} (T:Kept L k p m) (hl:m.length < 1000) :
  ∃ L',fN [.ref k,.int x,.int y] L=some (.int ((m.filter fun p=>rel p.2).length:Nat),L')/\Gw L L':=by
 obtain ⟨r,L1,e1,h1,g1⟩:=Aa9 T hl
 obtain ⟨L2,e2,g2⟩:=hM L1 r (m.map (·.2)) (by rw[h1,eK];rfl) (by simpa using hl)
 refine ⟨L2,?_,g1.trans g2⟩
 have no:=Ml (s := "places_now") p (by decide +kernel)
 have hme:(Bj "KeptPoints" "places_now" 1 Bm (Ae 0) Ag) [some (.ref k),some (.int x),some (.int y)] L=some (.ref r,L1):=by
  unfold Bj
  simp only[fVar_eq,aH,aN,aD,aA,Eg T.ob,no,if_true,fNil_eq,aL,e1]
 have ht:(C7 (Ac (Ae 1) (Ac (Ae 2) Ag))) [some (.ref k),some (.int x),some (.int y)] L1=some (prU (x,y),L1):=by
  simp only[fTup_eq,fCons_eq,fNil_eq,fVar_eq,aH,aK,aN,aD,aA]
  rw[if_pos (B1 (by show 2<=16777216;decide))]
  rfl
 have hc:((m.map (·.2)).filter rel).length=(m.filter fun p=>rel p.2).length:=by
  rw[List.filter_map,bB];rfl
 rw[hc] at e2
 subst hN
 unfold fnU
 simp only[aI,aL,if_true,aO,bK,cI,bM,aX]
 rw[fRet_eq,fOwn_eq,fCons_eq,hme,aA,fCons_eq,ht]
 simp only[aA,fNil_eq,aD,aI,aL,if_true,e2]
theorem Ui{L:UH}{k p:Nat}{m:List NP}{x y:Int}(T:Kept L k p m)(hl:m.length < 1000) :
  ∃ L',C5 [.ref k,.int x,.int y] L=some (.int ((m.filter fun p=>Ef p.2 (x,y)).length:Nat),L')/\Gw L L':=
 Aaj (rel:=fun a=>Ef a (x,y)) rfl (fun L r as h1 h2=>Mo (x,y) (Be h1) (by omega)) T hl
theorem U2{L:UH}{k p:Nat}{m:List NP}{x y:Int}(T:Kept L k p m)(hl:m.length < 1000) :
  ∃ L',C6 [.ref k,.int x,.int y] L=some (.int ((m.filter fun p=>Ef (x,y) p.2).length:Nat),L')/\Gw L L':=
 Aaj (rel:=fun a=>Ef (x,y) a) rfl (fun L r as h1 h2=>Rv (x,y) (Be h1) (by omega)) T hl
noncomputable def inB(b:Int×Int×Int×Int)(p:Str×(Int×Int)):Bool:=decide (b.1<=p.2.1)&&(decide (p.2.1<=b.2.2.1)&&(decide (b.2.1<=p.2.2)&&decide (p.2.2<=b.2.2.2)))
noncomputable def cntB(ps:List (Str×(Int×Int)))(b:Int×Int×Int×Int):Nat:=(ps.filter (inB b)).length
theorem pt1(p:Str×(Int×Int)):L2.atI [U.str p.1,.int p.2.1,.int p.2.2] 1=some (.int p.2.1):=rfl
theorem pt2(p:Str×(Int×Int)):L2.atI [U.str p.1,.int p.2.1,.int p.2.2] 2=some (.int p.2.2):=rfl
theorem ix1(p:Str×(Int×Int))(L:UH):Ao (ptU p) (.int 1) L=some (.int p.2.1,L):=by unfold ptU;rw[semIx_tup,pt1];rfl
theorem ix2(p:Str×(Int×Int))(L:UH):Ao (ptU p) (.int 2) L=some (.int p.2.2,L):=by unfold ptU;rw[semIx_tup,pt2];rfl
theorem bx0(b:Int×Int×Int×Int)(L:UH):Ao (bxU b) (.int 0) L=some (.int b.1,L):=rfl
theorem bx1(b:Int×Int×Int×Int)(L:UH):Ao (bxU b) (.int 1) L=some (.int b.2.1,L):=rfl
theorem bx2(b:Int×Int×Int×Int)(L:UH):Ao (bxU b) (.int 2) L=some (.int b.2.2.1,L):=rfl
theorem bx3(b:Int×Int×Int×Int)(L:UH):Ao (bxU b) (.int 3) L=some (.int b.2.2.2,L):=rfl
theorem Wh{fa fb fc:FE}{δ:UE}{L:UH}{a b c:Int}(ha:fa δ L=some (.int a,L))(hb:fb δ L=some (.int b,L))(hc:fc δ L=some (.int c,L)):Ls Ka Ka fa fb fc δ L=some (.bl (decide (a<=b)&&decide (b<=c)),L):=by
 unfold Ls
 simp only[ha,hb,hc,aA,Acm]
 cases decide (a<=b) <;> rfl
theorem Xm(p:Str×(Int×Int))(b:Int×Int×Int×Int)(L:UH):Mf [ptU p,bxU b] L=some (.bl (inB b p),L):=by
 have c1:Ls Ka Ka (f2 Ao (Ae 1) (fC (.int 0))) (f2 Ao (Ae 0) (fC (.int 1))) (f2 Ao (Ae 1) (fC (.int 2))) [some (ptU p),some (bxU b)] L=some (.bl (decide (b.1<=p.2.1)&&decide (p.2.1<=b.2.2.1)),L):=Wh (by simp only[f2_eq,fVar_eq,fC_eq,aK,aH,aN,aD,aA,bx0]) (by simp only[f2_eq,fVar_eq,fC_eq,aK,aH,aN,aD,aA,ix1]) (by simp only[f2_eq,fVar_eq,fC_eq,aK,aH,aN,aD,aA,bx2])
 have c2:Ls Ka Ka (f2 Ao (Ae 1) (fC (.int 1))) (f2 Ao (Ae 0) (fC (.int 2))) (f2 Ao (Ae 1) (fC (.int 3))) [some (ptU p),some (bxU b)] L=some (.bl (decide (b.2.1<=p.2.2)&&decide (p.2.2<=b.2.2.2)),L):=Wh (by simp only[f2_eq,fVar_eq,fC_eq,aK,aH,aN,aD,aA,bx1]) (by simp only[f2_eq,fVar_eq,fC_eq,aK,aH,aN,aD,aA,ix2]) (by simp only[f2_eq,fVar_eq,fC_eq,aK,aH,aN,aD,aA,bx3])
 unfold Mf fnU Tf inB
 simp only[aI,aL,if_true,aO,bK,cI,bM,aX,fRet_eq,Ob,c1,c2,aD,aA]
 cases decide (b.1<=p.2.1) <;> cases decide (p.2.1<=b.2.2.1) <;> cases decide (b.2.1<=p.2.2) <;> cases decide (p.2.2<=b.2.2.2) <;> rfl
theorem U7{ps:List (Str×(Int×Int))}(hl:ps.length<=1000)(b:Int×Int×Int×Int)(L:UH):∃ (r:Nat) (L':UH),Ij [.tup (ps.map ptU),bxU b] L=some (.ref r,L')/\L'[r]? = some (.lst ((ps.filter (inB b)).map ptU))/\Gw L L':=by
 obtain ⟨x,e⟩:=Dt (ix:=[none,some 1]) (fi:=Bu (Ae 0)) (it:=.seq (ps.map ptU)) (g:=gN 0) (tt:=some Hx) (fe:=Lm) (δ:=[some (.tup (ps.map ptU)),some (bxU b)]) (L:=L) (L0:=L)
  ps ptU (inB b) ptU (fun δ=>∃ a,δ = [a,some (bxU b)]) (by simp[O9]) (by simp[IU.size]) (by omega) ⟨none,rfl⟩
  (fun k x=>rfl)
  (fun p δ x _ zz=>by
   obtain ⟨y,hδ⟩:=zz
   subst hδ
   refine ⟨[some (ptU p),some (bxU b)],rfl,⟨_,rfl⟩,[],?_,fun _=>⟨[],?_⟩⟩
   ·unfold Hf Hx
    simp only[fTru_eq,fOwn_eq,fCons_eq,fNil_eq,fVar_eq,aK,aH,aN,aD,aA,aI,aL,if_true,Xm,truU_bl,aX]
   ·rw[aX,aX];rfl)
 refine ⟨(L++x).length,L++x++[HU.lst ((ps.filter (inB b)).map ptU)],?_,by simp,⟨x++[HU.lst ((ps.filter (inB b)).map ptU)],by rw[cA]⟩⟩
 unfold Ij fnU Pn
 simp only[aI,aL,if_true,aO,bK,cI,bM,aX,fRet_eq,e,aD,aA]
theorem Pe{ps:List (Str×(Int×Int))}(hl:ps.length<=1000)(bs:List (Int×Int×Int×Int))(hb:bs.length<=1000)(L:UH):∃ L',Hw [.tup (ps.map ptU),.tup (bs.map bxU)] L=some (.tup ((bs.map fun b=>((cntB ps b:Nat):Int)).map U.int),L')/\Gw L L':=by
 obtain ⟨x,e⟩:=Dt (ix:=[none,some 0]) (fi:=Bu (Ae 1)) (it:=.seq (bs.map bxU)) (g:=gN 0) (tt:=none) (fe:=Jl) (δ:=[some (.tup (ps.map ptU)),some (.tup (bs.map bxU))]) (L:=L) (L0:=L)
  bs bxU (fun _=>true) (fun b=>.int ((cntB ps b:Nat):Int)) (fun δ=>∃ a,δ = [a,some (.tup (ps.map ptU))]) (by simp[O9]) (by simp[IU.size]) (by omega) ⟨none,rfl⟩
  (fun k x=>rfl)
  (fun b δ x _ zz=>by
   obtain ⟨y,hδ⟩:=zz
   subst hδ
   obtain ⟨r,L',e1,hr,w,hw⟩:=U7 hl b (L++x)
   refine ⟨[some (bxU b),some (.tup (ps.map ptU))],rfl,⟨_,rfl⟩,[],by simp[Hf],fun _=>⟨w,?_⟩⟩
   have hlen:=Iy hr
   rw[bB] at hlen
   unfold Jl
   rw[aX,<- hw]
   simp only[fCall_eq,fOwn_eq,fCons_eq,fNil_eq,fVar_eq,aK,aH,aN,aD,aA,aI,aL,if_true,e1,hlen,cntB])
 have hff:fY (fun _=>true) bs=bs:=dZ.mpr (fun _ _=>rfl)
 have hm:bs.map (fun b=>U.int ((cntB ps b:Nat):Int))=(bs.map fun b=>((cntB ps b:Nat):Int)).map U.int:=by simp
 rw[hff,hm] at e
 generalize (bs.map fun b=>((cntB ps b:Nat):Int))=cs at e
 have q2:Ba (L++x++[HU.lst (cs.map U.int)]) (L++x).length=some (cs.map U.int):=Be (by simp)
 refine ⟨L++x++[HU.lst (cs.map U.int)],?_,⟨x++[HU.lst (cs.map U.int)],by rw[cA]⟩⟩
 unfold Hw fnU Qg
 simp only[aI,aL,if_true,aO,bK,cI,bM,aX]
 rw[fRet_eq,fCall_eq,fCons_eq,e]
 simp only[aA,fNil_eq,aD,semTuple,q2]
theorem Vd{fe:FE}{v:U}{i:Nat}{δ:UE}{L L':UH}(e:fe δ L=some (v,L')):(Bq fe (gN i)) δ L=some (.nx (δ.set i (some v)),L'):=by
 rw[Cy,e];rfl
theorem Aa7{f:FN}{i:Nat}{u v:U}{δ:UE}{L L':UH}(h:Ae i δ L=some (u,L))(e:f [u] L=some (v,L')):(Ar 1 f (Ac (Ae i) Ag)) δ L=some (v,L'):=by
 rw[fOwn_eq,fCons_eq,h]
 simp only[aA,fNil_eq,aD,aI,aL,if_true,e]
theorem Aen{f:FN}{i j:Nat}{u w v:U}{δ:UE}{L L':UH}(h:Ae i δ L=some (u,L))(h2:Ae j δ L=some (w,L))(e:f [u,w] L=some (v,L')):(Ar 2 f (Ac (Ae i) (Ac (Ae j) Ag))) δ L=some (v,L'):=by
 rw[fOwn_eq,fCons_eq,h,aA,fCons_eq,h2]
 simp only[aA,fNil_eq,aD,aI,aL,if_true,e]
theorem Qv{f:FN}{i:Nat}{c:Int}{u v:U}{δ:UE}{L L':UH}(h:Ae i δ L=some (u,L))(e:f [u,.int c] L=some (v,L')):(Ar 2 f (Ac (Ae i) (Ac (fC (.int c)) Ag))) δ L=some (v,L'):=by
 rw[fOwn_eq,fCons_eq,h]
 simp only[aA,fCons_eq,fC_eq,fNil_eq,aD,aI,aL,if_true,e]
theorem pr0(p:Int×Int)(L:UH):Ao (prU p) (.int 0) L=some (.int p.1,L):=rfl
theorem pr1(p:Int×Int)(L:UH):Ao (prU p) (.int 1) L=some (.int p.2,L):=rfl
theorem Wj{L:UH}{t i:Nat}{m:List NP}{δ:UE}(h:Ae i δ L=some (.ref t,L))(ht:L[t]? = some (.dic (kG (fun p=>prU p.2) m)))(hl:m.length < 1000) :
  ∃ L',(A0 semTuple (Ac (Ms (Bn [none,none] (Ju Fm (Ae i)) (MR.gTup 2 (MR.gCons (gN 0) (MR.gCons (gN 1) MR.gNil))) none (f2 Ax (C7 (Ac (Ae 0) Ag)) (Ae 1)))) Ag)) δ L=some (.tup (m.map ptU),L')/\Gw L L':=by
 obtain ⟨x,e⟩:=Ss (ix:=[none,none]) (v:=Fm) (fo:=Ae i) (g:=(MR.gTup 2 (MR.gCons (gN 0) (MR.gCons (gN 1) MR.gNil)))) (tt:=none) (fe:=f2 Ax (C7 (Ac (Ae 0) Ag)) (Ae 1)) (δ:=δ) (L:=L)
  m (fun p=>.tup [.str p.1,prU p.2]) (fun _=>true) ptU (fun δ=>∃ a b,δ = [a,b]) h ht (Aew _ m) (by omega) ⟨none,none,rfl⟩
  (fun p δ M _ zz=>by
   obtain ⟨a,b,hδ⟩:=zz
   subst hδ
   refine ⟨[some (.str p.1),some (prU p.2)],rfl,⟨_,_,rfl⟩,[],by simp[Hf],fun _=>⟨[],?_⟩⟩
   rw[aX,aX]
   rfl)
 have hf:fY (fun _=>true) m=m:=dZ.mpr (fun _ _=>rfl)
 rw[hf] at e
 have q2:Ba (L++x++[HU.lst (m.map ptU)]) (L++x).length=some (m.map ptU):=Be (by simp)
 refine ⟨L++x++[HU.lst (m.map ptU)],?_,⟨x++[HU.lst (m.map ptU)],by rw[cA]⟩⟩
 rw[fCall_eq,fCons_eq,e]
 simp only[aA,fNil_eq,aD,semTuple,q2]
structure Fr(P:Nat->Prop)(L L':UH):Prop where
 le:L.length<=L'.length
 at_:∀ i,i < L.length->¬ P i->L'[i]? = L[i]?
theorem Fr.trans{P:Nat->Prop}{L M N:UH}(a:Fr P L M)(b:Fr P M N):Fr P L N:=⟨cC a.le b.le,fun i h1 h2=>by rw[b.at_ i (aU h1 a.le) h2,a.at_ i h1 h2]⟩
theorem Ex.fr{P:Nat->Prop}{d:Nat}{L L':UH}(x:Ex d L L')(h:P d):Fr P L L':=⟨x.le,fun i h1 h2=>x.at_ i h1 (fun q=>h2 (by rw[q];exact h))⟩
theorem Gw.fr{L L':UH}(g:Gw L L')(P:Nat->Prop):Fr P L L':=by
 obtain ⟨x,rfl⟩:=g
 exact ⟨by simp,fun i h1 _=>by rw[aW h1]⟩
theorem Fr.put{P:Nat->Prop}(L:UH){k:Nat}(h:P k)(o:HU):Fr P L (L.set k o):=⟨by simp,fun i _ h2=>by rw[bI (fun q=>h2 (by rw[<- q];exact h))]⟩
theorem Fr.get{P:Nat->Prop}{L L':UH}{i:Nat}{o:HU}(f:Fr P L L')(e:L[i]? = some o)(h:¬ P i):L'[i]? = some o:=by rw[f.at_ i (aQ.mp e).1 h];exact e
theorem Gw.of{L L':UH}(h:L.length<=L'.length)(e:∀ i,i < L.length->L'[i]? = L[i]?):Gw L L':=by
 refine ⟨L'.drop L.length,?_⟩
 apply List.ext_getElem?
 intro i
 by_cases hi:i < L.length
 ·rw[aW hi];exact e i hi
 ·rw[bY (by omega),List.getElem?_drop]
  congr 1
  omega
structure Both(L:UH)(d k p t n:Nat)(B:Int)(m:List NP)(names:List Str):Prop where
 D:Seed L d B
 K:Kept L k p m
 T:L[t]? = some (.dic (kG (fun p=>prU p.2) m))
 N:L[n]? = some (.lst (names.map U.str))
 ok:OkM m
 kd:k≠d
 pd:p≠d
 td:t≠d
 nd:n≠d
 pt:p≠t
 nok:∀ x∈names,cV x=true
 nl:0 < names.length/\names.length<=100
theorem Both.kt{L:UH}{d k p t n:Nat}{B:Int}{m:List NP}{names:List Str}(S:Both L d k p t n B m names):k≠t:=fun h=>by
 have:=S.K.ob
 rw[h,S.T] at this;cases this
theorem Both.np{L:UH}{d k p t n:Nat}{B:Int}{m:List NP}{names:List Str}(S:Both L d k p t n B m names):n≠p:=fun h=>by
 have:=S.N
 rw[h,S.K.pt] at this;cases this
theorem Both.nt{L:UH}{d k p t n:Nat}{B:Int}{m:List NP}{names:List Str}(S:Both L d k p t n B m names):n≠t:=fun h=>by
 have:=S.N
 rw[h,S.T] at this;cases this
theorem Both.ex{L L':UH}{d k p t n:Nat}{B B':Int}{m:List NP}{names:List Str}(S:Both L d k p t n B m names)(D:Seed L' d B')(x:Ex d L L'):Both L' d k p t n B' m names:=
 ⟨D,⟨x.get S.K.ob S.kd,x.get S.K.pt S.pd⟩,x.get S.T S.td,x.get S.N S.nd,S.ok,S.kd,S.pd,S.td,S.nd,S.pt,S.nok,S.nl⟩
theorem Both.gw{L L':UH}{d k p t n:Nat}{B:Int}{m:List NP}{names:List Str}(S:Both L d k p t n B m names)(g:Gw L L'):Both L' d k p t n B m names:=S.ex (S.D.gw g) (g.ex d)
theorem Both.set{L:UH}{d k p t n:Nat}{B:Int}{m m':List NP}{names:List Str}(S:Both L d k p t n B m names)(ok:OkM m'):Both ((L.set p (.dic (kG ptU m'))).set t (.dic (kG (fun p=>prU p.2) m'))) d k p t n B m' names:=by
 have K':=S.K.set (m':=m')
 have tl:t < (L.set p (.dic (kG ptU m'))).length:=by rw[lP];exact (aQ.mp S.T).1
 refine ⟨(S.D.set S.pd _).set S.td _,⟨?_,?_⟩,bU tl,?_,ok,S.kd,S.pd,S.td,S.nd,S.pt,S.nok,S.nl⟩
 ·rw[bI (cS S.kt)];exact K'.ob
 ·rw[bI (cS S.pt)];exact K'.pt
 ·rw[bI (cS S.nt),bI (cS S.np)];exact S.N
noncomputable def TP(d p t:Nat)(i:Nat):Prop:=i=d\/i=p\/i=t
theorem Al2{L:UH}{t:Nat}{m:List NP}{nm:Str}{q:Int×Int}{δ:UE}(ht:L[t]? = some (.dic (kG (fun p=>prU p.2) m)))(hl:m.length < 1000)(h2:∀ M,Ae 2 δ M=some (.ref t,M))(h4:∀ M,Ae 4 δ M=some (.str nm,M))(h6:∀ M,Ae 6 δ M=some (prU q,M)) :
  (Lu (Ae 2) (Ae 4) (Ae 6)) δ L=some (.nx δ,L.set t (.dic (kG (fun p=>prU p.2) (Js m nm q)))):=by
 have hk:(kG (fun p=>prU p.2) m).length < 1000000:=by unfold kG;rw[bB];omega
 have hp:=Adi (fun p=>prU p.2) m nm q
 unfold Lu
 rw[h6]
 simp only[aA,h2,h4,toK,Jj ht]
 rw[if_pos hk,hp]
theorem Ai4{L:UH}{k p:Nat}{m:List NP}{fN:FN}{s:Str}{nm:Str}{q:Int×Int}{δ:UE}{L':UH}(T:Kept L k p m)(hno:(s == "points")=false)(h1:∀ M,Ae 1 δ M=some (.ref k,M))(h4:∀ M,Ae 4 δ M=some (.str nm,M))(h6:∀ M,Ae 6 δ M=some (prU q,M))(e:fN [.ref k,.str nm,.int q.1,.int q.2] L=some (.non,L')) :
  (C3 (Bj "KeptPoints" s 4 fN (Ae 1) (Ac (Ae 4) (Ac (f2 Ao (Ae 6) (fC (.int 0))) (Ac (f2 Ao (Ae 6) (fC (.int 1))) Ag))))) δ L=some (.nx δ,L'):=by
 have no:=Ml (s:=s) p hno
 unfold C3 Bj
 rw[h1]
 simp only[aA,Eg T.ob,no,if_true,fNil_eq,fCons_eq,h4,h6,f2_eq,fC_eq,pr0,pr1,aD,aI,aL,e]
noncomputable def Af9(names:List Str)(m m':List NP):Prop:=m'=m\/(∃ nm q,nm∈names/\m'=Js m nm q)\/∃ nm,m'=K5 m nm
inductive deed_ok_I(L:UH)(d:Nat)(k:Nat)(p:Nat)(t:Nat)(n:Nat)(B:Int)(m:List NP)(names:List Str):Prop
 | mk (m':List NP) (L':UH) (h0:Hv [.ref d,.ref k,.ref t,.ref n] L=some (.non,L')) (h1:Both L' d k p t n (B+15) m' names) (h2:m'.length<=m.length+1) (h3:Fr (TP d p t) L L') (h4:Af9 names m m'):deed_ok_I L d k p t n B m names
theorem Ah0{L:UH}{d k p t n:Nat}{B:Int}{m:List NP}{names:List Str}(S:Both L d k p t n B m names)(hB:B<=50000)(hl:m.length<=900):deed_ok_I L d k p t n B m names:=by
 have hlen:∀ M,M[n]? = some (HU.lst (names.map U.str))->Cc [.ref n] M=some (.int names.length,M):=fun M h=>by rw[Iy h,bB]
 obtain ⟨i,L1,e1,i0,i1,D1,y1⟩:=Cd (many:=(names.length:Nat)) S.D (by omega) (by have:=S.nl.1;omega) (by have:=S.nl.2;omega)
 have S1:=S.ex D1 y1
 have hi:i.toNat < names.length:=by omega
 have hat:L2.atI (names.map U.str) i=some (.str (names[i.toNat]'hi)):=by
  rw[Qz i0 (by rw[bB];exact i1),bO,cK hi];rfl
 have hnm:cV (names[i.toNat]'hi)=true:=S.nok _ (iL hi)
 have hmem:(names[i.toNat]'hi)∈names:=iL hi
 generalize names[i.toNat]'hi=nm at hat hnm hmem
 have s1:(Bq (f2 Ao (Ae 3) (Ar 2 Al (Ac (Ae 0) (Ac (A0 Cc (Ac (Ae 3) Ag)) Ag)))) (gN 4)) [some (.ref d),some (.ref k),some (.ref t),some (.ref n),none,none,none,none] L=some (.nx [some (.ref d),some (.ref k),some (.ref t),some (.ref n),some (.str nm),none,none,none],L1):=by
  simp only[Cy,f2_eq,fOwn_eq,fCall_eq,fCons_eq,fNil_eq,fVar_eq,aK,aH,aN,aD,aA,hlen L S.N,aI,aL,if_true,e1,semIx_ref,Be S1.N,hat,gN_eq,cF,bZ]
 obtain ⟨M2,e2,g2⟩:=Wj (i:=2) (δ:=[some (.ref d),some (.ref k),some (.ref t),some (.ref n),some (.str nm),none,none,none]) rfl S1.T (by omega)
 have s2:(Bq (A0 semTuple (Ac (Ms (Bn [none,none] (Ju Fm (Ae 2)) (MR.gTup 2 (MR.gCons (gN 0) (MR.gCons (gN 1) MR.gNil))) none Lb)) Ag)) (gN 5)) [some (.ref d),some (.ref k),some (.ref t),some (.ref n),some (.str nm),none,none,none] L1=some (.nx [some (.ref d),some (.ref k),some (.ref t),some (.ref n),some (.str nm),some (.tup (m.map ptU)),none,none],M2):=by
  have e2':(A0 semTuple (Ac (Ms (Bn [none,none] (Ju Fm (Ae 2)) (MR.gTup 2 (MR.gCons (gN 0) (MR.gCons (gN 1) MR.gNil))) none Lb)) Ag)) [some (.ref d),some (.ref k),some (.ref t),some (.ref n),some (.str nm),none,none,none] L1=some (.tup (m.map ptU),M2):=e2
  rw[Cy,e2'];rfl
 have S2:=S1.gw g2
 obtain ⟨q,M3,e3,D3,y3⟩:=N4 (ps:=m) (by omega) S2.ok S2.D (by omega)
 have S3:=S2.ex D3 y3
 have s3:(Bq (Ar 2 Eh (Ac (Ae 0) (Ac (Ae 5) Ag))) (gN 6)) [some (.ref d),some (.ref k),some (.ref t),some (.ref n),some (.str nm),some (.tup (m.map ptU)),none,none] M2=some (.nx [some (.ref d),some (.ref k),some (.ref t),some (.ref n),some (.str nm),some (.tup (m.map ptU)),some (prU q),none],M3):=by
  rw[Cy,Aen (i:=0) (j:=5) rfl rfl e3];rfl
 obtain ⟨w,M4,e4,w0,w1,D4,y4⟩:=Cd (many:=5) S3.D (by omega) (by decide) (by decide)
 have S4:=S3.ex D4 y4
 have s4:(Bq (Ar 2 Al (Ac (Ae 0) (Ac (fC (.int 5)) Ag))) (gN 7)) [some (.ref d),some (.ref k),some (.ref t),some (.ref n),some (.str nm),some (.tup (m.map ptU)),some (prU q),none] M3=some (.nx [some (.ref d),some (.ref k),some (.ref t),some (.ref n),some (.str nm),some (.tup (m.map ptU)),some (prU q),some (.int w)],M4):=by
  rw[Cy,Qv (i:=0) rfl e4];rfl
 generalize hδ:[some (U.ref d),some (U.ref k),some (U.ref t),some (U.ref n),some (U.str nm),some (U.tup (m.map ptU)),some (prU q),some (U.int w)] = δ at s4
 have v1:∀ M,Ae 1 δ M=some (.ref k,M):=fun M=>by rw[<- hδ];rfl
 have v2:∀ M,Ae 2 δ M=some (.ref t,M):=fun M=>by rw[<- hδ];rfl
 have v4:∀ M,Ae 4 δ M=some (.str nm,M):=fun M=>by rw[<- hδ];rfl
 have v6:∀ M,Ae 6 δ M=some (prU q,M):=fun M=>by rw[<- hδ];rfl
 have v7:∀ M,Ae 7 δ M=some (.int w,M):=fun M=>by rw[<- hδ];rfl
 have fr4:Fr (TP d p t) L M4:=(((Ex.fr y1 (.inl rfl)).trans (g2.fr _)).trans (Ex.fr y3 (.inl rfl))).trans (Ex.fr y4 (.inl rfl))
 have fin:∀ (m':List NP),Fr (TP d p t) L ((M4.set p (.dic (kG ptU m'))).set t (.dic (kG (fun p=>prU p.2) m'))):=fun m'=>(fr4.trans (Fr.put _ (.inr (.inl rfl)) _)).trans (Fr.put _ (.inr (.inr rfl)) _)
 have D15:Seed M4 d (B+15):=S4.D.mono (by omega)
 have S4':Both M4 d k p t n (B+15) m names:=S4.ex D15 (Ex.refl _ _)
 have tk:∀ o,(M4.set p o)[t]? = some (.dic (kG (fun p=>prU p.2) m)):=fun o=>by rw[bI S4.pt];exact S4.T
 have last:∃ (m':List NP) (L':UH),(Dv (Az (f2 Ei (Ae 4) (Ae 2))) (Bf (C3 (Bj "KeptPoints" "put_point" 4 Bh (Ae 1) (Ac (Ae 4) (Ac (f2 Ao (Ae 6) (fC (.int 0))) (Ac (f2 Ao (Ae 6) (fC (.int 1))) Ag))))) (Lu (Ae 2) (Ae 4) (Ae 6))) (Dv (Az (f2 Q9 (Ae 7) (fC (.int 2)))) (Bf (C3 (Bj "KeptPoints" "take_point" 2 Bl (Ae 1) (Ac (Ae 4) Ag))) (C3 (Sy (Ae 2) (Ae 4)))) (Dv (Az (f2 Q9 (Ae 7) (fC (.int 4)))) (Bf (C3 (Bj "KeptPoints" "move_point" 4 B0 (Ae 1) (Ac (Ae 4) (Ac (f2 Ao (Ae 6) (fC (.int 0))) (Ac (f2 Ao (Ae 6) (fC (.int 1))) Ag))))) (Lu (Ae 2) (Ae 4) (Ae 6))) Cq))) δ M4=some (.nx δ,L')/\Both L' d k p t n (B+15) m' names/\m'.length<=m.length+1/\Fr (TP d p t) L L'/\Af9 names m m':=by
  have t0:(Az (f2 Ei (Ae 4) (Ae 2))) δ M4=some (!Gq m nm,M4):=by
   rw[fTest_eq,f2_eq,v4,aA,v2,aA,O6 S4.T];rfl
  cases hh:Gq m nm with
  | false=>
   refine ⟨Js m nm q,_,?_,S4'.set (S4.ok.put hnm),Wk m nm q,fin _,.inr (.inl ⟨nm,q,hmem,rfl⟩)⟩
   rw[hh] at t0
   rw[fIfS_eq,t0]
   simp only[aA,pN,if_true]
   rw[An (Ai4 (q:=q) S4.K (by decide +kernel) v1 v4 v6 (Aai S4.K hh (by omega)))]
   exact Al2 (tk _) (by omega) v2 v4 v6
  | true=>
   rw[hh] at t0
   have t1:∀ c:Int,(Az (f2 Q9 (Ae 7) (fC (.int c)))) δ M4=some (decide (w < c),M4):=fun c=>by
    rw[fTest_eq,f2_eq,v7,aA,fC_eq];rfl
   cases h2:decide (w < 2) with
   | true=>
    have mk:(C3 (Bj "KeptPoints" "take_point" 2 Bl (Ae 1) (Ac (Ae 4) Ag))) δ M4=some (.nx δ,M4.set p (.dic (kG ptU (K5 m nm)))):=by
     have no:=Ml (s := "take_point") p (by decide +kernel)
     have e:=Ac9 S4.K hh
     unfold C3 Bj
     rw[v1]
     simp only[aA,Eg S4.K.ob,no,if_true,fNil_eq,fCons_eq,v4,aD,aI,aL,e]
    refine ⟨K5 m nm,_,?_,S4'.set S4.ok.drop,Nat.le_succ_of_le (Abz m nm),fin _,.inr (.inr ⟨nm,rfl⟩)⟩
    rw[fIfS_eq,t0]
    simp only[aA,gO,bJ,if_false]
    rw[fIfS_eq,t1 2,h2]
    simp only[aA,if_true]
    rw[An mk]
    exact Aav (tk _) hh (v2 _) (v4 _)
   | false=>
    cases h3:decide (w < 4) with
    | true=>
     refine ⟨Js m nm q,_,?_,S4'.set (S4.ok.put hnm),Wk m nm q,fin _,.inr (.inl ⟨nm,q,hmem,rfl⟩)⟩
     rw[fIfS_eq,t0]
     simp only[aA,gO,bJ,if_false]
     rw[fIfS_eq,t1 2,h2]
     simp only[aA,bJ,if_false]
     rw[fIfS_eq,t1 4,h3]
     simp only[aA,if_true]
     rw[An (Ai4 (q:=q) S4.K (by decide +kernel) v1 v4 v6 (Acw S4.K hh (by omega)))]
     exact Al2 (tk _) (by omega) v2 v4 v6
    | false=>
     refine ⟨m,M4,?_,S4',by omega,fr4,.inl rfl⟩
     rw[fIfS_eq,t0]
     simp only[aA,gO,bJ,if_false]
     rw[fIfS_eq,t1 2,h2]
     simp only[aA,bJ,if_false]
     rw[fIfS_eq,t1 4,h3]
     simp only[aA,bJ,if_false,Du]
 obtain ⟨m',L',e5,S5,l5,f5,d5⟩:=last
 refine ⟨m',L',?_,S5,l5,f5,d5⟩
 unfold Hv fnU Vo
 simp only[aI,aL,if_true,aO,bK,bE,dD,dB]
 rw[An s1,An s2,An s3,An s4,e5]
 rfl
theorem Rx{L:UH}{k p:Nat}{m:List NP}(T:Kept L k p m):Bk [.ref k] L=some (.tup (m.map ptU),L):=by
 have f1:=T.fld (δ:=[some (.ref k)]) (fe:=Ae 0) rfl
 unfold Bk fnU Fo
 simp only[aI,aL,if_true,aO,bK,cI,bM,aX]
 rw[fRet_eq]
 unfold W0
 rw[f1]
 simp only[aA,Jj T.pt,aD,Aan]
theorem Le{L:UH}{k p:Nat}{m:List NP}(T:Kept L k p m){δ:UE}{i:Nat}(h:Ae i δ L=some (.ref k,L)):(Bj "KeptPoints" "points_now" 1 Bk (Ae i) Ag) δ L=some (.tup (m.map ptU),L):=by
 have no:=Ml (s := "points_now") p (by decide +kernel)
 have e:=Rx T
 unfold Bj
 rw[h]
 simp only[aA,Eg T.ob,no,if_true,fNil_eq,aL,e]
theorem Uq{L:UH}{k p:Nat}{m:List NP}(T:Kept L k p m)(hl:m.length < 1000):∃ L',Cm [.ref k] L=some (.int (pairs (m.map (·.2))),L')/\Gw L L':=by
 obtain ⟨L1,e1,g1⟩:=Vt m L (by omega)
 have e1':Dr [.tup (m.map ptU)] L=some (.int (pairs (m.map (·.2))),L1):=e1
 refine ⟨L1,?_,g1⟩
 unfold Cm fnU Ge
 simp only[aI,aL,if_true,aO,bK,cI,bM,aX]
 rw[fRet_eq,fOwn_eq,fCons_eq,Le T rfl]
 simp only[aA,fNil_eq,aD,aI,aL,if_true,e1']
theorem Xf{L:UH}{k p:Nat}{m:List NP}(T:Kept L k p m)(hl:m.length < 1000){δ:UE}{i:Nat}(h:Ae i δ L=some (.ref k,L)):∃ L',(Bj "KeptPoints" "pairs_now" 1 Cm (Ae i) Ag) δ L=some (.int (pairs (m.map (·.2))),L')/\Gw L L':=by
 have no:=Ml (s := "pairs_now") p (by decide +kernel)
 obtain ⟨L1,e,g⟩:=Uq T hl
 refine ⟨L1,?_,g⟩
 unfold Bj
 rw[h]
 simp only[aA,Eg T.ob,no,if_true,fNil_eq,aL,e]
theorem X8{L:UH}{k p:Nat}{m:List NP}(T:Kept L k p m)(hl:m.length < 1000)(b:Int×Int×Int×Int):∃ L',Cr [.ref k,bxU b] L=some (.int (cntB m b:Nat),L')/\Gw L L':=by
 obtain ⟨L1,e1,g1⟩:=Pe (ps:=m) (by omega) [b] (by simp) L
 refine ⟨L1,?_,g1⟩
 have ht:(C7 (Ac (Ae 1) Ag)) [some (.ref k),some (bxU b)] L=some (.tup ([b].map bxU),L):=rfl
 unfold Cr fnU G1
 simp only[aI,aL,if_true,aO,bK,cI,bM,aX]
 rw[fRet_eq,f2_eq,fOwn_eq,fCons_eq,Le T rfl,aA,fCons_eq,ht]
 simp only[aA,fNil_eq,aD,aI,aL,if_true,e1]
 rfl
noncomputable def NdK(m:List NP):Prop:=(m.map (·.1)).Nodup
theorem Vj{m:List NP}{nm:Str}:Gq m nm=true↔nm∈m.map (·.1):=by
 unfold Gq
 rw[List.any_eq_true,lK]
 constructor
 ·rintro ⟨p,hp,e⟩;exact ⟨p,hp,of_decide_eq_true e⟩
 ·rintro ⟨p,hp,e⟩;exact ⟨p,hp,decide_eq_true e⟩
theorem Vq{m:List NP}{nm:Str}{q:Int×Int}(h:Gq m nm=false):Js m nm q=m++[(nm,q)]:=by
 unfold Js;rw[if_neg (by rw[h];exact eA)]
theorem Abf{m:List NP}{nm:Str}{q:Int×Int}(h:Gq m nm=true):(Js m nm q).map (·.1)=m.map (·.1):=by
 unfold Js
 rw[if_pos h,eK]
 apply jH
 intro p _
 show (if p.1=nm then (nm,q) else p).1=p.1
 by_cases e:p.1=nm
 ·rw[if_pos e];exact e.symm
 ·rw[if_neg e]
theorem NdK.put{m:List NP}{nm:Str}{q:Int×Int}(h:NdK m):NdK (Js m nm q):=by
 cases hh:Gq m nm with
 | true=>unfold NdK;rw[Abf hh];exact h
 | false=>
  unfold NdK
  rw[Vq hh,eG,kL]
  refine ⟨h,by simp,fun a ha b hb e=>?_⟩
  have hb':b=nm:=by simpa using hb
  subst e;subst hb'
  have:=Vj.mpr ha
  rw[hh] at this;cases this
theorem NdK.drop{m:List NP}{nm:Str}(h:NdK m):NdK (K5 m nm):=by
 unfold NdK K5
 exact nG (oM _ List.filter_sublist) h
noncomputable def KIn(m:List NP)(names:List Str):Prop:=∀ p∈m,p.1∈names
theorem KIn.deed{names:List Str}{m m':List NP}(h:KIn m names)(d:Af9 names m m'):KIn m' names:=by
 rcases d with rfl | ⟨nm,q,hn,rfl⟩ | ⟨nm,rfl⟩
 ·exact h
 ·intro p hp
  unfold Js at hp
  split at hp
  ·obtain ⟨p',hp',e⟩:=lK.mp hp
   split at e
   ·subst e;exact hn
   ·subst e;exact h _ hp'
  ·rcases eS.mp hp with z | z
   ·exact h _ z
   ·have:=dQ.mp z
    subst this;exact hn
 ·exact fun p hp=>h p (fK.mp hp).1
theorem NdK.deed{names:List Str}{m m':List NP}(h:NdK m)(d:Af9 names m m'):NdK m':=by
 rcases d with rfl | ⟨nm,q,hn,rfl⟩ | ⟨nm,rfl⟩
 ·exact h
 ·exact h.put
 ·exact h.drop
theorem Vu{L:UH}{k p:Nat}{m:List NP}{fN:FN}{s:Str}{v:Int}{x y:Int}{fo fa fb:FE}{δ:UE}(T:Kept L k p m)(hno:(s == "points")=false)(ho:fo δ L=some (.ref k,L))(ha:fa δ L=some (.int x,L))(hb:fb δ L=some (.int y,L))(hN:∃ L',fN [.ref k,.int x,.int y] L=some (.int v,L')/\Gw L L') :
  ∃ L',(Bj "KeptPoints" s 3 fN fo (Ac fa (Ac fb Ag))) δ L=some (.int v,L')/\Gw L L':=by
 obtain ⟨L1,e,g⟩:=hN
 have no:=Ml (s:=s) p hno
 refine ⟨L1,?_,g⟩
 unfold Bj
 rw[ho]
 simp only[aA,Eg T.ob,no,if_true,fNil_eq,fCons_eq,ha,hb,aD,aI,aL,e]
theorem Al6{L:UH}{k p:Nat}{m:List NP}{fN:FN}{s:Str}{nm:Str}{q:Int×Int}{δ:UE}{L':UH}{f0 f1 f2' f3:FE}(T:Kept L k p m)(hno:(s == "points")=false)(h0:f0 δ L=some (.ref k,L))(h1:f1 δ L=some (.str nm,L))(h2:f2' δ L=some (.int q.1,L))(h3:f3 δ L=some (.int q.2,L))(e:fN [.ref k,.str nm,.int q.1,.int q.2] L=some (.non,L')) :
  (C3 (Bj "KeptPoints" s 4 fN f0 (Ac f1 (Ac f2' (Ac f3 Ag))))) δ L=some (.nx δ,L'):=by
 have no:=Ml (s:=s) p hno
 unfold C3 Bj
 rw[h0]
 simp only[aA,Eg T.ob,no,if_true,fNil_eq,fCons_eq,h1,h2,h3,aD,aI,aL,e]
theorem Af4{m:List NP}(h:NdK m){j:Nat}{p:NP}(hp:m[j]? = some p):Gq (m.take j) p.1=false:=by
 cases hh:Gq (m.take j) p.1 with
 | false=>rfl
 | true=>
  have h1:=Vj.mp hh
  have hs:m.take (j+1)=m.take j++[p]:=by rw[iB,hp];rfl
  have hn:NdK (m.take (j+1)):=nG (oM _ (nO _ _)) h
  unfold NdK at hn
  rw[hs,eG,kL] at hn
  exact absurd rfl (hn.2.2 p.1 h1 p.1 (by simp))
theorem Ab8{L:UH}{k p:Nat}{m:List NP}(hn:NdK m)(hl:m.length < 1000){j:Nat}{q:NP}(hq:m[j]? = some q)(T:Kept L k p (m.take j)):∃ L',Bh [.ref k,.str q.1,.int q.2.1,.int q.2.2] L=some (.non,L')/\Kept L' k p (m.take (j+1))/\L'=L.set p (.dic (kG ptU (m.take (j+1)))):=by
 have hf:=Af4 hn hq
 have e:=Aai (x:=q.2.1) (y:=q.2.2) T hf (by rw[fE];omega)
 have hs:m.take (j+1)=m.take j++[q]:=by rw[iB,hq];rfl
 have hp:Js (m.take j) q.1 (q.2.1,q.2.2)=m.take (j+1):=by rw[Vq hf,hs]
 rw[hp] at e
 exact ⟨_,e,T.set,rfl⟩
theorem semAddA_int(i j:Int)(L:UH):Eu (.int i) (.int j) L=some (.int (i+j),L):=rfl
theorem Gw.ex'{L M M':UH}{d:Nat}(g:Gw L M)(x:Ex d M M')(hd:L.length<=d):Gw L M':=
 Gw.of (cC g.le x.le) fun i hi=>by
  rw[x.at_ i (aU hi g.le) (by omega)]
  obtain ⟨y,rfl⟩:=g
  rw[aW hi]
theorem Gw.fr'{L M M':UH}{P:Nat->Prop}(g:Gw L M)(x:Fr P M M')(hd:∀ i,P i->L.length<=i):Gw L M':=
 Gw.of (cC g.le x.le) fun i hi=>by
  rw[x.at_ i (aU hi g.le) (fun z=>by have:=hd i z;omega)]
  obtain ⟨y,rfl⟩:=g
  rw[aW hi]
inductive names0_ok_I(L:UH)(d:Nat)(B:Int)(δ:UE):Prop
 | mk (n:Nat) (names:List Str) (L':UH) (h0:(Ar 2 Jx (Ac (Ae 2) (Ac (f2 Eu (fC (.int 1)) (Ar 2 Al (Ac (Ae 2) (Ac (f2 Ao (E5 (Ac (fC (.int 6)) (Ac (fC (.int 60)) Ag))) (Ar 2 Al (Ac (Ae 2) (Ac (fC (.int 2)) Ag)))) Ag)))) Ag))) δ L=some (.ref n,L')) (h1:L'[n]? = some (.lst (names.map U.str))) (h2:(0 < names.length/\names.length<=100)) (h3:(∀ x∈names,x∈spare3)) (h4:Seed L' d (B+70)) (h5:Ex d L L') (h6:L.length<=n):names0_ok_I L d B δ
theorem Aby{L:UH}{d:Nat}{B:Int}(D:Seed L d B)(hB:B<=50000){δ:UE}(h2:∀ M,Ae 2 δ M=some (.ref d,M)):names0_ok_I L d B δ:=by
 have sm2:∀ x y:U,Eb [x,y].length=true:=fun _ _=>B1 (by show 2<=16777216;decide)
 obtain ⟨i,L1,e1,i0,i1,D1,y1⟩:=Cd (many:=2) (D.new [HU.lst [.int 6,.int 60]]) (by omega) (by decide) (by decide)
 have dl:=D.lt
 have q1:Ba L1 L.length=some [.int 6,.int 60]:=Be (y1.get (i:=L.length) (by simp) (by omega))
 have hv:∃ v:Int,L2.atI [U.int 6,.int 60] i=some (.int v)/\0 < v/\v<=60:=by
  have:i=0\/i=1:=by omega
  rcases this with rfl | rfl
  ·exact ⟨6,rfl,by decide,by decide⟩
  ·exact ⟨60,rfl,by decide,by decide⟩
 obtain ⟨v,hv,v0,v1⟩:=hv
 obtain ⟨w,M2,e2,w0,w1,D2,y2⟩:=Cd (many:=v) D1 (by omega) v0 (by omega)
 obtain ⟨c,hc⟩:∃ c:Nat,1+w=(c:Int):=⟨(1+w).toNat,by omega⟩
 obtain ⟨n,names,M3,e3,h3,hl3,_,hs3,D3,y3,hn3⟩:=Afq (many:=c) D2 (by omega) (by omega)
 refine ⟨n,names,M3,?_,h3,⟨by omega,by omega⟩,hs3,D3.mono (by omega),(((Ex.new d _ _).trans y1).trans y2).trans y3,?_⟩
 ·have el:(f2 Ao (E5 (Ac (fC (.int 6)) (Ac (fC (.int 60)) Ag))) (Ar 2 Al (Ac (Ae 2) (Ac (fC (.int 2)) Ag)))) δ L=some (.int v,L1):=by
   have ea:(E5 (Ac (fC (.int 6)) (Ac (fC (.int 60)) Ag))) δ L=some (.ref L.length,L++[.lst [.int 6,.int 60]]):=by
    simp only[Mg,fCons_eq,fNil_eq,fC_eq,aD,aA,if_pos (sm2 _ _)]
   rw[f2_eq,ea,aA,Qv (i:=2) (h2 _) e1]
   simp only[aA,semIx_ref,q1,hv,aD]
  have em:(f2 Eu (fC (.int 1)) (Ar 2 Al (Ac (Ae 2) (Ac (f2 Ao (E5 (Ac (fC (.int 6)) (Ac (fC (.int 60)) Ag))) (Ar 2 Al (Ac (Ae 2) (Ac (fC (.int 2)) Ag)))) Ag)))) δ L=some (.int c,M2):=by
   rw[f2_eq,fC_eq,aA,fOwn_eq,fCons_eq,h2]
   simp only[aA]
   rw[fCons_eq,el]
   simp only[fNil_eq,aD,aA,aI,aL,if_true,e2,semAddA_int,hc]
  rw[fOwn_eq,fCons_eq,h2]
  simp only[aA]
  rw[fCons_eq,em]
  simp only[fNil_eq,aD,aA,aI,aL,if_true,e3]
 ·have h1:=y1.le
  have h2:=y2.le
  simp only[cN,aI,aL] at h1
  omega
theorem Ads{M2:UH}{d n:Nat}{B:Int}{names:List Str}(D2:Seed M2 d B)(hn2:M2[n]? = some (.lst (names.map U.str)))(hnd:n≠d)(hnok:∀ x∈names,cV x=true)(hnl:0 < names.length/\names.length<=100) :
  Both (M2++[.ins "KeptPoints" (kfl (M2.length+1))]++[.dic (kG ptU [])]++[.dic []]) d M2.length (M2.length+1) (M2.length+2) n B [] names:=by
 have g4:Gw M2 (M2++[.ins "KeptPoints" (kfl (M2.length+1))]++[.dic (kG ptU [])]++[.dic []]):=((Gw.new _ _).trans (Gw.new _ _)).trans (Gw.new _ _)
 have dl:=D2.lt
 refine ⟨D2.gw g4,⟨?_,?_⟩,?_,g4.get hn2,(fun p hp=>by cases hp),by omega,by omega,by omega,hnd,by omega,hnok,hnl⟩
 ·rw[aW (by simp),aW (by simp)];simp
 ·rw[aW (by simp)]
  rw[bY (by simp)];simp
 ·rw[bY (by simp)];simp[kG]
theorem T9{L:UH}{a b:Nat}{xs ys:List U}(h1:L[a]? = some (.lst xs))(h2:L[b]? = some (.lst ys))(hs:xs.length+ys.length<=1000):Ax (.ref a) (.ref b) L=some (.ref L.length,L++[.lst (xs++ys)]):=by
 unfold Ax
 simp only[Fx h1,Fx h2,aA]
 rw[if_pos (B1 (by omega))]
theorem Acu(us:List U)(c:Nat):Wx us none (some (c:Int))=us.take c:=by
 unfold Wx
 rw[HT.Adx,HT.Ag1,pM,Nat.sub_zero]
 by_cases h:c<=us.length
 ·rw[oQ h]
 ·rw[oE (by omega),eJ (bD _),eJ (by omega)]
theorem Ajj(ns:List Int){δ:UE}(h0:∀ M,Ae 0 δ M=some (.ref 0,M)):∃ (cs:List Int) (M3:UH),(Bu (f2 Eu (fSl semSl (Ae 0) Kv (Q5 (fC (.int 1)))) (E5 (Ac (Ar 1 Gm (Ac (Ae 0) Ag)) Ag)))) δ [.ro (ns.map U.int)]=some (.ref 3,M3)/\Ba M3 3=some (cs.map U.int):=by
 let L1:UH:=[.ro (ns.map U.int)]
 have hs:Ba L1 0=some (ns.map U.int):=rfl
 have hcut:Wx (ns.map U.int) none (some 1)=(ns.take 1).map U.int:=by
  have:=Acu (ns.map U.int) 1
  rw[pS]
  exact this
 obtain ⟨r,e1⟩:=Acb (L:=L1++[.lst ((ns.take 1).map U.int)]) (n:=0) ns (Gv hs)
 let M2:UH:=L1++[.lst ((ns.take 1).map U.int)]++[.lst [.int r]]
 have hadd:Ax (.ref 1) (.ref 2) M2=some (.ref 3,M2++[.lst ((ns.take 1).map U.int++[.int r])]):=T9 (L:=M2) (a:=1) (b:=2) (xs:=(ns.take 1).map U.int) (ys:=[.int r]) rfl rfl (by rw[bB,fE];simp only[aI,aL];omega)
 let M3:UH:=M2++[.lst ((ns.take 1++[r]).map U.int)]
 have hadd':Eu (.ref 1) (.ref 2) M2=some (.ref 3,M3):=by show Ax (.ref 1) (.ref 2) M2=_;rw[hadd];simp[M3]
 have h3:Ba M3 3=some ((ns.take 1++[r]).map U.int):=Be rfl
 refine ⟨ns.take 1++[r],M3,?_,h3⟩
 have ha:(fSl semSl (Ae 0) Kv (Q5 (fC (.int 1)))) δ L1=some (.ref 1,L1++[.lst ((ns.take 1).map U.int)]):=by
  rw[fSl_eq,h0]
  simp only[fNoPart_eq,fPart_eq,fC_eq,aD,aA,semSl,hs,hcut]
  rfl
 have hb:(E5 (Ac (Ar 1 Gm (Ac (Ae 0) Ag)) Ag)) δ (L1++[.lst ((ns.take 1).map U.int)])=some (.ref 2,M2):=by
  have sm1:∀ x:U,Eb [x].length=true:=fun _=>B1 (by show 1<=16777216;decide)
  rw[Mg,fCons_eq,Aa7 (i:=0) (h0 _) e1]
  simp only[aA,fNil_eq,aD]
  rw[if_pos (sm1 _)]
  rfl
 show (Bu _) δ L1=_
 rw[Kc,f2_eq,ha,aA,hb,aA,hadd',aA,Gn h3]
 rfl
theorem Tw{L:UH}{t:Nat}{m:List NP}(ht:L[t]? = some (.dic (kG (fun p=>prU p.2) m)))(hl:m.length < 1000):∃ L',Dw [.ref t] L=some (.tup (m.map ptU),L')/\Gw L L':=by
 obtain ⟨L',e,g⟩:=Wj (i:=0) (δ:=[some (.ref t)]) (L:=L) rfl ht hl
 have e':(A0 semTuple (Ac (Ms (Bn [none,none] (Ju Fm (Ae 0)) (MR.gTup 2 (MR.gCons (gN 0) (MR.gCons (gN 1) MR.gNil))) none Pf)) Ag)) [some (.ref t)] L=some (.tup (m.map ptU),L'):=e
 refine ⟨L',?_,g⟩
 unfold Dw fnU V8
 simp only[aI,aL,if_true,aO,bK,cI,bM,aX]
 rw[fRet_eq,e']
 rfl
theorem Abb{L:UH}{t:Nat}{m:List NP}(ht:L[t]? = some (.dic (kG (fun p=>prU p.2) m)))(hn:NdK m)(hl:m.length < 1000):∃ (k p:Nat) (L':UH),Kn [.ref t] L=some (.ref k,L')/\Kept L' k p m/\Gw L L':=by
 have s1:(Bq (Oe "KeptPoints" 1 Bb Ag) (gN 1)) [some (.ref t),none,none,none,none] L=some (.nx [some (.ref t),some (.ref L.length),none,none,none],L++[.ins "KeptPoints" (kfl (L.length+1))]++[.dic (kG ptU [])]):=by
  rw[Cy,Vs L];rfl
 have T0:Kept (L++[.ins "KeptPoints" (kfl (L.length+1))]++[.dic (kG ptU [])]) L.length (L.length+1) []:=⟨by rw[aW (by simp)];simp,by rw[bY (by simp)];simp⟩
 have g0:Gw L (L++[.ins "KeptPoints" (kfl (L.length+1))]++[.dic (kG ptU [])]):=(Gw.new _ _).trans (Gw.new _ _)
 generalize hk:L.length=k at s1 T0 g0
 generalize L++[.ins "KeptPoints" (kfl (k+1))]++[.dic (kG ptU [])]=M at s1 T0 g0
 obtain ⟨M1,e1,g1⟩:=Tw (g0.get ht) hl
 have hi:(Bu (Ar 1 Dw (Ac (Ae 0) Ag))) [some (.ref t),some (.ref k),none,none,none] M=some (.seq (m.map ptU),M1):=by
  rw[Kc,Aa7 (i:=0) rfl e1];rfl
 obtain ⟨δ',L',e,P⟩:=Nm (us:=m.map ptU) (body:=N7) (g:=MR.gTup 3 (MR.gCons (gN 2) (MR.gCons (gN 3) (MR.gCons (gN 4) MR.gNil))))
  (fun j δ' M=>(∃ y2 y3 y4,δ'=[some (.ref t),some (.ref k),y2,y3,y4])/\Kept M k (k+1) (m.take j)/\Gw L M) hi ⟨⟨_,_,_,rfl⟩,T0.gw g1,g0.trans g1⟩
  (fun j u δ M hu hP=>by
   obtain ⟨⟨y2,y3,y4,rfl⟩,T,g⟩:=hP
   rw[bO] at hu
   obtain ⟨q,hq,rfl⟩:=aM.mp hu
   obtain ⟨M',e,T',hM'⟩:=Ab8 hn hl hq T
   refine ⟨[some (.ref t),some (.ref k),some (.str q.1),some (.int q.2.1),some (.int q.2.2)],M,rfl,[some (.ref t),some (.ref k),some (.str q.1),some (.int q.2.1),some (.int q.2.2)],M',.inl ?_,⟨_,_,_,rfl⟩,T',by rw[hM'];exact g.set (by omega) _⟩
   exact Al6 (q:=q.2) T (by decide +kernel) rfl rfl rfl rfl e)
 obtain ⟨⟨y2,y3,y4,rfl⟩,T,g⟩:=P
 rw[bB,oK] at T
 refine ⟨k,k+1,L',?_,T,g⟩
 unfold Kn fnU Qf
 simp only[aI,aL,if_true,aO,bK,bE,dD,dB]
 rw[An s1,An e]
 rfl
inductive Ask where
 | all | prs | bel (q:Int×Int) | abv (q:Int×Int) | box (b:Int×Int×Int×Int)
noncomputable def Pq:Ask->Int
 | .all=>0 | .prs=>1 | .bel _=>2 | .abv _=>3 | .box _=>4
noncomputable def hereA:Ask->U
 | .all=>.tup [] | .prs=>.tup [] | .bel q=>prU q | .abv q=>prU q | .box b=>bxU b
noncomputable def La(a:Ask):U:=.tup [.int (Pq a),hereA a]
noncomputable def Abi(m:List NP):Ask->U
 | .all=>.tup (m.map ptU) | .prs=>.int (pairs (m.map (·.2))) | .bel q=>.int ((m.filter fun p=>Ef p.2 q).length:Nat) | .abv q=>.int ((m.filter fun p=>Ef q p.2).length:Nat) | .box b=>.int (cntB m b:Nat)
theorem D0{w c:Int}{S:FS}{δ:UE}{L:UH}(h:Ae 1 δ L=some (.int w,L))(hne:(w == c)=false):(Dv (Az (f2 B2 (Ae 1) (fC (.int c)))) S Cq) δ L=some (.nx δ,L):=by
 rw[fIfS_eq,fTest_eq,f2_eq,h]
 simp only[aA,fC_eq,Hr,hne,bJ,if_false,Du]
theorem Iv{w c:Int}{S T:FS}{v:U}{δ:UE}{L L':UH}(h:Ae 1 δ L=some (.int w,L))(he:(w == c)=true)(e:S δ L=some (.rt v,L')):(Bf (Dv (Az (f2 B2 (Ae 1) (fC (.int c)))) S Cq) T) δ L=some (.rt v,L'):=by
 rw[fSeq_eq,fIfS_eq,fTest_eq,f2_eq,h]
 simp only[aA,fC_eq,Hr,he,if_true,e]
theorem Oc{fe:FE}{v:U}{δ:UE}{L L':UH}(e:fe δ L=some (v,L')):(Ci fe) δ L=some (.rt v,L'):=by rw[fRet_eq,e];rfl
theorem fn3{b:FS}{x y z v:U}{L L':UH}(e:b [some x,some y,some z] L=some (.rt v,L')):fnU 3 3 b [x,y,z] L=some (v,L'):=by
 unfold fnU
 simp only[aI,aL,if_true,aO,bK,cI,bM,aX]
 rw[e];rfl
theorem Agx{L:UH}{k p:Nat}{m:List NP}(T:Kept L k p m)(hl:m.length < 1000)(a:Ask):∃ L',Rp [.ref k,.int (Pq a),hereA a] L=some (Abi m a,L')/\Gw L L':=by
 suffices h:∃ L',Qd [some (.ref k),some (.int (Pq a)),some (hereA a)] L=some (.rt (Abi m a),L')/\Gw L L' from by
  obtain ⟨L',e,g⟩:=h
  exact ⟨L',fn3 e,g⟩
 unfold Qd
 cases a with
 | all=>exact ⟨L,Iv rfl rfl (Oc (Le T rfl)),Gw.refl _⟩
 | prs=>
  obtain ⟨L',e,g⟩:=Xf T hl (i:=0) (δ:=[some (.ref k),some (.int (Pq .prs)),some (hereA .prs)]) rfl
  exact ⟨L',by rw[An (D0 rfl rfl)];exact Iv rfl rfl (Oc e),g⟩
 | bel q=>
  obtain ⟨L',e,g⟩:=Vu (fN:=C5) (s := "below_now") (fo:=Ae 0) (fa:=f2 Ao (Ae 2) (fC (.int 0))) (fb:=f2 Ao (Ae 2) (fC (.int 1))) (δ:=[some (.ref k),some (.int (Pq (.bel q))),some (hereA (.bel q))]) T (by decide +kernel) rfl rfl rfl (Ui (x:=q.1) (y:=q.2) T hl)
  exact ⟨L',by rw[An (D0 rfl rfl),An (D0 rfl rfl)];exact Iv rfl rfl (Oc e),g⟩
 | abv q=>
  obtain ⟨L',e,g⟩:=Vu (fN:=C6) (s := "above_now") (fo:=Ae 0) (fa:=f2 Ao (Ae 2) (fC (.int 0))) (fb:=f2 Ao (Ae 2) (fC (.int 1))) (δ:=[some (.ref k),some (.int (Pq (.abv q))),some (hereA (.abv q))]) T (by decide +kernel) rfl rfl rfl (U2 (x:=q.1) (y:=q.2) T hl)
  exact ⟨L',by rw[An (D0 rfl rfl),An (D0 rfl rfl),An (D0 rfl rfl)];exact Iv rfl rfl (Oc e),g⟩
 | box b=>
  obtain ⟨L',e,g⟩:=X8 T hl b
  have no:=Ml (s := "box_now") p (by decide +kernel)
  have e':(Bj "KeptPoints" "box_now" 2 Cr (Ae 0) (Ac (Ae 2) Ag)) [some (.ref k),some (.int (Pq (.box b))),some (hereA (.box b))] L=some (.int (cntB m b:Nat),L'):=by
   unfold Bj
   simp only[fVar_eq,aH,aK,aN,aD,aA,Eg T.ob,no,if_true,fNil_eq,fCons_eq,aI,aL,hereA,e]
  exact ⟨L',by rw[An (D0 rfl rfl),An (D0 rfl rfl),An (D0 rfl rfl),An (D0 rfl rfl)];exact Oc e',g⟩
theorem Aat{m:List NP}(hl:m.length < 1000){q:Int×Int}{rel:NP->Bool}{tt:FT}{fe:FE}{w:Option U}(htt:∀ (p:NP) (M:UH),∃ x,tt [some (.str p.1),some (.int p.2.1),some (.int p.2.2),some (prU q)] M=some (rel p,M++x))(hfe:∀ δ M,fe δ M=some (.int 1,M))(L:UH) :
  ∃ L',(A0 Cc (Ac (Bn [none,none,none,some 2] (Bu (Ae 0)) (MR.gTup 3 (MR.gCons (gN 0) (MR.gCons (gN 1) (MR.gCons (gN 2) MR.gNil)))) (some tt) fe) Ag)) [some (.tup (m.map ptU)),w,some (prU q)] L=some (.int ((m.filter rel).length:Nat),L')/\Gw L L':=by
 obtain ⟨x,e⟩:=Dt (ix:=[none,none,none,some 2]) (fi:=Bu (Ae 0)) (it:=.seq (m.map ptU)) (g:=(MR.gTup 3 (MR.gCons (gN 0) (MR.gCons (gN 1) (MR.gCons (gN 2) MR.gNil))))) (tt:=some tt) (fe:=fe) (δ:=[some (.tup (m.map ptU)),w,some (prU q)]) (L:=L) (L0:=L)
  m ptU rel (fun _=>.int 1) (fun δ=>∃ a b c,δ = [a,b,c,some (prU q)]) rfl (by simp[IU.size]) (by omega) ⟨none,none,none,rfl⟩
  (fun k x=>rfl)
  (fun p δ x _ hδ=>by
   obtain ⟨a,b,c,rfl⟩:=hδ
   obtain ⟨y,hy⟩:=htt p (L++x)
   refine ⟨[some (.str p.1),some (.int p.2.1),some (.int p.2.2),some (prU q)],rfl,⟨_,_,_,rfl⟩,y,hy,fun _=>⟨[],?_⟩⟩
   rw[hfe,aX])
 have hlen:=Iy (L:=L++x++[.lst ((m.filter rel).map fun _=>.int 1)]) (n:=(L++x).length) (l:=(m.filter rel).map fun _=>.int 1) (by simp)
 refine ⟨L++x++[.lst ((m.filter rel).map fun _=>.int 1)],?_,⟨x++[.lst ((m.filter rel).map fun _=>.int 1)],by rw[cA]⟩⟩
 rw[fCall_eq,fCons_eq,e]
 simp only[aA,fNil_eq,aD,hlen,bB]
theorem Akn{m:List NP}(hl:m.length < 1000)(a:Ask)(L:UH):∃ L',U5 [.tup (m.map ptU),.int (Pq a),hereA a] L=some (Abi m a,L')/\Gw L L':=by
 suffices h:∃ L',T8 [some (.tup (m.map ptU)),some (.int (Pq a)),some (hereA a)] L=some (.rt (Abi m a),L')/\Gw L L' from by
  obtain ⟨L',e,g⟩:=h
  exact ⟨L',fn3 e,g⟩
 unfold T8
 cases a with
 | all=>exact ⟨L,Iv rfl rfl (Oc rfl),Gw.refl _⟩
 | prs=>
  obtain ⟨L',e,g⟩:=Vt m L (by omega)
  exact ⟨L',by rw[An (D0 rfl rfl)];exact Iv rfl rfl (Oc (Aa7 (i:=0) rfl e)),g⟩
 | bel q=>
  obtain ⟨L',e,g⟩:=Aat (w:=some (.int 2)) hl (q:=q) (rel:=fun p=>Ef p.2 q) (tt:=Nb) (fe:=Qq) (fun p M=>by
   obtain ⟨x,e⟩:=P4 p.2 q M
   refine ⟨x,?_⟩
   have ht:(C7 (Ac (Ae 1) (Ac (Ae 2) Ag))) [some (.str p.1),some (.int p.2.1),some (.int p.2.2),some (prU q)] M=some (prU p.2,M):=rfl
   unfold Nb
   rw[fTru_eq,fOwn_eq,fCons_eq,ht]
   simp only[aA,fCons_eq,fNil_eq,fVar_eq,aK,aH,aN,aD,aI,aL,if_true,e,truU_bl]) (fun _ _=>rfl) L
  exact ⟨L',by rw[An (D0 rfl rfl),An (D0 rfl rfl)];exact Iv rfl rfl (Oc e),g⟩
 | abv q=>
  obtain ⟨L',e,g⟩:=Aat (w:=some (.int 3)) hl (q:=q) (rel:=fun p=>Ef q p.2) (tt:=Mx) (fe:=Rt) (fun p M=>by
   obtain ⟨x,e⟩:=P4 q p.2 M
   refine ⟨x,?_⟩
   have ht:(C7 (Ac (Ae 1) (Ac (Ae 2) Ag))) [some (.str p.1),some (.int p.2.1),some (.int p.2.2),some (prU q)] M=some (prU p.2,M):=rfl
   unfold Mx
   rw[fTru_eq,fOwn_eq,fCons_eq]
   simp only[aA,fVar_eq,aK,aH,aN,aD]
   rw[fCons_eq,ht]
   simp only[aA,fNil_eq,aD,aI,aL,if_true,e,truU_bl]) (fun _ _=>rfl) L
  exact ⟨L',by rw[An (D0 rfl rfl),An (D0 rfl rfl),An (D0 rfl rfl)];exact Iv rfl rfl (Oc e),g⟩
 | box b=>
  obtain ⟨L',e,g⟩:=Pe (ps:=m) (by omega) [b] (by simp) L
  have ht:(C7 (Ac (Ae 2) Ag)) [some (.tup (m.map ptU)),some (.int (Pq (.box b))),some (hereA (.box b))] L=some (.tup ([b].map bxU),L):=rfl
  refine ⟨L',?_,g⟩
  rw[An (D0 rfl rfl),An (D0 rfl rfl),An (D0 rfl rfl),An (D0 rfl rfl),fRet_eq,f2_eq,fOwn_eq,fCons_eq]
  simp only[fVar_eq,aH,aN,aD,aA]
  rw[fCons_eq,ht]
  simp only[aA,fNil_eq,aD,aI,aL,if_true,e]
  rfl
theorem Ai9{m:List NP}(ok:OkM m)(a:Ask)(M:UH):He (Abi m a) (Abi m a) M=some (.bl false,M):=by
 have hi:∀ i:Int,He (.int i) (.int i) M=some (.bl false,M):=fun i=>by
  have:He (.int i) (.int i) M=some (.bl (!(i == i)),M):=rfl
  rw[this];simp
 cases a with
 | all=>
  show He (.tup (m.map ptU)) (.tup (m.map ptU)) M=_
  rw[Vi M (Ra ok) (Ra ok),Rc (Ra ok)];rfl
 | prs=>exact hi _
 | bel q=>exact hi _
 | abv q=>exact hi _
 | box b=>exact hi _
inductive MkA(fe:FE)(δ:UE)(L:UH)(as:List Ask):Prop
 | mk (n:Nat) (L':UH) (e:fe δ L=some (.ref n,L')) (h:L'[n]? = some (.lst (as.map La))) (g:Gw L L') (l:L.length<=n)
theorem MkA.cat{fa fb:FE}{δ:UE}{L:UH}{as bs:List Ask}(ha:MkA fa δ L as)(hb:∀ M,Gw L M->MkA fb δ M bs)(hs:as.length+bs.length<=1000):MkA (f2 Ax fa fb) δ L (as++bs):=by
 obtain ⟨n,L1,e1,h1,g1,l1⟩:=ha
 obtain ⟨r,M,e2,h2,g2,l2⟩:=hb L1 g1
 have e:=T9 (g2.get h1) h2 (by simpa using hs)
 refine ⟨M.length,M++[.lst (as.map La++bs.map La)],?_,by simp,(g1.trans g2).trans (Gw.new _ _),(g1.trans g2).le⟩
 rw[f2_eq,e1,aA,e2,aA,e]
theorem Qu{β:Type}{rep:β->U}{f:β->Ask}{fe:FE}{i r:Nat}{xs:List β}{δ:UE}{L:UH}(hfe:∀ x M,fe [some (rep x)] M=some (La (f x),M))(h:Ae i δ L=some (.ref r,L))(hr:L[r]? = some (.lst (xs.map rep)))(hl:xs.length<=100)(hin:Jf [none] δ = [none]):MkA (Bn [none] (Bu (Ae i)) (gN 0) none fe) δ L (xs.map f):=by
 have hq:=Be hr
 obtain ⟨x,e⟩:=Dt (ix:=[none]) (fi:=Bu (Ae i)) (it:=.ref r) (g:=gN 0) (tt:=none) (fe:=fe) (δ:=δ) (L:=L) (L0:=L)
  xs rep (fun _=>true) (fun x=>La (f x)) (fun δ=>∃ a,δ = [a]) (by rw[Kc,h];simp only[aA,Gn hq,aD]) (by rw[Nh hq];simp) (by omega) ⟨none,hin⟩
  (fun k x=>Ux (Gv hq))
  (fun y δ x _ hδ=>by
   obtain ⟨a,rfl⟩:=hδ
   refine ⟨[some (rep y)],rfl,⟨_,rfl⟩,[],by simp[Hf],fun _=>⟨[],?_⟩⟩
   rw[hfe,aX,aX])
 have hf:fY (fun _=>true) xs=xs:=dZ.mpr (fun _ _=>rfl)
 rw[hf] at e
 exact ⟨(L++x).length,_,e,by simp,⟨x++[.lst (xs.map fun x=>La (f x))],by rw[cA]⟩,by simp⟩
noncomputable def Abd(qs:List (Int×Int))(bs:List (Int×Int×Int×Int)):List Ask:=[.all,.prs]++qs.map .bel++qs.map .abv++bs.map .box
theorem Aee(qs:List (Int×Int))(bs:List (Int×Int×Int×Int)):(Abd qs bs).length=2+qs.length+qs.length+bs.length:=by
 unfold Abd;simp only[cN,bB,aI,aL]
theorem Ahc{L:UH}{pl bx:Nat}{qs:List (Int×Int)}{x0 x1 x2 x5 x6 x7 x8 x9:Option U}(hq:L[pl]? = some (.lst (qs.map prU)))(hql:qs.length<=100):MkA (f2 Ax (f2 Ax (E5 (Ac (C7 (Ac (fC (.int 0)) (Ac (C7 Ag) Ag))) (Ac (C7 (Ac (fC (.int 1)) (Ac (C7 Ag) Ag))) Ag))) (Bn [none] (Bu (Ae 3)) (gN 0) none Hc)) (Bn [none] (Bu (Ae 3)) (gN 0) none Ha)) [x0,x1,x2,some (.ref pl),some (.ref bx),x5,x6,x7,x8,x9] L ([.all,.prs]++qs.map .bel++qs.map .abv):=by
 refine MkA.cat (MkA.cat ?_ (fun M g=>Qu (rep:=prU) (fun _ _=>rfl) rfl (g.get hq) hql rfl) (by simp;omega)) (fun M g=>Qu (rep:=prU) (fun _ _=>rfl) rfl (g.get hq) hql rfl) (by simp;omega)
 exact ⟨L.length,L++[.lst ([Ask.all,.prs].map La)],rfl,by simp,Gw.new _ _,bD _⟩
inductive pop_askE_I(L:UH)(d:Nat)(n:Nat)(B:Int)(l:List Ask)(x1:Option U)(x2:Option U)(x3:Option U)(x4:Option U)(x6:Option U)(x7:Option U)(x8:Option U)(x9:Option U):Prop
 | mk (r:Ask) (L':UH) (l':List Ask) (h0:(Mp "list" Kt (Ae 5) (Ac (Ar 2 Al (Ac (Ae 0) (Ac (A0 Cc (Ac (Ae 5) Ag)) Ag))) Ag)) [some (.ref d),x1,x2,x3,x4,some (.ref n),x6,x7,x8,x9] L=some (La r,L')) (h1:Seed L' d (B+1)) (h2:L'[n]? = some (.lst (l'.map La))) (h3:l'.length+1=l.length) (h4:(∀ j o,L[j]? = some o->j≠d->j≠n->L'[j]? = some o)) (h5:∀ L0,Ex d L0 L->L0.length<=n->Ex d L0 L'):pop_askE_I L d n B l x1 x2 x3 x4 x6 x7 x8 x9
theorem Aea{L:UH}{d n:Nat}{B:Int}{l:List Ask}{x1 x2 x3 x4 x6 x7 x8 x9:Option U}(D:Seed L d B)(hB:B<=1000000)(hd:n≠d)(h:L[n]? = some (.lst (l.map La)))(hl:0 < l.length)(hs:l.length < 1000):pop_askE_I L d n B l x1 x2 x3 x4 x6 x7 x8 x9:=by
 obtain ⟨i,L1,e1,i0,i1,D1,x1⟩:=Cd (many:=((l.map La).length:Nat)) D (by omega) (by simp;omega) (by simp;omega)
 have h':L1[n]? = some (.lst (l.map La)):=x1.get h hd
 have hi:i < l.length:=by simpa using i1
 have hp:=Aed h' i0 i1 (by simp;omega)
 refine ⟨l[i.toNat]'(by omega),L1.set n (.lst ((l.map La).eraseIdx i.toNat)),l.eraseIdx i.toNat,?_,D1.set hd _,?_,?_,fun j o e h1 h2=>by rw[bI (cS h2)];exact x1.get e h1,fun L0 x0 hn=>(x0.trans x1).set hn _⟩
 ·have ty:=Ut h
  have e1':=e1
  simp only[bB] at e1'
  simp[ty,Iy h,e1',hp]
 ·rw[bU (by have:=(aQ.mp h').1;exact this)]
  rw[Mn]
 ·rw[mH,if_pos (by omega)];omega
structure Look(L:UH)(d k p t pl bx:Nat)(m:List NP)(qs:List (Int×Int))(bs:List (Int×Int×Int×Int)):Prop where
 K:Kept L k p m
 T:L[t]? = some (.dic (kG (fun p=>prU p.2) m))
 Q:L[pl]? = some (.lst (qs.map prU))
 B:L[bx]? = some (.lst (bs.map bxU))
 ok:OkM m
 lm:m.length < 1000
 lq:qs.length<=100
 lb:bs.length<=100
theorem Look.gw{L L':UH}{d k p t pl bx:Nat}{m:List NP}{qs:List (Int×Int)}{bs:List (Int×Int×Int×Int)}(S:Look L d k p t pl bx m qs bs)(g:Gw L L'):Look L' d k p t pl bx m qs bs:=⟨S.K.gw g,g.get S.T,g.get S.Q,g.get S.B,S.ok,S.lm,S.lq,S.lb⟩
inductive LookT(δ:UE)(L:UH)(d k p n:Nat)(B:Int)(m:List NP)(l:List Ask):Prop
 | mk (y8 y9:Option U) (L':UH) (l':List Ask) (e:Ea δ L=some (.nx ((δ.set 8 y8).set 9 y9),L')) (D:Seed L' d (B+1)) (T:Kept L' k p m) (h:L'[n]? = some (.lst (l'.map La))) (hl:l'.length+1=l.length) (hx:∀ L0,Ex d L0 L->L0.length<=n->Ex d L0 L')
theorem Afb{f:FN}{i j k:Nat}{u w z v:U}{δ:UE}{L L':UH}(h:Ae i δ L=some (u,L))(h2:Ae j δ L=some (w,L))(h3:Ae k δ L=some (z,L))(e:f [u,w,z] L=some (v,L')):(Ar 3 f (Ac (Ae i) (Ac (Ae j) (Ac (Ae k) Ag)))) δ L=some (v,L'):=by
 rw[fOwn_eq,fCons_eq,h,aA,fCons_eq,h2,aA,fCons_eq,h3]
 simp only[aA,fNil_eq,aD,aI,aL,if_true,e]
theorem Ach{L:UH}{d k p n:Nat}{B:Int}{m:List NP}{l:List Ask}{x2 x3 x4 x7 x8 x9:Option U}(D:Seed L d B)(hB:B<=1000000)(hd:n≠d)(T:Kept L k p m)(kd:k≠d)(pd:p≠d)(ok:OkM m)(lm:m.length < 1000)(h:L[n]? = some (.lst (l.map La)))(hl:0 < l.length)(hs:l.length < 1000) :
  LookT [some (.ref d),some (.ref k),x2,x3,x4,some (.ref n),some (.tup (m.map ptU)),x7,x8,x9] L d k p n B m l:=by
 obtain ⟨r,L1,l',e1,D1,h1,hl1,hk1,hx1⟩:=Aea (x1:=some (.ref k)) (x2:=x2) (x3:=x3) (x4:=x4) (x6:=some (.tup (m.map ptU))) (x7:=x7) (x8:=x8) (x9:=x9) D hB hd h hl hs
 have kn:k≠n:=fun z=>by have:=T.ob;rw[z,h] at this;cases this
 have pn:p≠n:=fun z=>by have:=T.pt;rw[z,h] at this;cases this
 have T1:Kept L1 k p m:=⟨hk1 _ _ T.ob kd kn,hk1 _ _ T.pt pd pn⟩
 have s1:(Bq (Mp "list" Kt (Ae 5) (Ac (Ar 2 Al (Ac (Ae 0) (Ac (A0 Cc (Ac (Ae 5) Ag)) Ag))) Ag)) (MR.gTup 2 (MR.gCons (gN 8) (MR.gCons (gN 9) MR.gNil)))) [some (.ref d),some (.ref k),x2,x3,x4,some (.ref n),some (.tup (m.map ptU)),x7,x8,x9] L=some (.nx [some (.ref d),some (.ref k),x2,x3,x4,some (.ref n),some (.tup (m.map ptU)),x7,some (.int (Pq r)),some (hereA r)],L1):=by
  rw[Cy,e1];rfl
 obtain ⟨L2,e2,g2⟩:=Agx T1 lm r
 obtain ⟨L3,e3,g3⟩:=Akn lm r L2
 have g:=g2.trans g3
 refine ⟨some (.int (Pq r)),some (hereA r),L3,l',?_,D1.gw g,T1.gw g,g.get h1,hl1,fun L0 x hn=>(hx1 L0 x hn).trans (g.ex d)⟩
 unfold Ea
 rw[An s1,fIfS_eq,fTest_eq,f2_eq,Afb (i:=1) (j:=8) (k:=9) rfl rfl rfl e2,aA,Afb (i:=6) (j:=8) (k:=9) rfl rfl rfl e3]
 simp only[aA,Ai9 ok,bJ,if_false,Du]
 rfl
inductive LookR(v:Option (U×UH))(L:UH)(d:Nat)(B:Int):Prop
 | mk (L':UH) (e:v=some (.bl true,L')) (D:Seed L' d B) (x:Ex d L L')
theorem Sf{L:UH}{d k p t pl bx:Nat}{B:Int}{m:List NP}{qs:List (Int×Int)}{bs:List (Int×Int×Int×Int)}(D:Seed L d B)(hB:B<=900000)(S:Look L d k p t pl bx m qs bs)(kd:k≠d)(pd:p≠d)(hq2:qs.length<=2)(hb2:bs.length<=2):LookR (Dy [.ref d,.ref k,.ref t,.ref pl,.ref bx] L) L d (B+8):=by
 obtain ⟨n1,L1,e1,h1,g1,l1⟩:=Ahc (bx:=bx) (x0:=some (.ref d)) (x1:=some (.ref k)) (x2:=some (.ref t)) (x5:=none) (x6:=none) (x7:=none) (x8:=none) (x9:=none) S.Q S.lq
 have s1:=Vd (i:=5) e1
 simp only[cF,bZ] at s1
 have S1:=S.gw g1
 obtain ⟨n,L2,e2,h2,g2,l2⟩:MkA (f2 Ax (Ae 5) (Bn [none] (Bu (Ae 4)) (gN 0) none E6)) [some (.ref d),some (.ref k),some (.ref t),some (.ref pl),some (.ref bx),some (.ref n1),none,none,none,none] L1 (Abd qs bs):=by
  obtain ⟨r,M,e,h,g,l⟩:=Qu (rep:=bxU) (f:=.box) (fe:=E6) (i:=4) (δ:=[some (.ref d),some (.ref k),some (.ref t),some (.ref pl),some (.ref bx),some (.ref n1),none,none,none,none]) (fun _ _=>rfl) rfl S1.B S.lb rfl
  have ea:=T9 (g.get h1) h (by have:=S.lq;have:=S.lb;simp only[bB,cN,aI,aL];omega)
  refine ⟨M.length,M++[.lst ((Abd qs bs).map La)],?_,by simp,g.trans (Gw.new _ _),g.le⟩
  have v5:Ae 5 [some (U.ref d),some (.ref k),some (.ref t),some (.ref pl),some (.ref bx),some (.ref n1),none,none,none,none] L1=some (.ref n1,L1):=rfl
  rw[f2_eq,v5,aA,e,aA,ea]
  unfold Abd
  simp only[eG]
 have s2:=Vd (i:=5) e2
 simp only[cF,bZ] at s2
 have S2:=S1.gw g2
 obtain ⟨L3,e3,g3⟩:=Tw S2.T S.lm
 have s3:=Vd (i:=6) (Aa7 (i:=2) (δ:=[some (.ref d),some (.ref k),some (.ref t),some (.ref pl),some (.ref bx),some (.ref n),none,none,none,none]) rfl e3)
 simp only[cF,bZ] at s3
 have S3:=S2.gw g3
 have g:=(g1.trans g2).trans g3
 have h3:=g3.get h2
 have dl:=D.lt
 have gl:=g1.le
 have al:=Aee qs bs
 have hlq:=S.lq
 have hlb:=S.lb
 generalize Abd qs bs=as at h2 h3 al
 have hi:E2 (Ac (A0 Cc (Ac (Ae 5) Ag)) Ag) [some (.ref d),some (.ref k),some (.ref t),some (.ref pl),some (.ref bx),some (.ref n),some (.tup (m.map ptU)),none,none,none] L3=some (.seq (Cp 0 as.length),L3):=by
  refine Ie ?_ (by omega)
  have hlen:=Iy h3
  rw[bB] at hlen
  simp only[fCons_eq,fCall_eq,fNil_eq,fVar_eq,aK,aH,aN,aD,aA,hlen]
 obtain ⟨δ',L4,e4,P⟩:=Nm (us:=Cp 0 as.length) (body:=Ea) (g:=gN 7) (fun j δ' M=>((∃ y7 y8 y9,δ'=[some (.ref d),some (.ref k),some (.ref t),some (.ref pl),some (.ref bx),some (.ref n),some (.tup (m.map ptU)),y7,y8,y9])/\Seed M d (B+j)/\Kept M k p m/\Ex d L M)/\∃ l:List Ask,M[n]? = some (.lst (l.map La))/\l.length+j=as.length) hi
  ⟨⟨⟨_,_,_,rfl⟩,by simpa using D.gw g,S3.K,g.ex d⟩,as,h3,by omega⟩
  (fun j u δ M hu hP=>by
   obtain ⟨⟨⟨y7,y8,y9,rfl⟩,DM,TM,xM⟩,l,hl,hll⟩:=hP
   obtain ⟨hj,rfl⟩:=Gx hu
   obtain ⟨z8,z9,M',l',e,D',T',h',hl',hx'⟩:=Ach (x2:=some (.ref t)) (x3:=some (.ref pl)) (x4:=some (.ref bx)) (x7:=some (.int (0+(j:Int)))) (x8:=y8) (x9:=y9) DM (by omega) (by omega) TM kd pd S.ok S.lm hl (by omega) (by omega)
   exact ⟨_,M,rfl,_,M',.inl e,⟨⟨_,_,_,rfl⟩,D'.mono (by omega),T',hx' L xM (by omega)⟩,l',h',by omega⟩)
 obtain ⟨⟨⟨y7,y8,y9,rfl⟩,DM,TM,xM⟩,l,hl,hll⟩:=P
 rw[Ia] at DM
 refine ⟨L4,?_,DM.mono (by omega),xM⟩
 unfold Dy fnU J8
 simp only[aI,aL,if_true,aO,bK,bE,dD,dB]
 rw[An s1,An s2,An s3,An e4]
 rfl
theorem Ai7(a b:Str):(a++b).length=a.length+b.length:=by
 show (a.cps++b.cps).size=a.cps.size+b.cps.size
 rw[Array.size_append]
theorem Sd{δ:UE}{L:UH}:∀ (fs:List FE) (out:Str),(∀ f∈fs,∃ x:Str,f δ L=some (.str x,L)/\x.length<=1000)->out.length+1000 * fs.length<=16777216->∃ s,goJ out fs δ L=some (.str s,L)
 | [],out,_,_=>⟨out,rfl⟩
 | f::r,out,h,hl=>by
  obtain ⟨x,e,hx⟩:=h f bT
  rw[aI] at hl
  have hb:(out++x).length+1000 * r.length<=16777216:=by rw[Ai7];omega
  obtain ⟨s,hs⟩:=Sd r (out++x) (fun g hg=>h g (bG _ hg)) hb
  refine ⟨s,?_⟩
  unfold goJ
  simp only[e,aA]
  rw[if_pos (B1 (by omega)),hs]
theorem Ab3{δ:UE}{L:UH}(fs:List FE)(h:∀ f∈fs,∃ x:Str,f δ L=some (.str x,L)/\x.length<=1000)(hl:fs.length<=100):∃ s,Lz fs δ L=some (.str s,L):=Sd fs jM h (by show 0+_<=_;omega)
theorem Aei{δ:UE}{L:UH}(x:Str)(h:x.length<=1000):∃ y:Str,fC (.str x) δ L=some (.str y,L)/\y.length<=1000:=⟨x,rfl,h⟩
theorem Ah6{δ:UE}{L:UH}{a b c:FE}(ha:∃ x:Str,a δ L=some (.str x,L)/\x.length<=1000)(hb:∃ x:Str,b δ L=some (.str x,L)/\x.length<=1000)(hc:∃ x:Str,c δ L=some (.str x,L)/\x.length<=1000):∃ s,Lz [a,b,c] δ L=some (.str s,L):=
 Ab3 _ (fun f hf=>by
  rcases cB.mp hf with rfl | hf
  ·exact ha
  ·rcases cB.mp hf with rfl | hf
   ·exact hb
   ·rcases cB.mp hf with rfl | hf
    ·exact hc
    ·cases hf) (by show 3<=100;decide)
theorem Aeb{C:Str}{F:FN}{g:FA}{δ:UE}{L L1:UH}{u:U}{fs:List (Str×U)}(hg:g δ L=some ([u],L1))(hF:F [.ref L1.length,u] (L1++[.exc C true []])=some (.non,L1++[.exc C true fs])) :
  Na C 2 F g δ L=some (.ref L1.length,L1++[.exc C true fs]):=by
 unfold Na
 simp only[hg,aA]
 rw[if_pos ⟨rfl,by simp⟩,hF]
 rfl
theorem Aa1{C:Str}{Cs:List Str}{F:FN}{g:FA}{δ:UE}{L L1:UH}{u:U}{fs:List (Str×U)}(hC:C∈Cs)(hg:g δ L=some ([u],L1))(hF:F [.ref L1.length,u] (L1++[.exc C true []])=some (.non,L1++[.exc C true fs])) :
  Oz Cs (Na C 2 F g) δ L=some (L1.length,δ,L1++[.exc C false fs]):=by
 have h1:(L1++[HU.exc C true fs])[L1.length]? = some (.exc C true fs):=by simp
 unfold Oz
 rw[Aeb hg hF]
 simp only[aA,h1]
 rw[if_pos hC]
 simp
theorem Uj{N m n:Nat}{x:XS}{us:List U}{L L':UH}{δ':UE}(hl:us.length=m)(h:x (us.map some++bE (N - us.length) none) L=some (n,δ',L')):fnX N m x us L=some (n,L'):=by
 unfold fnX
 rw[if_pos hl,h]
 rfl
theorem Y0{c:FT}{x y:XS}{δ:UE}{L L1:UH}(h:c δ L=some (true,L1)):xIf c x y δ L=x δ L1:=by unfold xIf;rw[h];rfl
theorem Aez{c:FT}{x y:XS}{δ:UE}{L L1:UH}(h:c δ L=some (false,L1)):xIf c x y δ L=y δ L1:=by unfold xIf;rw[h];rfl
theorem Qr{f:FS}{x y:XS}{δ:UE}{L:UH}{r:Nat×UE×UH}(h:x δ L=some r):Xj f x y δ L=some r:=by unfold Xj;rw[h]
theorem Ah3{x:XE}{δ:UE}{L L':UH}{n:Nat}(h:x δ L=some (n,L')):xOf x δ L=some (n,δ,L'):=by unfold xOf;rw[h];rfl
theorem Ah4{b suite:FS}{x:XS}{Cs:List Str}{i n:Nat}{δ δ1 δ2:UE}{L L1 L2:UH}{C:Str}{fr:Bool}{fs:List (Str×U)}(h:x δ L=some (n,δ1,L1))(hL:L1[n]? = some (.exc C fr fs))(hC:C∈Cs)
  (hs:suite (δ1.set i (some (.ref n))) L1=some (.nx δ2,L2)):Abt b x Cs i suite δ L=some (.nx (δ2.set i none),L2):=by
 unfold Abt
 simp only[h,hL]
 rw[if_pos hC,hs]
 rfl
theorem Aa0{Cs:List Str}{L:UH}{n:Nat}{C:Str}{fr:Bool}{fs:List (Str×U)}(hL:L[n]? = some (.exc C fr fs))(hC:C∈Cs):Vb Cs (.ref n) L=some (n,C,fs):=by
 unfold Vb
 simp only[hL]
 rw[if_pos hC]
noncomputable def qq:Str := "qqqqqqqq"
theorem Ah7:∀ x∈qq::spare3,(reprText x).length<=1000:=by decide +kernel
theorem Abn{x:Str}(hx:(reprText x).length<=1000)(M:UH):Cw [.ref M.length,.str x] (M++[.exc "NoName" true []])=some (.non,M++[.exc "NoName" true [("word",.str x)]]):=by
 have h1:(M++[HU.exc "NoName" true []])[M.length]? = some (.exc "NoName" true []):=by simp
 generalize hN:M++[HU.exc "NoName" true []]=N at h1
 obtain ⟨s,hs⟩:=Ah6 (δ:=[some (.ref M.length),some (.str x)]) (L:=N) (Aei "the name " (by decide)) (b:=Sz (Ae 1)) ⟨reprText x,by
  unfold Sz
  simp only[fVar_eq,aK,aH,aN,aD,aA]
  rw[if_pos (B1 (by omega))],hx⟩ (Aei " is refused here" (by decide))
 have s1:(C3 (Oa ["NoName"] (Ac (Ae 0) (Ac (Lz [(fC (.str "the name ")),(Sz (Ae 1)),(fC (.str " is refused here"))]) Ag)))) [some (.ref M.length),some (.str x)] N=some (.nx [some (.ref M.length),some (.str x)],N):=by
  have h2:(Oa ["NoName"] (Ac (Ae 0) (Ac (Lz [(fC (.str "the name ")),(Sz (Ae 1)),(fC (.str " is refused here"))]) Ag))) [some (.ref M.length),some (.str x)] N=some (.non,N):=by
   unfold Oa
   simp only[fCons_eq,fNil_eq,hs,fVar_eq,aH,aN,aD,aA,h1]
   rw[if_pos (by simp)]
  rw[Nu,h2];rfl
 have s2:(Aac ["NoName"] "word" (Ae 0) (Ae 1)) [some (.ref M.length),some (.str x)] N=some (.nx [some (.ref M.length),some (.str x)],N.set M.length (.exc "NoName" true [("word",.str x)])):=by
  unfold Aac
  simp only[fVar_eq,aK,aH,aN,aD,aA,h1]
  rw[if_pos (by simp)]
 unfold Cw fnU Ik
 simp only[aI,aL,if_true,aO,bK,cI,bM,aX]
 rw[An s1,s2,<- hN]
 simp
abbrev exN(x:Str):HU:=.exc "NoName" false [("word",.str x)]
theorem Wi{x:Str}(hx:(reprText x).length<=1000){δ:UE}{L:UH}(h:Ae 1 δ L=some (.str x,L)):Oz ["NoName"] (Na "NoName" 2 Cw (Ac (Ae 1) Ag)) δ L=some (L.length,δ,L++[exN x]):=
 Aa1 (by simp) (by rw[fCons_eq,h];rfl) (Abn hx L)
theorem Aji{L:UH}{k p:Nat}{m:List NP}{nm:Str}{x y:U}(T:Kept L k p m)(h:Gq m nm=true)(hx:(reprText nm).length<=1000):D8 [.ref k,.str nm,x,y] L=some (L.length,L++[exN nm]):=by
 have f1:=T.fld (δ:=[some (.ref k),some (.str nm),some x,some y]) (fe:=Ae 0) rfl
 have t1:(Az (f2 H0 (Ae 1) (Lr "KeptPoints" "points" (Ae 0)))) [some (.ref k),some (.str nm),some x,some y] L=some (true,L):=by
  rw[fTest_eq,f2_eq]
  simp only[fVar_eq,aH,aK,aN,aD,aA,f1,W7 T.pt,h]
 exact Uj rfl (Qr ((Y0 t1).trans (Wi hx rfl)))
theorem Y8{L:UH}{k p:Nat}{m:List NP}{nm:Str}(T:Kept L k p m)(h:Gq m nm=false)(hx:(reprText nm).length<=1000):C4 [.ref k,.str nm] L=some (L.length,L++[exN nm]):=by
 have f1:=T.fld (δ:=[some (.ref k),some (.str nm)]) (fe:=Ae 0) rfl
 have t1:(Az (f2 Ei (Ae 1) (Lr "KeptPoints" "points" (Ae 0)))) [some (.ref k),some (.str nm)] L=some (true,L):=by
  rw[fTest_eq,f2_eq]
  simp only[fVar_eq,aH,aK,aN,aD,aA,f1,O6 T.pt,h,pN]
 exact Uj rfl ((Y0 t1).trans (Wi hx rfl))
theorem Ld{L L':UH}{k p n r:Nat}{m:List NP}{s:Str}{F:XN}{fo:FE}{g:FA}{us:List U}{δ:UE}(T:Kept L k p m)(hno:(s == "points")=false)(ho:fo δ L=some (.ref k,L))(hg:g δ L=some (us,L))(hl:us.length+1=n)(e:F (.ref k::us) L=some (r,L')):xOf (Lg "KeptPoints" s n F fo g) δ L=some (r,δ,L'):=by
 have no:=Ml (s:=s) p hno
 refine Ah3 ?_
 unfold Lg
 rw[ho]
 simp only[aA,Eg T.ob,no,if_true,hg,hl,e]
theorem Aii{L:UH}{k p:Nat}{m:List NP}{nm:Str}{x y:U}(T:Kept L k p m)(h:Gq m nm=false)(hx:(reprText nm).length<=1000):Dx [.ref k,.str nm,x,y] L=some (L.length,L++[exN nm]):=
 Uj rfl (Qr (Ld (us:=[.str nm]) T (by decide +kernel) rfl rfl rfl (Y8 T h hx)))
theorem Agr{L:UH}{k p:Nat}{m:List NP}{nm:Str}(T:Kept L k p m)(h:Gq m nm=false)(hx:(reprText nm).length<=1000):D7 [.ref k,.str nm] L=some (L.length,L++[exN nm]):=
 Uj rfl (Qr (Ld (us:=[.str nm]) T (by decide +kernel) rfl rfl rfl (Y8 T h hx)))
theorem Alk:∀ x∈qq::spare3,cV x=true:=cL.mp (show ((qq::spare3).all fun x=>cV x)=true by decide +kernel)
theorem Ali{L:UH}{d k p t:Nat}{m:List NP}{nm:Str}{w:Int}(T:Kept L k p m)(ht:L[t]? = some (.dic (kG (fun p=>prU p.2) m)))(hx:(reprText nm).length<=1000):El [some (.ref d),some (.ref k),some (.ref t),some .non,some (.str nm),some (.int w),none] L=some (L.length,[some (.ref d),some (.ref k),some (.ref t),some .non,some (.str nm),some (.int w),none],L++[exN nm]):=by
 have t1:(Az (f2 H0 (Ae 4) (Ae 2))) [some (.ref d),some (.ref k),some (.ref t),some .non,some (.str nm),some (.int w),none] L=some (Gq m nm,L):=by
  rw[fTest_eq,f2_eq]
  simp only[fVar_eq,aH,aK,aN,aD,aA,W7 ht]
 have t2:(Az (f2 B2 (Ae 5) (fC (.int 1)))) [some (.ref d),some (.ref k),some (.ref t),some .non,some (.str nm),some (.int w),none] L=some (w == 1,L):=rfl
 unfold El
 cases hh:Gq m nm with
 | true=>
  rw[hh] at t1
  exact (Y0 t1).trans (Ld (us:=[.str nm,.int 3,.int 3]) T (by decide +kernel) rfl rfl rfl (Aji T hh hx))
 | false=>
  rw[hh] at t1
  cases hw:(w == 1) with
  | true=>
   rw[hw] at t2
   exact ((Aez t1).trans (Y0 t2)).trans (Ld (us:=[.str nm,.int 3,.int 3]) T (by decide +kernel) rfl rfl rfl (Aii T hh hx))
  | false=>
   rw[hw] at t2
   exact ((Aez t1).trans (Aez t2)).trans (Ld (us:=[.str nm]) T (by decide +kernel) rfl rfl rfl (Agr T hh hx))
inductive Pick(v:Option (Fl×UH))(L:UH)(d k t:Nat)(B w:Int)(m:List NP):Prop
 | mk (nm:Str) (L':UH) (e:v=some (.nx [some (.ref d),some (.ref k),some (.ref t),some .non,some (.str nm),some (.int w),none],L')) (h:nm∈qq::spare3) (D:Seed L' d (B+1)) (x:Ex d L L')
theorem Ah1{L:UH}{d k t:Nat}{B w:Int}{m:List NP}(D:Seed L d B)(hB:B<=900000)(ht:L[t]? = some (.dic (kG (fun p=>prU p.2) m)))(td:t≠d)(hsp:∀ q∈m,q.1∈spare3)(lm:m.length < 1000) :
  Pick ((Dv (Pp (Az (f2 Je (Ae 2) fDNew)) (Az (f2 B2 (Ae 5) (fC (.int 0))))) (Bq (f2 Ao (A0 semListD (Ac (Ae 2) Ag)) (Ar 2 Al (Ac (Ae 0) (Ac (A0 Kr (Ac (Ae 2) Ag)) Ag)))) (gN 4)) Cq) [some (.ref d),some (.ref k),some (.ref t),some .non,some (.str qq),some (.int w),none] L) L d k t B w m:=by
 have g1:Gw L (L++[.dic []]):=Gw.new _ _
 have t1:(Az (f2 Je (Ae 2) fDNew)) [some (.ref d),some (.ref k),some (.ref t),some .non,some (.str qq),some (.int w),none] L=some (!(kG (fun p=>prU p.2) m).isEmpty,L++[.dic []]):=by
  have h2:E9 (L++[HU.dic []]) L.length=some []:=Jj (by simp)
  rw[fTest_eq,f2_eq]
  simp only[fVar_eq,aH,aK,aN,aD,aA,fDNew,Je,Jj (g1.get ht),h2,List.isEmpty_nil,if_true]
 have t2:∀ M,(Az (f2 B2 (Ae 5) (fC (.int 0)))) [some (.ref d),some (.ref k),some (.ref t),some .non,some (.str qq),some (.int w),none] M=some (w == 0,M):=fun _=>rfl
 have ht1:=g1.get ht
 have D1:=D.gw g1
 generalize L++[HU.dic []]=M at g1 t1 ht1 D1
 have no:(Pp (Az (f2 Je (Ae 2) fDNew)) (Az (f2 B2 (Ae 5) (fC (.int 0))))) [some (.ref d),some (.ref k),some (.ref t),some .non,some (.str qq),some (.int w),none] L=some (false,M)->Pick ((Dv (Pp (Az (f2 Je (Ae 2) fDNew)) (Az (f2 B2 (Ae 5) (fC (.int 0))))) (Bq (f2 Ao (A0 semListD (Ac (Ae 2) Ag)) (Ar 2 Al (Ac (Ae 0) (Ac (A0 Kr (Ac (Ae 2) Ag)) Ag)))) (gN 4)) Cq) [some (.ref d),some (.ref k),some (.ref t),some .non,some (.str qq),some (.int w),none] L) L d k t B w m:=fun h=>by
  refine ⟨qq,M,?_,bT,D1.mono (by omega),g1.ex d⟩
  rw[fIfS_eq,h]
  simp only[aA,bJ,if_false,Du]
 cases m with
 | nil=>exact no (by rw[fAnd_eq,t1];rfl)
 | cons q0 m0=>
  have t1':(Az (f2 Je (Ae 2) fDNew)) [some (.ref d),some (.ref k),some (.ref t),some .non,some (.str qq),some (.int w),none] L=some (true,M):=t1
  cases hw:(w == 0) with
  | false=>exact no (by rw[fAnd_eq,t1'];simp only[aA,if_true,t2,hw])
  | true=>
   generalize hm:q0::m0=m at ht ht1 hsp lm
   have hpos:0 < m.length:=by rw[<- hm];simp
   have ha:(Pp (Az (f2 Je (Ae 2) fDNew)) (Az (f2 B2 (Ae 5) (fC (.int 0))))) [some (.ref d),some (.ref k),some (.ref t),some .non,some (.str qq),some (.int w),none] L=some (true,M):=by rw[fAnd_eq,t1'];simp only[aA,if_true,t2,hw]
   have hk:Yl (kG (fun p=>prU p.2) m)=m.map fun p=>U.str p.1:=by unfold Yl kG;rw[eK];rfl
   have e1:(A0 semListD (Ac (Ae 2) Ag)) [some (.ref d),some (.ref k),some (.ref t),some .non,some (.str qq),some (.int w),none] M=some (.ref M.length,M++[.lst (m.map fun p=>U.str p.1)]):=by
    simp only[fCall_eq,fCons_eq,fNil_eq,fVar_eq,aH,aK,aN,aD,aA,semListD,Jj ht1,hk]
   have g2:Gw M (M++[.lst (m.map fun p=>U.str p.1)]):=Gw.new _ _
   have h2:(M++[HU.lst (m.map fun p=>U.str p.1)])[M.length]? = some (.lst (m.map fun p=>U.str p.1)):=by simp
   have D2:=D1.gw g2
   have ht2:=g2.get ht1
   have dl:=D1.lt
   generalize M++[HU.lst (m.map fun p=>U.str p.1)]=N at e1 g2 h2 D2 ht2
   have hlen:Kr [.ref t] N=some (.int (m.length:Nat),N):=by
    simp only[Kr,Jj ht2,aD,kG,bB]
   obtain ⟨i,N1,e2,i0,i1,D3,y3⟩:=Cd (many:=(m.length:Nat)) D2 (by omega) (by omega) (by omega)
   obtain ⟨j,hj⟩:∃ j:Nat,i=(j:Int):=⟨i.toNat,by omega⟩
   subst hj
   have hjl:j < m.length:=by omega
   have hat:L2.atI (m.map fun p=>U.str p.1) (j:Int)=some (.str (m[j]'hjl).1):=by
    rw[Qz (by omega) (by simp;omega),bO,dH,cK hjl];rfl
   have hmem:=hsp _ (iL hjl)
   generalize (m[j]'hjl).1=nm at hat hmem
   have q3:=Be (y3.get h2 (by omega))
   refine ⟨nm,N1,?_,bG _ hmem,D3,((g1.trans g2).ex d).trans y3⟩
   rw[fIfS_eq,ha]
   simp only[aA,if_true]
   rw[Cy,f2_eq,e1]
   simp only[fOwn_eq,fCall_eq,fCons_eq,fNil_eq,fVar_eq,aH,aK,aN,aD,aA,hlen,aI,aL,if_true,e2,semIx_ref,q3,hat,gN_eq,cF,bZ]
theorem Xe{L:UH}{d k p t:Nat}{B:Int}{m:List NP}(D:Seed L d B)(hB:B<=800000)(K:Kept L k p m)(ht:L[t]? = some (.dic (kG (fun p=>prU p.2) m)))(kd:k≠d)(pd:p≠d)(td:t≠d)(hsp:∀ q∈m,q.1∈spare3)(lm:m.length < 1000):LookR (Ep [.ref d,.ref k,.ref t] L) L d (B+2):=by
 obtain ⟨w,L1,e1,w0,w1,D1,y1⟩:=Cd (many:=3) D (by omega) (by decide) (by decide)
 have s3:=Vd (i:=5) (Qv (i:=0) (δ:=[some (.ref d),some (.ref k),some (.ref t),some .non,some (.str qq),none,none]) rfl e1)
 simp only[cF,bZ] at s3
 obtain ⟨nm,L2,e2,hnm,D2,y2⟩:=Ah1 (k:=k) (w:=w) D1 (by omega) (y1.get ht td) td hsp lm
 have x2:=y1.trans y2
 have hx:=Ah7 nm hnm
 have K2:Kept L2 k p m:=⟨x2.get K.ob kd,x2.get K.pt pd⟩
 have h3:=Ali (d:=d) (w:=w) K2 (x2.get ht td) hx
 have hL:(L2++[exN nm])[L2.length]? = some (exN nm):=by simp
 have s5:(Abt Jr El ["NoName"] 6 Il) [some (.ref d),some (.ref k),some (.ref t),some .non,some (.str nm),some (.int w),none] L2=some (.nx [some (.ref d),some (.ref k),some (.ref t),some (.ref L2.length),some (.str nm),some (.int w),none],L2++[exN nm]):=
  Ah4 (δ2:=[some (.ref d),some (.ref k),some (.ref t),some (.ref L2.length),some (.str nm),some (.int w),some (.ref L2.length)]) h3 hL (by simp) rfl
 have g:Gw L2 (L2++[exN nm]):=Gw.new _ _
 refine ⟨L2++[exN nm],?_,(D2.gw g).mono (by omega),x2.trans (g.ex d)⟩
 have h6:(Th (f2 Nx (Ae 3) (fC .non)) (f2 B2 (Wb ["NoName"] "word" (Ae 3)) (Ae 4))) [some (.ref d),some (.ref k),some (.ref t),some (.ref L2.length),some (.str nm),some (.int w),none] (L2++[exN nm])=some (.bl true,L2++[exN nm]):=by
  have h7:(Wb ["NoName"] "word" (Ae 3)) [some (.ref d),some (.ref k),some (.ref t),some (.ref L2.length),some (.str nm),some (.int w),none] (L2++[exN nm])=some (.str nm,L2++[exN nm]):=by
   unfold Wb
   simp only[fVar_eq,aH,aK,aN,aD,aA,Aa0 hL (dQ.mpr rfl)]
   rfl
  have h8:∀ M,B2 (.str nm) (.str nm) M=some (.bl true,M):=fun M=>by
   have hp:Pl 6 (.str nm):=Alk nm hnm
   rw[V6 M hp hp,Rc hp]
  have h9:(f2 Nx (Ae 3) (fC .non)) [some (.ref d),some (.ref k),some (.ref t),some (.ref L2.length),some (.str nm),some (.int w),none] (L2++[exN nm])=some (.bl true,L2++[exN nm]):=rfl
  rw[Ob,h9]
  simp only[aA,f2_eq,h7,fVar_eq,aH,aK,aN,aD,h8,if_true]
 have s1:(Bq (fC .non) (gN 3)) [some (.ref d),some (.ref k),some (.ref t),none,none,none,none] L=some (.nx [some (.ref d),some (.ref k),some (.ref t),some .non,none,none,none],L):=rfl
 have s2:(Bq (fC (.str "qqqqqqqq")) (gN 4)) [some (.ref d),some (.ref k),some (.ref t),some .non,none,none,none] L=some (.nx [some (.ref d),some (.ref k),some (.ref t),some .non,some (.str qq),none,none],L):=rfl
 unfold Ep fnU Lo
 simp only[aI,aL,if_true,aO,bK,bE,dD,dB]
 rw[An s1,An s2,An s3,An e2,An s5,fRet_eq,h6]
 rfl
structure Adr where
 e:Nat
 k:Nat
 p:Nat
 t:Nat
 n:Nat
 nm:List Str
structure EntOk(L:UH)(d:Nat)(B:Int)(a:Adr)(m:List NP):Prop where
 at_:L[a.e]? = some (.lst [.ref a.k,.ref a.t,.ref a.n])
 ed:a.e≠d
 S:Both L d a.k a.p a.t a.n B m a.nm
 nd:NdK m
 ki:KIn m a.nm
 sp:∀ y∈a.nm,y∈spare3
 ml:15 * (m.length:Int)<=B
theorem EntOk.keep{L L':UH}{d:Nat}{B B':Int}{a:Adr}{m:List NP}(E:EntOk L d B a m)(D:Seed L' d B')(h:B<=B')(f:∀ i o,L[i]? = some o->i=a.e\/i=a.k\/i=a.p\/i=a.t\/i=a.n->L'[i]? = some o):EntOk L' d B' a m:=
 ⟨f _ _ E.at_ (.inl rfl),E.ed,⟨D,⟨f _ _ E.S.K.ob (.inr (.inl rfl)),f _ _ E.S.K.pt (.inr (.inr (.inl rfl)))⟩,f _ _ E.S.T (.inr (.inr (.inr (.inl rfl)))),f _ _ E.S.N (.inr (.inr (.inr (.inr rfl)))),E.S.ok,E.S.kd,E.S.pd,E.S.td,E.S.nd,E.S.pt,E.S.nok,E.S.nl⟩,E.nd,E.ki,E.sp,pY E.ml h⟩
theorem EntOk.ex{L L':UH}{d:Nat}{B B':Int}{a:Adr}{m:List NP}(E:EntOk L d B a m)(D:Seed L' d B')(x:Ex d L L')(h:B<=B'):EntOk L' d B' a m:=
 ⟨x.get E.at_ E.ed,E.ed,E.S.ex D x,E.nd,E.ki,E.sp,pY E.ml h⟩
theorem Ek{L:UH}{i j:Nat}{kv:List (Key×U)}{o:HU}(h:L[i]? = some o)(hj:L[j]? = some (.dic kv))(ho:o≠.dic kv):i≠j:=fun z=>by
 rw[z,hj] at h
 cases h
 exact ho rfl
theorem nTP{d p t i:Nat}(h1:i≠d)(h2:i≠p)(h3:i≠t):¬ TP d p t i:=fun z=>z.elim h1 fun z=>z.elim h2 h3
theorem EntOk.fr{L L':UH}{d p t:Nat}{B B':Int}{a:Adr}{m:List NP}{kv kw:List (Key×U)}(E:EntOk L d B a m)(D:Seed L' d B')(f:Fr (TP d p t) L L')(h:B<=B')(hp:L[p]? = some (.dic kv))(ht:L[t]? = some (.dic kw))(h1:a.p≠p)(h2:a.p≠t)(h3:a.t≠p)(h4:a.t≠t):EntOk L' d B' a m:=by
 have S:=E.S
 refine E.keep D h fun i o e z=>f.get e ?_
 rcases z with rfl | rfl | rfl | rfl | rfl
 ·exact nTP E.ed (Ek E.at_ hp nofun) (Ek E.at_ ht nofun)
 ·exact nTP S.kd (Ek S.K.ob hp nofun) (Ek S.K.ob ht nofun)
 ·exact nTP S.pd h1 h2
 ·exact nTP S.td h3 h4
 ·exact nTP S.nd (Ek S.N hp nofun) (Ek S.N ht nofun)
structure St(ks:List (Nat×HU))(L0 L:UH)(d P c:Nat)(B:Int)(A:Nat->Adr)(m:Nat->List NP):Prop where
 D:Seed L d B
 at_:L[P]? = some (.lst ((dU c).map fun i=>.ref (A i).e))
 pd:P≠d
 en:∀ i,i < c->EntOk L d B (A i) (m i)
 ap:∀ i j,i < c->j < c->i≠j->(A i).p≠(A j).p/\(A i).t≠(A j).t
 apt:∀ i j,i < c->j < c->(A i).p≠(A j).t
 g:Gw L0 L
 dge:L0.length<=d
 pge:∀ i,i < c->L0.length<=(A i).p/\L0.length<=(A i).t
 nP:∀ i,i < c->(A i).e≠P/\(A i).n≠P
 Pge:L0.length<=P
 kp:∀ q∈ks,L[q.1]? = some q.2/\q.1≠d/\∀ kv,q.2≠.dic kv
section
variable {ks:List (Nat×HU)}{L0 L L':UH}{d P c:Nat}{B B':Int}{A:Nat->Adr}{m:Nat->List NP}
theorem St.ex(S:St ks L0 L d P c B A m)(D:Seed L' d B')(x:Ex d L L')(h:B<=B'):St ks L0 L' d P c B' A m:=
 ⟨D,x.get S.at_ S.pd,S.pd,fun i hi=>(S.en i hi).ex D x h,S.ap,S.apt,S.g.ex' x S.dge,S.dge,S.pge,S.nP,S.Pge,fun q hq=>⟨x.get (S.kp q hq).1 (S.kp q hq).2.1,(S.kp q hq).2⟩⟩
theorem St.mono(S:St ks L0 L d P c B A m)(h:B<=B'):St ks L0 L d P c B' A m:=S.ex (S.D.mono h) (Ex.refl _ _) h
noncomputable def upM(m:Nat->List NP)(i:Nat)(m':List NP):Nat->List NP:=fun j=>if j=i then m' else m j
theorem St.deed(S:St ks L0 L d P c B A m){i:Nat}(hi:i < c)(hB:B<=13000):∃ (m':List NP) (L':UH),Hv [.ref d,.ref (A i).k,.ref (A i).t,.ref (A i).n] L=some (.non,L')/\St ks L0 L' d P c (B+15) A (upM m i m'):=by
 have E:=S.en i hi
 have ml:=E.ml
 obtain ⟨m',L',e,S',l',f',de⟩:=Ah0 E.S (by omega) (by omega)
 refine ⟨m',L',e,S'.D,f'.get S.at_ (nTP S.pd (Ek S.at_ E.S.K.pt nofun) (Ek S.at_ E.S.T nofun)),S.pd,fun j hj=>?_,S.ap,S.apt,S.g.fr' f' ?_,S.dge,S.pge,S.nP,S.Pge,fun q hq=>⟨f'.get (S.kp q hq).1 (nTP (S.kp q hq).2.1 (Ek (S.kp q hq).1 E.S.K.pt ((S.kp q hq).2.2 _)) (Ek (S.kp q hq).1 E.S.T ((S.kp q hq).2.2 _))),(S.kp q hq).2⟩⟩
 ·by_cases h:j=i
  ·subst h
   have hm:upM m j m' j=m':=if_pos rfl
   rw[hm]
   exact ⟨f'.get E.at_ (nTP E.ed (Ek E.at_ E.S.K.pt nofun) (Ek E.at_ E.S.T nofun)),E.ed,S',E.nd.deed de,E.ki.deed de,E.sp,by omega⟩
  ·have hm:upM m i m' j=m j:=if_neg h
   rw[hm]
   exact (S.en j hj).fr S'.D f' (by omega) E.S.K.pt E.S.T (S.ap j i hj hi h).1 (S.apt j i hj hi) (cS (S.apt i j hi hj)) (S.ap j i hj hi h).2
 ·intro j hj
  have:=S.pge i hi
  have:=S.dge
  rcases hj with z | z | z <;> omega
inductive Deeds(v:Option (Fl×UH))(δ:Option U->UE)(ks:List (Nat×HU))(L0:UH)(d P c:Nat)(B:Int)(A:Nat->Adr):Prop
 | mk (y:Option U) (m:Nat->List NP) (L':UH) (e:v=some (.nx (δ y),L')) (S:St ks L0 L' d P c B A m)
theorem Vg{δ:Option U->UE}{fi:FI}{body:FS}{i w:Nat}{y:Option U}{L1:UH}(hi:i < c)(hit:fi (δ y) L=some (.seq (Cp 0 w),L1))(S:St ks L0 L1 d P c B A m)(hw:w<=50)(hB:B<=12000)(hg:∀ u y M,gN 6 u (δ y) M=some (δ (some u),M))
  (hb:∀ y M B' m' M',St ks L0 M d P c B' A m'->Hv [.ref d,.ref (A i).k,.ref (A i).t,.ref (A i).n] M=some (.non,M')->body (δ y) M=some (.nx (δ y),M')):Deeds (Lf fi (gN 6) body (δ y) L) δ ks L0 d P c (B+15 * w) A:=by
 obtain ⟨δ',L',e,y',m',rfl,S',_⟩:=Nm (us:=Cp 0 w) (body:=body) (g:=gN 6) (fun j δ' M=>∃ y' m',δ' = δ y'/\St ks L0 M d P c (B+15 * j) A m'/\j<=w) hit ⟨y,m,rfl,S.mono (by omega),by omega⟩
  (fun j u δ' M hu hP=>by
   obtain ⟨y',m',rfl,SM,hj⟩:=hP
   obtain ⟨hk,rfl⟩:=Gx hu
   obtain ⟨m2,M',e,S'⟩:=SM.deed hi (by omega)
   exact ⟨_,M,hg _ _ _,_,M',.inl (hb _ _ _ _ _ SM e),_,_,rfl,S'.mono (by omega),by omega⟩)
 rw[Ia] at S'
 exact ⟨y',m',L',e,S'.mono (by omega)⟩
end
section
variable {ks:List (Nat×HU)}{L0 L L':UH}{d P c:Nat}{B B':Int}{A:Nat->Adr}{m:Nat->List NP}
theorem St.pick(S:St ks L0 L d P c B A m){i:Nat}(hi:i < c):Ao (.ref P) (.int (i:Nat)) L=some (.ref (A i).e,L):=by
 have hq:=Be S.at_
 rw[semIx_ref,hq]
 simp only[aA]
 rw[Qz (by omega) (by simp;omega),bO,dH,gG hi]
 rfl
theorem EntOk.ix0{a:Adr}{m:List NP}(E:EntOk L d B a m):Ao (.ref a.e) (.int 0) L=some (.ref a.k,L):=by
 rw[semIx_ref,Be E.at_];rfl
theorem EntOk.ix1{a:Adr}{m:List NP}(E:EntOk L d B a m):Ao (.ref a.e) (.int 1) L=some (.ref a.t,L):=by
 rw[semIx_ref,Be E.at_];rfl
theorem Kb{i:Nat}{o:HU}(h:L[i]? = some o):i < L.length:=(aQ.mp h).1
noncomputable def snA(A:Nat->Adr)(c:Nat)(a:Adr):Nat->Adr:=fun j=>if j=c then a else A j
theorem St.lay(S:St [] L0 L d P c B A m){n:Nat}{names:List Str}(hn:L[n]? = some (.lst (names.map U.str)))(hnl:0 < names.length/\names.length<=100)(hsp:∀ x∈names,x∈spare3)(hnd:n≠d)(hnP:n≠P)(hB:0<=B) :
  St [] L0 ((L++[HU.ins "KeptPoints" (kfl (L.length+1))]++[HU.dic (kG ptU [])]++[HU.dic []]++[HU.lst [.ref L.length,.ref (L.length+2),.ref n]]).set P (HU.lst ((dU c).map (fun i=>U.ref (A i).e)++[U.ref (L.length+3)]))) d P (c+1) B (snA A c ⟨L.length+3,L.length,L.length+1,L.length+2,n,names⟩) (upM m c []):=by
 have S3:=Ads S.D hn hnd (fun x hx=>Ac8 x (hsp x hx)) hnl
 have g3:Gw L (L++[.ins "KeptPoints" (kfl (L.length+1))]++[.dic (kG ptU [])]++[.dic []]):=((Gw.new _ _).trans (Gw.new _ _)).trans (Gw.new _ _)
 have l3:(L++[HU.ins "KeptPoints" (kfl (L.length+1))]++[HU.dic (kG ptU [])]++[HU.dic []]).length=L.length+3:=by simp
 generalize L++[HU.ins "KeptPoints" (kfl (L.length+1))]++[HU.dic (kG ptU [])]++[HU.dic []]=M at S3 g3 l3
 have g4:=Gw.new M [.lst [.ref L.length,.ref (L.length+2),.ref n]]
 have h4:(M++[HU.lst [.ref L.length,.ref (L.length+2),.ref n]])[L.length+3]? = some (.lst [.ref L.length,.ref (L.length+2),.ref n]):=by rw[<- l3];simp
 have S4:=S3.gw g4
 have g:=g3.trans g4
 have dl:=S.D.lt
 have pl:=Kb S.at_
 have E4:EntOk (M++[HU.lst [.ref L.length,.ref (L.length+2),.ref n]]) d B ⟨L.length+3,L.length,L.length+1,L.length+2,n,names⟩ []:=⟨h4,by show L.length+3≠d;omega,S4,by simp[NdK],nofun,hsp,by simpa using hB⟩
 generalize M++[HU.lst [.ref L.length,.ref (L.length+2),.ref n]]=N at g4 g h4 S4 E4
 have D':Seed (N.set P (.lst ((dU c).map (fun i=>U.ref (A i).e)++[.ref (L.length+3)]))) d B:=S4.D.set S.pd _
 have pn:P < N.length:=Kb (g.get S.at_)
 have old:∀ j,j < c->snA A c ⟨L.length+3,L.length,L.length+1,L.length+2,n,names⟩ j=A j/\upM m c [] j=m j:=fun j h=>⟨if_neg (by omega),if_neg (by omega)⟩
 have new:snA A c ⟨L.length+3,L.length,L.length+1,L.length+2,n,names⟩ c=⟨L.length+3,L.length,L.length+1,L.length+2,n,names⟩/\upM m c [] c=[]:=⟨if_pos rfl,if_pos rfl⟩
 generalize snA A c ⟨L.length+3,L.length,L.length+1,L.length+2,n,names⟩=A' at old new
 generalize upM m c []=m' at old new
 have lo:∀ j,j < c->(A j).p < L.length/\(A j).t < L.length:=fun j h=>⟨Kb (S.en j h).S.K.pt,Kb (S.en j h).S.T⟩
 refine ⟨D',?_,S.pd,fun j hj=>?_,fun i j hi hj hij=>?_,fun i j hi hj=>?_,(S.g.trans g).set S.Pge _,S.dge,fun j hj=>?_,fun j hj=>?_,S.Pge,nofun⟩
 ·rw[bU pn,List.range_succ,eG]
  congr 3
  ·exact jH fun i hi=>by rw[(old i (gW.mp hi)).1]
  ·show [_]=[U.ref (A' c).e]
   rw[new.1]
 ·by_cases h:j=c
  ·subst h
   rw[new.1,new.2]
   refine E4.keep D' (mI _) fun i o e z=>?_
   rw[bI ?_]
   ·exact e
   ·rcases z with rfl | rfl | rfl | rfl | rfl
    ·show P≠L.length+3;omega
    ·show P≠L.length;omega
    ·show P≠L.length+1;omega
    ·show P≠L.length+2;omega
    ·exact cS hnP
  ·have hj':j < c:=by omega
   rw[(old j hj').1,(old j hj').2]
   have E:=S.en j hj'
   refine E.keep D' (mI _) fun i o e z=>?_
   rw[bI ?_]
   ·exact g.get e
   ·rcases z with rfl | rfl | rfl | rfl | rfl
    ·exact cS (S.nP j hj').1
    ·exact fun q=>by have a:=E.S.K.ob;rw[<- q,S.at_] at a;cases a
    ·exact Ek S.at_ E.S.K.pt nofun
    ·exact Ek S.at_ E.S.T nofun
    ·exact cS (S.nP j hj').2
 ·by_cases h:i=c
  ·have hj':j < c:=by omega
   have:=lo j hj'
   rw[h,new.1,(old j hj').1]
   exact ⟨by show L.length+1≠_;omega,by show L.length+2≠_;omega⟩
  ·have hi':i < c:=by omega
   have:=lo i hi'
   rw[(old i hi').1]
   by_cases h2:j=c
   ·rw[h2,new.1]
    exact ⟨by show _≠L.length+1;omega,by show _≠L.length+2;omega⟩
   ·rw[(old j (by omega)).1]
    exact S.ap i j hi' (by omega) hij
 ·by_cases h:i=c
  ·rw[h,new.1]
   by_cases h2:j=c
   ·rw[h2,new.1];show L.length+1≠L.length+2;omega
   ·have:=lo j (by omega)
    rw[(old j (by omega)).1];show L.length+1≠_;omega
  ·have hi':i < c:=by omega
   have:=lo i hi'
   rw[(old i hi').1]
   by_cases h2:j=c
   ·rw[h2,new.1];show _≠L.length+2;omega
   ·rw[(old j (by omega)).1]
    exact S.apt i j hi' (by omega)
 ·have gl:=S.g.le
  by_cases h:j=c
  ·rw[h,new.1];exact ⟨by show _<=L.length+1;omega,by show _<=L.length+2;omega⟩
  ·rw[(old j (by omega)).1];exact S.pge j (by omega)
 ·by_cases h:j=c
  ·rw[h,new.1];exact ⟨by show L.length+3≠P;omega,hnP⟩
  ·rw[(old j (by omega)).1];exact S.nP j (by omega)
end
section
variable {L0 L L':UH}{d P c:Nat}{B B':Int}{A:Nat->Adr}{m:Nat->List NP}{x0 x1 x4 x5 x6 x7 x8 x9 x10 x11 x12 x13 x14:Option U}
theorem Afo{δ:UE}{k:Int}{L L':UH}{w:Int}(h:Ae 2 δ L=some (.ref d,L))(e:Al [.ref d,.int k] L=some (.int w,L'))(w0:0<=w)(w1:w<=1000):E2 (Ac (Ar 2 Al (Ac (Ae 2) (Ac (fC (.int k)) Ag))) Ag) δ L=some (.seq (Cp 0 w.toNat),L'):=by
 refine Ie ?_ (by omega)
 rw[fCons_eq,Qv (i:=2) h e]
 simp only[aA,fNil_eq,aD]
 rw[mR w0]
theorem Ako{n:Nat}(S:St [] L0 L d P c B A m)(hc:c<=10) :
  (C3 (Mp "list" Jn (Ae 3) (Ac (E5 (Ac (Oe "KeptPoints" 1 Bb Ag) (Ac fDNew (Ac (Ae 5) Ag)))) Ag))) [x0,x1,some (.ref d),some (.ref P),x4,some (.ref n),x6,x7,x8,x9,x10,x11,x12,x13,x14] L=some (.nx [x0,x1,some (.ref d),some (.ref P),x4,some (.ref n),x6,x7,x8,x9,x10,x11,x12,x13,x14],(L++[HU.ins "KeptPoints" (kfl (L.length+1))]++[HU.dic (kG ptU [])]++[HU.dic []]++[HU.lst [.ref L.length,.ref (L.length+2),.ref n]]).set P (HU.lst ((dU c).map (fun i=>U.ref (A i).e)++[U.ref (L.length+3)]))):=by
 have sm3:∀ x y z:U,Eb [x,y,z].length=true:=fun _ _ _=>B1 (by show 3<=16777216;decide)
 have v3:∀ M,Ae 3 [x0,x1,some (U.ref d),some (.ref P),x4,some (.ref n),x6,x7,x8,x9,x10,x11,x12,x13,x14] M=some (.ref P,M):=fun _=>rfl
 have v5:∀ M,Ae 5 [x0,x1,some (U.ref d),some (.ref P),x4,some (.ref n),x6,x7,x8,x9,x10,x11,x12,x13,x14] M=some (.ref n,M):=fun _=>rfl
 generalize [x0,x1,some (U.ref d),some (.ref P),x4,some (.ref n),x6,x7,x8,x9,x10,x11,x12,x13,x14] = δ at v3 v5
 have l2:(L++[HU.ins "KeptPoints" (kfl (L.length+1))]++[HU.dic (kG ptU [])]).length=L.length+2:=by simp
 have l3:(L++[HU.ins "KeptPoints" (kfl (L.length+1))]++[HU.dic (kG ptU [])]++[HU.dic []]).length=L.length+3:=by simp
 have g:Gw L (L++[HU.ins "KeptPoints" (kfl (L.length+1))]++[HU.dic (kG ptU [])]++[HU.dic []]++[HU.lst [.ref L.length,.ref (L.length+2),.ref n]]):=(((Gw.new _ _).trans (Gw.new _ _)).trans (Gw.new _ _)).trans (Gw.new _ _)
 have el:(E5 (Ac (Oe "KeptPoints" 1 Bb Ag) (Ac fDNew (Ac (Ae 5) Ag)))) δ L=some (.ref (L.length+3),L++[HU.ins "KeptPoints" (kfl (L.length+1))]++[HU.dic (kG ptU [])]++[HU.dic []]++[HU.lst [.ref L.length,.ref (L.length+2),.ref n]]):=by
  rw[Mg,fCons_eq,Vs L]
  simp only[aA,fCons_eq,fDNew,v5,fNil_eq,aD]
  rw[if_pos (sm3 _ _ _),l2,l3]
 have ap:=Acq (.ref (L.length+3)) (g.get S.at_) (by simp;omega)
 generalize L++[HU.ins "KeptPoints" (kfl (L.length+1))]++[HU.dic (kG ptU [])]++[HU.dic []]++[HU.lst [.ref L.length,.ref (L.length+2),.ref n]]=N at el ap
 rw[Nu,fMeth_eq,v3,aA,if_pos (Ut S.at_),fCons_eq,el]
 simp only[aA,fNil_eq,aD]
 rw[ap]
 rfl
inductive Built(v:Option (Fl×UH))(δ:Option U->Option U->UE)(L0:UH)(d P c:Nat)(B:Int):Prop
 | mk (y5 y6:Option U) (A:Nat->Adr) (m:Nat->List NP) (L':UH) (e:v=some (.nx (δ y5 y6),L')) (S:St [] L0 L' d P c B A m)
theorem X9(S:St [] L0 L d P c B A m)(hc:c<=10)(h0:0<=B)(hB:B<=5000):Built (Nw [x0,x1,some (.ref d),some (.ref P),some (.int (c:Nat)),x5,x6,x7,x8,x9,x10,x11,x12,x13,x14] L) (fun y5 y6=>[x0,x1,some (.ref d),some (.ref P),some (.int (c:Nat)),y5,y6,x7,x8,x9,x10,x11,x12,x13,x14]) L0 d P (c+1) (B+821):=by
 obtain ⟨n,names,M2,e2,hn2,hnl,hsp,D2,y2,hn⟩:=Aby S.D (by omega) (δ:=[x0,x1,some (.ref d),some (.ref P),some (.int (c:Nat)),x5,x6,x7,x8,x9,x10,x11,x12,x13,x14]) (fun _=>rfl)
 have s1:=Vd (i:=5) e2
 simp only[cF,bZ] at s1
 have dl:=S.D.lt
 have pl:=Kb S.at_
 have S2:=S.ex D2 y2 (by omega)
 have SL:=S2.lay hn2 hnl hsp (by omega) (by omega) (by omega)
 have s2:=Ako (n:=n) (x0:=x0) (x1:=x1) (x4:=some (.int (c:Nat))) (x6:=x6) (x7:=x7) (x8:=x8) (x9:=x9) (x10:=x10) (x11:=x11) (x12:=x12) (x13:=x13) (x14:=x14) S2 hc
 have hA:(snA A c ⟨M2.length+3,M2.length,M2.length+1,M2.length+2,n,names⟩ c).n=n:=by unfold snA;rw[if_pos rfl]
 generalize snA A c ⟨M2.length+3,M2.length,M2.length+1,M2.length+2,n,names⟩=A' at SL hA
 generalize upM m c []=m' at SL
 generalize (M2++[HU.ins "KeptPoints" (kfl (M2.length+1))]++[HU.dic (kG ptU [])]++[HU.dic []]++[HU.lst [.ref M2.length,.ref (M2.length+2),.ref n]]).set P (HU.lst ((dU c).map (fun i=>U.ref (A i).e)++[U.ref (M2.length+3)]))=N at SL s2
 obtain ⟨w,M5,e5,w0,w1,D5,y5⟩:=Cd (many:=41) SL.D (by omega) (by decide) (by decide)
 obtain ⟨y6,m6,L6,e6,S6⟩:=Vg (δ:=fun y=>[x0,x1,some (.ref d),some (.ref P),some (.int (c:Nat)),some (.ref n),y,x7,x8,x9,x10,x11,x12,x13,x14]) (y:=x6) (body:=U0) (i:=c) (by omega) (Afo rfl e5 w0 (by omega)) (SL.ex D5 y5 (by omega)) (by omega) (by omega) (fun _ _ _=>rfl) (fun y M B' m' M' SM e=>by
  have E:=SM.en c (by omega)
  have hp:=SM.pick (i:=c) (by omega)
  rw[hA] at e
  unfold U0
  simp only[Nu,fOwn_eq,fCons_eq,fNil_eq,f2_eq,fC_eq,fVar_eq,aK,aH,aN,aD,aA,hp,E.ix0,E.ix1,aI,aL,if_true,e])
 refine ⟨some (.ref n),y6,A',m6,L6,?_,S6.mono (by omega)⟩
 unfold Nw
 rw[An s1,An s2]
 exact e6
end
section
variable {ks:List (Nat×HU)}{L0 L L':UH}{d P c:Nat}{B B':Int}{A:Nat->Adr}{m:Nat->List NP}{x0 x1 x4 x5 x6 x7 x8 x9 x10 x11 x12 x13 x14:Option U}
inductive Seen(v:Option (Fl×UH))(δ:UE)(ks:List (Nat×HU))(L0:UH)(d P c:Nat)(B:Int)(A:Nat->Adr)(m:Nat->List NP):Prop
 | mk (L':UH) (e:v=some (.nx δ,L')) (S:St ks L0 L' d P c B A m)
inductive SeenF(v:Option (Fl×UH))(δ:Option U->Option U->Option U->UE)(ks:List (Nat×HU))(L0:UH)(d P c:Nat)(B:Int)(A:Nat->Adr)(m:Nat->List NP):Prop
 | mk (y12 y13 y14:Option U) (L':UH) (e:v=some (.nx (δ y12 y13 y14),L')) (S:St ks L0 L' d P c B A m)
theorem Vy{δ:Option U->Option U->Option U->UE}{body:FS}(S:St ks L0 L d P c B A m)(hc:c<=10)(hB:B<=4000)(h3:∀ M,Ae 3 (δ x12 x13 x14) M=some (.ref P,M))(hg:∀ y12 y13 y14 u v w M,MR.gCons (gN 12) (MR.gCons (gN 13) (MR.gCons (gN 14) MR.gNil)) [u,v,w] (δ y12 y13 y14) M=some (δ (some u) (some v) (some w),M))
  (hb:∀ i M B',i < c->B'<=B+8 * c->St ks L0 M d P c B' A m->Seen (body (δ (some (.ref (A i).k)) (some (.ref (A i).t)) (some (.ref (A i).n))) M) (δ (some (.ref (A i).k)) (some (.ref (A i).t)) (some (.ref (A i).n))) ks L0 d P c (B'+8) A m) :
  SeenF (Lf (Bu (Ae 3)) (K6 3 (MR.gCons (gN 12) (MR.gCons (gN 13) (MR.gCons (gN 14) MR.gNil)))) body (δ x12 x13 x14) L) δ ks L0 d P c (B+8 * c) A m:=by
 have hq:=Be S.at_
 have hi:Bu (Ae 3) (δ x12 x13 x14) L=some (.ref P,L):=by rw[Kc,h3];simp only[aA,Gn hq,aD]
 obtain ⟨δ',L',e,⟨y12,y13,y14,rfl⟩,S',_⟩:=T6 (us:=(dU c).map fun i=>U.ref (A i).e) (n:=P) (body:=body) (g:=K6 3 (MR.gCons (gN 12) (MR.gCons (gN 13) (MR.gCons (gN 14) MR.gNil)))) (fun j δ' M=>(∃ y12 y13 y14,δ' = δ y12 y13 y14)/\St ks L0 M d P c (B+8 * j) A m/\j<=c) hi ⟨⟨_,_,_,rfl⟩,S.mono (by omega),by omega⟩
  (fun j δ' M hP=>by
   obtain ⟨_,SM,_⟩:=hP
   exact Be SM.at_)
  (fun j u δ' M hu hP=>by
   obtain ⟨⟨y12,y13,y14,rfl⟩,SM,hj⟩:=hP
   have hjc:j < c:=by have:=(aQ.mp hu).1;simpa using this
   rw[bO,gG hjc] at hu
   cases hu
   obtain ⟨M',e,S'⟩:=hb j M _ hjc (by omega) SM
   refine ⟨δ (some (.ref (A j).k)) (some (.ref (A j).t)) (some (.ref (A j).n)),M,?_,_,M',.inl e,⟨_,_,_,rfl⟩,S'.mono (by omega),by omega⟩
   have hs:=Be (SM.en j hjc).at_
   unfold K6
   simp only[hs,aA]
   exact hg _ _ _ _ _ _ _)
 have hlen:((dU c).map fun i=>U.ref (A i).e).length=c:=by simp
 rw[hlen] at S'
 exact ⟨y12,y13,y14,L',e,S'⟩
theorem Ahq{k p:Nat}{m:List NP}(D:Seed L d B)(K:Kept L k p m):k≠d/\p≠d:=by
 obtain ⟨a,b,c,e,h1,_⟩:=D.ex
 exact ⟨fun z=>(by have:=K.ob;rw[z,h1] at this;cases this),fun z=>(by have:=K.pt;rw[z,h1] at this;cases this)⟩
theorem Aah{v:Option (U×UH)}{fe:FE}{δ:UE}(S:St ks L0 L d P c B A m)(hv:fe δ L=v)(R:LookR v L d (B+8)):Seen ((Dv (Xq (Pw fe)) (Ci (fC (.bl false))) Cq) δ L) δ ks L0 d P c (B+8) A m:=by
 obtain ⟨L',e,D,x⟩:=R
 refine ⟨L',?_,S.ex D x (by omega)⟩
 rw[fIfS_eq,fNot_eq,fTru_eq,hv,e]
 simp only[aA,truU_bl,aD,gO,bJ,if_false,Du]
theorem Y1{i pl bx:Nat}{qs:List (Int×Int)}{bs:List (Int×Int×Int×Int)}(S:St [(pl,.lst (qs.map prU)),(bx,.lst (bs.map bxU))] L0 L d P c B A m)(hi:i < c)(hB:B<=13000)(hq:qs.length<=2)(hb:bs.length<=2):Look L d (A i).k (A i).p (A i).t pl bx (m i) qs bs:=by
 have E:=S.en i hi
 have ml:=E.ml
 exact ⟨E.S.K,E.S.T,(S.kp _ bT).1,(S.kp _ (bG _ bT)).1,E.S.ok,by omega,by omega,by omega⟩
theorem Am3{f:FN}{δ:UE}{L1:UH}{f1:FE}{u v w x y:U}{r:Option (U×UH)}(h2:Ae 2 δ L=some (u,L))(h1:f1 δ L=some (v,L1))(h13:Ae 13 δ L1=some (w,L1))(h8:Ae 8 δ L1=some (x,L1))(h9:Ae 9 δ L1=some (y,L1))(e:f [u,v,w,x,y] L1=r):(Ar 5 f (Ac (Ae 2) (Ac f1 (Ac (Ae 13) (Ac (Ae 8) (Ac (Ae 9) Ag)))))) δ L=r:=by
 rw[fOwn_eq,fCons_eq,h2,aA,fCons_eq,h1,aA,fCons_eq,h13,aA,fCons_eq,h8,aA,fCons_eq,h9]
 simp only[aA,fNil_eq,aD,aI,aL,if_true,e]
theorem An9{i pl bx:Nat}{qs:List (Int×Int)}{bs:List (Int×Int×Int×Int)}(S:St [(pl,.lst (qs.map prU)),(bx,.lst (bs.map bxU))] L0 L d P c B A m)(hi:i < c)(hB:B<=13000)(hq:qs.length<=2)(hb:bs.length<=2):Seen (Uo [x0,x1,some (.ref d),some (.ref P),x4,x5,x6,x7,some (.ref pl),some (.ref bx),x10,x11,some (.ref (A i).k),some (.ref (A i).t),some (.ref (A i).n)] L) [x0,x1,some (.ref d),some (.ref P),x4,x5,x6,x7,some (.ref pl),some (.ref bx),x10,x11,some (.ref (A i).k),some (.ref (A i).t),some (.ref (A i).n)] [(pl,.lst (qs.map prU)),(bx,.lst (bs.map bxU))] L0 d P c (B+8) A m:=
 Aah S (Am3 rfl rfl rfl rfl rfl rfl) (Sf S.D (by omega) (Y1 S hi hB hq hb) (S.en i hi).S.kd (S.en i hi).S.pd hq hb)
theorem An7{i pl bx:Nat}{qs:List (Int×Int)}{bs:List (Int×Int×Int×Int)}(S:St [(pl,.lst (qs.map prU)),(bx,.lst (bs.map bxU))] L0 L d P c B A m)(hi:i < c)(hB:B<=13000)(hq:qs.length<=2)(hb:bs.length<=2):Seen (Uv [x0,x1,some (.ref d),some (.ref P),x4,x5,x6,x7,some (.ref pl),some (.ref bx),x10,x11,some (.ref (A i).k),some (.ref (A i).t),some (.ref (A i).n)] L) [x0,x1,some (.ref d),some (.ref P),x4,x5,x6,x7,some (.ref pl),some (.ref bx),x10,x11,some (.ref (A i).k),some (.ref (A i).t),some (.ref (A i).n)] [(pl,.lst (qs.map prU)),(bx,.lst (bs.map bxU))] L0 d P c (B+8) A m:=by
 have Lk:=Y1 S hi hB hq hb
 obtain ⟨k,p,L1,e1,K1,g1⟩:=Abb Lk.T (S.en i hi).nd Lk.lm
 have D1:=S.D.gw g1
 obtain ⟨kd,pd⟩:=Ahq D1 K1
 obtain ⟨L2,e2,D2,x2⟩:=Sf D1 (by omega) ⟨K1,g1.get Lk.T,g1.get Lk.Q,g1.get Lk.B,Lk.ok,Lk.lm,Lk.lq,Lk.lb⟩ kd pd hq hb
 exact Aah S (Am3 rfl (Aa7 (i:=13) rfl e1) rfl rfl rfl rfl) ⟨L2,e2,D2,(g1.ex d).trans x2⟩
end
inductive comp2_I(β:Type)(rep:β->U)(fe:FE)(c:Int)(L:UH)(d:Nat)(B:Int)(δ:UE):Prop
 | mk (a:Nat) (xs:List β) (L':UH) (h0:(Bn [none,some 2,some 7] (E2 (Ac (fC (.int 2)) Ag)) (gN 0) none fe) δ L=some (.ref a,L')) (h1:L'[a]? = some (.lst (xs.map rep))) (h2:xs.length=2) (h3:L.length<=a) (h4:Seed L' d (B+2 * c)) (h5:Ex d L L'):comp2_I β rep fe c L d B δ
theorem Aiv{β:Type}{rep:β->U}{fe:FE}{c:Int}{L:UH}{d:Nat}{B:Int}{w:U}(D:Seed L d B)(hc:0<=c)
  (hfe:∀ (M:UH) (B':Int) (z:Option U),Seed M d B'->B'<=B+2 * c->∃ (x:β) (M':UH),fe [z,some (.ref d),some w] M=some (rep x,M')/\Seed M' d (B'+c)/\Ex d M M') {δ:UE} (hix:Jf [none,some 2,some 7] δ = [none,some (.ref d),some w]):comp2_I β rep fe c L d B δ:=by
 have hi:E2 (Ac (fC (.int 2)) Ag) δ L=some (.seq (Cp 0 2),L):=Ie (n:=2) rfl (by omega)
 obtain ⟨ys,δ',M',e,⟨z,hδ⟩,xs,hxs,hxl,DM,xM⟩:=Yi (ix:=[none,some 2,some 7]) (it:=.seq (Cp 0 2)) (g:=gN 0) (tt:=none) (fe:=fe) (us:=Cp 0 2) (δ:=δ) (L:=L) (L0:=L)
  (fun k acc δ' M=>(∃ z,δ'=[z,some (.ref d),some w])/\∃ xs:List β,acc=xs.map rep/\xs.length=k/\Seed M d (B+c * k)/\Ex d L M) hi (by simp[IU.size]) ⟨⟨none,hix⟩,[],rfl,rfl,by simpa using D,Ex.refl _ _⟩
  (fun k acc δ L _ _=>rfl)
  (fun k u acc δ M hu hP=>by
   obtain ⟨⟨z,rfl⟩,xs,hxs,hxl,DM,xM⟩:=hP
   obtain ⟨hk,rfl⟩:=Gx hu
   have hck:c * (k:Int)<=2 * c:=by rw[Int.mul_comm 2 c];exact Int.mul_le_mul_of_nonneg_left (by omega) hc
   obtain ⟨x,M',e,D',x'⟩:=hfe M _ (some (.int (0+(k:Int)))) DM (by omega)
   exact ⟨[some (.int (0+k)),some (.ref d),some w],M,rfl,true,M,rfl,fun _=>⟨rep x,M',e,by rw[hxs,bB,hxl];omega,⟨_,rfl⟩,xs++[x],by simp[hxs],by simp[hxl],D'.mono (by rw[Int.natCast_add,Int.mul_add];omega),xM.trans x'⟩,fun h=>by cases h⟩)
 have hl3:(Cp 0 2).length=2:=Ia
 rw[hl3] at hxl DM
 refine ⟨M'.length,xs,M'++[.lst ys],?_,by rw[hxs];simp,hxl,xM.le,(DM.new _).mono (by omega),xM.trans (Ex.new d _ _)⟩
 rw[e]
section
variable {L0 L L':UH}{d P c:Nat}{B B':Int}{A:Nat->Adr}{m:Nat->List NP}{x0 x1 x4 x5 x6 x7 x8 x9 x10 x11 x12 x13 x14:Option U}
inductive few_ok_I(B:Int)(d:Nat)(L:UH)(δ:UE):Prop
 | mk (w:Nat) (L':UH) (h0:E2 (Ac (Ar 2 Al (Ac (Ae 2) (Ac (f2 Ao (E5 (Ac (fC (.int 2)) (Ac (fC (.int 13)) Ag))) (Ar 2 Al (Ac (Ae 2) (Ac (fC (.int 2)) Ag)))) Ag))) Ag) δ L=some (.seq (Cp 0 w),L')) (h1:w<=12) (h2:Seed L' d (B+2)) (h3:Ex d L L'):few_ok_I B d L δ
theorem Ak0{δ:UE}(D:Seed L d B)(hB:B<=50000)(h2:∀ M,Ae 2 δ M=some (.ref d,M)):few_ok_I B d L δ:=by
 have sm2:∀ x y:U,Eb [x,y].length=true:=fun _ _=>B1 (by show 2<=16777216;decide)
 obtain ⟨i,L1,e1,i0,i1,D1,y1⟩:=Cd (many:=2) (D.new [HU.lst [.int 2,.int 13]]) (by omega) (by decide) (by decide)
 have dl:=D.lt
 have q1:Ba L1 L.length=some [.int 2,.int 13]:=Be (y1.get (i:=L.length) (by simp) (by omega))
 have hv:∃ v:Int,L2.atI [U.int 2,.int 13] i=some (.int v)/\0 < v/\v<=13:=by
  have:i=0\/i=1:=by omega
  rcases this with rfl | rfl
  ·exact ⟨2,rfl,by decide,by decide⟩
  ·exact ⟨13,rfl,by decide,by decide⟩
 obtain ⟨v,hv,v0,v1⟩:=hv
 obtain ⟨w,M2,e2,w0,w1,D2,y2⟩:=Cd (many:=v) D1 (by omega) v0 (by omega)
 refine ⟨w.toNat,M2,?_,by omega,D2.mono (by omega),((Ex.new d _ _).trans y1).trans y2⟩
 have el:(f2 Ao (E5 (Ac (fC (.int 2)) (Ac (fC (.int 13)) Ag))) (Ar 2 Al (Ac (Ae 2) (Ac (fC (.int 2)) Ag)))) δ L=some (.int v,L1):=by
  have ea:(E5 (Ac (fC (.int 2)) (Ac (fC (.int 13)) Ag))) δ L=some (.ref L.length,L++[.lst [.int 2,.int 13]]):=by
   simp only[Mg,fCons_eq,fNil_eq,fC_eq,aD,aA,if_pos (sm2 _ _)]
  rw[f2_eq,ea,aA,Qv (i:=2) (h2 _) e1]
  simp only[aA,semIx_ref,q1,hv,aD]
 refine Ie ?_ (by omega)
 rw[fCons_eq,fOwn_eq,fCons_eq,h2]
 simp only[aA]
 rw[fCons_eq,el]
 simp only[aA,fNil_eq,aD,aI,aL,if_true,e2]
 rw[mR w0]
theorem Aid{w k j:Int}{i:Nat}{δ:UE}(h:Ae i δ L=some (.ref d,L))(e:Al [.ref d,.int k] L=some (.int w,L')):(Az (f2 B2 (Ar 2 Al (Ac (Ae i) (Ac (fC (.int k)) Ag))) (fC (.int j)))) δ L=some (w == j,L'):=by
 rw[fTest_eq,f2_eq,Qv h e]
 simp only[aA,fC_eq,Hr]
theorem Adh{ks:List (Nat×HU)}{i:Nat}{δ:UE}(S:St ks L0 L d P c B A m)(hi:i < c)(hB:B<=13000)(h2:∀ M,Ae 2 δ M=some (.ref d,M))(h10:∀ M,Ae 10 δ M=some (.ref (A i).k,M))(h11:∀ M,Ae 11 δ M=some (.ref (A i).t,M)) :
  Seen ((Dv (Pp (Az (f2 B2 (Ar 2 Al (Ac (Ae 2) (Ac (fC (.int 2)) Ag))) (fC (.int 0)))) (Xq (Pw (Ar 3 Ep (Ac (Ae 2) (Ac (Ae 10) (Ac (Ae 11) Ag))))))) (Ci (fC (.bl false))) Cq) δ L) δ ks L0 d P c (B+3) A m:=by
 obtain ⟨w,L1,e1,w0,w1,D1,y1⟩:=Cd (many:=2) S.D (by omega) (by decide) (by decide)
 have S1:=S.ex D1 y1 (by omega)
 have t1:=Aid (j:=0) (h2 L) e1
 cases hw:(w == 0) with
 | false=>
  rw[hw] at t1
  refine ⟨L1,?_,S1.mono (by omega)⟩
  rw[fIfS_eq,fAnd_eq,t1]
  simp only[aA,bJ,if_false,Du]
 | true=>
  rw[hw] at t1
  have E:=S1.en i hi
  have ml:=E.ml
  obtain ⟨L2,e2,D2,x2⟩:=Xe S1.D (by omega) E.S.K E.S.T E.S.kd E.S.pd E.S.td (fun q hq=>E.sp _ (E.ki q hq)) (by omega)
  refine ⟨L2,?_,S1.ex (D2.mono (by omega)) x2 (by omega)⟩
  rw[fIfS_eq,fAnd_eq,t1]
  simp only[aA,if_true]
  rw[fNot_eq,fTru_eq,Afb (h2 L1) (h10 L1) (h11 L1) e2]
  simp only[aA,truU_bl,aD,gO,bJ,if_false,Du]
end
section
variable {L0 L L':UH}{d P c:Nat}{B B':Int}{A:Nat->Adr}{m:Nat->List NP}{x0 x1 x4 x5 x6 x7 x8 x9 x10 x11 x12 x13 x14:Option U}
inductive Turned(v:Option (Fl×UH))(x0 x1 x4 x7:Option U)(ks:List (Nat×HU))(L0:UH)(d P pl bx c:Nat)(B:Int)(A:Nat->Adr):Prop
 | mk (y5 y6 y10 y11 y12 y13 y14:Option U) (m:Nat->List NP) (L':UH) (e:v=some (.nx [x0,x1,some (.ref d),some (.ref P),x4,y5,y6,x7,some (.ref pl),some (.ref bx),y10,y11,y12,y13,y14],L')) (S:St ks L0 L' d P c B A m)
theorem Ah9{pl bx:Nat}{qs:List (Int×Int)}{bs:List (Int×Int×Int×Int)}(S:St [(pl,.lst (qs.map prU)),(bx,.lst (bs.map bxU))] L0 L d P 2 B A m)(hB:B<=3700)(hq:qs.length<=2)(hb:bs.length<=2):Turned (P2 [x0,x1,some (.ref d),some (.ref P),x4,x5,x6,x7,some (.ref pl),some (.ref bx),x10,x11,x12,x13,x14] L) x0 x1 x4 x7 [(pl,.lst (qs.map prU)),(bx,.lst (bs.map bxU))] L0 d P pl bx 2 (B+210) A:=by
 obtain ⟨i,L1,e1,i0,i1,D1,y1⟩:=Cd (many:=2) S.D (by omega) (by decide) (by decide)
 obtain ⟨j,rfl⟩:∃ j:Nat,i=(j:Int):=⟨i.toNat,by omega⟩
 have hj:j < 2:=by omega
 have S1:=S.ex D1 y1 (by omega)
 have s1:(Bq (f2 Ao (Ae 3) (Ar 2 Al (Ac (Ae 2) (Ac (fC (.int 2)) Ag)))) (K6 3 (MR.gCons (gN 10) (MR.gCons (gN 11) (MR.gCons (gN 5) MR.gNil))))) [x0,x1,some (.ref d),some (.ref P),x4,x5,x6,x7,some (.ref pl),some (.ref bx),x10,x11,x12,x13,x14] L=some (.nx [x0,x1,some (.ref d),some (.ref P),x4,some (.ref (A j).n),x6,x7,some (.ref pl),some (.ref bx),some (.ref (A j).k),some (.ref (A j).t),x12,x13,x14],L1):=by
  have v3:Ae 3 [x0,x1,some (U.ref d),some (.ref P),x4,x5,x6,x7,some (.ref pl),some (.ref bx),x10,x11,x12,x13,x14] L=some (.ref P,L):=rfl
  have hs:=Be (S1.en j hj).at_
  rw[Cy,f2_eq,v3,aA,Qv (i:=2) rfl e1]
  simp only[aA,S1.pick hj]
  unfold K6
  simp only[hs,aA]
  rfl
 obtain ⟨w,L2,e2,hw,D2,y2⟩:=Ak0 (δ:=[x0,x1,some (.ref d),some (.ref P),x4,some (.ref (A j).n),x6,x7,some (.ref pl),some (.ref bx),some (.ref (A j).k),some (.ref (A j).t),x12,x13,x14]) S1.D (by omega) (fun _=>rfl)
 obtain ⟨y6,m6,L6,e6,S6⟩:=Vg (δ:=fun y=>[x0,x1,some (.ref d),some (.ref P),x4,some (.ref (A j).n),y,x7,some (.ref pl),some (.ref bx),some (.ref (A j).k),some (.ref (A j).t),x12,x13,x14]) (y:=x6) (body:=Ug) (i:=j) hj e2 (S1.ex D2 y2 (by omega)) (by omega) (by omega) (fun _ _ _=>rfl) (fun y M B' m' M' SM e=>by
  unfold Ug
  simp only[Nu,fOwn_eq,fCons_eq,fNil_eq,fVar_eq,aK,aH,aN,aD,aA,aI,aL,if_true,e])
 obtain ⟨L7,e7,S7⟩:=Adh (δ:=[x0,x1,some (.ref d),some (.ref P),x4,some (.ref (A j).n),y6,x7,some (.ref pl),some (.ref bx),some (.ref (A j).k),some (.ref (A j).t),x12,x13,x14]) S6 hj (by omega) (fun _=>rfl) (fun _=>rfl) (fun _=>rfl)
 obtain ⟨y12,y13,y14,L8,e8,S8⟩:=Vy (x12:=x12) (x13:=x13) (x14:=x14) (δ:=fun y12 y13 y14=>[x0,x1,some (.ref d),some (.ref P),x4,some (.ref (A j).n),y6,x7,some (.ref pl),some (.ref bx),some (.ref (A j).k),some (.ref (A j).t),y12,y13,y14]) (body:=Uo) S7 (by omega) (by omega) (fun _=>rfl) (fun _ _ _ _ _ _ _=>rfl) (fun i M B' hi hB' SM=>An9 SM hi (by omega) hq hb)
 refine ⟨some (.ref (A j).n),y6,some (.ref (A j).k),some (.ref (A j).t),y12,y13,y14,m6,L8,?_,S8.mono (by omega)⟩
 unfold P2
 rw[An s1,An e6,An e7]
 exact e8
theorem Aif(a b:List NP)(h:a.length+b.length<=1000)(M:UH):Eu (.tup (a.map ptU)) (.tup (b.map ptU)) M=some (.tup ((a++b).map ptU),M):=by
 cases a with
 | nil=>rfl
 | cons p a=>
  show Ax (.tup ((p::a).map ptU)) (.tup (b.map ptU)) M=_
  unfold Ax
  simp only
  rw[if_pos ⟨rfl,B1 (by simp only[bB];omega)⟩,eG]
theorem Aaq{ks:List (Nat×HU)}{i:Nat}{δ:UE}(S:St ks L0 L d P c B A m)(hi:i < c)(hB:B<=13000)(h3:Ae 3 δ L=some (.ref P,L)):∃ L',(Ar 1 Dw (Ac (f2 Ao (f2 Ao (Ae 3) (fC (.int (i:Nat)))) (fC (.int 1))) Ag)) δ L=some (.tup ((m i).map ptU),L')/\Gw L L':=by
 have E:=S.en i hi
 have ml:=E.ml
 obtain ⟨L',e,g⟩:=Tw E.S.T (by omega)
 refine ⟨L',?_,g⟩
 simp only[fOwn_eq,fCons_eq,fNil_eq,f2_eq,fC_eq,h3,aD,aA,S.pick hi,E.ix1,aI,aL,if_true,e]
end
inductive Cell(v:Option (Fl×UH))(x0 x1:Option U)(L:UH):Prop
 | mk (y2 y3 y4 y5 y6 y7 y8 y9 y10 y11 y12 y13 y14:Option U) (L':UH) (e:v=some (.nx [x0,x1,y2,y3,y4,y5,y6,y7,y8,y9,y10,y11,y12,y13,y14],L')) (g:Gw L L')
inductive pair_ok_I(cell:Int)(L:UH)(x0:Option U)(x7:Option U)(x8:Option U)(x9:Option U)(x10:Option U)(x11:Option U)(x12:Option U)(x13:Option U)(x14:Option U)(rest:FS)(v:Option (Fl×UH)):Prop
 | mk (d P:Nat) (y4 y5 y6:Option U) (A:Nat->Adr) (m:Nat->List NP) (L':UH) (h0:v=rest [x0,some (.int cell),some (.ref d),some (.ref P),y4,y5,y6,x7,x8,x9,x10,x11,x12,x13,x14] L') (h1:St [] L L' d P 2 1642 A m):pair_ok_I cell L x0 x7 x8 x9 x10 x11 x12 x13 x14 rest v
theorem Ahi(cell:Int)(L:UH)(x0 x2 x3 x4 x5 x6 x7 x8 x9 x10 x11 x12 x13 x14:Option U){rest:FS}{v:Option (Fl×UH)}(hv:(Bf (Bq (Ar 1 K8 (Ac (Ae 1) Ag)) (gN 2)) (Bf (Bq (E5 Ag) (gN 3)) (Bf (Lf (E2 (Ac (fC (.int 2)) Ag)) (gN 4) Nw) rest))) [x0,some (.int cell),x2,x3,x4,x5,x6,x7,x8,x9,x10,x11,x12,x13,x14] L=v):pair_ok_I cell L x0 x7 x8 x9 x10 x11 x12 x13 x14 rest v:=by
 obtain ⟨L1,e1,D1,g1⟩:=Af1 cell L
 have h1:=Vd (i:=2) (Aa7 (i:=1) (δ:=[x0,some (.int cell),x2,x3,x4,x5,x6,x7,x8,x9,x10,x11,x12,x13,x14]) rfl e1)
 simp only[cF,bZ] at h1
 have dl:=D1.lt
 have h2:(Bq (E5 Ag) (gN 3)) [x0,some (.int cell),some (.ref L.length),x3,x4,x5,x6,x7,x8,x9,x10,x11,x12,x13,x14] L1=some (.nx [x0,some (.int cell),some (.ref L.length),some (.ref L1.length),x4,x5,x6,x7,x8,x9,x10,x11,x12,x13,x14],L1++[.lst []]):=rfl
 have S0:St [] L (L1++[.lst []]) L.length L1.length 0 0 (fun _=>⟨0,0,0,0,0,[]⟩) (fun _=>[]):=⟨D1.gw (Gw.new _ _),by simp,by omega,nofun,nofun,nofun,g1.trans (Gw.new _ _),bD _,nofun,nofun,g1.le,nofun⟩
 generalize L.length=d at h1 h2 S0
 generalize L1.length=P at h2 S0
 generalize L1++[HU.lst []]=M at h2 S0
 have hi:E2 (Ac (fC (.int 2)) Ag) [x0,some (.int cell),some (.ref d),some (.ref P),x4,x5,x6,x7,x8,x9,x10,x11,x12,x13,x14] M=some (.seq (Cp 0 2),M):=Ie (n:=2) rfl (by omega)
 obtain ⟨δ',L3,e3,⟨y4,y5,y6,A,m,rfl,S3⟩,_⟩:=Nm (us:=Cp 0 2) (body:=Nw) (g:=gN 4) (fun j δ' M=>(∃ y4 y5 y6 A m,δ'=[x0,some (.int cell),some (.ref d),some (.ref P),y4,y5,y6,x7,x8,x9,x10,x11,x12,x13,x14]/\St [] L M d P j (821 * j) A m)/\j<=2) hi ⟨⟨x4,x5,x6,_,_,rfl,S0.mono (by omega)⟩,by omega⟩
  (fun j u δ' M hu hP=>by
   obtain ⟨⟨y4,y5,y6,A,m,rfl,SM⟩,hj⟩:=hP
   obtain ⟨hk,rfl⟩:=Gx hu
   rw[Int.zero_add]
   obtain ⟨z5,z6,A',m',M',e,S'⟩:=X9 (x0:=x0) (x1:=some (.int cell)) (x5:=y5) (x6:=y6) (x7:=x7) (x8:=x8) (x9:=x9) (x10:=x10) (x11:=x11) (x12:=x12) (x13:=x13) (x14:=x14) SM (by omega) (by omega) (by omega)
   exact ⟨_,M,rfl,_,M',.inl e,⟨_,_,_,_,_,rfl,S'.mono (by omega)⟩,by omega⟩)
 refine ⟨d,P,y4,y5,y6,A,m,L3,?_,S3⟩
 rw[<- hv,An h1,An h2,An e3]
theorem in1(cell:Int)(L:UH)(x0 x2 x3 x4 x5 x6 x7 x8 x9 x10 x11 x12 x13 x14:Option U):Cell (P8 [x0,some (.int cell),x2,x3,x4,x5,x6,x7,x8,x9,x10,x11,x12,x13,x14] L) x0 (some (.int cell)) L:=by
 obtain ⟨d,P,y4,y5,y6,A,m,M3,hv,S3⟩:=Ahi cell L x0 x2 x3 x4 x5 x6 x7 x8 x9 x10 x11 x12 x13 x14 (v:=P8 [x0,some (.int cell),x2,x3,x4,x5,x6,x7,x8,x9,x10,x11,x12,x13,x14] L) rfl
 have E0:=S3.en 0 (by omega)
 have E1:=S3.en 1 (by omega)
 have ml0:=E0.ml
 have ml1:=E1.ml
 obtain ⟨Ma,ea,ga⟩:=Aaq (δ:=[x0,some (.int cell),some (.ref d),some (.ref P),y4,y5,y6,x7,x8,x9,x10,x11,x12,x13,x14]) S3 (i:=0) (by omega) (by omega) rfl
 have Sa:=S3.ex (S3.D.gw ga) (ga.ex d) (mI _)
 obtain ⟨Mb,eb,gb⟩:=Aaq (δ:=[x0,some (.int cell),some (.ref d),some (.ref P),y4,y5,y6,x7,x8,x9,x10,x11,x12,x13,x14]) Sa (i:=1) (by omega) (by omega) rfl
 have Sb:=Sa.ex (Sa.D.gw gb) (gb.ex d) (mI _)
 have h4:(Bq (f2 Eu (Ar 1 Dw (Ac (f2 Ao (f2 Ao (Ae 3) (fC (.int 0))) (fC (.int 1))) Ag)) (Ar 1 Dw (Ac (f2 Ao (f2 Ao (Ae 3) (fC (.int 1))) (fC (.int 1))) Ag))) (gN 7)) [x0,some (.int cell),some (.ref d),some (.ref P),y4,y5,y6,x7,x8,x9,x10,x11,x12,x13,x14] M3=some (.nx [x0,some (.int cell),some (.ref d),some (.ref P),y4,y5,y6,some (.tup ((m 0++m 1).map ptU)),x8,x9,x10,x11,x12,x13,x14],Mb):=by
  have ea':(Ar 1 Dw (Ac (f2 Ao (f2 Ao (Ae 3) (fC (.int 0))) (fC (.int 1))) Ag)) [x0,some (.int cell),some (.ref d),some (.ref P),y4,y5,y6,x7,x8,x9,x10,x11,x12,x13,x14] M3=some (.tup ((m 0).map ptU),Ma):=ea
  have eb':(Ar 1 Dw (Ac (f2 Ao (f2 Ao (Ae 3) (fC (.int 1))) (fC (.int 1))) Ag)) [x0,some (.int cell),some (.ref d),some (.ref P),y4,y5,y6,x7,x8,x9,x10,x11,x12,x13,x14] Ma=some (.tup ((m 1).map ptU),Mb):=eb
  rw[Cy,f2_eq,ea',aA,eb',aA,Aif _ _ (by omega)]
  rfl
 have hok:∀ p∈m 0++m 1,cV p.1=true:=fun p hp=>(eS.mp hp).elim (E0.S.ok p) (E1.S.ok p)
 have hps:(m 0++m 1).length<=1000:=by rw[cN];omega
 generalize m 0++m 1=ps at h4 hok hps
 obtain ⟨pl,qs,M5,e5,hq5,hql,hpl,D5,y5'⟩:=Aiv (rep:=prU) (fe:=V1) (c:=13) (w:=.tup (ps.map ptU)) Sb.D (by omega) (fun M B' z DM hB'=>by
  obtain ⟨q,M',e,D',x'⟩:=N4 (ps:=ps) hps hok DM (by omega)
  exact ⟨q,M',Aen (i:=1) (j:=2) rfl rfl e,D',x'⟩) (δ:=[x0,some (.int cell),some (.ref d),some (.ref P),y4,y5,y6,some (.tup (ps.map ptU)),x8,x9,x10,x11,x12,x13,x14]) rfl
 have h5:=Vd (i:=8) e5
 simp only[cF,bZ] at h5
 have S5:=Sb.ex D5 y5' (by omega)
 obtain ⟨bx,bs,M6,e6,hb6,hbl,hbx,D6,y6'⟩:=Aiv (rep:=bxU) (fe:=V3) (c:=27) (w:=.tup (ps.map ptU)) S5.D (by omega) (fun M B' z DM hB'=>by
  obtain ⟨b,M',e,D',x'⟩:=Ai6 (ps:=ps) hps hok DM (by omega)
  exact ⟨b,M',Aen (i:=1) (j:=2) rfl rfl e,D',x'⟩) (δ:=[x0,some (.int cell),some (.ref d),some (.ref P),y4,y5,y6,some (.tup (ps.map ptU)),some (.ref pl),x9,x10,x11,x12,x13,x14]) rfl
 have h6:=Vd (i:=9) e6
 simp only[cF,bZ] at h6
 have S6:=S5.ex D6 y6' (by omega)
 have db:=Sb.D.lt
 have d5:=S5.D.lt
 have S7:St [(pl,.lst (qs.map prU)),(bx,.lst (bs.map bxU))] L M6 d P 2 (1642+2 * 13+2 * 27) A m:=⟨S6.D,S6.at_,S6.pd,S6.en,S6.ap,S6.apt,S6.g,S6.dge,S6.pge,S6.nP,S6.Pge,fun q hq=>by
  rcases cB.mp hq with rfl | hq
  ·exact ⟨y6'.get hq5 (by omega),by show pl≠d;omega,nofun⟩
  ·rcases cB.mp hq with rfl | hq
   ·exact ⟨hb6,by show bx≠d;omega,nofun⟩
   ·cases hq⟩
 generalize some (U.tup (ps.map ptU))=y7 at h4 h5 h6
 have hi:E2 (Ac (fC (.int 8)) Ag) [x0,some (.int cell),some (.ref d),some (.ref P),y4,y5,y6,y7,some (.ref pl),some (.ref bx),x10,x11,x12,x13,x14] M6=some (.seq (Cp 0 8),M6):=Ie (n:=8) rfl (by omega)
 obtain ⟨δ',M7,e7,⟨z4,z5,z6,z10,z11,z12,z13,z14,m7,rfl,S8⟩,_⟩:=Nm (us:=Cp 0 8) (body:=P2) (g:=gN 4) (fun j δ' M=>(∃ y4 y5 y6 y10 y11 y12 y13 y14 m,δ'=[x0,some (.int cell),some (.ref d),some (.ref P),y4,y5,y6,y7,some (.ref pl),some (.ref bx),y10,y11,y12,y13,y14]/\St [(pl,.lst (qs.map prU)),(bx,.lst (bs.map bxU))] L M d P 2 (1800+210 * j) A m)/\j<=8) hi ⟨⟨y4,y5,y6,x10,x11,x12,x13,x14,m,rfl,S7.mono (by omega)⟩,by omega⟩
  (fun j u δ' M hu hP=>by
   obtain ⟨⟨y4,y5,y6,y10,y11,y12,y13,y14,m,rfl,SM⟩,hj⟩:=hP
   obtain ⟨hk,rfl⟩:=Gx hu
   obtain ⟨z5,z6,z10,z11,z12,z13,z14,m',M',e,S'⟩:=Ah9 (x0:=x0) (x1:=some (.int cell)) (x4:=some (.int (0+(j:Int)))) (x5:=y5) (x6:=y6) (x7:=y7) (x10:=y10) (x11:=y11) (x12:=y12) (x13:=y13) (x14:=y14) SM (by omega) (by omega) (by omega)
   exact ⟨_,M,rfl,_,M',.inl e,⟨_,_,_,_,_,_,_,_,_,rfl,S'.mono (by omega)⟩,by omega⟩)
 rw[Ia] at S8
 obtain ⟨w12,w13,w14,M8,e8,S9⟩:=Vy (x12:=z12) (x13:=z13) (x14:=z14) (δ:=fun y12 y13 y14=>[x0,some (.int cell),some (.ref d),some (.ref P),z4,z5,z6,y7,some (.ref pl),some (.ref bx),z10,z11,y12,y13,y14]) (body:=Uv) S8 (by omega) (by omega) (fun _=>rfl) (fun _ _ _ _ _ _ _=>rfl) (fun i M B' hi hB' SM=>An7 SM hi (by omega) (by omega) (by omega))
 refine ⟨some (.ref d),some (.ref P),z4,z5,z6,y7,some (.ref pl),some (.ref bx),z10,z11,w12,w13,w14,M8,?_,S9.g⟩
 rw[hv,An h4,An h5,An h6,An e7]
 exact e8
theorem Ae6(ns:List Int)(hl:ns.length<=63):∃ L',Tj [.ref 0] [.ro (ns.map U.int)]=some (.bl true,L'):=by
 obtain ⟨cs,M3,hi,h3⟩:=Ajj ns (δ:=[some (.ref 0),none,none,none,none,none,none,none,none,none,none,none,none,none,none]) (fun _=>rfl)
 obtain ⟨δ5,L5,e5,P5⟩:=T6 (us:=cs.map U.int) (n:=3) (body:=P8) (g:=gN 1) (fun _ δ' L'=>(∃ y1 y2 y3 y4 y5 y6 y7 y8 y9 y10 y11 y12 y13 y14,δ'=[some (.ref 0),y1,y2,y3,y4,y5,y6,y7,y8,y9,y10,y11,y12,y13,y14])/\Gw M3 L') hi ⟨⟨_,_,_,_,_,_,_,_,_,_,_,_,_,_,rfl⟩,Gw.refl _⟩
  (fun k δ L hP=>by
   obtain ⟨_,g⟩:=hP
   exact g.seq h3)
  (fun k u δ M hu hP=>by
   obtain ⟨⟨y1,y2,y3,y4,y5,y6,y7,y8,y9,y10,y11,y12,y13,y14,rfl⟩,g⟩:=hP
   rw[bO] at hu
   obtain ⟨c,_,rfl⟩:=aM.mp hu
   obtain ⟨z2,z3,z4,z5,z6,z7,z8,z9,z10,z11,z12,z13,z14,M',e,gM⟩:=in1 c M (some (.ref 0)) y2 y3 y4 y5 y6 y7 y8 y9 y10 y11 y12 y13 y14
   exact ⟨_,_,rfl,_,M',.inl e,⟨_,_,_,_,_,_,_,_,_,_,_,_,_,_,rfl⟩,g.trans gM⟩)
 obtain ⟨⟨y1,y2,y3,y4,y5,y6,y7,y8,y9,y10,y11,y12,y13,y14,rfl⟩,_⟩:=P5
 refine ⟨L5,?_⟩
 unfold Tj fnU Ait
 simp only[aI,aL,if_true,aO,bK,bE,dD,dB]
 rw[An e5]
 rfl
noncomputable def top(i:Nat):Stmt:=PySem.Challenge.pw_belowpoints_k46_whole_two_kept_points.main.body.getD i (.Pass ⟨0,0,0,0⟩)
noncomputable abbrev Ce:Stmt:=Fg (top 16) 0
theorem Kx:FnScope ["self"] ["self"] (Aj Ce):=⟨rfl,rfl,rfl,by decide +kernel,rfl,by decide +kernel,by decide +kernel⟩
noncomputable abbrev Cz:Stmt:=Fg (top 2) 0
theorem Mw:FnScope ["self","word"] ["self","word"] (Aj Cz):=⟨rfl,rfl,rfl,by decide +kernel,rfl,by decide +kernel,by decide +kernel⟩
noncomputable abbrev B5:Stmt:=Fg (top 16) 1
theorem Fp:FnScope ["self","name","x","y"] ["self","name","x","y"] (Aj B5):=⟨rfl,rfl,rfl,by decide +kernel,rfl,by decide +kernel,by decide +kernel⟩
noncomputable abbrev J0:Stmt:=top 27
theorem Aba:FnScope ["there"] ["there"] (Aj J0):=⟨rfl,rfl,rfl,by decide +kernel,rfl,by decide +kernel,by decide +kernel⟩
noncomputable abbrev Gu:Stmt:=top 32
theorem G2:FnScope ["there","kept","name","x","y"] ["there"] (Aj Gu):=⟨rfl,rfl,rfl,by decide +kernel,rfl,by decide +kernel,by decide +kernel⟩
noncomputable abbrev Jy:Stmt:=top 20
theorem Me:FnScope ["seed","most","found","number"] ["seed","most"] (Aj Jy):=⟨rfl,rfl,rfl,by decide +kernel,rfl,by decide +kernel,by decide +kernel⟩
noncomputable abbrev Gk:Stmt:=top 21
theorem Pb:FnScope ["seed","way","great"] ["seed","way"] (Aj Gk):=⟨rfl,rfl,rfl,by decide +kernel,rfl,by decide +kernel,by decide +kernel⟩
noncomputable abbrev Kf:Stmt:=top 23
theorem Sh:FnScope ["seed","numbers","found"] ["seed","numbers"] (Aj Kf):=⟨rfl,rfl,rfl,by decide +kernel,rfl,by decide +kernel,by decide +kernel⟩
noncomputable abbrev Hq:Stmt:=top 24
theorem Nd:FnScope ["seed","points","xs","ys"] ["seed","points"] (Aj Hq):=⟨rfl,rfl,rfl,by decide +kernel,rfl,by decide +kernel,by decide +kernel⟩
noncomputable abbrev L9:Stmt:=top 25
theorem Ny:FnScope ["seed","points","one","other","low"] ["seed","points"] (Aj L9):=⟨rfl,rfl,rfl,by decide +kernel,rfl,by decide +kernel,by decide +kernel⟩
noncomputable abbrev B8:Stmt:=Fg (top 16) 10
theorem Fv:FnScope ["self","name"] ["self","name"] (Aj B8):=⟨rfl,rfl,rfl,by decide +kernel,rfl,by decide +kernel,by decide +kernel⟩
noncomputable abbrev Bx:Stmt:=Fg (top 16) 3
theorem E7:FnScope ["self","name","x","y"] ["self","name","x","y"] (Aj Bx):=⟨rfl,rfl,rfl,by decide +kernel,rfl,by decide +kernel,by decide +kernel⟩
noncomputable abbrev By:Stmt:=Fg (top 16) 2
theorem E8:FnScope ["self","name"] ["self","name"] (Aj By):=⟨rfl,rfl,rfl,by decide +kernel,rfl,by decide +kernel,by decide +kernel⟩
noncomputable abbrev Jz:Stmt:=top 26
theorem Jt:FnScope ["seed","kept","there","names","name","points","place","way"] ["seed","kept","there","names"] (Aj Jz):=⟨rfl,rfl,rfl,by decide +kernel,rfl,by decide +kernel,by decide +kernel⟩
noncomputable abbrev Gp:Stmt:=top 18
theorem Ir:FnScope ["script","found","cell"] ["script"] (Aj Gp):=⟨rfl,rfl,rfl,by decide +kernel,rfl,by decide +kernel,by decide +kernel⟩
noncomputable abbrev Dz:Stmt:=top 31
theorem C2:FnScope ["seed","kept","there","caught","name","way","e"] ["seed","kept","there"] (Aj Dz):=⟨rfl,rfl,rfl,by decide +kernel,rfl,by decide +kernel,by decide +kernel⟩
noncomputable abbrev Ho:Stmt:=top 14
theorem Xh:FnScope ["point","box"] ["point","box"] (Aj Ho):=⟨rfl,rfl,rfl,by decide +kernel,rfl,by decide +kernel,by decide +kernel⟩
noncomputable abbrev Fs:Stmt:=top 13
theorem Uy:FnScope ["points","box"] ["points","box"] (Aj Fs):=⟨rfl,rfl,rfl,by decide +kernel,rfl,by decide +kernel,by decide +kernel⟩
noncomputable abbrev Gj:Stmt:=top 12
theorem Ve:FnScope ["points","boxes"] ["points","boxes"] (Aj Gj):=⟨rfl,rfl,rfl,by decide +kernel,rfl,by decide +kernel,by decide +kernel⟩
noncomputable abbrev Ey:Stmt:=top 4
theorem R4:FnScope ["one","other"] ["one","other"] (Aj Ey):=⟨rfl,rfl,rfl,by decide +kernel,rfl,by decide +kernel,by decide +kernel⟩
noncomputable abbrev Ew:Stmt:=top 9
theorem Ry:FnScope ["places","place"] ["places","place"] (Aj Ew):=⟨rfl,rfl,rfl,by decide +kernel,rfl,by decide +kernel,by decide +kernel⟩
noncomputable abbrev Gs:Stmt:=top 5
theorem Wg:FnScope ["point"] ["point"] (Aj Gs):=⟨rfl,rfl,rfl,by decide +kernel,rfl,by decide +kernel,by decide +kernel⟩
noncomputable abbrev Er:Stmt:=top 7
theorem Mm:FnScope ["points","places"] ["points"] (Aj Er):=⟨rfl,rfl,rfl,by decide +kernel,rfl,by decide +kernel,by decide +kernel⟩
noncomputable abbrev Dp:Stmt:=top 8
theorem Po:FnScope ["points"] ["points"] (Aj Dp):=⟨rfl,rfl,rfl,by decide +kernel,rfl,by decide +kernel,by decide +kernel⟩
noncomputable abbrev Mh:Stmt:=top 29
theorem Acv:FnScope ["points","way","here"] ["points","way","here"] (Aj Mh):=⟨rfl,rfl,rfl,by decide +kernel,rfl,by decide +kernel,by decide +kernel⟩
noncomputable abbrev Bv:Stmt:=Fg (top 16) 9
theorem Jk:FnScope ["self"] ["self"] (Aj Bv):=⟨rfl,rfl,rfl,by decide +kernel,rfl,by decide +kernel,by decide +kernel⟩
noncomputable abbrev Et:Stmt:=top 10
theorem R5:FnScope ["places","place"] ["places","place"] (Aj Et):=⟨rfl,rfl,rfl,by decide +kernel,rfl,by decide +kernel,by decide +kernel⟩
noncomputable abbrev B3:Stmt:=Fg (top 16) 6
theorem Jq:FnScope ["self","x","y"] ["self","x","y"] (Aj B3):=⟨rfl,rfl,rfl,by decide +kernel,rfl,by decide +kernel,by decide +kernel⟩
noncomputable abbrev B7:Stmt:=Fg (top 16) 5
theorem J9:FnScope ["self","x","y"] ["self","x","y"] (Aj B7):=⟨rfl,rfl,rfl,by decide +kernel,rfl,by decide +kernel,by decide +kernel⟩
noncomputable abbrev Bw:Stmt:=Fg (top 16) 4
theorem Jb:FnScope ["self"] ["self"] (Aj Bw):=⟨rfl,rfl,rfl,by decide +kernel,rfl,by decide +kernel,by decide +kernel⟩
noncomputable abbrev Cj:Stmt:=Fg (top 16) 8
theorem K0:FnScope ["self","box"] ["self","box"] (Aj Cj):=⟨rfl,rfl,rfl,by decide +kernel,rfl,by decide +kernel,by decide +kernel⟩
noncomputable abbrev B4:Stmt:=Fg (top 16) 7
theorem Jp:FnScope ["self"] ["self"] (Aj B4):=⟨rfl,rfl,rfl,by decide +kernel,rfl,by decide +kernel,by decide +kernel⟩
noncomputable abbrev Kd:Stmt:=top 28
theorem Abw:FnScope ["kept","way","here"] ["kept","way","here"] (Aj Kd):=⟨rfl,rfl,rfl,by decide +kernel,rfl,by decide +kernel,by decide +kernel⟩
noncomputable abbrev C8:Stmt:=top 30
theorem Ck:FnScope ["seed","kept","there","places","boxes","some","points","turn","way","here"] ["seed","kept","there","places","boxes"] (Aj C8):=⟨rfl,rfl,rfl,by decide +kernel,rfl,by decide +kernel,by decide +kernel⟩
noncomputable abbrev Hn:Stmt:=top 22
theorem H9:FnScope ["seed","many","letters","spare"] ["seed","many"] (Aj Hn):=⟨rfl,rfl,rfl,by decide +kernel,rfl,by decide +kernel,by decide +kernel⟩
noncomputable abbrev Jo:Stmt:=top 19
theorem Ti:FnScope ["cell","number"] ["cell"] (Aj Jo):=⟨rfl,rfl,rfl,by decide +kernel,rfl,by decide +kernel,by decide +kernel⟩
noncomputable abbrev Ng:Stmt:=top 33
theorem Dj:FnScope ["script","cell","seed","pair","turn","names","deed","points","places","boxes","kept","there","one","own","spare"] ["script"] (Aj Ng):=⟨rfl,rfl,rfl,by decide +kernel,rfl,by decide +kernel,by decide +kernel⟩
set_option genInjectivity false
set_option genSizeOf false
set_option genSizeOfSpec false
structure Defs(K:aC)(mg:Str->Option aE) where
 ua:Addr
 ub:ClsF K "KeptPoints" ua
 uc:Addr
 ud:Addr
 ue:Addr
 uf:bL
 ug:Fun K "__init__" "KeptPoints.__init__" Ce ue uf
 uh:Binds K uf ["self"] []
 ui:Addr
 uj:bL
 uk:Fun K "__init__" "NoName.__init__" Cz ui uj
 ul:Binds K uj ["self","word"] []
 um:Addr
 uo:bL
 uq:Fun K "put_point" "KeptPoints.put_point" B5 um uo
 ur:Binds K uo ["self","name","x","y"] []
 ut:Meth K ua "put_point" um
 uu:Addr
 uv:bL
 uw:Fun K "_law_rows" "_law_rows" J0 uu uv
 ux:Binds K uv ["there"] []
 uy:mg "_law_rows" = some (.ref uu)
 uz:Addr
 uA:bL
 uB:Fun K "_law_afresh" "_law_afresh" Gu uz uA
 uC:Binds K uA ["there"] []
 uD:mg "_law_afresh" = some (.ref uz)
 uE:Addr
 uF:bL
 uG:Fun K "_law_draw" "_law_draw" Jy uE uF
 uH:Binds K uF ["seed","most"] []
 uI:mg "_law_draw" = some (.ref uE)
 uJ:Addr
 uK:bL
 uL:Fun K "_law_number" "_law_number" Gk uJ uK
 uM:Binds K uK ["seed","way"] []
 uN:mg "_law_number" = some (.ref uJ)
 uO:Addr
 uP:bL
 uQ:Fun K "_law_near" "_law_near" Kf uO uP
 uR:Binds K uP ["seed","numbers"] []
 uS:mg "_law_near" = some (.ref uO)
 uT:Addr
 uU:bL
 uV:Fun K "_law_place" "_law_place" Hq uT uU
 uW:Binds K uU ["seed","points"] []
 uX:mg "_law_place" = some (.ref uT)
 uY:Addr
 uZ:bL
 u4:Fun K "_law_box" "_law_box" L9 uY uZ
 u5:Binds K uZ ["seed","points"] []
 u6:mg "_law_box" = some (.ref uY)
 u7:Addr
 u8:bL
 u9:Fun K "need_name" "KeptPoints.need_name" B8 u7 u8
 va:Binds K u8 ["self","name"] []
 vb:Meth K ua "need_name" u7
 vc:Addr
 vd:bL
 ve:Fun K "move_point" "KeptPoints.move_point" Bx vc vd
 vf:Binds K vd ["self","name","x","y"] []
 vg:Meth K ua "move_point" vc
 vh:Addr
 vi:bL
 vj:Fun K "take_point" "KeptPoints.take_point" By vh vi
 vk:Binds K vi ["self","name"] []
 vm:Meth K ua "take_point" vh
 vn:Addr
 vo:bL
 vp:Fun K "_law_deed" "_law_deed" Jz vn vo
 vq:Binds K vo ["seed","kept","there","names"] []
 vt:mg "_law_deed" = some (.ref vn)
 vv:Addr
 vw:bL
 vy:Fun K "_law_folded" "_law_folded" Gp vv vw
 vz:Binds K vw ["script"] []
 vA:mg "_law_folded" = some (.ref vv)
 vB:Addr
 vC:bL
 vD:Fun K "_law_is_refused" "_law_is_refused" Dz vB vC
 vE:Binds K vC ["seed","kept","there"] []
 vF:mg "_law_is_refused" = some (.ref vB)
 vG:Addr
 vH:bL
 vI:Fun K "is_held" "is_held" Ho vG vH
 vJ:Binds K vH ["point","box"] []
 vK:mg "is_held" = some (.ref vG)
 vL:Addr
 vM:bL
 vN:Fun K "points_in" "points_in" Fs vL vM
 vO:Binds K vM ["points","box"] []
 vP:mg "points_in" = some (.ref vL)
 vQ:Addr
 vR:bL
 vS:Fun K "in_boxes" "in_boxes" Gj vQ vR
 vT:Binds K vR ["points","boxes"] []
 vU:mg "in_boxes" = some (.ref vQ)
 vV:Addr
 vW:bL
 vX:Fun K "lies_below" "lies_below" Ey vV vW
 vY:Binds K vW ["one","other"] []
 vZ:mg "lies_below" = some (.ref vV)
 v8:Addr
 v9:bL
 wc:Fun K "many_below" "many_below" Ew v8 v9
 wd:Binds K v9 ["places","place"] []
 we:mg "many_below" = some (.ref v8)
 wf:Addr
 wg:bL
 wj:Fun K "place_of" "place_of" Gs wf wg
 wk:Binds K wg ["point"] []
 wl:mg "place_of" = some (.ref wf)
 wm:Addr
 wn:bL
 wo:Fun K "below_each" "below_each" Er wm wn
 wq:Binds K wn ["points"] []
 wt:mg "below_each" = some (.ref wm)
 wu:Addr
 wv:bL
 ww:Fun K "pairs_in_all" "pairs_in_all" Dp wu wv
 wx:Binds K wv ["points"] []
 wy:mg "pairs_in_all" = some (.ref wu)
 wz:Addr
 wA:bL
 wB:Fun K "_law_due" "_law_due" Mh wz wA
 wC:Binds K wA ["points","way","here"] []
 wD:mg "_law_due" = some (.ref wz)
 wE:Addr
 wF:bL
 wG:Fun K "places_now" "KeptPoints.places_now" Bv wE wF
 wH:Binds K wF ["self"] []
 wI:Meth K ua "places_now" wE
 wJ:Addr
 wK:bL
 wL:Fun K "many_above" "many_above" Et wJ wK
 wM:Binds K wK ["places","place"] []
 wN:mg "many_above" = some (.ref wJ)
 wO:Addr
 wP:bL
 wQ:Fun K "above_now" "KeptPoints.above_now" B3 wO wP
 wR:Binds K wP ["self","x","y"] []
 wS:Meth K ua "above_now" wO
 wT:Addr
 wU:bL
 wV:Fun K "below_now" "KeptPoints.below_now" B7 wT wU
 wW:Binds K wU ["self","x","y"] []
 wX:Meth K ua "below_now" wT
 wY:Addr
 wZ:bL
 w4:Fun K "points_now" "KeptPoints.points_now" Bw wY wZ
 w5:Binds K wZ ["self"] []
 w6:Meth K ua "points_now" wY
 w9:Addr
 xa:bL
 xf:Fun K "box_now" "KeptPoints.box_now" Cj w9 xa
 xg:Binds K xa ["self","box"] []
 xh:Meth K ua "box_now" w9
 xi:Addr
 xj:bL
 xk:Fun K "pairs_now" "KeptPoints.pairs_now" B4 xi xj
 xm:Binds K xj ["self"] []
 xn:Meth K ua "pairs_now" xi
 xo:Addr
 xp:bL
 xq:Fun K "_law_told" "_law_told" Kd xo xp
 xu:Binds K xp ["kept","way","here"] []
 xw:mg "_law_told" = some (.ref xo)
 xx:Addr
 xy:bL
 xz:Fun K "_law_looked_right" "_law_looked_right" C8 xx xy
 xA:Binds K xy ["seed","kept","there","places","boxes"] []
 xB:mg "_law_looked_right" = some (.ref xx)
 xC:Addr
 xD:bL
 xE:Fun K "_law_names" "_law_names" Hn xC xD
 xF:Binds K xD ["seed","many"] []
 xG:mg "_law_names" = some (.ref xC)
 xH:Addr
 xI:bL
 xJ:Fun K "_law_seed" "_law_seed" Jo xH xI
 xK:Binds K xI ["cell"] []
 xL:mg "_law_seed" = some (.ref xH)
 xN:Addr
 xO:bL
 xP:Fun K "law" "law" Ng xN xO
 xQ:Binds K xO ["script"] []
 xR:mg "law" = some (.ref xN)
 xS:Mk K ua ue
 xT:mg "KeptPoints" = some (.ref ua)
 xU:aS K aP "BelowError" = some (some (.ref uc))
 xV:mg "BelowError" = some (.ref uc)
 xW:aS K aP "NoName" = some (some (.ref ud))
 xX:mg "NoName" = some (.ref ud)
 xY:MkX K ud ui
 xZ:BInit K uc
 ya:W4 K ["NoName"] ["BelowError","NoName","ValueError"]=true
 yb:Afd K ["NoName"] "word" = true
 yc:NoAttr K ua "points"
 yd:mg "all" = none
 ye:mg "int" = none
 yf:mg "len" = none
 yg:mg "list" = none
 yh:mg "max" = none
 yi:mg "min" = none
 yj:mg "range" = none
 yk:mg "sum" = none
 yl:mg "tuple" = none
 ym:mg "zip" = none
section
variable {P:bP}{w:cE}{K:aC}{mg:Str->Option aE}{base:Heap}
theorem Gb(C:Defs K mg):FnOk P w K mg base CX0 1 C.ue C.uf ["self"] (spF K 1 Bb):=by
 refine Fun.okF (N:=["self"]) C.ug Kx (fun cdv A outer s H E hr=>?_)
 have hu:=hr.units
 exact (Am (Ahx C.ub C.yc (Ah 0) Us))
theorem Hy(C:Defs K mg):FnOk P w K mg base CX0 1 C.ui C.uj ["self","word"] (spF K 2 Cw):=by
 refine Fun.okF (N:=["self","word"]) C.uk Mw (fun cdv A outer s H E hr=>?_)
 have hu:=hr.units
 refine Ak ?s0 ?t0
 case s0=>exact (De (Adw (AllX.of C.ya) C.xZ (by rfl) C.xV (Ad (Ah 0) (Ad (Ab0 (.cons Dd (.cons (Afy (Ah 1)) (.cons Dd .nil)))) Af))))
 exact (Am (Acz C.ya C.yb (Ah 0) (Ah 1)))
theorem Dq(C:Defs K mg):FnOk P w K mg base CX0 1 C.um C.uo ["self","name","x","y"] (spF K 4 Bh):=by
 refine Fun.okF (N:=["self","name","x","y"]) C.uq Fp (fun cdv A outer s H E hr=>?_)
 have hu:=hr.units
 refine Ak ?s0 ?t0
 case s0=>exact (Cu (Bo (U8 hu) P0 (Ah 1) (Kh C.ub C.yc (Ah 0)) (by with_unfolding_all rfl)) (Am Su) Co)
 exact (Am (N0 hu (Kh C.ub C.yc (Ah 0)) (Ah 1) (Dc (Ad (Ah 1) (Ad (Ah 2) (Ad (Ah 3) Af))))))
theorem Iz(C:Defs K mg):FnX P w K mg base 3 C.um C.uo ["self","name","x","y"] D8:=by
 refine Fun.okX (N:=["self","name","x","y"]) C.uq Fp (fun cdv A outer s H E hr=>?_)
 have hu:=hr.units
 exact (Ol (Yw (Bo (U8 hu) P0 (Ah 1) (Kh C.ub C.yc (Ah 0)) (by with_unfolding_all rfl)) (Iq (Vv (AllX.of C.ya) (Wa C.xW C.xY (Hy C) (hr.mono (by decide)) (by rfl) C.xX C.ul (Ad (Ah 1) Af)))) Ae4))
theorem Md(C:Defs K mg):FnOk P w K mg base CX0 1 C.uu C.uv ["there"] (spF K 1 Dw):=by
 refine Fun.okF (N:=["there"]) C.uw Aba (fun cdv A outer s H E hr=>?_)
 have hu:=hr.units
 exact (Am (Au (Ez Ej Hm (by rfl) C.yl (by decide +kernel) (Ad (Uz (Dm (N':=["name","place"]) (ix:=[none,none]) ⟨rfl,rfl,rfl,rfl,rfl,rfl⟩ rfl (Tp (Ah 0) ⟨rfl,rfl,rfl,rfl⟩) (fun _ _ _ _ _ _=>(Gz rfl (Av (Ap (i:=0) (show bW (α:=Str) ["name","place"] by decide +kernel)) (Av (Ap (i:=1) (show bW (α:=Str) ["name","place"] by decide +kernel)) Ec)))) (fun _ _ _ _ _ _=>(Bp C1 C0 (Dc (Ad (Ah 0) Af)) (Ah 1))))) Af))))
theorem Vk(C:Defs K mg):FnOk P w K mg base CX0 3 C.uz C.uA ["there"] (spF K 1 Kn):=by
 refine Fun.okF (N:=["there","kept","name","x","y"]) C.uB G2 (fun cdv A outer s H E hr=>?_)
 have hu:=hr.units
 refine Ak ?s0 ?t0
 case s0=>exact (Bg (i:=1) (by exact G2.nd) (Wl C.ub.ns C.xS (Gb C) (hr.mono (by decide)) (by rfl) C.xT C.uh))
 refine Ak ?s1 ?t1
 case s1=>exact (Gy dO rfl (Df (Aq (Md C) (hr.mono (by decide)) (by rfl) C.uy C.uw.kp C.ux (Ad (Ah 0) Af))) (Gz rfl (Av (Ap (i:=2) (by exact G2.nd)) (Av (Ap (i:=3) (by exact G2.nd)) (Av (Ap (i:=4) (by exact G2.nd)) Ec)))) (Am (De (Fh C.ub C.ut (Dq C) (hr.mono (by decide)) C.ur (Ah 1) (Ad (Ah 2) (Ad (Ah 3) (Ad (Ah 4) Af)))))))
 exact (Am (Au (Ah 1)))
theorem Bc(C:Defs K mg):FnOk P w K mg base CX0 1 C.uE C.uF ["seed","most"] (spF K 2 Al):=by
 refine Fun.okF (N:=["seed","most","found","number"]) C.uG Me (fun cdv A outer s H E hr=>?_)
 have hu:=hr.units
 refine Ak ?s0 ?t0
 case s0=>exact (P7 (Bp C1 C0 (Bs A7 A8 (Ah 0) Ai (fun _ _=>rfl)) Ai) (Yk (Ah 0) Ai))
 refine Ak ?s1 ?t1
 case s1=>exact (Cu (PWF.pt (P1 (Bo (Dk hu) Dl (Bs A7 A8 (Ah 0) Ai (fun _ _=>rfl)) Ai (Cg _)) (Nr (Bo Ami Ajw (Bs A7 A8 (Ah 0) Ai (fun _ _=>rfl)) Ai (Cg _))))) (Ak (Bg (i:=2) (by exact Me.nd) (Bp K9 Ii (Bs A7 A8 (Ah 0) Ai (fun _ _=>rfl)) (Ah 1))) (Ak (P7 (Bp Vh Yo (Bs A7 A8 (Ah 0) Ai (fun _ _=>rfl)) (Ah 1)) (Yk (Ah 0) Ai)) (Am (Au (Ah 2))))) Co)
 refine Ak ?s2 ?t2
 case s2=>exact (Bg (i:=3) (by exact Me.nd) (Bp K9 Ii (Bp Km Kg (Bp C1 C0 (Bp C1 C0 (Bs A7 A8 (Ah 0) Ai (fun _ _=>rfl)) (Bp Km Kg Ai (Bs A7 A8 (Ah 0) Ai (fun _ _=>rfl)))) Ai) Ai) Ai))
 refine Ak ?s3 ?t3
 case s3=>exact (Bg (i:=3) (by exact Me.nd) (Bp K9 Ii (Bp Km Kg (Bp K9 Ii (Bp Km Kg (Ah 3) (Ah 3)) Ai) Ai) Ai))
 exact (Am (Au (Bp K9 Ii (Bp Vh Yo (Ah 3) Ai) (Ah 1))))
theorem Wn(C:Defs K mg):FnOk P w K mg base CX0 2 C.uJ C.uK ["seed","way"] (spF K 2 Eo):=by
 refine Fun.okF (N:=["seed","way","great"]) C.uL Pb (fun cdv A outer s H E hr=>?_)
 have hu:=hr.units
 refine Ak ?s0 ?t0
 case s0=>exact (Cu (Bo (Dk hu) Dl (Ah 1) Ai (Cg _)) (Am (Au (Bp Mt Ki (Aq (Bc C) (hr.mono (by decide)) (by rfl) C.uI C.uG.kp C.uH (Ad (Ah 0) (Ad Ai Af))) Ai))) Co)
 refine Ak ?s1 ?t1
 case s1=>exact (Cu (Bo (Dk hu) Dl (Ah 1) Ai (Cg _)) (Am (Au (Bp Mt Ki (Aq (Bc C) (hr.mono (by decide)) (by rfl) C.uI C.uG.kp C.uH (Ad (Ah 0) (Ad Ai Af))) Ai))) Co)
 refine Ak ?s2 ?t2
 case s2=>exact (Bg (i:=2) (by exact Pb.nd) (Bs A7 A8 (Hu (Ad (Bp C1 C0 (Bp Km Kg (Aq (Bc C) (hr.mono (by decide)) (by rfl) C.uI C.uG.kp C.uH (Ad (Ah 0) (Ad (Bp M9 Kq Ai Ai) Af))) (Bp M9 Kq Ai Ai)) (Aq (Bc C) (hr.mono (by decide)) (by rfl) C.uI C.uG.kp C.uH (Ad (Ah 0) (Ad (Bp M9 Kq Ai Ai) Af)))) (Ad (Bp Mt Ki (Bp M9 Kq Ai Ai) Ai) Af))) (Ez Tb Aab (by rfl) C.ye (by decide +kernel) (Ad (Oi (Dk hu) Dl (Aq (Bc C) (hr.mono (by decide)) (by rfl) C.uI C.uG.kp C.uH (Ad (Ah 0) (Ad Ai Af))) Ai (Cg _)) Af)) (fun _ _=>rfl)))
 exact (Am (Au (Bp Km Kg (Bs A7 A8 (Hu (Ad Ai (Ad (Ajk Ai) Af))) (Aq (Bc C) (hr.mono (by decide)) (by rfl) C.uI C.uG.kp C.uH (Ad (Ah 0) (Ad Ai Af))) (fun _ _=>rfl)) (Ah 2))))
theorem Td(C:Defs K mg):FnOk P w K mg base CX0 3 C.uO C.uP ["seed","numbers"] (spF K 2 Ga):=by
 refine Fun.okF (N:=["seed","numbers","found"]) C.uQ Sh (fun cdv A outer s H E hr=>?_)
 have hu:=hr.units
 refine Ak ?s0 ?t0
 case s0=>exact (Cu (PWF.pt (Akg (Bo (Dk hu) Dl (Ah 1) (Dc Af) (Cg _)) (Aie (Bo (Dk hu) Dl (Aq (Bc C) (hr.mono (by decide)) (by rfl) C.uI C.uG.kp C.uH (Ad (Ah 0) (Ad Ai Af))) Ai (Cg _))))) (Am (Au (Aq (Wn C) (hr.mono (by decide)) (by rfl) C.uN C.uL.kp C.uM (Ad (Ah 0) (Ad (Aq (Bc C) (hr.mono (by decide)) (by rfl) C.uI C.uG.kp C.uH (Ad (Ah 0) (Ad Ai Af))) Af))))) Co)
 refine Ak ?s1 ?t1
 case s1=>exact (Bg (i:=2) (by exact Sh.nd) (Bp Mt Ki (Bp C1 C0 (Bs A7 A8 (Ah 1) (Aq (Bc C) (hr.mono (by decide)) (by rfl) C.uI C.uG.kp C.uH (Ad (Ah 0) (Ad (B9 Ee Fi (by rfl) C.yf cX (Ad (Ah 1) Af)) Af))) (fun _ _=>rfl)) (Aq (Bc C) (hr.mono (by decide)) (by rfl) C.uI C.uG.kp C.uH (Ad (Ah 0) (Ad Ai Af)))) Ai))
 exact (Am (Au (B9 (Ly rfl) P9 (by rfl) C.yh fQ (Ad (Bp Mt Ki Ai (Bp M9 Kq Ai Ai)) (Ad (B9 (Om rfl) T4 (by rfl) C.yi iH (Ad (Bp Mt Ki (Bp M9 Kq Ai Ai) Ai) (Ad (Ah 2) Af))) Af)))))
theorem Kk(C:Defs K mg):FnOk P w K mg base CX0 4 C.uT C.uU ["seed","points"] (spF K 2 Eh):=by
 refine Fun.okF (N:=["seed","points","xs","ys"]) C.uV Nd (fun cdv A outer s H E hr=>?_)
 have hu:=hr.units
 refine Ak ?s0 ?t0
 case s0=>exact (Cu (PWF.pt (P1 (Bo (Xk hu) X3 (Ah 1) (Dc Af) (Cg _)) (Nr (Bo (Dk hu) Dl (Aq (Bc C) (hr.mono (by decide)) (by rfl) C.uI C.uG.kp C.uH (Ad (Ah 0) (Ad Ai Af))) Ai (Cg _))))) (Am (Au (Ws Ad9 Ad1 (Bs A7 A8 (Ah 1) (Aq (Bc C) (hr.mono (by decide)) (by rfl) C.uI C.uG.kp C.uH (Ad (Ah 0) (Ad (B9 Ee Fi (by rfl) C.yf cX (Ad (Ah 1) Af)) Af))) (fun _ _=>rfl)) (Vm Ai) Vp))) Co)
 refine Ak ?s1 ?t1
 case s1=>exact (Bg (i:=2) (by exact Nd.nd) (Ez Ej Hm (by rfl) C.yl (by decide +kernel) (Ad (Dm (N':=["name","x","y"]) (ix:=[none,none,none]) ⟨rfl,rfl,rfl,rfl,rfl,rfl⟩ rfl (Df (Ah 1)) (fun _ _ _ _ _ _=>(Gz rfl (Av (Ap (i:=0) (show bW (α:=Str) ["name","x","y"] by decide +kernel)) (Av (Ap (i:=1) (show bW (α:=Str) ["name","x","y"] by decide +kernel)) (Av (Ap (i:=2) (show bW (α:=Str) ["name","x","y"] by decide +kernel)) Ec))))) (fun _ _ _ _ _ _=>(Ah 1))) Af)))
 refine Ak ?s2 ?t2
 case s2=>exact (Bg (i:=3) (by exact Nd.nd) (Ez Ej Hm (by rfl) C.yl (by decide +kernel) (Ad (Dm (N':=["name","x","y"]) (ix:=[none,none,none]) ⟨rfl,rfl,rfl,rfl,rfl,rfl⟩ rfl (Df (Ah 1)) (fun _ _ _ _ _ _=>(Gz rfl (Av (Ap (i:=0) (show bW (α:=Str) ["name","x","y"] by decide +kernel)) (Av (Ap (i:=1) (show bW (α:=Str) ["name","x","y"] by decide +kernel)) (Av (Ap (i:=2) (show bW (α:=Str) ["name","x","y"] by decide +kernel)) Ec))))) (fun _ _ _ _ _ _=>(Ah 2))) Af)))
 exact (Am (Au (Dc (Ad (Aq (Td C) (hr.mono (by decide)) (by rfl) C.uS C.uQ.kp C.uR (Ad (Ah 0) (Ad (Ah 2) Af))) (Ad (Aq (Td C) (hr.mono (by decide)) (by rfl) C.uS C.uQ.kp C.uR (Ad (Ah 0) (Ad (Ah 3) Af))) Af)))))
theorem Afj(C:Defs K mg):FnOk P w K mg base CX0 5 C.uY C.uZ ["seed","points"] (spF K 2 Py):=by
 refine Fun.okF (N:=["seed","points","one","other","low"]) C.u4 Ny (fun cdv A outer s H E hr=>?_)
 have hu:=hr.units
 refine Ak ?s0 ?t0
 case s0=>exact (Bg (i:=2) (by exact Ny.nd) (Aq (Kk C) (hr.mono (by decide)) (by rfl) C.uX C.uV.kp C.uW (Ad (Ah 0) (Ad (Ah 1) Af))))
 refine Ak ?s1 ?t1
 case s1=>exact (Bg (i:=3) (by exact Ny.nd) (Aq (Kk C) (hr.mono (by decide)) (by rfl) C.uX C.uV.kp C.uW (Ad (Ah 0) (Ad (Ah 1) Af))))
 refine Ak ?s2 ?t2
 case s2=>exact (Cu (Bo (Dk hu) Dl (Aq (Bc C) (hr.mono (by decide)) (by rfl) C.uI C.uG.kp C.uH (Ad (Ah 0) (Ad Ai Af))) Ai (Cg _)) (Am (Au (Bp C1 C0 (Ah 2) (Ah 3)))) Co)
 refine Ak ?s3 ?t3
 case s3=>exact (Bg (i:=4) (by exact Ny.nd) (Dc (Ad (B9 (Om rfl) T4 (by rfl) C.yi iH (Ad (Bs A7 A8 (Ah 2) Ai (fun _ _=>rfl)) (Ad (Bs A7 A8 (Ah 3) Ai (fun _ _=>rfl)) Af))) (Ad (B9 (Om rfl) T4 (by rfl) C.yi iH (Ad (Bs A7 A8 (Ah 2) Ai (fun _ _=>rfl)) (Ad (Bs A7 A8 (Ah 3) Ai (fun _ _=>rfl)) Af))) Af))))
 exact (Am (Au (Bp C1 C0 (Ah 4) (Dc (Ad (B9 (Ly rfl) P9 (by rfl) C.yh fQ (Ad (Bs A7 A8 (Ah 2) Ai (fun _ _=>rfl)) (Ad (Bs A7 A8 (Ah 3) Ai (fun _ _=>rfl)) Af))) (Ad (B9 (Ly rfl) P9 (by rfl) C.yh fQ (Ad (Bs A7 A8 (Ah 2) Ai (fun _ _=>rfl)) (Ad (Bs A7 A8 (Ah 3) Ai (fun _ _=>rfl)) Af))) Af))))))
theorem Fu(C:Defs K mg):FnOk P w K mg base CX0 1 C.u7 C.u8 ["self","name"] (spF K 2 B6):=by
 refine Fun.okF (N:=["self","name"]) C.u9 Fv (fun cdv A outer s H E hr=>?_)
 have hu:=hr.units
 exact (Am (Cu (Bo (Oh hu) Nc (Ah 1) (Kh C.ub C.yc (Ah 0)) (by with_unfolding_all rfl)) (Am Su) Co))
theorem Fd(C:Defs K mg):FnX P w K mg base 3 C.u7 C.u8 ["self","name"] C4:=by
 refine Fun.okX (N:=["self","name"]) C.u9 Fv (fun cdv A outer s H E hr=>?_)
 have hu:=hr.units
 exact (Iq (Yw (Bo (Oh hu) Nc (Ah 1) (Kh C.ub C.yc (Ah 0)) (by with_unfolding_all rfl)) (Iq (Vv (AllX.of C.ya) (Wa C.xW C.xY (Hy C) (hr.mono (by decide)) (by rfl) C.xX C.ul (Ad (Ah 1) Af)))) Ae4))
theorem Fe(C:Defs K mg):FnOk P w K mg base CX0 2 C.vc C.vd ["self","name","x","y"] (spF K 4 B0):=by
 refine Fun.okF (N:=["self","name","x","y"]) C.ve E7 (fun cdv A outer s H E hr=>?_)
 have hu:=hr.units
 refine Ak ?s0 ?t0
 case s0=>exact (De (Fh C.ub C.vb (Fu C) (hr.mono (by decide)) C.va (Ah 0) (Ad (Ah 1) Af)))
 exact (Am (N0 hu (Kh C.ub C.yc (Ah 0)) (Ah 1) (Dc (Ad (Ah 1) (Ad (Ah 2) (Ad (Ah 3) Af))))))
theorem Ig(C:Defs K mg):FnX P w K mg base 4 C.vc C.vd ["self","name","x","y"] Dx:=by
 refine Fun.okX (N:=["self","name","x","y"]) C.ve E7 (fun cdv A outer s H E hr=>?_)
 have hu:=hr.units
 exact (Ol (N9 (Nf C.ub C.vb (Fd C) (hr.mono (by decide)) C.va (Ah 0) (Ad (Ah 1) Af))))
theorem Fb(C:Defs K mg):FnOk P w K mg base CX0 2 C.vh C.vi ["self","name"] (spF K 2 Bl):=by
 refine Fun.okF (N:=["self","name"]) C.vj E8 (fun cdv A outer s H E hr=>?_)
 have hu:=hr.units
 refine Ak ?s0 ?t0
 case s0=>exact (De (Fh C.ub C.vb (Fu C) (hr.mono (by decide)) C.va (Ah 0) (Ad (Ah 1) Af)))
 exact (Am (De (Aau (Kh C.ub C.yc (Ah 0)) (Ah 1) ⟨rfl,rfl,rfl,rfl⟩)))
theorem Ih(C:Defs K mg):FnX P w K mg base 4 C.vh C.vi ["self","name"] D7:=by
 refine Fun.okX (N:=["self","name"]) C.vj E8 (fun cdv A outer s H E hr=>?_)
 have hu:=hr.units
 exact (Ol (N9 (Nf C.ub C.vb (Fd C) (hr.mono (by decide)) C.va (Ah 0) (Ad (Ah 1) Af))))
theorem Sm(C:Defs K mg):FnOk P w K mg base CX0 5 C.vn C.vo ["seed","kept","there","names"] (spF K 4 Hv):=by
 refine Fun.okF (N:=["seed","kept","there","names","name","points","place","way"]) C.vp Jt (fun cdv A outer s H E hr=>?_)
 have hu:=hr.units
 refine Ak ?s0 ?t0
 case s0=>exact (Bg (i:=4) (by exact Jt.nd) (Bs A7 A8 (Ah 3) (Aq (Bc C) (hr.mono (by decide)) (by rfl) C.uI C.uG.kp C.uH (Ad (Ah 0) (Ad (B9 Ee Fi (by rfl) C.yf cX (Ad (Ah 3) Af)) Af))) (fun _ _=>rfl)))
 refine Ak ?s1 ?t1
 case s1=>exact (Bg (i:=5) (by exact Jt.nd) (Ez Ej Hm (by rfl) C.yl (by decide +kernel) (Ad (Uz (Dm (N':=["one","place"]) (ix:=[none,none]) ⟨rfl,rfl,rfl,rfl,rfl,rfl⟩ rfl (Tp (Ah 2) ⟨rfl,rfl,rfl,rfl⟩) (fun _ _ _ _ _ _=>(Gz rfl (Av (Ap (i:=0) (show bW (α:=Str) ["one","place"] by decide +kernel)) (Av (Ap (i:=1) (show bW (α:=Str) ["one","place"] by decide +kernel)) Ec)))) (fun _ _ _ _ _ _=>(Bp C1 C0 (Dc (Ad (Ah 0) Af)) (Ah 1))))) Af)))
 refine Ak ?s2 ?t2
 case s2=>exact (Bg (i:=6) (by exact Jt.nd) (Aq (Kk C) (hr.mono (by decide)) (by rfl) C.uX C.uV.kp C.uW (Ad (Ah 0) (Ad (Ah 5) Af))))
 refine Ak ?s3 ?t3
 case s3=>exact (Bg (i:=7) (by exact Jt.nd) (Aq (Bc C) (hr.mono (by decide)) (by rfl) C.uI C.uG.kp C.uH (Ad (Ah 0) (Ad Ai Af))))
 exact (Am (Cu (Bo (Oh hu) Nc (Ah 4) (Ah 2) (by with_unfolding_all rfl)) (Ak (De (Fh C.ub C.ut (Dq C) (hr.mono (by decide)) C.ur (Ah 1) (Ad (Ah 4) (Ad (Bs A7 A8 (Ah 6) Ai (fun _ _=>rfl)) (Ad (Bs A7 A8 (Ah 6) Ai (fun _ _=>rfl)) Af))))) (Am (N0 hu (Ah 2) (Ah 4) (Ah 6)))) (Am (Cu (Bo Ai2 Afn (Ah 7) Ai (Cg _)) (Ak (De (Fh C.ub C.vm (Fb C) (hr.mono (by decide)) C.vk (Ah 1) (Ad (Ah 4) Af))) (Am (De (Aau (Ah 2) (Ah 4) ⟨rfl,rfl,rfl,rfl⟩)))) (Am (Cu (Bo Ai2 Afn (Ah 7) Ai (Cg _)) (Ak (De (Fh C.ub C.vg (Fe C) (hr.mono (by decide)) C.vf (Ah 1) (Ad (Ah 4) (Ad (Bs A7 A8 (Ah 6) Ai (fun _ _=>rfl)) (Ad (Bs A7 A8 (Ah 6) Ai (fun _ _=>rfl)) Af))))) (Am (N0 hu (Ah 2) (Ah 4) (Ah 6)))) Co))))))
theorem Wm(C:Defs K mg):FnOk P w K mg base CX0 1 C.vv C.vw ["script"] (spF K 1 Gm):=by
 refine Fun.okF (N:=["script","found","cell"]) C.vy Ir (fun cdv A outer s H E hr=>?_)
 have hu:=hr.units
 refine Ak ?s0 ?t0
 case s0=>exact (Bg (i:=1) (by exact Ir.nd) (B9 Ee Fi (by rfl) C.yf cX (Ad (Ah 0) Af)))
 refine Ak ?s1 ?t1
 case s1=>exact (Gy dO rfl (Df (Ah 0)) (Ap (i:=2) (by exact Ir.nd)) (Am (Bg (i:=1) (by exact Ir.nd) (Bp K9 Ii (Bp C1 C0 (Bp Km Kg (Ah 1) Ai) (Bp K9 Ii (Ah 2) Ai)) Ai))))
 exact (Am (Au (Ah 1)))
theorem Pu(C:Defs K mg):FnOk P w K mg base CX0 5 C.vB C.vC ["seed","kept","there"] (spF K 3 Ep):=by
 refine Fun.okF (N:=["seed","kept","there","caught","name","way","e"]) C.vD C2 (fun cdv A outer s H E hr=>?_)
 have hu:=hr.units
 refine Ak ?s0 ?t0
 case s0=>exact (Bg (i:=3) (by exact C2.nd) Afs)
 refine Ak ?s1 ?t1
 case s1=>exact (Bg (i:=4) (by exact C2.nd) Dd)
 refine Ak ?s2 ?t2
 case s2=>exact (Bg (i:=5) (by exact C2.nd) (Aq (Bc C) (hr.mono (by decide)) (by rfl) C.uI C.uG.kp C.uH (Ad (Ah 0) (Ad Ai Af))))
 refine Ak ?s3 ?t3
 case s3=>exact (Cu (PWF.pt (P1 (Bo (Akh hu) Ag0 (Ah 2) Us (Cg _)) (Nr (Bo (Dk hu) Dl (Ah 5) Ai (Cg _))))) (Am (Bg (i:=4) (by exact C2.nd) (Bs A7 A8 (Ez (Ya rfl) Ab2 (by rfl) C.yg (by decide +kernel) (Ad (Ah 2) Af)) (Aq (Bc C) (hr.mono (by decide)) (by rfl) C.uI C.uG.kp C.uH (Ad (Ah 0) (Ad (B9 Abh Ad0 (by rfl) C.yf cX (Ad (Ah 2) Af)) Af))) (fun _ _=>rfl)))) Co)
 refine Ak ?s4 ?t4
 case s4=>exact (Ags (i:=6) (AllM.sub C.ya (by decide) (by decide) C.xW (by decide)) (by exact C2.nd) (Am (Cu (Bo (U8 hu) P0 (Ah 4) (Ah 2) (by with_unfolding_all rfl)) (Am (De (Fh C.ub C.ut (Dq C) (hr.mono (by decide)) C.ur (Ah 1) (Ad (Ah 4) (Ad Ai (Ad Ai Af)))))) (Am (Cu (Bo (Dk hu) Dl (Ah 5) Ai (Cg _)) (Am (De (Fh C.ub C.vg (Fe C) (hr.mono (by decide)) C.vf (Ah 1) (Ad (Ah 4) (Ad Ai (Ad Ai Af)))))) (Am (De (Fh C.ub C.vm (Fb C) (hr.mono (by decide)) C.vk (Ah 1) (Ad (Ah 4) Af)))))))) (Iq (Yw (Bo (U8 hu) P0 (Ah 4) (Ah 2) (by with_unfolding_all rfl)) (Iq (N9 (Nf C.ub C.ut (Iz C) (hr.mono (by decide)) C.ur (Ah 1) (Ad (Ah 4) (Ad Ai (Ad Ai Af)))))) (Iq (Yw (Bo (Dk hu) Dl (Ah 5) Ai (Cg _)) (Iq (N9 (Nf C.ub C.vg (Ig C) (hr.mono (by decide)) C.vf (Ah 1) (Ad (Ah 4) (Ad Ai (Ad Ai Af)))))) (Iq (N9 (Nf C.ub C.vm (Ih C) (hr.mono (by decide)) C.vk (Ah 1) (Ad (Ah 4) Af)))))))) (fun _=>(Am (Bg (i:=3) (by exact C2.nd) (Ah 6)))) (by rfl) C.xX)
 exact (Am (Au (Xi (Oi Agw Afx (Ah 3) Afs (Cg _)) (Ww (Oi (Dk hu) Dl (Aht C.ya C.yb (Ah 3)) (Ah 4) (Cg _))))))
theorem Xp(C:Defs K mg):FnOk P w K mg base CX0 1 C.vG C.vH ["point","box"] (spF K 2 Mf):=by
 refine Fun.okF (N:=["point","box"]) C.vI Xh (fun cdv A outer s H E hr=>?_)
 have hu:=hr.units
 exact (Am (Au (Xi (We Vc Vc Qw Qw (Bs A7 A8 (Ah 1) Ai (fun _ _=>rfl)) (Bs A7 A8 (Ah 0) Ai (fun _ _=>rfl)) (Bs A7 A8 (Ah 1) Ai (fun _ _=>rfl))) (Ww (We Vc Vc Qw Qw (Bs A7 A8 (Ah 1) Ai (fun _ _=>rfl)) (Bs A7 A8 (Ah 0) Ai (fun _ _=>rfl)) (Bs A7 A8 (Ah 1) Ai (fun _ _=>rfl)))))))
theorem Tu(C:Defs K mg):FnOk P w K mg base CX0 2 C.vL C.vM ["points","box"] (spF K 2 Ij):=by
 refine Fun.okF (N:=["points","box"]) C.vN Uy (fun cdv A outer s H E hr=>?_)
 have hu:=hr.units
 exact (Am (Au (K7 (N':=["point","box"]) (ix:=[none,some 1]) ⟨rfl,rfl,rfl,rfl,rfl,rfl⟩ rfl (Df (Ah 0)) (fun _ _ _ _ _ _=>(Ap (i:=0) (show bW (α:=Str) ["point","box"] by decide +kernel))) (fun _ _ _ _ _ _=>(Im (Aq (Xp C) (hr.mono (by decide)) (by rfl) C.vK C.vI.kp C.vJ (Ad (Ah 0) (Ad (Ah 1) Af))))) (fun _ _ _ _ _ _=>(Ah 0)))))
theorem Pc(C:Defs K mg):FnOk P w K mg base CX0 3 C.vQ C.vR ["points","boxes"] (spF K 2 Hw):=by
 refine Fun.okF (N:=["points","boxes"]) C.vS Ve (fun cdv A outer s H E hr=>?_)
 have hu:=hr.units
 exact (Am (Au (Ez Ej Hm (by rfl) C.yl (by decide +kernel) (Ad (Dm (N':=["box","points"]) (ix:=[none,some 0]) ⟨rfl,rfl,rfl,rfl,rfl,rfl⟩ rfl (Df (Ah 1)) (fun _ _ _ _ _ _=>(Ap (i:=0) (show bW (α:=Str) ["box","points"] by decide +kernel))) (fun _ _ _ _ _ _=>(B9 Ee Fi (by rfl) C.yf cX (Ad (Aq (Tu C) (hr.mono (by decide)) (by rfl) C.vP C.vN.kp C.vO (Ad (Ah 1) (Ad (Ah 0) Af))) Af)))) Af))))
theorem G0(C:Defs K mg):FnOk P w K mg base CX0 1 C.vV C.vW ["one","other"] (spF K 2 Dg):=by
 refine Fun.okF (N:=["one","other"]) C.vX R4 (fun cdv A outer s H E hr=>?_)
 have hu:=hr.units
 exact (Am (Au (Xi (Oi (Xk hu) X3 (Ah 0) (Ah 1) (Cg _)) (Ww (B9 (Abp rfl) Aij (by rfl) C.yd PyProof.Rows.boot_all (Ad (Dm (N':=["number","above"]) (ix:=[none,none]) ⟨rfl,rfl,rfl,rfl,rfl,rfl⟩ rfl (Ad2 (by rfl) C.ym (Ad (Ah 0) (Ad (Ah 1) Af))) (fun _ _ _ _ _ _=>(Gz rfl (Av (Ap (i:=0) (show bW (α:=Str) ["number","above"] by decide +kernel)) (Av (Ap (i:=1) (show bW (α:=Str) ["number","above"] by decide +kernel)) Ec)))) (fun _ _ _ _ _ _=>(Oi Vc Qw (Ah 0) (Ah 1) (Cg _)))) Af))))))
theorem Mr(C:Defs K mg):FnOk P w K mg base CX0 2 C.v8 C.v9 ["places","place"] (spF K 2 Fy):=by
 refine Fun.okF (N:=["places","place"]) C.wc Ry (fun cdv A outer s H E hr=>?_)
 have hu:=hr.units
 exact (Am (Au (B9 Ee Fi (by rfl) C.yf cX (Ad (K7 (N':=["other","place"]) (ix:=[none,some 1]) ⟨rfl,rfl,rfl,rfl,rfl,rfl⟩ rfl (Df (Ah 0)) (fun _ _ _ _ _ _=>(Ap (i:=0) (show bW (α:=Str) ["other","place"] by decide +kernel))) (fun _ _ _ _ _ _=>(Im (Aq (G0 C) (hr.mono (by decide)) (by rfl) C.vZ C.vX.kp C.vY (Ad (Ah 0) (Ad (Ah 1) Af))))) (fun _ _ _ _ _ _=>(Ah 0))) Af))))
theorem Ph(C:Defs K mg):FnOk P w K mg base CX0 1 C.wf C.wg ["point"] (spF K 1 Ht):=by
 refine Fun.okF (N:=["point"]) C.wj Wg (fun cdv A outer s H E hr=>?_)
 have hu:=hr.units
 exact (Am (Au (Dc (Ad (Bs A7 A8 (Ah 0) Ai (fun _ _=>rfl)) (Ad (Bs A7 A8 (Ah 0) Ai (fun _ _=>rfl)) Af)))))
theorem R6(C:Defs K mg):FnOk P w K mg base CX0 3 C.wm C.wn ["points"] (spF K 1 Hg):=by
 refine Fun.okF (N:=["points","places"]) C.wo Mm (fun cdv A outer s H E hr=>?_)
 have hu:=hr.units
 refine Ak ?s0 ?t0
 case s0=>exact (Bg (i:=1) (by exact Mm.nd) (Dm (N':=["point"]) (ix:=[none]) ⟨rfl,rfl,rfl,rfl,rfl,rfl⟩ rfl (Df (Ah 0)) (fun _ _ _ _ _ _=>(Ap (i:=0) (show bW (α:=Str) ["point"] by decide +kernel))) (fun _ _ _ _ _ _=>(Aq (Ph C) (hr.mono (by decide)) (by rfl) C.wl C.wj.kp C.wk (Ad (Ah 0) Af)))))
 exact (Am (Au (Ez Ej Hm (by rfl) C.yl (by decide +kernel) (Ad (Dm (N':=["place","places"]) (ix:=[none,some 1]) ⟨rfl,rfl,rfl,rfl,rfl,rfl⟩ rfl (Df (Ah 1)) (fun _ _ _ _ _ _=>(Ap (i:=0) (show bW (α:=Str) ["place","places"] by decide +kernel))) (fun _ _ _ _ _ _=>(Aq (Mr C) (hr.mono (by decide)) (by rfl) C.we C.wc.kp C.wd (Ad (Ah 1) (Ad (Ah 0) Af))))) Af))))
theorem Ky(C:Defs K mg):FnOk P w K mg base CX0 4 C.wu C.wv ["points"] (spF K 1 Dr):=by
 refine Fun.okF (N:=["points"]) C.ww Po (fun cdv A outer s H E hr=>?_)
 have hu:=hr.units
 exact (Am (Au (B9 (Abl rfl) Ahl (by rfl) C.yk PyProof.Rows.boot_sum (Ad (Aq (R6 C) (hr.mono (by decide)) (by rfl) C.wt C.wo.kp C.wq (Ad (Ah 0) Af)) Af))))
theorem Adt(C:Defs K mg):FnOk P w K mg base CX0 5 C.wz C.wA ["points","way","here"] (spF K 3 U5):=by
 refine Fun.okF (N:=["points","way","here"]) C.wB Acv (fun cdv A outer s H E hr=>?_)
 have hu:=hr.units
 refine Ak ?s0 ?t0
 case s0=>exact (Cu (Bo (Dk hu) Dl (Ah 1) Ai (Cg _)) (Am (Au (Ah 0))) Co)
 refine Ak ?s1 ?t1
 case s1=>exact (Cu (Bo (Dk hu) Dl (Ah 1) Ai (Cg _)) (Am (Au (Aq (Ky C) (hr.mono (by decide)) (by rfl) C.wy C.ww.kp C.wx (Ad (Ah 0) Af)))) Co)
 refine Ak ?s2 ?t2
 case s2=>exact (Cu (Bo (Dk hu) Dl (Ah 1) Ai (Cg _)) (Am (Au (B9 Ee Fi (by rfl) C.yf cX (Ad (K7 (N':=["name","x","y","here"]) (ix:=[none,none,none,some 2]) ⟨rfl,rfl,rfl,rfl,rfl,rfl⟩ rfl (Df (Ah 0)) (fun _ _ _ _ _ _=>(Gz rfl (Av (Ap (i:=0) (show bW (α:=Str) ["name","x","y","here"] by decide +kernel)) (Av (Ap (i:=1) (show bW (α:=Str) ["name","x","y","here"] by decide +kernel)) (Av (Ap (i:=2) (show bW (α:=Str) ["name","x","y","here"] by decide +kernel)) Ec))))) (fun _ _ _ _ _ _=>(Im (Aq (G0 C) (hr.mono (by decide)) (by rfl) C.vZ C.vX.kp C.vY (Ad (Dc (Ad (Ah 1) (Ad (Ah 2) Af))) (Ad (Ah 3) Af))))) (fun _ _ _ _ _ _=>Ai)) Af)))) Co)
 refine Ak ?s3 ?t3
 case s3=>exact (Cu (Bo (Dk hu) Dl (Ah 1) Ai (Cg _)) (Am (Au (B9 Ee Fi (by rfl) C.yf cX (Ad (K7 (N':=["name","x","y","here"]) (ix:=[none,none,none,some 2]) ⟨rfl,rfl,rfl,rfl,rfl,rfl⟩ rfl (Df (Ah 0)) (fun _ _ _ _ _ _=>(Gz rfl (Av (Ap (i:=0) (show bW (α:=Str) ["name","x","y","here"] by decide +kernel)) (Av (Ap (i:=1) (show bW (α:=Str) ["name","x","y","here"] by decide +kernel)) (Av (Ap (i:=2) (show bW (α:=Str) ["name","x","y","here"] by decide +kernel)) Ec))))) (fun _ _ _ _ _ _=>(Im (Aq (G0 C) (hr.mono (by decide)) (by rfl) C.vZ C.vX.kp C.vY (Ad (Ah 3) (Ad (Dc (Ad (Ah 1) (Ad (Ah 2) Af))) Af))))) (fun _ _ _ _ _ _=>Ai)) Af)))) Co)
 exact (Am (Au (Bs A7 A8 (Aq (Pc C) (hr.mono (by decide)) (by rfl) C.vU C.vS.kp C.vT (Ad (Ah 0) (Ad (Dc (Ad (Ah 2) Af)) Af))) Ai (fun _ _=>rfl))))
theorem Ff(C:Defs K mg):FnOk P w K mg base CX0 2 C.wE C.wF ["self"] (spF K 1 Bm):=by
 refine Fun.okF (N:=["self"]) C.wG Jk (fun cdv A outer s H E hr=>?_)
 have hu:=hr.units
 exact (Am (Au (Uz (Dm (N':=["point"]) (ix:=[none]) ⟨rfl,rfl,rfl,rfl,rfl,rfl⟩ rfl (Adv (Kh C.ub C.yc (Ah 0)) ⟨rfl,rfl,rfl,rfl⟩) (fun _ _ _ _ _ _=>(Ap (i:=0) (show bW (α:=Str) ["point"] by decide +kernel))) (fun _ _ _ _ _ _=>(Aq (Ph C) (hr.mono (by decide)) (by rfl) C.wl C.wj.kp C.wk (Ad (Ah 0) Af)))))))
theorem R3(C:Defs K mg):FnOk P w K mg base CX0 2 C.wJ C.wK ["places","place"] (spF K 2 Hj):=by
 refine Fun.okF (N:=["places","place"]) C.wL R5 (fun cdv A outer s H E hr=>?_)
 have hu:=hr.units
 exact (Am (Au (B9 Ee Fi (by rfl) C.yf cX (Ad (K7 (N':=["other","place"]) (ix:=[none,some 1]) ⟨rfl,rfl,rfl,rfl,rfl,rfl⟩ rfl (Df (Ah 0)) (fun _ _ _ _ _ _=>(Ap (i:=0) (show bW (α:=Str) ["other","place"] by decide +kernel))) (fun _ _ _ _ _ _=>(Im (Aq (G0 C) (hr.mono (by decide)) (by rfl) C.vZ C.vX.kp C.vY (Ad (Ah 1) (Ad (Ah 0) Af))))) (fun _ _ _ _ _ _=>(Ah 0))) Af))))
theorem Jw(C:Defs K mg):FnOk P w K mg base CX0 3 C.wO C.wP ["self","x","y"] (spF K 3 C6):=by
 refine Fun.okF (N:=["self","x","y"]) C.wQ Jq (fun cdv A outer s H E hr=>?_)
 have hu:=hr.units
 exact (Am (Au (Aq (R3 C) (hr.mono (by decide)) (by rfl) C.wN C.wL.kp C.wM (Ad (Jm C.ub C.wI (Ff C) (hr.mono (by decide)) C.wH (Ah 0)) (Ad (Dc (Ad (Ah 1) (Ad (Ah 2) Af))) Af)))))
theorem Jv(C:Defs K mg):FnOk P w K mg base CX0 3 C.wT C.wU ["self","x","y"] (spF K 3 C5):=by
 refine Fun.okF (N:=["self","x","y"]) C.wV J9 (fun cdv A outer s H E hr=>?_)
 have hu:=hr.units
 exact (Am (Au (Aq (Mr C) (hr.mono (by decide)) (by rfl) C.we C.wc.kp C.wd (Ad (Jm C.ub C.wI (Ff C) (hr.mono (by decide)) C.wH (Ah 0)) (Ad (Dc (Ad (Ah 1) (Ad (Ah 2) Af))) Af)))))
theorem Di(C:Defs K mg):FnOk P w K mg base CX0 1 C.wY C.wZ ["self"] (spF K 1 Bk):=by
 refine Fun.okF (N:=["self"]) C.w4 Jb (fun cdv A outer s H E hr=>?_)
 have hu:=hr.units
 exact (Am (Au (Aex rfl (by rfl) C.yl (Kh C.ub C.yc (Ah 0)) ⟨rfl,rfl,rfl,rfl⟩)))
theorem Kz(C:Defs K mg):FnOk P w K mg base CX0 4 C.w9 C.xa ["self","box"] (spF K 2 Cr):=by
 refine Fun.okF (N:=["self","box"]) C.xf K0 (fun cdv A outer s H E hr=>?_)
 have hu:=hr.units
 exact (Am (Au (Bs A7 A8 (Aq (Pc C) (hr.mono (by decide)) (by rfl) C.vU C.vS.kp C.vT (Ad (Jm C.ub C.w6 (Di C) (hr.mono (by decide)) C.w5 (Ah 0)) (Ad (Dc (Ad (Ah 1) Af)) Af))) Ai (fun _ _=>rfl))))
theorem J6(C:Defs K mg):FnOk P w K mg base CX0 5 C.xi C.xj ["self"] (spF K 1 Cm):=by
 refine Fun.okF (N:=["self"]) C.xk Jp (fun cdv A outer s H E hr=>?_)
 have hu:=hr.units
 exact (Am (Au (Aq (Ky C) (hr.mono (by decide)) (by rfl) C.wy C.ww.kp C.wx (Ad (Jm C.ub C.w6 (Di C) (hr.mono (by decide)) C.w5 (Ah 0)) Af))))
theorem Ab1(C:Defs K mg):FnOk P w K mg base CX0 6 C.xo C.xp ["kept","way","here"] (spF K 3 Rp):=by
 refine Fun.okF (N:=["kept","way","here"]) C.xq Abw (fun cdv A outer s H E hr=>?_)
 have hu:=hr.units
 refine Ak ?s0 ?t0
 case s0=>exact (Cu (Bo (Dk hu) Dl (Ah 1) Ai (Cg _)) (Am (Au (Jm C.ub C.w6 (Di C) (hr.mono (by decide)) C.w5 (Ah 0)))) Co)
 refine Ak ?s1 ?t1
 case s1=>exact (Cu (Bo (Dk hu) Dl (Ah 1) Ai (Cg _)) (Am (Au (Jm C.ub C.xn (J6 C) (hr.mono (by decide)) C.xm (Ah 0)))) Co)
 refine Ak ?s2 ?t2
 case s2=>exact (Cu (Bo (Dk hu) Dl (Ah 1) Ai (Cg _)) (Am (Au (Fh C.ub C.wX (Jv C) (hr.mono (by decide)) C.wW (Ah 0) (Ad (Bs A7 A8 (Ah 2) Ai (fun _ _=>rfl)) (Ad (Bs A7 A8 (Ah 2) Ai (fun _ _=>rfl)) Af))))) Co)
 refine Ak ?s3 ?t3
 case s3=>exact (Cu (Bo (Dk hu) Dl (Ah 1) Ai (Cg _)) (Am (Au (Fh C.ub C.wS (Jw C) (hr.mono (by decide)) C.wR (Ah 0) (Ad (Bs A7 A8 (Ah 2) Ai (fun _ _=>rfl)) (Ad (Bs A7 A8 (Ah 2) Ai (fun _ _=>rfl)) Af))))) Co)
 exact (Am (Au (Fh C.ub C.xh (Kz C) (hr.mono (by decide)) C.xg (Ah 0) (Ad (Ah 2) Af))))
theorem Iw(C:Defs K mg):FnOk P w K mg base CX0 7 C.xx C.xy ["seed","kept","there","places","boxes"] (spF K 5 Dy):=by
 refine Fun.okF (N:=["seed","kept","there","places","boxes","some","points","turn","way","here"]) C.xz Ck (fun cdv A outer s H E hr=>?_)
 have hu:=hr.units
 refine Ak ?s0 ?t0
 case s0=>exact (Bg (i:=5) (by exact Ck.nd) (Bp C1 C0 (Bp C1 C0 (Hu (Ad (Dc (Ad Ai (Ad (Dc Af) Af))) (Ad (Dc (Ad Ai (Ad (Dc Af) Af))) Af))) (Dm (N':=["place"]) (ix:=[none]) ⟨rfl,rfl,rfl,rfl,rfl,rfl⟩ rfl (Df (Ah 3)) (fun _ _ _ _ _ _=>(Ap (i:=0) (show bW (α:=Str) ["place"] by decide +kernel))) (fun _ _ _ _ _ _=>(Dc (Ad Ai (Ad (Ah 0) Af)))))) (Dm (N':=["place"]) (ix:=[none]) ⟨rfl,rfl,rfl,rfl,rfl,rfl⟩ rfl (Df (Ah 3)) (fun _ _ _ _ _ _=>(Ap (i:=0) (show bW (α:=Str) ["place"] by decide +kernel))) (fun _ _ _ _ _ _=>(Dc (Ad Ai (Ad (Ah 0) Af)))))))
 refine Ak ?s1 ?t1
 case s1=>exact (Bg (i:=5) (by exact Ck.nd) (Bp C1 C0 (Ah 5) (Dm (N':=["box"]) (ix:=[none]) ⟨rfl,rfl,rfl,rfl,rfl,rfl⟩ rfl (Df (Ah 4)) (fun _ _ _ _ _ _=>(Ap (i:=0) (show bW (α:=Str) ["box"] by decide +kernel))) (fun _ _ _ _ _ _=>(Dc (Ad Ai (Ad (Ah 0) Af)))))))
 refine Ak ?s2 ?t2
 case s2=>exact (Bg (i:=6) (by exact Ck.nd) (Aq (Md C) (hr.mono (by decide)) (by rfl) C.uy C.uw.kp C.ux (Ad (Ah 2) Af)))
 refine Ak ?s3 ?t3
 case s3=>exact (Gy dO rfl (En (by rfl) C.yj (Ad (B9 Ee Fi (by rfl) C.yf cX (Ad (Ah 5) Af)) Af)) (Ap (i:=7) (by exact Ck.nd)) (Ak (P7 (Aem gS lY lZ V5 Aao (Ah 5) (Ad (Aq (Bc C) (hr.mono (by decide)) (by rfl) C.uI C.uG.kp C.uH (Ad (Ah 0) (Ad (B9 Ee Fi (by rfl) C.yf cX (Ad (Ah 5) Af)) Af))) Af)) (Gz rfl (Av (Ap (i:=8) (by exact Ck.nd)) (Av (Ap (i:=9) (by exact Ck.nd)) Ec)))) (Am (Cu (Bo (Xk hu) X3 (Aq (Ab1 C) (hr.mono (by decide)) (by rfl) C.xw C.xq.kp C.xu (Ad (Ah 1) (Ad (Ah 8) (Ad (Ah 9) Af)))) (Aq (Adt C) (hr.mono (by decide)) (by rfl) C.wD C.wB.kp C.wC (Ad (Ah 6) (Ad (Ah 8) (Ad (Ah 9) Af)))) (Cg _)) (Am (Au Tr)) Co))))
 exact (Am (Au Tr))
theorem Wy(C:Defs K mg):FnOk P w K mg base CX0 2 C.xC C.xD ["seed","many"] (spF K 2 Jx):=by
 refine Fun.okF (N:=["seed","many","letters","spare"]) C.xE H9 (fun cdv A outer s H E hr=>?_)
 have hu:=hr.units
 refine Ak ?s0 ?t0
 case s0=>exact (Bg (i:=2) (by exact H9.nd) Dd)
 refine Ak ?s1 ?t1
 case s1=>exact (Bg (i:=3) (by exact H9.nd) (Bp C1 C0 (Bp C1 C0 (Dm (N':=["sign"]) (ix:=[none]) ⟨rfl,rfl,rfl,rfl,rfl,rfl⟩ rfl (U4 (Ah 2)) (fun _ _ _ _ _ _=>(Ap (i:=0) (show bW (α:=Str) ["sign"] by decide +kernel))) (fun _ _ _ _ _ _=>(Ah 0))) (Dm (N':=["sign"]) (ix:=[none]) ⟨rfl,rfl,rfl,rfl,rfl,rfl⟩ rfl (U4 (Ah 2)) (fun _ _ _ _ _ _=>(Ap (i:=0) (show bW (α:=Str) ["sign"] by decide +kernel))) (fun _ _ _ _ _ _=>(Bp C1 C0 (Ah 0) Dd)))) (Dm (N':=["sign"]) (ix:=[none]) ⟨rfl,rfl,rfl,rfl,rfl,rfl⟩ rfl (U4 (Ah 2)) (fun _ _ _ _ _ _=>(Ap (i:=0) (show bW (α:=Str) ["sign"] by decide +kernel))) (fun _ _ _ _ _ _=>(Bp C1 C0 Dd (Ah 0))))))
 refine Ak ?s2 ?t2
 case s2=>exact (Bg (i:=3) (by exact H9.nd) (Bp C1 C0 (Ah 3) (Hu (by refine Ad Dd ?_;refine Ad Dd ?_;refine Ad Dd ?_;refine Ad Dd ?_;refine Ad Dd ?_;refine Ad Dd ?_;refine Ad Dd ?_;refine Ad Dd ?_;refine Ad Dd ?_;refine Ad Dd ?_;exact Af))))
 refine Ak ?s3 ?t3
 case s3=>exact (Bg (i:=3) (by exact H9.nd) (Bp C1 C0 (Ah 3) (Hu (by refine Ad Dd ?_;refine Ad Dd ?_;refine Ad Dd ?_;refine Ad Dd ?_;refine Ad Dd ?_;refine Ad Dd ?_;refine Ad Dd ?_;exact Af))))
 exact (Am (Au (Dm (N':=["k","spare","seed"]) (ix:=[none,some 3,some 0]) ⟨rfl,rfl,rfl,rfl,rfl,rfl⟩ rfl (En (by rfl) C.yj (Ad (Ah 1) Af)) (fun _ _ _ _ _ _=>(Ap (i:=0) (show bW (α:=Str) ["k","spare","seed"] by decide +kernel))) (fun _ _ _ _ _ _=>(Aem gS lY lZ V5 Aao (Ah 1) (Ad (Aq (Bc C) (hr.mono (by decide)) (by rfl) C.uI C.uG.kp C.uH (Ad (Ah 2) (Ad (B9 Ee Fi (by rfl) C.yf cX (Ad (Ah 1) Af)) Af))) Af))))))
theorem Aci(C:Defs K mg):FnOk P w K mg base CX0 1 C.xH C.xI ["cell"] (spF K 1 K8):=by
 refine Fun.okF (N:=["cell","number"]) C.xJ Ti (fun cdv A outer s H E hr=>?_)
 have hu:=hr.units
 refine Ak ?s0 ?t0
 case s0=>exact (Bg (i:=1) (by exact Ti.nd) (B9 (Ly rfl) P9 (by rfl) C.yh fQ (Ad (Ah 0) (Ad (Bp Mt Ki Ai (Ah 0)) Af))))
 exact (Am (Au (Hu (Ad (Ah 1) (Ad (Ez Tb Aab (by rfl) C.ye (by decide +kernel) (Ad (Oi Amt Ajt (Ah 1) (Bp M9 Kq Ai Ai) (Cg _)) Af)) (Ad Ai (Ad (Bp K9 Ii (Ah 0) Ai) Af)))))))
theorem Ajq(C:Defs K mg):FnOk P w K mg base CX0 8 C.xN C.xO ["script"] (spF K 1 Tj):=by
 refine Fun.okF (N:=["script","cell","seed","pair","turn","names","deed","points","places","boxes","kept","there","one","own","spare"]) C.xP Dj (fun cdv A outer s H E hr=>?_)
 have hu:=hr.units
 refine Ak ?s0 ?t0
 case s0=>exact (Gy dO rfl (Df (Bp Um Q3 (Ws Ad9 Ad1 (Ah 0) Vp (Vm Ai)) (Hu (Ad (Aq (Wm C) (hr.mono (by decide)) (by rfl) C.vA C.vy.kp C.vz (Ad (Ah 0) Af)) Af)))) (Ap (i:=1) (by exact Dj.nd)) (Ak (Bg (i:=2) (by exact Dj.nd) (Aq (Aci C) (hr.mono (by decide)) (by rfl) C.xL C.xJ.kp C.xK (Ad (Ah 1) Af))) (Ak (Bg (i:=3) (by exact Dj.nd) (Hu Af)) (Ak (Gy dO rfl (En (by rfl) C.yj (Ad Ai Af)) (Ap (i:=4) (by exact Dj.nd)) (Ak (Bg (i:=5) (by exact Dj.nd) (Aq (Wy C) (hr.mono (by decide)) (by rfl) C.xG C.xE.kp C.xF (Ad (Ah 2) (Ad (Bp Um Q3 Ai (Aq (Bc C) (hr.mono (by decide)) (by rfl) C.uI C.uG.kp C.uH (Ad (Ah 2) (Ad (Bs A7 A8 (Hu (Ad Ai (Ad Ai Af))) (Aq (Bc C) (hr.mono (by decide)) (by rfl) C.uI C.uG.kp C.uH (Ad (Ah 2) (Ad Ai Af))) (fun _ _=>rfl)) Af)))) Af)))) (Ak (De (Aem gS PySem.F.slot_list_append PySem.F.type_list_append Abu W2 (Ah 3) (Ad (Hu (Ad (Wl C.ub.ns C.xS (Gb C) (hr.mono (by decide)) (by rfl) C.xT C.uh) (Ad Us (Ad (Ah 5) Af)))) Af))) (Am (Gy dO rfl (En (by rfl) C.yj (Ad (Aq (Bc C) (hr.mono (by decide)) (by rfl) C.uI C.uG.kp C.uH (Ad (Ah 2) (Ad Ai Af))) Af)) (Ap (i:=6) (by exact Dj.nd)) (Am (De (Aq (Sm C) (hr.mono (by decide)) (by rfl) C.vt C.vp.kp C.vq (Ad (Ah 2) (Ad (Bs A7 A8 (Bs A7 A8 (Ah 3) (Ah 4) (fun _ _=>rfl)) Ai (fun _ _=>rfl)) (Ad (Bs A7 A8 (Bs A7 A8 (Ah 3) (Ah 4) (fun _ _=>rfl)) Ai (fun _ _=>rfl)) (Ad (Ah 5) Af)))))))))))) (Ak (Bg (i:=7) (by exact Dj.nd) (Bp Um Q3 (Aq (Md C) (hr.mono (by decide)) (by rfl) C.uy C.uw.kp C.ux (Ad (Bs A7 A8 (Bs A7 A8 (Ah 3) Ai (fun _ _=>rfl)) Ai (fun _ _=>rfl)) Af)) (Aq (Md C) (hr.mono (by decide)) (by rfl) C.uy C.uw.kp C.ux (Ad (Bs A7 A8 (Bs A7 A8 (Ah 3) Ai (fun _ _=>rfl)) Ai (fun _ _=>rfl)) Af)))) (Ak (Wu (i:=8) (N':=["turn","seed","points"]) (ix:=[none,some 2,some 7]) (by exact Dj.nd) ⟨rfl,rfl,rfl,rfl,rfl,rfl⟩ rfl (En (by rfl) C.yj (Ad Ai Af)) (fun _ _ _ _ _ _=>(Ap (i:=0) (show bW (α:=Str) ["turn","seed","points"] by decide +kernel))) (fun _ _ _ _ _ _=>(Aq (Kk C) (hr.mono (by decide)) (by rfl) C.uX C.uV.kp C.uW (Ad (Ah 1) (Ad (Ah 2) Af))))) (Ak (Wu (i:=9) (N':=["turn","seed","points"]) (ix:=[none,some 2,some 7]) (by exact Dj.nd) ⟨rfl,rfl,rfl,rfl,rfl,rfl⟩ rfl (En (by rfl) C.yj (Ad Ai Af)) (fun _ _ _ _ _ _=>(Ap (i:=0) (show bW (α:=Str) ["turn","seed","points"] by decide +kernel))) (fun _ _ _ _ _ _=>(Aq (Afj C) (hr.mono (by decide)) (by rfl) C.u6 C.u4.kp C.u5 (Ad (Ah 1) (Ad (Ah 2) Af))))) (Ak (Gy dO rfl (En (by rfl) C.yj (Ad Ai Af)) (Ap (i:=4) (by exact Dj.nd)) (Ak (P7 (Bs A7 A8 (Ah 3) (Aq (Bc C) (hr.mono (by decide)) (by rfl) C.uI C.uG.kp C.uH (Ad (Ah 2) (Ad Ai Af))) (fun _ _=>rfl)) (Q1 rfl (Av (Ap (i:=10) (by exact Dj.nd)) (Av (Ap (i:=11) (by exact Dj.nd)) (Av (Ap (i:=5) (by exact Dj.nd)) Ec))))) (Ak (Gy dO rfl (En (by rfl) C.yj (Ad (Aq (Bc C) (hr.mono (by decide)) (by rfl) C.uI C.uG.kp C.uH (Ad (Ah 2) (Ad (Bs A7 A8 (Hu (Ad Ai (Ad Ai Af))) (Aq (Bc C) (hr.mono (by decide)) (by rfl) C.uI C.uG.kp C.uH (Ad (Ah 2) (Ad Ai Af))) (fun _ _=>rfl)) Af))) Af)) (Ap (i:=6) (by exact Dj.nd)) (Am (De (Aq (Sm C) (hr.mono (by decide)) (by rfl) C.vt C.vp.kp C.vq (Ad (Ah 2) (Ad (Ah 10) (Ad (Ah 11) (Ad (Ah 5) Af)))))))) (Ak (Cu (PWF.pt (P1 (Bo (Dk hu) Dl (Aq (Bc C) (hr.mono (by decide)) (by rfl) C.uI C.uG.kp C.uH (Ad (Ah 2) (Ad Ai Af))) Ai (Cg _)) (Nr (U6 (Im (Aq (Pu C) (hr.mono (by decide)) (by rfl) C.vF C.vD.kp C.vE (Ad (Ah 2) (Ad (Ah 10) (Ad (Ah 11) Af))))))))) (Am (Au Tr)) Co) (Am (Gy dO rfl (Df (Ah 3)) (Q1 rfl (Av (Ap (i:=12) (by exact Dj.nd)) (Av (Ap (i:=13) (by exact Dj.nd)) (Av (Ap (i:=14) (by exact Dj.nd)) Ec)))) (Am (Cu (U6 (Im (Aq (Iw C) (hr.mono (by decide)) (by rfl) C.xB C.xz.kp C.xA (by refine Ad (Ah 2) ?_;refine Ad (Ah 12) ?_;refine Ad (Ah 13) ?_;refine Ad (Ah 8) ?_;refine Ad (Ah 9) ?_;exact Af)))) (Am (Au Tr)) Co)))))))) (Am (Gy dO rfl (Df (Ah 3)) (Q1 rfl (Av (Ap (i:=12) (by exact Dj.nd)) (Av (Ap (i:=13) (by exact Dj.nd)) (Av (Ap (i:=14) (by exact Dj.nd)) Ec)))) (Am (Cu (U6 (Im (Aq (Iw C) (hr.mono (by decide)) (by rfl) C.xB C.xz.kp C.xA (by refine Ad (Ah 2) ?_;refine Ad (Aq (Vk C) (hr.mono (by decide)) (by rfl) C.uD C.uB.kp C.uC (Ad (Ah 13) Af)) ?_;refine Ad (Ah 13) ?_;refine Ad (Ah 8) ?_;refine Ad (Ah 9) ?_;exact Af)))) (Am (Au Tr)) Co))))))))))))
 exact (Am (Au Tr))
end
theorem Aj4{l:iR}{w:cE}{K:aC}{h:Heap}{mg:Str->Option aE}{fa:Addr}(X:K.In h)(G:h.Ns aP mg)(hfa:mg "law" = some (.ref fa))
  {od0 an0:Option Addr} {sl0:Array (Option aE)} {oc0 kV0 dc0 pm0 cd0 ct0:aE} {f0:Addr} {od1 an1:Option Addr} {sl1:Array (Option aE)} {oc1 kV1 dc1 pm1 cd1 ct1:aE} {f1:Addr} {od2 an2:Option Addr} {sl2:Array (Option aE)} {oc2 kV2 dc2 pm2 cd2 ct2:aE} {f2:Addr} {od3 an3:Option Addr} {sl3:Array (Option aE)} {oc3 kV3 dc3 pm3 cd3 ct3:aE} {f3:Addr} {od4 an4:Option Addr} {sl4:Array (Option aE)} {oc4 kV4 dc4 pm4 cd4 ct4:aE} {f4:Addr} {od5 an5:Option Addr} {sl5:Array (Option aE)} {oc5 kV5 dc5 pm5 cd5 ct5:aE} {f5:Addr} {od6 an6:Option Addr} {sl6:Array (Option aE)} {oc6 kV6 dc6 pm6 cd6 ct6:aE} {f6:Addr} {od7 an7:Option Addr} {sl7:Array (Option aE)} {oc7 kV7 dc7 pm7 cd7 ct7:aE} {f7:Addr} {od8 an8:Option Addr} {sl8:Array (Option aE)} {oc8 kV8 dc8 pm8 cd8 ct8:aE} {f8:Addr} {od9 an9:Option Addr} {sl9:Array (Option aE)} {oc9 kV9 dc9 pm9 cd9 ct9:aE} {f9:Addr} {od10 an10:Option Addr} {sl10:Array (Option aE)} {oc10 kV10 dc10 pm10 cd10 ct10:aE} {f10:Addr} {od11 an11:Option Addr} {sl11:Array (Option aE)} {oc11 kV11 dc11 pm11 cd11 ct11:aE} {f11:Addr} {od12 an12:Option Addr} {sl12:Array (Option aE)} {oc12 kV12 dc12 pm12 cd12 ct12:aE} {f12:Addr} {od13 an13:Option Addr} {sl13:Array (Option aE)} {oc13 kV13 dc13 pm13 cd13 ct13:aE} {f13:Addr} {od14 an14:Option Addr} {sl14:Array (Option aE)} {oc14 kV14 dc14 pm14 cd14 ct14:aE} {f14:Addr} {od15 an15:Option Addr} {sl15:Array (Option aE)} {oc15 kV15 dc15 pm15 cd15 ct15:aE} {f15:Addr} {od16 an16:Option Addr} {sl16:Array (Option aE)} {oc16 kV16 dc16 pm16 cd16 ct16:aE} {f16:Addr} {od17 an17:Option Addr} {sl17:Array (Option aE)} {oc17 kV17 dc17 pm17 cd17 ct17:aE} {f17:Addr} {od18 an18:Option Addr} {sl18:Array (Option aE)} {oc18 kV18 dc18 pm18 cd18 ct18:aE} {f18:Addr} {od19 an19:Option Addr} {sl19:Array (Option aE)} {oc19 kV19 dc19 pm19 cd19 ct19:aE} {f19:Addr} {od20 an20:Option Addr} {sl20:Array (Option aE)} {oc20 kV20 dc20 pm20 cd20 ct20:aE} {f20:Addr} {od21 an21:Option Addr} {sl21:Array (Option aE)} {oc21 kV21 dc21 pm21 cd21 ct21:aE} {f21:Addr} {od22 an22:Option Addr} {sl22:Array (Option aE)} {oc22 kV22 dc22 pm22 cd22 ct22:aE} {f22:Addr} {od23 an23:Option Addr} {sl23:Array (Option aE)} {oc23 kV23 dc23 pm23 cd23 ct23:aE} {f23:Addr} {od24 an24:Option Addr} {sl24:Array (Option aE)} {oc24 kV24 dc24 pm24 cd24 ct24:aE} {f24:Addr} {od25 an25:Option Addr} {sl25:Array (Option aE)} {oc25 kV25 dc25 pm25 cd25 ct25:aE} {f25:Addr} {od26 an26:Option Addr} {sl26:Array (Option aE)} {oc26 kV26 dc26 pm26 cd26 ct26:aE} {f26:Addr} {od27 an27:Option Addr} {sl27:Array (Option aE)} {oc27 kV27 dc27 pm27 cd27 ct27:aE} {f27:Addr} {od28 an28:Option Addr} {sl28:Array (Option aE)} {oc28 kV28 dc28 pm28 cd28 ct28:aE} {f28:Addr} {od29 an29:Option Addr} {sl29:Array (Option aE)} {oc29 kV29 dc29 pm29 cd29 ct29:aE} {f29:Addr} {od30 an30:Option Addr} {sl30:Array (Option aE)} {oc30 kV30 dc30 pm30 cd30 ct30:aE} {f30:Addr} {od31 an31:Option Addr} {sl31:Array (Option aE)} {oc31 kV31 dc31 pm31 cd31 ct31:aE} {f31:Addr} {od32 an32:Option Addr} {sl32:Array (Option aE)} {oc32 kV32 dc32 pm32 cd32 ct32:aE} {f32:Addr} {od33 an33:Option Addr} {sl33:Array (Option aE)} {oc33 kV33 dc33 pm33 cd33 ct33:aE} {f33:Addr} {od34 an34:Option Addr} {sl34:Array (Option aE)} {oc34 kV34 dc34 pm34 cd34 ct34:aE} {f34:Addr} {od35 an35:Option Addr} {sl35:Array (Option aE)} {oc35 kV35 dc35 pm35 cd35 ct35:aE} {f35:Addr} {od36 an36:Option Addr} {sl36:Array (Option aE)} {oc36 kV36 dc36 pm36 cd36 ct36:aE} {f36:Addr}
  {A_KeptPoints:Addr} (aC_KeptPoints:aS K aP "KeptPoints" = some (some (.ref A_KeptPoints))) (pg_KeptPoints:gD K A_KeptPoints jM=true) (hd_KeptPoints:eU K A_KeptPoints=true) (po_KeptPoints:kF K A_KeptPoints=true) (sa_KeptPoints:aZ K (.ref A_KeptPoints) "__setattr__" = some (some (.builtin "object.__setattr__")))
  {A_BelowError:Addr} (xn_BelowError:aS K aP "BelowError" = some (some (.ref A_BelowError)))
  {A_NoName:Addr} (xn_NoName:aS K aP "NoName" = some (some (.ref A_NoName)))
  (ex_NoName:Pt K A_NoName=true) (kc_NoName:aV K (.ref A_NoName)=true)
  (bs_BelowError:eV K (.ref A_BelowError) "__getattribute__" = some (some (.builtin "type.__getattribute__"))) (br_BelowError:oX K A_BelowError (.type "type")=true) (bf_BelowError:Aep K A_BelowError=true)
  (xt:W4 K ["NoName"] ["BelowError","NoName","ValueError"]=true)
  (xf_word:Afd K ["NoName"] "word" = true)
  (mk_KeptPoints:lM K A_KeptPoints=true) (kc_KeptPoints:aV K (.ref A_KeptPoints)=true)
  (nf_KeptPoints_points:aZ K (.ref A_KeptPoints) "points" = some none)
  (a0:aZ K (.ref A_KeptPoints) "__init__" = some (some (.ref f0))) (i0:cT K (.ref f0)=true) (l0:K.lookup f0=some ⟨oc0,od0,.func (bF "__init__" "KeptPoints.__init__" (Ay Ce) (Aw Ce) (Aj Ce) .none kV0 dc0 pm0 an0 cd0 ct0),sl0⟩) (c0:bC K cd0 "KeptPoints.__init__" = true) (k0:aV K (.ref f0)=true)
  (a1:aZ K (.ref A_NoName) "__init__" = some (some (.ref f1))) (i1:cT K (.ref f1)=true) (l1:K.lookup f1=some ⟨oc1,od1,.func (bF "__init__" "NoName.__init__" (Ay Cz) (Aw Cz) (Aj Cz) .none kV1 dc1 pm1 an1 cd1 ct1),sl1⟩) (c1:bC K cd1 "NoName.__init__" = true) (k1:aV K (.ref f1)=true)
  (a2:aZ K (.ref A_KeptPoints) "put_point" = some (some (.ref f2))) (i2:cT K (.ref f2)=true) (l2:K.lookup f2=some ⟨oc2,od2,.func (bF "put_point" "KeptPoints.put_point" (Ay B5) (Aw B5) (Aj B5) .none kV2 dc2 pm2 an2 cd2 ct2),sl2⟩) (c2:bC K cd2 "KeptPoints.put_point" = true) (k2:aV K (.ref f2)=true)
  (a3:aS K aP "_law_rows" = some (some (.ref f3))) (l3:K.lookup f3=some ⟨oc3,od3,.func (bF "_law_rows" "_law_rows" (Ay J0) (Aw J0) (Aj J0) .none kV3 dc3 pm3 an3 cd3 ct3),sl3⟩) (c3:bC K cd3 "_law_rows" = true) (k3:aV K (.ref f3)=true)
  (a4:aS K aP "_law_afresh" = some (some (.ref f4))) (l4:K.lookup f4=some ⟨oc4,od4,.func (bF "_law_afresh" "_law_afresh" (Ay Gu) (Aw Gu) (Aj Gu) .none kV4 dc4 pm4 an4 cd4 ct4),sl4⟩) (c4:bC K cd4 "_law_afresh" = true) (k4:aV K (.ref f4)=true)
  (a5:aS K aP "_law_draw" = some (some (.ref f5))) (l5:K.lookup f5=some ⟨oc5,od5,.func (bF "_law_draw" "_law_draw" (Ay Jy) (Aw Jy) (Aj Jy) .none kV5 dc5 pm5 an5 cd5 ct5),sl5⟩) (c5:bC K cd5 "_law_draw" = true) (k5:aV K (.ref f5)=true)
  (a6:aS K aP "_law_number" = some (some (.ref f6))) (l6:K.lookup f6=some ⟨oc6,od6,.func (bF "_law_number" "_law_number" (Ay Gk) (Aw Gk) (Aj Gk) .none kV6 dc6 pm6 an6 cd6 ct6),sl6⟩) (c6:bC K cd6 "_law_number" = true) (k6:aV K (.ref f6)=true)
  (a7:aS K aP "_law_near" = some (some (.ref f7))) (l7:K.lookup f7=some ⟨oc7,od7,.func (bF "_law_near" "_law_near" (Ay Kf) (Aw Kf) (Aj Kf) .none kV7 dc7 pm7 an7 cd7 ct7),sl7⟩) (c7:bC K cd7 "_law_near" = true) (k7:aV K (.ref f7)=true)
  (a8:aS K aP "_law_place" = some (some (.ref f8))) (l8:K.lookup f8=some ⟨oc8,od8,.func (bF "_law_place" "_law_place" (Ay Hq) (Aw Hq) (Aj Hq) .none kV8 dc8 pm8 an8 cd8 ct8),sl8⟩) (c8:bC K cd8 "_law_place" = true) (k8:aV K (.ref f8)=true)
  (a9:aS K aP "_law_box" = some (some (.ref f9))) (l9:K.lookup f9=some ⟨oc9,od9,.func (bF "_law_box" "_law_box" (Ay L9) (Aw L9) (Aj L9) .none kV9 dc9 pm9 an9 cd9 ct9),sl9⟩) (c9:bC K cd9 "_law_box" = true) (k9:aV K (.ref f9)=true)
  (a10:aZ K (.ref A_KeptPoints) "need_name" = some (some (.ref f10))) (i10:cT K (.ref f10)=true) (l10:K.lookup f10=some ⟨oc10,od10,.func (bF "need_name" "KeptPoints.need_name" (Ay B8) (Aw B8) (Aj B8) .none kV10 dc10 pm10 an10 cd10 ct10),sl10⟩) (c10:bC K cd10 "KeptPoints.need_name" = true) (k10:aV K (.ref f10)=true)
  (a11:aZ K (.ref A_KeptPoints) "move_point" = some (some (.ref f11))) (i11:cT K (.ref f11)=true) (l11:K.lookup f11=some ⟨oc11,od11,.func (bF "move_point" "KeptPoints.move_point" (Ay Bx) (Aw Bx) (Aj Bx) .none kV11 dc11 pm11 an11 cd11 ct11),sl11⟩) (c11:bC K cd11 "KeptPoints.move_point" = true) (k11:aV K (.ref f11)=true)
  (a12:aZ K (.ref A_KeptPoints) "take_point" = some (some (.ref f12))) (i12:cT K (.ref f12)=true) (l12:K.lookup f12=some ⟨oc12,od12,.func (bF "take_point" "KeptPoints.take_point" (Ay By) (Aw By) (Aj By) .none kV12 dc12 pm12 an12 cd12 ct12),sl12⟩) (c12:bC K cd12 "KeptPoints.take_point" = true) (k12:aV K (.ref f12)=true)
  (a13:aS K aP "_law_deed" = some (some (.ref f13))) (l13:K.lookup f13=some ⟨oc13,od13,.func (bF "_law_deed" "_law_deed" (Ay Jz) (Aw Jz) (Aj Jz) .none kV13 dc13 pm13 an13 cd13 ct13),sl13⟩) (c13:bC K cd13 "_law_deed" = true) (k13:aV K (.ref f13)=true)
  (a14:aS K aP "_law_folded" = some (some (.ref f14))) (l14:K.lookup f14=some ⟨oc14,od14,.func (bF "_law_folded" "_law_folded" (Ay Gp) (Aw Gp) (Aj Gp) .none kV14 dc14 pm14 an14 cd14 ct14),sl14⟩) (c14:bC K cd14 "_law_folded" = true) (k14:aV K (.ref f14)=true)
  (a15:aS K aP "_law_is_refused" = some (some (.ref f15))) (l15:K.lookup f15=some ⟨oc15,od15,.func (bF "_law_is_refused" "_law_is_refused" (Ay Dz) (Aw Dz) (Aj Dz) .none kV15 dc15 pm15 an15 cd15 ct15),sl15⟩) (c15:bC K cd15 "_law_is_refused" = true) (k15:aV K (.ref f15)=true)
  (a16:aS K aP "is_held" = some (some (.ref f16))) (l16:K.lookup f16=some ⟨oc16,od16,.func (bF "is_held" "is_held" (Ay Ho) (Aw Ho) (Aj Ho) .none kV16 dc16 pm16 an16 cd16 ct16),sl16⟩) (c16:bC K cd16 "is_held" = true) (k16:aV K (.ref f16)=true)
  (a17:aS K aP "points_in" = some (some (.ref f17))) (l17:K.lookup f17=some ⟨oc17,od17,.func (bF "points_in" "points_in" (Ay Fs) (Aw Fs) (Aj Fs) .none kV17 dc17 pm17 an17 cd17 ct17),sl17⟩) (c17:bC K cd17 "points_in" = true) (k17:aV K (.ref f17)=true)
  (a18:aS K aP "in_boxes" = some (some (.ref f18))) (l18:K.lookup f18=some ⟨oc18,od18,.func (bF "in_boxes" "in_boxes" (Ay Gj) (Aw Gj) (Aj Gj) .none kV18 dc18 pm18 an18 cd18 ct18),sl18⟩) (c18:bC K cd18 "in_boxes" = true) (k18:aV K (.ref f18)=true)
  (a19:aS K aP "lies_below" = some (some (.ref f19))) (l19:K.lookup f19=some ⟨oc19,od19,.func (bF "lies_below" "lies_below" (Ay Ey) (Aw Ey) (Aj Ey) .none kV19 dc19 pm19 an19 cd19 ct19),sl19⟩) (c19:bC K cd19 "lies_below" = true) (k19:aV K (.ref f19)=true)
  (a20:aS K aP "many_below" = some (some (.ref f20))) (l20:K.lookup f20=some ⟨oc20,od20,.func (bF "many_below" "many_below" (Ay Ew) (Aw Ew) (Aj Ew) .none kV20 dc20 pm20 an20 cd20 ct20),sl20⟩) (c20:bC K cd20 "many_below" = true) (k20:aV K (.ref f20)=true)
  (a21:aS K aP "place_of" = some (some (.ref f21))) (l21:K.lookup f21=some ⟨oc21,od21,.func (bF "place_of" "place_of" (Ay Gs) (Aw Gs) (Aj Gs) .none kV21 dc21 pm21 an21 cd21 ct21),sl21⟩) (c21:bC K cd21 "place_of" = true) (k21:aV K (.ref f21)=true)
  (a22:aS K aP "below_each" = some (some (.ref f22))) (l22:K.lookup f22=some ⟨oc22,od22,.func (bF "below_each" "below_each" (Ay Er) (Aw Er) (Aj Er) .none kV22 dc22 pm22 an22 cd22 ct22),sl22⟩) (c22:bC K cd22 "below_each" = true) (k22:aV K (.ref f22)=true)
  (a23:aS K aP "pairs_in_all" = some (some (.ref f23))) (l23:K.lookup f23=some ⟨oc23,od23,.func (bF "pairs_in_all" "pairs_in_all" (Ay Dp) (Aw Dp) (Aj Dp) .none kV23 dc23 pm23 an23 cd23 ct23),sl23⟩) (c23:bC K cd23 "pairs_in_all" = true) (k23:aV K (.ref f23)=true)
  (a24:aS K aP "_law_due" = some (some (.ref f24))) (l24:K.lookup f24=some ⟨oc24,od24,.func (bF "_law_due" "_law_due" (Ay Mh) (Aw Mh) (Aj Mh) .none kV24 dc24 pm24 an24 cd24 ct24),sl24⟩) (c24:bC K cd24 "_law_due" = true) (k24:aV K (.ref f24)=true)
  (a25:aZ K (.ref A_KeptPoints) "places_now" = some (some (.ref f25))) (i25:cT K (.ref f25)=true) (l25:K.lookup f25=some ⟨oc25,od25,.func (bF "places_now" "KeptPoints.places_now" (Ay Bv) (Aw Bv) (Aj Bv) .none kV25 dc25 pm25 an25 cd25 ct25),sl25⟩) (c25:bC K cd25 "KeptPoints.places_now" = true) (k25:aV K (.ref f25)=true)
  (a26:aS K aP "many_above" = some (some (.ref f26))) (l26:K.lookup f26=some ⟨oc26,od26,.func (bF "many_above" "many_above" (Ay Et) (Aw Et) (Aj Et) .none kV26 dc26 pm26 an26 cd26 ct26),sl26⟩) (c26:bC K cd26 "many_above" = true) (k26:aV K (.ref f26)=true)
  (a27:aZ K (.ref A_KeptPoints) "above_now" = some (some (.ref f27))) (i27:cT K (.ref f27)=true) (l27:K.lookup f27=some ⟨oc27,od27,.func (bF "above_now" "KeptPoints.above_now" (Ay B3) (Aw B3) (Aj B3) .none kV27 dc27 pm27 an27 cd27 ct27),sl27⟩) (c27:bC K cd27 "KeptPoints.above_now" = true) (k27:aV K (.ref f27)=true)
  (a28:aZ K (.ref A_KeptPoints) "below_now" = some (some (.ref f28))) (i28:cT K (.ref f28)=true) (l28:K.lookup f28=some ⟨oc28,od28,.func (bF "below_now" "KeptPoints.below_now" (Ay B7) (Aw B7) (Aj B7) .none kV28 dc28 pm28 an28 cd28 ct28),sl28⟩) (c28:bC K cd28 "KeptPoints.below_now" = true) (k28:aV K (.ref f28)=true)
  (a29:aZ K (.ref A_KeptPoints) "points_now" = some (some (.ref f29))) (i29:cT K (.ref f29)=true) (l29:K.lookup f29=some ⟨oc29,od29,.func (bF "points_now" "KeptPoints.points_now" (Ay Bw) (Aw Bw) (Aj Bw) .none kV29 dc29 pm29 an29 cd29 ct29),sl29⟩) (c29:bC K cd29 "KeptPoints.points_now" = true) (k29:aV K (.ref f29)=true)
  (a30:aZ K (.ref A_KeptPoints) "box_now" = some (some (.ref f30))) (i30:cT K (.ref f30)=true) (l30:K.lookup f30=some ⟨oc30,od30,.func (bF "box_now" "KeptPoints.box_now" (Ay Cj) (Aw Cj) (Aj Cj) .none kV30 dc30 pm30 an30 cd30 ct30),sl30⟩) (c30:bC K cd30 "KeptPoints.box_now" = true) (k30:aV K (.ref f30)=true)
  (a31:aZ K (.ref A_KeptPoints) "pairs_now" = some (some (.ref f31))) (i31:cT K (.ref f31)=true) (l31:K.lookup f31=some ⟨oc31,od31,.func (bF "pairs_now" "KeptPoints.pairs_now" (Ay B4) (Aw B4) (Aj B4) .none kV31 dc31 pm31 an31 cd31 ct31),sl31⟩) (c31:bC K cd31 "KeptPoints.pairs_now" = true) (k31:aV K (.ref f31)=true)
  (a32:aS K aP "_law_told" = some (some (.ref f32))) (l32:K.lookup f32=some ⟨oc32,od32,.func (bF "_law_told" "_law_told" (Ay Kd) (Aw Kd) (Aj Kd) .none kV32 dc32 pm32 an32 cd32 ct32),sl32⟩) (c32:bC K cd32 "_law_told" = true) (k32:aV K (.ref f32)=true)
  (a33:aS K aP "_law_looked_right" = some (some (.ref f33))) (l33:K.lookup f33=some ⟨oc33,od33,.func (bF "_law_looked_right" "_law_looked_right" (Ay C8) (Aw C8) (Aj C8) .none kV33 dc33 pm33 an33 cd33 ct33),sl33⟩) (c33:bC K cd33 "_law_looked_right" = true) (k33:aV K (.ref f33)=true)
  (a34:aS K aP "_law_names" = some (some (.ref f34))) (l34:K.lookup f34=some ⟨oc34,od34,.func (bF "_law_names" "_law_names" (Ay Hn) (Aw Hn) (Aj Hn) .none kV34 dc34 pm34 an34 cd34 ct34),sl34⟩) (c34:bC K cd34 "_law_names" = true) (k34:aV K (.ref f34)=true)
  (a35:aS K aP "_law_seed" = some (some (.ref f35))) (l35:K.lookup f35=some ⟨oc35,od35,.func (bF "_law_seed" "_law_seed" (Ay Jo) (Aw Jo) (Aj Jo) .none kV35 dc35 pm35 an35 cd35 ct35),sl35⟩) (c35:bC K cd35 "_law_seed" = true) (k35:aV K (.ref f35)=true)
  (a36:aS K aP "law" = some (some (.ref f36))) (l36:K.lookup f36=some ⟨oc36,od36,.func (bF "law" "law" (Ay Ng) (Aw Ng) (Aj Ng) .none kV36 dc36 pm36 an36 cd36 ct36),sl36⟩) (c36:bC K cd36 "law" = true) (k36:aV K (.ref f36)=true)
  (z_all:aS K aP "all" = some none)
  (z_int:aS K aP "int" = some none)
  (z_len:aS K aP "len" = some none)
  (z_list:aS K aP "list" = some none)
  (z_max:aS K aP "max" = some none)
  (z_min:aS K aP "min" = some none)
  (z_range:aS K aP "range" = some none)
  (z_sum:aS K aP "sum" = some none)
  (z_tuple:aS K aP "tuple" = some none)
  (z_zip:aS K aP "zip" = some none) :
  ∃ fd:bL,(∀ (s:aJ) (v:aE),kJ s fd ⟨[v],[]⟩ [("script",v)])/\∀ base:Heap,K.In base->base.Ns aP mg->FnOk l.prog w K mg base CX0 8 fa fd ["script"] (spF K 1 Tj):=by
 have e:=hfa.symm.trans (bS X G a36)
 cases e
 have F0:=Bt (st:=Ce) l0 c0 k0
 have b0:=F0.binds (ps:=["self"]) fun _ _ _ _ _ _=>O1 (fun _=>rfl)
 have F1:=Bt (st:=Cz) l1 c1 k1
 have b1:=F1.binds (ps:=["self","word"]) fun _ _ _ _ _ _=>Lc (fun _ _=>rfl)
 have F2:=Bt (st:=B5) l2 c2 k2
 have b2:=F2.binds (ps:=["self","name","x","y"]) fun _ _ _ _ _ _=>Af5 (fun _ _ _ _=>rfl)
 have F3:=Bt (st:=J0) l3 c3 k3
 have b3:=F3.binds (ps:=["there"]) fun _ _ _ _ _ _=>O1 (fun _=>rfl)
 have F4:=Bt (st:=Gu) l4 c4 k4
 have b4:=F4.binds (ps:=["there"]) fun _ _ _ _ _ _=>O1 (fun _=>rfl)
 have F5:=Bt (st:=Jy) l5 c5 k5
 have b5:=F5.binds (ps:=["seed","most"]) fun _ _ _ _ _ _=>Lc (fun _ _=>rfl)
 have F6:=Bt (st:=Gk) l6 c6 k6
 have b6:=F6.binds (ps:=["seed","way"]) fun _ _ _ _ _ _=>Lc (fun _ _=>rfl)
 have F7:=Bt (st:=Kf) l7 c7 k7
 have b7:=F7.binds (ps:=["seed","numbers"]) fun _ _ _ _ _ _=>Lc (fun _ _=>rfl)
 have F8:=Bt (st:=Hq) l8 c8 k8
 have b8:=F8.binds (ps:=["seed","points"]) fun _ _ _ _ _ _=>Lc (fun _ _=>rfl)
 have F9:=Bt (st:=L9) l9 c9 k9
 have b9:=F9.binds (ps:=["seed","points"]) fun _ _ _ _ _ _=>Lc (fun _ _=>rfl)
 have F10:=Bt (st:=B8) l10 c10 k10
 have b10:=F10.binds (ps:=["self","name"]) fun _ _ _ _ _ _=>Lc (fun _ _=>rfl)
 have F11:=Bt (st:=Bx) l11 c11 k11
 have b11:=F11.binds (ps:=["self","name","x","y"]) fun _ _ _ _ _ _=>Af5 (fun _ _ _ _=>rfl)
 have F12:=Bt (st:=By) l12 c12 k12
 have b12:=F12.binds (ps:=["self","name"]) fun _ _ _ _ _ _=>Lc (fun _ _=>rfl)
 have F13:=Bt (st:=Jz) l13 c13 k13
 have b13:=F13.binds (ps:=["seed","kept","there","names"]) fun _ _ _ _ _ _=>Af5 (fun _ _ _ _=>rfl)
 have F14:=Bt (st:=Gp) l14 c14 k14
 have b14:=F14.binds (ps:=["script"]) fun _ _ _ _ _ _=>O1 (fun _=>rfl)
 have F15:=Bt (st:=Dz) l15 c15 k15
 have b15:=F15.binds (ps:=["seed","kept","there"]) fun _ _ _ _ _ _=>Aca (fun _ _ _=>rfl)
 have F16:=Bt (st:=Ho) l16 c16 k16
 have b16:=F16.binds (ps:=["point","box"]) fun _ _ _ _ _ _=>Lc (fun _ _=>rfl)
 have F17:=Bt (st:=Fs) l17 c17 k17
 have b17:=F17.binds (ps:=["points","box"]) fun _ _ _ _ _ _=>Lc (fun _ _=>rfl)
 have F18:=Bt (st:=Gj) l18 c18 k18
 have b18:=F18.binds (ps:=["points","boxes"]) fun _ _ _ _ _ _=>Lc (fun _ _=>rfl)
 have F19:=Bt (st:=Ey) l19 c19 k19
 have b19:=F19.binds (ps:=["one","other"]) fun _ _ _ _ _ _=>Lc (fun _ _=>rfl)
 have F20:=Bt (st:=Ew) l20 c20 k20
 have b20:=F20.binds (ps:=["places","place"]) fun _ _ _ _ _ _=>Lc (fun _ _=>rfl)
 have F21:=Bt (st:=Gs) l21 c21 k21
 have b21:=F21.binds (ps:=["point"]) fun _ _ _ _ _ _=>O1 (fun _=>rfl)
 have F22:=Bt (st:=Er) l22 c22 k22
 have b22:=F22.binds (ps:=["points"]) fun _ _ _ _ _ _=>O1 (fun _=>rfl)
 have F23:=Bt (st:=Dp) l23 c23 k23
 have b23:=F23.binds (ps:=["points"]) fun _ _ _ _ _ _=>O1 (fun _=>rfl)
 have F24:=Bt (st:=Mh) l24 c24 k24
 have b24:=F24.binds (ps:=["points","way","here"]) fun _ _ _ _ _ _=>Aca (fun _ _ _=>rfl)
 have F25:=Bt (st:=Bv) l25 c25 k25
 have b25:=F25.binds (ps:=["self"]) fun _ _ _ _ _ _=>O1 (fun _=>rfl)
 have F26:=Bt (st:=Et) l26 c26 k26
 have b26:=F26.binds (ps:=["places","place"]) fun _ _ _ _ _ _=>Lc (fun _ _=>rfl)
 have F27:=Bt (st:=B3) l27 c27 k27
 have b27:=F27.binds (ps:=["self","x","y"]) fun _ _ _ _ _ _=>Aca (fun _ _ _=>rfl)
 have F28:=Bt (st:=B7) l28 c28 k28
 have b28:=F28.binds (ps:=["self","x","y"]) fun _ _ _ _ _ _=>Aca (fun _ _ _=>rfl)
 have F29:=Bt (st:=Bw) l29 c29 k29
 have b29:=F29.binds (ps:=["self"]) fun _ _ _ _ _ _=>O1 (fun _=>rfl)
 have F30:=Bt (st:=Cj) l30 c30 k30
 have b30:=F30.binds (ps:=["self","box"]) fun _ _ _ _ _ _=>Lc (fun _ _=>rfl)
 have F31:=Bt (st:=B4) l31 c31 k31
 have b31:=F31.binds (ps:=["self"]) fun _ _ _ _ _ _=>O1 (fun _=>rfl)
 have F32:=Bt (st:=Kd) l32 c32 k32
 have b32:=F32.binds (ps:=["kept","way","here"]) fun _ _ _ _ _ _=>Aca (fun _ _ _=>rfl)
 have F33:=Bt (st:=C8) l33 c33 k33
 have b33:=F33.binds (ps:=["seed","kept","there","places","boxes"]) fun _ _ _ _ _ _=>An1 (fun _ _ _ _ _=>rfl)
 have F34:=Bt (st:=Hn) l34 c34 k34
 have b34:=F34.binds (ps:=["seed","many"]) fun _ _ _ _ _ _=>Lc (fun _ _=>rfl)
 have F35:=Bt (st:=Jo) l35 c35 k35
 have b35:=F35.binds (ps:=["cell"]) fun _ _ _ _ _ _=>O1 (fun _=>rfl)
 have F36:=Bt (st:=Ng) l36 c36 k36
 have b36:=F36.binds (ps:=["script"]) fun _ _ _ _ _ _=>O1 (fun _=>rfl)
 let C:Defs K mg:={ ue:=_,uf:=_,ug:=F0,uh:=b0,xS:=⟨mk_KeptPoints,a0,i0,kc_KeptPoints⟩,xT:=bS X G aC_KeptPoints,ui:=_,uj:=_,uk:=F1,ul:=b1,xY:=⟨ex_NoName,a1,i1,kc_NoName⟩,um:=_,uo:=_,uq:=F2,ur:=b2,ut:=⟨a2,i2,k2⟩,uu:=_,uv:=_,uw:=F3,ux:=b3,uy:=bS X G a3,uz:=_,uA:=_,uB:=F4,uC:=b4,uD:=bS X G a4,uE:=_,uF:=_,uG:=F5,uH:=b5,uI:=bS X G a5,uJ:=_,uK:=_,uL:=F6,uM:=b6,uN:=bS X G a6,uO:=_,uP:=_,uQ:=F7,uR:=b7,uS:=bS X G a7,uT:=_,uU:=_,uV:=F8,uW:=b8,uX:=bS X G a8,uY:=_,uZ:=_,u4:=F9,u5:=b9,u6:=bS X G a9,u7:=_,u8:=_,u9:=F10,va:=b10,vb:=⟨a10,i10,k10⟩,vc:=_,vd:=_,ve:=F11,vf:=b11,vg:=⟨a11,i11,k11⟩,vh:=_,vi:=_,vj:=F12,vk:=b12,vm:=⟨a12,i12,k12⟩,vn:=_,vo:=_,vp:=F13,vq:=b13,vt:=bS X G a13,vv:=_,vw:=_,vy:=F14,vz:=b14,vA:=bS X G a14,vB:=_,vC:=_,vD:=F15,vE:=b15,vF:=bS X G a15,vG:=_,vH:=_,vI:=F16,vJ:=b16,vK:=bS X G a16,vL:=_,vM:=_,vN:=F17,vO:=b17,vP:=bS X G a17,vQ:=_,vR:=_,vS:=F18,vT:=b18,vU:=bS X G a18,vV:=_,vW:=_,vX:=F19,vY:=b19,vZ:=bS X G a19,v8:=_,v9:=_,wc:=F20,wd:=b20,we:=bS X G a20,wf:=_,wg:=_,wj:=F21,wk:=b21,wl:=bS X G a21,wm:=_,wn:=_,wo:=F22,wq:=b22,wt:=bS X G a22,wu:=_,wv:=_,ww:=F23,wx:=b23,wy:=bS X G a23,wz:=_,wA:=_,wB:=F24,wC:=b24,wD:=bS X G a24,wE:=_,wF:=_,wG:=F25,wH:=b25,wI:=⟨a25,i25,k25⟩,wJ:=_,wK:=_,wL:=F26,wM:=b26,wN:=bS X G a26,wO:=_,wP:=_,wQ:=F27,wR:=b27,wS:=⟨a27,i27,k27⟩,wT:=_,wU:=_,wV:=F28,wW:=b28,wX:=⟨a28,i28,k28⟩,wY:=_,wZ:=_,w4:=F29,w5:=b29,w6:=⟨a29,i29,k29⟩,w9:=_,xa:=_,xf:=F30,xg:=b30,xh:=⟨a30,i30,k30⟩,xi:=_,xj:=_,xk:=F31,xm:=b31,xn:=⟨a31,i31,k31⟩,xo:=_,xp:=_,xq:=F32,xu:=b32,xw:=bS X G a32,xx:=_,xy:=_,xz:=F33,xA:=b33,xB:=bS X G a33,xC:=_,xD:=_,xE:=F34,xF:=b34,xG:=bS X G a34,xH:=_,xI:=_,xJ:=F35,xK:=b35,xL:=bS X G a35,xN:=_,xO:=_,xP:=F36,xQ:=b36,xR:=bS X G a36,ua:=_,ub:=⟨aC_KeptPoints,⟨pg_KeptPoints,hd_KeptPoints,po_KeptPoints,sa_KeptPoints⟩⟩,uc:=_,xU:=xn_BelowError,xV:=bS X G xn_BelowError,ud:=_,xW:=xn_NoName,xX:=bS X G xn_NoName,xZ:=⟨bs_BelowError,br_BelowError,bf_BelowError⟩,ya:=xt,yb:=xf_word,yc:=nf_KeptPoints_points,yd:=cW X G z_all,ye:=cW X G z_int,yf:=cW X G z_len,yg:=cW X G z_list,yh:=cW X G z_max,yi:=cW X G z_min,yj:=cW X G z_range,yk:=cW X G z_sum,yl:=cW X G z_tuple,ym:=cW X G z_zip }
 refine ⟨bF "law" "law" (Ay Ng) (Aw Ng) (Aj Ng) .none kV36 dc36 pm36 an36 cd36 ct36,fun s v=>.of_eq rfl,fun base _ _=>?_⟩
 exact Ajq C
theorem An4{l:iR}{q:bP}{loose:List Str}{XP:(Str->Option aE)->Heap->Prop}{YP:cE->Heap->Prop}{d:DefRec}{K:Params->aC}(hn:l.most=some 63)(hdf:d.params.defaults=[])
  (hY:∀ (w:cE) (h:Heap),YP w h->(K w.params).In h)
  (F:∀ (w:cE) (mg:Str->Option aE) (fa:Addr) (h:Heap),(K w.params).In h->h.Ns aP mg->mg d.name=some (.ref fa) ->
   ∃ fd:bL,(∀ (s:aJ) (u:aE),kJ s fd ⟨[u],[]⟩ [("script",u)])/\∀ base:Heap,(K w.params).In base->base.Ns aP mg->FnOk l.prog w (K w.params) mg base CX0 8 fa fd ["script"] (spF (K w.params) 1 Tj)) :
  pP q loose XP YP l.row.toRowW d [] (fun f vs=>pF f vs):=
 L2.Aic (n:=63) (k:=8) (x := "script") (CX:=fun _=>CX0) (sp:=fun w=>spF (K w.params) 1 Tj) hn (by decide) hdf ⟨rfl,by decide,by decide⟩ hY F (fun w H a ns hl ho hS=>Aj5 ho hS (Ae6 ns hl)) fun _ _ _ _ _ z=>z
end Lw
open PySem PySem.W PyProof.Rows
set_option maxRecDepth 100000 in
set_option maxHeartbeats 0 in
theorem PySem.Challenge.cw_belowpoints_k46_whole_two_kept_points_holds : PySem.Challenge.rw_belowpoints_k46_whole_two_kept_points.Holds := by
  w_on; o_law; k_head; (case hw => w_witness2)
  k_fill
  refine Lw.An4 (l := PySem.Challenge.rw_belowpoints_k46_whole_two_kept_points) rfl rfl (fun w h Y => PySem.W.kIn_of Y) ?F
  case F =>
    intro w mg fa h KX G hmg
    refine' Lw.Aj4 KX G hmg ?aC_KeptPoints ?pg_KeptPoints ?hd_KeptPoints ?po_KeptPoints ?sa_KeptPoints ?xn_BelowError ?xn_NoName ?ex_NoName ?kc_NoName ?bs_BelowError ?br_BelowError ?bf_BelowError ?xt ?xf_word ?mk_KeptPoints ?kc_KeptPoints ?nf_KeptPoints_points ?a0 ?i0 ?l0 ?c0 ?k0 ?a1 ?i1 ?l1 ?c1 ?k1 ?a2 ?i2 ?l2 ?c2 ?k2 ?a3 ?l3 ?c3 ?k3 ?a4 ?l4 ?c4 ?k4 ?a5 ?l5 ?c5 ?k5 ?a6 ?l6 ?c6 ?k6 ?a7 ?l7 ?c7 ?k7 ?a8 ?l8 ?c8 ?k8 ?a9 ?l9 ?c9 ?k9 ?a10 ?i10 ?l10 ?c10 ?k10 ?a11 ?i11 ?l11 ?c11 ?k11 ?a12 ?i12 ?l12 ?c12 ?k12 ?a13 ?l13 ?c13 ?k13 ?a14 ?l14 ?c14 ?k14 ?a15 ?l15 ?c15 ?k15 ?a16 ?l16 ?c16 ?k16 ?a17 ?l17 ?c17 ?k17 ?a18 ?l18 ?c18 ?k18 ?a19 ?l19 ?c19 ?k19 ?a20 ?l20 ?c20 ?k20 ?a21 ?l21 ?c21 ?k21 ?a22 ?l22 ?c22 ?k22 ?a23 ?l23 ?c23 ?k23 ?a24 ?l24 ?c24 ?k24 ?a25 ?i25 ?l25 ?c25 ?k25 ?a26 ?l26 ?c26 ?k26 ?a27 ?i27 ?l27 ?c27 ?k27 ?a28 ?i28 ?l28 ?c28 ?k28 ?a29 ?i29 ?l29 ?c29 ?k29 ?a30 ?i30 ?l30 ?c30 ?k30 ?a31 ?i31 ?l31 ?c31 ?k31 ?a32 ?l32 ?c32 ?k32 ?a33 ?l33 ?c33 ?k33 ?a34 ?l34 ?c34 ?k34 ?a35 ?l35 ?c35 ?k35 ?a36 ?l36 ?c36 ?k36 ?z_all ?z_int ?z_len ?z_list ?z_max ?z_min ?z_range ?z_sum ?z_tuple ?z_zip
    (case aC_KeptPoints => k_is)
    (case pg_KeptPoints => k_is)
    (case hd_KeptPoints => k_is)
    (case po_KeptPoints => k_is)
    (case sa_KeptPoints => k_is)
    (case xn_BelowError => k_is)
    (case xn_NoName => k_is)
    (case ex_NoName => kernel_rfl)
    (case kc_NoName => k_is)
    (case bs_BelowError => k_is)
    (case br_BelowError => k_is)
    (case bf_BelowError => kernel_rfl)
    (case xt => kernel_rfl)
    (case xf_word => kernel_rfl)
    (case mk_KeptPoints => k_is)
    (case kc_KeptPoints => k_is)
    (case nf_KeptPoints_points => k_is)
    (case a0 => k_is); (case i0 => k_is)
    (case l0 => k_is); (case c0 => k_is); (case k0 => k_is)
    (case a1 => k_is); (case i1 => k_is)
    (case l1 => k_is); (case c1 => k_is); (case k1 => k_is)
    (case a2 => k_is); (case i2 => k_is)
    (case l2 => k_is); (case c2 => k_is); (case k2 => k_is)
    (case a3 => k_is); (case l3 => k_is); (case c3 => k_is); (case k3 => k_is)
    (case a4 => k_is); (case l4 => k_is); (case c4 => k_is); (case k4 => k_is)
    (case a5 => k_is); (case l5 => k_is); (case c5 => k_is); (case k5 => k_is)
    (case a6 => k_is); (case l6 => k_is); (case c6 => k_is); (case k6 => k_is)
    (case a7 => k_is); (case l7 => k_is); (case c7 => k_is); (case k7 => k_is)
    (case a8 => k_is); (case l8 => k_is); (case c8 => k_is); (case k8 => k_is)
    (case a9 => k_is); (case l9 => k_is); (case c9 => k_is); (case k9 => k_is)
    (case a10 => k_is); (case i10 => k_is)
    (case l10 => k_is); (case c10 => k_is); (case k10 => k_is)
    (case a11 => k_is); (case i11 => k_is)
    (case l11 => k_is); (case c11 => k_is); (case k11 => k_is)
    (case a12 => k_is); (case i12 => k_is)
    (case l12 => k_is); (case c12 => k_is); (case k12 => k_is)
    (case a13 => k_is); (case l13 => k_is); (case c13 => k_is); (case k13 => k_is)
    (case a14 => k_is); (case l14 => k_is); (case c14 => k_is); (case k14 => k_is)
    (case a15 => k_is); (case l15 => k_is); (case c15 => k_is); (case k15 => k_is)
    (case a16 => k_is); (case l16 => k_is); (case c16 => k_is); (case k16 => k_is)
    (case a17 => k_is); (case l17 => k_is); (case c17 => k_is); (case k17 => k_is)
    (case a18 => k_is); (case l18 => k_is); (case c18 => k_is); (case k18 => k_is)
    (case a19 => k_is); (case l19 => k_is); (case c19 => k_is); (case k19 => k_is)
    (case a20 => k_is); (case l20 => k_is); (case c20 => k_is); (case k20 => k_is)
    (case a21 => k_is); (case l21 => k_is); (case c21 => k_is); (case k21 => k_is)
    (case a22 => k_is); (case l22 => k_is); (case c22 => k_is); (case k22 => k_is)
    (case a23 => k_is); (case l23 => k_is); (case c23 => k_is); (case k23 => k_is)
    (case a24 => k_is); (case l24 => k_is); (case c24 => k_is); (case k24 => k_is)
    (case a25 => k_is); (case i25 => k_is)
    (case l25 => k_is); (case c25 => k_is); (case k25 => k_is)
    (case a26 => k_is); (case l26 => k_is); (case c26 => k_is); (case k26 => k_is)
    (case a27 => k_is); (case i27 => k_is)
    (case l27 => k_is); (case c27 => k_is); (case k27 => k_is)
    (case a28 => k_is); (case i28 => k_is)
    (case l28 => k_is); (case c28 => k_is); (case k28 => k_is)
    (case a29 => k_is); (case i29 => k_is)
    (case l29 => k_is); (case c29 => k_is); (case k29 => k_is)
    (case a30 => k_is); (case i30 => k_is)
    (case l30 => k_is); (case c30 => k_is); (case k30 => k_is)
    (case a31 => k_is); (case i31 => k_is)
    (case l31 => k_is); (case c31 => k_is); (case k31 => k_is)
    (case a32 => k_is); (case l32 => k_is); (case c32 => k_is); (case k32 => k_is)
    (case a33 => k_is); (case l33 => k_is); (case c33 => k_is); (case k33 => k_is)
    (case a34 => k_is); (case l34 => k_is); (case c34 => k_is); (case k34 => k_is)
    (case a35 => k_is); (case l35 => k_is); (case c35 => k_is); (case k35 => k_is)
    (case a36 => k_is); (case l36 => k_is); (case c36 => k_is); (case k36 => k_is)
    (case z_all => k_is)
    (case z_int => k_is)
    (case z_len => k_is)
    (case z_list => k_is)
    (case z_max => k_is)
    (case z_min => k_is)
    (case z_range => k_is)
    (case z_sum => k_is)
    (case z_tuple => k_is)
    (case z_zip => k_is)
