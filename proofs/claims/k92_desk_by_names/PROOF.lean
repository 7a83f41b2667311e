import PyProof.Rows.All
import Wide.All
import OpenK.AllK
import Wide.FinOn
import Lean
import PyProof.EqAt
import PyProof.EqKinds
import PyProof.TupleCall
import KE.KTurnsDict
import KE.KPairComp
import KE.KTryMore
import PyProof.ExcInit
import KE.KIsNot
import KE.KIntText
import PyProof.ReprStr
import PyProof.StrLawsRepr
import KE.KDictList
import KE.KEqDict
import PySem.Challenge.RW_belowpoints_k92_desk_by_names
set_option Elab.async false
set_option linter.all false
set_option maxRecDepth 100000
set_option maxHeartbeats 4000000
open PySem.W renaming Frag->aA,nsIn->aK,findIn->aQ,keepIn->aT,fnOf->bA,codeIn->bC,mg_of->bF,boot_o_0->bY,piecesOf->cD,piece_app->cH,segRun_of->cI,segRunT->cK,mg_none_of->cT,isFn->cV,emptyDict->cW,BT->dF,boot_heap->dH,hasDictIn->dP,instObj->dS,specialIn->eP,InstAt->eT,plainGet->eU,methodCall_KW->fL,looks_findIn->fP,any_some->fS,plainOver->gU,topFrame->iE,OpenLaw->iJ,makesIn->iO,findObj->iU,plainGet_of->iW,lookIn->jH,callWith_K->jJ,boot_drawn->jQ,topRun->jR,methodObj->jT,boot_toks->jZ,cellsFrom_some->kT,takerIn->lC,takesIn->lD,typeIn->lU,exmOne->mD,kitOne->mE,notCls->mG,findObj_own->mI,looks_clsIn->mJ,callWith_K0->mK,mroIn->mO,check_slot->nD,set_plain->nI,handed_on->nU,handedIn->nY,boot_o_3->oK,findCls->oS,readsIn->oU,topStub->oY,blockOf->oZ,segRun->pL,restOf->pM,WalkO->pO,subIn->pQ,clsIn->pR,recOk->pT,xlAt->pY
open Option renaming bind_eq_some_iff->aB,bind_some->aF,map_eq_some_iff->aH,map_some->aJ,join_some->bN,isSome_map->gZ,getD_some->kK,none->qE
open PySem renaming Value->aC,wpAny_bind->aE,Shared->aG,mainGlobals->aI,starEach->aL,wpAny_pure->aP,Program->aW,FuncData->bE,World->bG,treeTable->bQ,Around->bZ,wpAny_newObj_type->cQ,wpAny_field->cS,compareOp->cZ,wpAny_mono->dI,wpAny_callSpecial?_slot->dQ,OsState->dR,bootBuiltins->dX,IsPair->eA,wpAny_Call_Name_kw->eE,wpAny_seqItems->eI,wpAny_setField_rec->eJ,wpAny_truthy_bool->eO,mem_of_lookup->eS,wpAny_call_entry->eW,wpAny_getItem_str_slice->eX,Keyword->eZ,boot_len->fR,Env->fV,NameKind->gC,wpAny_passesOwn->gF,wpAny_pyIter_tuple->gI,wpAny_call->gJ,Scope->gR,codeAny_mono->gW,plainObj_wpAny_Assign_Attribute->hW,codeAny->iF,wpAny_holding->iG,wpAny_updateSeq_pair->iK,codeAny_call_builtin->iL,post_val_or_str->iT,IsZip->iY,Builtin->jC,GenState->jF,typeIs_str->jL,intText?->jP,wpAny_pyIter_list->jU,wpAny_loadPart_at->jX,Params->kB,wpAny_onRaise->kC,wpAny_attempt->kD,wpAny_pyIter_zip->kJ,BindsTo->kS,wpAny_execs_nil->lB,codeAny_builtin->lJ,sizeLine_eq->lQ,wpAny_loadPart->lR,ZipApart->lW,wpAny_setField->lX,wpAny_letGo->lZ,builtinsNs->mW,IsPart->mX,tupleKind_room_in1->nB,call_meets->nE,Within->nH,slot_list_getitem->nO,wpAny_Call_method->nV,wpAny_execs_cons->nX,wpAny_lookBehind->nZ,pastItsLine_dict->oA,DictEntry->oC,refuseLoop->oI,Paired->pB,wpAny_Name->pC,binaryOp->pD,call->pE,PyData->pF,wpAny_rule->pG
open PySem.Heap renaming get?_push_of_some->aD,lt_size->aO,get?_push_size->aR,size_push->cP,get?_update_self->fM,SameBut->gS,get?_update_other->hG,ExtBut->lY,IsTuple->nR
open List renaming map_cons->aM,getElem?_cons_zero->aV,getElem?_eq_some_iff->aX,getElem?_append_left->aY,length_cons->bB,mem_cons_of_mem->bD,lookup_cons->bI,mem_cons_self->bK,mem_append_right->bL,all_eq_true->bM,getElem?_eq_none_iff->bO,getElem?_cons_succ->bP,size_toArray->bS,append_nil->bT,length_nil->bU,mem_cons->bV,map_nil->bW,replicate_zero->cB,getElem?_set_ne->cG,getElem?_append_right->cL,length_map->cO,append_assoc->cR,getElem?_set_self->cU,lookup->cX,getElem?_map->cY,getElem?_eq_getElem->dD,replicate->dG,any_cons->dM,mem_append_left->dO,find?_cons->dU,not_mem_nil->eD,length_append->eF,getD_eq_getElem?_getD->eL,mem_of_getElem?->eQ,take_of_length_le->fB,map_map->fF,Nodup->fG,mem_append->fH,range->fO,mem_range->gQ,reverse_cons->gY,filter_cons->iB,length->iH,mem_filter->iN,nodup_cons->iP,forIn_cons->iQ,filterMap_cons->iV,filter_eq_self->iZ,mem_singleton->jM,filter->jY,length_take->kH,length_drop->kI,cons_append->kO,of_mem_zip->lF,map_append->lK,replicate_succ->mL,getElem_of_mem->mM,all_cons->mP,set_cons_zero->nF,flatten_cons->nP,zipIdx_cons->oE,zipIdx_nil->oO,nil_append->oV,forIn_nil->pH,mem_map->pX
open PySem.W.Fast renaming te14364793385576792824->aN,te10110043849684766642->aU,te5923862056798008813->gK
open Nat renaming lt_of_lt_of_le->aS,le_refl->aZ,ne_of_lt->bR,le_trans->cF,lt_irrefl->dB,sub_self->dN,lt_succ_self->eV,ne_of_gt->gT,zero_le->jV,toDigits_of_lt_base->kP,le_of_lt->kR,toDigits->kZ,le_succ->lV,lt_of_le_of_lt->nA,le_of_eq->nK,le_add_right->oH,strongRecOn->oW,toList_repr->oX,not_lt->pJ
open PySem.Value renaming ref->bH,none->gH,str->kF,type->kQ,builtin->mS,int->nW,bool->pA,isStrOf->pN,isInt->pZ,bytes->qA,float->qB
open Option.some renaming inj->bJ
open PySem.Builtin.SmallTypes renaming nextOf->bX,ownedTupleIsFree->dE,ownedTupleHandOut->fY
open PySem.Builtin.Str renaming occurrences->cA,strSliceIndices->eB,strKind->fZ
open Bool renaming and_eq_true->cC,false_ne_true->cN,false_eq_true->dL,and_eq_true_iff->eR,eq_iff_iff->lH,and_false->mF,false_or->pP,not_true->pS
open False renaming elim->cJ
open PySem.PyData renaming eqv->cM,canLay0->eK,depth->fD,eqvAll->gD,strOk->kY,canLayAll0->nT,depthAll->oR,keyHash->pK,list->qG
open PySem.Txt renaming split->dA,lstripChars->fJ,startswith->hU,slice->iC,join->pI
open PySem.Builtin.Tuple renaming tupleExact->dC
open PySem.W.Looks renaming here->dJ
open Sum renaming inr->dW,inl->mH
open PyProof.Rows renaming callWith_type1->dY,slot_tuple_getitem->iA,AllBare->jA,IntsAre->kU,subscriptTail_builtinR->kW,boot_all->lN,boot_sum->lP
open PySem.SeqAt renaming shaped->dZ,EqAt->qH
open PySem.F renaming plainAttrs_str->eC,slot_tuple_iterator_next->eG,slot_str_split->fE,args_str_split_2->gE,entry_str_split->gL,args_tuple_iterator_next_1->iR,slot_zip_next->iS,entry_tuple_iterator_next->jB,slot_str_startswith->jD,type_str_startswith->jE,excBase_ValueError->jO,slot_dict_values->kE,plain_list_iadd->kL,plain_tuple_new->kM,plainAttrs_dict->kN,slot_dict_get->lM,args_object_init_3->mC,args_zip_next_1->nQ,entry_zip_next->oF,typeCall_zip_2->oG,newCall_zip_2->oP,entry_zip_new->oQ
open PySem.Builtin.Slice renaming slicePlaces->eN,sliceAdjust->fW,sliceApplied->jK
open Ne renaming symm->eY
open PySem.Calls renaming callWith_builtin->fA,evalArgs_plain->iI,Name_function_global->jG,spliced_cons->jI,spliced_nil->jW
open ForInStep renaming yield->fI
open PySem.NameKind renaming free->fK,cell->mQ
open PySem.Str renaming cps->fN,empty->fT,ofString->fU,join->hV,length->mY
open True renaming intro->fQ
open Array renaming length_toList->fX,getElem?_eq_getElem->jS,append_assoc->mV,all_toList->oJ,toList->pU
open List.cons renaming injEq->gG
open PySem.Builtin.ObjectAttr renaming storeInOwnDict->gO,storeInDict->iD
open Int renaming toNat_natCast->gX,natCast_nonneg->mZ,max_eq_right->oB,min_eq_left->oN,ofNat_le->pV
open PySem.Around renaming under_plainId->iM,under->nM
open PySem.Heap.SameBut renaming update->iX
open PySem.Obj renaming data_mapFields->jN,mapSeq->kX,isFreed_of_fields->lL,mapFields->mR
open PySem.Paired renaming length->kA,snoc->qF
open PySem.Shared renaming heap->mB
open PySem.W.SharedT renaming abs->mN
open PySem.SeqAt.EqAt renaming int_str->mT,str_int->mU
open PySem.Code renaming quiet_builtin->nC,isFrame->nN,frames->qC
open Char renaming toNat->nG
open PySem.Within renaming cons->nJ
open PySem.Heap.Ns1 renaming of_empty->nL
open PySem.Heap.IsTuple renaming push->nS
open Prod.mk renaming inj->oM
open Or renaming inr->pW
open Prod renaming ext->qD
open PySem.W.WShape renaming has->qI
namespace L2
open PySem PySem.Spec PyProof.Rows
abbrev Key:=Sum Int Str
noncomputable def Pm:Key->aC->Bool
 | .inl k,v=>pZ k v
 | .inr x,v=>pN x v
noncomputable def Anc(w:bG):Key->Int
 | .inl k=>hashInt k
 | .inr x=>hashStr w x
theorem Br:∀ {k:Key} {v:aC},Pm k v=true->(∃ i t,k=mH i/\v=nW i t)\/(∃ x t,k=dW x/\v=kF x t)
 | .inl i,v,h=>by
  obtain ⟨t,e⟩:=aC.isInt_shape (k:=i) (v:=v) h
  exact .inl ⟨i,t,rfl,e⟩
 | .inr x,v,h=>by
  obtain ⟨t,e⟩:=aC.isStrOf_shape (x:=x) (v:=v) h
  exact .inr ⟨x,t,rfl,e⟩
theorem Xd(i:Int)(t:Tok):Pm (.inl i) (.int i t)=true:=by simp[Pm,pZ]
theorem Yc(x:Str)(t:Tok):Pm (.inr x) (.str x t)=true:=by simp[Pm,pN]
theorem Ai9(a b:Int):decide ((mH a:Key)=mH b)=(a == b):=by
 by_cases e:a=b
 ·subst e;simp
 ·have h:¬ (mH a:Key)=mH b:=fun q=>e (mH.inj q)
  rw[decide_eq_false h]
  exact (beq_eq_false_iff_ne.mpr e).symm
theorem Ajd(a b:Str):decide ((dW a:Key)=dW b)=decide (a=b):=by
 by_cases e:a=b
 ·subst e;simp
 ·have h:¬ (dW a:Key)=dW b:=fun q=>e (dW.inj q)
  rw[decide_eq_false h,decide_eq_false e]
theorem Ahp(a:Int)(b:Str):decide ((mH a:Key)=dW b)=false:=decide_eq_false (fun q=>nomatch q)
theorem Aht(a:Str)(b:Int):decide ((dW a:Key)=mH b)=false:=decide_eq_false (fun q=>nomatch q)
noncomputable def Bg(prog:aW)(w:bG):PySem.KeyKind prog w Key where
 is:=Pm
 hash:=Anc w
 inj:=fun v a b ha hb=>by
  rcases Br ha with ⟨i,t,rfl,rfl⟩ | ⟨x,t,rfl,rfl⟩
  ·rcases Br hb with ⟨j,u,rfl,e⟩ | ⟨y,u,rfl,e⟩
   ·injection e with e1 _;rw[e1]
   ·exact nomatch e
  ·rcases Br hb with ⟨j,u,rfl,e⟩ | ⟨y,u,rfl,e⟩
   ·exact nomatch e
   ·injection e with e1 _;rw[e1]
 byValue:=fun k v h=>by
  rcases Br h with ⟨i,t,rfl,rfl⟩ | ⟨x,t,rfl,rfl⟩ <;> rfl
 pyHash:=fun hv h=>by
  rcases Br hv with ⟨i,t,rfl,rfl⟩ | ⟨x,t,rfl,rfl⟩
  ·exact wpAny_pyHash_int h
  ·exact wpAny_pyHash_str h
 eqBool:=fun hu hv h=>by
  rcases Br hu with ⟨i,t,rfl,rfl⟩ | ⟨x,t,rfl,rfl⟩
  ·rcases Br hv with ⟨j,u,rfl,rfl⟩ | ⟨y,u,rfl,rfl⟩
   ·rw[Ai9] at h;exact wpAny_eqBool_int h
   ·rw[Ahp] at h;exact mT i t y u _ _ _ _ h
  ·rcases Br hv with ⟨j,u,rfl,rfl⟩ | ⟨y,u,rfl,rfl⟩
   ·rw[Aht] at h;exact mU x t j u _ _ _ _ h
   ·rw[Ajd] at h;exact wpAny_eqBool_str h
 «strs» := fun k x t v h=>by
  rcases Br h with ⟨i,u,rfl,e⟩ | ⟨y,u,rfl,e⟩
  ·exact nomatch e
  ·injection e with e1 _
   subst e1
   cases v <;> rfl
theorem Rb(prog:aW)(w:bG)(i:Int)(t:Tok):(Bg prog w).is (.inl i) (.int i t)=true:=Xd i t
theorem Gg(prog:aW)(w:bG)(x:Str)(t:Tok):(Bg prog w).is (.inr x) (.str x t)=true:=Yc x t
inductive V where
 | non | bl (b:Bool) | int (i:Int) | str (x:Str) | byt (b:Array UInt8) | flt (b:UInt64) | ref (a:Addr) | ty (n:String)
 deriving DecidableEq
noncomputable def RelV:V->aC->Prop
 | .non,u=>u=gH
 | .bl b,u=>u=pA b
 | .int i,u=>∃ t,u=nW i t
 | .str x,u=>∃ t,u=kF x t
 | .byt b,u=>∃ t,u=qA b t
 | .flt b,u=>∃ t,u=qB b t
 | .ref a,u=>u=bH a
 | .ty n,u=>u=kQ n
abbrev Vals:List V->List aC->Prop:=pB RelV
theorem Vals.length{xs:List V}{us:List aC}(r:Vals xs us):xs.length=us.length:=kA r
theorem Vals.get{xs:List V}{us:List aC}{i:Nat}{x:V}(h:Vals xs us)(e:xs[i]? = some x):∃ u,us[i]? = some u/\RelV x u:=by
 induction h generalizing i with
 | nil=>cases e
 | cons r t ih=>
  cases i with
  | zero=>cases e;exact ⟨_,rfl,r⟩
  | succ i=>exact ih (i:=i) e
theorem Vals.set{x:V}{u:aC}(r:RelV x u){xs:List V}{us:List aC}(i:Nat)(h:Vals xs us):Vals (xs.set i x) (us.set i u):=by
 induction h generalizing i with
 | nil=>exact .nil
 | cons q t ih=>
  cases i with
  | zero=>exact .cons r t
  | succ i=>exact .cons q (ih i)
theorem Vals.append{xs ys:List V}{us ws:List aC}(h:Vals xs us)(s:Vals ys ws):Vals (xs++ys) (us++ws):=by
 induction h with
 | nil=>exact s
 | cons r t ih=>exact .cons r ih
theorem Vals.take{xs:List V}{us:List aC}(n:Nat)(h:Vals xs us):Vals (xs.take n) (us.take n):=by
 induction h generalizing n with
 | nil=>cases n <;> exact .nil
 | cons r t ih=>
  cases n with
  | zero=>exact .nil
  | succ n=>exact .cons r (ih n)
theorem Vals.drop{xs:List V}{us:List aC}(n:Nat)(h:Vals xs us):Vals (xs.drop n) (us.drop n):=by
 induction h generalizing n with
 | nil=>cases n <;> exact .nil
 | cons r t ih=>
  cases n with
  | zero=>exact .cons r t
  | succ n=>exact ih n
theorem Vals.none_of:∀ {xs:List V} {us:List aC} {i:Nat},Vals xs us->xs[i]? = none->us[i]? = none:=fun {xs us i} r e=>by
 have h1:=r.length
 have h2:xs.length<=i:=bO.mp e
 exact bO.mpr (by omega)
noncomputable def RelO:Option V->Option aC->Prop
 | some v,some u=>RelV v u
 | none,none=>True
 | _,_=>False
noncomputable def KV{κ:Type}:List (κ×V)->List (κ×aC)->Prop:=pB fun (p:κ×V) (q:κ×aC)=>p.1=q.1/\RelV p.2 q.2
noncomputable def kV:Key->V
 | .inl i=>.int i
 | .inr x=>.str x
inductive HO where
 | lst (xs:List V)
 | tup (xs:List V)
 | dK (kvs:List (Key×V)) | dT (kvs:List (List Key×V))
 | set (S:Int->Bool) (n:Nat)
 | ins (C dx:Addr) (fs:List (Str×V))
 | own (x:Addr)
 | xd (fs:List (Str×V))
 | met (f x:Addr)
 | rng (lo hi:Int)
 | frz (o:Obj) (u:HO)
 | tbl (ps:Array aC)
 | ext (φ:Heap->Prop)
abbrev Hp:=Addr->Option HO
noncomputable def upd(H:Hp)(a:Addr)(o:HO):Hp:=fun b=>if b=a then some o else H b
theorem upd_same{H:Hp}{a:Addr}{o:HO}:upd H a o a=some o:=by unfold upd;rw[if_pos rfl]
theorem Ap{H:Hp}{a b:Addr}{o:HO}(h:b≠a):upd H a o b=H b:=by unfold upd;rw[if_neg h]
theorem Y6{H:Hp}{a b:Addr}{o u:HO}(h:H a=some o)(h':H b=some u)(d:o≠u):a≠b:=by
 intro e;subst e;rw[h] at h';exact d (bJ h')
theorem Au{H:Hp}{a b:Addr}{o:HO}(h:H a=some o)(h':H b=none):a≠b:=by
 intro e;subst e;rw[h] at h';cases h'
noncomputable def TupN(h:Heap)(a:Addr)(its:Array aC):Prop:=∃ o:Obj,h.get? a=some o/\(o.cls,o.dict)=(kQ "tuple",(none:Option Addr))/\∃ n,o.data = .seq its n
theorem TupN.is{h:Heap}{a:Addr}{its:Array aC}(x:TupN h a its):h.IsTuple a its:=by
 obtain ⟨o,e,c,n,d⟩:=x
 exact ⟨o,e,(oM c).1,n,d⟩
theorem TupN.new(h:Heap)(its:Array aC):TupN (h.push { cls:=.type "tuple",data:=.seq its }) h.objs.size its:=⟨_,aR _ rfl,rfl,0,rfl⟩
theorem TupN.lt{h:Heap}{a:Addr}{its:Array aC}(x:TupN h a its):a < h.objs.size:=by
 obtain ⟨o,e,_⟩:=x;exact aO e
section
variable (P:aW)(w:bG)
noncomputable def ObjOk(H:Hp)(h:Heap)(a:Addr):HO->Prop
 | .lst xs=>xs.length<=sizeLine/\∃ (its:List aC) (n:Nat),Vals xs its/\h.get? a=some { cls:=.type "list",data:=.seq its.toArray n }
 | .tup xs=>xs.length<=sizeLine/\∃ its:List aC,Vals xs its/\TupN h a its.toArray
 | .dK kvs=>kvs.length<=sizeLine/\(a == sysModules)=false/\∃ vs,KV kvs vs/\h.DictOf (Bg P w) a vs
 | .dT kvs=>kvs.length<=sizeLine/\(a == sysModules)=false/\∃ xs:List (List Key×Addr×aC),
   pB (fun (p:List Key×V) (q:List Key×Addr×aC)=>p.1=q.1/\H q.2.1=some (.tup (p.1.map kV))/\RelV p.2 q.2.2) kvs xs /\
   ∃ o es ep,h.get? a=some o/\o.ExactDict/\o.data = .dict es ep/\es.toList=xs.map (entryOfKey (tupleKind (Bg P w)))/\(xs.map (·.1)).Nodup
 | .set S n=>h.SetOf (intKind P w) a S n
 | .ins C dx fs=>H dx=some (.own a)/\fs.length<=1000/\dx≠a/\h.get? a=some (dS C dx) /\
   ∃ mA,h.Ns1 dx mA/\(∀ f,RelO (fs.lookup f) (mA f))/\nH mA (fs.map (·.1))
 | .own _=>∃ o,h.get? a=some o
 | .xd fs=>∃ mA,h.Ns1 a mA/\∀ f,RelO (fs.lookup f) (mA f)
 | .rng lo hi=>∃ t u v,h.get? a=some { cls:=.type "range",data:=.fields #[.int lo t,.int hi u,.int 1 v] }
 | .frz o u=>h.get? a=some o/\ObjOk H h a u
 | .tbl ps=>h.get? a=some { cls:=.none,data:=.fields ps }
 | .met f x=>h.get? a=some (jT (.ref f) (.ref x))
 | .ext φ=>φ h/\(∃ o,h.get? a=some o)/\∀ h1 h2:Heap,φ h1->(∀ o,h1.get? a=some o->h2.get? a=some o)->φ h2
noncomputable def HOk(H:Hp)(h:Heap):Prop:=∀ a o,H a=some o->ObjOk P w H h a o
end
section
variable {P:aW}{w:bG}{H H':Hp}{h h':Heap}{a:Addr}{o:HO}
theorem ObjOk.lt(x:ObjOk P w H h a o):a < h.objs.size:=by
 cases o with
 | lst xs=>obtain ⟨_,_,_,_,e⟩:=x;exact aO e
 | tup xs=>obtain ⟨_,_,_,p⟩:=x;exact p.lt
 | dK kvs=>obtain ⟨_,_,_,_,o,_,_,e,_⟩:=x;exact aO e
 | dT kvs=>obtain ⟨_,_,_,_,o,_,_,e,_⟩:=x;exact aO e
 | set S n=>obtain ⟨o,_,_,_,e,_⟩:=x;exact aO e
 | ins C dx fs=>obtain ⟨_,_,_,e,_⟩:=x;exact aO e
 | own y=>obtain ⟨_,e⟩:=x;exact aO e
 | xd fs=>obtain ⟨_,⟨_,_,_,e,_⟩,_⟩:=x;exact aO e
 | rng lo hi=>obtain ⟨_,_,_,e⟩:=x;exact aO e
 | frz ob u=>obtain ⟨e,_⟩:=x;exact aO e
 | tbl ps=>exact aO (show h.get? a=some _ from x)
 | met f y=>exact aO (show h.get? a=some _ from x)
 | ext φ=>obtain ⟨_,⟨_,e⟩,_⟩:=x;exact aO e
theorem Paired.mapP{α β:Type}{F G:α->β->Prop}{l₁:List α}{l₂:List β}(h:pB F l₁ l₂)(f:∀ a b,F a b->G a b):pB G l₁ l₂:=by
 induction h with
 | nil=>exact .nil
 | cons r t ih=>exact .cons (f _ _ r) ih
theorem ObjOk.stay(x:ObjOk P w H h a o)(k:∀ b u,(b=a\/H b=some (.own a))->h.get? b=some u->h'.get? b=some u)
  (ho:∀ b,H b=some (.own a)->H' b=some (.own a)) (ht:∀ b xs,H b=some (.tup xs)->H' b=some (.tup xs)):ObjOk P w H' h' a o:=by
 induction o with
 | lst xs=>obtain ⟨z,its,n,r,e⟩:=x;exact ⟨z,its,n,r,k _ _ (.inl rfl) e⟩
 | tup xs=>obtain ⟨z,its,r,ob,e,c⟩:=x;exact ⟨z,its,r,ob,k _ _ (.inl rfl) e,c⟩
 | dK kvs=>obtain ⟨z,y,vs,r,ob,es,ep,e,c⟩:=x;exact ⟨z,y,vs,r,ob,es,ep,k _ _ (.inl rfl) e,c⟩
 | dT kvs=>
  obtain ⟨z,y,xs,r,ob,es,ep,e,c⟩:=x
  exact ⟨z,y,xs,Paired.mapP r fun p q z=>⟨z.1,ht _ _ z.2.1,z.2.2⟩,ob,es,ep,k _ _ (.inl rfl) e,c⟩
 | set S n=>obtain ⟨ob,es,ep,t,e,c⟩:=x;exact ⟨ob,es,ep,t,k _ _ (.inl rfl) e,c⟩
 | ins C dx fs=>
  obtain ⟨d,z,ne,e,mA,⟨od,es,ep,e2,c⟩,r⟩:=x
  exact ⟨ho _ d,z,ne,k _ _ (.inl rfl) e,mA,⟨od,es,ep,k _ _ (.inr d) e2,c⟩,r⟩
 | own y=>obtain ⟨ob,e⟩:=x;exact ⟨ob,k _ _ (.inl rfl) e⟩
 | xd fs=>obtain ⟨mA,⟨od,es,ep,e,c⟩,r⟩:=x;exact ⟨mA,⟨od,es,ep,k _ _ (.inl rfl) e,c⟩,r⟩
 | rng lo hi=>obtain ⟨t,u,v,e⟩:=x;exact ⟨t,u,v,k _ _ (.inl rfl) e⟩
 | frz ob u ih=>obtain ⟨e,q⟩:=x;exact ⟨k _ _ (.inl rfl) e,ih q⟩
 | tbl ps=>
  have e:h.get? a=some { cls:=.none,data:=.fields ps }:=x
  show h'.get? a=some { cls:=.none,data:=.fields ps }
  exact k a _ (.inl rfl) e
 | met f y=>
  have e:h.get? a=some (jT (.ref f) (.ref y)):=x
  show h'.get? a=some (jT (.ref f) (.ref y))
  exact k a _ (.inl rfl) e
 | ext φ=>obtain ⟨p,⟨o,e⟩,st⟩:=x;exact ⟨st _ _ p fun o q=>k _ _ (.inl rfl) q,⟨o,k _ _ (.inl rfl) e⟩,st⟩
theorem HOk.lt(x:HOk P w H h)(e:H a=some o):a < h.objs.size:=(x a o e).lt
theorem HOk.fresh(x:HOk P w H h)(e:h.objs.size<=a):H a=none:=by
 cases q:H a with
 | none=>rfl
 | some u=>exact absurd (aS (x.lt q) e) (dB _)
theorem HOk.kept(x:HOk P w H h)(k:∀ b u,h.get? b=some u->h'.get? b=some u):HOk P w H h':=fun a o e=>
 (x a o e).stay (fun b u _ q=>k b u q) (fun _ q=>q) fun _ _ q=>q
theorem HOk.laid(x:HOk P w H h)(k:∀ b u,h.get? b=some u->h'.get? b=some u)(hp:h.objs.size<=a)(new:ObjOk P w (upd H a o) h' a o):HOk P w (upd H a o) h':=fun b u e=>by
 have hn:=x.fresh hp
 by_cases hb:b=a
 ·subst hb;rw[upd_same] at e;cases e;exact new
 ·rw[Ap hb] at e
  exact (x b u e).stay (fun c v _ q=>k c v q) (fun c q=>by rw[Ap (Au q hn)];exact q) fun c xs q=>by rw[Ap (Au q hn)];exact q
end
noncomputable def Rd(H:Hp)(a:Addr)(u:HO):Prop:=H a=some u\/∃ o,H a=some (.frz o u)
theorem Rd.of{H:Hp}{a:Addr}{u:HO}(h:H a=some u):Rd H a u:=.inl h
theorem Rd.ok{P:aW}{w:bG}{H:Hp}{h:Heap}{a:Addr}{u:HO}(r:Rd H a u)(x:HOk P w H h):ObjOk P w H h a u:=by
 rcases r with r | ⟨o,r⟩
 ·exact x a u r
 ·obtain ⟨_,q⟩:=x a _ r
  exact q
noncomputable def Mut:Option HO->Prop
 | some (.lst _)=>True
 | some (.dK _)=>True
 | some (.dT _)=>True
 | some (.set _ _)=>True
 | some (.ins _ _ _)=>True
 | some (.ext _)=>True
 | _=>False
section
variable {P:aW}{w:bG}{H:Hp}{h h':Heap}{x e:Addr}{o':HO}
theorem HOk.write(ok:HOk P w H h)(mu:Mut (H x))(he:e=x\/H e=some (.own x))(k:∀ b u,b≠e->h.get? b=some u->h'.get? b=some u)(heo:∃ u,h'.get? e=some u)
  (new:ObjOk P w (upd H x o') h' x o'):HOk P w (upd H x o') h':=fun b u q=>by
 have nown:∀ c y,H c=some (.own y)->c≠x:=fun c y r z=>by subst z;rw[r] at mu;exact mu
 have ntup:∀ c xs,H c=some (.tup xs)->c≠x:=fun c xs r z=>by subst z;rw[r] at mu;exact mu
 by_cases hb:b=x
 ·subst hb;rw[upd_same] at q;cases q;exact new
 ·rw[Ap hb] at q
  by_cases hbe:b=e
  ·have q':H b=some (.own x):=by
    rcases he with z | z
    ·exact absurd (hbe.trans z) hb
    ·rw[hbe];exact z
   rw[q] at q';cases q'
   obtain ⟨v,hv⟩:=heo
   exact ⟨v,by rw[hbe];exact hv⟩
  ·refine (ok b u q).stay (fun c v hc r=>k c v ?_ r) (fun c r=>by rw[Ap (nown c b r)];exact r) fun c xs r=>by rw[Ap (ntup c xs r)];exact r
   rcases hc with rfl | hc
   ·exact hbe
   ·rintro rfl
    rcases he with z | z
    ·exact nown c b hc z
    ·rw[hc] at z;cases z;exact hb rfl
end
structure Un(fs ex:List Addr)(H H':Hp)(h h':Heap):Prop where
 keep:∀ b o,h.get? b=some o->H b=none->b∉fs->b∉ex->h'.get? b=some o
 slot:∀ b o,h.get? b=some o->H b=none->b∈fs->b∉ex->∃ sl,h'.get? b=some { o with slots:=sl }
 free:∀ b o,h.get? b=some o->H b=none->b∉ex->H' b=none
 there:∀ b o,h.get? b=some o->b∉ex->∃ o',h'.get? b=some o'
 tups:∀ b xs,H b=some (.tup xs)->H' b=some (.tup xs)
 frzs:∀ b o u,H b=some (.frz o u)->H' b=some (.frz o u)
 tbls:∀ b ps,H b=some (.tbl ps)->∃ more,H' b=some (.tbl (ps++more))
section
variable {fs fs' ex ex':List Addr}{H H1 H2:Hp}{h h1 h2 h':Heap}{a x e:Addr}{o:HO}
theorem Un.any(u:Un fs ex H H1 h h1){b:Addr}{ob:Obj}(q:h.get? b=some ob)(n:H b=none)(hx:b∉ex):∃ sl,h1.get? b=some { ob with slots:=sl }:=by
 by_cases hb:b∈fs
 ·exact u.slot b ob q n hb hx
 ·exact ⟨ob.slots,u.keep b ob q n hb hx⟩
theorem Un.trans(a:Un fs ex H H1 h h1)(b:Un fs ex H1 H2 h1 h2):Un fs ex H H2 h h2 where
 keep:=fun c ob q n hc hx=>b.keep c ob (a.keep c ob q n hc hx) (a.free c ob q n hx) hc hx
 slot:=fun c ob q n hc hx=>by
  obtain ⟨sl,e1⟩:=a.slot c ob q n hc hx
  obtain ⟨sl',e2⟩:=b.slot c _ e1 (a.free c ob q n hx) hc hx
  exact ⟨sl',e2⟩
 free:=fun c ob q n hx=>by
  obtain ⟨o',e1⟩:=a.there c ob q hx
  exact b.free c o' e1 (a.free c ob q n hx) hx
 there:=fun c ob q hx=>by
  obtain ⟨o',e1⟩:=a.there c ob q hx
  exact b.there c o' e1 hx
 tups:=fun c xs q=>b.tups c xs (a.tups c xs q)
 frzs:=fun c ob xs q=>b.frzs c ob xs (a.frzs c ob xs q)
 tbls:=fun c ps q=>by
  obtain ⟨m1,e1⟩:=a.tbls c ps q
  obtain ⟨m2,e2⟩:=b.tbls c _ e1
  exact ⟨m1++m2,by rw[e2,mV]⟩
theorem Un.kept(k:∀ b u,h.get? b=some u->h'.get? b=some u):Un fs ex H H h h':=
 ⟨fun b ob q _ _ _=>k b ob q,fun b ob q _ _ _=>⟨ob.slots,k b ob q⟩,fun _ _ _ n _=>n,fun b ob q _=>⟨ob,k b ob q⟩,fun _ _ q=>q,fun _ _ _ q=>q,fun _ ps q=>⟨#[],by rw[q];simp⟩⟩
theorem Un.refl:Un fs ex H H h h:=Un.kept fun _ _ q=>q
theorem Un.laid(k:∀ b u,h.get? b=some u->h'.get? b=some u)(hp:h.objs.size<=a)(hn:H a=none):Un fs ex H (upd H a o) h h' where
 keep:=fun b u q _ _ _=>k b u q
 slot:=fun b u q _ _ _=>⟨u.slots,k b u q⟩
 free:=fun b u q n _=>by rw[Ap (bR (aS (aO q) hp))];exact n
 there:=fun b u q _=>⟨u,k b u q⟩
 tups:=fun b xs q=>by rw[Ap (Au q hn)];exact q
 frzs:=fun b u xs q=>by rw[Ap (Au q hn)];exact q
 tbls:=fun b ps q=>⟨#[],by rw[Ap (Au q hn),q];simp⟩
theorem Un.write(mu:Mut (H x))(he:e=x\/H e=some (.own x))(k:∀ b u,b≠e->h.get? b=some u->h'.get? b=some u)(heo:∃ u,h'.get? e=some u):Un fs ex H (upd H x o) h h':=by
 have hx:∀ b,H b=none->b≠x:=fun b n z=>by subst z;rw[n] at mu;exact mu
 have hb:∀ b,H b=none->b≠e:=fun b n z=>by
  subst z
  rcases he with r | r
  ·exact hx b n r
  ·rw[n] at r;cases r
 have hm:∀ b u,H b=some u->¬ Mut (some u)->b≠x:=fun b u q nm z=>by subst z;rw[q] at mu;exact nm mu
 refine ⟨fun b u q n _ _=>k b u (hb b n) q,fun b u q n _ _=>⟨u.slots,k b u (hb b n) q⟩,fun b u q n _=>by rw[Ap (hx b n)];exact n,fun b u q _=>?_,
  fun b xs q=>by rw[Ap (hm b _ q fun z=>z)];exact q,fun b u xs q=>by rw[Ap (hm b _ q fun z=>z)];exact q,fun b ps q=>⟨#[],by rw[Ap (hm b _ q fun z=>z),q];simp⟩⟩
 by_cases hbe:b=e
 ·subst hbe;exact heo
 ·exact ⟨u,k b u hbe q⟩
theorem Un.mono(u:Un fs ex H H1 h h1)(hs:∀ b∈fs,b∈fs')(hx:∀ b∈ex,b∈ex'):Un fs' ex' H H1 h h1:=
 ⟨fun b ob q n hb he=>u.keep b ob q n (fun z=>hb (hs b z)) fun z=>he (hx b z),fun _ _ q n _ he=>u.any q n fun z=>he (hx _ z),fun b ob q n he=>u.free b ob q n fun z=>he (hx b z),fun b ob q he=>u.there b ob q fun z=>he (hx b z),u.tups,u.frzs,u.tbls⟩
end
noncomputable def trk(h:Heap)(H:Hp):List Addr:=(fO h.objs.size).filter fun a=>(H a).isSome
noncomputable def Ql(h:Heap)(H:Hp):Heap:=PySem.W.hideAll h (trk h H)
theorem W8(h:Heap)(H:Hp):(Ql h H).objs.size=h.objs.size:=PySem.W.hideAll_size _ _
theorem Ab0{h:Heap}{H:Hp}{b:Addr}{o:Obj}(e:h.get? b=some o)(n:H b=none):(Ql h H).get? b=some o:=
 PySem.W.hideAll_get _ e fun hm=>by
  have q:(H b).isSome=true:=(iN.mp hm).2
  rw[n] at q;simp at q
theorem Agb{h:Heap}{H:Hp}{b:Addr}{o:Obj}(e:(Ql h H).get? b=some o):h.get? b=some o/\H b=none:=by
 have e':h.get? b=some o:=PySem.W.of_hideAll (trk h H) e
 refine ⟨e',?_⟩
 cases q:H b with
 | none=>rfl
 | some x=>
  have hm:b∈trk h H:=iN.mpr ⟨gQ.mpr (aO e'),by simp[q]⟩
  have z:(Ql h H).get? b=none:=PySem.W.hideAll_none (trk h H) hm
  rw[z] at e;cases e
noncomputable def Afb(g h:Heap)(L:Addr):List (Addr×Obj):=(fO h.objs.size).filterMap fun a=>if a=L\/(g.get? a).isSome=true then none else (h.get? a).map fun o=>(a,o)
noncomputable def rest(g h:Heap)(L d:Addr):List (Addr×Obj):=(Afb g h L).filter fun p=>decide (p.1≠d)
structure Mod(K:aA)(mg:Str->Option aC)(base:Heap):Prop where
 kin:K.In base
 glob:base.Ns aI mg
 blt:∃ mb,base.Ns mW mb/\∀ x:Str,x ≠ "__name__" -> mb x=dX x
 nolimit:base.NoLimit
structure Cx where
 prog:aW
 w:bG
 K:aA
 mg:Str->Option aC
 base:Heap
 A:bZ
 N:List Str
 s₀:aG
 H₀:Hp
 env:Env
 outer:List Env
 stack:List Env
 ex:List Addr
 fn:Str->Bool
 calm:Bool
 pn:List (Addr×Obj)
 xe:aC->aG->Prop
noncomputable def frs(l:List Env):List Addr:=l.filterMap (·.frame)
noncomputable abbrev Cx.fs(X:Cx):List Addr:=frs X.outer
noncomputable def Vis(sc:gR)(x:Str):Prop:=sc.names.lookup x=some .local\/sc.names.lookup x=some .cell\/sc.names.lookup x=some .free
noncomputable def Loc(sc:gR)(x:Str):Prop:=sc.names.lookup x=some .local\/sc.names.lookup x=some .cell
noncomputable def Ami(env:Env)(h:Heap)(m:Str->Option aC)(x:Str)(u:aC):Prop:=
 (env.kindOf x=some .local/\m x=some u)\/((env.kindOf x=some .cell\/env.kindOf x=some .free)/\∃ c,env.cells.lookup x=some c/\h.IsCell c (some u))
structure Cx.Ok(X:Cx):Prop where
 mod:Mod X.K X.mg X.base
 kind:X.env.scope.kind = .function
 glob:X.env.globals=aI
 blt:X.env.builtins=mW
 above:X.s₀.heap.objs.size<=X.env.locals
 inj:∀ x y c,X.env.cells.lookup x=some c->X.env.cells.lookup y=some c->x=y
 has:∀ x,(X.env.kindOf x=some .cell\/X.env.kindOf x=some .free)->∃ c,X.env.cells.lookup x=some c
 cab:∀ x c,X.fn x=true->X.env.cells.lookup x=some c->X.s₀.heap.objs.size<=c
 hd:X.calm=true->X.A.handled=none
 frames:X.A.frames=some X.stack
 stk:X.stack=X.outer\/(X.stack=X.env::X.outer/\X.env.frame=some X.env.locals)
 exf:∀ b∈X.ex,b≠X.env.locals/\∀ x c,X.env.cells.lookup x=some c->c≠b
 bs:∀ b o,X.base.get? b=some o->X.s₀.heap.get? b=some o/\X.H₀ b=none
 bsz:X.base.objs.size<=X.s₀.heap.objs.size
 noex:∀ b o,X.base.get? b=some o->b∉X.ex
 exfs:∀ b∈X.ex,b∉X.fs
 funs:X.s₀.heap.FunFrames X.base X.outer
 frf:∀ b∈X.fs,X.H₀ b=none
structure Inv(X:Cx)(pins:List (Addr×Obj))(σ:List (Option V))(H:Hp)(s:aG):Prop where
 ok:X.Ok
 os:s.os=X.s₀.os
 bare:jA s.gens
 base:Un X.fs X.ex X.H₀ H X.s₀.heap s.heap
 loc:∃ m,s.heap.Ns X.env.locals m/\∀ (i:Nat) (x:Str) (v:V),X.N[i]? = some x->σ[i]? = some (some v)->Vis X.env.scope x->∃ u,RelV v u/\Ami X.env s.heap m x u
 cell:∀ x c,X.env.cells.lookup x=some c->∃ v,s.heap.IsCell c v
 free:H X.env.locals=none
 freeC:∀ x c,X.env.cells.lookup x=some c->H c=none
 pin:∀ p∈X.pn++pins,s.heap.get? p.1=some p.2/\H p.1=none/\p.1≠X.env.locals/\p.1∉X.fs/\∀ v,p.2.data≠.cell v
 hok:HOk X.prog X.w H s.heap
 len:σ.length=X.N.length
section
variable {X:Cx}{pins:List (Addr×Obj)}{σ:List (Option V)}{H H':Hp}{s:aG}{h':Heap}
theorem Cx.Ok.nofr(ok:X.Ok){b:Addr}{o:Obj}(e:X.base.get? b=some o):b∉X.fs:=fun hb=>by
 have:=(ok.funs.mem hb).1
 rw[e] at this;cases this
theorem Inv.bs(I:Inv X pins σ H s):∀ b o,X.base.get? b=some o->s.heap.get? b=some o/\H b=none:=fun b o e=>
 ⟨I.base.keep b o (I.ok.bs b o e).1 (I.ok.bs b o e).2 (I.ok.nofr e) (I.ok.noex b o e),I.base.free b o (I.ok.bs b o e).1 (I.ok.bs b o e).2 (I.ok.noex b o e)⟩
theorem Inv.bk(I:Inv X pins σ H s):∀ b o,X.base.get? b=some o->s.heap.get? b=some o:=fun b o e=>(I.bs b o e).1
theorem Inv.mod(I:Inv X pins σ H s):Mod X.K X.mg X.base:=I.ok.mod
theorem Inv.kIn(I:Inv X pins σ H s):X.K.In s.heap:=I.ok.mod.kin.keeps I.bk
theorem Inv.nolimit(I:Inv X pins σ H s):s.heap.NoLimit:=I.ok.mod.nolimit.keeps I.bk
theorem Inv.fr(I:Inv X pins σ H s):∃ m,Fr X.base X.env.locals s.heap m:=
 let ⟨m,hn,_⟩:=I.loc
 ⟨m,hn,I.bk,cF I.ok.bsz I.ok.above⟩
theorem Inv.lt(I:Inv X pins σ H s):X.env.locals < s.heap.objs.size:=let ⟨_,hn,_⟩:=I.loc;hn.lt
theorem Inv.sz(I:Inv X pins σ H s):X.s₀.heap.objs.size<=s.heap.objs.size:=cF I.ok.above (kR I.lt)
theorem Inv.nofs(I:Inv X pins σ H s){a:Addr}(h:s.heap.objs.size<=a):a∉X.fs:=fun hb=>by
 obtain ⟨_,o,ho,_⟩:=I.ok.funs.mem hb
 exact absurd (aS (aO ho) (cF I.sz h)) (dB _)
theorem Inv.cne(I:Inv X pins σ H s):∀ x c,X.env.cells.lookup x=some c->c≠X.env.locals:=fun x c e z=>by
 obtain ⟨v,o,ho,hd⟩:=I.cell x c e
 obtain ⟨m,⟨o',es,ep,ho',hd',_⟩,_⟩:=I.loc
 rw[z,ho'] at ho;cases ho;rw[hd'] at hd;cases hd
theorem Inv.funs(I:Inv X pins σ H s):s.heap.FunFrames X.base X.outer:=by
 have all:∀ (l:List Env),(∀ b∈frs l,b∈X.fs)->X.s₀.heap.FunFrames X.base l->s.heap.FunFrames X.base l:=by
  intro l
  induction l with
  | nil=>intro _ _;trivial
  | cons env r ih=>
   intro hs hl
   obtain ⟨hk,⟨L,o,hf,hn,ho,hd⟩,hr⟩:=hl
   have hL:L∈X.fs:=hs L (by unfold frs;rw[iV,hf];exact bK)
   obtain ⟨sl,e⟩:=I.base.slot L o ho (I.ok.frf L hL) hL fun z=>I.ok.exfs L z hL
   exact ⟨hk,⟨L,_,hf,hn,e,hd⟩,ih (fun b hb=>hs b (by unfold frs;rw[iV,hf];exact bD _ hb)) hr⟩
 exact all X.outer (fun _ hb=>hb) I.ok.funs
theorem Inv.stack(I:Inv X pins σ H s):s.heap.FunFrames X.base X.stack:=by
 rcases I.ok.stk with e | ⟨e,hf⟩
 ·rw[e];exact I.funs
 ·rw[e]
  obtain ⟨m,hn,_⟩:=I.loc
  refine .cons (by rw[I.ok.kind];decide) hf hn ?_ I.funs
  exact Heap.get?_none_of_le (cF I.ok.bsz I.ok.above)
theorem Inv.stkSub(I:Inv X pins σ H s):∀ b∈frs X.stack,b∈X.env.locals::X.fs:=fun b hb=>by
 rcases I.ok.stk with e | ⟨e,hf⟩
 ·rw[e] at hb;exact bD _ hb
 ·rw[e] at hb
  unfold frs at hb
  rw[iV,hf] at hb
  exact hb
theorem Inv.stkFree(I:Inv X pins σ H s):∀ b∈frs X.stack,H b=none:=fun b hb=>by
 rcases bV.mp (I.stkSub b hb) with e | hb
 ·rw[e];exact I.free
 ·obtain ⟨_,o,ho,_⟩:=I.ok.funs.mem hb
  exact I.base.free b o ho (I.ok.frf b hb) fun z=>I.ok.exfs b z hb
theorem Inv.step{g':Array jF}{t':Nat}{d':Drawn}{ch:List Addr}(I:Inv X pins σ H s)
  (hch:∀ b∈ch,(b∈X.ex\/X.s₀.heap.objs.size<=b)/\b≠X.env.locals/\(∀ x c,X.env.cells.lookup x=some c->c≠b)/\∀ p∈X.pn++pins,p.1≠b)
  (keep:∀ b o,b≠X.env.locals->b∉X.fs->b∉ch->s.heap.get? b=some o->H b=none->h'.get? b=some o)
  (slot:∀ b o,b≠X.env.locals->b∈X.fs->b∉ch->s.heap.get? b=some o->H b=none->∃ sl,h'.get? b=some { o with slots:=sl }) (free:∀ b o,b∉ch->s.heap.get? b=some o->H b=none->H' b=none)
  (there:∀ b o,b∉ch->s.heap.get? b=some o->∃ o',h'.get? b=some o')
  (tups:∀ b xs,H b=some (.tup xs)->H' b=some (.tup xs)) (frzs:∀ b o u,H b=some (.frz o u)->H' b=some (.frz o u)) (tbls:∀ b ps,H b=some (.tbl ps)->∃ more,H' b=some (.tbl (ps++more)))
  (ns:∀ m,s.heap.Ns X.env.locals m->h'.Ns X.env.locals m) (hok:HOk X.prog X.w H' h') (hg:jA g') :
  Inv X pins σ H' { s with heap:=h',gens:=g',drawn:=d',toks:=t' }:=by
 have neL:∀ b o,X.s₀.heap.get? b=some o->b≠X.env.locals:=fun b o e=>bR (aS (aO e) I.ok.above)
 have neC:∀ b o,X.s₀.heap.get? b=some o->b∉X.ex->b∉ch:=fun b o e hx hb=>by
  rcases (hch b hb).1 with z | z
  ·exact hx z
  ·exact absurd (aS (aO e) z) (dB _)
 have cellK:∀ x c,X.env.cells.lookup x=some c->∀ v,s.heap.IsCell c v->h'.IsCell c v:=fun x c e v zz=>by
  obtain ⟨o,ho,hd⟩:=zz
  have nch:c∉ch:=fun z=>(hch c z).2.2.1 x c e rfl
  by_cases hc:c∈X.fs
  ·obtain ⟨sl,q⟩:=slot c o (I.cne x c e) hc nch ho (I.freeC x c e)
   exact ⟨_,q,hd⟩
  ·exact ⟨o,keep c o (I.cne x c e) hc nch ho (I.freeC x c e),hd⟩
 refine ⟨I.ok,I.os,hg,⟨fun b o e n hb hx=>?_,fun b o e n hb hx=>?_,fun b o e n hx=>?_,fun b o e hx=>?_,fun b xs e=>tups b xs (I.base.tups b xs e),fun b o xs e=>frzs b o xs (I.base.frzs b o xs e),fun b ps e=>?_⟩,?_,fun x c e=>?_,?_,fun x c e=>?_,fun p hp=>?_,hok,I.len⟩
 ·exact keep b o (neL b o e) hb (neC b o e hx) (I.base.keep b o e n hb hx) (I.base.free b o e n hx)
 ·obtain ⟨sl,e1⟩:=I.base.slot b o e n hb hx
  obtain ⟨sl',e2⟩:=slot b _ (neL b o e) hb (neC b o e hx) e1 (I.base.free b o e n hx)
  exact ⟨sl',e2⟩
 ·obtain ⟨o',e1⟩:=I.base.there b o e hx
  exact free b o' (neC b o e hx) e1 (I.base.free b o e n hx)
 ·obtain ⟨o',e1⟩:=I.base.there b o e hx
  exact there b o' (neC b o e hx) e1
 ·obtain ⟨m1,e1⟩:=I.base.tbls b ps e
  obtain ⟨m2,e2⟩:=tbls b _ e1
  exact ⟨m1++m2,by rw[e2,mV]⟩
 ·obtain ⟨m,hn,hl⟩:=I.loc
  refine ⟨m,ns m hn,fun i x v e1 e2 e3=>?_⟩
  obtain ⟨u,r,l⟩:=hl i x v e1 e2 e3
  refine ⟨u,r,?_⟩
  rcases l with l | ⟨k,c,e,z⟩
  ·exact .inl l
  ·exact .inr ⟨k,c,e,cellK x c e _ z⟩
 ·obtain ⟨v,z⟩:=I.cell x c e
  exact ⟨v,cellK x c e v z⟩
 ·obtain ⟨m,⟨o,_,_,ho,_⟩,_⟩:=I.loc
  exact free _ o (fun z=>(hch _ z).2.1 rfl) ho I.free
 ·obtain ⟨v,o,ho,hd⟩:=I.cell x c e
  exact free c o (fun z=>(hch c z).2.2.1 x c e rfl) ho (I.freeC x c e)
 ·obtain ⟨e,n,ne,nf,d⟩:=I.pin p hp
  have nch:p.1∉ch:=fun z=>(hch p.1 z).2.2.2 p hp rfl
  exact ⟨keep p.1 p.2 ne nf nch e n,free p.1 p.2 nch e n,ne,nf,d⟩
theorem Inv.un{t':Nat}(I:Inv X pins σ H s)(u:Un X.fs [] H H' s.heap h')(hok:HOk X.prog X.w H' h'):Inv X pins σ H' { s with heap:=h',toks:=t' }:=by
 obtain ⟨m,⟨o,es,ep,ho,r⟩,_⟩:=id I.loc
 obtain ⟨sl,hL⟩:=u.any ho I.free (by simp)
 exact I.step (g':=s.gens) (d':=s.drawn) (ch:=[]) (fun _ z=>nomatch z) (fun b o _ hb _ e n=>u.keep b o e n hb (by simp)) (fun b o _ hb _ e n=>u.slot b o e n hb (by simp)) (fun b o _ e n=>u.free b o e n (by simp)) (fun b o _ e=>u.there b o e (by simp)) u.tups u.frzs u.tbls (fun m' hm=>by
  obtain ⟨o',es',ep',ho',r'⟩:=hm
  rw[ho] at ho';cases ho'
  exact ⟨_,es',ep',hL,r'⟩) hok I.bare
theorem Inv.call{g':Array jF}{t':Nat}{d':Drawn}{ch:List Addr}(I:Inv X pins σ H s)(u:Un (frs X.stack) ch H H' s.heap h')(hok:HOk X.prog X.w H' h')(hg:jA g')
  (hch:∀ b∈ch,(b∈X.ex\/X.s₀.heap.objs.size<=b)/\b≠X.env.locals/\(∀ x c,X.env.cells.lookup x=some c->c≠b)/\∀ p∈X.pn++pins,p.1≠b) :
  Inv X pins σ H' { s with heap:=h',gens:=g',drawn:=d',toks:=t' }:=by
 obtain ⟨m,⟨o,es,ep,ho,r⟩,_⟩:=id I.loc
 obtain ⟨sl,hL⟩:=u.any ho I.free fun z=>(hch _ z).2.1 rfl
 exact I.step (ch:=ch) hch (fun b o hL hb hc e n=>u.keep b o e n (fun z=>(bV.mp (I.stkSub b z)).elim hL hb) hc) (fun b o _ _ hc e n=>u.any e n hc) (fun b o hc e n=>u.free b o e n hc) (fun b o hc e=>u.there b o e hc) u.tups u.frzs u.tbls (fun m' hm=>by
  obtain ⟨o',es',ep',ho',r'⟩:=hm
  rw[ho] at ho';cases ho'
  exact ⟨_,es',ep',hL,r'⟩) hok hg
theorem Inv.turned{t':Nat}{it:Addr}(I:Inv X pins σ H s)(k:∀ b o,b≠it->s.heap.get? b=some o->h'.get? b=some o)(hn:H it=none)(hL:it≠X.env.locals)
  (h1:it∈X.ex\/X.s₀.heap.objs.size<=it) (h2:∀ x c,X.env.cells.lookup x=some c->c≠it) (h3:∀ p∈X.pn++pins,p.1≠it):Inv X pins σ H { s with heap:=h',toks:=t' }:=by
 have nit:∀ b u,H b=some u->b≠it:=fun b u e z=>by rw[z,hn] at e;cases e
 refine I.step (g':=s.gens) (d':=s.drawn) (ch:=[it]) (fun b hb=>?_) (fun b o _ _ hc e _=>k b o (fun z=>hc (by simp[z])) e) (fun b o _ _ hc e _=>⟨o.slots,k b o (fun z=>hc (by simp[z])) e⟩) (fun _ _ _ _ n=>n)
  (fun b o hc e=>⟨o,k b o (fun z=>hc (by simp[z])) e⟩) (fun _ _ e=>e) (fun _ _ _ e=>e) (fun b ps e=>⟨#[],by rw[e];simp⟩) (fun m hm=>?_) (fun b u e=>?_) I.bare
 ·have e:b=it:=by simpa using hb
  subst e
  exact ⟨h1,hL,h2,h3⟩
 ·obtain ⟨o,es,ep,ho,r⟩:=hm
  exact ⟨o,es,ep,k _ o (eY hL) ho,r⟩
 ·refine (I.hok b u e).stay (fun c v hc q=>k c v ?_ q) (fun _ q=>q) fun _ _ q=>q
  rcases hc with z | z
  ·rw[z];exact nit b u e
  ·exact nit c _ z
theorem Inv.tok(I:Inv X pins σ H s)(t:Nat):Inv X pins σ H { s with toks:=t }:=I.un (h':=s.heap) (t':=t) Un.refl I.hok
theorem Inv.kept{t':Nat}(I:Inv X pins σ H s)(k:∀ b u,s.heap.get? b=some u->h'.get? b=some u):Inv X pins σ H { s with heap:=h',toks:=t' }:=I.un (Un.kept k) (I.hok.kept k)
theorem Inv.laid{a:Addr}{o:HO}{t':Nat}(I:Inv X pins σ H s)(k:∀ b u,s.heap.get? b=some u->h'.get? b=some u)(hp:s.heap.objs.size<=a)(new:ObjOk X.prog X.w (upd H a o) h' a o) :
  Inv X pins σ (upd H a o) { s with heap:=h',toks:=t' }:=I.un (Un.laid k hp (I.hok.fresh hp)) (I.hok.laid k hp new)
theorem Inv.write{x e:Addr}{o:HO}{t':Nat}(I:Inv X pins σ H s)(mu:Mut (H x))(he:e=x\/H e=some (.own x))(k:∀ b u,b≠e->s.heap.get? b=some u->h'.get? b=some u)(heo:∃ u,h'.get? e=some u)
  (new:ObjOk X.prog X.w (upd H x o) h' x o):Inv X pins σ (upd H x o) { s with heap:=h',toks:=t' }:=I.un (Un.write mu he k heo) (I.hok.write mu he k heo new)
theorem Inv.pins_of{pins':List (Addr×Obj)}(I:Inv X pins σ H s)(h:∀ p∈pins',s.heap.get? p.1=some p.2/\H p.1=none/\p.1≠X.env.locals/\p.1∉X.fs/\∀ v,p.2.data≠.cell v):Inv X pins' σ H s:=
 ⟨I.ok,I.os,I.bare,I.base,I.loc,I.cell,I.free,I.freeC,fun p hp=>(fH.mp hp).elim (fun z=>I.pin p (dO _ z)) (h p),I.hok,I.len⟩
theorem Rm{N:List Str}(hN:N.Nodup){i j:Nat}{x:Str}(a:N[i]? = some x)(b:N[j]? = some x):i=j:=by
 obtain ⟨h1,e1⟩:=aX.mp a
 obtain ⟨h2,e2⟩:=aX.mp b
 exact (List.getElem_inj hN).mp (e1.trans e2.symm)
theorem Yg{M:Model}{A:bZ}{E:aC->aG->Prop}{i:Nat}{x:Str}{v:V}{u:aC}{Q:Unit->aG->Prop}(I:Inv X pins σ H s)(hN:X.N.Nodup)(hi:X.N[i]? = some x)(hx:Loc X.env.scope x)(r:RelV v u)
  (h:∀ s',Inv X pins (σ.set i (some v)) H s'->(∃ a,gS a s.heap s'.heap/\(a=X.env.locals\/X.env.cells.lookup x=some a))->Q () s') (hf:X.fn x=true\/X.env.scope.names.lookup x=some .local:=by first | exact .inl rfl | exact .inr rfl | assumption):wpAny M A (storeName X.env x u) Q E s:=by
 obtain ⟨m,hn,hl⟩:=id I.loc
 have hcls:(X.env.scope.kind == .class || (X.env.scope.kind == .module&&X.env.locals != X.env.globals))=false:=by rw[I.ok.kind];rfl
 have hiσ:i < σ.length:=by rw[I.len];exact (aX.mp hi).1
 have cne:=I.cne
 have tracked:∀ {a:Addr} {h':Heap},(∃ o,s.heap.get? a=some o/\H a=none)->gS a s.heap h'->HOk X.prog X.w H h':=fun {a h'} ha hs b ob e=>by
  obtain ⟨_,_,hfree⟩:=ha
  refine (I.hok b ob e).stay (fun c w' hc q=>(hs.2 c ?_).trans q) (fun _ q=>q) fun _ _ q=>q
  rintro rfl
  rcases hc with rfl | hc
  ·rw[hfree] at e;cases e
  ·rw[hfree] at hc;cases hc
 rcases hx with hk | hk
 ·refine wpAny_storeName_local hk hn (fun h' hn' hs=>?_) hcls
  obtain ⟨oL,_,_,hoL,_⟩:=id hn
  refine h _ ⟨I.ok,I.os,I.bare,⟨fun b o e n hb hx=>?_,fun b o e n hb hx=>?_,I.base.free,fun b o e hx=>?_,I.base.tups,I.base.frzs,I.base.tbls⟩,⟨_,hn',fun j y v' e1 e2 e3=>?_⟩,fun y c e=>?_,I.free,I.freeC,fun p hp=>?_,tracked ⟨oL,hoL,I.free⟩ hs,by simpa using I.len⟩ ⟨_,hs,.inl rfl⟩
  ·exact (hs.2 b (bR (aS (aO e) I.ok.above))).trans (I.base.keep b o e n hb hx)
  ·obtain ⟨sl,e1⟩:=I.base.slot b o e n hb hx
   exact ⟨sl,(hs.2 b (bR (aS (aO e) I.ok.above))).trans e1⟩
  ·obtain ⟨o',e1⟩:=I.base.there b o e hx
   exact ⟨o',(hs.2 b (bR (aS (aO e) I.ok.above))).trans e1⟩
  ·by_cases hj:j=i
   ·subst hj
    rw[hi] at e1;cases e1
    rw[cU hiσ] at e2
    cases e2
    exact ⟨u,r,.inl ⟨hk,by simp⟩⟩
   ·rw[cG (eY hj)] at e2
    obtain ⟨u',r',q⟩:=hl j y v' e1 e2 e3
    refine ⟨u',r',?_⟩
    rcases q with ⟨k,e⟩ | ⟨k,c,e,z⟩
    ·refine .inl ⟨k,?_⟩
     have:y≠x:=fun e=>hj (Rm hN e1 (e ▸ hi))
     simp[this,e]
    ·exact .inr ⟨k,c,e,z.sameBut hs (cne y c e)⟩
  ·obtain ⟨w',z⟩:=I.cell y c e
   exact ⟨w',z.sameBut hs (cne y c e)⟩
  ·obtain ⟨e,n,ne,nf,d⟩:=I.pin p hp
   exact ⟨(hs.2 p.1 ne).trans e,n,ne,nf,d⟩
 ·have hfn:X.fn x=true:=by
   rcases hf with z | z
   ·exact z
   ·rw[z] at hk;cases hk
  obtain ⟨c,hc⟩:=I.ok.has x (.inl hk)
  obtain ⟨w',z⟩:=I.cell x c hc
  refine wpAny_storeName_cell I.ok.kind hk hc z (fun h' hc' hs=>?_)
  obtain ⟨oc,hoc,hocd⟩:=id z
  refine h { s with heap:=h' } ⟨I.ok,I.os,I.bare,⟨fun b o e n hb hx=>?_,fun b o e n hb hx=>?_,I.base.free,fun b o e hx=>?_,I.base.tups,I.base.frzs,I.base.tbls⟩,⟨m,hn.sameBut hs (eY (cne x c hc)),fun j y v' e1 e2 e3=>?_⟩,fun y c' e=>?_,I.free,I.freeC,fun p hp=>?_,tracked ⟨oc,hoc,I.freeC x c hc⟩ hs,by simpa using I.len⟩ ⟨c,hs,.inr hc⟩
  ·exact (hs.2 b (bR (aS (aO e) (I.ok.cab x c hfn hc)))).trans (I.base.keep b o e n hb hx)
  ·obtain ⟨sl,e1⟩:=I.base.slot b o e n hb hx
   exact ⟨sl,(hs.2 b (bR (aS (aO e) (I.ok.cab x c hfn hc)))).trans e1⟩
  ·obtain ⟨o',e1⟩:=I.base.there b o e hx
   exact ⟨o',(hs.2 b (bR (aS (aO e) (I.ok.cab x c hfn hc)))).trans e1⟩
  ·by_cases hj:j=i
   ·subst hj
    rw[hi] at e1;cases e1
    rw[cU hiσ] at e2
    cases e2
    exact ⟨u,r,.inr ⟨.inl hk,c,hc,hc'⟩⟩
   ·rw[cG (eY hj)] at e2
    obtain ⟨u',r',q⟩:=hl j y v' e1 e2 e3
    refine ⟨u',r',?_⟩
    rcases q with q | ⟨k,c',e,z'⟩
    ·exact .inl q
    ·refine .inr ⟨k,c',e,z'.sameBut hs ?_⟩
     rintro rfl
     exact hj (Rm hN e1 (I.ok.inj _ _ _ e hc ▸ hi))
  ·by_cases hcc:c'=c
   ·subst hcc;exact ⟨_,hc'⟩
   ·obtain ⟨w2,z2⟩:=I.cell y c' e
    exact ⟨w2,z2.sameBut hs hcc⟩
  ·obtain ⟨e,n,ne,nf,d⟩:=I.pin p hp
   refine ⟨(hs.2 p.1 ?_).trans e,n,ne,nf,d⟩
   intro q
   rw[q,hoc] at e
   have q':oc=p.2:=bJ e
   exact d w' (by rw[<- q'];exact hocd)
theorem S7{M:Model}{A:bZ}{E:aC->aG->Prop}{i:Nat}{x:Str}{v:V}{u:aC}{Q:Unit->aG->Prop}(I:Inv X pins σ H s)(hN:X.N.Nodup)(hi:X.N[i]? = some x)(hx:Loc X.env.scope x)(r:RelV v u)
  (h:∀ s',Inv X pins (σ.set i (some v)) H s'->Q () s') (hf:X.fn x=true\/X.env.scope.names.lookup x=some .local:=by first | exact .inl rfl | exact .inr rfl | assumption):wpAny M A (storeName X.env x u) Q E s:=
 Yg I hN hi hx r (fun s' I' _=>h s' I') hf
theorem Inv.call'{s':aG}{ch:List Addr}(I:Inv X pins σ H s)(ho:s'.os=s.os)(u:Un (frs X.stack) ch H H' s.heap s'.heap)(hok:HOk X.prog X.w H' s'.heap)(hg:jA s'.gens)
  (hch:∀ b∈ch,(b∈X.ex\/X.s₀.heap.objs.size<=b)/\b≠X.env.locals/\(∀ x c,X.env.cells.lookup x=some c->c≠b)/\∀ p∈X.pn++pins,p.1≠b):Inv X pins σ H' s':=by
 obtain ⟨h',g',d',t',o'⟩:=s'
 have e:o'=s.os:=ho
 subst e
 exact I.call (g':=g') (t':=t') (d':=d') u hok hg hch
end
abbrev XK:=aC->Option Addr->Hp->Prop
abbrev St:=List (Option V)
abbrev VK:=V->Hp->Prop
abbrev TE:=St->Hp->VK->Prop
abbrev TT:=St->Hp->(Bool->Hp->Prop)->Prop
abbrev TA:=St->Hp->(List V->Hp->Prop)->Prop
structure Ends where
 nx:St->Hp->Prop
 rt:VK
 bk:St->Hp->Prop:=fun _ _=>False
 ct:St->Hp->Prop:=fun _ _=>False
abbrev TS:=Ends->St->Hp->Prop
inductive EP(X:Cx)(pins:List (Addr×Obj))(σ:St)(Q:VK)(u:aC)(s':aG):Prop
 | mk (v:V) (H':Hp) (I:Inv X pins σ H' s') (r:RelV v u) (q:Q v H'):EP X pins σ Q u s'
inductive TP(X:Cx)(pins:List (Addr×Obj))(σ:St)(Q:Bool->Hp->Prop)(b:Bool)(s':aG):Prop
 | mk (H':Hp) (I:Inv X pins σ H' s') (q:Q b H'):TP X pins σ Q b s'
inductive AP(X:Cx)(pins:List (Addr×Obj))(σ:St)(Q:List V->Hp->Prop)(us:List aC)(s':aG):Prop
 | mk (vs:List V) (H':Hp) (I:Inv X pins σ H' s') (r:Vals vs us) (q:Q vs H'):AP X pins σ Q us s'
theorem EP.elim{X:Cx}{pins:List (Addr×Obj)}{σ:St}{Q:VK}{u:aC}{s':aG}{C:Prop}(h:EP X pins σ Q u s')(k:∀ v H',Inv X pins σ H' s'->RelV v u->Q v H'->C):C:=h.rec k
theorem AP.elim{X:Cx}{pins:List (Addr×Obj)}{σ:St}{Q:List V->Hp->Prop}{us:List aC}{s':aG}{C:Prop}(h:AP X pins σ Q us s')(k:∀ vs H',Inv X pins σ H' s'->Vals vs us->Q vs H'->C):C:=h.rec k
noncomputable def SP(X:Cx)(pins:List (Addr×Obj))(D:Ends)(f:Flow)(s':aG):Prop:=
 match f with
 | .next=>∃ σ' H',Inv X pins σ' H' s'/\D.nx σ' H'
 | .brk=>∃ σ' H',Inv X pins σ' H' s'/\D.bk σ' H'
 | .cont=>∃ σ' H',Inv X pins σ' H' s'/\D.ct σ' H'
 | .ret u=>∃ v σ' H',Inv X pins σ' H' s'/\RelV v u/\D.rt v H'
noncomputable def PE(X:Cx)(e:Expr)(t:TE):Prop:=
 ∀ (pins:List (Addr×Obj)) (s:aG) (σ:St) (H:Hp) (Q:VK),Inv X pins σ H s->t σ H Q->wpAny (model X.prog X.w) X.A (eval e X.env) (EP X pins σ Q) X.xe s
noncomputable def PT(X:Cx)(e:Expr)(t:TT):Prop:=
 ∀ (pins:List (Addr×Obj)) (s:aG) (σ:St) (H:Hp) (Q:Bool->Hp->Prop),Inv X pins σ H s->t σ H Q->wpAny (model X.prog X.w) X.A (isTrue e X.env (eval e X.env)) (TP X pins σ Q) X.xe s
noncomputable def PW(X:Cx)(e:Expr)(t:TT):Prop:=
 ∀ (whole:Sem aC) (pins:List (Addr×Obj)) (s:aG) (σ:St) (H:Hp) (Q:Bool->Hp->Prop),Inv X pins σ H s->t σ H Q->wpAny (model X.prog X.w) X.A (isTrue e X.env whole) (TP X pins σ Q) X.xe s
theorem PW.pt{X:Cx}{e:Expr}{t:TT}(h:PW X e t):PT X e t:=h _
noncomputable def PA(X:Cx)(es:List Expr)(t:TA):Prop:=
 ∀ (pos:Pos) (pins:List (Addr×Obj)) (s:aG) (σ:St) (H:Hp) (Q:List V->Hp->Prop),Inv X pins σ H s->t σ H Q->wpAny (model X.prog X.w) X.A (spliced (backTo pos (aL es X.env))) (AP X pins σ Q) X.xe s
noncomputable def PS(X:Cx)(st:Stmt)(t:TS):Prop:=
 ∀ (pins:List (Addr×Obj)) (s:aG) (σ:St) (H:Hp) (D:Ends),Inv X pins σ H s->t D σ H->wpAny (model X.prog X.w) X.A (exec st X.env) (SP X pins D) X.xe s
noncomputable def PSs(X:Cx)(st:List Stmt)(t:TS):Prop:=
 ∀ (pins:List (Addr×Obj)) (s:aG) (σ:St) (H:Hp) (D:Ends),Inv X pins σ H s->t D σ H->wpAny (model X.prog X.w) X.A (execs st X.env) (SP X pins D) X.xe s
theorem thn{α:Type}{t:Sem α}{Q Q':α->aG->Prop}{M:Model}{A:bZ}{E:aC->aG->Prop}{s:aG}(h:wpAny M A t Q E s)(hQ:∀ a s,Q a s->Q' a s):wpAny M A t Q' E s:=dI h hQ fun _ _ x=>x
section
variable {X:Cx}
noncomputable def Am3(i:Nat):TE:=fun σ H Q=>∃ v,σ[i]? = some (some v)/\Q v H
noncomputable def tC(v:V):TE:=fun _ H Q=>Q v H
theorem Ah2{i:Nat}{x:Str}{pos:Pos}(hN:X.N[i]? = some x)(hv:Vis X.env.scope x)(hd:(x == ("__debug__" : Str))=false:=by decide)(hcd:(x == ("__classdict__" : Str))=false:=by decide):PE X (.Name x pos) (Am3 i):=by
 intro pins s σ H Q I h
 obtain ⟨v,e,h⟩:=h
 obtain ⟨m,hn,hl⟩:=I.loc
 obtain ⟨u,r,l⟩:=hl i x v hN e hv
 have fin:EP X pins σ Q u s:=⟨v,H,I,r,h⟩
 rcases l with ⟨hk,hm⟩ | ⟨hk,c,hc,hcell⟩
 ·exact pC (wpAny_loadName_local I.ok.kind hk hn hm fin) hd
 ·rcases hk with hk | hk
  ·exact pC (wpAny_loadName_cell I.ok.kind hk hc hcell fin) hd
  ·exact pC (wpAny_loadName_free I.ok.kind hk hc hcell fin hcd) hd
theorem Aje{i j pos}:PE X (.Constant (.int i) j pos) (tC (.int i)):=fun _ _ _ H _ I h=>wpAny_Constant_int ⟨.int i,H,I.tok _,⟨_,rfl⟩,h⟩
theorem Ak0{b j pos}:PE X (.Constant (.bool b) j pos) (tC (.bl b)):=fun _ _ _ H _ I h=>Constant_bool ⟨.bl b,H,I,rfl,h⟩
theorem Ait{j pos}:PE X (.Constant .none j pos) (tC .non):=fun _ _ _ H _ I h=>Constant_none ⟨.non,H,I,rfl,h⟩
theorem Aie{x j pos}:PE X (.Constant (.str x) j pos) (tC (.str x)):=fun _ _ _ H _ I h=>Calls.Constant_str ⟨.str x,H,I.tok _,⟨_,rfl⟩,h⟩
noncomputable def Gl(X:Cx)(x:Str):Prop:=X.env.kindOf x=some .globalImplicit
theorem G3{E:aC->aG->Prop}{pins:List (Addr×Obj)}{s:aG}{σ:St}{H:Hp}{x:Str}{u:aC}{pos:Pos}{Q:aC->aG->Prop}(I:Inv X pins σ H s)(hg:Gl X x)(hm:X.mg x=some u)(h:Q u s)
  (hd:(x == ("__debug__" : Str))=false:=by decide):wpAny (model X.prog X.w) X.A (eval (.Name x pos) X.env) Q E s:=
 jG I.ok.kind hg (Calls.loadGlobal_global (by rw[I.ok.glob];exact I.mod.glob.keeps I.bk) hm h) hd
theorem J6{E:aC->aG->Prop}{pins:List (Addr×Obj)}{s:aG}{σ:St}{H:Hp}{x:Str}{u:aC}{pos:Pos}{Q:aC->aG->Prop}(I:Inv X pins σ H s)(hg:Gl X x)(hm:X.mg x=none)(hv:dX x=some u)(h:Q u s)
  (hn:x ≠ "__name__" := by decide) (hd:(x == ("__debug__" : Str))=false:=by decide):wpAny (model X.prog X.w) X.A (eval (.Name x pos) X.env) Q E s:=by
 obtain ⟨mb,h1,h2⟩:=I.mod.blt
 exact jG I.ok.kind hg (Calls.loadGlobal_builtin (by rw[I.ok.glob];exact I.mod.glob.keeps I.bk) hm (by rw[I.ok.blt];exact h1.keeps I.bk) ((h2 x hn).trans hv) h) hd
theorem Lg{x:Str}{v:V}{u:aC}{pos:Pos}(hg:Gl X x)(hm:X.mg x=some u)(r:RelV v u)(hd:(x == ("__debug__" : Str))=false:=by decide):PE X (.Name x pos) (tC v):=
 fun _ _ _ H _ I h=>G3 I hg hm ⟨v,H,I,r,h⟩ hd
theorem Ael{x:Str}{v:V}{u:aC}{pos:Pos}(hg:Gl X x)(hm:X.mg x=none)(hv:dX x=some u)(r:RelV v u)(hn:x ≠ "__name__" := by decide)(hd:(x == ("__debug__" : Str))=false:=by decide):PE X (.Name x pos) (tC v):=
 fun _ _ _ H _ I h=>J6 I hg hm hv ⟨v,H,I,r,h⟩ hn hd
variable {a b:Expr}{ta tb:TE}{pos:Pos}
variable {tA tB':TT}{rest:List Expr}
noncomputable def Alz(t u:TT):TT:=fun σ H Q=>t σ H fun c H1=>if c=true then u σ H1 Q else Q false H1
noncomputable def tOr(t u:TT):TT:=fun σ H Q=>t σ H fun c H1=>if c=true then Q true H1 else u σ H1 Q
noncomputable def Am5(t:TT):TT:=fun σ H Q=>t σ H fun c H1=>Q (!c) H1
theorem Ae5(ha:PT X a tA):PW X (.BoolOp .And [a] pos) tA:=by
 intro wh pins s σ H Q I h
 refine isTrue_and (thn (ha pins s σ H Q I h) fun c s1 e=>?_)
 cases c with
 | true=>exact isTrue_and_nil e
 | false=>exact e
theorem Aic(ha:PT X a tA):PW X (.BoolOp .Or [a] pos) tA:=by
 intro wh pins s σ H Q I h
 refine isTrue_or (thn (ha pins s σ H Q I h) fun c s1 e=>?_)
 cases c with
 | false=>exact isTrue_or_nil e
 | true=>exact e
theorem Aia(ha:PT X a tA)(hb:PW X (.BoolOp .And (b::rest) pos) tB'):PW X (.BoolOp .And (a::b::rest) pos) (Alz tA tB'):=by
 intro wh pins s σ H Q I h
 refine isTrue_and (thn (ha pins s σ H _ I h) fun c s1 zz=>?_)
 obtain ⟨H1,I1,q1⟩:=zz
 cases c with
 | true=>exact hb wh pins s1 σ H1 Q I1 q1
 | false=>exact ⟨H1,I1,q1⟩
theorem Ak2(ha:PT X a tA)(hb:PW X (.BoolOp .Or (b::rest) pos) tB'):PW X (.BoolOp .Or (a::b::rest) pos) (tOr tA tB'):=by
 intro wh pins s σ H Q I h
 refine isTrue_or (thn (ha pins s σ H _ I h) fun c s1 zz=>?_)
 obtain ⟨H1,I1,q1⟩:=zz
 cases c with
 | true=>exact ⟨H1,I1,q1⟩
 | false=>exact hb wh pins s1 σ H1 Q I1 q1
theorem Ahl(ha:PT X a tA):PT X (.UnaryOp .Not a pos) (Am5 tA):=by
 intro pins s σ H Q I h
 exact isTrue_not (thn (ha pins s σ H (fun c H1=>Q (!c) H1) I h) fun _ _ z=>z.rec fun H' I' q=>⟨H',I',q⟩)
noncomputable def Aj1(ta tb:TE):TE:=fun σ H Q=>ta σ H fun x H1=>∃ c,x = .bl c/\if c=true then tb σ H1 Q else Q (.bl false) H1
noncomputable def Amt(ta tb:TE):TE:=fun σ H Q=>ta σ H fun x H1=>∃ c,x = .bl c/\if c=true then Q (.bl true) H1 else tb σ H1 Q
theorem Ahx{op}{t:TE}(h:PE X a t):PE X (.BoolOp op [a] pos) t:=fun pins s σ H Q I hw=>BoolOp_one (h pins s σ H Q I hw)
theorem Ag5(ha:PE X a ta)(hb:PE X (.BoolOp .And (b::rest) pos) tb):PE X (.BoolOp .And (a::b::rest) pos) (Aj1 ta tb):=by
 intro pins s σ H Q I h
 refine BoolOp_and (thn (ha pins s σ H _ I h) fun v s1 zz=>?_)
 obtain ⟨x,H1,I1,r1,q1⟩:=zz
 obtain ⟨c,rfl,q1⟩:=q1
 cases r1
 refine eO ?_
 cases c with
 | true=>exact hb pins s1 σ H1 Q I1 q1
 | false=>exact ⟨.bl false,H1,I1,rfl,q1⟩
theorem Ak6(ha:PE X a ta)(hb:PE X (.BoolOp .Or (b::rest) pos) tb):PE X (.BoolOp .Or (a::b::rest) pos) (Amt ta tb):=by
 intro pins s σ H Q I h
 refine BoolOp_or (thn (ha pins s σ H _ I h) fun v s1 zz=>?_)
 obtain ⟨x,H1,I1,r1,q1⟩:=zz
 obtain ⟨c,rfl,q1⟩:=q1
 cases r1
 refine eO ?_
 cases c with
 | false=>exact hb pins s1 σ H1 Q I1 q1
 | true=>exact ⟨.bl true,H1,I1,rfl,q1⟩
noncomputable def tIf(t:TT)(ta tb:TE):TE:=fun σ H Q=>t σ H fun c H1=>if c=true then ta σ H1 Q else tb σ H1 Q
theorem Abu{c:Expr}(hc:PT X c tA)(ha:PE X a ta)(hb:PE X b tb):PE X (.IfExp c a b pos) (tIf tA ta tb):=by
 intro pins s σ H Q I h
 refine wpAny_IfExp (thn (hc pins s σ H _ I h) fun d s1 zz=>?_)
 obtain ⟨H1,I1,q1⟩:=zz
 cases d with
 | true=>exact ha pins s1 σ H1 Q I1 q1
 | false=>exact hb pins s1 σ H1 Q I1 q1
end
noncomputable def SqL(K:aA)(H:Hp)(a:Addr)(xs:List V):Prop:=
 Rd H a (.lst xs) \/
  ∃ (o:Obj) (its:Array aC) (n:Nat),K.lookup a=some o/\o.cls = .type "list" /\ o.dict=none/\o.data = .seq its n/\its.size<=sizeLine/\Vals xs its.toList
noncomputable def SqT(K:aA)(H:Hp)(a:Addr)(xs:List V):Prop:=
 Rd H a (.tup xs) \/
  ∃ (o:Obj) (its:Array aC) (n:Nat),K.lookup a=some o/\(o.cls,o.dict)=(kQ "tuple",(none:Option Addr))/\o.data = .seq its n/\its.size<=sizeLine/\Vals xs its.toList
noncomputable def Ang:aC->Option V
 | .none=>some .non
 | .bool b=>some (.bl b)
 | .int i _=>some (.int i)
 | .str x _=>some (.str x)
 | .bytes b _=>some (.byt b)
 | .float b _=>some (.flt b)
 | .ref a=>some (.ref a)
 | .type n=>some (.ty n)
 | _=>none
theorem RelV.abs{x:V}{u:aC}(r:RelV x u):Ang u=some x:=by
 cases x with
 | non=>cases r;rfl
 | bl _=>cases r;rfl
 | int _=>obtain ⟨t,rfl⟩:=r;rfl
 | str _=>obtain ⟨t,rfl⟩:=r;rfl
 | byt _=>obtain ⟨t,rfl⟩:=r;rfl
 | flt _=>obtain ⟨t,rfl⟩:=r;rfl
 | ref _=>cases r;rfl
 | ty _=>cases r;rfl
theorem RelV.inj{x y:V}{u:aC}(r:RelV x u)(q:RelV y u):x=y:=bJ (r.abs.symm.trans q.abs)
theorem Vals.inj{xs ys:List V}{us:List aC}(h:Vals xs us)(h':Vals ys us):xs=ys:=by
 induction h generalizing ys with
 | nil=>cases h';rfl
 | cons r t ih=>
  cases h' with
  | cons r' t'=>rw[r.inj r',ih t']
section
variable {X:Cx}{pins:List (Addr×Obj)}{σ:St}{H:Hp}{s:aG}{a:Addr}{xs ys:List V}
theorem SqL.of{K:aA}(h:H a=some (.lst xs)):SqL K H a xs:=.inl (.inl h)
theorem SqT.of{K:aA}(h:H a=some (.tup xs)):SqT K H a xs:=.inl (.inl h)
theorem Inv.list(I:Inv X pins σ H s)(h:SqL X.K H a xs):∃ its:List aC,Vals xs its/\PlainL s.heap a its.toArray/\xs.length<=sizeLine:=by
 rcases h with h | ⟨o,its,n,hk,hc,hd,hs,hz,r⟩
 ·obtain ⟨z,its,n,r,e⟩:=h.ok I.hok
  exact ⟨its,r,⟨_,n,e,rfl,rfl,rfl⟩,z⟩
 ·refine ⟨its.toList,r,⟨o,n,I.kIn a o hk,hc,hd,by simpa using hs⟩,?_⟩
  have e:=r.length
  simp only[fX] at e
  omega
theorem Inv.tupleN(I:Inv X pins σ H s)(h:SqT X.K H a xs):∃ its:List aC,Vals xs its/\TupN s.heap a its.toArray/\xs.length<=sizeLine:=by
 rcases h with h | ⟨o,its,n,hk,hc,hs,hz,r⟩
 ·obtain ⟨z,its,r,p⟩:=h.ok I.hok
  exact ⟨its,r,p,z⟩
 ·refine ⟨its.toList,r,⟨o,I.kIn a o hk,hc,n,by simpa using hs⟩,?_⟩
  have e:=r.length
  simp only[fX] at e
  omega
theorem Inv.tuple(I:Inv X pins σ H s)(h:SqT X.K H a xs):∃ its:List aC,Vals xs its/\IsTup s.heap a its.toArray/\xs.length<=sizeLine:=by
 obtain ⟨its,r,p,z⟩:=I.tupleN h
 exact ⟨its,r,p.is,z⟩
theorem Inv.list_inj(I:Inv X pins σ H s)(h:SqL X.K H a xs)(h':SqL X.K H a ys):xs=ys:=by
 obtain ⟨its,r,⟨o,n,e,_,_,d⟩,_⟩:=I.list h
 obtain ⟨its',r',⟨o',n',e',_,_,d'⟩,_⟩:=I.list h'
 rw[e] at e';cases e'
 rw[d] at d'
 injection d' with d1 _
 have:its=its':=by simpa using congrArg pU d1
 subst this
 exact r.inj r'
theorem Inv.tuple_inj(I:Inv X pins σ H s)(h:SqT X.K H a xs)(h':SqT X.K H a ys):xs=ys:=by
 obtain ⟨its,r,⟨o,e,_,n,d⟩,_⟩:=I.tuple h
 obtain ⟨its',r',⟨o',e',_,n',d'⟩,_⟩:=I.tuple h'
 rw[e] at e';cases e'
 rw[d] at d'
 injection d' with d1 _
 have:its=its':=by simpa using congrArg pU d1
 subst this
 exact r.inj r'
end
abbrev Cx.wish(X:Cx)(E:aC->aG->Prop):Cx:={ X with xe:=E }
abbrev Cx.nox(X:Cx):Cx:=X.wish fun _ _=>False
theorem Cx.Ok.wish{X:Cx}(ok:X.Ok)(E:aC->aG->Prop):(X.wish E).Ok:=
 ⟨ok.mod,ok.kind,ok.glob,ok.blt,ok.above,ok.inj,ok.has,ok.cab,ok.hd,ok.frames,ok.stk,ok.exf,ok.bs,ok.bsz,ok.noex,ok.exfs,ok.funs,ok.frf⟩
theorem Cx.Ok.unwish{X:Cx}{E:aC->aG->Prop}(ok:(X.wish E).Ok):X.Ok:=
 ⟨ok.mod,ok.kind,ok.glob,ok.blt,ok.above,ok.inj,ok.has,ok.cab,ok.hd,ok.frames,ok.stk,ok.exf,ok.bs,ok.bsz,ok.noex,ok.exfs,ok.funs,ok.frf⟩
section
variable {X:Cx}{pins:List (Addr×Obj)}{σ:St}{H:Hp}{s:aG}{E:aC->aG->Prop}
theorem Inv.wish(I:Inv X pins σ H s)(E:aC->aG->Prop):Inv (X.wish E) pins σ H s:=⟨I.ok.wish E,I.os,I.bare,I.base,I.loc,I.cell,I.free,I.freeC,I.pin,I.hok,I.len⟩
theorem Inv.unwish(I:Inv (X.wish E) pins σ H s):Inv X pins σ H s:=⟨I.ok.unwish,I.os,I.bare,I.base,I.loc,I.cell,I.free,I.freeC,I.pin,I.hok,I.len⟩
theorem SP.unwish{D:Ends}{f:Flow}{s':aG}(h:SP (X.wish E) pins D f s'):SP X pins D f s':=by
 cases f with
 | next=>obtain ⟨σ',H',I,q⟩:=h;exact ⟨σ',H',I.unwish,q⟩
 | brk=>obtain ⟨σ',H',I,q⟩:=h;exact ⟨σ',H',I.unwish,q⟩
 | cont=>obtain ⟨σ',H',I,q⟩:=h;exact ⟨σ',H',I.unwish,q⟩
 | ret u=>obtain ⟨v,σ',H',I,r,q⟩:=h;exact ⟨v,σ',H',I.unwish,r,q⟩
theorem PE.nox{e:Expr}{t:TE}(h:PE X.nox e t):PE X e t:=fun pins s σ H Q I hw=>
 dI (h pins s σ H Q (I.wish _) hw) (fun _ _ zz=>by obtain ⟨v,H',I',r,q⟩:=zz;exact ⟨v,H',I'.unwish,r,q⟩) fun _ _ z=>cJ z
theorem PT.nox{e:Expr}{t:TT}(h:PT X.nox e t):PT X e t:=fun pins s σ H Q I hw=>
 dI (h pins s σ H Q (I.wish _) hw) (fun _ _ zz=>by obtain ⟨H',I',q⟩:=zz;exact ⟨H',I'.unwish,q⟩) fun _ _ z=>cJ z
theorem PSs.nox{st:List Stmt}{t:TS}(h:PSs X.nox st t):PSs X st t:=fun pins s σ H D I hw=>
 dI (h pins s σ H D (I.wish _) hw) (fun _ _ q=>q.unwish) fun _ _ z=>cJ z
end
section
variable {X:Cx}{st:Stmt}{rest:List Stmt}{t u:TS}{e:Expr}{te:TE}{pos:Pos}
noncomputable def Akg:TS:=fun D σ H=>D.nx σ H
noncomputable def Amc(t u:TS):TS:=fun D σ H=>t { D with nx:=u D } σ H
theorem Ad2:PSs X [] Akg:=fun _ _ σ H _ I h=>lB ⟨σ,H,I,h⟩
theorem Y3(h1:PS X st t)(h2:PSs X rest u):PSs X (st::rest) (Amc t u):=by
 intro pins s σ H D I h
 refine nX (thn (h1 pins s σ H { D with nx:=u D } I h) fun f s1 q=>?_)
 cases f with
 | next=>
  obtain ⟨σ',H',I',q⟩:=q
  exact h2 pins s1 σ' H' D I' q
 | ret v=>exact q
 | brk=>exact q
 | cont=>exact q
theorem Ad0(h1:PS X st t):PSs X [st] t:=by
 intro pins s σ H D I h
 refine nX (thn (h1 pins s σ H D I h) fun f s1 q=>?_)
 cases f with
 | next=>exact lB q
 | ret v=>exact q
 | brk=>exact q
 | cont=>exact q
theorem Inv.quiet{pins:List (Addr×Obj)}{σ:St}{H:Hp}{s:aG}(I:Inv X pins σ H s):interactive X.env=false:=by simp[interactive,I.ok.kind]
noncomputable def Akz(te:TE):TS:=fun D σ H=>te σ H fun _ H1=>D.nx σ H1
theorem Ae1(he:PE X e te)(hs:swapsWith e none pos.line X.env=pure false:=by rfl):PS X (.Expr e pos) (Akz te):=by
 intro pins s σ H D I h
 exact wpAny_Expr_any (thn (he pins s σ H _ I h) fun v s1 zz=>by obtain ⟨x,H1,I1,r1,q1⟩:=zz;exact ⟨σ,H1,I1,q1⟩) I.quiet hs
noncomputable def Amj(te:TE):TS:=fun D σ H=>te σ H D.rt
theorem Ahn(he:PE X e te):PS X (.Return (some e) pos) (Amj te):=by
 intro pins s σ H D I h
 exact wpAny_Return_some (thn (he pins s σ H _ I h) fun v s1 zz=>by obtain ⟨x,H1,I1,r1,q1⟩:=zz;exact ⟨x,σ,H1,I1,r1,q1⟩)
noncomputable def Am8(c:TT)(t u:TS):TS:=fun D σ H=>c σ H fun b H1=>if b=true then t D σ H1 else u D σ H1
theorem Alm{c:Expr}{a b:List Stmt}{tc:TT}(hc:PT X c tc)(ha:PSs X a t)(hb:PSs X b u):PS X (.If c a b pos) (Am8 tc t u):=by
 intro pins s σ H D I h
 refine wpAny_If (thn (hc pins s σ H _ I h) fun d s1 zz=>?_)
 obtain ⟨H1,I1,q1⟩:=zz
 cases d with
 | true=>exact ha pins s1 σ H1 D I1 q1
 | false=>exact hb pins s1 σ H1 D I1 q1
noncomputable def Ahb:TS:=fun _ _ _=>False
theorem Aaa:PS X st Ahb:=fun _ _ _ _ _ _ h=>h.elim
end
abbrev TG:=V->St->Hp->(St->Hp->Prop)->Prop
abbrev TGs:=List V->St->Hp->(St->Hp->Prop)->Prop
noncomputable def PG(X:Cx)(target:Expr)(t:TG):Prop:=
 ∀ (pins:List (Addr×Obj)) (s:aG) (σ:St) (H:Hp) (v:V) (u:aC) (Q:St->Hp->Prop),Inv X pins σ H s->RelV v u->t v σ H Q ->
  wpAny (model X.prog X.w) X.A (assign target X.env u) (fun _ s'=>∃ σ' H',Inv X pins σ' H' s'/\Q σ' H') X.xe s
noncomputable def PGs(X:Cx)(ts:List Expr)(t:TGs):Prop:=
 ∀ (pins:List (Addr×Obj)) (s:aG) (σ:St) (H:Hp) (vs:List V) (us:List aC) (Q:St->Hp->Prop),Inv X pins σ H s->Vals vs us->t vs σ H Q ->
  wpAny (model X.prog X.w) X.A (assignInOrder ((assignEach ts X.env).map (·.2)) us) (fun _ s'=>∃ σ' H',Inv X pins σ' H' s'/\Q σ' H') X.xe s
abbrev Amu:=V->V->V->Hp->(Hp->Prop)->Prop
section
variable {X:Cx}{pos:Pos}
noncomputable def Agg(i:Nat):TG:=fun v σ H Q=>Q (σ.set i (some v)) H
theorem Af9{i:Nat}{x:Str}(hN:X.N.Nodup)(hi:X.N[i]? = some x)(hx:Loc X.env.scope x)(hf:X.fn x=true\/X.env.scope.names.lookup x=some .local:=by first | exact .inl rfl | exact .inr rfl | assumption):PG X (.Name x pos) (Agg i):=by
 intro pins s σ H v u Q I r h
 exact wpAny_assign_Name (S7 I hN hi hx r (fun s' I'=>⟨_,H,I',h⟩) hf)
noncomputable def gNil:TGs:=fun vs σ H Q=>vs=[]/\Q σ H
noncomputable def gCons(t:TG)(u:TGs):TGs:=fun vs σ H Q=>∃ v r,vs=v::r/\t v σ H fun σ' H'=>u r σ' H' Q
theorem Afe:PGs X [] gNil:=by
 intro pins s σ H vs us Q I r h
 obtain ⟨e,h⟩:=h
 subst e
 cases r
 exact assignInOrder_nil ⟨σ,H,I,h⟩
theorem Ade{e:Expr}{es:List Expr}{t:TG}{u:TGs}(h1:PG X e t)(h2:PGs X es u)
  (hs:(assignEach (e::es) X.env).map (·.2)=assign e X.env::(assignEach es X.env).map (·.2):=by rfl):PGs X (e::es) (gCons t u):=by
 intro pins s σ H vs us Q I r h
 obtain ⟨v,vr,e1,h⟩:=h
 subst e1
 cases r with
 | cons r rr=>
  rw[hs]
  refine assignInOrder_cons (thn (h1 pins s σ H _ _ _ I r h) fun _ s1 zz=>?_)
  obtain ⟨σ1,H1,I1,q1⟩:=zz
  exact h2 pins s1 σ1 H1 _ _ Q I1 rr q1
noncomputable def gTup(K:aA)(n:Nat)(t:TGs):TG:=fun v σ H Q=>∃ a xs,v = .ref a/\SqT K H a xs/\xs.length=n/\t xs σ H Q
theorem Aiy{es:List Expr}{k:Nat}{t:TGs}{n:Nat}(hc:X.calm=true)(h:PGs X es t)
  (hn:(assignEach es X.env).length=n:=by rfl) (hst:(assignEach es X.env).findIdx? (·.1)=none:=by rfl):PG X (.Tuple es k pos) (gTup X.K n t):=by
 intro pins s σ H v u Q I r hw
 obtain ⟨a,xs,e1,hq,hl,hw⟩:=hw
 subst e1
 cases r
 obtain ⟨its,rv,ht,hz⟩:=I.tuple hq
 refine assign_Tuple_tuple (I.ok.hd hc) ht (by simp[hn,<- hl,rv.length]) hst fun h' hx=>?_
 have I1:Inv X pins σ H { s with heap:=h' }:=I.kept (t':=s.toks) fun b o e=>hx b o (bR (aO e)) e
 exact h pins _ σ H xs _ Q I1 (by simpa using rv) hw
noncomputable def gSub(to ti:TE)(t:Amu):TG:=fun v σ H Q=>to σ H fun o H1=>ti σ H1 fun i H2=>t o i v H2 fun H3=>Q σ H3
noncomputable def Amb(te:TE)(g:TG):TS:=fun D σ H=>te σ H fun x H1=>g x σ H1 D.nx
theorem Ajc{i:Nat}{x:Str}{e:Expr}{te:TE}{pos':Pos}(hN:X.N.Nodup)(hi:X.N[i]? = some x)(hx:Loc X.env.scope x)(he:PE X e te)(hs:swapsWith e (some (.Name x pos')) pos.line X.env=pure false:=by rfl)(hf:X.fn x=true\/X.env.scope.names.lookup x=some .local:=by first | exact .inl rfl | exact .inr rfl | assumption) :
  PS X (.Assign [.Name x pos'] e pos) (Amb te (Agg i)):=by
 intro pins s σ H D I h
 refine wpAny_Assign_Name (thn (he pins s σ H _ I h) fun v s1 zz=>zz.elim fun y H1 I1 r1 q1=>?_) hs
 exact S7 I1 hN hi hx r1 (fun s2 I2=>⟨_,H1,I2,q1⟩) hf
end
section
variable {X:Cx}{pos:Pos}
end
structure It where
 go:Nat->Hp->Prop
 yld:Nat->Hp->V->Hp->Prop
 stop:Nat->Hp->Prop
noncomputable def Hv(X:Cx)(pins:List (Addr×Obj))(H:Hp)(b:Addr):Prop:=
 H b=none/\b≠X.env.locals/\b∉X.fs/\(b∈X.ex\/X.s₀.heap.objs.size<=b)/\(∀ x c,X.env.cells.lookup x=some c->c≠b)/\∀ p∈X.pn++pins,p.1≠b
theorem Inv.fpOk{X:Cx}{pins:List (Addr×Obj)}{σ:St}{H H':Hp}{s:aG}{b:Addr}(I:Inv X pins σ H s)(hb:s.heap.objs.size<=b)(hn:H' b=none):Hv X pins H' b:=by
 refine ⟨hn,gT (aS I.lt hb),I.nofs hb,.inr (cF I.sz hb),fun x c e z=>?_,fun p hp z=>?_⟩
 ·obtain ⟨v,q⟩:=I.cell x c e
  exact absurd (aS q.lt (by rw[z];exact hb)) (dB _)
 ·exact absurd (aS (aO (I.pin p hp).1) (by rw[z];exact hb)) (dB _)
structure Turn(P:aW)(w:bG)(K:aA)(tg:Expr)(J:It)(fp:List Addr)(it:Addr)(tn:Nat->Heap->Prop):Prop where
 mem:it∈fp
 obj:∀ i h,tn i h->∀ b∈fp,∃ o,h.get? b=some o/\∀ v,o.data≠.cell v
 keep:∀ i h h',tn i h->(∀ b∈fp,∀ o,h.get? b=some o->h'.get? b=some o)->tn i h'
 item:∀ (X:Cx),X.prog=P->X.w=w->X.K=K->X.calm=true->∀ (i:Nat) (pins:List (Addr×Obj)) (s:aG) (σ:St) (H:Hp) (E:aC->aG->Prop),Inv X pins σ H s->(∀ b∈fp,Hv X pins H b)->tn i s.heap->J.go i H ->
  wpAny (model P w) X.A (pyNext (.ref it)) (fun r s1=>∃ u,r=some u /\
   wpAny (model P w) X.A (letOwnedTupleGo tg (.ref it) u) (fun _ s2=>∃ x H',Inv X pins σ H' s2/\RelV x u/\J.yld i H x H'/\tn (i+1) s2.heap/\∀ b∈fp,H' b=none) E s1) E s
 done:∀ (X:Cx),X.prog=P->X.w=w->X.K=K->X.calm=true->∀ (i:Nat) (pins:List (Addr×Obj)) (s:aG) (σ:St) (H:Hp) (E:aC->aG->Prop),Inv X pins σ H s->(∀ b∈fp,Hv X pins H b)->tn i s.heap->J.stop i H ->
  wpAny (model P w) X.A (pyNext (.ref it)) (fun r s1=>r=none/\Inv X pins σ H s1) E s
 self:∀ (A:bZ) (i:Nat) (s:aG) (Q:aC->aG->Prop) (E:aC->aG->Prop),tn i s.heap->Q (.ref it) s->wpAny (model P w) A (pyIter (.ref it)) Q E s
abbrev TI:=St->Hp->(It->Hp->Prop)->Prop
inductive PIE(X:Cx)(pins:List (Addr×Obj))(σ:St)(tg:Expr)(R:It->Hp->Prop)(itv:aC)(s2:aG):Prop
 | mk (it:Addr) (fp:List Addr) (tn:Nat->Heap->Prop) (J:It) (H':Hp) (h0:itv = .ref it) (h1:Inv X pins σ H' s2) (h2:Turn X.prog X.w X.K tg J fp it tn) (h3:tn 0 s2.heap) (h4:(∀ b∈fp,Hv X pins H' b)) (h5:R J H'):PIE X pins σ tg R itv s2
noncomputable def PI(X:Cx)(tg iter:Expr)(wi:TI):Prop:=
 ∀ (pins:List (Addr×Obj)) (s:aG) (σ:St) (H:Hp) (R:It->Hp->Prop),Inv X pins σ H s->wi σ H R ->
  wpAny (model X.prog X.w) X.A (eval iter X.env) (fun v s1=>wpAny (model X.prog X.w) X.A (pyIter v) (PIE X pins σ tg R) X.xe s1) X.xe s
theorem Y9{M:Model}{A:bZ}{E:aC->aG->Prop}{s:aG}{tg:Expr}{it:Addr}{u:aC}{o:Obj}{n:String}{vs:Array aC}{Q:Unit->aG->Prop}(ho:s.heap.get? it=some o)(hc:o.cls = .type n)(hd:o.data = .fields vs)
  (hn:["enumerate","zip","dict_itemiterator","dict_reverseitemiterator","odict_iterator","itertools.zip_longest","itertools.pairwise"].contains n=false) (hQ:Q () s):wpAny M A (letOwnedTupleGo tg (.ref it) u) Q E s:=by
 unfold letOwnedTupleGo
 cases tg <;> first
  | exact aP hQ
  | (cases u <;> first
    | exact aP hQ
    | (refine aE (wpAny_load ho ?_)
       rw[hc,hd]
       show wpAny M A (if (["enumerate","zip","dict_itemiterator","dict_reverseitemiterator","odict_iterator","itertools.zip_longest","itertools.pairwise"].contains n&&vs[0]? == some (rawInt _))=true then _ else _) Q E s
       rw[if_neg (by intro h;rw[hn,Bool.false_and] at h;cases h)]
       exact aP hQ))
noncomputable def Itl(K:aA)(a:Addr):It:=
 ⟨fun i H=>∃ xs x,SqL K H a xs/\xs[i]? = some x,fun i H x H'=>H'=H/\∀ xs,SqL K H a xs->xs[i]? = some x,fun i H=>∃ xs,SqL K H a xs/\xs.length<=i⟩
noncomputable def Itt(K:aA)(a:Addr):It:=
 ⟨fun i H=>∃ xs x,SqT K H a xs/\xs[i]? = some x,fun i H x H'=>H'=H/\∀ xs,SqT K H a xs->xs[i]? = some x,fun i H=>∃ xs,SqT K H a xs/\xs.length<=i⟩
theorem X4{P:aW}{w:bG}{K:aA}{tg:Expr}(a it:Addr):Turn P w K tg (Itl K a) [it] it (fun i h=>h.IsListIter it a i) where
 mem:=by simp
 obj:=fun i h st b hb=>by
  have e:b=it:=by simpa using hb
  subst e
  obtain ⟨o,e,c,d⟩:=st
  exact ⟨o,e,fun v z=>by rw[d] at z;cases z⟩
 keep:=fun i h h' st k=>st.at fun o e=>k it (by simp) o e
 item:=by
  intro X hP hw hK hc i pins s σ H E I hf st hg
  subst hP hw hK
  obtain ⟨xs,x,hq,hx⟩:=hg
  obtain ⟨its,rv,p,hz⟩:=I.list hq
  obtain ⟨u,hu,ru⟩:=rv.get hx
  obtain ⟨f0,f1,f2,f3,f4,f5⟩:=hf it (by simp)
  refine wpAny_pyNext_list_item st p.isList (x:=u) (by simpa using hu) fun h' st' sb=>?_
  have I1:Inv X pins σ H { s with heap:=h' }:=I.turned (t':=s.toks) (fun b o hb e=>(sb.2 b hb).trans e) f0 f1 f3 f4 f5
  obtain ⟨o,e,c,d⟩:=id st'
  exact ⟨u,rfl,Y9 (s:={ s with heap:=h' }) e c d (by decide) ⟨x,H,I1,ru,⟨rfl,fun ys hy=>by rw[I.list_inj hy hq];exact hx⟩,st',fun b hb=>(hf b hb).1⟩⟩
 done:=by
  intro X hP hw hK hc i pins s σ H E I hf st hg
  subst hP hw hK
  obtain ⟨xs,hq,hx⟩:=hg
  obtain ⟨its,rv,p,hz⟩:=I.list hq
  obtain ⟨f0,f1,f2,f3,f4,f5⟩:=hf it (by simp)
  have hl:=rv.length
  exact wpAny_pyNext_list_end (I.ok.hd hc) st p.isList (by simp;omega) fun h' eb=>⟨rfl,I.turned (t':=s.toks) (fun b o hb e=>eb b o hb e) f0 f1 f3 f4 f5⟩
 self:=fun _ _ _ _ _ st h=>wpAny_pyIter_listiter st h
theorem U7{P:aW}{w:bG}{K:aA}{tg:Expr}(a it:Addr):Turn P w K tg (Itt K a) [it] it (fun i h=>h.IsTupleIter it a i) where
 mem:=by simp
 obj:=fun i h st b hb=>by
  have e:b=it:=by simpa using hb
  subst e
  obtain ⟨o,e,c,d⟩:=st
  exact ⟨o,e,fun v z=>by rw[d] at z;cases z⟩
 keep:=fun i h h' st k=>st.at fun o e=>k it (by simp) o e
 item:=by
  intro X hP hw hK hc i pins s σ H E I hf st hg
  subst hP hw hK
  obtain ⟨xs,x,hq,hx⟩:=hg
  obtain ⟨its,rv,p,hz⟩:=I.tuple hq
  obtain ⟨u,hu,ru⟩:=rv.get hx
  obtain ⟨f0,f1,f2,f3,f4,f5⟩:=hf it (by simp)
  refine wpAny_pyNext_tuple_item st (show s.heap.IsTuple a its.toArray from p) (x:=u) (by simpa using hu) fun h' st' sb=>?_
  have I1:Inv X pins σ H { s with heap:=h' }:=I.turned (t':=s.toks) (fun b o hb e=>(sb.2 b hb).trans e) f0 f1 f3 f4 f5
  obtain ⟨o,e,c,d⟩:=id st'
  exact ⟨u,rfl,Y9 (s:={ s with heap:=h' }) e c d (by decide) ⟨x,H,I1,ru,⟨rfl,fun ys hy=>by rw[I.tuple_inj hy hq];exact hx⟩,st',fun b hb=>(hf b hb).1⟩⟩
 done:=by
  intro X hP hw hK hc i pins s σ H E I hf st hg
  subst hP hw hK
  obtain ⟨xs,hq,hx⟩:=hg
  obtain ⟨its,rv,p,hz⟩:=I.tuple hq
  obtain ⟨f0,f1,f2,f3,f4,f5⟩:=hf it (by simp)
  have hl:=rv.length
  exact wpAny_pyNext_tuple_end (I.ok.hd hc) st (show s.heap.IsTuple a its.toArray from p) (by simp;omega) fun h' eb=>⟨rfl,I.turned (t':=s.toks) (fun b o hb e=>eb b o hb e) f0 f1 f3 f4 f5⟩
 self:=fun _ _ _ _ _ st h=>wpAny_pyIter_tupleiter st h
section
variable {X:Cx}{tg:Expr}
noncomputable def Akt(K:aA)(tl:TE):TI:=fun σ H R=>tl σ H fun x H1=>∃ a,x = .ref a/\(∃ xs,SqL K H1 a xs)/\R (Itl K a) H1
noncomputable def Ane(K:aA)(tl:TE):TI:=fun σ H R=>tl σ H fun x H1=>∃ a,x = .ref a/\(∃ xs,SqT K H1 a xs)/\R (Itt K a) H1
theorem Aev{l:Expr}{tl:TE}(hl:PE X l tl):PI X tg l (Akt X.K tl):=by
 intro pins s σ H R I h
 refine thn (hl pins s σ H _ I h) fun v s1 zz=>?_
 obtain ⟨x,H1,I1,r1,q1⟩:=zz
 obtain ⟨a,e,⟨xs,hq⟩,q⟩:=q1
 subst e
 cases r1
 obtain ⟨its,rv,p,hz⟩:=I1.list hq
 refine jU p.isList ?_
 refine ⟨s1.heap.objs.size,[s1.heap.objs.size],_,_,H1,rfl,I1.kept (t':=s1.toks) fun b o e=>aD _ e,X4 a _,⟨_,aR _ rfl,rfl,rfl⟩,fun b hb=>?_,q⟩
 have e:b=s1.heap.objs.size:=by simpa using hb
 subst e
 exact I1.fpOk (aZ _) (I1.hok.fresh (aZ _))
theorem Ah1{l:Expr}{tl:TE}(hl:PE X l tl):PI X tg l (Ane X.K tl):=by
 intro pins s σ H R I h
 refine thn (hl pins s σ H _ I h) fun v s1 zz=>?_
 obtain ⟨x,H1,I1,r1,q1⟩:=zz
 obtain ⟨a,e,⟨xs,hq⟩,q⟩:=q1
 subst e
 cases r1
 obtain ⟨its,rv,p,hz⟩:=I1.tuple hq
 refine gI (show s1.heap.IsTuple a its.toArray from p) ?_
 refine ⟨s1.heap.objs.size,[s1.heap.objs.size],_,_,H1,rfl,I1.kept (t':=s1.toks) fun b o e=>aD _ e,U7 a _,⟨_,aR _ rfl,rfl,rfl⟩,fun b hb=>?_,q⟩
 have e:b=s1.heap.objs.size:=by simpa using hb
 subst e
 exact I1.fpOk (aZ _) (I1.hok.fresh (aZ _))
noncomputable def Amz(wi:TI)(g:TG)(tb:TS):TS:=fun D σ H=>wi σ H fun J H1=>∃ W:Nat->Nat->St->Hp->Prop,(∃ m,W 0 m σ H1)/\∀ i m σ H,W i m σ H ->
 (J.stop i H/\D.nx σ H)\/(J.go i H/\∃ N:St->Hp->Prop,(∀ σ' H',N σ' H'->∃ m',m' < m/\W (i+1) m' σ' H')/\∀ x H',J.yld i H x H'->g x σ H' fun σ2 H2=>tb { D with nx:=N,ct:=N,bk:=D.nx } σ2 H2)
noncomputable def Ng(fp:List Addr)(h:Heap):List (Addr×Obj):=fp.filterMap fun b=>(h.get? b).map fun o=>(b,o)
theorem Fq{fp:List Addr}{h:Heap}{b:Addr}{o:Obj}(hb:b∈fp)(e:h.get? b=some o):(b,o)∈Ng fp h:=List.mem_filterMap.mpr ⟨b,hb,by rw[e];rfl⟩
theorem Xw{fp:List Addr}{h:Heap}{p:Addr×Obj}(hp:p∈Ng fp h):p.1∈fp/\h.get? p.1=some p.2:=by
 obtain ⟨b,hb,e⟩:=List.mem_filterMap.mp hp
 cases q:h.get? b with
 | none=>rw[q] at e;cases e
 | some o=>
  rw[q] at e
  have e':(b,o)=p:=bJ e
  subst e'
  exact ⟨hb,q⟩
theorem Inv.pinned{pins:List (Addr×Obj)}{σ:St}{H:Hp}{s:aG}{fp:List Addr}(I:Inv X pins σ H s)(hf:∀ b∈fp,Hv X pins H b)(ho:∀ b∈fp,∃ o,s.heap.get? b=some o/\∀ v,o.data≠.cell v):Inv X (pins++Ng fp s.heap) σ H s:=
 I.pins_of fun p hp=>(fH.mp hp).elim (fun z=>I.pin p (bL _ z)) fun z=>by
  obtain ⟨hb,e⟩:=Xw z
  obtain ⟨f0,f1,f2,_⟩:=hf p.1 hb
  obtain ⟨o,e',d⟩:=ho p.1 hb
  rw[e] at e';cases e'
  exact ⟨e,f0,f1,f2,d⟩
theorem Inv.unpinned{pins pl:List (Addr×Obj)}{σ:St}{H:Hp}{s:aG}(I:Inv X (pins++pl) σ H s):Inv X pins σ H s:=I.pins_of fun p hp=>I.pin p (bL _ (dO _ hp))
theorem Aih{iter:Expr}{body:List Stmt}{wi:TI}{g:TG}{tb:TS}{pos:Pos}(hp:PassesOwn (model X.prog X.w) X.A X.env X.xe)(hc:X.calm=true)(hi:PI X tg iter wi)(hg:PG X tg g)(hb:PSs X body tb)
  (hs:∀ x,foldedSetIterable iter X.env x=pure x:=by intro _;rfl):PS X (.For tg iter body [] pos) (Amz wi g tb):=by
 intro pins s σ H D I h
 refine wpAny_For (thn (hi pins s σ H _ I h) fun v s1 h1=>thn h1 fun itv s2 h2=>?_) hs
 obtain ⟨it,fp,tn,J,H2,e,I2,T,st2,f2,W,⟨m0,w0⟩,turn⟩:=h2
 subst e
 have stat:∀ {H':Hp},(∀ b∈fp,H' b=none)->∀ b∈fp,Hv X pins H' b:=fun hn b hb=>⟨hn b hb,(f2 b hb).2⟩
 refine codeAny_forLoop_any (fun n s'=>∃ i σ' H',Inv X pins σ' H' s'/\tn i s'.heap/\(∀ b∈fp,H' b=none)/\W i n σ' H') ?_ m0 ⟨0,σ,H2,I2,st2,fun b hb=>(f2 b hb).1,w0⟩
 rintro n s3 ⟨i,σ3,H3,I3,st3,fr3,w3⟩
 rcases turn i n σ3 H3 w3 with ⟨stop,qn⟩ | ⟨go,N,hN,step⟩
 ·refine gF hp (thn (T.done X rfl rfl rfl hc i pins s3 σ3 H3 X.xe I3 (stat fr3) st3 stop) fun r s4 zz=>?_)
  obtain ⟨hr,I4⟩:=zz
  subst hr
  exact lB ⟨σ3,H3,I4,qn⟩
 ·refine gF hp (thn (T.item X rfl rfl rfl hc i pins s3 σ3 H3 X.xe I3 (stat fr3) st3 go) fun r s4 zz=>?_)
  obtain ⟨u,hr,h4⟩:=zz
  subst hr
  refine gF hp (thn h4 fun _ s5 zz=>?_)
  obtain ⟨x,H5,I5,r5,y5,st5,fr5⟩:=zz
  have I5':=I5.pinned (stat fr5) (T.obj _ _ st5)
  refine gF hp (thn (hg _ s5 σ3 H5 x u _ I5' r5 (step x H5 y5)) fun _ s6 zz=>?_)
  obtain ⟨σ6,H6,I6,q6⟩:=zz
  refine gF hp (thn (hb _ s6 σ6 H6 _ I6 q6) fun f s7 q7=>?_)
  have again:∀ {σ7:St} {H7:Hp},Inv X (pins++Ng fp s5.heap) σ7 H7 s7->N σ7 H7->∃ m,m < n/\∃ i σ' H',Inv X pins σ' H' s7/\tn i s7.heap/\(∀ b∈fp,H' b=none)/\W i m σ' H':=fun {σ7 H7} I7 n7=>by
   obtain ⟨m',hm,w7⟩:=hN σ7 H7 n7
   refine ⟨m',hm,i+1,σ7,H7,I7.unpinned,T.keep _ _ _ st5 fun b hb o e=>(I7.pin (b,o) (bL _ (bL _ (Fq hb e)))).1,fun b hb=>?_,w7⟩
   obtain ⟨o,e,d⟩:=T.obj _ _ st5 b hb
   exact (I7.pin (b,o) (bL _ (bL _ (Fq hb e)))).2.1
  cases f with
  | next=>obtain ⟨σ7,H7,I7,n7⟩:=q7;exact again I7 n7
  | cont=>obtain ⟨σ7,H7,I7,n7⟩:=q7;exact again I7 n7
  | brk=>obtain ⟨σ7,H7,I7,q7⟩:=q7;exact ⟨σ7,H7,I7.unpinned,q7⟩
  | ret v=>obtain ⟨x7,σ7,H7,I7,r7,q7⟩:=q7;exact ⟨x7,σ7,H7,I7.unpinned,r7,q7⟩
end
abbrev R2:=V->V->Hp->VK->Prop
noncomputable def OpR(X:Cx)(f:aC->aC->Sem aC)(r:R2):Prop:=
 ∀ (pins:List (Addr×Obj)) (s:aG) (σ:St) (H:Hp) (x y:V) (v u:aC) (Q:VK),Inv X pins σ H s->RelV x v->RelV y u->r x y H Q ->
  wpAny (model X.prog X.w) X.A (f v u) (EP X pins σ Q) X.xe s
noncomputable def CallR(X:Cx)(f:aC)(r:List V->Hp->VK->Prop):Prop:=
 ∀ (pins:List (Addr×Obj)) (s:aG) (σ:St) (H:Hp) (xs:List V) (us:List aC) (Q:VK),Inv X pins σ H s->Vals xs us->r xs H Q ->
  wpAny (model X.prog X.w) X.A (call f us) (EP X pins σ Q) X.xe s
noncomputable def Am6(X:Cx)(r:V->Hp->(Bool->Hp->Prop)->Prop):Prop:=
 ∀ (pins:List (Addr×Obj)) (s:aG) (σ:St) (H:Hp) (x:V) (v:aC) (Q:Bool->Hp->Prop),Inv X pins σ H s->RelV x v->r x H Q ->
  wpAny (model X.prog X.w) X.A (truthy v) (TP X pins σ Q) X.xe s
noncomputable def tOp(r:R2)(ta tb:TE):TE:=fun σ H Q=>ta σ H fun x H1=>tb σ H1 fun y H2=>r x y H2 Q
noncomputable def rI(C:Int->Int->Prop)(g:Int->Int->V):R2:=fun x y H Q=>∃ i j,x = .int i/\y = .int j/\C i j/\Q (g i j) H
noncomputable def rI0(g:Int->Int->V):R2:=fun x y H Q=>∃ i j,x = .int i/\y = .int j/\Q (g i j) H
section
variable {X:Cx}{a b c:Expr}{ta tb tc:TE}{pos:Pos}
theorem Ai7(ha:PE X a ta)(hb:PE X b tb){pins:List (Addr×Obj)}{s:aG}{σ:St}{H:Hp}{R:V->V->Hp->Prop}(I:Inv X pins σ H s)
  (h:ta σ H fun x H1=>tb σ H1 fun y H2=>R x y H2) {Q:aC->aG->Prop} {f:aC->aC->Sem aC}
  (hf:∀ v u s2 x y H2,Inv X pins σ H2 s2->RelV x v->RelV y u->R x y H2->wpAny (model X.prog X.w) X.A (f v u) Q X.xe s2) :
  wpAny (model X.prog X.w) X.A (eval a X.env) (fun v s₁=>wpAny (model X.prog X.w) X.A (eval b X.env) (fun u s₂=>wpAny (model X.prog X.w) X.A (f v u) Q X.xe s₂) X.xe s₁) X.xe s:=by
 refine thn (ha pins s σ H _ I h) fun v s1 zz=>?_
 obtain ⟨x,H1,I1,r1,q1⟩:=zz
 refine thn (hb pins s1 σ H1 _ I1 q1) fun u s2 zz=>?_
 obtain ⟨y,H2,I2,r2,q2⟩:=zz
 exact hf v u s2 x y H2 I2 r1 r2 q2
theorem Ajp{op:Operator}{r:R2}(ho:OpR X (pD op) r)(ha:PE X a ta)(hb:PE X b tb):PE X (.BinOp a op b pos) (tOp r ta tb):=by
 intro pins s σ H Q I h
 exact wpAny_BinOp (Ai7 ha hb I h fun v u s2 x y H2 I2 rx ry q=>ho pins s2 σ H2 x y v u Q I2 rx ry q)
theorem opI{f:aC->aC->Sem aC}{C:Int->Int->Prop}{g:Int->Int->Int}
  (rule:∀ (i j:Int) (t u:Tok) (s:aG) (Q:aC->aG->Prop) (E:aC->aG->Prop),C i j->Q (.int (g i j) s.toks) { s with toks:=s.toks+1 }->wpAny (model X.prog X.w) X.A (f (.int i t) (.int j u)) Q E s) :
  OpR X f (rI C fun i j=>.int (g i j)):=by
 intro pins s σ H x y v u Q I rx ry h
 obtain ⟨i,j,rfl,rfl,hc,q⟩:=h
 obtain ⟨t,rfl⟩:=rx
 obtain ⟨t',rfl⟩:=ry
 exact rule i j t t' s _ _ hc ⟨.int (g i j),H,I.tok _,⟨_,rfl⟩,q⟩
theorem Amn{f:aC->aC->Sem aC}{g:Int->Int->Int}
  (rule:∀ (i j:Int) (t u:Tok) (s:aG) (Q:aC->aG->Prop) (E:aC->aG->Prop),Q (.int (g i j) s.toks) { s with toks:=s.toks+1 }->wpAny (model X.prog X.w) X.A (f (.int i t) (.int j u)) Q E s) :
  OpR X f (rI0 fun i j=>.int (g i j)):=by
 intro pins s σ H x y v u Q I rx ry h
 obtain ⟨i,j,rfl,rfl,q⟩:=h
 obtain ⟨t,rfl⟩:=rx
 obtain ⟨t',rfl⟩:=ry
 exact rule i j t t' s _ _ ⟨.int (g i j),H,I.tok _,⟨_,rfl⟩,q⟩
theorem Ajk{f:aC->aC->Sem aC}{g:Int->Int->Bool}
  (rule:∀ (i j:Int) (t u:Tok) (s:aG) (Q:aC->aG->Prop) (E:aC->aG->Prop),Q (.bool (g i j)) s->wpAny (model X.prog X.w) X.A (f (.int i t) (.int j u)) Q E s) :
  OpR X f (rI0 fun i j=>.bl (g i j)):=by
 intro pins s σ H x y v u Q I rx ry h
 obtain ⟨i,j,rfl,rfl,q⟩:=h
 obtain ⟨t,rfl⟩:=rx
 obtain ⟨t',rfl⟩:=ry
 exact rule i j t t' s _ _ ⟨.bl (g i j),H,I,rfl,q⟩
noncomputable def CMul(i j:Int):Prop:=(-(2 ^ 64) < i/\i < 2 ^ 64)\/(-(2 ^ 64) < j/\j < 2 ^ 64)
theorem CMul.ok{i j:Int}(h:CMul i j):IntMulOk i j:=by
 rcases h with ⟨h1,h2⟩ | ⟨h1,h2⟩
 ·exact .of_left (intBits_le_64 h1 h2)
 ·exact .of_right (intBits_le_64 h1 h2)
theorem Ag8:OpR X (pD .Sub) (rI0 fun i j=>.int (i - j)):=Amn fun _ _ _ _ _ _ _ q=>sub_int q
theorem Ahg:OpR X (pD .Mod) (rI (fun _ j=>0 < j) fun i j=>.int (i % j)):=opI fun i j _ _ _ _ _ hc q=>by
 have h1:(0:Int) < j:=hc
 exact mod_int' (by omega) (by rw[Int.fmod_eq_emod_of_nonneg i (by omega)];exact q)
end
section
variable {X:Cx}{a b c:Expr}{ta tb tc:TE}{pos:Pos}
theorem Aa3{pins:List (Addr×Obj)}{σ:St}{H:Hp}{s:aG}{Q:VK}{k k':Bool}(I:Inv X pins σ H s)(q:Q (.bl k) H)(e:k=k'):EP X pins σ Q (.bool k') s:=by
 subst e
 exact ⟨.bl k,H,I,rfl,q⟩
theorem Yv:OpR X (cZ .LtE) (rI0 fun i j=>.bl (decide (i<=j))):=Ajk fun _ _ _ _ _ _ _ q=>le_int q
theorem Akh:OpR X (cZ .Gt) (rI0 fun i j=>.bl (decide (j < i))):=Ajk fun _ _ _ _ _ _ _ q=>gt_int q
theorem Aky:OpR X (cZ .GtE) (rI0 fun i j=>.bl (decide (j<=i))):=Ajk fun _ _ _ _ _ _ _ q=>ge_int q
theorem Xk:OpR X (cZ .In) (fun x y H Q=>∃ i j,x = .str i/\y = .str j/\Q (.bl (!(cA j i 0 j.length 1).isEmpty)) H):=by
 intro pins s σ H x y v u Q I rx ry h
 obtain ⟨i,j,rfl,rfl,q⟩:=h
 obtain ⟨t,rfl⟩:=rx
 obtain ⟨t',rfl⟩:=ry
 exact in_str (Aa3 I q rfl)
theorem Ag4:OpR X (cZ .Is) (fun x y H Q=>y = .non/\Q (.bl (decide (x = .non))) H):=by
 intro pins s σ H x y v u Q I rx ry h
 obtain ⟨rfl,q⟩:=h
 cases ry
 refine is_none_gen (Aa3 I q ?_)
 cases x <;> first
  | (cases rx;rfl)
  | (obtain ⟨t,rfl⟩:=rx;rfl)
theorem OpR.or{f:aC->aC->Sem aC}{r r':R2}(h:OpR X f r)(h':OpR X f r'):OpR X f (fun x y H Q=>r x y H Q\/r' x y H Q):=by
 intro pins s σ H x y v u Q I rx ry q
 rcases q with q | q
 ·exact h pins s σ H x y v u Q I rx ry q
 ·exact h' pins s σ H x y v u Q I rx ry q
theorem Bn(b:Expr){op:CmpOp}(h:op≠.In:=by decide)(h2:op≠.NotIn:=by decide):behindInMarks op b=false:=by
 have e1:(op == CmpOp.In)=false:=by cases op <;> first | rfl | exact absurd rfl h
 have e2:(op == CmpOp.NotIn)=false:=by cases op <;> first | rfl | exact absurd rfl h2
 cases b <;> simp[behindInMarks,e1,e2]
theorem Afi{op:CmpOp}{r:R2}(ho:OpR X (cZ op) r)(ha:PE X a ta)(hb:PE X b tb)(hm:behindInMarks op b=false):PE X (.Compare a [op] [b] pos) (tOp r ta tb):=by
 intro pins s σ H Q I h
 exact wpAny_Compare1 (Ai7 ha hb I h fun v u s2 x y H2 I2 rx ry q=>ho pins s2 σ H2 x y v u Q I2 rx ry q) hm
noncomputable def Agp(t:TE):TT:=fun σ H Q=>t σ H fun x H'=>∃ k,x = .bl k/\Q k H'
theorem Aeh{op:CmpOp}{r:R2}(ho:OpR X (cZ op) r)(ha:PE X a ta)(hb:PE X b tb)(hm:behindInMarks op b=false):PT X (.Compare a [op] [b] pos) (Agp (tOp r ta tb)):=by
 intro pins s σ H Q I h
 refine wpAny_isTrue_Compare1 (thn (ha pins s σ H _ I h) fun v s1 zz=>zz.elim fun x H1 I1 r1 q1=>thn (hb pins s1 σ H1 _ I1 q1) fun u s2 ⟨y,H2,I2,r2,q2⟩=>
  thn (ho pins s2 σ H2 x y v u _ I2 r1 r2 q2) fun c s3 zz=>zz.elim fun z H3 I3 r3 zq=>?_) hm
 obtain ⟨k,e,q3⟩:=zq
 subst e
 cases r3
 exact eO ⟨H3,I3,q3⟩
noncomputable def Aaq(r r':R2)(ta tb tc:TE):TE:=fun σ H Q=>ta σ H fun x H1=>tb σ H1 fun y H2=>r x y H2 fun z H3=>∃ k,z = .bl k /\
 (if k=true then tc σ H3 fun w' H4=>r' y w' H4 Q else Q (.bl false) H3)
theorem Acf{op op':CmpOp}{r r':R2}(ho:OpR X (cZ op) r)(ho':OpR X (cZ op') r')(ha:PE X a ta)(hb:PE X b tb)(hc:PE X c tc)
  (hm:lastMarks [op,op'] [b,c]=false:=by with_unfolding_all rfl):PE X (.Compare a [op,op'] [b,c] pos) (Aaq r r' ta tb tc):=by
 intro pins s σ H Q I h
 refine Compare_chain (thn (ha pins s σ H _ I h) fun v s1 zz=>zz.elim fun x H1 I1 r1 q1=>chain_link (thn (hb pins s1 σ H1 _ I1 q1) fun u s2 ⟨y,H2,I2,r2,q2⟩=>
  thn (ho pins s2 σ H2 x y v u _ I2 r1 r2 q2) fun d s3 zz=>zz.elim fun z H3 I3 r3 zq=>?_)) hm
 obtain ⟨k,e,q3⟩:=zq
 subst e
 cases r3
 refine eO ?_
 cases k with
 | false=>exact ite_ff ⟨.bl false,H3,I3,rfl,q3⟩
 | true=>exact ite_tt (chain_last (thn (hc pins s3 σ H3 _ I3 q3) fun w' s4 zz=>by obtain ⟨z',H4,I4,r4,q4⟩:=zz;exact ho' pins s4 σ H4 y z' u w' Q I4 r2 r4 q4))
noncomputable def Ai3(K:aA)(x:V)(H:Hp)(k:Bool):Prop:=
 match x with
 | .non=>k=false
 | .bl b=>k=b
 | .int i=>k=(i != 0)
 | .str y=>y.length<=sizeLine/\k=((y.length:Int) != 0)
 | .byt y=>y.size<=sizeLine/\k=((y.size:Int) != 0)
 | .ref p=>(∃ xs,SqL K H p xs/\k = !xs.isEmpty)\/(∃ xs,SqT K H p xs/\k = !xs.isEmpty)\/∃ kvs,H p=some (.dK kvs)/\k = !kvs.isEmpty
 | _=>False
theorem U3{κ:Type}{kvs:List (κ×V)}{vs:List (κ×aC)}(r:KV kvs vs):(!vs.isEmpty) = !kvs.isEmpty:=by
 cases r <;> rfl
theorem Lm{xs:List V}{its:List aC}(r:Vals xs its):(!its.toArray.isEmpty) = !xs.isEmpty:=by
 cases r <;> simp
theorem Ms:(sizeLine:Nat) < 2 ^ 63:=by rw[lQ];decide
theorem Ahy:Am6 X (fun x H Q=>∃ k,Ai3 X.K x H k/\Q k H):=by
 intro pins s σ H x v Q I rx h
 obtain ⟨k,e,q⟩:=h
 have hl:=Ms
 have hs:sizeLine=16777216:=lQ
 cases x with
 | non=>
  cases rx
  have e':k=false:=e
  subst e'
  exact truthy_none ⟨H,I,q⟩
 | bl b=>
  cases rx
  have e':k=b:=e
  subst e'
  exact eO ⟨H,I,q⟩
 | int i=>
  obtain ⟨t,rfl⟩:=rx
  have e':k=(i != 0):=e
  subst e'
  exact PySem.P.truthy_int ⟨H,I,q⟩
 | str y=>
  obtain ⟨t,rfl⟩:=rx
  obtain ⟨hy,e'⟩:y.length<=sizeLine/\k=((y.length:Int) != 0):=e
  subst e'
  exact PySem.P.truthy_str (by omega) ⟨H,I.tok _,q⟩
 | byt y=>
  obtain ⟨t,rfl⟩:=rx
  obtain ⟨hy,e'⟩:y.size<=sizeLine/\k=((y.size:Int) != 0):=e
  subst e'
  exact PySem.W.truthy_bytes (by omega) ⟨H,I.tok _,q⟩
 | ref p=>
  cases rx
  have e':(∃ xs,SqL X.K H p xs/\k = !xs.isEmpty)\/(∃ xs,SqT X.K H p xs/\k = !xs.isEmpty)\/∃ kvs,H p=some (.dK kvs)/\k = !kvs.isEmpty:=e
  rcases e' with ⟨xs,hx,e'⟩ | ⟨xs,hx,e'⟩ | ⟨kvs,hx,e'⟩
  ·subst e'
   obtain ⟨its,r,pl,hz⟩:=I.list hx
   have hlen:=r.length
   exact wpAny_truthy_list pl.isList (by simp only[bS];omega) ⟨H,I.tok _,by rw[Lm r];exact q⟩
  ·subst e'
   obtain ⟨its,r,pl,hz⟩:=I.tuple hx
   have hlen:=r.length
   exact truthy_tuple pl (by simp only[bS];omega) ⟨H,I.tok _,by rw[Lm r];exact q⟩
  ·subst e'
   obtain ⟨hz,hS,vs,r,m⟩:kvs.length<=sizeLine/\(p == sysModules)=false/\∃ vs,KV kvs vs/\s.heap.DictOf (Bg X.prog X.w) p vs:=I.hok p _ hx
   have hlen:kvs.length=vs.length:=kA r
   exact wpAny_truthy_dict hS m (by omega) ⟨H,I.tok _,by rw[U3 r];exact q⟩
 | _=>exact (show False from e).elim
theorem Abf(ha:PE X a ta)(he:∀ whole,isTrue a X.env whole=(do let v <- whole;standAt a.pos;holding [v] (truthy v))) :
  PT X a (fun σ H Q=>ta σ H fun x H'=>∃ k,Ai3 X.K x H' k/\Q k H'):=by
 intro pins s σ H Q I h
 exact isTrue_plain (thn (ha pins s σ H _ I h) fun v s1 zz=>by obtain ⟨x,H1,I1,r1,q1⟩:=zz;exact Ahy pins s1 σ H1 x v Q I1 r1 q1) (he _)
theorem Sf{x:V}{us:List aC}(r:Vals [x] us):∃ u,us=[u]/\RelV x u:=by
 cases r with
 | cons r1 r2=>cases r2;exact ⟨_,rfl,r1⟩
theorem Agh{x y:V}{us:List aC}(r:Vals [x,y] us):∃ u w',us=[u,w']/\RelV x u/\RelV y w':=by
 cases r with
 | cons r1 r2=>
  cases r2 with
  | cons r3 r4=>cases r4;exact ⟨_,_,rfl,r1,r3⟩
noncomputable def Aj4(K:aA)(x:V)(H:Hp)(n:Nat):Prop:=
 match x with
 | .str y=>y.length<=sizeLine/\n=y.length
 | .byt y=>y.size<=sizeLine/\n=y.size
 | .ref p=>(∃ xs,SqL K H p xs/\n=xs.length)\/∃ xs,SqT K H p xs/\n=xs.length
 | _=>False
theorem E6:CallR X (.builtin "len") (fun xs H Q=>∃ x n,xs=[x]/\Aj4 X.K x H n/\Q (.int n) H):=by
 intro pins s σ H xs us Q I r h
 obtain ⟨x,n,rfl,e,q⟩:=h
 obtain ⟨u,rfl,rx⟩:=Sf r
 have hl:=Ms
 have hs:sizeLine=16777216:=lQ
 cases x with
 | str y=>
  obtain ⟨t,rfl⟩:=rx
  obtain ⟨hy,e'⟩:y.length<=sizeLine/\n=y.length:=e
  subst e'
  exact len_str (by omega) ⟨.int _,H,I.tok _,⟨_,rfl⟩,q⟩
 | byt y=>
  obtain ⟨t,rfl⟩:=rx
  obtain ⟨hy,e'⟩:y.size<=sizeLine/\n=y.size:=e
  subst e'
  exact PySem.W.len_bytes (by omega) ⟨.int _,H,I.tok _,⟨_,rfl⟩,q⟩
 | ref p=>
  cases rx
  have e':(∃ xs,SqL X.K H p xs/\n=xs.length)\/∃ xs,SqT X.K H p xs/\n=xs.length:=e
  rcases e' with ⟨xs,hx,e'⟩ | ⟨xs,hx,e'⟩
  ·subst e'
   obtain ⟨its,r',pl,hz⟩:=I.list hx
   have hlen:=r'.length
   exact Calls.call_len_list pl.isList (by simp only[bS];omega) ⟨.int xs.length,H,I.tok _,⟨_,by simp only[bS];rw[hlen]⟩,q⟩
  ·subst e'
   obtain ⟨its,r',pl,hz⟩:=I.tuple hx
   have hlen:=r'.length
   exact len_tuple pl (by simp only[bS];omega) ⟨.int xs.length,H,I.tok _,⟨_,by simp only[bS];rw[hlen]⟩,q⟩
 | _=>exact (show False from e).elim
end
structure ObjM(h:Heap)(x dx C:Addr)(mA:Str->Option aC):Prop where
 obj:h.get? x=some (dS C dx)
 ns:h.Ns1 dx mA
 ne:dx≠x
theorem Pq{h:Heap}{dx:Addr}{mA:Str->Option aC}(n:h.Ns1 dx mA):∃ od,h.get? dx=some od/\∀ name,jH name od=some (mA name):=by
 obtain ⟨o,es,ep,ho,hd,hk,_,hm⟩:=n
 refine ⟨o,ho,fun name=>?_⟩
 have e:=hm name
 unfold nsFind findBy at e
 rw[<- Array.find?_toList] at e
 unfold jH
 rw[hd]
 dsimp only
 split
 ·rename_i y q
  rw[q] at e
  exact congrArg some e
 ·rename_i q
  rw[q] at e
  have a:es.toList.any (·.refKey)=false:=by
   rw[List.any_eq_false]
   intro y hy
   obtain ⟨z,t,hkey⟩:=hk y (Array.mem_toList_iff.mp hy)
   simp[oC.refKey,hkey]
  have a':¬ es.toList.any (·.refKey)=true:=by rw[a];exact cN
  rw[if_neg a']
  exact congrArg some e
theorem ObjM.look{h:Heap}{x dx C:Addr}{mA:Str->Option aC}(I:ObjM h x dx C mA):∃ od,eT h x (dS C dx) C (some od)/\∀ name,jH name od=some (mA name):=
 let ⟨od,ho,hl⟩:=Pq I.ns
 ⟨od,⟨I.obj,rfl,rfl,ho⟩,hl⟩
section
variable {prog:aW}{w:bG}{A:bZ}{E:aC->aG->Prop}{s:aG}{K:aA}{x dx C f:Addr}{mA:Str->Option aC}{name:Str}{v:aC}
theorem Ad3{expr:Bool}{Q:aC->aG->Prop}(X:K.In s.heap)(I:ObjM s.heap x dx C mA)(hg:eU K C name=true)(hh:dP K C=true)
  (ha:aQ K (.ref C) name=some none) (hv:mA name=some v) (hv':nY v=true) (h:Q v { s with toks:=s.toks+1 }) :
  wpAny (model prog w) A (getAttr (.ref x) name expr) Q E s:=by
 obtain ⟨od,J,hl⟩:=I.look
 exact PySem.W.get_value X J (iW hg).1 (mI hh ha rfl (by rw[hl,hv])) hv' h
theorem Abe{pl:Sem Bool}{Q:aC×List aC->aG->Prop}(X:K.In s.heap)(I:ObjM s.heap x dx C mA)(hg:eU K C name=true)
  (hf:aQ K (.ref C) name=some (some (.ref f))) (ht:cV K (.ref f)=true) (hv:mA name=none) (h:Q (.ref f,[.ref x]) s) :
  wpAny (model prog w) A (getMethod (.ref x) name pl) Q E s:=by
 obtain ⟨od,J,hl⟩:=I.look
 exact PySem.W.method_fn X J (iW hg).1 (iW hg).2 hf (beq_iff_eq.mp ht) (by show (jH name od).map (·.isSome)=some false;rw[hl,hv];rfl) h
theorem Ae4{ns:List Str}{Q:Unit->aG->Prop}(X:K.In s.heap)(I:ObjM s.heap x dx C mA)
  (hs:aQ K (.ref C) "__setattr__" = some (some (.builtin "object.__setattr__"))) (hp:gU K C=true) (ht:lC K C name=some none) (hh:dP K C=true)
  (hw:nH mA ns) (hsz:ns.length<=sizeLine)
  (h:∀ h',ObjM h' x dx C (fun y=>if y=name then some v else mA y)->gS dx s.heap h'->Q () { s with heap:=h',toks:=s.toks+2 }) :
  wpAny (model prog w) A (setAttr (.ref x) name v) Q E s:=by
 obtain ⟨od,J,hl⟩:=I.look
 refine nI X J hs (PySem.W.osa_open (s:={ s with toks:=s.toks+1 }) (r:=none) X J hp ht fun b=>?_)
 obtain ⟨cd,hc,hd'⟩:=fS hh
 have hx:s.heap.get? x=some ⟨.ref C,some dx,.plain,#[]⟩:=I.obj
 refine aE (aP (aE (aE (lR hx (aE (dJ (s:={ s with toks:=s.toks+1 }) (mJ X hc) ?_))))))
 rw[hd']
 refine aP (a:=some dx) (aE (aP (aE ?_)))
 refine wpAny_nsSet1 (s:={ s with toks:=s.toks+1 }) I.ns fun h' hn2 hs2=>?_
 obtain ⟨oD,esD,epD,hoD,hdD,hcD⟩:=hn2.count (nJ name v hw)
 refine aE (nZ hoD (by rw[hdD];exact oA (cF hcD (by rw[bB];omega))) ?_)
 exact aP (h _ ⟨(hs2.2 _ (eY I.ne)).trans I.obj,hn2,I.ne⟩ hs2)
theorem Ac9{R:Result->aG->Prop}{vs:List aC}{kw:List (Str×aC)}(X:K.In s.heap)(hm:iO K C=true)
  (hi:aQ K (.ref C) "__init__" = some (some (.ref f))) (hf:lU K (.ref f)=some (.type "function"))
  (h:iF (model prog w) (A.under (.builtin "type.__call__" ⟨.ref C::vs,kw⟩)) (.call (.ref f) ⟨.ref (s.heap.objs.size+1)::vs,kw⟩) (PySem.W.InitBack (s.heap.objs.size+1) R)
   { s with heap:=(s.heap.push cW).push (dS C s.heap.objs.size) }) :
  iF (model prog w) A (.call (.ref C) ⟨vs,kw⟩) R s:=by
 obtain ⟨hh,g,d,t,os⟩:=s
 exact PySem.W.make_core (PySem.W.makes_of X hm) (fP X hi) (fun self=>PySem.W.bind_fn X self hf) (.inl rfl) h
end
noncomputable def Ew(f:Str)(v:V):List (Str×V)->List (Str×V)
 | []=>[(f,v)]
 | (g,x)::r=>if g=f then (g,v)::r else (g,x)::Ew f v r
theorem J8(f g:Str)(v:V):∀ fs:List (Str×V),(Ew f v fs).lookup g=if g=f then some v else fs.lookup g
 | []=>by
  show cX g [(f,v)]=_
  by_cases h:g=f
  ·have hb:(g == f)=true:=beq_iff_eq.mpr h
   simp only[cX,hb,if_pos h]
  ·have hb:(g == f)=false:=beq_eq_false_iff_ne.mpr h
   simp only[cX,hb,if_neg h]
 | (k,x)::r=>by
  have ih:=J8 f g v r
  rw[show Ew f v ((k,x)::r)=(if k=f then (k,v)::r else (k,x)::Ew f v r) from rfl]
  by_cases hk:k=f
  ·rw[if_pos hk]
   by_cases h:g=k
   ·have hb:(g == k)=true:=beq_iff_eq.mpr h
    simp only[cX,hb,if_pos (h.trans hk)]
   ·have hb:(g == k)=false:=beq_eq_false_iff_ne.mpr h
    simp only[cX,hb,if_neg (fun e:g=f=>h (e.trans hk.symm))]
  ·rw[if_neg hk]
   by_cases h:g=k
   ·have hb:(g == k)=true:=beq_iff_eq.mpr h
    simp only[cX,hb,if_neg (fun e:g=f=>hk (h.symm.trans e))]
   ·have hb:(g == k)=false:=beq_eq_false_iff_ne.mpr h
    simp only[cX,hb]
    exact ih
theorem Jk(f:Str)(v:V):∀ fs:List (Str×V),f∈(Ew f v fs).map (·.1)/\∀ g,g∈fs.map (·.1)->g∈(Ew f v fs).map (·.1)
 | []=>⟨by simp[Ew],fun g h=>by simp at h⟩
 | (k,x)::r=>by
  obtain ⟨i1,i2⟩:=Jk f v r
  rw[show Ew f v ((k,x)::r)=(if k=f then (k,v)::r else (k,x)::Ew f v r) from rfl]
  by_cases hk:k=f
  ·rw[if_pos hk]
   subst hk
   exact ⟨by simp,fun g h=>by simpa using h⟩
  ·rw[if_neg hk]
   refine ⟨?_,fun g h=>?_⟩
   ·rw[aM]
    exact bD _ i1
   ·rw[aM] at h ⊢
    rcases bV.mp h with e | e
    ·exact bV.mpr (.inl e)
    ·exact bD _ (i2 g e)
theorem Kr(f:Str)(v:V):∀ fs:List (Str×V),(Ew f v fs).length<=fs.length+1
 | []=>by simp[Ew]
 | (k,x)::r=>by
  have ih:=Kr f v r
  rw[show Ew f v ((k,x)::r)=(if k=f then (k,v)::r else (k,x)::Ew f v r) from rfl]
  by_cases hk:k=f
  ·rw[if_pos hk,bB,bB];omega
  ·rw[if_neg hk,bB,bB];omega
theorem RelO.some_of{v:V}{o:Option aC}(r:RelO (some v) o):∃ u,o=some u/\RelV v u:=by
 cases o with
 | none=>exact (show False from r).elim
 | some u=>exact ⟨u,rfl,r⟩
theorem RelO.none_of{o:Option aC}(r:RelO none o):o=none:=by
 cases o with
 | none=>rfl
 | some u=>exact (show False from r).elim
theorem P0{v:V}{u:aC}(r:RelV v u):nY u=true:=by
 cases v with
 | non=>cases (show u=gH from r);rfl
 | bl b=>cases (show u=pA b from r);rfl
 | int i=>obtain ⟨t,e⟩:=(show ∃ t,u=nW i t from r);cases e;rfl
 | str x=>obtain ⟨t,e⟩:=(show ∃ t,u=kF x t from r);cases e;rfl
 | byt b=>obtain ⟨t,e⟩:=(show ∃ t,u=qA b t from r);cases e;rfl
 | flt b=>obtain ⟨t,e⟩:=(show ∃ t,u=qB b t from r);cases e;rfl
 | ref a=>cases (show u=bH a from r);rfl
 | ty n=>cases (show u=kQ n from r);rfl
section
variable {P:aW}{w:bG}{H H':Hp}{h h':Heap}{a C dx:Addr}{fs fs':List (Str×V)}
theorem Qp(hok:HOk P w H h)(e:H a=some (.ins C dx fs)):∃ mA,ObjM h a dx C mA/\(∀ f,RelO (fs.lookup f) (mA f))/\nH mA (fs.map (·.1))/\fs.length<=1000/\H dx=some (.own a):=by
 obtain ⟨d,z,ne,ob,mA,n,r,q⟩:=(show ObjOk P w H h a (.ins C dx fs) from hok a _ e)
 exact ⟨mA,⟨ob,n,ne⟩,r,q,z,d⟩
end
structure Cls(K:aA)(C:Addr):Prop where
 pg:eU K C fT=true
 hd:dP K C=true
 po:gU K C=true
 sa:aQ K (.ref C) "__setattr__" = some (some (.builtin "object.__setattr__"))
theorem Cls.get{K:aA}{C:Addr}(c:Cls K C)(f:Str):eU K C f=true:=c.pg
noncomputable def NoAttr(K:aA)(C:Addr)(f:Str):Prop:=aQ K (.ref C) f=some none
theorem NoAttr.taker{K:aA}{C:Addr}{f:Str}(n:NoAttr K C f):lC K C f=some none:=by
 unfold lC
 rw[show aQ K (.ref C) f=some none from n]
 rfl
structure Con(K:aA)(C:Addr)(f:Str)(v:V)(u:aC):Prop where
 at_:aQ K (.ref C) f=some (some u)
 rel:RelV v u
 get:eP K u "__get__" = some none
 cp:PySem.W.copiedNames.contains f=false
structure Meth(K:aA)(C:Addr)(m:Str)(f:Addr):Prop where
 at_:aQ K (.ref C) m=some (some (.ref f))
 fn:cV K (.ref f)=true
 kp:aT K (.ref f)=true
section
variable {X:Cx}{pins:List (Addr×Obj)}{σ:St}{H:Hp}{s:aG}{a C dx:Addr}{fs:List (Str×V)}{f:Str}{v:V}{A:bZ}{E:aC->aG->Prop}
theorem U5{b:Bool}{Q:aC->aG->Prop}(I:Inv X pins σ H s)(e:H a=some (.ins C dx fs))(c:Cls X.K C)(n:NoAttr X.K C f)(l:fs.lookup f=some v)
  (h:∀ u s',Inv X pins σ H s'->RelV v u->Q u s'):wpAny (model X.prog X.w) A (getAttr (.ref a) f b) Q E s:=by
 obtain ⟨mA,O,r,_,_,_⟩:=Qp I.hok e
 obtain ⟨u,hu,ru⟩:=RelO.some_of (v:=v) (o:=mA f) (by rw[<- l];exact r f)
 exact Ad3 I.kIn O (c.get f) c.hd n hu (P0 ru) (h u _ (I.tok _) ru)
theorem Hl{m:Str}{g:Addr}{pl:Sem Bool}{Q:aC×List aC->aG->Prop}(I:Inv X pins σ H s)(e:H a=some (.ins C dx fs))(c:Cls X.K C)(k:Meth X.K C m g)(l:fs.lookup m=none)
  (h:Q (.ref g,[.ref a]) s):wpAny (model X.prog X.w) A (getMethod (.ref a) m pl) Q E s:=by
 obtain ⟨mA,O,r,_,_,_⟩:=Qp I.hok e
 have hn:mA m=none:=RelO.none_of (by rw[<- l];exact r m)
 exact Abe I.kIn O (c.get m) k.at_ k.fn hn h
theorem Uz{y:V}{u:aC}{Q:Unit->aG->Prop}(I:Inv X pins σ H s)(e:H a=some (.ins C dx fs))(c:Cls X.K C)(n:NoAttr X.K C f)(hl:fs.length < 1000)(ry:RelV y u)
  (h:∀ s',Inv X pins σ (upd H a (.ins C dx (Ew f y fs))) s'->Q () s'):wpAny (model X.prog X.w) A (setAttr (.ref a) f u) Q E s:=by
 obtain ⟨mA,O,r,wi,_,ho⟩:=Qp I.hok e
 have hz:(fs.map (·.1)).length<=sizeLine:=by rw[cO,lQ];omega
 refine Ae4 I.kIn O c.sa c.po n.taker c.hd wi hz fun h' O' sb=>h _ ?_
 have hd:∃ o,h'.get? dx=some o:=let ⟨o,_,_,e',_⟩:=O'.ns;⟨o,e'⟩
 refine I.write (x:=a) (e:=dx) (by rw[e];exact fQ) (.inr ho) (fun b q hb z=>(sb.2 b hb).trans z) hd ?_
 refine ⟨by rw[Ap O.ne];exact ho,?_,O.ne,O'.obj,_,O'.ns,fun g=>?_,fun g hg=>?_⟩
 ·have:=Kr f y fs;omega
 ·show RelO ((Ew f y fs).lookup g) (if g=f then some u else mA g)
  rw[J8]
  by_cases q:g=f
  ·rw[if_pos q,if_pos q];exact ry
  ·rw[if_neg q,if_neg q];exact r g
 ·by_cases q:g=f
  ·rw[q];exact (Jk f y fs).1
  ·refine (Jk f y fs).2 g (wi g fun z=>hg ?_)
   show (if g=f then some u else mA g)=none
   rw[if_neg q];exact z
theorem Inv.made(I:Inv X pins σ H s):Inv X pins σ (upd (upd H s.heap.objs.size (.own (s.heap.objs.size+1))) (s.heap.objs.size+1) (.ins C s.heap.objs.size []))
  { s with heap:=(s.heap.push cW).push (dS C s.heap.objs.size) }:=by
 have e1:(s.heap.push cW).get? s.heap.objs.size=some cW:=aR s.heap rfl
 have e2:((s.heap.push cW).push (dS C s.heap.objs.size)).get? (s.heap.objs.size+1)=some (dS C s.heap.objs.size):=by
  have:=aR (s.heap.push cW) (o:=dS C s.heap.objs.size) rfl
  rwa [cP] at this
 have e3:(s.heap.push cW).Ns s.heap.objs.size (fun _=>none):=⟨cW,#[],_,e1,rfl,(fun e he=>absurd he (by simp)),fun _=>rfl⟩
 have I1:=I.laid (a:=s.heap.objs.size) (o:=.own (s.heap.objs.size+1)) (h':=s.heap.push cW) (t':=s.toks) (fun b u q=>aD _ q) (aZ _) ⟨_,e1⟩
 refine I1.laid (a:=s.heap.objs.size+1) (o:=.ins C s.heap.objs.size []) (t':=s.toks) (fun b u q=>aD _ q) (nK (cP _ _)) ?_
 have ne:s.heap.objs.size≠s.heap.objs.size+1:=bR (eV _)
 refine ⟨by rw[Ap ne,upd_same],jV _,ne,e2,fun _=>none,(nL e3).at fun o q=>aD _ q,fun _=>fQ,fun y hy=>absurd rfl hy⟩
theorem Wx{prog:aW}{w:bG}{env:Env}{e:Expr}{f:Str}{pos:Pos}{s:aG}{Q:aC->aG->Prop}(hb:attributeBase e f env (eval e env)=eval e env)
  (h:wpAny (model prog w) A (eval e env) (fun o s₁=>wpAny (model prog w) A (getAttr o f true) Q E s₁) E s):wpAny (model prog w) A (eval (.Attribute e f pos) env) Q E s:=
 Attribute_any_ h (by rw[arm_eval_Attribute,hb])
end
inductive FldR(K:aA)(f:Str)(Q:VK)(x:V)(H1:Hp):Prop
 | mk (a:_) (C:_) (dx:_) (fs:_) (v:_) (h0:x = .ref a) (h1:H1 a=some (.ins C dx fs)) (h2:Cls K C) (h3:NoAttr K C f) (h4:fs.lookup f=some v) (h5:Q v H1):FldR K f Q x H1
noncomputable def Al2(K:aA)(ta:TE)(f:Str):TE:=fun σ H Q=>ta σ H (FldR K f Q)
noncomputable def Al9(K:aA)(ta tv:TE)(f:Str):TS:=fun D σ H=>tv σ H fun y H1=>ta σ H1 fun x H2=>∃ a C dx fs,x = .ref a/\H2 a=some (.ins C dx fs)/\Cls K C/\NoAttr K C f/\fs.length < 1000 /\
 D.nx σ (upd H2 a (.ins C dx (Ew f y fs)))
section
variable {X:Cx}{o e value:Expr}{f:Str}{pos pos' tpos:Pos}{ta tv:TE}
theorem Aiq(he:PE X e ta)(hb:attributeBase e f X.env (eval e X.env)=eval e X.env):PE X (.Attribute e f pos) (Al2 X.K ta f):=by
 intro pins s σ H Q I h
 refine Wx hb (thn (he pins s σ H _ I h) fun u s1 zz=>?_)
 obtain ⟨x,H1,I1,rx,a,C,dx,fs,v,ex,ea,c,n,l,q⟩:=zz
 subst ex
 obtain rfl:u=bH a:=rx
 exact U5 I1 ea c n l fun u' s2 I2 ru=>⟨v,H1,I2,ru,q⟩
theorem Ahd(ha:PE X o ta)(hv:PE X value tv)(hs:swapsWith value (some (.Attribute o f pos')) pos.line X.env=pure false):PS X (.Assign [.Attribute o f pos'] value pos) (Al9 X.K ta tv f):=by
 intro pins s σ H D I h
 refine hW (thn (hv pins s σ H _ I h) fun u s1 zz=>zz.elim fun y H1 I1 ry q=>thn (ha pins s1 σ H1 _ I1 q) fun ov s2 zz=>zz.elim fun x H2 I2 rx zq=>?_) hs
 obtain ⟨a,C,dx,fs,ex,ea,c,n,l,q2⟩:=zq
 subst ex
 obtain rfl:ov=bH a:=rx
 exact Uz I2 ea c n l ry fun s3 I3=>⟨σ,_,I3,q2⟩
end
section
variable {X:Cx}{pins:List (Addr×Obj)}{σ:St}{H:Hp}{s:aG}{A:bZ}{E:aC->aG->Prop}{Q:aC->aG->Prop}{c:aC}{b:Bool}
inductive TyOf(K:aA)(H:Hp):V->aC->Prop where
 | non:TyOf K H .non (.type "NoneType")
 | bl (x:Bool):TyOf K H (.bl x) (.type "bool")
 | int (i:Int):TyOf K H (.int i) (.type "int")
 | str (x:Str):TyOf K H (.str x) (.type "str")
 | flt (x:UInt64):TyOf K H (.flt x) (.type "float")
 | lst {a:Addr} {xs:List V} (e:H a=some (.lst xs)):TyOf K H (.ref a) (.type "list")
 | frz {a:Addr} {o:Obj} {xs:List V} (e:H a=some (.frz o (.lst xs))):TyOf K H (.ref a) (.type "list")
 | tup {a:Addr} {xs:List V} (e:H a=some (.tup xs)):TyOf K H (.ref a) (.type "tuple")
 | dK {a:Addr} {kvs:List (Key×V)} (e:H a=some (.dK kvs)):TyOf K H (.ref a) (.type "dict")
 | dT {a:Addr} {kvs:List (List Key×V)} (e:H a=some (.dT kvs)):TyOf K H (.ref a) (.type "dict")
 | ins {a C dx:Addr} {fs:List (Str×V)} (e:H a=some (.ins C dx fs)) (cl:Cls K C) (ha:aQ K (.ref C) "__class__" = some (some (.builtin "object.__class__")))
   (hn:eP K (.builtin "object.__class__") "__get__" = some (some (.builtin "getset_descriptor.__get__"))) (htk:lD K (.builtin "object.__class__")=some true)
   (hm:mO K C (.type "object")=some true):TyOf K H (.ref a) (.ref C)
end
structure Room(k:Nat)(A:bZ):Prop where
 hd:A.handled=none
 dp:A.depth+3 * k+5 < recursionLimit
 un:A.units+16 * k+200 < cLine
theorem Room.mono{j k:Nat}{A:bZ}(r:Room k A)(h:j<=k):Room j A:=⟨r.hd,by have:=r.dp;omega,by have:=r.un;omega⟩
theorem Room.deeper{k:Nat}{A:bZ}(r:Room (k+1) A)(env:Env):Room k (A.deeper env):=
 ⟨r.hd,by have:=r.dp;show A.depth+1+3 * k+5 < _;omega,by have:=r.un;show A.units+3+16 * k+200 < _;omega⟩
theorem Room.in1{k:Nat}{A:bZ}(r:Room (k+1) A):Room k A.in1:=
 ⟨r.hd,by have:=r.dp;show A.depth+3 * k+5 < _;omega,by have:=r.un;show A.units+1+16 * k+200 < _;omega⟩
theorem Vj{A:bZ}{C:Addr}{us:List aC}{kw:List (Str×aC)}:(A.under (.builtin "type.__call__" ⟨.ref C::us,kw⟩)).depth=A.depth+1:=by
 first | rfl | simp[nM,Code.weight,Code.isCreation,Code.isGuard,Code.isCaller,qC,nN,guardIds]
theorem Vc{A:bZ}{C:Addr}{us:List aC}{kw:List (Str×aC)}:(A.under (.builtin "type.__call__" ⟨.ref C::us,kw⟩)).units=A.units+1:=by
 first | rfl | simp[nM,Code.cUnits,qC,nN]
theorem Room.make{k:Nat}{A:bZ}(r:Room (k+1) A)(C:Addr)(us:List aC)(kw:List (Str×aC)):Room k (A.under (.builtin "type.__call__" ⟨.ref C::us,kw⟩)):=
 ⟨r.hd,by have:=r.dp;rw[Vj];omega,by have:=r.un;rw[Vc];omega⟩
theorem Room.depth{k:Nat}{A:bZ}(r:Room k A):A.depth < recursionLimit:=by have:=r.dp;omega
theorem Room.units{k:Nat}{A:bZ}(r:Room k A):A.units+64 < cLine:=by have:=r.un;omega
noncomputable def Abb:TA:=fun _ H Q=>Q [] H
noncomputable def V4(ta:TE)(tr:TA):TA:=fun σ H Q=>ta σ H fun x H1=>tr σ H1 fun xs H2=>Q (x::xs) H2
section
variable {X:Cx}{e:Expr}{es:List Expr}{te:TE}{t:TA}{pos:Pos}
theorem Qo:PA X [] Abb:=fun _ _ _ _ H Q I h=>jW ⟨[],H,I,.nil,h⟩
theorem G0(ha:PE X e te)(hr:PA X es t)(hs:aL (e::es) X.env=(false,eval e X.env)::aL es X.env:=by rfl):PA X (e::es) (V4 te t):=by
 intro pos pins s σ H Q I h
 rw[hs]
 show wpAny _ _ (spliced ((false,eval e X.env)::backTo pos (aL es X.env))) _ _ s
 refine jI (thn (ha pins s σ H _ I h) fun u s1 zz=>?_)
 obtain ⟨x,H1,I1,r1,q1⟩:=zz
 refine thn (hr pos pins s1 σ H1 _ I1 q1) fun us s2 zz=>?_
 obtain ⟨xs,H2,I2,r2,q2⟩:=zz
 exact ⟨x::xs,H2,I2,.cons r1 r2,q2⟩
noncomputable def Amk(t:TA):TE:=fun σ H Q=>t σ H fun xs H1=>xs.length<=sizeLine/\∀ p,H1 p=none->Q (.ref p) (upd H1 p (.tup xs))
noncomputable def Al4(t:TA):TE:=fun σ H Q=>t σ H fun xs H1=>xs.length<=sizeLine/\∀ p,H1 p=none->Q (.ref p) (upd H1 p (.lst xs))
theorem Ahk{x1}(h:PA X es t):PE X (.Tuple es x1 pos) (Amk t):=by
 intro pins s σ H Q I hq
 refine wpAny_Tuple_spliced (thn (h pos pins s σ H _ I hq) fun us s1 zz=>zz.elim fun xs H1 I1 r zq=>⟨by rw[<- r.length];exact zq.1,?_⟩)
 obtain ⟨z,q⟩:=zq
 have hf:H1 s1.heap.objs.size=none:=I1.hok.fresh (aZ _)
 refine ⟨.ref s1.heap.objs.size,upd H1 s1.heap.objs.size (.tup xs),I1.laid (t':=s1.toks) (fun b u e=>aD _ e) (aZ _) ?_,rfl,q _ hf⟩
 exact ⟨z,us,r,⟨_,aR _ rfl,rfl,_,rfl⟩⟩
theorem Ajb(h:PA X es t):PE X (.List es pos) (Al4 t):=by
 intro pins s σ H Q I hq
 refine wpAny_List_spliced (thn (h pos pins s σ H _ I hq) fun us s1 zz=>zz.elim fun xs H1 I1 r zq=>⟨by rw[<- r.length];exact zq.1,?_⟩)
 obtain ⟨z,q⟩:=zq
 have hf:H1 s1.heap.objs.size=none:=I1.hok.fresh (aZ _)
 refine ⟨.ref s1.heap.objs.size,upd H1 s1.heap.objs.size (.lst xs),I1.laid (t':=s1.toks) (fun b u e=>aD _ e) (aZ _) ?_,rfl,q _ hf⟩
 exact ⟨z,us,0,r,aR _ rfl⟩
end
abbrev Sp:=List V->Hp->VK->XK->Prop
abbrev CXT:=List Env->Hp->aG->XK->aC->aG->Prop
structure Env0(P:aW)(w:bG)(K:aA)(mg:Str->Option aC)(base:Heap)(A:bZ)(outer:List Env)(s:aG)(H:Hp):Prop where
 frames:A.frames=some outer
 mod:Mod K mg base
 bs:∀ b o,base.get? b=some o->s.heap.get? b=some o/\H b=none
 bsz:base.objs.size<=s.heap.objs.size
 funs:s.heap.FunFrames base outer
 frf:∀ b∈frs outer,H b=none
 hok:HOk P w H s.heap
 bare:jA s.gens
inductive CE(outer:List Env)(P:aW)(w:bG)(H:Hp)(s:aG)(Q:VK)(u:aC)(s':aG):Prop
 | mk (v:V) (H':Hp) (os:s'.os=s.os) (bare:jA s'.gens) (un:Un (frs outer) [] H H' s.heap s'.heap) (hok:HOk P w H' s'.heap) (r:RelV v u) (q:Q v H'):CE outer P w H s Q u s'
noncomputable def CR(CX:CXT)(outer:List Env)(P:aW)(w:bG)(H:Hp)(s:aG)(Q:VK)(E:XK)(r:Result)(s':aG):Prop:=
 match r with
 | .ok (.ret u)=>CE outer P w H s Q u s'
 | .ok _=>False
 | .error e=>CX outer H s E e s'
structure FnOk(P:aW)(w:bG)(K:aA)(mg:Str->Option aC)(base:Heap)(CX:CXT)(k:Nat)(f:Addr)(fd:bE)(ps:List Str)(sp:Sp):Prop where
 len:∀ vs H Q E,sp vs H Q E->vs.length=ps.length
 run:∀ (A:bZ) (outer:List Env) (s:aG) (H:Hp) (args:Args) (us:List aC) (vs:List V) (Q:VK) (E:XK),Room k A->Env0 P w K mg base A outer s H->kS s fd args (ps.zip us)->Vals vs us->sp vs H Q E ->
  iF (model P w) A (.call (.ref f) args) (CR CX outer P w H s Q E) s
theorem FnOk.mono{P:aW}{w:bG}{K:aA}{mg:Str->Option aC}{base:Heap}{CX:CXT}{j k:Nat}{f:Addr}{fd:bE}{ps:List Str}{sp:Sp}(F:FnOk P w K mg base CX j f fd ps sp)(h:j<=k) :
  FnOk P w K mg base CX k f fd ps sp:=⟨F.len,fun A outer s H args us vs Q E hr=>F.run A outer s H args us vs Q E (hr.mono h)⟩
theorem FnOk.imp{P:aW}{w:bG}{K:aA}{mg:Str->Option aC}{base:Heap}{CX:CXT}{k:Nat}{f:Addr}{fd:bE}{ps:List Str}{sp sp':Sp}(F:FnOk P w K mg base CX k f fd ps sp)
  (h:∀ vs H Q E,sp' vs H Q E->sp vs H Q E):FnOk P w K mg base CX k f fd ps sp':=
 ⟨fun vs H Q E q=>F.len vs H Q E (h _ _ _ _ q),fun A outer s H args us vs Q E hr he hb hv hs=>F.run A outer s H args us vs Q E hr he hb hv (h _ _ _ _ hs)⟩
theorem Env0.make{P:aW}{w:bG}{K:aA}{mg:Str->Option aC}{base:Heap}{A:bZ}{outer:List Env}{s:aG}{H:Hp}(e:Env0 P w K mg base A outer s H)(C:Addr)(us:List aC)(kw:List (Str×aC)) :
  Env0 P w K mg base (A.under (.builtin "type.__call__" ⟨.ref C::us,kw⟩)) outer s H:=⟨by first | exact e.frames | (simpa[nM,Code.envs,nN,pushEnvs] using e.frames),e.mod,e.bs,e.bsz,e.funs,e.frf,e.hok,e.bare⟩
theorem Env0.in1{P:aW}{w:bG}{K:aA}{mg:Str->Option aC}{base:Heap}{A:bZ}{outer:List Env}{s:aG}{H:Hp}(e:Env0 P w K mg base A outer s H) :
  Env0 P w K mg base A.in1 outer s H:=⟨e.frames,e.mod,e.bs,e.bsz,e.funs,e.frf,e.hok,e.bare⟩
section
variable {X:Cx}{pins:List (Addr×Obj)}{σ:St}{H:Hp}{s s':aG}
theorem Inv.env0(I:Inv X pins σ H s):Env0 X.prog X.w X.K X.mg X.base X.A X.stack s H:=
 ⟨I.ok.frames,I.ok.mod,I.bs,cF I.ok.bsz I.sz,I.stack,I.stkFree,I.hok,I.bare⟩
theorem Inv.after{Q:VK}{u:aC}(I:Inv X pins σ H s)(h:CE X.stack X.prog X.w H s Q u s'):EP X pins σ Q u s':=by
 obtain ⟨v,H',os,bare,un,hok,r,q⟩:=h
 obtain ⟨hh,g,d,t,os'⟩:=s'
 obtain rfl:os'=s.os:=os
 exact ⟨v,H',I.call (h':=hh) (g':=g) (d':=d) (t':=t) (ch:=[]) un hok bare (fun b z=>absurd z (by simp)),r,q⟩
end
noncomputable def Aj7(sp:Sp)(dvs:List V)(E:XK)(t:TA):TE:=fun σ H Q=>t σ H fun vs H1=>sp (vs++dvs) H1 Q E
noncomputable def Abd(C:Addr)(m:Str)(sp:Sp)(dvs:List V)(E:XK)(ta:TE)(t:TA):TE:=fun σ H Q=>ta σ H fun x H1=>∃ a dx fs,x = .ref a/\H1 a=some (.ins C dx fs)/\fs.lookup m=none /\
 t σ H1 fun vs H2=>sp (x::(vs++dvs)) H2 Q E
noncomputable def Ags(C:Addr)(sp:Sp)(dvs:List V)(E:XK)(t:TA):TE:=fun σ H Q=>t σ H fun vs H1=>∀ x dx,H1 x=none->H1 dx=none->dx≠x ->
 sp (.ref x::(vs++dvs)) (upd (upd H1 dx (.own x)) x (.ins C dx [])) (fun v H2=>v = .non/\Q (.ref x) H2) E
noncomputable def Binds(K:aA)(fd:bE)(ps:List Str)(ds:List aC):Prop:=
 ∀ (s:aG) (us:List aC),K.In s.heap->(us++ds).length=ps.length->kS s fd ⟨us,[]⟩ (ps.zip (us++ds))
theorem Binds.all{K:aA}{fd:bE}{ps:List Str}(h:∀ us:List aC,us.length=ps.length->bindArgs fd ⟨us,[]⟩=pure (ps.zip us)):Binds K fd ps []:=fun s us _ hl=>by
 rw[bT] at hl ⊢
 exact .of_eq (h us hl)
noncomputable def Gi(CX:CXT)(X:Cx)(E:XK):Prop:=∀ (pins:List (Addr×Obj)) (σ:St) (H:Hp) (s:aG) (e:aC) (s':aG),Inv X pins σ H s->CX X.stack H s E e s'->X.xe e s'
section
variable {X:Cx}{CX:CXT}{k:Nat}{f C:Addr}{fd:bE}{ps:List Str}{sp:Sp}{dvs:List V}{ds:List aC}{E:XK}{x m:Str}{p pos apos:Pos}{e o:Expr}{es:List Expr}{ta:TE}{t:TA}
theorem Vl{pins:List (Addr×Obj)}{σ:St}{H:Hp}{s:aG}{Q:VK}{us:List aC}{vs:List V}(F:FnOk X.prog X.w X.K X.mg X.base CX k f fd ps sp)(hr:Room k X.A)(hb:Binds X.K fd ps ds)(hd:Vals dvs ds)(hx:Gi CX X E)
  (I:Inv X pins σ H s) (r:Vals vs us) (h:sp (vs++dvs) H Q E):wpAny (model X.prog X.w) X.A (call (.ref f) us) (EP X pins σ Q) X.xe s:=by
 have r2:Vals (vs++dvs) (us++ds):=r.append hd
 have hl:(us++ds).length=ps.length:=by rw[<- r2.length];exact F.len _ _ _ _ h
 refine gJ (gW (F.run X.A X.stack s H ⟨us,[]⟩ (us++ds) (vs++dvs) Q E hr I.env0 (hb s us I.kIn hl) r2 h) fun r s' hq=>?_)
 cases r with
 | error e=>exact hx pins σ H s e s' I hq
 | ok fl=>
  cases fl with
  | ret u=>exact I.after hq
  | next=>exact cJ hq
  | brk=>exact cJ hq
  | cont=>exact cJ hq
theorem Aed(F:FnOk X.prog X.w X.K X.mg X.base CX k f fd ps sp)(hr:Room k X.A)(hg:Gl X x)(hm:X.mg x=some (.ref f))(hk:aT X.K (.ref f)=true)(hb:Binds X.K fd ps ds)(hd:Vals dvs ds)(hx:Gi CX X E)
  (ha:PA X (e::es) t) (hdb:(x == ("__debug__" : Str))=false:=by decide) (he:aL (e::es) X.env=(false,eval e X.env)::aL es X.env:=by rfl) (hpl:(backTo pos (aL es X.env)).any (·.1)=false:=by rfl) :
  PE X (.Call (.Name x p) (e::es) [] pos) (Aj7 sp dvs E t):=by
 intro pins s σ H Q I h
 refine eE (G3 I hg hm ?_ hdb)
 refine jJ (h₀:=X.base) I.ok.mod.kin hk (thn (ha pos pins s σ H _ I h) fun us s1 zz=>zz.elim fun vs H1 I1 r q=>⟨I1.kIn,?_⟩) he hpl
 exact Vl F hr hb hd hx I1 r q
theorem Aec{pl:Sem Bool}(he:PE X o ta)(c:Cls X.K C)(hm:Meth X.K C m f)(F:FnOk X.prog X.w X.K X.mg X.base CX k f fd ps sp)(hr:Room k X.A)(hb:Binds X.K fd ps ds)(hd:Vals dvs ds)(hx:Gi CX X E)(ha:PA X (e::es) t)
  (hst:aL (e::es) X.env=(false,eval e X.env)::aL es X.env:=by rfl) (hpl:(backTo pos (aL es X.env)).any (·.1)=false:=by rfl)
  (ht:eval (.Call (.Attribute o m apos) (e::es) [] pos) X.env=(do
   let ov <- eval o X.env
   standAt apos.atName
   let (f,first) <- holding [ov] (getMethod ov m pl)
   callWith pos f first (backTo pos (aL (e::es) X.env)) (backToKw pos (keywordEach [] X.env))):=by rfl) :
  PE X (.Call (.Attribute o m apos) (e::es) [] pos) (Abd C m sp dvs E ta t):=by
 intro pins s σ H Q I h
 refine fL (pl:=pl) (thn (he pins s σ H _ I h) fun u s1 zz=>zz.elim fun x H1 I1 rx zq=>?_) ht
 obtain ⟨a,dx,fs,ex,ea,l,q⟩:=zq
 subst ex
 obtain rfl:u=bH a:=rx
 refine Hl I1 ea c hm l ?_
 refine jJ (first:=[.ref a]) (h₀:=X.base) I.ok.mod.kin hm.kp (thn (ha pos pins s1 σ H1 _ I1 q) fun us s2 zz=>zz.elim fun vs H2 I2 r q2=>⟨I2.kIn,?_⟩) hst hpl
 exact Vl (us:=.ref a::us) (vs:=.ref a::vs) F hr hb hd hx I2 (.cons rfl r) q2
theorem Aaj{pl:Sem Bool}(he:PE X o ta)(c:Cls X.K C)(hm:Meth X.K C m f)(F:FnOk X.prog X.w X.K X.mg X.base CX k f fd ps sp)(hr:Room k X.A)(hb:Binds X.K fd ps ds)(hd:Vals dvs ds)(hx:Gi CX X E)
  (ht:eval (.Call (.Attribute o m apos) [] [] pos) X.env=(do
   let ov <- eval o X.env
   standAt apos.atName
   let (f,first) <- holding [ov] (getMethod ov m pl)
   callWith pos f first (backTo pos (aL [] X.env)) (backToKw pos (keywordEach [] X.env))):=by rfl) :
  PE X (.Call (.Attribute o m apos) [] [] pos) (Abd C m sp dvs E ta Abb):=by
 intro pins s σ H Q I h
 refine fL (pl:=pl) (thn (he pins s σ H _ I h) fun u s1 zz=>zz.elim fun x H1 I1 rx zq=>?_) ht
 obtain ⟨a,dx,fs,ex,ea,l,q⟩:=zq
 subst ex
 obtain rfl:u=bH a:=rx
 refine Hl I1 ea c hm l ?_
 exact mK (first:=[.ref a]) I1.kIn hm.kp (Vl (us:=[.ref a]) (vs:=[.ref a]) F hr hb hd hx I1 (.cons rfl .nil) q)
structure Mk(K:aA)(C f:Addr):Prop where
 makes:iO K C=true
 init:aQ K (.ref C) "__init__" = some (some (.ref f))
 fn:cV K (.ref f)=true
 kp:aT K (.ref C)=true
theorem Y5{pins:List (Addr×Obj)}{σ:St}{H:Hp}{s:aG}{Q:VK}{us:List aC}{vs:List V}(M:Mk X.K C f)(F:FnOk X.prog X.w X.K X.mg X.base CX k f fd ps sp)(hr:Room (k+1) X.A)(hb:Binds X.K fd ps ds)(hd:Vals dvs ds)
  (hx:Gi CX X E) (I:Inv X pins σ H s) (r:Vals vs us)
  (h:∀ x dx,H x=none->H dx=none->dx≠x->sp (.ref x::(vs++dvs)) (upd (upd H dx (.own x)) x (.ins C dx [])) (fun v H2=>v = .non/\Q (.ref x) H2) E) :
  wpAny (model X.prog X.w) X.A (call (.ref C) us) (EP X pins σ Q) X.xe s:=by
 have hq:=h (s.heap.objs.size+1) s.heap.objs.size (I.hok.fresh (lV _)) (I.hok.fresh (aZ _)) (bR (eV _))
 have I2:=Inv.made (C:=C) I
 have r2:Vals (V.ref (s.heap.objs.size+1)::(vs++dvs)) (bH (s.heap.objs.size+1)::(us++ds)):=.cons rfl (r.append hd)
 have hl:(bH (s.heap.objs.size+1)::us++ds).length=ps.length:=by
  have e:=r2.length
  rw[F.len _ _ _ _ hq] at e
  exact e.symm
 refine gJ (Ac9 (f:=f) I.kIn M.makes M.init (beq_iff_eq.mp M.fn) (gW (F.run _ X.stack _ _ ⟨bH (s.heap.objs.size+1)::us,[]⟩ (bH (s.heap.objs.size+1)::(us++ds)) _ _ E (hr.make C us [])
  (I2.env0.make C us []) (hb _ (bH (s.heap.objs.size+1)::us) I2.kIn hl) r2 hq) fun r s' hq'=>?_))
 cases r with
 | error e=>exact hx pins σ _ _ e s' I2 hq'
 | ok fl=>
  cases fl with
  | ret u=>
   obtain ⟨v,H',I3,rv,ev,q3⟩:=I2.after hq'
   subst ev
   exact ⟨rv,⟨V.ref (s.heap.objs.size+1),H',I3,rfl,q3⟩⟩
  | next=>exact cJ hq'
  | brk=>exact cJ hq'
  | cont=>exact cJ hq'
theorem Ab4(M:Mk X.K C f)(F:FnOk X.prog X.w X.K X.mg X.base CX k f fd ps sp)(hr:Room (k+1) X.A)(hg:Gl X x)(hm:X.mg x=some (.ref C))(hb:Binds X.K fd ps ds)(hd:Vals dvs ds)(hx:Gi CX X E)
  (hdb:(x == ("__debug__" : Str))=false:=by decide):PE X (.Call (.Name x p) [] [] pos) (Ags C sp dvs E Abb):=by
 intro pins s σ H Q I h
 refine eE (G3 I hg hm ?_ hdb)
 exact mK I.kIn M.kp (Y5 (us:=[]) M F hr hb hd hx I .nil h)
end
noncomputable def PK(X:Cx)(kws:List eZ)(t:TA):Prop:=
 ∀ (pos:Pos) (pins:List (Addr×Obj)) (s:aG) (σ:St) (H:Hp) (Q:List V->Hp->Prop),Inv X pins σ H s->t σ H Q->wpAny (model X.prog X.w) X.A (evalAll ((backToKw pos (keywordEach kws X.env)).map (·.2))) (AP X pins σ Q) X.xe s
section
variable {X:Cx}{CX:CXT}{k:Nat}{f C:Addr}{fd:bE}{ps ks:List Str}{sp:Sp}{E:XK}{x m:Str}{p pos apos kpos:Pos}{e o:Expr}{es:List Expr}{kws:List eZ}{te ta:TE}{t tk:TA}{nm:Option Str}
theorem Aip:PK X [] Abb:=fun _ _ _ _ H Q I h=>wpAny_evalAll_nil ⟨[],H,I,.nil,h⟩
theorem Ae2(ha:PE X e te)(hr:PK X kws t):PK X (⟨nm,e,kpos⟩::kws) (V4 te t):=by
 intro pos pins s σ H Q I h
 show wpAny _ _ (evalAll ((do let v <- eval e X.env;standAt pos;pure v)::(backToKw pos (keywordEach kws X.env)).map (·.2))) _ _ s
 refine wpAny_evalAll_cons (aE (thn (ha pins s σ H _ I h) fun u s1 zz=>zz.elim fun x H1 I1 r1 q1=>aE (wpAny_standAt (aP ?_))))
 refine thn (hr pos pins s1 σ H1 _ I1 q1) fun us s2 zz=>?_
 obtain ⟨xs,H2,I2,r2,q2⟩:=zz
 exact ⟨x::xs,H2,I2,.cons r1 r2,q2⟩
structure KBinds(K:aA)(fd:bE)(ps ks:List Str)(g:List aC->List aC->List aC)(gV:List V->List V->List V):Prop where
 to:∀ (s:aG) (us ws:List aC),K.In s.heap->(g us ws).length=ps.length->kS s fd ⟨us,ks.zip ws⟩ (ps.zip (g us ws))
 rel:∀ {vs:List V} {us:List aC} {zs:List V} {ws:List aC},Vals vs us->Vals zs ws->Vals (gV vs zs) (g us ws)
variable {g:List aC->List aC->List aC}{gV:List V->List V->List V}
theorem Adm{pins:List (Addr×Obj)}{σ:St}{H:Hp}{s:aG}{Q:VK}{us ws:List aC}{vs zs:List V}(F:FnOk X.prog X.w X.K X.mg X.base CX k f fd ps sp)(hr:Room k X.A)(hb:KBinds X.K fd ps ks g gV)(hx:Gi CX X E)
  (I:Inv X pins σ H s) (r:Vals vs us) (rz:Vals zs ws) (h:sp (gV vs zs) H Q E):wpAny (model X.prog X.w) X.A (call (.ref f) us (ks.zip ws)) (EP X pins σ Q) X.xe s:=by
 have r2:=hb.rel r rz
 have hl:(g us ws).length=ps.length:=by rw[<- r2.length];exact F.len _ _ _ _ h
 refine gJ (gW (F.run X.A X.stack s H ⟨us,ks.zip ws⟩ (g us ws) (gV vs zs) Q E hr I.env0 (hb.to s us ws I.kIn hl) r2 h) fun r s' hq=>?_)
 cases r with
 | error e=>exact hx pins σ H s e s' I hq
 | ok fl=>
  cases fl with
  | ret u=>exact I.after hq
  | next=>exact cJ hq
  | brk=>exact cJ hq
  | cont=>exact cJ hq
end
structure FnScope(N P:List Str)(sc:gR):Prop where
 kind:sc.kind = .function
 co:sc.isCoroutine=false
 gen:sc.isGenerator=false
 nd:N.Nodup
 pre:N.take P.length=P
 par:∀ x∈P,sc.names.lookup x=some .local\/sc.names.lookup x=some .cell
 nofree:∀ y∈sc.names,y.2≠.free
theorem Pk{kindOf:Str->Option gC}{x:Str}:∀ {binds:List (Str×aC)} {m:Str->Option aC},(∀ v,(x,v)∉binds)->bindL kindOf binds m x=m x
 | [],_,_=>rfl
 | (n,v)::r,m,h=>by
  unfold bindL
  rw[Pk fun w hw=>h w (bD _ hw)]
  split
  ·have:x≠n:=by rintro rfl;exact h v bK
   simp[this]
  ·rfl
theorem P1{kindOf:Str->Option gC}{x:Str}:∀ {binds:List (Str×aC)} {m:Str->Option aC},(∀ v,(x,v)∉binds)->bindC kindOf binds m x=m x
 | [],_,_=>rfl
 | (n,v)::r,m,h=>by
  unfold bindC
  rw[P1 fun w hw=>h w (bD _ hw)]
  split
  ·rfl
  ·have:x≠n:=by rintro rfl;exact h v bK
   simp[this]
theorem Pb{kindOf:Str->Option gC}{x:Str}{v:aC}:∀ {P:List Str} {vs:List aC} {i:Nat} {m:Str->Option aC},P.Nodup->P[i]? = some x->vs[i]? = some v->kindOf x=some .local ->
  bindL kindOf (P.zip vs) m x=some v
 | [],_,_,_,_,h,_,_=>by simp at h
 | _::_,[],_,_,_,_,h,_=>by simp at h
 | p::P,w::vs,0,m,nd,h1,h2,hk=>by
  simp at h1 h2;subst h1;subst h2
  show bindL kindOf ((p,w)::P.zip vs) m p=_
  unfold bindL
  rw[Pk fun v hv=>(iP.mp nd).1 (lF hv).1,if_pos hk]
  simp
 | p::P,w::vs,i+1,m,nd,h1,h2,hk=>by
  show bindL kindOf ((p,w)::P.zip vs) m x=_
  unfold bindL
  exact Pb (i:=i) (iP.mp nd).2 (by simpa using h1) (by simpa using h2) hk
theorem Pz{kindOf:Str->Option gC}{x:Str}{v:aC}:∀ {P:List Str} {vs:List aC} {i:Nat} {m:Str->Option aC},P.Nodup->P[i]? = some x->vs[i]? = some v->kindOf x≠some .local ->
  bindC kindOf (P.zip vs) m x=some v
 | [],_,_,_,_,h,_,_=>by simp at h
 | _::_,[],_,_,_,_,h,_=>by simp at h
 | p::P,w::vs,0,m,nd,h1,h2,hk=>by
  simp at h1 h2;subst h1;subst h2
  show bindC kindOf ((p,w)::P.zip vs) m p=_
  unfold bindC
  rw[P1 fun v hv=>(iP.mp nd).1 (lF hv).1,if_neg hk]
  simp
 | p::P,w::vs,i+1,m,nd,h1,h2,hk=>by
  show bindC kindOf ((p,w)::P.zip vs) m x=_
  unfold bindC
  exact Pz (i:=i) (iP.mp nd).2 (by simpa using h1) (by simpa using h2) hk
noncomputable def start(N:List Str)(vs:List V):St:=vs.map some++dG (N.length - vs.length) none
noncomputable def Us(CX:CXT)(P:aW)(w:bG)(K:aA)(mg:Str->Option aC)(base:Heap)(N:List Str)(qual:Str)(scope:gR)(f:Addr)(cd:aC)(A:bZ)(outer:List Env)(s:aG)(H:Hp)(E:XK):Cx where
 prog:=P
 w:=w
 K:=K
 mg:=mg
 base:=base
 A:=A.deeper (envOfC qual scope s.heap.objs.size f cd)
 N:=N
 s₀:=s
 H₀:=H
 env:=envOfC qual scope s.heap.objs.size f cd
 outer:=outer
 stack:=envOfC qual scope s.heap.objs.size f cd::outer
 ex:=[]
 calm:=true
 fn:=fun _=>true
 pn:=[]
 xe:=fun e s'=>wpAny (model P w) (A.deeper (envOfC qual scope s.heap.objs.size f cd)) (leaving (envOfC qual scope s.heap.objs.size f cd) e) (fun _ s''=>CX outer H s E e s'') (fun e' s''=>CX outer H s E e' s'') s'
theorem Rv{sc:gR}{n:Nat}{x:Str}(h:sc.names.lookup x=some .cell):∃ c,(cellsFrom n sc.names []).lookup x=some c:=by
 have q:=kT sc.names n [] (.inl h)
 exact Option.isSome_iff_exists.mp q
theorem Xy{CX:CXT}{P:aW}{w:bG}{K:aA}{mg:Str->Option aC}{base:Heap}{N ps:List Str}{qual:Str}{scope:gR}{f:Addr}{cd:aC}{A:bZ}{outer:List Env}{s s1:aG}{H:Hp}{E:XK}{us:List aC}{vs:List V}
  (S:FnScope N ps scope) (hd:A.handled=none) (e0:Env0 P w K mg base A outer s H) (hl:vs.length=ps.length) (r:Vals vs us)
  (x:InCallC s s.heap.objs.size (bindL (envOfC qual scope s.heap.objs.size f cd).kindOf (ps.zip us) fun _=>none) (cellsFrom (s.heap.objs.size+1) scope.names []) (bindC (envOfC qual scope s.heap.objs.size f cd).kindOf (ps.zip us) fun _=>none) s1) :
  Inv (Us CX P w K mg base N qual scope f cd A outer s H E) [] (start N vs) H s1:=by
 have hpl:ps.length<=N.length:=by have:=congrArg iH S.pre;rw[kH] at this;omega
 obtain ⟨h1,tk,rfl,hk⟩:=x.done
 have noA:∀ b:Addr,b∉(Us CX P w K mg base N qual scope f cd A outer s H E).ex:=fun b z=>absurd (show b∈([]:List Addr) from z) (by simp)
 refine ⟨⟨e0.mod,S.kind,rfl,rfl,aZ _,fun y z c h1 h2=>?_,fun y hy=>?_,fun y c _ h=>?_,fun _=>hd,bZ.frames_deeper e0.frames,.inr ⟨rfl,rfl⟩,fun b z=>absurd z (noA b),e0.bs,e0.bsz,fun b _ _=>noA b,fun b z=>absurd z (noA b),e0.funs,e0.frf⟩,
  rfl,e0.bare,Un.kept hk,⟨_,x.toInCall.ns,fun i y v h1 h2 h3=>?_⟩,fun y c h=>⟨_,x.cell y c h⟩,e0.hok.fresh (aZ _),fun y c h=>?_,fun p hp=>absurd (show p∈([]:List (Addr×Obj)) from hp) (by simp),e0.hok.kept hk,?_⟩
 ·exact name_of_addr x.apart (eS h1) (eS h2)
 ·have hy:scope.names.lookup y=some .cell\/scope.names.lookup y=some .free:=hy
  rcases hy with hy | hy
  ·exact Rv hy
  ·exact absurd rfl (S.nofree _ (eS hy))
 ·exact kR (x.above y c (eS h))
 ·have hi:i < vs.length:=by
   unfold start at h2
   by_cases hi:i < vs.length
   ·exact hi
   ·rw[cL (by simpa using hi)] at h2
    rw[List.getElem?_replicate] at h2
    split at h2 <;> cases h2
  have ha:vs[i]? = some v:=by
   unfold start at h2
   rw[aY (by simpa using hi),cY] at h2
   cases e:vs[i]? with
   | none=>rw[e] at h2;cases h2
   | some a=>rw[e] at h2;cases h2;rfl
  obtain ⟨u,hu,rv⟩:=r.get ha
  have hp:ps[i]? = some y:=by
   rw[<- S.pre,List.getElem?_take_of_lt (by omega)];exact h1
  have ndP:ps.Nodup:=by rw[<- S.pre];exact S.nd.sublist (List.take_sublist _ _)
  refine ⟨u,rv,?_⟩
  rcases S.par y (eQ hp) with k | k
  ·exact .inl ⟨k,Pb ndP hp hu k⟩
  ·obtain ⟨c,e⟩:=Rv (n:=s.heap.objs.size+1) k
   refine .inr ⟨.inl k,c,e,?_⟩
   have q:=x.cell y c e
   rw[Pz ndP hp hu (by show scope.names.lookup y≠_;rw[k];decide)] at q
   exact q
 ·exact e0.hok.fresh (kR (x.above y c (eS h)))
 ·unfold start
  show _=N.length
  rw[eF,cO,List.length_replicate]
  omega
theorem Ajt{CX:CXT}{P:aW}{w:bG}{K:aA}{mg:Str->Option aC}{base:Heap}{k:Nat}{f:Addr}{name qual:Str}{params:Arguments}{body:List Stmt}{scope:gR}{dV kV doc pm cdv ct oc:aC}{an od:Option Addr}
  {osl:Array (Option aC)} {N ps:List Str} {sp:Sp} (lk:K.lookup f=some ⟨oc,od,.func (bA name qual params body scope dV kV doc pm an cdv ct),osl⟩) (hcd:bC K cdv qual=true) (S:FnScope N ps scope)
  (len:∀ vs H Q E,sp vs H Q E->vs.length=ps.length)
  (hbody:∀ (A:bZ) (outer:List Env) (s:aG) (H:Hp) (vs:List V) (Q:VK) (E:XK),Room k (A.deeper (envOfC qual scope s.heap.objs.size f cdv))->sp vs H Q E ->
   ∃ t,PSs (Us CX P w K mg base N qual scope f cdv A outer s H E) body t/\t { nx:=fun _ H'=>Q .non H',rt:=Q } (start N vs) H) :
  FnOk P w K mg base CX (k+1) f (bA name qual params body scope dV kV doc pm an cdv ct) ps sp:=by
 refine ⟨len,fun A outer s H args us vs Q E hr e0 hb r hsp=>?_⟩
 have hl:=len _ _ _ _ hsp
 have KX:K.In s.heap:=e0.mod.kin.keeps fun b o e=>(e0.bs b o e).1
 have lim:s.heap.NoLimit:=e0.mod.nolimit.keeps fun b o e=>(e0.bs b o e).1
 have hkind:∀ y∈ps.zip us,scope.names.lookup y.1=some .local\/(scope.names.lookup y.1=some .cell/\((cellsFrom (s.heap.objs.size+1) scope.names []).lookup y.1).isSome=true):=fun ⟨n,v⟩ hy=>by
  rcases S.par n (lF hy).1 with q | q
  ·exact .inl q
  ·exact .inr ⟨q,kT _ _ _ (.inl q)⟩
 refine codeAny_call_function hr.depth (KX _ _ lk) rfl S.co S.gen rfl (PySem.W.codeRec_of KX hcd) (hb _ _ _ _ ?_)
 refine wpAny_newFunctionEnv_cells S.kind hkind fun env he s1 x=>?_
 subst he
 refine ⟨lim.keeps x.toInCall.keep,codeAny_func ?_⟩
 obtain ⟨t,ht,hq⟩:=hbody A outer s H vs Q E (hr.deeper _) hsp
 have I:Inv (Us CX P w K mg base N qual scope f cdv A outer s H E) [] (start N vs) H s1:=Xy S hr.hd e0 hl r x
 refine dI (ht [] s1 (start N vs) H _ I hq) (fun fl s' hs=>?_) fun e s' hs=>hs
 have fin:∀ {σ':St} {H':Hp} {v:V} {u:aC},Inv (Us CX P w K mg base N qual scope f cdv A outer s H E) [] σ' H' s'->RelV v u->Q v H'->CE outer P w H s Q u s':=
  fun {σ' H' v u} J rv q=>⟨v,H',J.os,J.bare,J.base,J.hok,rv,q⟩
 cases fl with
 | ret u=>
  obtain ⟨v,σ',H',J,rv,q⟩:=hs
  exact fin J rv q
 | next=>
  obtain ⟨σ',H',J,q⟩:=hs
  exact fin (v:=V.non) (u:=gH) J rfl q
 | brk=>
  obtain ⟨_,_,_,q⟩:=hs
  exact cJ q
 | cont=>
  obtain ⟨_,_,_,q⟩:=hs
  exact cJ q
section
variable {X:Cx}{x:Str}{p pos:Pos}{e:Expr}{es:List Expr}{t:TA}{id T:String}{r:List V->Hp->VK->Prop}
noncomputable def tCB(r:List V->Hp->VK->Prop)(t:TA):TE:=fun σ H Q=>t σ H fun vs H1=>r vs H1 Q
theorem Nx(hc:CallR X (.builtin id) r)(hg:Gl X x)(hm:X.mg x=none)(hv:dX x=some (.builtin id))(ha:PA X (e::es) t)(hn:x ≠ "__name__" := by decide)(hdb:(x == ("__debug__" : Str))=false:=by decide)
  (he:aL (e::es) X.env=(false,eval e X.env)::aL es X.env:=by rfl) (hpl:(backTo pos (aL es X.env)).any (·.1)=false:=by rfl):PE X (.Call (.Name x p) (e::es) [] pos) (tCB r t):=by
 intro pins s σ H Q I h
 refine eE (J6 I hg hm hv ?_ hn hdb)
 exact PyProof.Rows.callWith_builtin1 (thn (ha pos pins s σ H _ I h) fun us s1 zz=>by obtain ⟨vs,H1,I1,r1,q1⟩:=zz;exact hc pins s1 σ H1 vs us Q I1 r1 q1) he hpl
theorem Yi(hc:CallR X (.type T) r)(hg:Gl X x)(hm:X.mg x=none)(hv:dX x=some (.type T))(ha:PA X (e::es) t)(hn:x ≠ "__name__" := by decide)(hdb:(x == ("__debug__" : Str))=false:=by decide)
  (he:aL (e::es) X.env=(false,eval e X.env)::aL es X.env:=by rfl) (hpl:(backTo pos (aL es X.env)).any (·.1)=false:=by rfl):PE X (.Call (.Name x p) (e::es) [] pos) (tCB r t):=by
 intro pins s σ H Q I h
 refine eE (J6 I hg hm hv ?_ hn hdb)
 exact dY (thn (ha pos pins s σ H _ I h) fun us s1 zz=>by obtain ⟨vs,H1,I1,r1,q1⟩:=zz;exact hc pins s1 σ H1 vs us Q I1 r1 q1) he hpl
end
end L2
namespace HT
open PySem PyProof.Rows
section
open PySem.SeqAt
open PySem.AutoSeq1 (wpAny_loadPart')
open PySem.MeetsSeq PySem.MeetsSeq2 PySem.MeetsSeq3
end
section
variable {prog:aW}{w:bG}{A:bZ}{E:aC->aG->Prop}{s:aG}
noncomputable def sIx(n d:Nat):Option Int->Nat
 | none=>d
 | some v=>if v < 0 then (v+(n:Int)).toNat else min v.toNat n
theorem Ah9(n d:Nat)(hd:d<=n)(o:Option Int):sIx n d o<=n:=by
 cases o with
 | none=>exact hd
 | some v=>
  show (if v < 0 then (v+(n:Int)).toNat else min v.toNat n)<=n
  by_cases hv:v < 0
  ·rw[if_pos hv];omega
  ·rw[if_neg hv];exact Nat.min_le_right _ _
theorem Vw(v:Int)(n d:Nat):(if v < 0 then max (v+(n:Int)) 0 else min v (n:Int))=((sIx n d (some v):Nat):Int):=by
 show (if v < 0 then max (v+(n:Int)) 0 else min v (n:Int))=(((if v < 0 then (v+(n:Int)).toNat else min v.toNat n):Nat):Int)
 by_cases hv:v < 0
 ·simp only[if_pos hv];omega
 ·simp only[if_neg hv];omega
theorem Uj(lo hi:Option Int)(n:Nat):fW lo hi 1 (n:Int)=(((sIx n 0 lo:Nat):Int),((sIx n n hi:Nat):Int)):=by
 have h1:¬ ((1:Int) < 0):=by omega
 unfold fW
 simp only[h1,if_false]
 refine qD ?_ ?_
 ·cases lo with
  | none=>rfl
  | some v=>exact Vw v n 0
 ·cases hi with
  | none=>rfl
  | some v=>exact Vw v n n
theorem Ux(i j:Nat):eN (i:Int) (j:Int) 1=j - i:=by
 unfold eN
 have h1:(1:Int) > 0:=by omega
 simp only[h1,if_true,Int.ediv_one]
 split <;> omega
theorem Nr{v:aC}{o:Option Int}{Q:Option Int->aG->Prop}(p:mX v o)(h:Q o s):wpAny (model prog w) A (jC.Slice.slicePartIndex v) Q E s:=by
 cases p with
 | none=>exact slicePart_none h
 | int i t=>exact slicePart_int h
theorem J4{sl:Addr}{vl vu:aC}{lo hi:Option Int}{n:Nat}{Q:Int×Int×Nat->aG->Prop}(hs:s.heap.IsSliceOf sl vl vu .none)(pl:mX vl lo)(pu:mX vu hi)
  (h:Q (((sIx n 0 lo:Nat):Int),1,sIx n n hi - sIx n 0 lo) s):wpAny (model prog w) A (jK (.ref sl) (pure (n:Int))) Q E s:=by
 obtain ⟨os,hos,hcs,hds⟩:=id hs
 unfold jK jC.Slice.sliceFields
 refine aE (aE (cS hos hds (x:=vl) rfl (aE (cS hos hds (x:=vu) rfl (aE (cS hos hds (x:=.none) rfl (aP ?_)))))))
 refine aE (slicePart_none ?_)
 show wpAny _ _ (if ((1:Int) == 0)=true then _ else _) _ _ s
 rw[if_neg (by decide)]
 refine aE (Nr pl (aE (Nr pu (aE (aP ?_)))))
 show wpAny _ _ (match fW lo hi 1 (n:Int) with | (lo,hi)=>pure (lo,(1:Int),eN lo hi 1)) _ _ s
 rw[Uj lo hi n]
 show wpAny _ _ (pure (((sIx n 0 lo:Nat):Int),(1:Int),eN ((sIx n 0 lo:Nat):Int) ((sIx n n hi:Nat):Int) 1)) _ _ s
 rw[Ux]
 exact aP h
theorem Acb(xs:Array aC)(i k:Nat):((fO k).filterMap fun (m:Nat)=>xs[((i:Int)+(m:Int) * 1).toNat]?).toArray=((xs.toList.drop i).take k).toArray:=by
 have e:(fun (m:Nat)=>xs[((i:Int)+(m:Int) * 1).toNat]?)=fun m=>xs[i+m]?:=by
  funext m
  have:((i:Int)+(m:Int) * 1).toNat=i+m:=by omega
  rw[this]
 rw[e]
 have:=pick_run xs i k
 rw[List.filterMap_map] at this
 have e2:((fun x=>xs[x]?)∘fun x=>i+x)=fun m=>xs[i+m]?:=rfl
 rw[e2] at this
 rw[this]
theorem Ik{t sl:Addr}{items:Array aC}{vl vu:aC}{lo hi:Option Int}{Q:aC->aG->Prop}(ht:IsTup s.heap t items)(hs:s.heap.IsSliceOf sl vl vu .none)(pl:mX vl lo)(pu:mX vu hi)
  (hw:¬ (sIx items.size 0 lo=0/\sIx items.size items.size hi=items.size))
  (h:Q (.ref s.heap.objs.size) { s with heap:=s.heap.push { cls:=.type "tuple",data:=.seq ((items.toList.drop (sIx items.size 0 lo)).take (sIx items.size items.size hi - sIx items.size 0 lo)).toArray } })
  (hsz:items.size<=sizeLine):wpAny (model prog w) A (getItem (.ref t) (.ref sl)) Q E s:=by
 have htake:sizeOk (.seq ((items.toList.drop (sIx items.size 0 lo)).take (sIx items.size items.size hi - sIx items.size 0 lo)).toArray):=by
  show ((items.toList.drop (sIx items.size 0 lo)).take (sIx items.size items.size hi - sIx items.size 0 lo)).toArray.size<=sizeLine
  rw[bS,kH,kI,fX]
  omega
 have hj:sIx items.size items.size hi<=items.size:=Ah9 _ _ (aZ _) hi
 obtain ⟨os,hos,hcs,hds⟩:=id hs
 have hTs:s.TypeIs (.ref sl) "slice" := ⟨os,hos,hcs⟩
 unfold getItem
 try with_reducible refine iG ?_
 first | refine aE (aP ?_) | skip
 refine aE (wpAny_sequenceKey ht.typeIs (by decide) ?_)
 refine aE (dQ (name:=fU "__getitem__") ht.typeIs iA
  (eW iA ht.typeIs entry_tuple_getitem ?_ (args_tuple_getitem _ _)))
 show wpAny _ _ (jC.Tuple.tupleItemsOf (.ref t) >>= _) _ _ s
 refine aE (tupleItemsOf_ ht ?_)
 refine aE (wpAny_typeOf hTs ?_)
 rw[if_pos (by decide)]
 refine aE (J4 hs pl pu ?_)
 have hno:¬ ((((sIx items.size 0 lo:Nat):Int) == 0&&(1:Int) == 1&&(sIx items.size items.size hi - sIx items.size 0 lo) == items.size)=true):=by
  intro q
  rw[cC,cC] at q
  have q1:((sIx items.size 0 lo:Nat):Int)=0:=eq_of_beq q.1.1
  have q2:sIx items.size items.size hi - sIx items.size 0 lo=items.size:=eq_of_beq q.2
  exact hw ⟨by omega,by omega⟩
 show wpAny _ _ (if (((sIx items.size 0 lo:Nat):Int) == 0&&(1:Int) == 1&&(sIx items.size items.size hi - sIx items.size 0 lo) == items.size)=true then _ else _) _ _ s
 rw[if_neg hno,Acb]
 first
  | exact aE (m:=dC _) (cQ (aP ⟨_,rfl,aP h⟩) htake)
  | exact aE (m:=dC _) (cQ (aE (aP (aP ⟨_,rfl,aP h⟩))) htake)
  | exact aE (aE (m:=dC _) (cQ (aP (aP ⟨_,rfl,aP h⟩)) htake))
  | exact aE (aE (m:=dC _) (cQ (aP ⟨_,rfl,aP h⟩) htake))
end
end HT
namespace L2
open PySem PySem.Spec PyProof.Rows
abbrev TO:=St->Hp->(Option Int->Hp->Prop)->Prop
noncomputable def PO(X:Cx)(e:Option Expr)(t:TO):Prop:=
 ∀ (pins:List (Addr×Obj)) (s:aG) (σ:St) (H:Hp) (Q:Option Int->Hp->Prop),Inv X pins σ H s->t σ H Q ->
  wpAny (model X.prog X.w) X.A (evalPart e X.env) (fun u s'=>∃ o H',Inv X pins σ H' s'/\mX u o/\Q o H') X.xe s
noncomputable def Aft:TO:=fun _ H Q=>Q none H
noncomputable def Aj8(t:TE):TO:=fun σ H Q=>t σ H fun x H1=>∃ i,x = .int i/\Q (some i) H1
theorem Nu{ns:List Int}:∀ {us:List aC},Vals (ns.map V.int) us->kU us ns:=by
 induction ns with
 | nil=>intro us r;rw[bW] at r;cases r;exact .nil
 | cons n ns ih=>
  intro us r
  rw[aM] at r
  cases r with
  | cons r1 r2=>
   obtain ⟨t,e⟩:=r1
   subst e
   exact .cons n t (ih r2)
section
variable {X:Cx}{e:Expr}{te:TE}{lo hi:Option Expr}{tl th:TO}{pos p2:Pos}
theorem Aej:PO X none Aft:=by
 intro pins s σ H Q I h
 rw[evalPart_none]
 exact aP ⟨none,H,I,.none,h⟩
theorem Ae3(h:PE X e te):PO X (some e) (Aj8 te):=by
 intro pins s σ H Q I hw
 rw[evalPart_some]
 refine thn (h pins s σ H _ I hw) fun u s1 zz=>?_
 obtain ⟨x,H1,I1,r1,q1⟩:=zz
 obtain ⟨i,rfl,q⟩:=q1
 obtain ⟨t,rfl⟩:=r1
 exact ⟨some i,H1,I1,.int i t,q⟩
noncomputable def SlR(X:Cx)(r:V->Option Int->Option Int->Hp->VK->Prop):Prop:=
 ∀ (pins:List (Addr×Obj)) (s:aG) (σ:St) (H:Hp) (x:V) (v vl vu:aC) (lo hi:Option Int) (sl:Addr) (Q:VK),Inv X pins σ H s->RelV x v->s.heap.IsSliceOf sl vl vu .none->mX vl lo->mX vu hi->r x lo hi H Q ->
  ∃ T id,typeLookup (.type T) "__getitem__" = pure (some (.builtin id))/\s.TypeIs v T/\wpAny (model X.prog X.w) X.A (getItem v (.ref sl)) (EP X pins σ Q) X.xe s
theorem SlR.or{r r':V->Option Int->Option Int->Hp->VK->Prop}(h:SlR X r)(h':SlR X r'):SlR X (fun x lo hi H Q=>r x lo hi H Q\/r' x lo hi H Q):=by
 intro pins s σ H x v vl vu lo hi sl Q I rx hs pl pu q
 rcases q with q | q
 ·exact h pins s σ H x v vl vu lo hi sl Q I rx hs pl pu q
 ·exact h' pins s σ H x v vl vu lo hi sl Q I rx hs pl pu q
noncomputable def tSl(r:V->Option Int->Option Int->Hp->VK->Prop)(te:TE)(tl th:TO):TE:=fun σ H Q=>te σ H fun x H1=>tl σ H1 fun l H2=>th σ H2 fun u H3=>r x l u H3 Q
theorem Ab5{r:V->Option Int->Option Int->Hp->VK->Prop}(hr:SlR X r)(he:PE X e te)(hl:PO X lo tl)(hu:PO X hi th):PE X (.Subscript e (.Slice lo hi none p2) pos) (tSl r te tl th):=by
 intro pins s σ H Q I h
 refine Subscript_ (thn (he pins s σ H _ I h) fun v s1 zz=>?_)
 obtain ⟨x,H1,I1,r1,q1⟩:=zz
 refine wpAny_Slice (thn (hl pins s1 σ H1 _ I1 q1) fun vl s2 ⟨l,H2,I2,pl,q2⟩=>thn (hu pins s2 σ H2 _ I2 q2) fun vu s3 zz=>?_)
 obtain ⟨u,H3,I3,pu,q3⟩:=zz
 rw[evalPart_none]
 refine aP ?_
 have I4:Inv X pins σ H3 { s3 with heap:=s3.heap.push { cls:=.type "slice",data:=.fields #[vl,vu,.none] } }:=I3.kept (t':=s3.toks) fun b ob q=>aD _ q
 obtain ⟨T,id,hT,ht,hg⟩:=hr pins { s3 with heap:=s3.heap.push { cls:=.type "slice",data:=.fields #[vl,vu,.none] } } σ H3 x v vl vu l u s3.heap.objs.size Q I4 r1 (Heap.IsSliceOf.new ..) pl pu q3
 show wpAny (model X.prog X.w) X.A (subscriptTail e (.Slice lo hi none p2) v (.ref s3.heap.objs.size)) (EP X pins σ Q) X.xe { s3 with heap:=s3.heap.push { cls:=.type "slice",data:=.fields #[vl,vu,.none] } }
 exact tail_any (ops:=[.ref s3.heap.objs.size,v]) ht hT hg (by with_unfolding_all rfl)
noncomputable def Rw(xs:List V)(lo hi:Option Int):List V:=(xs.drop (HT.sIx xs.length 0 lo)).take (HT.sIx xs.length xs.length hi - HT.sIx xs.length 0 lo)
theorem Kc(xs:List V)(lo hi:Option Int):(Rw xs lo hi).length<=xs.length:=by
 unfold Rw
 rw[kH,kI]
 omega
noncomputable def Alb(K:aA):V->Option Int->Option Int->Hp->VK->Prop:=fun x lo hi H Q=>∃ a xs,x = .ref a/\SqT K H a xs /\
 ¬ (HT.sIx xs.length 0 lo=0/\HT.sIx xs.length xs.length hi=xs.length)/\∀ p,H p=none->Q (.ref p) (upd H p (.tup (Rw xs lo hi)))
theorem Ah0:SlR X (Alb X.K):=by
 intro pins s σ H x v vl vu lo hi sl Q I rx hs pl pu h
 obtain ⟨a,xs,rfl,hx,hw,q⟩:=h
 cases rx
 obtain ⟨its,r,ht,hz⟩:=I.tuple hx
 have hlen:its.toArray.size=xs.length:=by rw[bS];exact r.length.symm
 refine ⟨"tuple",_,iA.lookup,ht.typeIs,?_⟩
 refine HT.Ik ht hs pl pu (by rw[hlen];exact hw) ?_ (by rw[hlen];exact hz)
 rw[hlen]
 refine ⟨.ref s.heap.objs.size,_,I.laid (t':=s.toks) (o:=.tup (Rw xs lo hi)) (fun b ob q=>aD _ q) (aZ _) ?_,rfl,q _ (I.hok.fresh (aZ _))⟩
 exact ⟨cF (Kc xs lo hi) hz,_,(r.drop (HT.sIx xs.length 0 lo)).take (HT.sIx xs.length xs.length hi - HT.sIx xs.length 0 lo),TupN.new _ _⟩
inductive rCatT(K:aA)(x y:V)(H:Hp)(Q:VK):Prop
 | mk (a:_) (b:_) (xs:_) (ys:_) (h0:x = .ref a) (h1:y = .ref b) (h2:SqT K H a xs) (h3:SqT K H b ys) (h4:xs≠[]) (h5:xs.length+ys.length<=sizeLine) (h6:(ys=[]->Q (.ref a) H)) (h7:(ys≠[]->∀ p,H p=none->Q (.ref p) (upd H p (.tup (xs++ys))))):rCatT K x y H Q
end
noncomputable def ixN(n:Nat)(i:Int):Option Nat:=if 0<=i then (if i < n then some i.toNat else none) else if -(n:Int)<=i then some (i+n).toNat else none
noncomputable def atI{α:Type}(xs:List α)(i:Int):Option α:=(ixN xs.length i).bind fun j=>xs[j]?
theorem Aeg{n:Nat}{i:Int}{j:Nat}(h:ixN n i=some j):seqIndex? i n=some j/\j < n/\-(n:Int)<=i/\i < n:=by
 unfold ixN at h
 by_cases h0:0<=i
 ·rw[if_pos h0] at h
  by_cases h1:i < n
  ·rw[if_pos h1] at h
   have e:i.toNat=j:=bJ h
   exact ⟨by rw[seqIndex_of h0 h1,e],by omega,by omega,h1⟩
  ·rw[if_neg h1] at h;cases h
 ·rw[if_neg h0] at h
  by_cases h1:-(n:Int)<=i
  ·rw[if_pos h1] at h
   have e:(i+n).toNat=j:=bJ h
   exact ⟨by rw[seqIndex_neg (by omega) h1,e],by omega,h1,by omega⟩
  ·rw[if_neg h1] at h;cases h
theorem Qf{α:Type}{xs:List α}{i:Int}{v:α}(h:atI xs i=some v):∃ j,seqIndex? i xs.length=some j/\xs[j]? = some v/\j < xs.length/\-(xs.length:Int)<=i/\i < xs.length:=by
 unfold atI at h
 cases e:ixN xs.length i with
 | none=>rw[e] at h;cases h
 | some j=>
  rw[e] at h
  obtain ⟨h1,h2,h3,h4⟩:=Aeg e
  exact ⟨j,h1,h,h2,h3,h4⟩
noncomputable def Wg(b:Expr):Prop:=∀ o i,subscripted b false o i=operate [o,i] (getItem o i)
noncomputable def IxR(X:Cx)(r:R2):Prop:=
 ∀ (value slice:Expr) (pins:List (Addr×Obj)) (s:aG) (σ:St) (H:Hp) (x y:V) (v u:aC) (Q:VK),Inv X pins σ H s->RelV x v->RelV y u->r x y H Q ->
  subscripted slice false v u=operate [v,u] (getItem v u)->wpAny (model X.prog X.w) X.A (subscriptTail value slice v u) (EP X pins σ Q) X.xe s
noncomputable def MtR(X:Cx)(id:String)(r:V->List V->Hp->VK->Prop):Prop:=
 ∀ (pins:List (Addr×Obj)) (s:aG) (σ:St) (H:Hp) (x:V) (xs:List V) (v:aC) (us:List aC) (Q:VK),Inv X pins σ H s->RelV x v->Vals xs us->r x xs H Q ->
  wpAny (model X.prog X.w) X.A (call (.builtin id) (v::us)) (EP X pins σ Q) X.xe s
section
variable {X:Cx}{a b:Expr}{ta tb:TE}{pos:Pos}
theorem IxR.or{r r':R2}(h:IxR X r)(h':IxR X r'):IxR X (fun x y H Q=>r x y H Q\/r' x y H Q):=by
 intro value slice pins s σ H x y v u Q I rx ry q hs
 rcases q with q | q
 ·exact h value slice pins s σ H x y v u Q I rx ry q hs
 ·exact h' value slice pins s σ H x y v u Q I rx ry q hs
theorem MtR.or{id:String}{r r':V->List V->Hp->VK->Prop}(h:MtR X id r)(h':MtR X id r'):MtR X id (fun x xs H Q=>r x xs H Q\/r' x xs H Q):=by
 intro pins s σ H x xs v us Q I rx rs q
 rcases q with q | q
 ·exact h pins s σ H x xs v us Q I rx rs q
 ·exact h' pins s σ H x xs v us Q I rx rs q
theorem Akk{r:R2}(hr:IxR X r)(ha:PE X a ta)(hb:PE X b tb)(hs:Wg b):PE X (.Subscript a b pos) (tOp r ta tb):=by
 intro pins s σ H Q I h
 exact Subscript_ (Ai7 ha hb I h fun v u s2 x y H2 I2 rx ry q=>hr a b pins s2 σ H2 x y v u Q I2 rx ry q (hs _ _))
inductive rIxL(K:aA)(x y:V)(H:Hp)(Q:VK):Prop
 | mk (p:_) (xs:_) (i:_) (v:_) (h0:x = .ref p) (h1:y = .int i) (h2:SqL K H p xs) (h3:atI xs i=some v) (h4:Q v H):rIxL K x y H Q
inductive rIxT(K:aA)(x y:V)(H:Hp)(Q:VK):Prop
 | mk (p:_) (xs:_) (i:_) (v:_) (h0:x = .ref p) (h1:y = .int i) (h2:SqT K H p xs) (h3:atI xs i=some v) (h4:Q v H):rIxT K x y H Q
noncomputable def Ajx:R2:=fun x y H Q=>∃ z i c,x = .str z/\y = .int i/\z.length<=sizeLine/\atI z.cps.toList i=some c/\Q (.str ⟨#[c]⟩) H
theorem Aek:IxR X (rIxL X.K):=by
 intro value slice pins s σ H x y v u Q I rx ry h hs
 obtain ⟨p,xs,i,z,rfl,rfl,hq,he,q⟩:=h
 cases rx
 obtain ⟨t,rfl⟩:=ry
 obtain ⟨its,r,pl,hz⟩:=I.list hq
 obtain ⟨j,h1,h2,h3,h4,h5⟩:=Qf he
 obtain ⟨w,ew,rw'⟩:=r.get h2
 have hl:=r.length
 have hn:=Ms
 have fin:EP X pins σ Q w s:=⟨z,H,I,rw',q⟩
 by_cases h0:0<=i
 ·have hj:i.toNat=j:=by
   rw[seqIndex_of h0 h5] at h1
   exact bJ h1
  exact item_listR pl.isList h0 (by omega) (by rw[hj];simpa using ew) fin hs
 ·have hj:(i+(its.toArray.size:Int)).toNat=j:=by
   rw[seqIndex_neg (by omega) h4] at h1
   rw[bS,<- hl]
   exact bJ h1
  exact kW (x:=w) pl.isList.typeIs nO.lookup
   (wpAny_getItem_list_neg (Q:=fun r s'=>r=w/\EP X pins σ Q r s') pl.isList (by omega) (by rw[bS] <;> omega) (by omega) (by rw[hj];simpa using ew) ⟨rfl,fin⟩) hs
theorem Ail:IxR X (rIxT X.K):=by
 intro value slice pins s σ H x y v u Q I rx ry h hs
 obtain ⟨p,xs,i,z,rfl,rfl,hq,he,q⟩:=h
 cases rx
 obtain ⟨t,rfl⟩:=ry
 obtain ⟨its,r,pl,hz⟩:=I.tuple hq
 obtain ⟨j,h1,h2,h3,h4,h5⟩:=Qf he
 obtain ⟨w,ew,rw'⟩:=r.get h2
 have hl:=r.length
 have hn:=Ms
 have fin:EP X pins σ Q w s:=⟨z,H,I,rw',q⟩
 exact kW (x:=w) pl.typeIs slot_tuple_getitem.lookup
  (getItem_tuple (j:=j) (Q:=fun r s'=>r=w/\EP X pins σ Q r s') pl (by omega) (by omega) (by rw[bS,<- hl];exact h1) (by simpa using ew) ⟨rfl,fin⟩) hs
theorem Aif:IxR X Ajx:=by
 intro value slice pins s σ H x y v u Q I rx ry h hs
 obtain ⟨z,i,c,rfl,rfl,hz,he,q⟩:=h
 obtain ⟨t,rfl⟩:=rx
 obtain ⟨t',rfl⟩:=ry
 obtain ⟨j,h1,h2,h3,h4,h5⟩:=Qf he
 have hl:z.cps.toList.length=z.length:=by simp[mY]
 rw[hl] at h1 h4 h5
 have hn:=Ms
 exact tail_any (jL s z t) slot_str_getitem.lookup (getItem_str (c:=c) (by
  have e1:decide (i < -(2 ^ 63:Int))=false:=decide_eq_false (by omega)
  have e2:decide (i ≥ 2 ^ 63)=false:=decide_eq_false (by omega)
  rw[e1,e2,Bool.or_false]) (by rw[h1];simpa using h2) ⟨.str ⟨#[c]⟩,H,I.tok _,⟨_,rfl⟩,q⟩) hs
noncomputable def rIx(K:aA):R2:=fun x y H Q=>rIxL K x y H Q\/rIxT K x y H Q\/Ajx x y H Q
theorem Ez:IxR X (rIx X.K):=Aek.or (Ail.or Aif)
theorem Inv.lst{pins:List (Addr×Obj)}{σ:St}{H:Hp}{s:aG}{p:Addr}{xs:List V}(I:Inv X pins σ H s)(h:H p=some (.lst xs)) :
  ∃ (its:List aC) (n:Nat),Vals xs its/\s.heap.get? p=some { cls:=.type "list",data:=.seq its.toArray n }/\xs.length<=sizeLine:=by
 obtain ⟨z,its,n,r,e⟩:=I.hok p _ h
 exact ⟨its,n,r,e,z⟩
theorem Wz(i:Int)(n:Nat):max 0 (min (if i < 0 then i+(n:Int) else i) (n:Int))=(((if i < 0 then (i+(n:Int)).toNat else min i.toNat n):Nat):Int):=by
 by_cases h:i < 0
 ·have hm:i+(n:Int)<=n:=by omega
  rw[if_pos h,if_pos h,oN hm,Int.ofNat_toNat,Int.max_comm]
 ·obtain ⟨k,rfl⟩:=Int.eq_ofNat_of_zero_le (Int.not_lt.mp h)
  rw[if_neg h,if_neg h,gX]
  rcases Nat.le_total k n with hk | hk
  ·rw[Nat.min_eq_left hk,oN (pV.mpr hk),oB (mZ k)]
  ·rw[Nat.min_eq_right hk,Int.min_eq_right (pV.mpr hk),oB (mZ n)]
theorem Qu(lo hi:Option Int)(n:Nat):(sliceBounds lo hi none n).1=((HT.sIx n 0 lo:Nat):Int)/\(sliceBounds lo hi none n).2.1=((HT.sIx n n hi:Nat):Int)/\(sliceBounds lo hi none n).2.2=1:=by
 refine ⟨?_,?_,rfl⟩
 ·cases lo with
  | none=>rfl
  | some i=>exact Wz i n
 ·cases hi with
  | none=>rfl
  | some i=>exact Wz i n
theorem N8(its:List aC)(lo hi:Option Int):slicePick its.toArray lo hi none=((its.drop (HT.sIx its.length 0 lo)).take (HT.sIx its.length its.length hi - HT.sIx its.length 0 lo)).toArray:=by
 obtain ⟨h1,h2,h3⟩:=Qu lo hi its.toArray.size
 unfold slicePick
 rw[h1,h2,h3]
 simp only[sliceRange_one,pick_run,bS] <;> rfl
noncomputable def Aki(K:aA):V->Option Int->Option Int->Hp->VK->Prop:=fun x lo hi H Q=>∃ a xs,x = .ref a/\SqL K H a xs/\∀ p,H p=none->Q (.ref p) (upd H p (.lst (Rw xs lo hi)))
theorem Adw:SlR X (Aki X.K):=by
 intro pins s σ H x v vl vu lo hi sl Q I rx hs pl pu h
 obtain ⟨a,xs,rfl,hx,q⟩:=h
 cases rx
 obtain ⟨its,r,ht,hz⟩:=I.list hx
 have hlen:=r.length
 refine ⟨"list",_,nO.lookup,ht.isList.typeIs,?_⟩
 refine wpAny_getItem_list_slice ht.isList hs pl pu .none (by simp) ?_ (by rw[bS] <;> omega)
 rw[N8,<- hlen]
 refine ⟨.ref s.heap.objs.size,_,I.laid (t':=s.toks) (o:=.lst (Rw xs lo hi)) (fun b ob q=>aD _ q) (aZ _) ?_,rfl,q _ (I.hok.fresh (aZ _))⟩
 exact ⟨cF (Kc xs lo hi) hz,_,0,(r.drop (HT.sIx xs.length 0 lo)).take (HT.sIx xs.length xs.length hi - HT.sIx xs.length 0 lo),aR _ rfl⟩
noncomputable def Hg:V->Bool
 | .non=>true
 | .bl _=>true
 | .int _=>true
 | .str _=>true
 | _=>false
noncomputable def eqV:V->V->Bool
 | .non,.non=>true
 | .bl a,.bl b=>a == b
 | .bl a,.int b=>(if a then 1 else 0) == b
 | .int a,.bl b=>a == (if b then 1 else 0)
 | .int a,.int b=>a == b
 | .str a,.str b=>a == b
 | _,_=>false
theorem Ah6{A:bZ}{s:aG}{y x:V}{u v:aC}(ry:RelV y u)(rx:RelV x v)(fy:Hg y=true)(fx:Hg x=true):qH A s u v (eqV y x):=by
 cases y with
 | non=>
  cases ry
  cases x with
  | non=>cases rx;exact qH.same _
  | bl b=>cases rx;exact qH.none_bool b
  | int b=>obtain ⟨t,rfl⟩:=rx;exact qH.none_int b t
  | str b=>obtain ⟨t,rfl⟩:=rx;exact qH.none_str b t
  | _=>exact absurd (show false=true from fx) cN
 | bl a=>
  cases ry
  cases x with
  | non=>cases rx;exact qH.bool_none a
  | bl b=>cases rx;exact qH.bool_bool a b
  | int b=>obtain ⟨t,rfl⟩:=rx;exact qH.bool_int a b t
  | str b=>obtain ⟨t,rfl⟩:=rx;exact qH.bool_str a b t
  | _=>exact absurd (show false=true from fx) cN
 | int a=>
  obtain ⟨t',rfl⟩:=ry
  cases x with
  | non=>cases rx;exact qH.int_none a t'
  | bl b=>cases rx;exact qH.int_bool a t' b
  | int b=>obtain ⟨t,rfl⟩:=rx;exact qH.int_int a t' b t
  | str b=>obtain ⟨t,rfl⟩:=rx;exact mT a t' b t
  | _=>exact absurd (show false=true from fx) cN
 | str a=>
  obtain ⟨t',rfl⟩:=ry
  cases x with
  | non=>cases rx;exact qH.str_none a t'
  | bl b=>cases rx;exact qH.str_bool a t' b
  | int b=>obtain ⟨t,rfl⟩:=rx;exact mU a t' b t
  | str b=>obtain ⟨t,rfl⟩:=rx;exact qH.str_str a t' b t
  | _=>exact absurd (show false=true from fx) cN
 | _=>exact absurd (show false=true from fy) cN
noncomputable def eqU(x:V)(u:aC):Bool:=match u with
 | .none=>eqV .non x
 | .bool b=>eqV (.bl b) x
 | .int i _=>eqV (.int i) x
 | .str z _=>eqV (.str z) x
 | _=>false
theorem Aay{x y:V}{u:aC}(r:RelV y u)(f:Hg y=true):eqU x u=eqV y x:=by
 cases y with
 | non=>cases r;rfl
 | bl b=>cases r;rfl
 | int i=>obtain ⟨t,rfl⟩:=r;rfl
 | str z=>obtain ⟨t,rfl⟩:=r;rfl
 | _=>exact absurd (show false=true from f) cN
theorem Wb{x:V}{xs:List V}{us:List aC}(h:Vals xs us)(f:xs.all Hg=true):us.any (eqU x)=xs.any fun y=>eqV y x:=by
 induction h with
 | nil=>rfl
 | cons r t ih=>
  rw[mP,cC] at f
  rw[dM,dM,Aay r f.1,ih f.2]
theorem L8{A:bZ}{s:aG}{x:V}{v:aC}(rx:RelV x v)(fx:Hg x=true):∀ {xs:List V} {us:List aC},Vals xs us->xs.all Hg=true->∀ u∈us,qH A s u v (eqU x u)
 | _,_,.nil,_=>fun u hu=>by cases hu
 | y::xs,u::us,.cons r t,f=>fun u' hu=>by
  rw[mP,cC] at f
  rcases bV.mp hu with rfl | hu
  ·rw[Aay r f.1];exact Ah6 r rx f.1 fx
  ·exact L8 rx fx t f.2 u' hu
noncomputable def inV(x:V)(xs:List V):Bool:=xs.any fun y=>eqV y x
noncomputable def rIn(K:aA)(neg:Bool):R2:=fun x y H Q=>∃ p xs,y = .ref p/\(SqL K H p xs\/SqT K H p xs)/\Hg x=true/\xs.all Hg=true/\Q (.bl (if neg then !inV x xs else inV x xs)) H
theorem Yl:OpR X (cZ .In) (rIn X.K false):=by
 intro pins s σ H x y v u Q I rx ry h
 obtain ⟨p,xs,rfl,hq,fx,fs,q⟩:=h
 cases ry
 rcases hq with hq | hq
 ·obtain ⟨its,r,pl,hz⟩:=I.list hq
  refine SeqAt.in_listAt (eqU x) pl.isList (fun w hw=>L8 rx fx r fs w (by simpa using hw)) ⟨.bl _,H,I,rfl,?_⟩
  rw[show its.toArray.any (eqU x)=its.any (eqU x) by simp,Wb r fs]
  exact q
 ·obtain ⟨its,r,pl,hz⟩:=I.tuple hq
  refine SeqAt.in_tupleAt (eqU x) pl (fun w hw=>L8 rx fx r fs w (by simpa using hw)) ⟨.bl _,H,I,rfl,?_⟩
  rw[show its.toArray.any (eqU x)=its.any (eqU x) by simp,Wb r fs]
  exact q
theorem CallR.or{f:aC}{r r':List V->Hp->VK->Prop}(h:CallR X f r)(h':CallR X f r'):CallR X f (fun xs H Q=>r xs H Q\/r' xs H Q):=by
 intro pins s σ H xs us Q I rs q
 rcases q with q | q
 ·exact h pins s σ H xs us Q I rs q
 ·exact h' pins s σ H xs us Q I rs q
theorem Hi:CallR X (.type "tuple") (fun xs H Q=>∃ p ys,xs=[.ref p]/\((SqL X.K H p ys/\∀ l,H l=none->Q (.ref l) (upd H l (.tup ys)))\/(SqT X.K H p ys/\Q (.ref p) H))):=by
 intro pins s σ H xs us Q I r h
 obtain ⟨p,ys,rfl,h⟩:=h
 obtain ⟨u,rfl,rx⟩:=Sf r
 cases rx
 rcases h with ⟨hq,q⟩ | ⟨hq,q⟩
 ·obtain ⟨its,r',pl,hz⟩:=I.list hq
  have hlen:=r'.length
  refine call_tuple_list pl.isList (fun h' kp=>?_) (by simp only[bS] <;> omega)
  have I1:Inv X pins σ H { s with heap:=h' }:=I.kept (t':=s.toks) kp
  have I2:Inv X pins σ (upd H h'.objs.size (.tup ys)) { s with heap:=h'.push { cls:=.type "tuple",data:=.seq its.toArray } }:=
   I1.laid (t':=s.toks) (fun b o e=>aD _ e) (aZ _) (show ObjOk X.prog X.w _ _ _ (.tup ys) from ⟨hz,its,r',TupN.new _ _⟩)
  exact ⟨.ref h'.objs.size,_,I2,rfl,q _ (I1.hok.fresh (aZ _))⟩
 ·obtain ⟨its,r',pl,hz⟩:=I.tuple hq
  exact call_tuple_same pl ⟨.ref p,H,I,rfl,q⟩
noncomputable def tyV(K:aA)(T:String)(x:V)(H:Hp):Prop:=match x with
 | .str _=>T = "str"
 | .int _=>T = "int"
 | .ref p=>(T = "list" /\ ∃ xs,SqL K H p xs)\/(T = "tuple" /\ ∃ xs,SqT K H p xs) \/
   (T = "dict" /\ ((∃ kvs,H p=some (.dK kvs))\/∃ kvs,H p=some (.dT kvs)))\/(T = "set" /\ ∃ S n,H p=some (.set S n))
 | _=>False
theorem Ahv{pins:List (Addr×Obj)}{σ:St}{H:Hp}{s:aG}{T:String}{x:V}{v:aC}(I:Inv X pins σ H s)(r:RelV x v)(ty:tyV X.K T x H) :
  s.TypeIs v T/\∀ a,v = .ref a->∃ ob,s.heap.get? a=some ob/\ob.dict=none:=by
 cases x with
 | str z=>
  obtain ⟨t,rfl⟩:=r
  cases (show T = "str" from ty)
  exact ⟨jL s z t,fun _ e=>nomatch e⟩
 | int i=>
  obtain ⟨t,rfl⟩:=r
  cases (show T = "int" from ty)
  exact ⟨typeIs_int s i t,fun _ e=>nomatch e⟩
 | ref p=>
  cases r
  rcases ty with ⟨rfl,xs,hq⟩ | ⟨rfl,xs,hq⟩ | ⟨rfl,hk⟩ | ⟨rfl,S,n,hk⟩
  ·obtain ⟨its,_,pl,_⟩:=I.list hq
   refine ⟨pl.isList.typeIs,fun a e=>?_⟩
   cases e
   obtain ⟨o,n,e,c,hd,_⟩:=pl
   exact ⟨o,e,hd⟩
  ·obtain ⟨its,_,⟨o,ho,hc,_⟩,_⟩:=I.tupleN hq
   obtain ⟨h1,h2⟩:=oM hc
   refine ⟨⟨o,ho,h1⟩,fun a e=>?_⟩
   cases e
   exact ⟨o,ho,h2⟩
  ·have z:∃ o,s.heap.get? p=some o/\o.ExactDict:=by
    rcases hk with ⟨kvs,hk⟩ | ⟨kvs,hk⟩
    ·obtain ⟨_,_,_,_,o,_,_,e,ex,_⟩:=I.hok p _ hk
     exact ⟨o,e,ex⟩
    ·obtain ⟨_,_,_,_,o,_,_,e,ex,_⟩:=I.hok p _ hk
     exact ⟨o,e,ex⟩
   obtain ⟨o,e,ex⟩:=z
   refine ⟨⟨o,e,ex.1⟩,fun a e2=>?_⟩
   cases e2
   exact ⟨o,e,ex.2.1⟩
  ·obtain ⟨o,_,_,_,e,ex,_⟩:=I.hok p _ hk
   refine ⟨⟨o,e,ex.1⟩,fun a e2=>?_⟩
   cases e2
   exact ⟨o,e,ex.2.1⟩
 | _=>exact cJ ty
noncomputable def tBM(K:aA)(T:String)(r:V->List V->Hp->VK->Prop)(to:TE)(t:TA):TE:=fun σ H Q=>to σ H fun x H1=>tyV K T x H1/\t σ H1 fun xs H2=>r x xs H2 Q
variable {o e:Expr}{es:List Expr}{to:TE}{t:TA}{name:Str}{apos cpos:Pos}{T id:String}{r:V->List V->Hp->VK->Prop}
theorem Alf(pa:PlainAttrs T)(slot:Slot T name id)(hty:typeOf (.builtin id)=pure (.type "method_descriptor"))(hm:MtR X id r)(ho:PE X o to)(ha:PA X (e::es) t)
  (hbase:attributeBase o name X.env (eval o X.env)=eval o X.env:=by rfl)
  (hfew:((backTo cpos (aL (e::es) X.env)).all (fun x=>!x.1)&&(backToKw cpos (keywordEach [] X.env)).all (fun x=>x.1.isSome)
   && decide ((e::es).length+([]:List eZ).length+(if ([]:List eZ).isEmpty then 0 else 1) < 30))=true:=by rfl)
  (hline:(apos.endLine == cpos.line)=true:=by rfl) (hs:aL (e::es) X.env=(false,eval e X.env)::aL es X.env:=by rfl) (hplain:(backTo cpos (aL es X.env)).any (·.1)=false:=by rfl) :
  PE X (.Call (.Attribute o name apos) (e::es) [] cpos) (tBM X.K T r to t):=by
 intro pins s σ H Q I h
 refine wpAny_Call_method_late hbase hfew hline rfl (thn (ho pins s σ H _ I h) fun v s1 zz=>?_)
 obtain ⟨x,H1,I1,r1,ty,q1⟩:=zz
 obtain ⟨h1,h2⟩:=Ahv I1 r1 ty
 refine ⟨T,id,pa,slot,hty,h1,h2,?_⟩
 have hA:=ha cpos pins s1 σ H1 _ I1 q1
 rw[hs] at hA ⊢
 refine fA (by show (false || (backTo cpos (aL es X.env)).any (·.1))=false;rw[hplain] <;> rfl) (iI ?_)
 exact thn hA fun us s2 zz=>by obtain ⟨vs,H2,I2,r2,q2⟩:=zz;exact hm pins s2 σ H2 x vs v us Q I2 r1 r2 q2
end
noncomputable def MtM(X:Cx)(id:String)(r:V->List V->Hp->VK->Prop):Prop:=
 ∀ (pins:List (Addr×Obj)) (s:aG) (σ:St) (H:Hp) (x:V) (xs:List V) (v:aC) (us:List aC) (Q:VK),Inv X pins σ H s->RelV x v->Vals xs us->r x xs H Q ->
  wpAny (model X.prog X.w) X.A (call (.builtin id) (v::us)) (EP X pins σ Q) X.xe s
theorem Vals.one{x:V}{us:List aC}(h:Vals [x] us):∃ u,us=[u]/\RelV x u:=by
 cases h with
 | cons r t=>cases t;exact ⟨_,rfl,r⟩
theorem Vals.two{x y:V}{us:List aC}(h:Vals [x,y] us):∃ u v,us=[u,v]/\RelV x u/\RelV y v:=by
 cases h with
 | cons r t=>obtain ⟨v,rfl,q⟩:=Vals.one t;exact ⟨_,v,rfl,r,q⟩
theorem Vals.zero:∀ {us:List aC},Vals [] us->us=[]
 | _,.nil=>rfl
theorem Vals.dropLast{xs:List V}{us:List aC}(h:Vals xs us):Vals xs.dropLast us.dropLast:=by
 induction h with
 | nil=>exact .nil
 | cons r t ih=>
  cases t with
  | nil=>exact .nil
  | cons q t'=>exact .cons r ih
theorem Vals.eraseIdx{xs:List V}{us:List aC}(i:Nat)(h:Vals xs us):Vals (xs.eraseIdx i) (us.eraseIdx i):=by
 induction h generalizing i with
 | nil=>exact .nil
 | cons r t ih=>
  cases i with
  | zero=>exact t
  | succ i=>exact .cons r (ih i)
theorem Vals.reverse{xs:List V}{us:List aC}(h:Vals xs us):Vals xs.reverse us.reverse:=by
 induction h with
 | nil=>exact .nil
 | cons r t ih=>rw[gY,gY];exact Vals.append ih (.cons r .nil)
theorem Vals.rep{xs:List V}{us:List aC}(h:Vals xs us):∀ k:Nat,Vals (dG k xs).flatten (dG k us).flatten
 | 0=>.nil
 | k+1=>by
  rw[mL,mL,nP,nP]
  exact Vals.append h (Vals.rep h k)
section
variable {X:Cx}{pins:List (Addr×Obj)}{σ:St}{H:Hp}{s:aG}{l b:Addr}{xs ys zs:List V}
theorem Inv.fresh(I:Inv X pins σ H s):H s.heap.objs.size=none:=I.hok.fresh (aZ _)
theorem Inv.lstM(I:Inv X pins σ H s)(hH:H l=some (.lst xs)):xs.length<=sizeLine/\∃ (its:List aC) (n:Nat),Vals xs its/\xs.length=its.length/\s.heap.get? l=some { cls:=.type "list",data:=.seq its.toArray n }:=by
 obtain ⟨z,its,n,r,e⟩:=I.hok l _ hH
 exact ⟨z,its,n,r,r.length,e⟩
end
section
variable {X:Cx}
inductive rPop  (x:V) (vs:List V) (H:Hp) (Q:VK):Prop
 | mk (l:_) (xs:_) (y:_) (h0:x = .ref l) (h1:vs=[]) (h2:H l=some (.lst xs)) (h3:xs[xs.length - 1]? = some y) (h4:Q y (upd H l (.lst xs.dropLast))):rPop  x vs H Q
inductive rPopAt  (x:V) (vs:List V) (H:Hp) (Q:VK):Prop
 | mk (l:_) (xs:_) (i:_) (k:_) (y:_) (h0:x = .ref l) (h1:vs=[.int i]) (h2:H l=some (.lst xs)) (h3:-(2 ^ 63)<=i) (h4:i < 2 ^ 63) (h5:seqIndex? i xs.length=some k) (h6:xs[k]? = some y) (h7:Q y (upd H l (.lst (xs.eraseIdx k)))):rPopAt  x vs H Q
inductive rCat  (x y:V) (H:Hp) (Q:VK):Prop
 | mk (l:_) (b:_) (xs:_) (zs:_) (h0:x = .ref l) (h1:y = .ref b) (h2:H l=some (.lst xs)) (h3:H b=some (.lst zs)) (h4:xs.length+zs.length<=sizeLine) (h5:∀ p,H p=none->Q (.ref p) (upd H p (.lst (xs++zs)))):rCat  x y H Q
inductive rRep  (x y:V) (H:Hp) (Q:VK):Prop
 | mk (l:_) (k:_) (xs:_) (h0:x = .ref l) (h1:y = .int k) (h2:H l=some (.lst xs)) (h3:-(2 ^ 63)<=k) (h4:k < 2 ^ 63) (h5:xs.length * k.toNat<=sizeLine) (h6:∀ p,H p=none->Q (.ref p) (upd H p (.lst (dG k.toNat xs).flatten))):rRep  x y H Q
end
section
variable {prog:aW}{w:bG}{A:bZ}{E:aC->aG->Prop}{s:aG}
end
section
variable {X:Cx}
end
end L2
namespace Att
open PySem PySem.W PySem.Calls PyProof.Rows
theorem Lb{P:kB}{h:Heap}:∀ (ns:List Int) (vs:List aC),WellAll P h vs (ns.map WData.int)->kU vs ns:=by
 intro ns
 induction ns with
 | nil=>
  intro vs w
  rw[bW] at w
  cases w
  exact .nil
 | cons n ns ih=>
  intro vs w
  rw[aM] at w
  cases w with
  | cons a b=>
   cases a
   exact .cons _ _ (ih _ b)
theorem Yr{l:iJ}{n:Nat}(hn:l.most=some n){P:kB}{h:Heap}{args:List WData}{vals:List aC}
  (hpre:l.row.toRowW.claim.pre args=true) (hwl:WellAll P h vals args) :
  ∃ a vs ns,vals=[bH a]/\args=[WData.list (ns.map WData.int)]/\h.get? a=some { cls:=.type "list",data:=.seq vs.toArray }/\kU vs ns/\ns.length<=n:=by
 have hsh:WShape.hasAll [] args [.list .int]=true:=(pre_splitW hpre).1
 have hc:l.pre.holds [] { args:=args } = true:=(pre_splitW hpre).2
 obtain ⟨d,r,rfl,h1,h2⟩:=hasAllW_cons hsh
 obtain rfl:=hasAllW_nil h2
 obtain ⟨xs,rfl,h3⟩:=hasW_list h1
 obtain ⟨ns,rfl⟩:=items_int h3
 have hlen:ns.length<=n:=by
  unfold iJ.pre at hc
  have h4:(WTm.not (.lt (.lit (.int (n:Int))) (.len (.arg 0)))).holds [] { args:=[.list (ns.map .int)] } = true:=by
   have h4:=(holds_andW hc).1
   rw[hn] at h4
   exact h4
  have h5:=condW_of h4 (w_not (w_lt w_lit (w_len_list (w_arg rfl))))
  rw[cO] at h5
  refine Nat.le_of_not_lt fun q=>?_
  have q':(n:Int) < ((ns.length:Nat):Int):=by omega
  first
   | (rw[decide_eq_true q'] at h5;exact absurd h5 (by decide))
   | (simp at h5;omega)
 cases hwl with
 | cons w1 w2=>
  cases w2
  cases w1 with
  | list ho hall=>exact ⟨_,_,ns,rfl,rfl,ho,Lb ns _ hall,hlen⟩
theorem X5(l:iJ)(args:List WData):l.row.toRowW.claim.post args (.bool true) args=true:=
 postW_of (r:=l.row.toRowW) (X:=(true == true))
  (show qI [] (.bool true) .bool=true by first | rfl | decide | simp[qI,WShape.arms,WShape.armsAll])
  (show (WTm.eq .res (.lit (.bool true))).value [] { args:=args,res:=some (.bool true),after:=args } = some (.bool (true == true)) from w_eq_bool (w_res rfl) w_lit) rfl
theorem R8{l:iJ}{n:Nat}{q:aW}{loose:List Str}{XP:(Str->Option aC)->Heap->Prop}{YP:bG->Heap->Prop}{d:DefRec}
  (hn:l.most=some n) (hdf:d.params.defaults=[])
  (call:∀ (w:bG) (s₀ s₁:aG) (mg mb:Str->Option aC) (fa:Addr) (o:Obj) (pm cd doc:aC) (a:Addr) (vs:List aC) (ns:List Int),
   Ground q loose [] XP w s₀ mg mb s₁.heap->YP w s₁.heap ->
   s₁.heap.get? fa=some o->o.data = .func (docDef d.name d.params d.body d.scope pm cd doc)->s₁.heap.CodeRec cd d.name->mg d.name=some (.ref fa) ->
   s₁.heap.get? a=some { cls:=.type "list",data:=.seq vs.toArray }->kU vs ns->ns.length<=n->s₁.gens=#[] ->
   iF (model l.prog w) callerA (.call (.ref fa) ⟨[.ref a],[]⟩) (fun r s'=>r = .ok (.ret (.bool true))/\OldK s₁.heap s'.heap/\s'.os=s₁.os/\jA s'.gens) s₁) :
  WalkO q loose XP YP l.row.toRowW d [] (fun f vs=>pE f vs):=by
 intro w s₀ s₁ mg mb G Y fa o pm cd doc dV kV ho hd hcd hD hmg hg args vals as hpre hlay hrd hwl hlo
 obtain rfl:dV = .none:=Dflts.none hD hdf
 obtain rfl:kV = .none:=Dflts.noKw hD
 obtain ⟨a,vs,ns,rfl,rfl,hobj,hints,hlen⟩:=Yr hn hpre hwl
 refine enter_call (gW (call w s₀ s₁ mg mb fa o pm cd doc a vs ns G Y ho (fd_plain hd) hcd hmg hobj hints hlen hg) fun r s' hq=>?_)
 obtain ⟨rfl,h2,h3,h4⟩:=hq
 exact ⟨.inl ⟨.bool true,.bool true,[],rfl,fun _=>rfl,.bool true,X5 l _,fun _=>⟨List.Pairwise.nil,fun _ hm=>(nomatch hm)⟩⟩,h2,h3,h4⟩
section
variable {prog:aW}{w:bG}{A:bZ}{E:aC->aG->Prop}{s:aG}{K:Frag}
end
end Att
namespace L2
open PySem PySem.Spec PyProof.Rows
theorem Xb{vs:List aC}{ns:List Int}(h:kU vs ns):Vals (ns.map V.int) vs:=by
 induction h with
 | nil=>exact .nil
 | cons n t h ih=>exact .cons ⟨t,rfl⟩ ih
noncomputable def Afn(H:Hp):Prop:=∀ b,H b=none\/∃ o xs,H b=some (.frz o (.lst xs))
theorem Ab8{P:aW}{w:bG}{K:aA}{mg mb:Str->Option aC}{CX:CXT}{k:Nat}{fa a:Addr}{fd:bE}{x:Str}{sp:Sp}{s₁:aG}{vs:List aC}{ns:List Int}
  (KX:K.In s₁.heap) (hns:s₁.heap.Ns aI mg) (hb:s₁.heap.Ns mW mb) (hbb:∀ x:Str,x ≠ "__name__" -> mb x=dX x) (hlim:s₁.heap.NoLimit) (hg:s₁.gens=#[])
  (ha:s₁.heap.get? a=some { cls:=.type "list",data:=.seq vs.toArray }) (hi:kU vs ns) (hl:ns.length<=sizeLine) (hr:Room k callerA)
  (F:∀ base:Heap,K.In base->base.Ns aI mg->FnOk P w K mg base CX k fa fd [x] sp) (hbind:∀ (s:aG) (u:aC),kS s fd ⟨[u],[]⟩ [(x,u)])
  (hsp:∀ H:Hp,Afn H->SqL K H a (ns.map V.int)->sp [.ref a] H (fun v _=>v = .bl true) fun _ _ _=>False)
  (hCX:∀ H e s',CX [] H s₁ (fun _ _ _=>False) e s'->False) :
  iF (model P w) callerA (.call (.ref fa) ⟨[.ref a],[]⟩) (fun r s'=>r = .ok (.ret (.bool true))/\OldK s₁.heap s'.heap/\s'.os=s₁.os/\jA s'.gens) s₁:=by
 have rv:=Xb hi
 have lenV:=hi.length
 have core:∀ H:Hp,Afn H->SqL K H a (ns.map V.int)->HOk P w H s₁.heap->(∀ b,H b≠none->b=a)->(H a≠none->K.lookup a=none) ->
   iF (model P w) callerA (.call (.ref fa) ⟨[.ref a],[]⟩) (fun r s'=>r = .ok (.ret (.bool true))/\OldK s₁.heap s'.heap/\s'.os=s₁.os/\jA s'.gens) s₁:=by
  intro H hO hS hok hA hK
  have base_of:∀ {b:Addr} {o:Obj},s₁.heap.get? b=some o->H b=none->(Ql s₁.heap H).get? b=some o:=fun e n=>Ab0 e n
  have noA:∀ {b:Addr} {o:Obj} {es:Array oC} {ep:Nat},s₁.heap.get? b=some o->o.data = .dict es ep->H b=none:=fun {b o es ep} e d=>by
   cases q:H b with
   | none=>rfl
   | some u=>
    have e':b=a:=hA b (by rw[q];simp)
    subst e'
    rw[ha] at e;cases e
    have d':Data.seq vs.toArray _=Data.dict es ep:=d
    cases d'
  have nsK:∀ {b:Addr} {m:Str->Option aC},s₁.heap.Ns b m->(Ql s₁.heap H).Ns b m:=fun {b m} ⟨o,es,ep,e,d,r⟩=>⟨o,es,ep,base_of e (noA e d),d,r⟩
  have hKb:K.In (Ql s₁.heap H):=fun b o e=>base_of (KX b o e) (by
   cases q:H b with
   | none=>rfl
   | some u=>
    have e':b=a:=hA b (by rw[q];simp)
    subst e'
    rw[hK (by rw[q];simp)] at e;cases e)
  have hM:Mod K mg (Ql s₁.heap H):=⟨hKb,nsK hns,⟨mb,nsK hb,hbb⟩,let ⟨mc,h1,h2⟩:=hlim;⟨mc,nsK h1,h2⟩⟩
  have e0:Env0 P w K mg (Ql s₁.heap H) callerA [] s₁ H:=⟨rfl,hM,fun b o e=>Agb e,nK (W8 _ _),trivial,fun b hb=>absurd (show b∈([]:List Addr) from hb) (by simp),hok,.of_eq hg⟩
  refine gW ((F _ hKb (nsK hns)).run callerA [] s₁ H ⟨[.ref a],[]⟩ [.ref a] [.ref a] _ _ hr e0 (hbind s₁ (.ref a)) (.cons rfl .nil) (hsp H hO hS)) fun r s' h=>?_
  cases r with
  | error e=>exact (hCX H e s' h).elim
  | ok fl=>
   cases fl with
   | next=>exact cJ h
   | brk=>exact cJ h
   | cont=>exact cJ h
   | ret u=>
    obtain ⟨v,H',os,bare,un,hok',r',q⟩:=h
    have q':v = .bl true:=q
    subst q'
    obtain rfl:u=pA true:=r'
    refine ⟨rfl,OldK.of_keep fun b o e=>?_,os,bare⟩
    cases q:H b with
    | none=>exact un.keep b o e q (by intro z;exact absurd (show b∈([]:List Addr) from z) (by simp)) (by simp)
    | some u=>
     rcases hO b with z | ⟨ob,xs,z⟩
     ·rw[q] at z;cases z
     ·have z2:=un.frzs b ob _ z
      obtain ⟨e1,_⟩:=hok b _ z
      obtain ⟨e2,_⟩:=hok' b _ z2
      rw[e] at e1;cases e1
      exact e2
 cases hk:K.lookup a with
 | some o=>
  have e:=KX a o hk
  rw[ha] at e
  cases e
  refine core (fun _=>none) (fun _=>.inl rfl) (.inr ⟨_,vs.toArray,_,hk,rfl,rfl,rfl,by rw[bS,lenV];exact hl,by simpa using rv⟩) (fun b u z=>by have z':(none:Option HO)=some u:=z;cases z') (fun b z=>absurd rfl z) fun z=>absurd rfl z
 | none=>
  refine core (fun b=>if b=a then some (.frz { cls:=.type "list",data:=.seq vs.toArray } (.lst (ns.map V.int))) else none) (fun b=>?_) (.inl (.inr ⟨{ cls:=.type "list",data:=.seq vs.toArray },if_pos rfl⟩)) (fun b u z=>?_) (fun b z=>?_) fun _=>hk
  ·by_cases hb:b=a
   ·exact .inr ⟨_,_,if_pos hb⟩
   ·exact .inl (if_neg hb)
  ·by_cases hb:b=a
   ·have z':=(if_pos hb).symm.trans z
    cases z'
    subst hb
    exact ⟨ha,by rw[cO];exact hl,vs,_,rv,ha⟩
   ·have z':=(if_neg hb).symm.trans z
    cases z'
  ·by_cases hb:b=a
   ·exact hb
   ·exact absurd (if_neg hb) z
theorem Afz{l:iJ}{n k:Nat}{q:aW}{loose:List Str}{XP:(Str->Option aC)->Heap->Prop}{YP:bG->Heap->Prop}{d:DefRec}{K:kB->aA}{CX:bG->CXT}{sp:bG->Sp}{x:Str}
  (hn:l.most=some n) (hn2:n<=sizeLine) (hdf:d.params.defaults=[]) (hr:Room k callerA)
  (hY:∀ (w:bG) (h:Heap),YP w h->(K w.params).In h)
  (F:∀ (w:bG) (mg:Str->Option aC) (fa:Addr) (h:Heap),(K w.params).In h->h.Ns aI mg->mg d.name=some (.ref fa) ->
   ∃ fd:bE,(∀ (s:aG) (u:aC),kS s fd ⟨[u],[]⟩ [(x,u)]) /\
    ∀ base:Heap,(K w.params).In base->base.Ns aI mg->FnOk l.prog w (K w.params) mg base (CX w) k fa fd [x] (sp w))
  (hsp:∀ (w:bG) (H:Hp) (a:Addr) (ns:List Int),ns.length<=n->Afn H->SqL (K w.params) H a (ns.map V.int)->sp w [.ref a] H (fun v _=>v = .bl true) fun _ _ _=>False)
  (hCX:∀ (w:bG) (H:Hp) (s:aG) (e:aC) (s':aG),CX w [] H s (fun _ _ _=>False) e s'->False) :
  pO q loose XP YP l.row.toRowW d [] (fun f vs=>pE f vs):=by
 refine Att.R8 hn hdf fun w s₀ s₁ mg mb fa o pm cd doc a vs ns G Y ho hd hcd hmg hobj hints hlen hg=>?_
 have KX:=hY w _ Y
 obtain ⟨fd,hb,hF⟩:=F w mg fa _ KX G.T.g hmg
 exact Ab8 KX G.T.g G.T.b G.T.builtins G.T.nolimit hg hobj hints (cF hlen hn2) hr hF hb (fun H hO hS=>hsp w H a ns hlen hO hS) fun H e s'=>hCX w H s₁ e s'
noncomputable def Ai(s:Stmt)(j:Nat):Stmt:=match s with
 | .ClassDef _ _ _ body _ _ _ _ _ _ _=>body.getD j (.Pass ⟨0,0,0,0⟩)
 | _=>.Pass ⟨0,0,0,0⟩
noncomputable def Aq(s:Stmt):Arguments:=match s with
 | .FunctionDef _ a _ _ _ _ _ _ _ _=>a
 | _=>{ posonlyargs:=[],args:=[],vararg:=none,kwonlyargs:=[],kw_defaults:=[],kwarg:=none,defaults:=[] }
noncomputable def Ao(s:Stmt):List Stmt:=match s with
 | .FunctionDef _ _ b _ _ _ _ _ _ _=>b
 | _=>[]
noncomputable def Af(s:Stmt):gR:=match s with
 | .FunctionDef _ _ _ _ _ _ sc _ _ _=>sc
 | _=>{ kind:=.function,names:=[],isGenerator:=false,isCoroutine:=false }
abbrev CX0:CXT:=fun _ _ _ _ _ _=>False
abbrev E0:XK:=fun _ _ _=>False
theorem Sw{X:Cx}:Gi CX0 X E0:=fun _ _ _ _ _ _ _ h=>h.elim
inductive FunE(K:aA)(x qual:Str)(st:Stmt)(f:Addr)(fd:bE):Prop
 | mk (oc:aC) (od:Option Addr) (kV doc pm:aC) (an:Option Addr) (cdv ct:aC) (osl:Array (Option aC)) (h0:fd=bA x qual (Aq st) (Ao st) (Af st) .none kV doc pm an cdv ct) (h1:K.lookup f=some ⟨oc,od,.func fd,osl⟩) (h2:bC K cdv qual=true):FunE K x qual st f fd
structure Fun(K:aA)(x qual:Str)(st:Stmt)(f:Addr)(fd:bE):Prop where
 ex:FunE K x qual st f fd
 kp:aT K (.ref f)=true
section
variable {P:aW}{w:bG}{K:aA}{mg:Str->Option aC}{base:Heap}
theorem Fun.ok{x qual:Str}{st:Stmt}{f:Addr}{fd:bE}{N ps:List Str}{k:Nat}{sp:Sp}(F:Fun K x qual st f fd)(S:FnScope N ps (Af st))(len:∀ vs H Q E,sp vs H Q E->vs.length=ps.length)
  (hbody:∀ (cdv:aC) (A:bZ) (outer:List Env) (s:aG) (H:Hp) (vs:List V) (Q:VK) (E:XK),Room k (A.deeper (envOfC qual (Af st) s.heap.objs.size f cdv))->sp vs H Q E ->
   ∃ t,PSs (Us CX0 P w K mg base N qual (Af st) f cdv A outer s H E).nox (Ao st) t/\t { nx:=fun _ H'=>Q .non H',rt:=Q } (start N vs) H):FnOk P w K mg base CX0 (k+1) f fd ps sp:=by
 obtain ⟨oc,od,kV,doc,pm,an,cdv,ct,osl,rfl,lk,hcd⟩:=F.ex
 refine Ajt lk hcd S len fun A outer s H vs Q E hr hsp=>?_
 obtain ⟨t,h,q⟩:=hbody cdv A outer s H vs Q E hr hsp
 exact ⟨t,h.nox,q⟩
theorem Fun.binds{x qual:Str}{st:Stmt}{f:Addr}{fd:bE}{ps:List Str}(F:Fun K x qual st f fd)
  (h:∀ (kV doc pm:aC) (an:Option Addr) (cdv ct:aC) (us:List aC),us.length=ps.length->bindArgs (bA x qual (Aq st) (Ao st) (Af st) .none kV doc pm an cdv ct) ⟨us,[]⟩=pure (ps.zip us)):Binds K fd ps []:=by
 obtain ⟨oc,od,kV,doc,pm,an,cdv,ct,osl,rfl,lk,hcd⟩:=F.ex
 exact .all (h kV doc pm an cdv ct)
theorem Bj{x qual:Str}{st:Stmt}{f:Addr}{oc:aC}{od an:Option Addr}{osl:Array (Option aC)}{kV doc pm cdv ct:aC}(l:K.lookup f=some ⟨oc,od,.func (bA x qual (Aq st) (Ao st) (Af st) .none kV doc pm an cdv ct),osl⟩)
  (c:bC K cdv qual=true) (k:aT K (.ref f)=true):Fun K x qual st f (bA x qual (Aq st) (Ao st) (Af st) .none kV doc pm an cdv ct):=⟨⟨oc,od,kV,doc,pm,an,cdv,ct,osl,rfl,l,c⟩,k⟩
end
theorem Yd{n:Nat}(h:n<=1000):n < sizeLine:=nA h (by decide)
section
variable {X:Cx}
end
theorem R3{A B:Prop}(h:B):if false=true then A else B:=by
 rw[if_neg cN]
 exact h
theorem Sz{A B:Prop}(h:A):if true=true then A else B:=by
 rw[if_pos rfl]
 exact h
noncomputable def Same(H H':Hp):Prop:=∀ b o,H b=some o->H' b=some o
theorem Same.refl(H:Hp):Same H H:=fun _ _ h=>h
theorem Same.trans{H H1 H2:Hp}(a:Same H H1)(b:Same H1 H2):Same H H2:=fun c o h=>b c o (a c o h)
theorem Same.free{H H':Hp}(e:Same H H'){l:Addr}(h:H' l=qE):H l=qE:=by
 cases q:H l with
 | none=>rfl
 | some o=>
  rw[e l o q] at h
  cases h
theorem Same.seq{K:aA}{H H':Hp}{a:Addr}{xs:List V}(e:Same H H')(h:SqL K H a xs):SqL K H' a xs:=by
 rcases h with (h | ⟨o,h⟩) | h
 ·exact .inl (.inl (e _ _ h))
 ·exact .inl (.inr ⟨o,e _ _ h⟩)
 ·exact .inr h
section
variable {κ:Type}[DecidableEq κ]
noncomputable def Hq(kvs:List (κ×V))(k:κ):Option V:=(kvs.find? fun kv=>decide (kv.1=k)).map (·.2)
noncomputable def Iv(kvs:List (κ×V))(k:κ)(v:V):List (κ×V):=
 if (kvs.any fun kv=>decide (kv.1=k))=true then kvs.map (fun kv=>if kv.1=k then (kv.1,v) else kv) else kvs++[(k,v)]
noncomputable def Vo(kvs:List (κ×V))(k:κ):List (κ×V):=kvs.filter fun kv=>decide (kv.1≠k)
theorem Nc{p:κ×V}{r:List (κ×V)}{k:κ}(e:p.1=k):Hq (p::r) k=some p.2:=by simp[Hq,dU,e]
theorem Mv{p:κ×V}{r:List (κ×V)}{k:κ}(e:¬ p.1=k):Hq (p::r) k=Hq r k:=by simp[Hq,dU,e]
theorem Ml(k:κ):∀ kvs:List (κ×V),(kvs.any fun kv=>decide (kv.1=k))=(Hq kvs k).isSome
 | []=>rfl
 | p::r=>by
  rw[dM]
  by_cases e:p.1=k
  ·simp only[Nc e,decide_eq_true e,Bool.true_or,Option.isSome_some]
  ·rw[Mv e,decide_eq_false e,pP];exact Ml k r
theorem Kx(kvs:List (κ×V))(k:κ)(v:V):(Iv kvs k v).length<=kvs.length+1:=by
 unfold Iv
 split
 ·rw[cO];omega
 ·rw[eF,bB,bU];omega
theorem RelO.isSome_eq{o:Option V}{u:Option aC}(r:RelO o u):o.isSome=u.isSome:=by
 cases o with
 | none=>cases u with
  | none=>rfl
  | some _=>exact (show False from r).elim
 | some _=>cases u with
  | none=>exact (show False from r).elim
  | some _=>rfl
theorem RelO.getD{o:Option V}{u:Option aC}{d:V}{d':aC}(r:RelO o u)(rd:RelV d d'):RelV (o.getD d) (u.getD d'):=by
 cases o with
 | none=>cases u with
  | none=>exact rd
  | some _=>exact (show False from r).elim
 | some _=>cases u with
  | none=>exact (show False from r).elim
  | some _=>exact r
theorem KV.val{kvs:List (κ×V)}{vs:List (κ×aC)}(r:KV kvs vs)(k:κ):RelO (Hq kvs k) (valueAt vs k):=by
 unfold KV at r
 induction r with
 | nil=>exact fQ
 | @cons p q ps qs h t ih=>
  obtain ⟨h1,h2⟩:=h
  by_cases e:p.1=k
  ·have e':q.1=k:=h1.symm.trans e
   have b:valueAt (q::qs) k=some q.2:=by simp[valueAt,dU,e']
   rw[Nc e,b];exact h2
  ·have e':¬ q.1=k:=fun z=>e (h1.trans z)
   have b:valueAt (q::qs) k=valueAt qs k:=by simp[valueAt,dU,e']
   rw[Mv e,b];exact ih
theorem KV.any{kvs:List (κ×V)}{vs:List (κ×aC)}(r:KV kvs vs)(k:κ):(kvs.any fun kv=>decide (kv.1=k))=vs.any fun kv=>decide (kv.1=k):=by
 unfold KV at r
 induction r with
 | nil=>rfl
 | cons h t ih=>rw[dM,dM,ih,h.1]
theorem KV.repl{kvs:List (κ×V)}{vs:List (κ×aC)}(r:KV kvs vs)(k:κ){y:V}{u:aC}(ry:RelV y u) :
  KV (kvs.map fun kv=>if kv.1=k then (kv.1,y) else kv) (vs.map fun kv=>if kv.1=k then (kv.1,u) else kv):=by
 unfold KV at r ⊢
 induction r with
 | nil=>exact .nil
 | @cons p q ps qs h t ih=>
  rw[aM,aM]
  refine .cons ?_ ih
  obtain ⟨h1,h2⟩:=h
  by_cases e:p.1=k
  ·rw[if_pos e,if_pos (h1.symm.trans e)];exact ⟨h1,ry⟩
  ·rw[if_neg e,if_neg (fun z=>e (h1.trans z))];exact ⟨h1,h2⟩
theorem KV.put{kvs:List (κ×V)}{vs:List (κ×aC)}(r:KV kvs vs)(k:κ){y:V}{u:aC}(ry:RelV y u):KV (Iv kvs k y) (stored vs k u):=by
 unfold Iv stored
 rw[r.any k]
 by_cases e:(vs.any fun kv=>decide (kv.1=k))=true
 ·rw[if_pos e,if_pos e];exact r.repl k ry
 ·rw[if_neg e,if_neg e];exact qF r ⟨rfl,ry⟩
theorem KV.drop{kvs:List (κ×V)}{vs:List (κ×aC)}(r:KV kvs vs)(k:κ):KV (Vo kvs k) (without vs k):=by
 unfold KV at r ⊢
 unfold Vo without
 induction r with
 | nil=>exact .nil
 | @cons p q ps qs h t ih=>
  obtain ⟨h1,h2⟩:=h
  rw[iB,iB]
  by_cases e:p.1=k
  ·have a:¬ decide (p.1≠k)=true:=by simp[e]
   have b:¬ decide (q.1≠k)=true:=by simp[h1.symm.trans e]
   rw[if_neg a,if_neg b];exact ih
  ·have e':¬ q.1=k:=fun z=>e (h1.trans z)
   have a:decide (p.1≠k)=true:=by simp[e]
   have b:decide (q.1≠k)=true:=by simp[e']
   rw[if_pos a,if_pos b];exact .cons ⟨h1,h2⟩ ih
theorem KV.keys{kvs:List (κ×V)}{vs:List (κ×aC)}(r:KV kvs vs):kvs.map (·.1)=vs.map (·.1):=by
 unfold KV at r
 induction r with
 | nil=>rfl
 | cons h t ih=>rw[aM,aM,ih,h.1]
theorem KV.length{kvs:List (κ×V)}{vs:List (κ×aC)}(r:KV kvs vs):kvs.length=vs.length:=kA r
end
theorem W5{P:aW}{w:bG}{k:Key}{u:aC}(r:RelV (kV k) u):(Bg P w).is k u=true:=by
 cases k with
 | inl i=>obtain ⟨t,e⟩:=(show ∃ t,u=nW i t from r);subst e;exact Rb P w i t
 | inr x=>obtain ⟨t,e⟩:=(show ∃ t,u=kF x t from r);subst e;exact Gg P w x t
theorem Pa{P:aW}{w:bG}:∀ {ks:List Key} {us:List aC},Vals (ks.map kV) us->ItemsAre (Bg P w) ks us
 | [],_,r=>by rw[bW] at r;cases r;exact .nil
 | k::ks,_,r=>by
  rw[aM] at r
  cases r with
  | cons h t=>exact .cons (W5 h) (Pa t)
abbrev KT(H:Hp):List (List Key×V)->List (List Key×Addr×aC)->Prop:=pB fun p q=>p.1=q.1/\H q.2.1=some (.tup (p.1.map kV))/\RelV p.2 q.2.2
theorem KT.val{H:Hp}{kvs:List (List Key×V)}{xs:List (List Key×Addr×aC)}(r:KT H kvs xs)(k:List Key):RelO (Hq kvs k) ((atKey xs k).map (·.2)):=by
 induction r with
 | nil=>exact fQ
 | @cons p q ps qs h t ih=>
  obtain ⟨h1,_,h2⟩:=h
  by_cases e:p.1=k
  ·have e':q.1=k:=h1.symm.trans e
   have b:atKey (q::qs) k=some q.2:=by simp[atKey,dU,e']
   rw[Nc e,b];exact h2
  ·have e':¬ q.1=k:=fun z=>e (h1.trans z)
   have b:atKey (q::qs) k=atKey qs k:=by simp[atKey,dU,e']
   rw[Mv e,b];exact ih
theorem KT.repl{H:Hp}{kvs:List (List Key×V)}{xs:List (List Key×Addr×aC)}(r:KT H kvs xs)(k:List Key){y:V}{u:aC}(ry:RelV y u) :
  KT H (kvs.map fun kv=>if kv.1=k then (kv.1,y) else kv) (xs.map (putAt k u)):=by
 induction r with
 | nil=>exact .nil
 | @cons p q ps qs h t ih=>
  rw[aM,aM]
  refine .cons ?_ ih
  obtain ⟨h1,h2,h3⟩:=h
  unfold putAt
  by_cases e:p.1=k
  ·rw[if_pos e,if_pos (h1.symm.trans e)];exact ⟨h1,h2,ry⟩
  ·rw[if_neg e,if_neg (fun z=>e (h1.trans z))];exact ⟨h1,h2,h3⟩
theorem KT.put{H:Hp}{kvs:List (List Key×V)}{xs:List (List Key×Addr×aC)}(r:KT H kvs xs)(k:List Key){b:Addr}{y:V}{u:aC}(hb:H b=some (.tup (k.map kV)))(ry:RelV y u) :
  KT H (Iv kvs k y) (storedH xs k b u):=by
 have e:(kvs.any fun kv=>decide (kv.1=k))=(atKey xs k).isSome:=by
  rw[Ml,(r.val k).isSome_eq,gZ]
 unfold Iv storedH
 rw[e]
 by_cases q:(atKey xs k).isSome=true
 ·rw[if_pos q,if_pos q];exact r.repl k ry
 ·rw[if_neg q,if_neg q];exact qF r ⟨rfl,hb,ry⟩
theorem KT.keeps{H H':Hp}{kvs:List (List Key×V)}{xs:List (List Key×Addr×aC)}(r:KT H kvs xs)(ht:∀ b ys,H b=some (.tup ys)->H' b=some (.tup ys)):KT H' kvs xs:=
 Paired.mapP r fun _ _ z=>⟨z.1,ht _ _ z.2.1,z.2.2⟩
section
variable {P:aW}{w:bG}{H:Hp}{h:Heap}{a:Addr}
theorem Agt{u:HO}(ok:HOk P w H h)(e:Rd H a u):ObjOk P w H h a u:=e.ok ok
theorem Adg{kvs:List (Key×V)}(ok:HOk P w H h)(e:Rd H a (.dK kvs)):kvs.length<=sizeLine/\(a == sysModules)=false/\∃ vs,KV kvs vs/\h.DictOf (Bg P w) a vs:=
 show ObjOk P w H h a (.dK kvs) from Agt ok e
theorem Acj{kvs:List (Key×V)}(ok:HOk P w H h)(e:H a=some (.dK kvs)):kvs.length<=sizeLine/\(a == sysModules)=false/\∃ vs,KV kvs vs/\h.DictOf (Bg P w) a vs:=Adg ok (.inl e)
theorem U0{ks:List Key}(ok:HOk P w H h)(e:H a=some (.tup (ks.map kV))):(tupleKind (Bg P w)).is h ks a:=by
 obtain ⟨_,its,r,o,h1,h2,n,h3⟩:=(show ObjOk P w H h a (.tup (ks.map kV)) from ok a _ e)
 exact ⟨o,its.toArray,n,h1,(oM h2).1,h3,by simpa using Pa r⟩
theorem Ac4{kvs:List (List Key×V)}(ok:HOk P w H h)(e:Rd H a (.dT kvs)):kvs.length<=sizeLine/\(a == sysModules)=false /\
  ∃ xs,KT H kvs xs/\h.DictOfH (tupleKind (Bg P w)) a xs:=by
 obtain ⟨z,y,xs,r,o,es,ep,h1,h2,h3,h4,h5⟩:=(show ObjOk P w H h a (.dT kvs) from Agt ok e)
 refine ⟨z,y,xs,r,o,es,ep,h1,h2,h3,h4,fun x hx=>?_,h5⟩
 have all:∀ {l:List (List Key×V)} {m:List (List Key×Addr×aC)},KT H l m->∀ x∈m,(tupleKind (Bg P w)).is h x.1 x.2.1:=by
  intro l m q
  induction q with
  | nil=>intro x hx;exact nomatch hx
  | @cons p q ps qs hq t ih=>
   intro x hx
   rcases bV.mp hx with e | hx
   ·subst e
    exact U0 ok (by rw[<- hq.1];exact hq.2.1)
   ·exact ih x hx
 exact all r x hx
theorem Ajy{kvs:List (List Key×V)}(ok:HOk P w H h)(e:H a=some (.dT kvs)):kvs.length<=sizeLine/\(a == sysModules)=false /\
  ∃ xs,KT H kvs xs/\h.DictOfH (tupleKind (Bg P w)) a xs:=Ac4 ok (.inl e)
end
noncomputable def DGet(H:Hp)(a:Addr)(y:V)(r:Option V):Prop:=
 (∃ kvs k,Rd H a (.dK kvs)/\y=kV k/\r=Hq kvs k)\/∃ kvs k b,Rd H a (.dT kvs)/\y = .ref b/\H b=some (.tup (k.map kV))/\r=Hq kvs k
noncomputable def DPut(H:Hp)(a:Addr)(y v:V)(H':Hp):Prop:=
 (∃ kvs k,H a=some (.dK kvs)/\y=kV k/\kvs.length < sizeLine/\H'=upd H a (.dK (Iv kvs k v))) \/
 ∃ kvs k b,H a=some (.dT kvs)/\y = .ref b/\H b=some (.tup (k.map kV))/\kvs.length < sizeLine/\H'=upd H a (.dT (Iv kvs k v))
theorem DGet.k{H:Hp}{a:Addr}{kvs:List (Key×V)}{k:Key}(e:H a=some (.dK kvs)):DGet H a (kV k) (Hq kvs k):=.inl ⟨kvs,k,.inl e,rfl,rfl⟩
theorem DGet.t{H:Hp}{a b:Addr}{kvs:List (List Key×V)}{k:List Key}(e:H a=some (.dT kvs))(eb:H b=some (.tup (k.map kV))):DGet H a (.ref b) (Hq kvs k):=.inr ⟨kvs,k,b,.inl e,rfl,eb,rfl⟩
theorem DPut.k{H:Hp}{a:Addr}{kvs:List (Key×V)}{k:Key}{v:V}(e:H a=some (.dK kvs))(hl:kvs.length < sizeLine):DPut H a (kV k) v (upd H a (.dK (Iv kvs k v))):=.inl ⟨kvs,k,e,rfl,hl,rfl⟩
theorem DPut.t{H:Hp}{a b:Addr}{kvs:List (List Key×V)}{k:List Key}{v:V}(e:H a=some (.dT kvs))(eb:H b=some (.tup (k.map kV)))(hl:kvs.length < sizeLine) :
  DPut H a (.ref b) v (upd H a (.dT (Iv kvs k v))):=.inr ⟨kvs,k,b,e,rfl,eb,hl,rfl⟩
section
variable {X:Cx}{pins:List (Addr×Obj)}{σ:St}{H:Hp}{s:aG}{a:Addr}{y v:V}{u r:aC}{o:Option V}{A:bZ}{E:aC->aG->Prop}
theorem Inv.big(I:Inv X pins σ H s):sysModules < s.heap.objs.size:=by
 have h:aI < s.heap.objs.size:=(I.mod.glob.keeps I.bk).lt
 exact Nat.lt_trans (by decide) h
theorem Anb{Q:aC->aG->Prop}(hu:A.units+1 < cLine)(I:Inv X pins σ H s)(g:DGet H a y o)(ry:RelV y u)(h:∀ s',Inv X pins σ H s'->Q (.bool o.isSome) s') :
  wpAny (model X.prog X.w) A (cZ .In u (.ref a)) Q E s:=by
 rcases g with ⟨kvs,k,e,ey,l⟩ | ⟨kvs,k,b,e,ey,eb,l⟩
 ·subst ey
  obtain ⟨z,hd,vs,rel,dd⟩:=Adg I.hok e
  refine wpAny_in_of (W5 ry) hd dd.mapOf ?_
  rw[<- (rel.val k).isSome_eq,<- l]
  exact h _ (I.tok _)
 ·subst ey
  cases (show u=bH b from ry)
  obtain ⟨z,hd,xs,rel,dd⟩:=Ac4 I.hok e
  refine wpAny_in_heap (nB hu) (U0 I.hok eb) hd dd ?_
  have q:=(rel.val k).isSome_eq
  rw[gZ] at q
  rw[<- q,<- l]
  exact h _ (I.tok _)
theorem Vt{h':Heap}{t':Nat}{ob:HO}(I:Inv X pins σ H s)(mu:Mut (H a))(hs:gS a s.heap h')(he:∃ q,h'.get? a=some q)(new:ObjOk X.prog X.w (upd H a ob) h' a ob) :
  Inv X pins σ (upd H a ob) { s with heap:=h',toks:=t' }:=
 I.write (x:=a) (e:=a) mu (.inl rfl) (fun b q hb z=>(hs.2 b hb).trans z) he new
theorem Ag9{P:aW}{w:bG}{H':Hp}{h':Heap}{kvs:List (Key×V)}{vs:List (Key×aC)}(z:kvs.length<=sizeLine)(hd:(a == sysModules)=false)(rel:KV kvs vs)(dd:h'.DictOf (Bg P w) a vs) :
  ObjOk P w H' h' a (.dK kvs):=⟨z,hd,vs,rel,dd⟩
theorem Xr{H':Hp}{Q:Unit->aG->Prop}(hu:A.units+1 < cLine)(I:Inv X pins σ H s)(g:DPut H a y v H')(ry:RelV y u)(rv:RelV v r)(h:∀ s',Inv X pins σ H' s'->Q () s') :
  wpAny (model X.prog X.w) A (setItem (.ref a) u r) Q E s:=by
 rcases g with ⟨kvs,k,e,ey,l,eH⟩ | ⟨kvs,k,b,e,ey,eb,l,eH⟩
 ·subst ey eH
  obtain ⟨z,hd,vs,rel,dd⟩:=Acj I.hok e
  have hz:vs.length<=sizeLine:=by rw[<- rel.length];exact z
  have hl:(Iv kvs k v).length<=sizeLine:=by have:=Kx kvs k v;omega
  refine wpAny_setItem_pairs (hsz:=hz) (W5 ry) dd fun h' dd' hs=>h _ ?_
  have he:∃ q,h'.get? a=some q:=let ⟨q,_,_,hq,_⟩:=dd';⟨q,hq⟩
  exact Vt I (by rw[e];exact fQ) hs he (Ag9 hl hd (rel.put k rv) dd')
 ·subst ey eH
  cases (show u=bH b from ry)
  obtain ⟨z,hd,xs,rel,dd⟩:=Ajy I.hok e
  have hz:xs.length<=sizeLine:=by rw[<- kA rel];exact z
  have hl:(Iv kvs k v).length<=sizeLine:=by have:=Kx kvs k v;omega
  refine wpAny_setItem_heap (hsz:=hz) (nB hu) (U0 I.hok eb) dd fun h' dd' hs=>h _ ?_
  obtain ⟨q,es,ep,hq,h2,h3,h4,_,h5⟩:=dd'
  refine Vt I (by rw[e];exact fQ) hs ⟨q,hq⟩ ⟨hl,hd,_,(rel.put k eb rv).keeps fun c ys ec=>?_,q,es,ep,hq,h2,h3,h4,h5⟩
  rw[Ap (Y6 ec e (fun z=>nomatch z))]
  exact ec
end
section
variable {X:Cx}{pins:List (Addr×Obj)}{σ:St}{H:Hp}{s:aG}{a:Addr}{kvs:List (Key×V)}{k:Key}{u:aC}{A:bZ}{E:aC->aG->Prop}
end
noncomputable def Aj5(td ty tv:TE):TS:=fun D σ H=>tv σ H fun v H1=>td σ H1 fun x H2=>ty σ H2 fun y H3=>∃ a H4,x = .ref a/\DPut H3 a y v H4/\D.nx σ H4
section
variable {X:Cx}{o i e value:Expr}{pos pos' tpos:Pos}{td ty tv:TE}
theorem Ad1(hu:X.A.units+1 < cLine)(ho:PE X o td)(hi:PE X i ty)(hv:PE X value tv)(hs:swapsWith value (some (.Subscript o i pos')) pos.line X.env=pure false) :
  PS X (.Assign [.Subscript o i pos'] value pos) (Aj5 td ty tv):=by
 intro pins s σ H D I h
 refine wpAny_Assign_Subscript (thn (hv pins s σ H _ I h) fun r s1 zz=>zz.elim fun v H1 I1 rv q1=>thn (ho pins s1 σ H1 _ I1 q1) fun u s2 zz=>zz.elim fun x H2 I2 rx q2=>thn (hi pins s2 σ H2 _ I2 q2) fun iv s3 zz=>zz.elim fun y H3 I3 ry zq=>?_) hs
 obtain ⟨a,H4,ex,g,q3⟩:=zq
 subst ex
 obtain rfl:u=bH a:=rx
 exact Xr hu I3 g ry rv fun s4 I4=>⟨σ,H4,I4,q3⟩
end
theorem Aa9{P:aW}{w:bG}{H:Hp}(h:Heap)(hb:sysModules < h.objs.size):ObjOk P w H (h.push { cls:=.type "dict",data:=.dict #[] }) h.objs.size (.dK []):=
 ⟨jV _,beq_eq_false_iff_ne.mpr (eY (bR hb)),[],.nil,Heap.DictOf.new h⟩
noncomputable def Aiw:TE:=fun _ H Q=>∀ p,H p=none->Q (.ref p) (upd H p (.dK []))
section
variable {X:Cx}{pos:Pos}
theorem Aa2:PE X (.Dict [] [] pos) Aiw:=fun pins s σ H Q I h=>
 wpAny_Dict_empty ⟨.ref s.heap.objs.size,_,I.laid (a:=s.heap.objs.size) (o:=.dK []) (t':=s.toks) (fun _ _ q=>aD _ q) (aZ _) (Aa9 s.heap I.big),rfl,h _ (I.hok.fresh (aZ _))⟩
end
structure M1(X:Cx)(o:Expr)(m:Str)(apos:Pos)(e:Expr)(cpos:Pos):Prop where
 base:attributeBase o m X.env (eval o X.env)=eval o X.env
 few:((backTo cpos (aL [e] X.env)).all (fun x=>!x.1)&&(backToKw cpos (keywordEach [] X.env)).all (fun x=>x.1.isSome)
  && decide (([e]:List Expr).length+([]:List eZ).length+(if ([]:List eZ).isEmpty then 0 else 1) < 30))=true
 line:(apos.endLine == cpos.line)=true
 trees:backTo cpos (aL [e] X.env)=[(false,eval e X.env)]
structure M2(X:Cx)(o:Expr)(m:Str)(apos:Pos)(e f:Expr)(cpos:Pos):Prop where
 base:attributeBase o m X.env (eval o X.env)=eval o X.env
 few:((backTo cpos (aL [e,f] X.env)).all (fun x=>!x.1)&&(backToKw cpos (keywordEach [] X.env)).all (fun x=>x.1.isSome)
  && decide (([e,f]:List Expr).length+([]:List eZ).length+(if ([]:List eZ).isEmpty then 0 else 1) < 30))=true
 line:(apos.endLine == cpos.line)=true
 trees:backTo cpos (aL [e,f] X.env)=[(false,eval e X.env),(false,eval f X.env)]
noncomputable def IsD(H:Hp)(a:Addr):Prop:=(∃ kvs,Rd H a (.dK kvs))\/∃ kvs,Rd H a (.dT kvs)
theorem Ain{X:Cx}{pins:List (Addr×Obj)}{σ:St}{H:Hp}{s:aG}{a:Addr}(I:Inv X pins σ H s)(d:IsD H a) :
  s.TypeIs (.ref a) "dict" /\ (∀ b,bH a = .ref b->∃ ob,s.heap.get? b=some ob/\ob.dict=none)/\(a == sysModules)=false:=by
 rcases d with ⟨kvs,e⟩ | ⟨kvs,e⟩
 ·obtain ⟨_,hd,vs,_,dd⟩:=Adg I.hok e
  refine ⟨dd.typeIs,fun b q=>?_,hd⟩
  cases q
  obtain ⟨ob,_,_,h1,h2,_⟩:=dd
  exact ⟨ob,h1,h2.2.1⟩
 ·obtain ⟨_,hd,xs,_,dd⟩:=Ac4 I.hok e
  refine ⟨dd.typeIs,fun b q=>?_,hd⟩
  cases q
  obtain ⟨ob,_,_,h1,h2,_⟩:=dd
  exact ⟨ob,h1,h2.2.1⟩
section
variable {X:Cx}{pins:List (Addr×Obj)}{σ:St}{H:Hp}{s:aG}{a:Addr}{y d:V}{u r:aC}{o:Option V}{A:bZ}{E:aC->aG->Prop}
end
section
variable {X:Cx}{o e f:Expr}{apos cpos:Pos}{td ty tx:TE}
end
section
variable {X:Cx}{pins:List (Addr×Obj)}{σ:St}{H:Hp}{s:aG}{a:Addr}{kvs:List (Key×V)}{A:bZ}{E:aC->aG->Prop}
end
section
variable {X:Cx}{pins:List (Addr×Obj)}{σ:St}{H:Hp}{s:aG}{a:Addr}{y:V}{u:aC}{A:bZ}{E:aC->aG->Prop}
end
end L2
namespace MR
open PySem PySem.Spec PyProof.Rows L2
inductive U where
 | non | bl (b:Bool) | int (i:Int) | str (x:Str) | tup (l:List U) | ref (n:Nat)
inductive HU where
 | lst (xs:List U) | ro (xs:List U) | dic (kvs:List (Key×U)) | rod (kvs:List (Key×U)) | ins (C:Str) (fs:List (Str×U)) | exc (C:Str) (fr:Bool) (fs:List (Str×U))
noncomputable abbrev UH:=List HU
noncomputable abbrev UE:=List (Option U)
section
variable (K:aA)(H:Hp)(α:List Addr)
mutual
noncomputable def RepU:U->V->Prop
 | .non,v=>v = .non
 | .bl b,v=>v = .bl b
 | .int i,v=>v = .int i
 | .str x,v=>v = .str x
 | .tup l,v=>∃ a xs,v = .ref a/\SqT K H a xs/\RepL l xs
 | .ref n,v=>∃ a,α[n]? = some a/\v = .ref a
noncomputable def RepL:List U->List V->Prop
 | [],xs=>xs=[]
 | u::l,xs=>∃ x r,xs=x::r/\RepU u x/\RepL l r
end
end
noncomputable def Stay(H H':Hp):Prop:=(∀ b xs,H b=some (.tup xs)->H' b=some (.tup xs))/\∀ b o u,H b=some (.frz o u)->H' b=some (.frz o u)
theorem Stay.refl(H:Hp):Stay H H:=⟨fun _ _ q=>q,fun _ _ _ q=>q⟩
theorem Stay.trans{H H1 H2:Hp}(a:Stay H H1)(b:Stay H1 H2):Stay H H2:=⟨fun c xs q=>b.1 c xs (a.1 c xs q),fun c o u q=>b.2 c o u (a.2 c o u q)⟩
theorem Stay.sqT{K:aA}{H H':Hp}{a:Addr}{xs:List V}(e:Stay H H')(h:SqT K H a xs):SqT K H' a xs:=by
 rcases h with (h | ⟨o,h⟩) | h
 ·exact .inl (.inl (e.1 _ _ h))
 ·exact .inl (.inr ⟨o,e.2 _ _ _ h⟩)
 ·exact .inr h
theorem Stay.new{H:Hp}{p:Addr}(h:H p=none)(o:HO):Stay H (upd H p o):=⟨fun b u q=>by rw[Ap (Au q h)];exact q,fun b o u q=>by rw[Ap (Au q h)];exact q⟩
theorem Stay.write{H:Hp}{p:Addr}{o:HO}(h:H p=some o)(m:Mut (some o))(o':HO):Stay H (upd H p o'):=
 ⟨fun b u q=>by rw[Ap (Y6 q h (fun z=>by subst z;exact m))];exact q,fun b w u q=>by rw[Ap (Y6 q h (fun z=>by subst z;exact m))];exact q⟩
structure Gr(H:Hp)(α:List Addr)(H':Hp)(α':List Addr):Prop where
 pre:∃ β,α' = α ++ β
 st:Stay H H'
theorem Gr.refl(H:Hp)(α:List Addr):Gr H α H α:=⟨⟨[],by simp⟩,.refl H⟩
theorem Gr.trans{H H1 H2:Hp}{α α1 α2:List Addr}(a:Gr H α H1 α1)(b:Gr H1 α1 H2 α2):Gr H α H2 α2:=by
 obtain ⟨⟨β,e⟩,s⟩:=a
 obtain ⟨⟨γ,e'⟩,s'⟩:=b
 exact ⟨⟨β ++ γ,by rw[e',e,cR]⟩,s.trans s'⟩
theorem Gr.at{H H':Hp}{α α':List Addr}(g:Gr H α H' α'){n:Nat}{a:Addr}(h:α[n]? = some a):α'[n]? = some a:=by
 obtain ⟨β,e⟩:=g.pre
 have hn:n < α.length:=(aX.mp h).1
 rw[e,aY hn];exact h
section
variable {K:aA}{H H':Hp}{α α':List Addr}
mutual
theorem RepU.mono(g:Gr H α H' α'):∀ (u:U) (v:V),RepU K H α u v->RepU K H' α' u v
 | .non,_,h=>h
 | .bl _,_,h=>h
 | .int _,_,h=>h
 | .str _,_,h=>h
 | .tup l,v,h=>by
  unfold RepU at h ⊢
  obtain ⟨a,xs,e,s,r⟩:=h
  exact ⟨a,xs,e,g.st.sqT s,RepL.mono g l xs r⟩
 | .ref n,v,h=>by
  unfold RepU at h ⊢
  obtain ⟨a,e,q⟩:=h
  exact ⟨a,g.at e,q⟩
theorem RepL.mono(g:Gr H α H' α'):∀ (l:List U) (xs:List V),RepL K H α l xs->RepL K H' α' l xs
 | [],xs,h=>h
 | u::l,xs,h=>by
  unfold RepL at h ⊢
  obtain ⟨x,r,e,h1,h2⟩:=h
  exact ⟨x,r,e,RepU.mono g u x h1,RepL.mono g l r h2⟩
end
theorem RepL.length:∀ {l:List U} {xs:List V},RepL K H α l xs->l.length=xs.length
 | [],xs,h=>by unfold RepL at h;subst h;rfl
 | u::l,xs,h=>by
  unfold RepL at h
  obtain ⟨x,r,e,_,h2⟩:=h
  subst e
  simp[RepL.length h2]
theorem RepL.get:∀ {l:List U} {xs:List V} {i:Nat} {u:U},RepL K H α l xs->l[i]? = some u->∃ x,xs[i]? = some x/\RepU K H α u x
 | [],xs,i,u,h,e=>by simp at e
 | w::l,xs,i,u,h,e=>by
  unfold RepL at h
  obtain ⟨x,r,e',h1,h2⟩:=h
  subst e'
  cases i with
  | zero=>simp at e;subst e;exact ⟨x,rfl,h1⟩
  | succ i=>simpa using RepL.get (i:=i) h2 (by simpa using e)
theorem RepL.nil:RepL K H α [] []:=by unfold RepL;rfl
theorem RepL.cons{u:U}{l:List U}{x:V}{xs:List V}(h:RepU K H α u x)(t:RepL K H α l xs):RepL K H α (u::l) (x::xs):=by
 unfold RepL;exact ⟨x,xs,rfl,h,t⟩
theorem RepL.append:∀ {l l':List U} {xs ys:List V},RepL K H α l xs->RepL K H α l' ys->RepL K H α (l++l') (xs++ys)
 | [],l',xs,ys,h,t=>by unfold RepL at h;subst h;exact t
 | u::l,l',xs,ys,h,t=>by
  unfold RepL at h
  obtain ⟨x,r,e,h1,h2⟩:=h
  subst e
  exact .cons h1 (RepL.append h2 t)
theorem RepL.take:∀ {l:List U} {xs:List V} (n:Nat),RepL K H α l xs->RepL K H α (l.take n) (xs.take n)
 | [],xs,n,h=>by unfold RepL at h;subst h;simp[RepL.nil]
 | u::l,xs,0,h=>by simp[RepL.nil]
 | u::l,xs,n+1,h=>by
  unfold RepL at h
  obtain ⟨x,r,e,h1,h2⟩:=h
  subst e
  exact .cons h1 (RepL.take n h2)
theorem RepL.drop:∀ {l:List U} {xs:List V} (n:Nat),RepL K H α l xs->RepL K H α (l.drop n) (xs.drop n)
 | [],xs,n,h=>by unfold RepL at h;subst h;simp[RepL.nil]
 | u::l,xs,0,h=>h
 | u::l,xs,n+1,h=>by
  unfold RepL at h
  obtain ⟨x,r,e,h1,h2⟩:=h
  subst e
  exact RepL.drop n h2
theorem RepL.set{u:U}{x:V}(q:RepU K H α u x):∀ {l:List U} {xs:List V} (n:Nat),RepL K H α l xs->RepL K H α (l.set n u) (xs.set n x)
 | [],xs,n,h=>by unfold RepL at h;subst h;exact .nil
 | w::l,xs,0,h=>by
  unfold RepL at h
  obtain ⟨y,r,e,h1,h2⟩:=h
  subst e
  exact .cons q h2
 | w::l,xs,n+1,h=>by
  unfold RepL at h
  obtain ⟨y,r,e,h1,h2⟩:=h
  subst e
  exact .cons h1 (RepL.set q n h2)
theorem RepL.reverse:∀ {l:List U} {xs:List V},RepL K H α l xs->RepL K H α l.reverse xs.reverse
 | [],xs,h=>by unfold RepL at h;subst h;exact .nil
 | w::l,xs,h=>by
  unfold RepL at h
  obtain ⟨y,r,e,h1,h2⟩:=h
  subst e
  rw[gY,gY]
  exact (RepL.reverse h2).append (.cons h1 .nil)
theorem RepL.ints:∀ (ns:List Int),RepL K H α (ns.map U.int) (ns.map V.int)
 | []=>.nil
 | n::r=>.cons rfl (RepL.ints r)
end
noncomputable def RO(K:aA)(H:Hp)(a:Addr)(xs:List V):Prop:=
 (∃ o,H a=some (.frz o (.lst xs)))\/∃ (o:Obj) (its:Array aC) (n:Nat),K.lookup a=some o/\o.cls = .type "list" /\ o.dict=none/\o.data = .seq its n/\its.size<=sizeLine/\Vals xs its.toList
theorem RO.sq{K:aA}{H:Hp}{a:Addr}{xs:List V}(h:RO K H a xs):SqL K H a xs:=by
 rcases h with ⟨o,h⟩ | h
 ·exact .inl (.inr ⟨o,h⟩)
 ·exact .inr h
theorem RO.stay{K:aA}{H H':Hp}{a:Addr}{xs:List V}(st:Stay H H')(h:RO K H a xs):RO K H' a xs:=by
 rcases h with ⟨o,h⟩ | h
 ·exact .inl ⟨o,st.2 _ _ _ h⟩
 ·exact .inr h
inductive ExcIs(a Ca:Addr)(dd:Option Addr)(fr:Bool)(h:Heap):Prop
 | mk (o:Obj) (vs:Array aC) (h0:h.get? a=some o) (h1:o.cls = .ref Ca) (h2:o.dict=dd) (h3:o.data = .fields vs) (h4:1 < vs.size) (h5:o.slots=#[]) (h6:(fr=true->vs[1]? = some .none)):ExcIs a Ca dd fr h
noncomputable def DictIs(H:Hp)(dd:Option Addr)(vs:List (Str×V)):Prop:=match dd with
 | none=>vs=[]
 | some dx=>vs≠[]/\∃ od,H dx=some (.frz od (.xd vs))
theorem DictIs.stay{H H':Hp}{dd:Option Addr}{vs:List (Str×V)}(st:∀ b o ws,H b=some (.frz o (.xd ws))->H' b=some (.frz o (.xd ws)))(h:DictIs H dd vs):DictIs H' dd vs:=by
 cases dd with
 | none=>exact h
 | some dx=>obtain ⟨ne,od,q⟩:=h;exact ⟨ne,od,st _ _ _ q⟩
inductive InsRep(K:aA)(H:Hp)(α:List Addr)(a:Addr)(C:Str)(fs:List (Str×U)):Prop
 | mk (Ca:_) (dx:_) (vs:_) (h0:aK K aI C=some (some (.ref Ca))) (h1:H a=some (.ins Ca dx vs)) (h2:fs.map (·.1)=vs.map (·.1)) (h3:RepL K H α (fs.map (·.2)) (vs.map (·.2))):InsRep K H α a C fs
inductive ExcRep(K:aA)(H:Hp)(α:List Addr)(a:Addr)(C:Str)(fr:Bool)(fs:List (Str×U)):Prop
 | mk (Ca:_) (dd:_) (vs:_) (h0:aK K aI C=some (some (.ref Ca))) (h1:H a=some (.ext (ExcIs a Ca dd fr))) (h2:DictIs H dd vs) (h3:fs.map (·.1)=vs.map (·.1)) (h4:RepL K H α (fs.map (·.2)) (vs.map (·.2))):ExcRep K H α a C fr fs
noncomputable def HRep(K:aA)(H:Hp)(α:List Addr)(a:Addr):HU->Prop
 | .lst us=>∃ xs,H a=some (.lst xs)/\RepL K H α us xs
 | .ro us=>∃ xs,RO K H a xs/\RepL K H α us xs
 | .dic kvs=>∃ vs,H a=some (.dK vs)/\kvs.map (·.1)=vs.map (·.1)/\RepL K H α (kvs.map (·.2)) (vs.map (·.2))
 | .rod kvs=>∃ o vs,H a=some (.frz o (.dK vs))/\kvs.map (·.1)=vs.map (·.1)/\RepL K H α (kvs.map (·.2)) (vs.map (·.2))
 | .ins C fs=>InsRep K H α a C fs
 | .exc C fr fs=>ExcRep K H α a C fr fs
noncomputable def HU.isRo:HU->Bool
 | .ro _=>true
 | _=>false
structure Abs(K:aA)(H:Hp)(α:List Addr)(L:UH):Prop where
 len:α.length=L.length
 inj:∀ (i j:Nat) (a:Addr) (o o':HU),α[i]? = some a->α[j]? = some a->L[i]? = some o->L[j]? = some o'->i=j\/o.isRo=true\/o'.isRo=true
 rep:∀ (i:Nat) (a:Addr) (o:HU),α[i]? = some a->L[i]? = some o->HRep K H α a o
theorem Abs.addr{K:aA}{H:Hp}{α:List Addr}{L:UH}(A:Abs K H α L){n:Nat}{o:HU}(h:L[n]? = some o):∃ a,α[n]? = some a/\HRep K H α a o:=by
 have hn:n < α.length:=by rw[A.len];exact (aX.mp h).1
 exact ⟨α[n],dD hn,A.rep n _ o (dD hn) h⟩
theorem HRep.other{K:aA}{H H':Hp}{α α':List Addr}{a:Addr}{o:HU}(g:Gr H α H' α')(hs:o.isRo=true\/∀ u,H a=some u->H' a=some u)(h:HRep K H α a o):HRep K H' α' a o:=by
 cases o with
 | lst us=>obtain ⟨xs,e,r⟩:=h;exact ⟨xs,(hs.resolve_left (by simp[HU.isRo])) _ e,r.mono g⟩
 | ro us=>obtain ⟨xs,e,r⟩:=h;exact ⟨xs,e.stay g.st,r.mono g⟩
 | dic kvs=>obtain ⟨vs,e,k,r⟩:=h;exact ⟨vs,(hs.resolve_left (by simp[HU.isRo])) _ e,k,r.mono g⟩
 | rod kvs=>obtain ⟨o,vs,e,k,r⟩:=h;exact ⟨o,vs,(hs.resolve_left (by simp[HU.isRo])) _ e,k,r.mono g⟩
 | ins C fs=>obtain ⟨Ca,dx,vs,n,e,k,r⟩:=h;exact ⟨Ca,dx,vs,n,(hs.resolve_left (by simp[HU.isRo])) _ e,k,r.mono g⟩
 | exc C fr fs=>obtain ⟨Ca,dd,vs,n,e,d,k,r⟩:=h;exact ⟨Ca,dd,vs,n,(hs.resolve_left (by simp[HU.isRo])) _ e,d.stay fun b o ws q=>g.st.2 b o _ q,k,r.mono g⟩
theorem HRep.some{K:aA}{H:Hp}{α:List Addr}{a:Addr}{o:HU}(h:HRep K H α a o)(n:o.isRo=false):∃ u,H a=some u:=by
 cases o with
 | lst us=>obtain ⟨xs,e,r⟩:=h;exact ⟨_,e⟩
 | ro us=>simp[HU.isRo] at n
 | dic kvs=>obtain ⟨vs,e,k,r⟩:=h;exact ⟨_,e⟩
 | rod kvs=>obtain ⟨o,vs,e,k,r⟩:=h;exact ⟨_,e⟩
 | ins C fs=>obtain ⟨Ca,dx,vs,n',e,k,r⟩:=h;exact ⟨_,e⟩
 | exc C fr fs=>obtain ⟨Ca,dd,vs,n',e,k,r⟩:=h;exact ⟨_,e⟩
theorem Abs.new{K:aA}{H:Hp}{α:List Addr}{L:UH}{p:Addr}{o:HO}{u:HU}(A:Abs K H α L)(hp:H p=none)(hr:HRep K (upd H p o) (α ++ [p]) p u) :
  Abs K (upd H p o) (α ++ [p]) (L++[u])/\Gr H α (upd H p o) (α ++ [p]):=by
 have g:Gr H α (upd H p o) (α ++ [p]):=⟨⟨[p],rfl⟩,.new hp o⟩
 have hl:=A.len
 refine ⟨⟨by simp[hl],fun i j a o1 o2 e1 e2 e3 e4=>?_,fun i a o1 e1 e2=>?_⟩,g⟩
 ·have fresh:∀ (k:Nat) (o3:HU),α[k]? = some p->L[k]? = some o3->o3.isRo=true:=fun k o3 q1 q2=>by
   cases hh:o3.isRo with
   | true=>rfl
   | false=>
    obtain ⟨u3,q⟩:=(A.rep k p o3 q1 q2).some hh
    rw[hp] at q;cases q
  by_cases hi:i < α.length
  ·rw[aY hi] at e1
   rw[aY (by omega)] at e3
   by_cases hj:j < α.length
   ·rw[aY hj] at e2
    rw[aY (by omega)] at e4
    exact A.inj i j a o1 o2 e1 e2 e3 e4
   ·rw[cL (by omega)] at e2
    have:a=p:=by
     cases hk:j - α.length with
     | zero=>rw[hk] at e2;simp at e2;exact e2.symm
     | succ k=>rw[hk] at e2;simp at e2
    subst this
    exact .inr (.inl (fresh i o1 e1 e3))
  ·rw[cL (by omega)] at e1
   have hia:a=p/\i = α.length:=by
    cases hk:i - α.length with
    | zero=>rw[hk] at e1;simp at e1;exact ⟨e1.symm,by omega⟩
    | succ k=>rw[hk] at e1;simp at e1
   obtain ⟨rfl,hi'⟩:=hia
   by_cases hj:j < α.length
   ·rw[aY hj] at e2
    rw[aY (by omega)] at e4
    exact .inr (.inr (fresh j o2 e2 e4))
   ·rw[cL (by omega)] at e2
    have:j = α.length:=by
     cases hk:j - α.length with
     | zero=>omega
     | succ k=>rw[hk] at e2;simp at e2
    exact .inl (by omega)
 ·by_cases hi:i < α.length
  ·rw[aY hi] at e1
   rw[aY (by omega)] at e2
   refine (A.rep i a o1 e1 e2).other g ?_
   exact .inr fun u3 q=>by rw[Ap (Au q hp)];exact q
  ·rw[cL (by omega)] at e1
   rw[cL (by omega)] at e2
   have h1:i - α.length=0:=by
    cases hk:i - α.length with
    | zero=>rfl
    | succ k=>rw[hk] at e1;simp at e1
   rw[h1] at e1
   rw[show i - L.length=0 by omega] at e2
   simp at e1 e2
   subst e1;subst e2
   exact hr
theorem Abs.put{K:aA}{H:Hp}{α:List Addr}{L:UH}{p:Addr}{n:Nat}{o0 o:HO}{u0 u:HU}(A:Abs K H α L)(hn:α[n]? = some p)(hL:L[n]? = some u0)(hro:u0.isRo=false)(hro':u.isRo=false)(hp:H p=some o0)(hm:Mut (some o0))(hr:HRep K (upd H p o) α p u) :
  Abs K (upd H p o) α (L.set n u)/\Gr H α (upd H p o) α:=by
 have g:Gr H α (upd H p o) α:=⟨⟨[],by simp⟩,.write hp hm o⟩
 have hl:=A.len
 have hlt:n < L.length:=(aX.mp hL).1
 have look:∀ (i:Nat) (o1:HU),(L.set n u)[i]? = some o1->∃ o2,L[i]? = some o2/\o2.isRo=o1.isRo/\(i≠n->o2=o1):=fun i o1 e=>by
  by_cases hi:n=i
  ·subst hi
   rw[cU hlt] at e
   cases e
   exact ⟨u0,hL,by rw[hro,hro'],fun z=>absurd rfl z⟩
  ·rw[cG hi] at e
   exact ⟨o1,e,rfl,fun _=>rfl⟩
 refine ⟨⟨by simp[hl],fun i j a o1 o2 e1 e2 e3 e4=>?_,fun i a o1 e1 e2=>?_⟩,g⟩
 ·obtain ⟨x1,q1,r1,_⟩:=look i o1 e3
  obtain ⟨x2,q2,r2,_⟩:=look j o2 e4
  rw[<- r1,<- r2]
  exact A.inj i j a x1 x2 e1 e2 q1 q2
 ·by_cases hi:n=i
  ·subst hi
   rw[cU hlt] at e2
   cases e2
   rw[hn] at e1;cases e1
   exact hr
  ·rw[cG hi] at e2
   refine (A.rep i a o1 e1 e2).other g ?_
   by_cases hap:a=p
   ·subst hap
    rcases A.inj i n a o1 u0 e1 hn e2 hL with z | z | z
    ·exact absurd z.symm hi
    ·exact .inl z
    ·rw[hro] at z;cases z
   ·exact .inr fun u3 q=>by rw[Ap hap];exact q
structure RepS(K:aA)(H:Hp)(α:List Addr)(δ:UE)(σ:L2.St):Prop where
 len:δ.length = σ.length
 at_:∀ (i:Nat) (u:U),δ[i]? = some (some u)->∃ v,σ[i]? = some (some v)/\RepU K H α u v
theorem RepS.mono{K:aA}{H H':Hp}{α α':List Addr}{δ:UE}{σ:L2.St}(g:Gr H α H' α')(h:RepS K H α δ σ):RepS K H' α' δ σ:=
 ⟨h.len,fun i u e=>let ⟨v,q,r⟩:=h.at_ i u e;⟨v,q,r.mono g⟩⟩
theorem RepS.set{K:aA}{H:Hp}{α:List Addr}{δ:UE}{σ:L2.St}(h:RepS K H α δ σ)(i:Nat){u:U}{v:V}(r:RepU K H α u v):RepS K H α (δ.set i (some u)) (σ.set i (some v)):=
 ⟨by simp[h.len],fun j w e=>by
  by_cases hj:i=j
  ·subst hj
   by_cases hi:i < δ.length
   ·rw[cU hi] at e
    cases e
    exact ⟨v,cU (by rw[<- h.len];exact hi),r⟩
   ·rw[List.getElem?_eq_none (by simpa using hi)] at e;cases e
  ·rw[cG hj] at e
   obtain ⟨v',q,r'⟩:=h.at_ j w e
   exact ⟨v',by rw[cG hj];exact q,r'⟩⟩
theorem RepS.start{K:aA}{H:Hp}{α:List Addr}(N:List Str){us:List U}{vs:List V}(h:RepL K H α us vs):RepS K H α (us.map some++dG (N.length - us.length) none) (start N vs):=by
 have hl:=h.length
 refine ⟨by simp[L2.start,hl],fun i u e=>?_⟩
 by_cases hi:i < us.length
 ·rw[aY (by simpa using hi),cY] at e
  cases q:us[i]? with
  | none=>rw[q] at e;simp at e
  | some w=>
   rw[q] at e
   simp at e
   subst e
   obtain ⟨x,e2,r⟩:=h.get q
   refine ⟨x,?_,r⟩
   unfold L2.start
   rw[aY (by simp;omega),cY,e2];rfl
 ·rw[cL (by simpa using hi)] at e
  have:=eQ e
  simp at this
noncomputable abbrev FE:=UE->UH->Option (U×UH)
noncomputable abbrev FT:=UE->UH->Option (Bool×UH)
noncomputable abbrev FA:=UE->UH->Option (List U×UH)
inductive lE(K:aA)(f:FE)(σ:L2.St)(H:Hp)(Q:VK):Prop
 | mk (α:List Addr) (δ:UE) (L:UH) (A:Abs K H α L) (S:RepS K H α δ σ) (u:U) (L':UH) (e:f δ L=some (u,L')) (q:∀ v H' α',Gr H α H' α'->Abs K H' α' L'->RepU K H' α' u v->Q v H'):lE K f σ H Q
inductive lT(K:aA)(f:FT)(σ:L2.St)(H:Hp)(Q:Bool->Hp->Prop):Prop
 | mk (α:List Addr) (δ:UE) (L:UH) (A:Abs K H α L) (S:RepS K H α δ σ) (b:Bool) (L':UH) (e:f δ L=some (b,L')) (q:∀ H' α',Gr H α H' α'->Abs K H' α' L'->Q b H'):lT K f σ H Q
inductive lA(K:aA)(f:FA)(σ:L2.St)(H:Hp)(Q:List V->Hp->Prop):Prop
 | mk (α:List Addr) (δ:UE) (L:UH) (A:Abs K H α L) (S:RepS K H α δ σ) (us:List U) (L':UH) (e:f δ L=some (us,L')) (q:∀ vs H' α',Gr H α H' α'->Abs K H' α' L'->RepL K H' α' us vs->Q vs H'):lA K f σ H Q
noncomputable def PEF(X:Cx)(e:Expr)(f:FE):Prop:=PE X e (lE X.K f)
noncomputable def PTF(X:Cx)(e:Expr)(f:FT):Prop:=PT X e (lT X.K f)
noncomputable def PWF(X:Cx)(e:Expr)(f:FT):Prop:=PW X e (lT X.K f)
noncomputable def PAF(X:Cx)(es:List Expr)(f:FA):Prop:=PA X es (lA X.K f)
section
variable {X:Cx}{e:Expr}{es:List Expr}
theorem PE.imp{t t':TE}(h:PE X e t)(hi:∀ σ H Q,t' σ H Q->t σ H Q):PE X e t':=fun pins s σ H Q I q=>h pins s σ H Q I (hi σ H Q q)
theorem PT.imp{t t':TT}(h:PT X e t)(hi:∀ σ H Q,t' σ H Q->t σ H Q):PT X e t':=fun pins s σ H Q I q=>h pins s σ H Q I (hi σ H Q q)
theorem PW.imp{t t':TT}(h:PW X e t)(hi:∀ σ H Q,t' σ H Q->t σ H Q):PW X e t':=fun wh pins s σ H Q I q=>h wh pins s σ H Q I (hi σ H Q q)
theorem PA.imp{t t':TA}(h:PA X es t)(hi:∀ σ H Q,t' σ H Q->t σ H Q):PA X es t':=fun pos pins s σ H Q I q=>h pos pins s σ H Q I (hi σ H Q q)
end
noncomputable def Ae(i:Nat):FE:=fun δ L=>(δ[i]?).join.map fun u=>(u,L)
noncomputable def fC(u:U):FE:=fun _ L=>some (u,L)
section
variable {X:Cx}{a b c e:Expr}{pos:Pos}
theorem Ak(i:Nat){x:Str}{pos:Pos}(hN:X.N[i]? = some x:=by rfl)(hv:Vis X.env.scope x:=by first | exact Or.inl rfl | exact pW (Or.inl rfl) | exact pW (pW rfl))
  (hd:(x == ("__debug__" : Str))=false:=by decide) (hcd:(x == ("__classdict__" : Str))=false:=by decide):PEF X (.Name x pos) (Ae i):=by
 refine PE.imp (Ah2 hN hv hd hcd) ?_
 rintro σ H Q ⟨α,δ,L,A,S,u,L',e,q⟩
 unfold Ae at e
 cases h:δ[i]? with
 | none=>rw[h] at e;simp at e
 | some o=>
  cases o with
  | none=>rw[h] at e;simp at e
  | some w=>
   rw[h] at e
   simp at e
   obtain ⟨rfl,rfl⟩:=e
   obtain ⟨v,hv,r⟩:=S.at_ i w h
   exact ⟨v,hv,q v H α (.refl _ _) A r⟩
theorem X2{v:V}{u:U}(h:PE X e (tC v))(r:∀ H α,RepU X.K H α u v):PEF X e (fC u):=by
 refine PE.imp h ?_
 rintro σ H Q ⟨α,δ,L,A,S,w,L',e,q⟩
 unfold fC at e
 cases e
 exact q v H α (.refl _ _) A (r H α)
theorem Co{i:Int}{j pos}:PEF X (.Constant (.int i) j pos) (fC (.int i)):=X2 Aje fun _ _=>rfl
theorem W3{b:Bool}{j pos}:PEF X (.Constant (.bool b) j pos) (fC (.bl b)):=X2 Ak0 fun _ _=>rfl
theorem Aji{j pos}:PEF X (.Constant .none j pos) (fC .non):=X2 Ait fun _ _=>rfl
theorem Az{x:Str}{j pos}:PEF X (.Constant (.str x) j pos) (fC (.str x)):=X2 Aie fun _ _=>rfl
noncomputable abbrev S2:=U->U->UH->Option (U×UH)
noncomputable def Cm(K:aA)(r:R2)(sem:S2):Prop:=∀ (H:Hp) (α:List Addr) (L:UH) (u w:U) (x y:V) (z:U) (L':UH) (Q:VK),Abs K H α L->RepU K H α u x->RepU K H α w y->sem u w L=some (z,L') ->
 (∀ v H' α',Gr H α H' α'->Abs K H' α' L'->RepU K H' α' z v->Q v H')->r x y H Q
noncomputable def f2(sem:S2)(fa fb:FE):FE:=fun δ L=>(fa δ L).bind fun p=>(fb δ p.2).bind fun q=>sem p.1 q.1 q.2
theorem Vn{K:aA}{r:R2}{sem:S2}{fa fb:FE}(h:Cm K r sem):∀ σ H Q,lE K (f2 sem fa fb) σ H Q->tOp r (lE K fa) (lE K fb) σ H Q:=by
 rintro σ H Q ⟨α,δ,L,A,S,z,L3,e,q⟩
 obtain ⟨⟨u,L1⟩,e1,e⟩:=aB.mp e
 obtain ⟨⟨w,L2⟩,e2,e3⟩:=aB.mp e
 refine ⟨α,δ,L,A,S,u,L1,e1,fun x H1 α1 g1 A1 r1=>⟨α1,δ,L1,A1,S.mono g1,w,L2,e2,fun y H2 α2 g2 A2 r2=>?_⟩⟩
 exact h H2 α2 L2 u w x y z L3 Q A2 (r1.mono g2) r2 e3 fun v H3 α3 g3 A3 r3=>q v H3 α3 (g1.trans (g2.trans g3)) A3 r3
theorem Agv{op:Operator}{r:R2}{sem:S2}{fa fb:FE}(ho:OpR X (pD op) r)(h:Cm X.K r sem)(ha:PEF X a fa)(hb:PEF X b fb):PEF X (.BinOp a op b pos) (f2 sem fa fb):=PE.imp (Ajp ho ha hb) (Vn h)
theorem Hm{op:CmpOp}{r:R2}{sem:S2}{fa fb:FE}(ho:OpR X (cZ op) r)(h:Cm X.K r sem)(ha:PEF X a fa)(hb:PEF X b fb)(hm:behindInMarks op b=false):PEF X (.Compare a [op] [b] pos) (f2 sem fa fb):=PE.imp (Afi ho ha hb hm) (Vn h)
noncomputable def Be(f:FE):FT:=fun δ L=>(f δ L).bind fun p=>match p.1 with | .bl k=>some (k,p.2) | _=>none
theorem Agc{K:aA}{t:TE}{f:FE}(ht:∀ σ H Q,lE K f σ H Q->t σ H Q):∀ σ H Q,lT K (Be f) σ H Q->Agp t σ H Q:=by
 rintro σ H Q ⟨α,δ,L,A,S,b,L1,e,q⟩
 obtain ⟨⟨u,L2⟩,e1,e⟩:=aB.mp e
 refine ht σ H _ ⟨α,δ,L,A,S,u,L2,e1,fun x H1 α1 g1 A1 r1=>?_⟩
 cases u with
 | bl k=>simp at e;obtain ⟨rfl,rfl⟩:=e;exact ⟨k,r1,q H1 α1 g1 A1⟩
 | _=>simp at e
theorem Bk{op:CmpOp}{r:R2}{sem:S2}{fa fb:FE}(ho:OpR X (cZ op) r)(h:Cm X.K r sem)(ha:PEF X a fa)(hb:PEF X b fb)(hm:behindInMarks op b=false):PTF X (.Compare a [op] [b] pos) (Be (f2 sem fa fb)):=PT.imp (Aeh ho ha hb hm) (Agc (Vn h))
end
section
variable {X:Cx}{a b c e:Expr}{pos:Pos}{rest:List Expr}
noncomputable def Ahs(f g:FT):FT:=fun δ L=>(f δ L).bind fun p=>if p.1=true then g δ p.2 else some (false,p.2)
noncomputable def fOr(f g:FT):FT:=fun δ L=>(f δ L).bind fun p=>if p.1=true then some (true,p.2) else g δ p.2
noncomputable def Qv(f:FT):FT:=fun δ L=>(f δ L).map fun p=>(!p.1,p.2)
noncomputable def Py(f g:FE):FE:=fun δ L=>(f δ L).bind fun p=>match p.1 with | .bl k=>if k=true then g δ p.2 else some (.bl false,p.2) | _=>none
noncomputable def Ado(f g:FE):FE:=fun δ L=>(f δ L).bind fun p=>match p.1 with | .bl k=>if k=true then some (.bl true,p.2) else g δ p.2 | _=>none
noncomputable def Akf(f:FE):FE:=fun δ L=>(f δ L).bind fun p=>match p.1 with | .bl k=>some (.bl (!k),p.2) | _=>none
noncomputable def fIf(c:FT)(f g:FE):FE:=fun δ L=>(c δ L).bind fun p=>if p.1=true then f δ p.2 else g δ p.2
theorem Ab2{f:FT}(ha:PTF X a f):PWF X (.BoolOp .And [a] pos) f:=Ae5 ha
theorem Ll{f:FT}(ha:PTF X a f):PWF X (.BoolOp .Or [a] pos) f:=Aic ha
theorem Aei{f g:FT}(ha:PTF X a f)(hb:PWF X (.BoolOp .And (b::rest) pos) g):PWF X (.BoolOp .And (a::b::rest) pos) (Ahs f g):=by
 refine PW.imp (Aia ha hb) ?_
 rintro σ H Q ⟨α,δ,L,A,S,z,L3,e,q⟩
 obtain ⟨⟨u,L1⟩,e1,e⟩:=aB.mp e
 refine ⟨α,δ,L,A,S,u,L1,e1,fun H1 α1 g1 A1=>?_⟩
 cases u with
 | true=>exact Sz ⟨α1,δ,L1,A1,S.mono g1,z,L3,e,fun H2 α2 g2 A2=>q H2 α2 (g1.trans g2) A2⟩
 | false=>cases e;exact R3 (q H1 α1 g1 A1)
theorem M3{f g:FT}(ha:PTF X a f)(hb:PWF X (.BoolOp .Or (b::rest) pos) g):PWF X (.BoolOp .Or (a::b::rest) pos) (fOr f g):=by
 refine PW.imp (Ak2 ha hb) ?_
 rintro σ H Q ⟨α,δ,L,A,S,z,L3,e,q⟩
 obtain ⟨⟨u,L1⟩,e1,e⟩:=aB.mp e
 refine ⟨α,δ,L,A,S,u,L1,e1,fun H1 α1 g1 A1=>?_⟩
 cases u with
 | false=>exact R3 ⟨α1,δ,L1,A1,S.mono g1,z,L3,e,fun H2 α2 g2 A2=>q H2 α2 (g1.trans g2) A2⟩
 | true=>cases e;exact Sz (q H1 α1 g1 A1)
theorem PWF.pt{f:FT}(h:PWF X e f):PTF X e f:=PW.pt h
theorem Iz{f:FT}(ha:PTF X a f):PTF X (.UnaryOp .Not a pos) (Qv f):=by
 refine PT.imp (Ahl ha) ?_
 rintro σ H Q ⟨α,δ,L,A,S,z,L3,e,q⟩
 obtain ⟨⟨u,L1⟩,e1,e⟩:=aH.mp e
 cases e
 exact ⟨α,δ,L,A,S,u,L1,e1,fun H1 α1 g1 A1=>q H1 α1 g1 A1⟩
theorem Qa{op}{f:FE}(h:PEF X a f):PEF X (.BoolOp op [a] pos) f:=Ahx h
theorem Um{f g:FE}(ha:PEF X a f)(hb:PEF X (.BoolOp .And (b::rest) pos) g):PEF X (.BoolOp .And (a::b::rest) pos) (Py f g):=by
 refine PE.imp (Ag5 ha hb) ?_
 rintro σ H Q ⟨α,δ,L,A,S,z,L3,e,q⟩
 obtain ⟨⟨u,L1⟩,e1,e⟩:=aB.mp e
 refine ⟨α,δ,L,A,S,u,L1,e1,fun v H1 α1 g1 A1 r1=>?_⟩
 cases u with
 | bl k=>
  cases k with
  | true=>exact ⟨true,r1,Sz ⟨α1,δ,L1,A1,S.mono g1,z,L3,e,fun v H2 α2 g2 A2 r=>q v H2 α2 (g1.trans g2) A2 r⟩⟩
  | false=>cases e;exact ⟨false,r1,R3 (q _ H1 α1 g1 A1 rfl)⟩
 | _=>simp at e
theorem Ajs{f g:FE}(ha:PEF X a f)(hb:PEF X (.BoolOp .Or (b::rest) pos) g):PEF X (.BoolOp .Or (a::b::rest) pos) (Ado f g):=by
 refine PE.imp (Ak6 ha hb) ?_
 rintro σ H Q ⟨α,δ,L,A,S,z,L3,e,q⟩
 obtain ⟨⟨u,L1⟩,e1,e⟩:=aB.mp e
 refine ⟨α,δ,L,A,S,u,L1,e1,fun v H1 α1 g1 A1 r1=>?_⟩
 cases u with
 | bl k=>
  cases k with
  | false=>exact ⟨false,r1,R3 ⟨α1,δ,L1,A1,S.mono g1,z,L3,e,fun v H2 α2 g2 A2 r=>q v H2 α2 (g1.trans g2) A2 r⟩⟩
  | true=>cases e;exact ⟨true,r1,Sz (q _ H1 α1 g1 A1 rfl)⟩
 | _=>simp at e
theorem Aks{c:Expr}{t:FT}{f g:FE}(hc:PTF X c t)(ha:PEF X a f)(hb:PEF X b g):PEF X (.IfExp c a b pos) (fIf t f g):=by
 refine PE.imp (Abu hc ha hb) ?_
 rintro σ H Q ⟨α,δ,L,A,S,z,L3,e,q⟩
 obtain ⟨⟨u,L1⟩,e1,e⟩:=aB.mp e
 refine ⟨α,δ,L,A,S,u,L1,e1,fun H1 α1 g1 A1=>?_⟩
 cases u with
 | true=>exact Sz ⟨α1,δ,L1,A1,S.mono g1,z,L3,e,fun v H2 α2 g2 A2 r=>q v H2 α2 (g1.trans g2) A2 r⟩
 | false=>exact R3 ⟨α1,δ,L1,A1,S.mono g1,z,L3,e,fun v H2 α2 g2 A2 r=>q v H2 α2 (g1.trans g2) A2 r⟩
noncomputable def Ah:FA:=fun _ L=>some ([],L)
noncomputable def Ac(f:FE)(g:FA):FA:=fun δ L=>(f δ L).bind fun p=>(g δ p.2).map fun q=>(p.1::q.1,q.2)
theorem Ag:PAF X [] Ah:=by
 refine PA.imp Qo ?_
 rintro σ H Q ⟨α,δ,L,A,S,z,L3,e,q⟩
 cases e
 exact q [] H α (.refl _ _) A .nil
theorem Ad{es:List Expr}{f:FE}{g:FA}(ha:PEF X e f)(hr:PAF X es g)(hs:aL (e::es) X.env=(false,eval e X.env)::aL es X.env:=by rfl):PAF X (e::es) (Ac f g):=by
 refine PA.imp (G0 ha hr hs) ?_
 rintro σ H Q ⟨α,δ,L,A,S,z,L3,e,q⟩
 obtain ⟨⟨u,L1⟩,e1,e⟩:=aB.mp e
 obtain ⟨⟨us,L2⟩,e2,e⟩:=aH.mp e
 cases e
 exact ⟨α,δ,L,A,S,u,L1,e1,fun x H1 α1 g1 A1 r1=>⟨α1,δ,L1,A1,S.mono g1,us,L2,e2,fun xs H2 α2 g2 A2 r2=>q (x::xs) H2 α2 (g1.trans g2) A2 (.cons (r1.mono g2) r2)⟩⟩
noncomputable def Cv(n:Nat):Bool:=decide (n<=sizeLine)
noncomputable def Hj(g:FA):FE:=fun δ L=>(g δ L).bind fun p=>if Cv p.1.length=true then some (.tup p.1,p.2) else none
noncomputable def Q0(g:FA):FE:=fun δ L=>(g δ L).bind fun p=>if Cv p.1.length=true then some (.ref p.2.length,p.2++[.lst p.1]) else none
theorem Cr{n:Nat}(h:Cv n=true):n<=sizeLine:=of_decide_eq_true h
theorem Abs.tup{K:aA}{H:Hp}{α:List Addr}{L:UH}{p:Addr}{us:List U}{xs:List V}(A:Abs K H α L)(r:RepL K H α us xs)(hp:H p=none) :
  Gr H α (upd H p (.tup xs)) α/\Abs K (upd H p (.tup xs)) α L/\RepU K (upd H p (.tup xs)) α (.tup us) (.ref p):=by
 have g:Gr H α (upd H p (.tup xs)) α:=⟨⟨[],by simp⟩,.new hp _⟩
 refine ⟨g,⟨A.len,A.inj,fun i a o e1 e2=>(A.rep i a o e1 e2).other g (.inr fun u q=>by rw[Ap (Au q hp)];exact q)⟩,?_⟩
 unfold RepU
 exact ⟨p,xs,rfl,.of upd_same,r.mono g⟩
theorem Abs.lst{K:aA}{H:Hp}{α:List Addr}{L:UH}{p:Addr}{us:List U}{xs:List V}(A:Abs K H α L)(r:RepL K H α us xs)(hp:H p=none) :
  Gr H α (upd H p (.lst xs)) (α ++ [p])/\Abs K (upd H p (.lst xs)) (α ++ [p]) (L++[.lst us])/\RepU K (upd H p (.lst xs)) (α ++ [p]) (.ref L.length) (.ref p):=by
 have g:Gr H α (upd H p (.lst xs)) (α ++ [p]):=⟨⟨[p],rfl⟩,.new hp _⟩
 obtain ⟨A',_⟩:=A.new (o:=.lst xs) (u:=.lst us) hp ⟨xs,upd_same,r.mono g⟩
 refine ⟨g,A',?_⟩
 unfold RepU
 exact ⟨p,by rw[<- A.len];simp,rfl⟩
theorem Mu{es:List Expr}{g:FA}{x1}(h:PAF X es g):PEF X (.Tuple es x1 pos) (Hj g):=by
 refine PE.imp (Ahk h) ?_
 rintro σ H Q ⟨α,δ,L,A,S,z,L3,e,q⟩
 obtain ⟨⟨us,L1⟩,e1,e⟩:=aB.mp e
 refine ⟨α,δ,L,A,S,us,L1,e1,fun xs H1 α1 g1 A1 r1=>?_⟩
 simp only at e
 split at e
 ·rename_i hs
  cases e
  refine ⟨by rw[<- r1.length];exact Cr hs,fun p hp=>?_⟩
  obtain ⟨g2,A2,r2⟩:=A1.tup r1 hp
  exact q _ _ α1 (g1.trans g2) A2 r2
 ·cases e
theorem Lv{es:List Expr}{g:FA}(h:PAF X es g):PEF X (.List es pos) (Q0 g):=by
 refine PE.imp (Ajb h) ?_
 rintro σ H Q ⟨α,δ,L,A,S,z,L3,e,q⟩
 obtain ⟨⟨us,L1⟩,e1,e⟩:=aB.mp e
 refine ⟨α,δ,L,A,S,us,L1,e1,fun xs H1 α1 g1 A1 r1=>?_⟩
 simp only at e
 split at e
 ·rename_i hs
  cases e
  refine ⟨by rw[<- r1.length];exact Cr hs,fun p hp=>?_⟩
  obtain ⟨g2,A2,r2⟩:=A1.lst r1 hp
  exact q _ _ _ (g1.trans g2) A2 r2
 ·cases e
noncomputable abbrev SC:=List U->UH->Option (U×UH)
noncomputable def Q1(K:aA)(r:List V->Hp->VK->Prop)(sem:SC):Prop:=∀ (H:Hp) (α:List Addr) (L:UH) (us:List U) (xs:List V) (z:U) (L':UH) (Q:VK),Abs K H α L->RepL K H α us xs->sem us L=some (z,L') ->
 (∀ v H' α',Gr H α H' α'->Abs K H' α' L'->RepU K H' α' z v->Q v H')->r xs H Q
noncomputable def Bv(sem:SC)(g:FA):FE:=fun δ L=>(g δ L).bind fun p=>sem p.1 p.2
theorem Agq{K:aA}{r:List V->Hp->VK->Prop}{sem:SC}{g:FA}(h:Q1 K r sem):∀ σ H Q,lE K (Bv sem g) σ H Q->tCB r (lA K g) σ H Q:=by
 rintro σ H Q ⟨α,δ,L,A,S,z,L3,e,q⟩
 obtain ⟨⟨us,L1⟩,e1,e⟩:=aB.mp e
 exact ⟨α,δ,L,A,S,us,L1,e1,fun xs H1 α1 g1 A1 r1=>h H1 α1 L1 us xs z L3 Q A1 r1 e fun v H2 α2 g2 A2 r2=>q v H2 α2 (g1.trans g2) A2 r2⟩
variable {x:Str}{p:Pos}{es:List Expr}{id T:String}{r:List V->Hp->VK->Prop}{sem:SC}{g:FA}
theorem Cp(hc:CallR X (.builtin id) r)(h:Q1 X.K r sem)(hg:Gl X x)(hm:X.mg x=none)(hv:dX x=some (.builtin id))(ha:PAF X (e::es) g)(hn:x ≠ "__name__" := by decide)(hdb:(x == ("__debug__" : Str))=false:=by decide)
  (he:aL (e::es) X.env=(false,eval e X.env)::aL es X.env:=by rfl) (hpl:(backTo pos (aL es X.env)).any (·.1)=false:=by rfl) :
  PEF X (.Call (.Name x p) (e::es) [] pos) (Bv sem g):=PE.imp (Nx hc hg hm hv ha hn hdb he hpl) (Agq h)
theorem G1(hc:CallR X (.type T) r)(h:Q1 X.K r sem)(hg:Gl X x)(hm:X.mg x=none)(hv:dX x=some (.type T))(ha:PAF X (e::es) g)(hn:x ≠ "__name__" := by decide)(hdb:(x == ("__debug__" : Str))=false:=by decide)
  (he:aL (e::es) X.env=(false,eval e X.env)::aL es X.env:=by rfl) (hpl:(backTo pos (aL es X.env)).any (·.1)=false:=by rfl) :
  PEF X (.Call (.Name x p) (e::es) [] pos) (Bv sem g):=PE.imp (Yi hc hg hm hv ha hn hdb he hpl) (Agq h)
noncomputable abbrev SM:=U->List U->UH->Option (U×UH)
noncomputable def Vg(K:aA)(r:V->List V->Hp->VK->Prop)(sem:SM):Prop:=∀ (H:Hp) (α:List Addr) (L:UH) (u:U) (us:List U) (x:V) (xs:List V) (z:U) (L':UH) (Q:VK),Abs K H α L->RepU K H α u x->RepL K H α us xs->sem u us L=some (z,L') ->
 (∀ v H' α',Gr H α H' α'->Abs K H' α' L'->RepU K H' α' z v->Q v H')->r x xs H Q
noncomputable def tyU(T:String)(u:U)(L:UH):Bool:=match u with
 | .str _=>T == "str"
 | .int _=>T == "int"
 | .tup _=>T == "tuple"
 | .ref n=>match L[n]? with
  | some (.lst _)=>T == "list"
  | some (.ro _)=>T == "list"
  | some (.dic _)=>T == "dict"
  | _=>false
 | _=>false
theorem Ahe{K:aA}{H:Hp}{α:List Addr}{L:UH}{u:U}{x:V}(A:Abs K H α L)(r:RepU K H α u x)(h:tyU T u L=true):tyV K T x H:=by
 cases u with
 | str y=>unfold RepU at r;subst r;simpa[tyU,tyV] using h
 | int i=>unfold RepU at r;subst r;simpa[tyU,tyV] using h
 | ref n=>
  unfold RepU at r
  obtain ⟨a,ea,rfl⟩:=r
  unfold tyU at h
  simp only at h
  cases q:L[n]? with
  | none=>rw[q] at h;simp at h
  | some o=>
   have hr:=A.rep n a o ea q
   rw[q] at h
   cases o with
   | lst us=>simp at h;obtain ⟨xs,e,_⟩:=hr;exact .inl ⟨h,xs,.of e⟩
   | ro us=>simp at h;obtain ⟨xs,e,_⟩:=hr;exact .inl ⟨h,xs,e.sq⟩
   | dic kvs=>simp at h;obtain ⟨vs,e,_⟩:=hr;exact .inr (.inr (.inl ⟨h,.inl ⟨vs,e⟩⟩))
   | rod kvs=>simp at h
   | ins C fs=>simp at h
   | exc C fr fs=>simp at h
 | non=>simp[tyU] at h
 | bl b=>simp[tyU] at h
 | tup l=>
  unfold RepU at r
  obtain ⟨a,ys,rfl,sq,_⟩:=r
  have hT:T = "tuple" := by simpa[tyU] using h
  exact .inr (.inl ⟨hT,ys,sq⟩)
noncomputable def Ep(T:String)(sem:SM)(f:FE)(g:FA):FE:=fun δ L=>(f δ L).bind fun p=>if tyU T p.1 p.2=true then (g δ p.2).bind fun q=>sem p.1 q.1 q.2 else none
theorem Akm{K:aA}{r:V->List V->Hp->VK->Prop}{sem:SM}{f:FE}{g:FA}(h:Vg K r sem):∀ σ H Q,lE K (Ep T sem f g) σ H Q->tBM K T r (lE K f) (lA K g) σ H Q:=by
 rintro σ H Q ⟨α,δ,L,A,S,z,L3,e,q⟩
 obtain ⟨⟨u,L1⟩,e1,e⟩:=aB.mp e
 simp only at e
 split at e
 ·rename_i ht
  obtain ⟨⟨us,L2⟩,e2,e⟩:=aB.mp e
  refine ⟨α,δ,L,A,S,u,L1,e1,fun x H1 α1 g1 A1 r1=>⟨Ahe A1 r1 ht,α1,δ,L1,A1,S.mono g1,us,L2,e2,fun xs H2 α2 g2 A2 r2=>?_⟩⟩
  exact h H2 α2 L2 u us x xs z L3 Q A2 (r1.mono g2) r2 e fun v H3 α3 g3 A3 r3=>q v H3 α3 (g1.trans (g2.trans g3)) A3 r3
 ·cases e
section
variable {o e:Expr}{es:List Expr}{f:FE}{g:FA}{name:Str}{apos cpos:Pos}{T id:String}{r:V->List V->Hp->VK->Prop}{sem:SM}
theorem Pj(pa:PlainAttrs T)(slot:Slot T name id)(hty:typeOf (.builtin id)=pure (.type "method_descriptor"))(hm:MtR X id r)(h:Vg X.K r sem)(ho:PEF X o f)(ha:PAF X (e::es) g)
  (hbase:attributeBase o name X.env (eval o X.env)=eval o X.env:=by rfl)
  (hfew:((backTo cpos (aL (e::es) X.env)).all (fun x=>!x.1)&&(backToKw cpos (keywordEach [] X.env)).all (fun x=>x.1.isSome)&&decide ((e::es).length+([]:List eZ).length+(if ([]:List eZ).isEmpty then 0 else 1) < 30))=true:=by rfl)
  (hline:(apos.endLine == cpos.line)=true:=by rfl) (hst:aL (e::es) X.env=(false,eval e X.env)::aL es X.env:=by rfl) (hpl:(backTo cpos (aL es X.env)).any (·.1)=false:=by rfl) :
  PEF X (.Call (.Attribute o name apos) (e::es) [] cpos) (Ep T sem f g):=
 PE.imp (Alf pa slot hty hm ho ha hbase hfew hline hst hpl) (Akm h)
end
end
noncomputable abbrev FN:=List U->UH->Option (U×UH)
inductive spF(K:aA)(n:Nat)(f:FN)(vs:List V)(H:Hp)(Q:VK)(E:XK):Prop
 | mk (α:List Addr) (L:UH) (us:List U) (A:Abs K H α L) (r:RepL K H α us vs) (hl:us.length=n) (u:U) (L':UH) (e:f us L=some (u,L')) (q:∀ v H' α',Gr H α H' α'->Abs K H' α' L'->RepU K H' α' u v->Q v H'):spF K n f vs H Q E
section
variable {X:Cx}{a b c e o:Expr}{es:List Expr}{pos p:Pos}{x:Str}{k:Nat}{f:Addr}{fd:bE}{ps:List Str}{F:FN}{g:FA}{fa fb fc:FE}
noncomputable def El(n:Nat)(F:FN)(g:FA):FE:=fun δ L=>(g δ L).bind fun p=>if p.1.length=n then F p.1 p.2 else none
theorem B2{n:Nat}(hF:FnOk X.prog X.w X.K X.mg X.base CX0 k f fd ps (spF X.K n F))(hr:Room k X.A)(hg:Gl X x)(hm:X.mg x=some (.ref f))(hk:aT X.K (.ref f)=true)(hb:Binds X.K fd ps [])
  (ha:PAF X (e::es) g) (hdb:(x == ("__debug__" : Str))=false:=by decide) (he:aL (e::es) X.env=(false,eval e X.env)::aL es X.env:=by rfl) (hpl:(backTo pos (aL es X.env)).any (·.1)=false:=by rfl) :
  PEF X (.Call (.Name x p) (e::es) [] pos) (El n F g):=by
 refine PE.imp (Aed hF hr hg hm hk hb .nil Sw ha hdb he hpl) ?_
 rintro σ H Q ⟨α,δ,L,A,S,z,L3,e,q⟩
 obtain ⟨⟨us,L1⟩,e1,e⟩:=aB.mp e
 simp only at e
 split at e
 ·rename_i hl
  refine ⟨α,δ,L,A,S,us,L1,e1,fun xs H1 α1 g1 A1 r1=>?_⟩
  exact ⟨α1,L1,us,A1,by rw[bT];exact r1,hl,z,L3,e,fun v H2 α2 g2 A2 r2=>q v H2 α2 (g1.trans g2) A2 r2⟩
 ·cases e
theorem He{r:R2}{sem:S2}(hr:IxR X r)(h:Cm X.K r sem)(ha:PEF X a fa)(hb:PEF X b fb)(hs:Wg b):PEF X (.Subscript a b pos) (f2 sem fa fb):=PE.imp (Akk hr ha hb hs) (Vn h)
noncomputable abbrev FO:=UE->UH->Option (Option Int×UH)
inductive lO(K:aA)(f:FO)(σ:L2.St)(H:Hp)(Q:Option Int->Hp->Prop):Prop
 | mk (α:List Addr) (δ:UE) (L:UH) (A:Abs K H α L) (S:RepS K H α δ σ) (i:Option Int) (L':UH) (e:f δ L=some (i,L')) (q:∀ H' α',Gr H α H' α'->Abs K H' α' L'->Q i H'):lO K f σ H Q
noncomputable def POF(X:Cx)(e:Option Expr)(f:FO):Prop:=PO X e (lO X.K f)
noncomputable def Fs:FO:=fun _ L=>some (none,L)
noncomputable def Nb(f:FE):FO:=fun δ L=>(f δ L).bind fun p=>match p.1 with | .int i=>some (some i,p.2) | _=>none
theorem PO.imp{e:Option Expr}{t t':TO}(h:PO X e t)(hi:∀ σ H Q,t' σ H Q->t σ H Q):PO X e t':=fun pins s σ H Q I q=>h pins s σ H Q I (hi σ H Q q)
theorem Rk:POF X none Fs:=by
 refine PO.imp Aej ?_
 rintro σ H Q ⟨α,δ,L,A,S,z,L3,e,q⟩
 cases e
 exact q H α (.refl _ _) A
theorem Ri(h:PEF X e fa):POF X (some e) (Nb fa):=by
 refine PO.imp (Ae3 h) ?_
 rintro σ H Q ⟨α,δ,L,A,S,z,L3,e,q⟩
 obtain ⟨⟨u,L1⟩,e1,e⟩:=aB.mp e
 refine ⟨α,δ,L,A,S,u,L1,e1,fun x H1 α1 g1 A1 r1=>?_⟩
 cases u with
 | int i=>cases e;exact ⟨i,r1,q H1 α1 g1 A1⟩
 | _=>simp at e
noncomputable abbrev SS:=U->Option Int->Option Int->UH->Option (U×UH)
noncomputable def Abt(K:aA)(r:V->Option Int->Option Int->Hp->VK->Prop)(sem:SS):Prop:=∀ (H:Hp) (α:List Addr) (L:UH) (u:U) (x:V) (lo hi:Option Int) (z:U) (L':UH) (Q:VK),Abs K H α L->RepU K H α u x->sem u lo hi L=some (z,L') ->
 (∀ v H' α',Gr H α H' α'->Abs K H' α' L'->RepU K H' α' z v->Q v H')->r x lo hi H Q
noncomputable def fSl(sem:SS)(f:FE)(l h:FO):FE:=fun δ L=>(f δ L).bind fun p=>(l δ p.2).bind fun q=>(h δ q.2).bind fun r=>sem p.1 q.1 r.1 r.2
theorem Tx{r:V->Option Int->Option Int->Hp->VK->Prop}{sem:SS}{lo hi:Option Expr}{fl fh:FO}{p2:Pos}(hr:SlR X r)(h:Abt X.K r sem)(he:PEF X e fa)(hl:POF X lo fl)(hu:POF X hi fh):PEF X (.Subscript e (.Slice lo hi none p2) pos) (fSl sem fa fl fh):=by
 refine PE.imp (Ab5 hr he hl hu) ?_
 rintro σ H Q ⟨α,δ,L,A,S,z,L3,e,q⟩
 obtain ⟨⟨u,L1⟩,e1,e⟩:=aB.mp e
 obtain ⟨⟨i,L2⟩,e2,e⟩:=aB.mp e
 obtain ⟨⟨j,L4⟩,e3,e⟩:=aB.mp e
 refine ⟨α,δ,L,A,S,u,L1,e1,fun x H1 α1 g1 A1 r1=>⟨α1,δ,L1,A1,S.mono g1,i,L2,e2,fun H2 α2 g2 A2=>⟨α2,δ,L2,A2,(S.mono g1).mono g2,j,L4,e3,fun H3 α3 g3 A3=>?_⟩⟩⟩
 exact h H3 α3 L4 u x i j z L3 Q A3 ((r1.mono g2).mono g3) e fun v H4 α4 g4 A4 r4=>q v H4 α4 (g1.trans (g2.trans (g3.trans g4))) A4 r4
noncomputable def Al5(f:FE):FE:=fun δ L=>(f δ L).bind fun p=>match p.1 with | .int i=>some (.int (-i),p.2) | _=>none
noncomputable def J5(s1 s2:S2)(fa fb fc:FE):FE:=fun δ L=>(fa δ L).bind fun p=>(fb δ p.2).bind fun q=>(s1 p.1 q.1 q.2).bind fun r=>match r.1 with
 | .bl k=>if k=true then (fc δ r.2).bind fun t=>s2 q.1 t.1 t.2 else some (.bl false,r.2)
 | _=>none
theorem Aar{K:aA}{r r':R2}{s1 s2:S2}(h1:Cm K r s1)(h2:Cm K r' s2):∀ σ H Q,lE K (J5 s1 s2 fa fb fc) σ H Q->Aaq r r' (lE K fa) (lE K fb) (lE K fc) σ H Q:=by
 rintro σ H Q ⟨α,δ,L,A,S,z,L3,e,q⟩
 obtain ⟨⟨u,L1⟩,e1,e⟩:=aB.mp e
 obtain ⟨⟨w,L2⟩,e2,e⟩:=aB.mp e
 obtain ⟨⟨t,L4⟩,e3,e⟩:=aB.mp e
 refine ⟨α,δ,L,A,S,u,L1,e1,fun x H1 α1 g1 A1 r1=>⟨α1,δ,L1,A1,S.mono g1,w,L2,e2,fun y H2 α2 g2 A2 r2=>?_⟩⟩
 refine h1 H2 α2 L2 u w x y t L4 _ A2 (r1.mono g2) r2 e3 fun v H3 α3 g3 A3 r3=>?_
 cases t with
 | bl k=>
  refine ⟨k,r3,?_⟩
  cases k with
  | true=>
   obtain ⟨⟨s,L5⟩,e4,e⟩:=aB.mp e
   refine Sz ⟨α3,δ,L4,A3,((S.mono g1).mono g2).mono g3,s,L5,e4,fun y' H4 α4 g4 A4 r4=>?_⟩
   exact h2 H4 α4 L5 w s y y' z L3 Q A4 ((r2.mono g3).mono g4) r4 e fun v H5 α5 g5 A5 r5=>q v H5 α5 (g1.trans (g2.trans (g3.trans (g4.trans g5)))) A5 r5
  | false=>cases e;exact R3 (q _ H3 α3 (g1.trans (g2.trans g3)) A3 rfl)
 | _=>simp at e
theorem Acg{op op':CmpOp}{r r':R2}{s1 s2:S2}(ho:OpR X (cZ op) r)(ho':OpR X (cZ op') r')(h1:Cm X.K r s1)(h2:Cm X.K r' s2)(ha:PEF X a fa)(hb:PEF X b fb)(hc:PEF X c fc)(hm:lastMarks [op,op'] [b,c]=false:=by with_unfolding_all rfl) :
  PEF X (.Compare a [op,op'] [b,c] pos) (J5 s1 s2 fa fb fc):=PE.imp (Acf ho ho' ha hb hc hm) (Aar h1 h2)
noncomputable def Vk(u:U)(L:UH):Option Bool:=match u with
 | .non=>some false
 | .bl b=>some b
 | .int i=>some (i != 0)
 | .str y=>if Cv y.length=true then some ((y.length:Int) != 0) else none
 | .tup l=>some (!l.isEmpty)
 | .ref n=>match L[n]? with
  | some (.lst xs)=>some (!xs.isEmpty)
  | some (.ro xs)=>some (!xs.isEmpty)
  | some (.dic kvs)=>some (!kvs.isEmpty)
  | _=>none
theorem Et{α β:Type}{l:List α}{m:List β}(h:l.length=m.length):l.isEmpty=m.isEmpty:=by
 cases l <;> cases m <;> simp_all
theorem Af6{K:aA}{H:Hp}{α:List Addr}{L:UH}{u:U}{x:V}{k:Bool}(A:Abs K H α L)(r:RepU K H α u x)(h:Vk u L=some k):Ai3 K x H k:=by
 cases u with
 | non=>unfold RepU at r;subst r;exact (bJ h).symm
 | bl b=>unfold RepU at r;subst r;exact (bJ h).symm
 | int i=>unfold RepU at r;subst r;exact (bJ h).symm
 | str y=>
  unfold RepU at r;subst r
  unfold Vk at h
  simp only at h
  split at h
  ·rename_i hs;cases h;exact ⟨Cr hs,rfl⟩
  ·cases h
 | tup l=>
  unfold RepU at r
  obtain ⟨a,xs,rfl,s,r⟩:=r
  exact .inr (.inl ⟨xs,s,by rw[<- Et r.length];exact (bJ h).symm⟩)
 | ref n=>
  unfold RepU at r
  obtain ⟨a,ea,rfl⟩:=r
  unfold Vk at h
  simp only at h
  cases q:L[n]? with
  | none=>rw[q] at h;simp at h
  | some o=>
   have hr:=A.rep n a o ea q
   rw[q] at h
   cases o with
   | lst us=>obtain ⟨xs,e,r⟩:=hr;exact .inl ⟨xs,.of e,by rw[<- Et r.length];exact (bJ h).symm⟩
   | ro us=>obtain ⟨xs,e,r⟩:=hr;exact .inl ⟨xs,e.sq,by rw[<- Et r.length];exact (bJ h).symm⟩
   | dic kvs=>obtain ⟨vs,e,ek,_⟩:=hr;exact .inr (.inr ⟨vs,e,by rw[<- Et (show kvs.length=vs.length by simpa using congrArg iH ek)];exact (bJ h).symm⟩)
   | rod kvs=>simp at h
   | ins C fs=>simp at h
   | exc C fr fs=>simp at h
noncomputable def G6(f:FE):FT:=fun δ L=>(f δ L).bind fun p=>(Vk p.1 p.2).map fun k=>(k,p.2)
theorem Dh(ha:PEF X a fa)(he:∀ whole,isTrue a X.env whole=(do let v <- whole;standAt a.pos;holding [v] (truthy v)):=by intro _;rfl):PTF X a (G6 fa):=by
 refine PT.imp (Abf ha he) ?_
 rintro σ H Q ⟨α,δ,L,A,S,z,L3,e,q⟩
 obtain ⟨⟨u,L1⟩,e1,e⟩:=aB.mp e
 obtain ⟨k,e2,e⟩:=aH.mp e
 cases e
 exact ⟨α,δ,L,A,S,u,_,e1,fun x H1 α1 g1 A1 r1=>⟨_,Af6 A1 r1 e2,q H1 α1 g1 A1⟩⟩
end
inductive Fl where
 | nx (δ:UE) | rt (u:U) | bk (δ:UE) | ct (δ:UE)
noncomputable abbrev FS:=UE->UH->Option (Fl×UH)
noncomputable def Post(K:aA)(D:Ends)(H:Hp)(α:List Addr)(fl:Fl)(L':UH):Prop:=match fl with
 | .nx δ'=>∀ σ' H' α',Gr H α H' α'->Abs K H' α' L'->RepS K H' α' δ' σ'->D.nx σ' H'
 | .bk δ'=>∀ σ' H' α',Gr H α H' α'->Abs K H' α' L'->RepS K H' α' δ' σ'->D.bk σ' H'
 | .ct δ'=>∀ σ' H' α',Gr H α H' α'->Abs K H' α' L'->RepS K H' α' δ' σ'->D.ct σ' H'
 | .rt u=>∀ v H' α',Gr H α H' α'->Abs K H' α' L'->RepU K H' α' u v->D.rt v H'
theorem Post.from{K:aA}{D:Ends}{H H1:Hp}{α α1:List Addr}{fl:Fl}{L':UH}(g:Gr H α H1 α1)(p:Post K D H α fl L'):Post K D H1 α1 fl L':=by
 cases fl with
 | nx δ=>exact fun σ' H' α' g'=>p σ' H' α' (g.trans g')
 | bk δ=>exact fun σ' H' α' g'=>p σ' H' α' (g.trans g')
 | ct δ=>exact fun σ' H' α' g'=>p σ' H' α' (g.trans g')
 | rt u=>exact fun v H' α' g'=>p v H' α' (g.trans g')
inductive lS(K:aA)(f:FS)(D:Ends)(σ:L2.St)(H:Hp):Prop
 | mk (α:List Addr) (δ:UE) (L:UH) (A:Abs K H α L) (S:RepS K H α δ σ) (fl:Fl) (L':UH) (e:f δ L=some (fl,L')) (q:Post K D H α fl L'):lS K f D σ H
noncomputable def PSF(X:Cx)(st:Stmt)(f:FS):Prop:=PS X st (lS X.K f)
noncomputable def R6(X:Cx)(st:List Stmt)(f:FS):Prop:=PSs X st (lS X.K f)
section
variable {X:Cx}{st:Stmt}{rest:List Stmt}{e:Expr}{pos:Pos}{f g:FS}{fe:FE}
theorem PS.imp{t t':TS}(h:PS X st t)(hi:∀ D σ H,t' D σ H->t D σ H):PS X st t':=fun pins s σ H D I q=>h pins s σ H D I (hi D σ H q)
theorem PSs.imp{sts:List Stmt}{t t':TS}(h:PSs X sts t)(hi:∀ D σ H,t' D σ H->t D σ H):PSs X sts t':=fun pins s σ H D I q=>h pins s σ H D I (hi D σ H q)
noncomputable def B8:FS:=fun δ L=>some (.nx δ,L)
noncomputable def Ce(f g:FS):FS:=fun δ L=>(f δ L).bind fun p=>match p.1 with | .nx δ'=>g δ' p.2 | fl=>some (fl,p.2)
theorem Bo:R6 X [] B8:=by
 refine PSs.imp Ad2 ?_
 rintro D σ H ⟨α,δ,L,A,S,fl,L',e,q⟩
 cases e
 exact q σ H α (.refl _ _) A S
theorem An(h1:PSF X st f)(h2:R6 X rest g):R6 X (st::rest) (Ce f g):=by
 refine PSs.imp (Y3 h1 h2) ?_
 rintro D σ H ⟨α,δ,L,A,S,fl,L',e,q⟩
 obtain ⟨⟨fl1,L1⟩,e1,e⟩:=aB.mp e
 refine ⟨α,δ,L,A,S,fl1,L1,e1,?_⟩
 cases fl1 with
 | nx δ1=>exact fun σ1 H1 α1 g1 A1 S1=>⟨α1,δ1,L1,A1,S1,fl,L',e,q.from g1⟩
 | rt u=>cases e;exact q
 | bk δ1=>cases e;exact q
 | ct δ1=>cases e;exact q
theorem Aj(h1:PSF X st f):R6 X [st] f:=Ad0 h1
noncomputable def C7(f:FE):FS:=fun δ L=>(f δ L).map fun p=>(.rt p.1,p.2)
noncomputable def Er(f:FE):FS:=fun δ L=>(f δ L).map fun p=>(.nx δ,p.2)
noncomputable def Akv:FS:=fun _ L=>some (.rt .non,L)
theorem A9(he:PEF X e fe):PSF X (.Return (some e) pos) (C7 fe):=by
 refine PS.imp (Ahn he) ?_
 rintro D σ H ⟨α,δ,L,A,S,fl,L',e,q⟩
 obtain ⟨⟨u,L1⟩,e1,e⟩:=aH.mp e
 cases e
 exact ⟨α,δ,L,A,S,u,_,e1,fun v H1 α1 g1 A1 r1=>q v H1 α1 g1 A1 r1⟩
theorem E8(he:PEF X e fe)(hs:swapsWith e none pos.line X.env=pure false:=by rfl):PSF X (.Expr e pos) (Er fe):=by
 refine PS.imp (Ae1 he hs) ?_
 rintro D σ H ⟨α,δ,L,A,S,fl,L',e,q⟩
 obtain ⟨⟨u,L1⟩,e1,e⟩:=aH.mp e
 cases e
 exact ⟨α,δ,L,A,S,u,_,e1,fun v H1 α1 g1 A1 r1=>q σ H1 α1 g1 A1 (S.mono g1)⟩
noncomputable def Dc(c:FT)(f g:FS):FS:=fun δ L=>(c δ L).bind fun p=>if p.1=true then f δ p.2 else g δ p.2
theorem B0{c:Expr}{a b:List Stmt}{tc:FT}(hc:PTF X c tc)(ha:R6 X a f)(hb:R6 X b g):PSF X (.If c a b pos) (Dc tc f g):=by
 refine PS.imp (Alm hc ha hb) ?_
 rintro D σ H ⟨α,δ,L,A,S,fl,L',e,q⟩
 obtain ⟨⟨u,L1⟩,e1,e⟩:=aB.mp e
 refine ⟨α,δ,L,A,S,u,L1,e1,fun H1 α1 g1 A1=>?_⟩
 cases u with
 | true=>exact Sz ⟨α1,δ,L1,A1,S.mono g1,fl,L',e,q.from g1⟩
 | false=>exact R3 ⟨α1,δ,L1,A1,S.mono g1,fl,L',e,q.from g1⟩
noncomputable def B6:FS:=fun _ _=>none
theorem Ba:PSF X st B6:=by
 refine PS.imp Aaa ?_
 rintro D σ H ⟨α,δ,L,A,S,fl,L',e,q⟩
 cases e
end
noncomputable abbrev FG:=U->UE->UH->Option (UE×UH)
noncomputable abbrev FGs:=List U->UE->UH->Option (UE×UH)
inductive lG(K:aA)(f:FG)(v:V)(σ:L2.St)(H:Hp)(Q:L2.St->Hp->Prop):Prop
 | mk (α:List Addr) (δ:UE) (L:UH) (u:U) (A:Abs K H α L) (S:RepS K H α δ σ) (r:RepU K H α u v) (δ':UE) (L':UH) (e:f u δ L=some (δ',L')) (q:∀ σ' H' α',Gr H α H' α'->Abs K H' α' L'->RepS K H' α' δ' σ'->Q σ' H'):lG K f v σ H Q
inductive lGs(K:aA)(f:FGs)(vs:List V)(σ:L2.St)(H:Hp)(Q:L2.St->Hp->Prop):Prop
 | mk (α:List Addr) (δ:UE) (L:UH) (us:List U) (A:Abs K H α L) (S:RepS K H α δ σ) (r:RepL K H α us vs) (δ':UE) (L':UH) (e:f us δ L=some (δ',L')) (q:∀ σ' H' α',Gr H α H' α'->Abs K H' α' L'->RepS K H' α' δ' σ'->Q σ' H'):lGs K f vs σ H Q
noncomputable def PGF(X:Cx)(e:Expr)(f:FG):Prop:=PG X e (lG X.K f)
noncomputable def Afu(X:Cx)(es:List Expr)(f:FGs):Prop:=PGs X es (lGs X.K f)
section
variable {X:Cx}{e:Expr}{es:List Expr}{pos:Pos}
theorem PG.imp{t t':TG}(h:PG X e t)(hi:∀ v σ H Q,t' v σ H Q->t v σ H Q):PG X e t':=fun pins s σ H v u Q I r q=>h pins s σ H v u Q I r (hi v σ H Q q)
theorem PGs.imp{t t':TGs}(h:PGs X es t)(hi:∀ v σ H Q,t' v σ H Q->t v σ H Q):PGs X es t':=fun pins s σ H v u Q I r q=>h pins s σ H v u Q I r (hi v σ H Q q)
noncomputable def gN(i:Nat):FG:=fun u δ L=>some (δ.set i (some u),L)
theorem B9{i:Nat}{x:Str}(hN:X.N.Nodup)(hi:X.N[i]? = some x:=by rfl)(hx:Loc X.env.scope x:=by first | exact Or.inl rfl | exact pW rfl)(hf:X.fn x=true\/X.env.scope.names.lookup x=some .local:=by first | exact .inl rfl | exact .inr rfl):PGF X (.Name x pos) (gN i):=by
 refine PG.imp (Af9 (i:=i) hN hi hx hf) ?_
 rintro v σ H Q ⟨α,δ,L,u,A,S,r,δ',L',e,q⟩
 cases e
 exact q _ H α (.refl _ _) A (S.set i r)
noncomputable def gNil:FGs:=fun us δ L=>match us with | []=>some (δ,L) | _=>none
noncomputable def gCons(f:FG)(g:FGs):FGs:=fun us δ L=>match us with | []=>none | u::r=>(f u δ L).bind fun p=>g r p.1 p.2
theorem Rp:Afu X [] MR.gNil:=by
 refine PGs.imp Afe ?_
 rintro vs σ H Q ⟨α,δ,L,us,A,S,r,δ',L',e,q⟩
 cases us with
 | nil=>cases e;exact ⟨by unfold RepL at r;exact r,q σ H α (.refl _ _) A S⟩
 | cons u us=>cases e
theorem Gv{f:FG}{g:FGs}(h1:PGF X e f)(h2:Afu X es g)(hs:(assignEach (e::es) X.env).map (·.2)=assign e X.env::(assignEach es X.env).map (·.2):=by rfl):Afu X (e::es) (MR.gCons f g):=by
 refine PGs.imp (Ade h1 h2 hs) ?_
 rintro vs σ H Q ⟨α,δ,L,us,A,S,r,δ',L',e,q⟩
 cases us with
 | nil=>cases e
 | cons u us=>
  unfold RepL at r
  obtain ⟨x,xs,rfl,r1,r2⟩:=r
  obtain ⟨⟨δ1,L1⟩,e1,e⟩:=aB.mp e
  refine ⟨x,xs,rfl,α,δ,L,u,A,S,r1,δ1,L1,e1,fun σ1 H1 α1 g1 A1 S1=>?_⟩
  exact ⟨α1,δ1,L1,us,A1,S1,r2.mono g1,δ',L',e,fun σ2 H2 α2 g2 A2 S2=>q σ2 H2 α2 (g1.trans g2) A2 S2⟩
noncomputable def gTup(n:Nat)(g:FGs):FG:=fun u δ L=>match u with | .tup us=>if us.length=n then g us δ L else none | _=>none
theorem V3{k:Nat}{g:FGs}{n:Nat}(hc:X.calm=true)(h:Afu X es g)(hn:(assignEach es X.env).length=n:=by rfl)(hst:(assignEach es X.env).findIdx? (·.1)=none:=by rfl):PGF X (.Tuple es k pos) (MR.gTup n g):=by
 refine PG.imp (Aiy hc h hn hst) ?_
 rintro v σ H Q ⟨α,δ,L,u,A,S,r,δ',L',e,q⟩
 cases u with
 | tup us=>
  unfold RepU at r
  obtain ⟨a,xs,rfl,s,r⟩:=r
  unfold MR.gTup at e
  simp only at e
  split at e
  ·rename_i hl
   exact ⟨a,xs,rfl,s,by rw[<- r.length];exact hl,α,δ,L,us,A,S,r,δ',L',e,q⟩
  ·cases e
 | _=>simp[MR.gTup] at e
noncomputable def Hw(fe:FE)(g:FG):FS:=fun δ L=>(fe δ L).bind fun p=>(g p.1 δ p.2).map fun q=>(.nx q.1,q.2)
theorem Fd{i:Nat}{x:Str}{fe:FE}{pos':Pos}(hN:X.N.Nodup)(he:PEF X e fe)(hi:X.N[i]? = some x:=by rfl)(hx:Loc X.env.scope x:=by first | exact Or.inl rfl | exact pW rfl)
  (hs:swapsWith e (some (.Name x pos')) pos.line X.env=pure false:=by rfl) (hf:X.fn x=true\/X.env.scope.names.lookup x=some .local:=by first | exact .inl rfl | exact .inr rfl) :
  PSF X (.Assign [.Name x pos'] e pos) (Hw fe (gN i)):=by
 refine PS.imp (Ajc (i:=i) hN hi hx he hs hf) ?_
 rintro D σ H ⟨α,δ,L,A,S,fl,L',e,q⟩
 obtain ⟨⟨u,L1⟩,e1,e⟩:=aB.mp e
 obtain ⟨⟨δ2,L2⟩,e2,e⟩:=aH.mp e
 cases e
 cases e2
 exact ⟨α,δ,L,A,S,u,_,e1,fun v H1 α1 g1 A1 r1=>q _ H1 α1 g1 A1 ((S.mono g1).set i r1)⟩
end
noncomputable def Ee(L:UH)(n:Nat):Option (List U):=match L[n]? with
 | some (.lst us)=>some us
 | _=>none
noncomputable def Al(L:UH)(n:Nat):Option (List U):=match L[n]? with
 | some (.lst us)=>some us
 | some (.ro us)=>some us
 | _=>none
inductive IU where
 | seq (us:List U) | ref (n:Nat) | enm (n:Nat) | zip2 (n m:Nat) | zipT (us:List U) (m:Nat) | zipL (n:Nat) (ws:List U)
noncomputable def Fw:Option U->Option U->Option U
 | some x,some y=>some (.tup [x,y])
 | _,_=>none
noncomputable def IU.at(i:IU)(k:Nat)(L:UH):Option (Option U):=match i with
 | .seq us=>some us[k]?
 | .ref n=>match L[n]? with
  | some (.lst us)=>some us[k]?
  | some (.ro us)=>some us[k]?
  | _=>none
 | .enm n=>(Al L n).map fun us=>(us[k]?).map fun u=>.tup [.int k,u]
 | .zip2 n m=>(Al L n).bind fun us=>(Al L m).map fun ws=>Fw us[k]? ws[k]?
 | .zipT us m=>(Al L m).map fun ws=>Fw us[k]? ws[k]?
 | .zipL n ws=>(Al L n).map fun us=>Fw us[k]? ws[k]?
noncomputable def IU.size(i:IU)(L:UH):Nat:=match i with
 | .seq us=>us.length
 | .ref n=>match L[n]? with
  | some (.lst us)=>us.length
  | some (.ro us)=>us.length
  | _=>0
 | .enm n=>match Al L n with
  | some us=>us.length
  | none=>0
 | .zip2 n m=>match Al L n,Al L m with
  | some us,some ws=>min us.length ws.length
  | _,_=>0
 | .zipT us m=>match Al L m with
  | some ws=>min us.length ws.length
  | none=>0
 | .zipL n ws=>match Al L n with
  | some us=>min us.length ws.length
  | none=>0
noncomputable abbrev FI:=UE->UH->Option (IU×UH)
noncomputable def Pe(K:aA)(J:It)(i:IU)(H:Hp)(α:List Addr):Prop:=∀ (H2:Hp) (α2:List Addr) (L2:UH),Gr H α H2 α2->Abs K H2 α2 L2->∀ k:Nat,
 (∀ u,i.at k L2=some (some u)->J.go k H2/\∀ x H3,J.yld k H2 x H3->Gr H2 α2 H3 α2/\Abs K H3 α2 L2/\RepU K H3 α2 u x)/\(i.at k L2=some none->J.stop k H2)
inductive lI(K:aA)(f:FI)(σ:L2.St)(H:Hp)(R:It->Hp->Prop):Prop
 | mk (α:List Addr) (δ:UE) (L:UH) (A:Abs K H α L) (S:RepS K H α δ σ) (i:IU) (L':UH) (e:f δ L=some (i,L')) (q:∀ J H' α',Gr H α H' α'->Abs K H' α' L'->Pe K J i H' α'->R J H'):lI K f σ H R
noncomputable def PIF(X:Cx)(tg iter:Expr)(f:FI):Prop:=PI X tg iter (lI X.K f)
section
variable {X:Cx}{tg iter l:Expr}{pos:Pos}{fe:FE}
theorem PI.imp{t t':TI}(h:PI X tg iter t)(hi:∀ σ H R,t' σ H R->t σ H R):PI X tg iter t':=fun pins s σ H R I q=>h pins s σ H R I (hi σ H R q)
theorem PI.or{t t':TI}(h:PI X tg iter t)(h':PI X tg iter t'):PI X tg iter (fun σ H R=>t σ H R\/t' σ H R):=fun pins s σ H R I q=>by
 rcases q with q | q
 ·exact h pins s σ H R I q
 ·exact h' pins s σ H R I q
noncomputable def Lx(u:U)(L:UH):Option IU:=match u with
 | .tup us=>some (.seq us)
 | .ref n=>match L[n]? with
  | some (.lst _)=>some (.ref n)
  | some (.ro _)=>some (.ref n)
  | _=>none
 | _=>none
theorem Wd{K:aA}{H:Hp}{α:List Addr}{n:Nat}{a:Addr}(ea:α[n]? = some a):Pe K (Itl K a) (.ref n) H α:=by
 intro H2 α2 L2 g A2 k
 have ea2:=g.at ea
 have go:∀ (us:List U) (xs:List V),SqL K H2 a xs->RepL K H2 α2 us xs->(∀ ys,SqL K H2 a ys->True)->(∀ u,us[k]? = some u->(Itl K a).go k H2/\∀ x H3,(Itl K a).yld k H2 x H3->Gr H2 α2 H3 α2/\Abs K H3 α2 L2/\RepU K H3 α2 u x)/\(us[k]? = none->(Itl K a).stop k H2):=by
  intro us xs sq r _
  refine ⟨fun u eu=>?_,fun eu=>?_⟩
  ·obtain ⟨x,ex,rx⟩:=r.get eu
   refine ⟨⟨xs,x,sq,ex⟩,?_⟩
   rintro y H3 ⟨rfl,hy⟩
   have:=hy xs sq
   rw[ex] at this;cases this
   exact ⟨.refl _ _,A2,rx⟩
  ·exact ⟨xs,sq,by rw[<- r.length];exact bO.mp eu⟩
 unfold IU.at
 simp only
 cases q:L2[n]? with
 | none=>simp
 | some o=>
  have hr:=A2.rep n a o ea2 q
  cases o with
  | lst us=>
   obtain ⟨xs,e,r⟩:=hr
   obtain ⟨h1,h2⟩:=go us xs (.of e) r fun _ _=>trivial
   exact ⟨fun u eu=>h1 u (bJ eu),fun eu=>h2 (bJ eu)⟩
  | ro us=>
   obtain ⟨xs,e,r⟩:=hr
   obtain ⟨h1,h2⟩:=go us xs e.sq r fun _ _=>trivial
   exact ⟨fun u eu=>h1 u (bJ eu),fun eu=>h2 (bJ eu)⟩
  | dic kvs=>simp
  | rod kvs=>simp
  | ins C fs=>simp
  | exc C fr fs=>simp
theorem Af3{K:aA}{H:Hp}{α:List Addr}{us:List U}{xs:List V}{a:Addr}(sq:SqT K H a xs)(r:RepL K H α us xs):Pe K (Itt K a) (.seq us) H α:=by
 intro H2 α2 L2 g A2 k
 have sq2:=g.st.sqT (K:=K) sq
 have r2:=r.mono g
 refine ⟨fun u eu=>?_,fun eu=>?_⟩
 ·obtain ⟨x,ex,rx⟩:=r2.get (bJ eu)
  refine ⟨⟨xs,x,sq2,ex⟩,?_⟩
  rintro y H3 ⟨rfl,hy⟩
  have:=hy xs sq2
  rw[ex] at this;cases this
  exact ⟨.refl _ _,A2,rx⟩
 ·exact ⟨xs,sq2,by rw[<- r2.length];exact bO.mp (bJ eu)⟩
noncomputable def Dm(f:FE):FI:=fun δ L=>(f δ L).bind fun p=>(Lx p.1 p.2).map fun i=>(i,p.2)
theorem Gx(h:PEF X l fe):PIF X tg l (Dm fe):=by
 refine PI.imp (PI.or (Aev h) (Ah1 h)) ?_
 rintro σ H R ⟨α,δ,L,A,S,i,L3,e,q⟩
 obtain ⟨⟨u,L1⟩,e1,e⟩:=aB.mp e
 obtain ⟨j,e2,e⟩:=aH.mp e
 cases e
 cases u with
 | tup us=>
  cases e2
  refine .inr ⟨α,δ,L,A,S,_,_,e1,fun x H1 α1 g1 A1 r1=>?_⟩
  unfold RepU at r1
  obtain ⟨a,xs,rfl,sq,r⟩:=r1
  exact ⟨a,rfl,⟨xs,sq⟩,q _ H1 α1 g1 A1 (Af3 sq r)⟩
 | ref n=>
  refine .inl ⟨α,δ,L,A,S,_,_,e1,fun x H1 α1 g1 A1 r1=>?_⟩
  unfold RepU at r1
  obtain ⟨a,ea,rfl⟩:=r1
  refine ⟨a,rfl,?_⟩
  unfold Lx at e2
  simp only at e2
  cases w:L1[n]? with
  | none=>simp only[w] at e2;cases e2
  | some o=>
   have hr:=A1.rep n a o ea w
   cases o with
   | lst us=>simp only[w] at e2;cases e2;obtain ⟨xs,e,r⟩:=hr;exact ⟨⟨xs,.of e⟩,q _ H1 α1 g1 A1 (Wd ea)⟩
   | ro us=>simp only[w] at e2;cases e2;obtain ⟨xs,e,r⟩:=hr;exact ⟨⟨xs,e.sq⟩,q _ H1 α1 g1 A1 (Wd ea)⟩
   | dic kvs=>simp only[w] at e2;cases e2
   | rod kvs=>simp only[w] at e2;cases e2
   | ins C fs=>simp only[w] at e2;cases e2
   | exc C fr fs=>simp only[w] at e2;cases e2
 | _=>cases e2
noncomputable def Qi(lo:Int)(n:Nat):List U:=(fO n).map fun i=>U.int (lo+(i:Nat))
noncomputable def Alo(g:FA):FI:=fun δ L=>(g δ L).bind fun p=>match p.1 with
 | [.int j]=>if -(2 ^ 62)<=j/\j < 2 ^ 62 then some (.seq (Qi 0 j.toNat),p.2) else none
 | _=>none
noncomputable def Agl(g:FA):FI:=fun δ L=>(g δ L).bind fun p=>match p.1 with
 | [.int i,.int j]=>if (-(2 ^ 62)<=i/\i < 2 ^ 62)/\-(2 ^ 62)<=j/\j < 2 ^ 62 then some (.seq (Qi i (j - i).toNat),p.2) else none
 | _=>none
theorem RepL.one{K:aA}{H:Hp}{α:List Addr}{u:U}{xs:List V}(h:RepL K H α [u] xs):∃ x,xs=[x]/\RepU K H α u x:=by
 unfold RepL at h
 obtain ⟨x,r,e,h1,h2⟩:=h
 unfold RepL at h2
 subst h2
 exact ⟨x,e,h1⟩
theorem RepL.two{K:aA}{H:Hp}{α:List Addr}{u w:U}{xs:List V}(h:RepL K H α [u,w] xs):∃ x y,xs=[x,y]/\RepU K H α u x/\RepU K H α w y:=by
 unfold RepL at h
 obtain ⟨x,r,e,h1,h2⟩:=h
 obtain ⟨y,e2,h3⟩:=h2.one
 subst e2
 exact ⟨x,y,e,h1,h3⟩
noncomputable def Iq(i:IU)(g:FG)(body:FS):Nat->Nat->UE->UH->Option (Fl×UH)
 | 0,_,_,_=>none
 | m+1,k,δ,L=>match i.at k L with
  | none=>none
  | some none=>some (.nx δ,L)
  | some (some u)=>(g u δ L).bind fun p=>(body p.1 p.2).bind fun q=>match q.1 with
   | .nx δ'=>Iq i g body m (k+1) δ' q.2
   | .ct δ'=>Iq i g body m (k+1) δ' q.2
   | .bk δ'=>some (.nx δ',q.2)
   | .rt w=>some (.rt w,q.2)
noncomputable def Aba(fi:FI)(g:FG)(body:FS):FS:=fun δ L=>(fi δ L).bind fun p=>Iq p.1 g body (p.1.size p.2+1) 0 δ p.2
inductive FI_(K:aA)(D:Ends)(H1:Hp)(α1:List Addr)(fl:Fl)(L':UH)(go:UE->UH->Option (Fl×UH))(σ2:_root_.L2.St)(H2:Hp):Prop
 | mk (α2:List Addr) (δ2:UE) (L2:UH) (g2:Gr H1 α1 H2 α2) (A2:Abs K H2 α2 L2) (S2:RepS K H2 α2 δ2 σ2) (e2:go δ2 L2=some (fl,L')) (q2:Post K D H2 α2 fl L'):FI_ K D H1 α1 fl L' go σ2 H2
theorem Aeb{body:List Stmt}{fi:FI}{g:FG}{fb:FS}(hp:PassesOwn (model X.prog X.w) X.A X.env X.xe)(hc:X.calm=true)(hi:PIF X tg iter fi)(hg:PGF X tg g)(hb:R6 X body fb)
  (hs:∀ x,foldedSetIterable iter X.env x=pure x:=by intro _;rfl):PSF X (.For tg iter body [] pos) (Aba fi g fb):=by
 refine PS.imp (Aih hp hc hi hg hb hs) ?_
 rintro D σ H ⟨α,δ,L,A,S,fl,L',e,q⟩
 obtain ⟨⟨it,L1⟩,e1,e⟩:=aB.mp e
 refine ⟨α,δ,L,A,S,it,L1,e1,fun J H1 α1 g1 A1 hJ=>?_⟩
 refine ⟨fun k m=>FI_ X.K D H1 α1 fl L' (Iq it g fb m k),⟨_,α1,δ,L1,.refl _ _,A1,S.mono g1,e,q.from g1⟩,?_⟩
 rintro k m σ2 H2 ⟨α2,δ2,L2,g2,A2,S2,e2,q2⟩
 cases m with
 | zero=>cases e2
 | succ m=>
  obtain ⟨hgo,hstop⟩:=hJ H2 α2 L2 g2 A2 k
  unfold Iq at e2
  cases hat:it.at k L2 with
  | none=>rw[hat] at e2;cases e2
  | some o=>
   cases o with
   | none=>
    rw[hat] at e2
    cases e2
    exact .inl ⟨hstop hat,q2 σ2 H2 α2 (.refl _ _) A2 S2⟩
   | some u=>
    rw[hat] at e2
    obtain ⟨go,yld⟩:=hgo u hat
    obtain ⟨⟨δ3,L3⟩,e3,e2⟩:=aB.mp e2
    obtain ⟨⟨fl4,L4⟩,e4,e2⟩:=aB.mp e2
    refine .inr ⟨go,FI_ X.K D H1 α1 fl L' (Iq it g fb m (k+1)),fun σ5 H5 h5=>⟨m,eV _,h5⟩,fun x H3 y3=>?_⟩
    obtain ⟨g3,A3,r3⟩:=yld x H3 y3
    refine ⟨α2,δ2,L2,u,A3,S2.mono g3,r3,δ3,L3,e3,fun σ4 H4 α4 g4 A4 S4=>⟨α4,δ3,L3,A4,S4,fl4,L4,e4,?_⟩⟩
    have gA:=g2.trans (g3.trans g4)
    have gB:=g3.trans g4
    cases fl4 with
    | nx δ5=>exact fun σ5 H5 α5 g5 A5 S5=>⟨α5,δ5,L4,gA.trans g5,A5,S5,e2,q2.from (gB.trans g5)⟩
    | ct δ5=>exact fun σ5 H5 α5 g5 A5 S5=>⟨α5,δ5,L4,gA.trans g5,A5,S5,e2,q2.from (gB.trans g5)⟩
    | bk δ5=>cases e2;exact fun σ5 H5 α5 g5 A5 S5=>q2 σ5 H5 α5 (gB.trans g5) A5 S5
    | rt w=>cases e2;exact fun v H5 α5 g5 A5 r5=>q2 v H5 α5 (gB.trans g5) A5 r5
inductive WI_(K:aA)(D:Ends)(fl:Fl)(L':UH)(go:UE->UH->Option (Fl×UH))(σ2:_root_.L2.St)(H2:Hp):Prop
 | mk (α2:List Addr) (δ2:UE) (L2:UH) (A2:Abs K H2 α2 L2) (S2:RepS K H2 α2 δ2 σ2) (e2:go δ2 L2=some (fl,L')) (q2:Post K D H2 α2 fl L'):WI_ K D fl L' go σ2 H2
end
noncomputable def fnU(n m:Nat)(body:FS):FN:=fun us L=>if us.length=m then (body (us.map some++dG (n - us.length) none) L).bind fun p=>match p.1 with
 | .rt u=>some (u,p.2)
 | .nx _=>some (.non,p.2)
 | _=>none
 else none
section
variable {P:aW}{w:bG}{K:aA}{mg:Str->Option aC}{base:Heap}
theorem Fun.okF{x qual:Str}{st:Stmt}{f:Addr}{fd:bE}{N ps:List Str}{k:Nat}{body:FS}(F:Fun K x qual st f fd)(S:FnScope N ps (Af st))
  (hbody:∀ (cdv:aC) (A:bZ) (outer:List fV) (s:aG) (H:Hp) (E:XK),Room k (A.deeper (envOfC qual (Af st) s.heap.objs.size f cdv))->R6 (Us CX0 P w K mg base N qual (Af st) f cdv A outer s H E).nox (Ao st) body) :
  FnOk P w K mg base CX0 (k+1) f fd ps (spF K ps.length (fnU N.length ps.length body)):=by
 refine F.ok S (fun vs H Q E ⟨α,L,us,A,r,hl,_,_,_,_⟩=>by rw[<- r.length];exact hl) (fun cdv A outer s H vs Q E hr h=>?_)
 obtain ⟨α,L,us,Ab,r,hl,u,L',e,q⟩:=h
 refine ⟨_,hbody cdv A outer s H E hr,?_⟩
 unfold fnU at e
 rw[if_pos hl] at e
 obtain ⟨⟨fl,L1⟩,e1,e⟩:=aB.mp e
 refine ⟨α,_,L,Ab,RepS.start N r,fl,L1,e1,?_⟩
 cases fl with
 | rt w=>cases e;exact q
 | nx δ=>cases e;exact fun σ' H' α' g' A' S'=>q .non H' α' g' A' rfl
 | bk δ=>cases e
 | ct δ=>cases e
end
section
variable {K:aA}{H:Hp}{α:List Addr}{L:UH}{u:U}{x:V}
theorem Vi{n:Nat}{us:List U}(h:Ee L n=some us):L[n]? = some (.lst us):=by
 unfold Ee at h
 split at h
 ·rename_i e;cases h;exact e
 ·cases h
theorem Ac7{n:Nat}{us:List U}(A:Abs K H α L)(h:Ee L n=some us):∃ a xs,α[n]? = some a/\H a=some (.lst xs)/\RepL K H α us xs:=by
 obtain ⟨a,ea,xs,e,r⟩:=A.addr (Vi h)
 exact ⟨a,xs,ea,e,r⟩
theorem Ec{n:Nat}{us:List U}(A:Abs K H α L)(h:Al L n=some us):∃ a xs,α[n]? = some a/\SqL K H a xs/\RepL K H α us xs:=by
 unfold Al at h
 split at h
 ·rename_i e;cases h
  obtain ⟨a,ea,xs,e,r⟩:=A.addr e
  exact ⟨a,xs,ea,.of e,r⟩
 ·rename_i e;cases h
  obtain ⟨a,ea,xs,e,r⟩:=A.addr e
  exact ⟨a,xs,ea,e.sq,r⟩
 ·cases h
theorem RepU.ref_of{n:Nat}(A:Abs K H α L)(h:RepU K H α (.ref n) x):∃ a,α[n]? = some a/\x = .ref a:=by unfold RepU at h;exact h
end
noncomputable def Acu:S2:=fun u w L=>match u,w with
 | .int i,.int j=>some (.int (i+j),L)
 | .str a,.str b=>if Cv (a.length+b.length)=true then some (.str (a++b),L) else none
 | .tup a,.tup b=>if a.isEmpty=false/\Cv (a.length+b.length)=true then some (.tup (a++b),L) else none
 | .ref n,.ref m=>(Ee L n).bind fun a=>(Ee L m).bind fun b=>if Cv (a.length+b.length)=true then some (.ref L.length,L++[.lst (a++b)]) else none
 | _,_=>none
noncomputable def Yx(C:Int->Int->Bool)(g:Int->Int->U):S2:=fun u w L=>match u,w with
 | .int i,.int j=>if C i j=true then some (g i j,L) else none
 | _,_=>none
theorem Akp{K:aA}{C:Int->Int->Prop}{Cb:Int->Int->Bool}{g:Int->Int->V}{g':Int->Int->U}(hC:∀ i j,Cb i j=true->C i j)(hg:∀ i j H α,RepU K H α (g' i j) (g i j)):Cm K (rI C g) (Yx Cb g'):=by
 intro H α L u w x y z L' Q A ru rw e q
 unfold Yx at e
 split at e
 ·split at e
  ·rename_i h
   cases e
   unfold RepU at ru rw
   exact ⟨_,_,ru,rw,hC _ _ h,q _ H α (.refl _ _) A (hg _ _ _ _)⟩
  ·cases e
 ·cases e
noncomputable def Mx(g:Int->Int->U):S2:=fun u w L=>match u,w with
 | .int i,.int j=>some (g i j,L)
 | _,_=>none
theorem Qb{K:aA}{g:Int->Int->V}{g':Int->Int->U}(hg:∀ i j H α,RepU K H α (g' i j) (g i j)):Cm K (rI0 g) (Mx g'):=by
 intro H α L u w x y z L' Q A ru rw e q
 unfold Mx at e
 split at e
 ·cases e
  unfold RepU at ru rw
  exact ⟨_,_,ru,rw,q _ H α (.refl _ _) A (hg _ _ _ _)⟩
 ·cases e
noncomputable def P5:S2:=Mx fun i j=>.int (i - j)
theorem Aen{K:aA}:Cm K (rI0 fun i j=>.int (i - j)) P5:=Qb fun _ _ _ _=>rfl
noncomputable def Agm(i j:Int):Bool:=(decide (-(2 ^ 64) < i)&&decide (i < 2 ^ 64)) || (decide (-(2 ^ 64) < j)&&decide (j < 2 ^ 64))
noncomputable def Aiv:S2:=fun u w L=>match u,w with
 | .int i,.int j=>if Agm i j=true then some (.int (i * j),L) else none
 | .str a,.int j=>if a.length<=1000/\-1000<=j/\j<=1000 then some (.str (Txt.mul a j),L) else none
 | .ref n,.int k=>(Ee L n).bind fun a=>if -1000000<=k/\k<=1000000/\Cv (a.length * k.toNat)=true then some (.ref L.length,L++[.lst (dG k.toNat a).flatten]) else none
 | _,_=>none
noncomputable def Agj(i j:Int):Bool:=decide (0 < j)&&decide (j < 1152921504606846976)
noncomputable def Ai5:S2:=Yx Agj fun i j=>.int (i / j)
noncomputable def Jh:S2:=Yx (fun _ j=>decide (0 < j)) fun i j=>.int (i % j)
theorem Adp{K:aA}:Cm K (rI (fun _ j=>0 < j) fun i j=>.int (i % j)) Jh:=Akp (fun i j h=>by simpa using h) fun _ _ _ _=>rfl
noncomputable def Agy(i j:Int):Bool:=decide (0<=j)&&decide (j<=1000000)&&decide (i.natAbs < 2 ^ 64)
noncomputable def Ahj:S2:=Yx Agy fun i j=>.int (i ^ j.toNat)
noncomputable def Ir:S2:=Mx fun i j=>.bl (decide (i<=j))
noncomputable def Vu:S2:=Mx fun i j=>.bl (decide (j < i))
noncomputable def We:S2:=Mx fun i j=>.bl (decide (j<=i))
noncomputable def Ala:S2:=Mx fun i j=>.bl (decide (i < j))
theorem Uo{K:aA}:Cm K (rI0 fun i j=>.bl (decide (i<=j))) Ir:=Qb fun _ _ _ _=>rfl
theorem Ahw{K:aA}:Cm K (rI0 fun i j=>.bl (decide (j < i))) Vu:=Qb fun _ _ _ _=>rfl
theorem Ahu{K:aA}:Cm K (rI0 fun i j=>.bl (decide (j<=i))) We:=Qb fun _ _ _ _=>rfl
noncomputable def mapO{β γ:Type}(f:β->Option γ):List β->Option (List γ)
 | []=>some []
 | u::r=>(f u).bind fun d=>(mapO f r).map fun ds=>d::ds
noncomputable def toP(L:UH):Nat->U->Option pF
 | 0,_=>none
 | _+1,.non=>some .none
 | _+1,.bl b=>some (.bool b)
 | _+1,.int i=>some (.int i)
 | _+1,.str x=>some (.str x)
 | n+1,.tup l=>(mapO (toP L n) l).map .tuple
 | n+1,.ref k=>(Al L k).bind fun l=>(mapO (toP L n) l).map .list
section
variable {X:Cx}{pins:List (Addr×Obj)}{σ:L2.St}{H:Hp}{s:aG}{α:List Addr}{L:UH}
theorem P8{n:Nat}(ih:∀ (u:U) (x:V) (v:aC) (d:pF),RepU X.K H α u x->RelV x v->toP L n u=some d->∃ as,Reads s.heap v d as):∀ (l:List U) (xs:List V) (vs:List aC) (ds:List pF),RepL X.K H α l xs->Vals xs vs->mapO (toP L n) l=some ds->∃ as,ReadsAll s.heap vs ds as
 | [],xs,vs,ds,r,hv,e=>by
  unfold RepL at r;subst r;cases hv;cases e;exact ⟨_,.nil⟩
 | u::l,xs,vs,ds,r,hv,e=>by
  unfold RepL at r
  obtain ⟨x,xr,rfl,r1,r2⟩:=r
  cases hv with
  | cons h1 h2=>
   obtain ⟨d,e1,e⟩:=aB.mp e
   obtain ⟨dr,e2,e⟩:=aH.mp e
   subst e
   obtain ⟨as,q1⟩:=ih u x _ d r1 h1 e1
   obtain ⟨bs,q2⟩:=P8 ih l xr _ dr r2 h2 e2
   exact ⟨_,.cons q1 q2⟩
theorem Jv(I:Inv X pins σ H s)(A:Abs X.K H α L):∀ (n:Nat) (u:U) (x:V) (v:aC) (d:pF),RepU X.K H α u x->RelV x v->toP L n u=some d->∃ as,Reads s.heap v d as
 | 0,_,_,_,_,_,_,e=>by cases e
 | n+1,u,x,v,d,r,hv,e=>by
  cases u with
  | non=>unfold RepU at r;subst r;cases hv;cases e;exact ⟨_,.none⟩
  | bl b=>unfold RepU at r;subst r;cases hv;cases e;exact ⟨_,.bool b⟩
  | int i=>unfold RepU at r;subst r;obtain ⟨t,rfl⟩:=hv;cases e;exact ⟨_,.int i t⟩
  | str y=>unfold RepU at r;subst r;obtain ⟨t,rfl⟩:=hv;cases e;exact ⟨_,.str y t⟩
  | tup l=>
   unfold RepU at r
   obtain ⟨a,xs,rfl,sq,r⟩:=r
   cases hv
   unfold toP at e
   obtain ⟨ds,e1,e⟩:=aH.mp e
   subst e
   obtain ⟨its,hv,⟨o,h1,h2,m,h3⟩,_⟩:=I.tuple sq
   obtain ⟨as,q⟩:=P8 (Jv I A n) l xs its ds r hv e1
   exact ⟨_,.tuple h1 h2 h3 (by simpa using q)⟩
  | ref k=>
   unfold RepU at r
   obtain ⟨a,ea,rfl⟩:=r
   cases hv
   unfold toP at e
   obtain ⟨l,hl,e⟩:=aB.mp e
   obtain ⟨ds,e1,e⟩:=aH.mp e
   subst e
   obtain ⟨a',xs,ea',sq,r⟩:=Ec A hl
   rw[ea] at ea';cases ea'
   obtain ⟨its,hv,⟨o,m,h1,h2,_,h3⟩,_⟩:=I.list sq
   obtain ⟨as,q⟩:=P8 (Jv I A n) l xs its ds r hv e1
   exact ⟨_,.list h1 h2 h3 (by simpa using q)⟩
end
noncomputable def eqP(u w:U)(L:UH):Option Bool:=(toP L 8 u).bind fun d=>(toP L 8 w).bind fun e=>if dZ d=true/\dZ e=true then some (cM d e) else none
inductive rEqU(K:aA)(neg:Bool)(x y:V)(H:Hp)(Q:VK):Prop
 | mk (α:_) (L:_) (u:_) (w:_) (b:_) (h0:Abs K H α L) (h1:RepU K H α u x) (h2:RepU K H α w y) (h3:eqP u w L=some b) (h4:Q (.bl (if neg then !b else b)) H):rEqU K neg x y H Q
theorem C3{X:Cx}(hu:X.A.units+64 < cLine):OpR X (cZ .Eq) (rEqU X.K false):=by
 intro pins s σ H x y v u Q I rx ry h
 obtain ⟨α,L,a,b,k,A,ra,rb,e,q⟩:=h
 obtain ⟨d,e1,e⟩:=aB.mp e
 obtain ⟨d2,e2,e⟩:=aB.mp e
 split at e
 ·rename_i hs
  cases e
  obtain ⟨as,q1⟩:=Jv I A 8 a x v d ra rx e1
  obtain ⟨bs,q2⟩:=Jv I A 8 b y u d2 rb ry e2
  exact eq_dataH q1 q2 hs.1 hs.2 hu ⟨.bl _,H,I,rfl,q⟩
 ·cases e
theorem Mw{X:Cx}(hu:X.A.units+64 < cLine):OpR X (cZ .NotEq) (rEqU X.K true):=by
 intro pins s σ H x y v u Q I rx ry h
 obtain ⟨α,L,a,b,k,A,ra,rb,e,q⟩:=h
 obtain ⟨d,e1,e⟩:=aB.mp e
 obtain ⟨d2,e2,e⟩:=aB.mp e
 split at e
 ·rename_i hs
  cases e
  obtain ⟨as,q1⟩:=Jv I A 8 a x v d ra rx e1
  obtain ⟨bs,q2⟩:=Jv I A 8 b y u d2 rb ry e2
  exact ne_dataH q1 q2 hs.1 hs.2 hu ⟨.bl _,H,I,rfl,q⟩
 ·cases e
noncomputable def Bw:S2:=fun u w L=>(eqP u w L).map fun b=>(.bl b,L)
noncomputable def C5:S2:=fun u w L=>(eqP u w L).map fun b=>(.bl (!b),L)
theorem C6{K:aA}:Cm K (rEqU K false) Bw:=by
 intro H α L u w x y z L' Q A ru rw e q
 obtain ⟨b,e1,e⟩:=aH.mp e
 cases e
 exact ⟨α,_,u,w,b,A,ru,rw,e1,q _ H α (.refl _ _) A rfl⟩
theorem Nq{K:aA}:Cm K (rEqU K true) C5:=by
 intro H α L u w x y z L' Q A ru rw e q
 obtain ⟨b,e1,e⟩:=aH.mp e
 cases e
 exact ⟨α,_,u,w,b,A,ru,rw,e1,q _ H α (.refl _ _) A rfl⟩
noncomputable def Alp(neg:Bool):S2:=fun u w L=>match u,w with
 | .non,.non=>some (.bl (!neg),L)
 | .bl a,.bl b=>some (.bl (if neg then !(a == b) else a == b),L)
 | .int _,.non=>some (.bl neg,L)
 | .bl _,.non=>some (.bl neg,L)
 | .str _,.non=>some (.bl neg,L)
 | .tup _,.non=>some (.bl neg,L)
 | .ref _,.non=>some (.bl neg,L)
 | _,_=>none
noncomputable def isSome:U->Bool
 | .non=>false
 | _=>true
theorem RepL.atI{K:aA}{H:Hp}{α:List Addr}{us:List U}{xs:List V}{i:Int}{u:U}(r:RepL K H α us xs)(h:L2.atI us i=some u):∃ x,L2.atI xs i=some x/\RepU K H α u x:=by
 unfold L2.atI at h ⊢
 obtain ⟨j,e1,e2⟩:=aB.mp h
 obtain ⟨x,e3,r3⟩:=r.get e2
 exact ⟨x,by rw[<- r.length,e1];exact e3,r3⟩
noncomputable def Bs:S2:=fun u w L=>match u,w with
 | .tup l,.int i=>(L2.atI l i).map fun z=>(z,L)
 | .ref n,.int i=>(Al L n).bind fun l=>(L2.atI l i).map fun z=>(z,L)
 | .str x,.int i=>if Cv x.length=true then (L2.atI x.cps.toList i).map fun c=>(.str ⟨#[c]⟩,L) else none
 | _,_=>none
theorem E2{K:aA}:Cm K (rIx K) Bs:=by
 intro H α L u w x y z L' Q A ru rw e q
 unfold Bs at e
 split at e
 ·obtain ⟨c,e1,e⟩:=aH.mp e
  cases e
  unfold RepU at ru rw
  obtain ⟨a,xs,rfl,sq,r⟩:=ru
  obtain ⟨v,e2,r2⟩:=r.atI e1
  exact .inr (.inl ⟨a,xs,_,v,rfl,rw,sq,e2,q _ H α (.refl _ _) A r2⟩)
 ·obtain ⟨l,hl,e⟩:=aB.mp e
  obtain ⟨c,e1,e⟩:=aH.mp e
  cases e
  obtain ⟨a,xs,ea,sq,r⟩:=Ec A hl
  obtain ⟨a',ea',rfl⟩:=ru.ref_of A
  rw[ea] at ea';cases ea'
  unfold RepU at rw
  obtain ⟨v,e2,r2⟩:=r.atI e1
  exact .inl ⟨a,xs,_,v,rfl,rw,sq,e2,q _ H α (.refl _ _) A r2⟩
 ·split at e
  ·rename_i hs
   obtain ⟨c,e1,e⟩:=aH.mp e
   cases e
   unfold RepU at ru rw
   exact .inr (.inr ⟨_,_,c,ru,rw,Cr hs,e1,q _ H α (.refl _ _) A rfl⟩)
  ·cases e
 ·cases e
noncomputable def Xf(l:List U)(lo hi:Option Int):List U:=(l.drop (HT.sIx l.length 0 lo)).take (HT.sIx l.length l.length hi - HT.sIx l.length 0 lo)
theorem RepL.cut{K:aA}{H:Hp}{α:List Addr}{us:List U}{xs:List V}(r:RepL K H α us xs)(lo hi:Option Int):RepL K H α (Xf us lo hi) (Rw xs lo hi):=by
 unfold Xf Rw
 rw[r.length]
 exact (r.drop _).take _
noncomputable def Ny:SS:=fun u lo hi L=>match u with
 | .tup l=>if HT.sIx l.length 0 lo=0/\HT.sIx l.length l.length hi=l.length then none else some (.tup (Xf l lo hi),L)
 | .ref n=>(Al L n).map fun l=>(.ref L.length,L++[.lst (Xf l lo hi)])
 | _=>none
noncomputable def Aem(K:aA):V->Option Int->Option Int->Hp->VK->Prop:=fun x lo hi H Q=>Alb K x lo hi H Q\/Aki K x lo hi H Q
theorem Abi{X:Cx}:SlR X (Aem X.K):=Ah0.or Adw
theorem Uh{K:aA}:Abt K (Aem K) Ny:=by
 intro H α L u x lo hi z L' Q A ru e q
 unfold Ny at e
 split at e
 ·split at e
  ·cases e
  ·rename_i hn
   cases e
   unfold RepU at ru
   obtain ⟨a,xs,rfl,sq,r⟩:=ru
   refine .inl ⟨a,xs,rfl,sq,by rw[<- r.length];exact hn,fun p hp=>?_⟩
   obtain ⟨g,A',r'⟩:=A.tup (r.cut lo hi) hp
   exact q _ _ α g A' r'
 ·obtain ⟨l,hl,e⟩:=aH.mp e
  cases e
  obtain ⟨a,xs,ea,sq,r⟩:=Ec A hl
  obtain ⟨a',ea',rfl⟩:=ru.ref_of A
  rw[ea] at ea';cases ea'
  refine .inr ⟨a,xs,rfl,sq,fun p hp=>?_⟩
  obtain ⟨g,A',r'⟩:=A.lst (r.cut lo hi) hp
  exact q _ _ _ g A' r'
 ·cases e
noncomputable def toV:U->Option V
 | .non=>some .non
 | .bl b=>some (.bl b)
 | .int i=>some (.int i)
 | .str x=>some (.str x)
 | _=>none
theorem Vm{K:aA}{H:Hp}{α:List Addr}{u:U}{x y:V}(r:RepU K H α u x)(h:toV u=some y):x=y/\Hg y=true:=by
 cases u <;> simp only[toV] at h <;> first
  | (cases h;unfold RepU at r;exact ⟨r,rfl⟩)
  | cases h
theorem P6{K:aA}{H:Hp}{α:List Addr}:∀ {us:List U} {xs ys:List V},RepL K H α us xs->mapO toV us=some ys->xs=ys/\ys.all Hg=true
 | [],xs,ys,r,h=>by unfold RepL at r;subst r;cases h;exact ⟨rfl,rfl⟩
 | u::us,xs,ys,r,h=>by
  unfold RepL at r
  obtain ⟨x,xr,rfl,r1,r2⟩:=r
  obtain ⟨y,e1,h⟩:=aB.mp h
  obtain ⟨yr,e2,h⟩:=aH.mp h
  subst h
  obtain ⟨rfl,h1⟩:=Vm r1 e1
  obtain ⟨rfl,h2⟩:=P6 r2 e2
  exact ⟨rfl,by simp[h1,h2]⟩
noncomputable def Kq(neg:Bool):S2:=fun u w L=>match w with
 | .tup l=>(toV u).bind fun x=>(mapO toV l).map fun xs=>(.bl (if neg then !inV x xs else inV x xs),L)
 | .ref n=>(Al L n).bind fun l=>(toV u).bind fun x=>(mapO toV l).map fun xs=>(.bl (if neg then !inV x xs else inV x xs),L)
 | .str j=>match u with
  | .str i=>some (.bl (if neg then !(!(cA j i 0 j.length 1).isEmpty) else !(cA j i 0 j.length 1).isEmpty),L)
  | _=>none
 | _=>none
noncomputable def Aln(K:aA)(neg:Bool):R2:=fun x y H Q=>rIn K neg x y H Q\/∃ i j,x = .str i/\y = .str j/\Q (.bl (if neg then !(!(cA j i 0 j.length 1).isEmpty) else !(cA j i 0 j.length 1).isEmpty)) H
theorem Ac1{X:Cx}:OpR X (cZ .In) (Aln X.K false):=Yl.or Xk
theorem Aa1{K:aA}(neg:Bool):Cm K (Aln K neg) (Kq neg):=by
 intro H α L u w x y z L' Q A ru rw e q
 unfold Kq at e
 split at e
 ·obtain ⟨x',e1,e⟩:=aB.mp e
  obtain ⟨xs,e2,e⟩:=aH.mp e
  cases e
  unfold RepU at rw
  obtain ⟨a,ys,rfl,sq,r⟩:=rw
  obtain ⟨rfl,f1⟩:=Vm ru e1
  obtain ⟨rfl,f2⟩:=P6 r e2
  exact .inl ⟨a,ys,rfl,.inr sq,f1,f2,q _ H α (.refl _ _) A rfl⟩
 ·obtain ⟨l,hl,e⟩:=aB.mp e
  obtain ⟨x',e1,e⟩:=aB.mp e
  obtain ⟨xs,e2,e⟩:=aH.mp e
  cases e
  obtain ⟨a,ys,ea,sq,r⟩:=Ec A hl
  obtain ⟨a',ea',rfl⟩:=rw.ref_of A
  rw[ea] at ea';cases ea'
  obtain ⟨rfl,f1⟩:=Vm ru e1
  obtain ⟨rfl,f2⟩:=P6 r e2
  exact .inl ⟨a,ys,rfl,.inl sq,f1,f2,q _ H α (.refl _ _) A rfl⟩
 ·split at e
  ·cases e
   unfold RepU at ru rw
   exact .inr ⟨_,_,ru,rw,q _ H α (.refl _ _) A rfl⟩
  ·cases e
 ·cases e
noncomputable def lenU(u:U)(L:UH):Option Nat:=match u with
 | .str y=>if Cv y.length=true then some y.length else none
 | .tup l=>some l.length
 | .ref n=>(Al L n).map iH
 | _=>none
noncomputable def Bp:SC:=fun us L=>match us with
 | [u]=>(lenU u L).map fun (n:Nat)=>(U.int (n:Int),L)
 | _=>none
theorem G2{K:aA}:Q1 K (fun xs H Q=>∃ x n,xs=[x]/\Aj4 K x H n/\Q (.int n) H) Bp:=by
 intro H α L us xs z L' Q A r e q
 unfold Bp at e
 split at e
 ·rename_i u
  obtain ⟨n,e1,e⟩:=aH.mp e
  cases e
  obtain ⟨x,rfl,rx⟩:=r.one
  refine ⟨x,n,rfl,?_,q _ H α (.refl _ _) A rfl⟩
  cases u with
  | str y=>
   unfold lenU at e1
   simp only at e1
   split at e1
   ·rename_i hs;cases e1;unfold RepU at rx;subst rx;exact ⟨Cr hs,rfl⟩
   ·cases e1
  | tup l=>
   cases e1
   unfold RepU at rx
   obtain ⟨a,ys,rfl,sq,r2⟩:=rx
   exact .inr ⟨ys,sq,r2.length⟩
  | ref k=>
   obtain ⟨l,hl,e2⟩:=aH.mp e1
   subst e2
   obtain ⟨a,ys,ea,sq,r2⟩:=Ec A hl
   obtain ⟨a',ea',rfl⟩:=rx.ref_of A
   rw[ea] at ea';cases ea'
   exact .inl ⟨ys,sq,r2.length⟩
  | _=>cases e1
 ·cases e
noncomputable def toI:U->Option Int
 | .int i=>some i
 | _=>none
theorem Qw{K:aA}{H:Hp}{α:List Addr}:∀ {us:List U} {xs:List V} {ns:List Int},RepL K H α us xs->mapO toI us=some ns->xs=ns.map V.int
 | [],xs,ys,r,h=>by unfold RepL at r;subst r;cases h;rfl
 | u::us,xs,ys,r,h=>by
  unfold RepL at r
  obtain ⟨x,xr,rfl,r1,r2⟩:=r
  obtain ⟨y,e1,h⟩:=aB.mp h
  obtain ⟨yr,e2,h⟩:=aH.mp h
  subst h
  cases u <;> simp only[toI] at e1 <;> first
   | (cases e1;unfold RepU at r1;subst r1;rw[Qw r2 e2];rfl)
   | cases e1
section
variable {X:Cx}
theorem Yo(hc:X.calm=true):CallR X (.builtin "sum") (fun xs H Q=>∃ (p:Addr) (ns:List Int),xs=[.ref p]/\SqL X.K H p (ns.map V.int)/\Q (.int ns.sum) H):=by
 intro pins s σ H xs us Q I r h
 obtain ⟨p,ns,rfl,hq,q⟩:=h
 obtain ⟨u,rfl,rx⟩:=Sf r
 cases rx
 obtain ⟨its,r',pl,hz⟩:=I.list hq
 have hi:kU its ns:=Nu r'
 obtain ⟨m,F⟩:=I.fr
 obtain ⟨xs,hx⟩:=hi.allInts.items
 have hl':s.heap.IsList p (intItems xs):=hx ▸ pl.isList
 refine sum_intListG (I.ok.hd hc) hl' fun h' tk t' hk=>?_
 have e1:ns=xs.toList.map (·.1):=by
  rw[<- nums_intItems,<- hx]
  exact (show numsOf its.toArray.toList=ns from hi.numsOf).symm
 have e2:preSum (numAt xs) xs.size=ns.sum:=by
  rw[preSum_eq,fB (by simp),e1]
 rw[e2]
 exact ⟨.int ns.sum,H,I.kept hk,⟨_,rfl⟩,q⟩
theorem Xn(hc:X.calm=true):CallR X (.builtin "sum") (fun xs H Q=>∃ (p:Addr) (ns:List Int),xs=[.ref p]/\SqT X.K H p (ns.map V.int)/\Q (.int ns.sum) H):=by
 intro pins s σ H xs us Q I r h
 obtain ⟨p,ns,rfl,hq,q⟩:=h
 obtain ⟨u,rfl,rx⟩:=Sf r
 cases rx
 obtain ⟨its,r',pl,hz⟩:=I.tuple hq
 have hi:kU its ns:=Nu r'
 obtain ⟨xs,hx⟩:=hi.allInts.items
 have hl':s.heap.IsTuple p (intItems xs):=hx ▸ pl
 refine PySem.W.ktm_sumG (I.ok.hd hc) hl' fun h' tk t' hk=>?_
 have e1:ns=xs.toList.map (·.1):=by
  rw[<- nums_intItems,<- hx]
  exact (show numsOf its.toArray.toList=ns from hi.numsOf).symm
 have e2:preSum (numAt xs) xs.size=ns.sum:=by
  rw[preSum_eq,fB (by simp),e1]
 rw[e2]
 exact ⟨.int ns.sum,H,I.kept hk,⟨_,rfl⟩,q⟩
theorem Pd(hc:X.calm=true):CallR X (.builtin "sum") (fun xs H Q=>(∃ (p:Addr) (ns:List Int),xs=[.ref p]/\SqL X.K H p (ns.map V.int)/\Q (.int ns.sum) H)\/∃ (p:Addr) (ns:List Int),xs=[.ref p]/\SqT X.K H p (ns.map V.int)/\Q (.int ns.sum) H):=(Yo hc).or (Xn hc)
end
noncomputable def Dq:SC:=fun us L=>match us with
 | [.ref n]=>(Al L n).bind fun l=>(mapO toI l).map fun ns=>(.int ns.sum,L)
 | [.tup l]=>(mapO toI l).map fun ns=>(.int ns.sum,L)
 | _=>none
theorem Lj{K:aA}{H:Hp}{α:List Addr}{L:UH}{n:Nat}{l:List U}{x:V}(A:Abs K H α L)(hl:Al L n=some l)(rx:RepU K H α (.ref n) x):∃ a ys,x = .ref a/\SqL K H a ys/\RepL K H α l ys:=by
 obtain ⟨a,ys,ea,sq,r2⟩:=Ec A hl
 obtain ⟨a',ea',rfl⟩:=rx.ref_of A
 rw[ea] at ea';cases ea'
 exact ⟨a,ys,rfl,sq,r2⟩
theorem Wj{K:aA}:Q1 K (fun xs H Q=>(∃ (p:Addr) (ns:List Int),xs=[.ref p]/\SqL K H p (ns.map V.int)/\Q (.int ns.sum) H)\/∃ (p:Addr) (ns:List Int),xs=[.ref p]/\SqT K H p (ns.map V.int)/\Q (.int ns.sum) H) Dq:=by
 intro H α L us xs z L' Q A r e q
 unfold Dq at e
 split at e
 ·obtain ⟨l,hl,e⟩:=aB.mp e
  obtain ⟨ns,e1,e⟩:=aH.mp e
  cases e
  obtain ⟨x,rfl,rx⟩:=r.one
  obtain ⟨a,ys,rfl,sq,r2⟩:=Lj A hl rx
  rw[Qw r2 e1] at sq
  exact .inl ⟨a,ns,rfl,sq,q _ H α (.refl _ _) A rfl⟩
 ·obtain ⟨ns,e1,e⟩:=aH.mp e
  cases e
  obtain ⟨x,rfl,rx⟩:=r.one
  unfold RepU at rx
  obtain ⟨a,ys,rfl,sq,r2⟩:=rx
  rw[Qw r2 e1] at sq
  exact .inr ⟨a,ns,rfl,sq,q _ H α (.refl _ _) A rfl⟩
 ·cases e
noncomputable def Ef:SC:=fun us L=>match us with
 | [.ref n]=>(Al L n).map fun l=>(.tup l,L)
 | [.tup l]=>some (.tup l,L)
 | _=>none
theorem Pc{K:aA}:Q1 K (fun xs H Q=>∃ p ys,xs=[.ref p]/\((SqL K H p ys/\∀ l,H l=none->Q (.ref l) (upd H l (.tup ys)))\/(SqT K H p ys/\Q (.ref p) H))) Ef:=by
 intro H α L us xs z L' Q A r e q
 unfold Ef at e
 split at e
 ·obtain ⟨l,hl,e⟩:=aH.mp e
  cases e
  obtain ⟨x,rfl,rx⟩:=r.one
  obtain ⟨a,ys,rfl,sq,r2⟩:=Lj A hl rx
  refine ⟨a,ys,rfl,.inl ⟨sq,fun p hp=>?_⟩⟩
  obtain ⟨g,A',r'⟩:=A.tup r2 hp
  exact q _ _ _ g A' r'
 ·cases e
  obtain ⟨x,rfl,rx⟩:=r.one
  have rx':=rx
  unfold RepU at rx
  obtain ⟨a,ys,rfl,sq,r2⟩:=rx
  exact ⟨a,ys,rfl,.inr ⟨sq,q _ H α (.refl _ _) A rx'⟩⟩
 ·cases e
theorem V7{K:aA}{H:Hp}{α:List Addr}{L:UH}{n:Nat}{l:List U}{x:V}(A:Abs K H α L)(hl:Ee L n=some l)(rx:RepU K H α (.ref n) x):∃ a ys,x = .ref a/\α[n]? = some a/\H a=some (.lst ys)/\RepL K H α l ys:=by
 obtain ⟨a,ys,ea,sq,r2⟩:=Ac7 A hl
 obtain ⟨a',ea',rfl⟩:=rx.ref_of A
 rw[ea] at ea';cases ea'
 exact ⟨a,ys,rfl,ea,sq,r2⟩
noncomputable def gSub(fo fi:FE):FG:=fun v δ L=>(fo δ L).bind fun p=>(fi δ p.2).bind fun q=>match p.1,q.1 with
 | .ref n,.int k=>(Ee q.2 n).bind fun l=>(ixN l.length k).map fun j=>(δ,q.2.set n (.lst (l.set j v)))
 | _,_=>none
noncomputable def Ab9(u:U)(L:UH):Option String:=match u with
 | .non=>some "NoneType"
 | .bl _=>some "bool"
 | .int _=>some "int"
 | .str _=>some "str"
 | .tup _=>some "tuple"
 | .ref n=>match L[n]? with
  | some (.lst _)=>some "list"
  | some (.ro _)=>some "list"
  | some (.dic _)=>some "dict"
  | _=>none
noncomputable def isT(t c:String):Bool:=t == c || (t == "bool" && c == "int")
noncomputable def Am4(c:String)(f:FE):FE:=fun δ L=>(f δ L).bind fun p=>(Ab9 p.1 p.2).map fun t=>(.bl (isT t c),p.2)
theorem Ah8{K:aA}{F:FN}{H:Hp}{a:Addr}{ns:List Int}{E:XK}(ho:Afn H)(hS:SqL K H a (ns.map V.int))(h:∃ L',F [.ref 0] [.ro (ns.map U.int)]=some (.bl true,L')):spF K 1 F [.ref a] H (fun v _=>v = .bl true) E:=by
 obtain ⟨L',e⟩:=h
 have ro:RO K H a (ns.map V.int):=by
  rcases hS with (q | ⟨o,q⟩) | q
  ·rcases ho a with z | ⟨o,xs,z⟩
   ·rw[z] at q;cases q
   ·rw[z] at q;cases q
  ·exact .inl ⟨o,q⟩
  ·exact .inr q
 refine ⟨[a],[.ro (ns.map U.int)],[.ref 0],⟨rfl,fun i j b o o' e1 e2 e3 e4=>?_,fun i b o e1 e2=>?_⟩,.cons ?_ .nil,rfl,.bl true,L',e,fun v H' α' _ _ r=>r⟩
 ·cases i with
  | zero=>cases j with
   | zero=>exact .inl rfl
   | succ j=>simp at e2
  | succ i=>simp at e1
 ·cases i with
  | zero=>simp at e1 e2;subst e1;subst e2;exact ⟨_,ro,RepL.ints ns⟩
  | succ i=>simp at e1
 ·unfold RepU;exact ⟨a,rfl,rfl⟩
theorem Ht(env:fV):∀ (names:List (Str×gC)) (cs:List (Str×Addr)),(∀ y∈names,y.2 = .free->∃ c,env.cells.lookup y.1=some c)->(∀ x c,cs.lookup x=some c->env.cells.lookup x=some c) ->
  ∃ cl:List (Str×Addr),(forIn names cs fun (x:Str×gC) r=>if (x.2 == fK)=true then do let c <- cellOf env x.1;pure (fI ((x.1,c)::r)) else pure (fI r):Sem (List (Str×Addr)))=pure cl /\
   (∀ x c,cl.lookup x=some c->env.cells.lookup x=some c)/\(∀ y∈names,y.2 = .free->∃ c,cl.lookup y.1=some c)/\∀ x,(∃ c,cs.lookup x=some c)->∃ c,cl.lookup x=some c
 | [],cs,_,h2=>⟨cs,rfl,h2,(fun _ h=>nomatch h),fun _ h=>h⟩
 | (n,k)::r,cs,h1,h2=>by
  cases hk:k == fK with
  | true=>
   have hk':k = .free:=by simpa using hk
   obtain ⟨c,hc⟩:=h1 (n,k) (bK ..) hk'
   have look:∀ x c',cX x ((n,c)::cs)=some c'->env.cells.lookup x=some c':=fun x c' e=>by
    rw[bI] at e
    cases hx:x == n with
    | true => rw [hx] at e; simp at e; subst e; have : x = n := by simpa using hx
              rw[this];exact hc
    | false=>rw[hx] at e;exact h2 x c' e
   obtain ⟨cl,e,p1,p2,p3⟩:=Ht env r ((n,c)::cs) (fun y hy=>h1 y (bD _ hy)) look
   refine ⟨cl,?_,p1,fun y hy hf=>?_,fun x hx=>?_⟩
   ·rw[iQ]
    have e0:(cellOf env n:Sem Addr)=pure c:=by unfold cellOf;rw[hc]
    simp only[hk,if_true,e0]
    exact e
   ·rcases bV.mp hy with rfl | hy
    ·exact p3 n ⟨c,by simp⟩
    ·exact p2 y hy hf
   ·refine p3 x ?_
    rw[bI]
    cases hx':x == n with
    | true=>exact ⟨c,rfl⟩
    | false=>exact hx
  | false=>
   obtain ⟨cl,e,p1,p2,p3⟩:=Ht env r cs (fun y hy=>h1 y (bD _ hy)) h2
   refine ⟨cl,?_,p1,fun y hy hf=>?_,p3⟩
   ·rw[iQ]
    simp only[hk,dL,if_false]
    exact e
   ·rcases bV.mp hy with rfl | hy
    ·rw[show k=fK from hf] at hk;cases hk
    ·exact p2 y hy hf
theorem Hc{scope:gR}{env:fV}(h:∀ y∈scope.names,y.2 = .free->∃ c,env.cells.lookup y.1=some c) :
  ∃ cl,closureFor scope env=pure cl/\(∀ x c,cl.lookup x=some c->env.cells.lookup x=some c)/\∀ y∈scope.names,y.2 = .free->∃ c,cl.lookup y.1=some c:=by
 obtain ⟨cl,e,p1,p2,_⟩:=Ht env scope.names [] h (fun x c e=>by simp at e)
 refine ⟨cl,?_,p1,p2⟩
 unfold closureFor
 show (forIn scope.names [] _ >>= fun cs=>pure cs)=pure cl
 have:(forIn scope.names ([]:List (Str×Addr)) (fun (x:Str×gC) (r:List (Str×Addr))=>if (x.2 == fK)=true then do let c <- cellOf env x.1;pure (fI ((x.1,c)::r)) else pure (fI r)):Sem (List (Str×Addr))) >>= (fun cs=>pure cs)=pure cl:=by rw[e];rfl
 exact this
noncomputable def blk(X:Cx)(scope:gR)(cl:List (Str×Addr))(C:Addr)(N':List Str)(s2:aG)(H2:Hp)(fp:List Addr)(pins:List (Addr×Obj)):Cx:=
 { X with env:=compEnvC scope cl C X.env,N:=N',s₀:=s2,H₀:=H2,outer:=X.stack,ex:=fp,fn:=fun _=>false,pn:=X.pn++pins,xe:=fun _ _=>False }
theorem HOk.adopt{P:aW}{w:bG}{H:Hp}{h:Heap}{a:Addr}{o:HO}(x:HOk P w H h)(hn:H a=none)(new:ObjOk P w (upd H a o) h a o):HOk P w (upd H a o) h:=fun b u e=>by
 by_cases hb:b=a
 ·subst hb;rw[upd_same] at e;cases e;exact new
 ·rw[Ap hb] at e
  exact (x b u e).stay (fun c v _ q=>q) (fun c q=>by rw[Ap (Au q hn)];exact q) fun c xs q=>by rw[Ap (Au q hn)];exact q
theorem Un.adopt{fs ex:List Addr}{H H1:Hp}{h h1:Heap}{a:Addr}{o:HO}(u:Un fs ex H H1 h h1)(hn:H1 a=none)(ha:h.get? a=none):Un fs ex H (upd H1 a o) h h1 where
 keep:=u.keep
 slot:=u.slot
 free:=fun b ob q n hx=>by
  have:b≠a:=fun z=>by rw[z,ha] at q;cases q
  rw[Ap this];exact u.free b ob q n hx
 there:=u.there
 tups:=fun b xs q=>by have q':=u.tups b xs q;rw[Ap (Au q' hn)];exact q'
 frzs:=fun b ob xs q=>by have q':=u.frzs b ob xs q;rw[Ap (Au q' hn)];exact q'
 tbls:=fun b ps q=>by
  obtain ⟨m,q'⟩:=u.tbls b ps q
  exact ⟨m,by rw[Ap (Au q' hn)];exact q'⟩
structure CompSc(X:Cx)(scope:gR)(N':List Str)(ix:List (Option Nat)):Prop where
 kind:scope.kind = .function
 cell:(scope.names.all fun y=>y.2 != .cell)=true
 loc:(scope.names.all fun y=>y.2 != .local || scope.names.lookup y.1 == some .local)=true
 free:(scope.names.all fun y=>y.2 != .free || (X.env.kindOf y.1 == some .cell || X.env.kindOf y.1 == some .free))=true
 ixs:((N'.zip ix).all fun p=>match p.2 with | none=>true | some i=>(X.N[i]? == some p.1)&&(scope.names.lookup p.1 == some .free))=true
 len:N'.length=ix.length
noncomputable def inner(ix:List (Option Nat))(σ:L2.St):L2.St:=ix.map fun o=>o.bind fun i=>(σ[i]?).join
noncomputable def Aam(J:It)(g:TG)(tt:TT)(te:TE)(σ':L2.St)(H:Hp)(Fin:List V->Hp->Prop):Prop:=∃ W:Nat->Nat->List V->L2.St->Hp->Prop,(∃ m,W 0 m [] σ' H)/\∀ i m acc σ1 H1,W i m acc σ1 H1 ->
 (J.stop i H1/\Fin acc H1)\/(J.go i H1/\∀ x H3,J.yld i H1 x H3->g x σ1 H3 fun σ2 H4=>tt σ2 H4 fun b H5=>
  if b=true then te σ2 H5 fun y H6=>acc.length < sizeLine/\∃ m',m' < m/\W (i+1) m' (acc++[y]) σ2 H6 else ∃ m',m' < m/\W (i+1) m' acc σ2 H5)
section
variable {X:Cx}{scope:gR}{N':List Str}{ix:List (Option Nat)}{pins:List (Addr×Obj)}{σ:L2.St}{H2:Hp}{s2:aG}{cl:List (Str×Addr)}{fp:List Addr}
theorem Eh{β:Type}{x:Str}{v:β}:∀ {l:List (Str×β)},l.lookup x=some v->(x,v)∈l
 | [],h=>by simp at h
 | (n,k)::r,h=>by
  rw[bI] at h
  cases hx:x == n with
  | true => rw [hx] at h; simp at h; have : x = n := by simpa using hx
            subst this;subst h;exact bK ..
  | false=>rw[hx] at h;exact bD _ (Eh h)
theorem Ed{env:fV}{x:Str}:∀ {names:List (Str×gC)} {k:gC},(names.map fun (n,k)=>if (k == fK&&env.scope.kind == .function&&env.kindOf n == some .cell) then (n,mQ) else (n,k)).lookup x=some k ->
  names.lookup x=some k\/(names.lookup x=some .free/\k = .cell)
 | [],k,h=>by simp at h
 | (n,k')::r,k,h=>by
  have ih:=@Ed env x r k
  rw[aM] at h
  cases hx:x == n with
  | true=>
   rw[bI,hx]
   simp only at h ⊢
   split at h
   ·rename_i hc
    rw[bI,hx] at h
    simp at h
    simp only[cC] at hc
    have:k' = .free:=by simpa using hc.1.1
    subst this
    exact .inr ⟨rfl,h.symm⟩
   ·rw[bI,hx] at h
    exact .inl h
  | false=>
   rw[bI,hx]
   simp only at h ⊢
   split at h
   ·rw[bI,hx] at h;exact ih h
   ·rw[bI,hx] at h;exact ih h
theorem Dy{env:fV}{x:Str}:∀ {names:List (Str×gC)},names.lookup x=some .free ->
  (names.map fun (n,k)=>if (k == fK&&env.scope.kind == .function&&env.kindOf n == some .cell) then (n,mQ) else (n,k)).lookup x=some .free\/(names.map fun (n,k)=>if (k == fK&&env.scope.kind == .function&&env.kindOf n == some .cell) then (n,mQ) else (n,k)).lookup x=some .cell
 | [],h=>by simp at h
 | (n,k')::r,h=>by
  have ih:=@Dy env x r
  rw[aM]
  cases hx:x == n with
  | true=>
   rw[bI,hx] at h
   simp at h
   subst h
   simp only
   split
   ·right;rw[bI,hx]
   ·left;rw[bI,hx]
  | false=>
   rw[bI,hx] at h
   have:=ih h
   simp only
   split
   ·rw[bI,hx];exact this
   ·rw[bI,hx];exact this
theorem Yn(S:CompSc X scope N' ix)(hcalm:X.calm=true)(I2:Inv X pins σ H2 s2)(hcl:∀ x c,cl.lookup x=some c->X.env.cells.lookup x=some c)(hcl2:∀ y∈scope.names,y.2 = .free->∃ c,cl.lookup y.1=some c)
  (f2:∀ b∈fp,Hv X pins H2 b) (hfp:∀ b∈fp,b < s2.heap.objs.size) {C:Addr} {h4:Heap} {m:Str->Option aC} {t4:Nat} (hC:s2.heap.objs.size<=C) (hns:h4.Ns C m) (keep:∀ b o,s2.heap.get? b=some o->h4.get? b=some o) :
  Inv (blk X scope cl C N' s2 H2 fp pins) [] (inner ix σ) H2 { s2 with heap:=h4,toks:=t4 }:=by
 have hkindC:(relabel scope X.env).kind = .function:=S.kind
 have ok:(blk X scope cl C N' s2 H2 fp pins).Ok:=
  { mod:=I2.ok.mod
    kind:=hkindC
    glob:=I2.ok.glob
    blt:=I2.ok.blt
    above:=hC
    inj:=fun x y c e1 e2=>I2.ok.inj x y c (hcl x c e1) (hcl y c e2)
    has:=fun x h=>by
     have h':(relabel scope X.env).names.lookup x=some .cell\/(relabel scope X.env).names.lookup x=some .free:=h
     have hfree:scope.names.lookup x=some .free:=by
      rcases h' with h' | h'
      ·rcases Ed h' with q | ⟨q,_⟩
       ·have:=bM.mp S.cell _ (Eh q)
        simp at this
       ·exact q
      ·rcases Ed h' with q | ⟨q,z⟩
       ·exact q
       ·cases z
     exact hcl2 _ (Eh hfree) rfl
    cab:=fun x c h=>by cases h
    hd:=fun _=>I2.ok.hd hcalm
    frames:=I2.ok.frames
    stk:=.inl rfl
    exf:=fun b hb=>⟨bR (aS (hfp b hb) hC),fun x c e=>(f2 b hb).2.2.2.2.1 x c (hcl x c e)⟩
    bs:=fun b o e=>I2.bs b o e
    bsz:=cF I2.ok.bsz I2.sz
    noex:=fun b o e hb=>by
     rcases (f2 b hb).2.2.2.1 with z | z
     ·exact I2.ok.noex b o e z
     ·exact absurd (aS (aO (I2.ok.bs b o e).1) z) (dB _)
    exfs:=fun b hb z=>by
     rcases bV.mp (I2.stkSub b z) with q | q
     ·exact (f2 b hb).2.1 q
     ·exact (f2 b hb).2.2.1 q
    funs:=I2.stack
    frf:=I2.stkFree }
 obtain ⟨m0,hn0,hl0⟩:=id I2.loc
 refine ⟨ok,rfl,I2.bare,Un.kept keep,⟨m,hns,fun j x v e1 e2 e3=>?_⟩,fun x c e=>?_,I2.hok.fresh hC,fun x c e=>I2.freeC x c (hcl x c e),fun p hp=>?_,I2.hok.kept keep,?_⟩
 ·-- a name that the block takes along
  have e1':N'[j]? = some x:=e1
  have e2':(inner ix σ)[j]? = some (some v):=e2
  unfold inner at e2'
  rw[cY] at e2'
  cases hx:ix[j]? with
  | none=>rw[hx] at e2';simp at e2'
  | some o=>
   rw[hx] at e2'
   cases o with
   | none=>simp at e2'
   | some i=>
    simp at e2'
    have hz:(x,some i)∈N'.zip ix:=eQ (i:=j) (by rw[List.getElem?_zip_eq_some];exact ⟨e1',hx⟩)
    have hz':=bM.mp S.ixs _ hz
    simp only[cC,beq_iff_eq] at hz'
    obtain ⟨hXN,hfr⟩:=hz'
    have hσ:σ[i]? = some (some v):=by
     cases q:σ[i]? with
     | none=>rw[q] at e2';simp at e2'
     | some o=>rw[q] at e2';simp at e2';rw[e2']
    have hk:=bM.mp S.free _ (Eh hfr)
    simp at hk
    have hvis:Vis X.env.scope x:=by
     rcases hk with q | q
     ·exact .inr (.inl q)
     ·exact .inr (.inr q)
    obtain ⟨u,r,look⟩:=hl0 i x v hXN hσ hvis
    rcases look with ⟨q,_⟩ | ⟨_,c,ec,hc⟩
    ·rcases hk with z | z
     ·rw[z] at q;cases q
     ·rw[z] at q;cases q
    ·obtain ⟨c',ec'⟩:=hcl2 _ (Eh hfr) rfl
     have:c'=c:=by have:=hcl x c' ec';rw[ec] at this;cases this;rfl
     subst this
     refine ⟨u,r,.inr ⟨?_,c',ec',?_⟩⟩
     ·rcases Dy (env:=X.env) hfr with q | q
      ·exact .inr q
      ·exact .inl q
     ·obtain ⟨oc,ho,hd⟩:=hc
      exact ⟨oc,keep _ _ ho,hd⟩
 ·obtain ⟨v,oc,ho,hd⟩:=I2.cell x c (hcl x c e)
  exact ⟨v,oc,keep _ _ ho,hd⟩
 ·have hp':p∈X.pn++pins:=by simpa[blk] using hp
  obtain ⟨q1,q2,q3,q4,q5⟩:=I2.pin p hp'
  refine ⟨keep _ _ q1,q2,bR (aS (aO q1) hC),fun z=>?_,q5⟩
  rcases bV.mp (I2.stkSub p.1 z) with q | q
  ·exact q3 q
  ·exact q4 q
 ·show (inner ix σ).length=N'.length
  rw[S.len];simp[inner]
end
section
variable {X:Cx}{scope:gR}{N':List Str}{ix:List (Option Nat)}{pins:List (Addr×Obj)}{σ:L2.St}{H2:Hp}{s2:aG}{cl:List (Str×Addr)}{fp:List Addr}
noncomputable def Sj(X':Cx)(ifs:List Expr)(tt:TT):Prop:=∀ (pins:List (Addr×Obj)) (s:aG) (σ:L2.St) (H:Hp) (Q:Bool->Hp->Prop) (E:aC->aG->Prop),Inv X' pins σ H s->tt σ H Q->(∀ e s,X'.xe e s->E e s) ->
 wpAny (model X'.prog X'.w) X'.A (forIn ifs true fun c r=>if r=true then do let ok <- isTrue c X'.env (eval c X'.env);pure (fI ok) else pure (fI r)) (TP X' pins σ Q) E s
noncomputable def Aho:TT:=fun _ H Q=>Q true H
theorem Xu{X':Cx}:Sj X' [] Aho:=fun pins s σ H Q E I h _=>wpAny_tests_nil ⟨H,I,h⟩
theorem Xa{X':Cx}{c:Expr}{tt:TT}(h:PT X' c tt):Sj X' [c] tt:=fun pins s σ H Q E I q hE=>wpAny_tests_one (dI (h pins s σ H Q I q) (fun _ _ z=>z) hE)
noncomputable def B4(its:List aC)(n:Nat):Obj:={ cls:=.type "list",data:=.seq its.toArray n }
theorem Xp{elt tg iter:Expr}{ifs:List Expr}{pos:Pos}{it D C:Addr}{J:It}{tn:Nat->Heap->Prop}{g:TG}{tt:TT}{te:TE}{Fin:List V->Hp->Prop}{R:Result->aG->Prop}{X':Cx}
  (hX:X'.A=X.A/\X'.prog=X.prog/\X'.w=X.w/\X'.K=X.K/\X'.calm=true/\∀ e s,¬ X'.xe e s) (T:Turn X.prog X.w X.K tg J fp it tn) (hg:PG X' tg g) (ht:Sj X' ifs tt) (he:PE X' elt te)
  (hD1:s2.heap.objs.size<=D) (hDC:D≠C) (hC:s2.heap.objs.size<=C) (hfp:∀ b∈fp,Hv X' [] H2 b/\b≠D) (hDf:∀ H,H D=none->Hv X' [] H D)
  {s:aG} {σ1:L2.St} {H1:Hp} {n0:Nat} (I:Inv X' [(D,B4 [] n0)] σ1 H1 s) (st:tn 0 s.heap) (fr:∀ b∈fp,H1 b=none) (hloop:Aam J g tt te σ1 H1 Fin)
  (hR:∀ (s':aG) (σ':L2.St) (H':Hp) (acc:List V) (its:List aC) (n:Nat),Inv X' [(D,B4 its n)] σ' H' s'->Vals acc its->acc.length<=sizeLine->Fin acc H'->R (.ok .next) s') :
  iF (model X.prog X.w) X.A (.compLoop (.ListComp elt [⟨tg,iter,ifs,0⟩] scope pos) 0 (.ref it) (.ref D) X'.env) R s:=by
 obtain ⟨W,⟨m0,w0⟩,turn⟩:=hloop
 obtain ⟨hXA,hXp,hXw,hXK,hXc,hxe⟩:=hX
 have hfpo:∀ (o:Obj) (H:Hp),(∀ b∈fp,H b=none)->∀ b∈fp,Hv X' [(D,o)] H b:=fun o H hn b hb=>by
  obtain ⟨⟨_,q1,q2,q3,q4,q5⟩,q6⟩:=hfp b hb
  refine ⟨hn b hb,q1,q2,q3,q4,fun p hp=>?_⟩
  rcases fH.mp hp with z | z
  ·exact q5 p (dO _ z)
  ·have:p=(D,o):=by simpa using z
   rw[this];exact fun z=>q6 z.symm
 refine codeAny_loop rfl (fun n s=>∃ i acc its k σ1 H1,Inv X' [(D,B4 its k)] σ1 H1 s/\Vals acc its/\acc.length<=sizeLine/\tn i s.heap/\(∀ b∈fp,H1 b=none)/\W i n acc σ1 H1) (fun n s hI=>?_) m0 ⟨0,[],[],n0,σ1,H1,I,.nil,jV _,st,fr,w0⟩
 show wpAny _ X.A ((compTurn (.ListComp elt [⟨tg,iter,ifs,0⟩] scope pos) 0 (.ref it) (.ref D) X'.env).onRaise (fun x=>do noteFrame x X'.env;theTreesLotGoes x)) _ _ s
 refine wpAny_noted ?_
 rw[compTurn_list]
 obtain ⟨i,acc,its,k,σ1,H1,I,hv,hz,st,fr,w1⟩:=hI
 refine aE (wpAny_standAt (aE ?_))
 rcases turn i n acc σ1 H1 w1 with ⟨stop,fin⟩ | ⟨go,step⟩
 ·have h:=T.done X' hXp hXw hXK hXc i _ s σ1 H1 (notedBy (model X.prog X.w) X.A X'.env fun e s'=>R (.error e) s') I (hfpo _ H1 fr) st stop
  rw[hXA] at h
  refine thn h fun r s4 zz=>?_
  obtain ⟨hr,I4⟩:=zz
  subst hr
  exact aP (hR s4 σ1 H1 acc its k I4 hv hz fin)
 ·have h:=T.item X' hXp hXw hXK hXc i _ s σ1 H1 (notedBy (model X.prog X.w) X.A X'.env fun e s'=>R (.error e) s') I (hfpo _ H1 fr) st go
  rw[hXA] at h
  refine thn h fun r s4 zz=>?_
  obtain ⟨u,hr,h4⟩:=zz
  subst hr
  refine aE (thn h4 fun _ s5 zz=>?_)
  obtain ⟨x,H5,I5,r5,y5,st5,fr5⟩:=zz
  have I5':=I5.pinned (hfpo _ H5 fr5) (T.obj _ _ st5)
  have hg5:=hg _ s5 σ1 H5 x u _ I5' r5 (step x H5 y5)
  rw[hXp,hXw,hXA] at hg5
  refine aE (dI hg5 (fun _ s6 zz=>?_) fun e s z=>absurd z (hxe e s))
  obtain ⟨σ6,H6,I6,q6⟩:=zz
  have ht6:=ht _ s6 σ6 H6 _ (notedBy (model X.prog X.w) X.A X'.env fun e s'=>R (.error e) s') I6 q6 (fun e s z=>absurd z (hxe e s))
  rw[hXp,hXw,hXA] at ht6
  refine aE (thn ht6 fun b s7 zz=>?_)
  obtain ⟨H7,I7,q7⟩:=zz
  have back:∀ {σ8:L2.St} {H8:Hp} {s8:aG},Inv X' ([(D,B4 its k)]++Ng fp s5.heap) σ8 H8 s8->tn (i+1) s8.heap/\(∀ b∈fp,H8 b=none)/\s8.heap.get? D=some (B4 its k)/\H8 D=none:=fun {σ8 H8 s8} I8=>by
   refine ⟨T.keep _ _ _ st5 fun b hb o e=>(I8.pin (b,o) (bL _ (bL _ (Fq hb e)))).1,fun b hb=>?_,?_,?_⟩
   ·obtain ⟨o,e,d⟩:=T.obj _ _ st5 b hb
    exact (I8.pin (b,o) (bL _ (bL _ (Fq hb e)))).2.1
   ·exact (I8.pin (D,B4 its k) (bL _ (dO _ (jM.mpr rfl)))).1
   ·exact (I8.pin (D,B4 its k) (bL _ (dO _ (jM.mpr rfl)))).2.1
  cases b with
  | false=>
   obtain ⟨m',hm,w8⟩:=(q7:if false=true then _ else _)
   obtain ⟨st8,fr8,_,_⟩:=back I7
   refine aP ⟨rfl,m',hm,i+1,acc,its,k,σ6,H7,?_,hv,hz,st8,fr8,w8⟩
   exact I7.pins_of fun p hp=>I7.pin p (bL _ (dO _ hp))
  | true=>
   have q7':te σ6 H7 fun y H6=>acc.length < sizeLine/\∃ m',m' < n/\W (i+1) m' (acc++[y]) σ6 H6:=q7
   have he7:=he _ s7 σ6 H7 _ I7 q7'
   rw[hXp,hXw,hXA] at he7
   refine aE (aE (dI he7 (fun y s8 zz=>zz.elim fun v H8 I8 r8 zq=>?_) fun e s z=>absurd z (hxe e s)))
   obtain ⟨hlt,m',hm,w8⟩:=zq
   obtain ⟨st8,fr8,hDo,hDn⟩:=back I8
   have hlen:=hv.length
   have hisl:s8.heap.IsList D its.toArray:=⟨_,hDo,rfl,k,rfl⟩
   refine aE ?_
   obtain ⟨k',hd'⟩:∃ k',kX (·.push y) (B4 its k)=B4 (its++[y]) k':=⟨_,by simp[B4,kX];rfl⟩
   refine eW slot_list_append hisl.typeIs entry_list_append ?_ (args_list_append _ _)
   show wpAny _ _ (updateSeq D (·.push y) >>= fun _=>ret .none) _ _ s8
   refine aE (wpAny_updateSeq hDo rfl (aP ⟨.none,rfl,?_⟩))
   have hk9:∀ b o,b≠D->s8.heap.get? b=some o->(s8.heap.update D (kX (·.push y))).get? b=some o:=fun b o hb e=>(iX (h:=s8.heap) (a:=D) ..).2 b hb |>.trans e
   have hD9:(s8.heap.update D (kX (·.push y))).get? D=some (B4 (its++[y]) k'):=by
    rw[<- hd'];exact fM _ hDo (by rw[hd'];exact Obj.isFreed_of_seq (xs:=(its++[y]).toArray) (n:=k') rfl)
   have I8':Inv X' [] σ6 H8 s8:=I8.pins_of fun p hp=>by cases hp
   obtain ⟨d0,d1,d2,d3,d4,d5⟩:=hDf H8 hDn
   have I9:Inv X' [] σ6 H8 { s8 with heap:=s8.heap.update D (kX (·.push y)) }:=I8'.turned (t':=s8.toks) hk9 hDn d1 d3 d4 d5
   have I10:=I9.pins_of (pins':=[(D,B4 (its++[y]) k')]) fun p hp=>by
    have:p=(D,B4 (its++[y]) k'):=by simpa using hp
    subst this
    exact ⟨hD9,hDn,d1,d2,fun v z=>by simp[B4] at z⟩
   refine aP (aP ⟨rfl,m',hm,i+1,acc++[v],its++[y],k',σ6,H8,I10,Vals.append hv (.cons r8 .nil),by rw[eF];simp;omega,?_,fr8,w8⟩)
   refine T.keep _ _ _ st8 fun b hb o e=>hk9 b o (hfp b hb).2 e
end
section
variable {X:Cx}{scope:gR}{N':List Str}{ix:List (Option Nat)}
noncomputable def Ag2(ix:List (Option Nat))(wi:TI)(g:TG)(tt:TT)(te:TE):TE:=fun σ H Q=>wi σ H fun J H1=>Aam J g tt te (inner ix σ) H1 fun acc H2=>∀ p,H2 p=none->Q (.ref p) (upd H2 p (.lst acc))
theorem Xh{elt tg iter:Expr}{ifs:List Expr}{pos:Pos}{g:TG}{tt:TT}{te:TE}{pins:List (Addr×Obj)}{σ:L2.St}{H2:Hp}{s2:aG}{cl:List (Str×Addr)}{fp:List Addr}{it:Addr}{J:It}{tn:Nat->Heap->Prop}{E:aC->aG->Prop}{Fin:List V->Hp->Prop}{RR:aC->Addr->Result->aG->Prop}
  (S:CompSc X scope N' ix) (hcalm:X.calm=true) (hcl:∀ x c,cl.lookup x=some c->X.env.cells.lookup x=some c) (hcl2:∀ y∈scope.names,y.2 = .free->∃ c,cl.lookup y.1=some c)
  (hg:∀ C,PG (blk X scope cl C N' s2 H2 fp pins) tg g) (ht:∀ C,Sj (blk X scope cl C N' s2 H2 fp pins) ifs tt) (he:∀ C,PE (blk X scope cl C N' s2 H2 fp pins) elt te)
  (I2:Inv X pins σ H2 s2) (T:Turn X.prog X.w X.K tg J fp it tn) (st2:tn 0 s2.heap) (f2:∀ b∈fp,Hv X pins H2 b) (hloop:Aam J g tt te (inner ix σ) H2 Fin)
  (hRR:∀ (D C:Addr) (s':aG) (H':Hp) (acc:List V),Inv X pins σ (upd H' D (.lst acc)) s'->H' D=none->(∃ m,s'.heap.Ns C m)->(upd H' D (.lst acc)) C=none->Hv X pins (upd H' D (.lst acc)) C->Fin acc H'->RR (.ref D) C (.ok .next) s') :
  wpAny (model X.prog X.w) X.A (newList []) (fun acc s₃=>wpAny (model X.prog X.w) X.A (newFunctionEnv scope X.env.globals cl [] X.env.qual none .none (some X.env)) (fun cenv s₄=>
   iF (model X.prog X.w) X.A (.compStart (.ListComp elt [⟨tg,iter,ifs,0⟩] scope pos) 0 (.ref it) acc { cenv with scope:=relabel scope X.env }) (RR acc cenv.locals) s₄) E s₃) E s2:=by
 have hcell:∀ y∈scope.names,y.2≠.cell:=fun y hy z=>by
  have:=bM.mp S.cell y hy
  rw[z] at this;simp at this
 refine cQ (wpAny_newFunctionEnv hcell (by intro y hy;simp at hy) (fun h₁ hns₁ hsb₁=>?_) S.kind)
 dsimp only at hns₁ hsb₁ ⊢
 generalize hH2:s2.heap.push { cls:=.type "list",dict:=none,data:=.seq ([]:List aC).toArray } = HP at hns₁ hsb₁ ⊢
 have hCs:HP.objs.size=s2.heap.objs.size+1:=by rw[<- hH2,cP]
 have hDC:s2.heap.objs.size≠HP.objs.size:=by rw[hCs];exact bR (eV _)
 have hCle:s2.heap.objs.size<=HP.objs.size:=by rw[hCs];exact lV _
 have old:∀ b o,s2.heap.get? b=some o->h₁.get? b=some o:=fun b o e=>hsb₁.extBut b o (bR (aS (aO e) hCle)) (aD _ (hH2 ▸ aD _ e))
 have hacc:h₁.get? s2.heap.objs.size=some (B4 [] 0):=hsb₁.extBut _ _ hDC (aD _ (hH2 ▸ aR _ rfl))
 have hfp:∀ b∈fp,b < s2.heap.objs.size:=fun b hb=>by
  obtain ⟨o,e,_⟩:=T.obj _ _ st2 b hb
  exact aO e
 generalize hDg:s2.heap.objs.size=D at hDC hacc
 generalize hCg:HP.objs.size=C at *
 have hDle:s2.heap.objs.size<=D:=nK hDg
 have hD2:s2.heap.get? D=none:=by
  cases q:s2.heap.get? D with
  | none=>rfl
  | some o=>exact absurd (aS (aO q) hDle) (dB _)
 have I4:=Yn (t4:=s2.toks+([]:List (Str×aC)).length) S hcalm I2 hcl hcl2 f2 hfp hCle hns₁ old
 have above:∀ a,s2.heap.objs.size<=a->a∉frs X.stack/\(∀ x c,X.env.cells.lookup x=some c->c≠a)/\(∀ p∈X.pn++pins,p.1≠a)/\a≠X.env.locals:=fun a ha=>by
  refine ⟨fun z=>?_,fun x c e z=>?_,fun p hp z=>?_,?_⟩
  ·rcases bV.mp (I2.stkSub a z) with q | q
   ·exact absurd (aS I2.lt (q ▸ ha)) (dB _)
   ·exact I2.nofs ha q
  ·obtain ⟨v,q⟩:=I2.cell x c e
   exact absurd (aS q.lt (z ▸ ha)) (dB _)
  ·exact absurd (aS (aO (I2.pin p hp).1) (z ▸ ha)) (dB _)
  ·intro z;exact absurd (aS I2.lt (z ▸ ha)) (dB _)
 have hfpX:∀ b∈fp,Hv (blk X scope cl C N' s2 H2 fp pins) [] H2 b/\b≠D:=fun b hb=>by
  obtain ⟨q0,q1,q2,q3,q4,q5⟩:=f2 b hb
  have hlt:=hfp b hb
  refine ⟨⟨q0,bR (aS hlt hCle),fun z=>?_,.inl hb,fun x c e=>q4 x c (hcl x c e),fun p hp=>q5 p (by simpa[blk] using hp)⟩,bR (aS hlt hDle)⟩
  rcases bV.mp (I2.stkSub b z) with q | q
  ·exact q1 q
  ·exact q2 q
 have hDf:∀ H:Hp,H D=none->Hv (blk X scope cl C N' s2 H2 fp pins) [] H D:=fun H hn=>by
  obtain ⟨a1,a2,a3,a4⟩:=above D hDle
  exact ⟨hn,hDC,a1,.inr hDle,fun x c e=>a2 x c (hcl x c e),fun p hp=>a3 p (by simpa[blk] using hp)⟩
 have hDn2:H2 D=none:=I2.hok.fresh hDle
 have I5:Inv (blk X scope cl C N' s2 H2 fp pins) [(D,B4 [] 0)] (inner ix σ) H2 { s2 with heap:=h₁,toks:=s2.toks+([]:List (Str×aC)).length }:=I4.pins_of fun p hp=>by
  have:p=(D,B4 [] 0):=by simpa using hp
  subst this
  obtain ⟨_,d1,d2,_⟩:=hDf H2 hDn2
  exact ⟨hacc,hDn2,d1,d2,fun v z=>by simp[B4] at z⟩
 have st5:tn 0 h₁:=T.keep _ _ _ st2 fun b _ o e=>old b o e
 have loop:iF (model X.prog X.w) X.A (.compLoop (.ListComp elt [⟨tg,iter,ifs,0⟩] scope pos) 0 (.ref it) (.ref D) (blk X scope cl C N' s2 H2 fp pins).env) (RR (.ref D) C) { s2 with heap:=h₁,toks:=s2.toks+([]:List (Str×aC)).length }:=by
  refine Xp (X':=blk X scope cl C N' s2 H2 fp pins) ⟨rfl,rfl,rfl,rfl,hcalm,fun _ _ z=>z⟩ T (hg C) (ht C) (he C) hDle hDC hCle hfpX hDf I5 st5 (fun b hb=>(f2 b hb).1) hloop ?_
  intro s' σ' H' acc its n I hv hz fin
  obtain ⟨hDo,hDn,_⟩:=I.pin (D,B4 its n) (bL _ (jM.mpr rfl))
  have hbase:Un (frs X.stack) fp H2 H' s2.heap s'.heap:=I.base
  have hok:HOk X.prog X.w (upd H' D (.lst acc)) s'.heap:=HOk.adopt I.hok hDn ⟨hz,its,n,hv,hDo⟩
  have IX:Inv X pins σ (upd H' D (.lst acc)) s':=I2.call' I.os (Un.adopt hbase hDn hD2) hok I.bare fun b hb=>⟨(f2 b hb).2.2.2.1,(f2 b hb).2.1,(f2 b hb).2.2.2.2.1,(f2 b hb).2.2.2.2.2⟩
  obtain ⟨m,hm,_⟩:=I.loc
  have hCn:(upd H' D (.lst acc)) C=none:=by rw[Ap (eY hDC)];exact I.free
  obtain ⟨a1,a2,a3,a4⟩:=above C hCle
  refine hRR D C s' H' acc IX hDn ⟨m,hm⟩ hCn ⟨hCn,a4,fun z=>?_,.inr (cF I2.sz hCle),a2,a3⟩ fin
  exact I2.nofs hCle z
 have e1:({ newEnv scope C X.env.globals cl X.env.qual none .none (some X.env) mW with scope:=relabel scope X.env }:fV)=(blk X scope cl C N' s2 H2 fp pins).env:=rfl
 exact codeAny_compStart_list loop (T.self _ 0 _ _ _ st5 loop)
theorem CompSc.names{scope:gR}(S:CompSc X scope N' ix):∀ x∈scope.names,x.2 = .local->scope.names.lookup x.1=some .local:=fun x hx hl=>by
 have:=bM.mp S.loc x hx
 rw[hl] at this
 simpa using this
theorem CompSc.clos{scope:gR}(S:CompSc X scope N' ix)(ok:X.Ok):∃ cl,closureFor scope X.env=pure cl/\(∀ x c,cl.lookup x=some c->X.env.cells.lookup x=some c)/\∀ y∈scope.names,y.2 = .free->∃ c,cl.lookup y.1=some c:=by
 refine Hc fun y hy hf=>?_
 have:=bM.mp S.free y hy
 rw[hf] at this
 simp at this
 exact ok.has y.1 this
theorem Wa{elt tg iter:Expr}{ifs:List Expr}{pos:Pos}{wi:TI}{g:TG}{tt:TT}{te:TE}(S:CompSc X scope N' ix)(hcalm:X.calm=true)(hi:PI X tg iter wi)
  (hg:∀ cl C s2 H2 fp pins,PG (blk X scope cl C N' s2 H2 fp pins) tg g) (ht:∀ cl C s2 H2 fp pins,Sj (blk X scope cl C N' s2 H2 fp pins) ifs tt) (he:∀ cl C s2 H2 fp pins,PE (blk X scope cl C N' s2 H2 fp pins) elt te)
  (hs:∀ x,foldedSetIterable iter X.env x=pure x:=by intro _;rfl):PE X (.ListComp elt [⟨tg,iter,ifs,0⟩] scope pos) (Ag2 ix wi g tt te):=by
 intro pins s σ H Q I h
 obtain ⟨cl,hclos,hcl,hcl2⟩:=S.clos I.ok
 rw[eval_ListComp]
 refine wpAny_comprehension_free (use:=none) rfl hs hclos S.kind S.names (thn (hi pins s σ H _ I h) fun v s1 h1=>thn h1 fun itv s2 h2=>?_)
 obtain ⟨it,fp,tn,J,H2,e,I2,T,st2,f2,loop⟩:=h2
 subst e
 refine Xh (RR:=fun acc C=>compPost (model X.prog X.w) X.A X.xe none (EP X pins σ Q) acc C) S hcalm hcl hcl2 (fun C=>hg cl C s2 H2 fp pins) (fun C=>ht cl C s2 H2 fp pins) (fun C=>he cl C s2 H2 fp pins) I2 T st2 f2 loop ?_
 intro D C s' H' acc IX hDn ⟨m,hm⟩ hCn hC fin
 refine ⟨m,hm,fun h' hsb=>?_⟩
 obtain ⟨c0,c1,c2,c3,c4,c5⟩:=hC
 exact ⟨.ref D,_,IX.turned (t':=s'.toks) (fun b o hb e=>hsb.2 b hb |>.trans e) c0 c1 c3 c4 c5,rfl,fin D hDn⟩
end
noncomputable def Gb(tt:Option FT):FT:=fun δ L=>match tt with
 | none=>some (true,L)
 | some f=>f δ L
noncomputable def N2(it:IU)(g:FG)(tt:Option FT)(fe:FE):Nat->Nat->List U->UE->UH->Option (List U×UH)
 | 0,_,_,_,_=>none
 | m+1,k,acc,δ,L=>match it.at k L with
  | none=>none
  | some none=>some (acc,L)
  | some (some u)=>(g u δ L).bind fun p=>(Gb tt p.1 p.2).bind fun q=>if q.1=true then (fe p.1 q.2).bind fun r=>if decide (acc.length < sizeLine)=true then N2 it g tt fe m (k+1) (acc++[r.1]) p.1 r.2 else none
   else N2 it g tt fe m (k+1) acc p.1 q.2
noncomputable def Hs(ix:List (Option Nat))(δ:UE):UE:=ix.map fun o=>o.bind fun i=>(δ[i]?).join
noncomputable def Dx(ix:List (Option Nat))(fi:FI)(g:FG)(tt:Option FT)(fe:FE):FE:=fun δ L=>(fi δ L).bind fun p=>(N2 p.1 g tt fe (p.1.size p.2+1) 0 [] (Hs ix δ) p.2).map fun q=>(.ref q.2.length,q.2++[.lst q.1])
theorem RepS.inner{K:aA}{H:Hp}{α:List Addr}{δ:UE}{σ:L2.St}(S:RepS K H α δ σ)(ix:List (Option Nat)):RepS K H α (Hs ix δ) (MR.inner ix σ):=by
 refine ⟨by simp[Hs,MR.inner],fun j u e=>?_⟩
 unfold Hs at e
 unfold MR.inner
 rw[cY] at e ⊢
 cases hx:ix[j]? with
 | none=>rw[hx] at e;simp at e
 | some o=>
  rw[hx] at e
  cases o with
  | none=>simp at e
  | some i=>
   simp at e
   have:δ[i]? = some (some u):=by
    cases q:δ[i]? with
    | none=>rw[q] at e;simp at e
    | some o=>rw[q] at e;simp at e;rw[e]
   obtain ⟨v,hv,r⟩:=S.at_ i u this
   exact ⟨v,by simp[hv],r⟩
noncomputable def lTo(K:aA)(tt:Option FT):TT:=match tt with
 | none=>Aho
 | some f=>lT K f
inductive CI(K:aA)(it:IU)(g:FG)(tt:Option FT)(fe:FE)(H1:Hp)(α1:List Addr)(ys:List U)(L2:UH)(k m:Nat)(acc:List V)(σ2:_root_.L2.St)(H2:Hp):Prop
 | mk (α2:List Addr) (δ2:UE) (M:UH) (us:List U) (g2:Gr H1 α1 H2 α2) (A2:Abs K H2 α2 M) (S2:RepS K H2 α2 δ2 σ2) (r2:RepL K H2 α2 us acc) (e:N2 it g tt fe m k us δ2 M=some (ys,L2)):CI K it g tt fe H1 α1 ys L2 k m acc σ2 H2
theorem Wo{K:aA}{ix:List (Option Nat)}{fi:FI}{g:FG}{tt:Option FT}{fe:FE}:∀ σ H Q,lE K (Dx ix fi g tt fe) σ H Q->Ag2 ix (lI K fi) (lG K g) (lTo K tt) (lE K fe) σ H Q:=by
 rintro σ H Q ⟨α,δ,L,A,S,z,L3,e,q⟩
 obtain ⟨⟨it,L1⟩,e1,e⟩:=aB.mp e
 obtain ⟨⟨ys,L2⟩,e2,e⟩:=aH.mp e
 cases e
 refine ⟨α,δ,L,A,S,it,L1,e1,fun J H1 α1 g1 A1 hJ=>?_⟩
 refine ⟨CI K it g tt fe H1 α1 ys L2,⟨_,α1,_,L1,[],.refl _ _,A1,(S.mono g1).inner ix,.nil,e2⟩,?_⟩
 rintro k m acc σ2 H2 ⟨α2,δ2,M,us,g2,A2,S2,r2,e3⟩
 cases m with
 | zero=>cases e3
 | succ m=>
  obtain ⟨hgo,hstop⟩:=hJ H2 α2 M g2 A2 k
  unfold N2 at e3
  cases hat:it.at k M with
  | none=>rw[hat] at e3;cases e3
  | some o=>
   cases o with
   | none=>
    rw[hat] at e3
    cases e3
    refine .inl ⟨hstop hat,fun p hp=>?_⟩
    obtain ⟨g3,A3,r3⟩:=A2.lst r2 hp
    exact q _ _ _ (g1.trans (g2.trans g3)) A3 r3
   | some u=>
    rw[hat] at e3
    obtain ⟨go,yld⟩:=hgo u hat
    obtain ⟨⟨δ3,L3⟩,e4,e3⟩:=aB.mp e3
    obtain ⟨⟨b,L4⟩,e5,e3⟩:=aB.mp e3
    refine .inr ⟨go,fun x H3 y3=>?_⟩
    obtain ⟨g3,A3,r3⟩:=yld x H3 y3
    refine ⟨α2,δ2,M,u,A3,S2.mono g3,r3,δ3,L3,e4,fun σ4 H4 α4 g4 A4 S4=>?_⟩
    have after:∀ H5 α5,Gr H4 α4 H5 α5->Abs K H5 α5 L4->(if b=true then lE K fe σ4 H5 (fun y H6=>acc.length < sizeLine/\∃ m',m' < m+1/\CI K it g tt fe H1 α1 ys L2 (k+1) m' (acc++[y]) σ4 H6) else ∃ m',m' < m+1/\CI K it g tt fe H1 α1 ys L2 (k+1) m' acc σ4 H5):=fun H5 α5 g5 A5=>by
     have gA:=g2.trans (g3.trans (g4.trans g5))
     have gB:=g3.trans (g4.trans g5)
     cases b with
     | false=>exact R3 ⟨m,eV _,α5,δ3,L4,us,gA,A5,S4.mono g5,r2.mono gB,e3⟩
     | true=>
      obtain ⟨⟨w,L5⟩,e6,e3⟩:=aB.mp e3
      simp only at e3
      split at e3
      ·rename_i hlt
       refine Sz ⟨α5,δ3,L4,A5,S4.mono g5,w,L5,e6,fun y H6 α6 g6 A6 r6=>?_⟩
       exact ⟨by rw[<- r2.length];exact of_decide_eq_true hlt,m,eV _,α6,δ3,L5,us++[w],gA.trans g6,A6,(S4.mono g5).mono g6,(r2.mono (gB.trans g6)).append (.cons r6 .nil),e3⟩
      ·cases e3
    cases tt with
    | none=>
     cases e5
     exact after H4 α4 (.refl _ _) A4
    | some f=>exact ⟨α4,δ3,L3,A4,S4,b,L4,e5,fun H5 α5 g5 A5=>after H5 α5 g5 A5⟩
section
variable {X:Cx}{scope:gR}{N':List Str}{ix:List (Option Nat)}{elt tg iter c:Expr}{pos:Pos}{fi:FI}{g:FG}{ft:FT}{fe:FE}
theorem Gz(S:CompSc X scope N' ix)(hcalm:X.calm=true)(hi:PIF X tg iter fi)(hg:∀ cl C s2 H2 fp pins,PGF (blk X scope cl C N' s2 H2 fp pins) tg g)(he:∀ cl C s2 H2 fp pins,PEF (blk X scope cl C N' s2 H2 fp pins) elt fe)
  (hs:∀ x,foldedSetIterable iter X.env x=pure x:=by intro _;rfl):PEF X (.ListComp elt [⟨tg,iter,[],0⟩] scope pos) (Dx ix fi g none fe):=
 PE.imp (Wa (g:=lG X.K g) (te:=lE X.K fe) (tt:=Aho) S hcalm hi hg (fun _ _ _ _ _ _=>Xu) he hs) Wo
theorem Rg(S:CompSc X scope N' ix)(hcalm:X.calm=true)(hi:PIF X tg iter fi)(hg:∀ cl C s2 H2 fp pins,PGF (blk X scope cl C N' s2 H2 fp pins) tg g)(ht:∀ cl C s2 H2 fp pins,PTF (blk X scope cl C N' s2 H2 fp pins) c ft)(he:∀ cl C s2 H2 fp pins,PEF (blk X scope cl C N' s2 H2 fp pins) elt fe)
  (hs:∀ x,foldedSetIterable iter X.env x=pure x:=by intro _;rfl):PEF X (.ListComp elt [⟨tg,iter,[c],0⟩] scope pos) (Dx ix fi g (some ft) fe):=
 PE.imp (Wa (g:=lG X.K g) (te:=lE X.K fe) (tt:=lT X.K ft) S hcalm hi hg (fun _ _ _ _ _ _=>Xa (ht _ _ _ _ _ _)) he hs) (Wo (tt:=some ft))
end
section
variable {X:Cx}{pins:List (Addr×Obj)}{σ:L2.St}{H:Hp}{s:aG}{h':Heap}
theorem Inv.turnNew{ch:List Addr}{p:Addr}{o:HO}{t':Nat}(I:L2.Inv X pins σ H s)(hch:∀ b∈ch,Hv X pins H b)(k:∀ b o,b∉ch->s.heap.get? b=some o->h'.get? b=some o)(hp:s.heap.objs.size<=p)(new:ObjOk X.prog X.w (upd H p o) h' p o) :
  L2.Inv X pins σ (upd H p o) { s with heap:=h',toks:=t' }:=by
 have hn:H p=none:=I.hok.fresh hp
 have nch:∀ b u,H b=some u->b∉ch:=fun b u e hb=>by rw[(hch b hb).1] at e;cases e
 have st:=Stay.new hn o
 refine I.step (g':=s.gens) (d':=s.drawn) (ch:=ch) (fun b hb=>?_) (fun b o _ _ hc e _=>k b o hc e) (fun b o _ _ hc e _=>⟨o.slots,k b o hc e⟩) (fun b u hc e n=>?_) (fun b u hc e=>⟨u,k b u hc e⟩) st.1 st.2 (fun b ps e=>⟨#[],?_⟩) (fun m hm=>?_) (fun b u e=>?_) I.bare
 ·obtain ⟨_,f1,_,f3,f4,f5⟩:=hch b hb
  exact ⟨f3,f1,f4,f5⟩
 ·rw[Ap (bR (aS (aO e) hp))];exact n
 ·rw[Ap (Au e hn),e];simp
 ·obtain ⟨o1,es,ep,ho,r⟩:=hm
  exact ⟨o1,es,ep,k _ o1 (fun z=>(hch _ z).2.1 rfl) ho,r⟩
 ·by_cases hb:b=p
  ·subst hb;rw[upd_same] at e;cases e;exact new
  ·rw[Ap hb] at e
   refine (I.hok b u e).stay (fun c v hc q=>k c v ?_ q) (fun c q=>by rw[Ap (Au q hn)];exact q) fun c xs q=>by rw[Ap (Au q hn)];exact q
   rcases hc with z | z
   ·rw[z];exact nch b u e
   ·exact nch c _ z
end
theorem Pu(n l1 l2:Nat)(h1:l1 < n)(h2:l2 < n):lW (n+4) (n+2) (n+3) n (n+1) l1 l2:=by
 constructor <;> (intro q;exact absurd (show (_:Nat)=_ from q) (by omega))
section
variable {X:Cx}{elts:List Expr}{x1:Nat}{tpos:Pos}
theorem Tb:dX "zip" = some (.type "zip"):=by decide +kernel
noncomputable def Ajw(g:FA):FI:=fun δ L=>(g δ L).bind fun p=>match p.1 with
 | [.ref n]=>(Al p.2 n).map fun _=>(.enm n,p.2)
 | _=>none
noncomputable def Am1(g:FA):FI:=fun δ L=>(g δ L).bind fun p=>match p.1 with
 | [.ref n,.ref m]=>(Al p.2 n).bind fun _=>(Al p.2 m).map fun _=>(.zip2 n m,p.2)
 | _=>none
theorem M5{K:aA}{H:Hp}{α:List Addr}{L:UH}{n:Nat}{a:Addr}{us:List U}(A:Abs K H α L)(ea:α[n]? = some a)(h:Al L n=some us):∃ xs,SqL K H a xs/\RepL K H α us xs:=by
 obtain ⟨a',xs,ea',sq,r⟩:=Ec A h
 rw[ea] at ea';cases ea'
 exact ⟨xs,sq,r⟩
end
end MR
namespace HT
open PySem PySem.Spec PyProof.Rows
section
variable {prog:aW}{w:bG}{A:bZ}{E:aC->aG->Prop}{s:aG}
end
end HT
namespace MR
open PySem PySem.Spec PyProof.Rows L2
section
variable {X:Cx}{e st:Expr}{fa fs:FE}{p2 pos:Pos}
noncomputable def Al3(f:FE):FE:=fun δ L=>(f δ L).bind fun p=>match p.1 with | .ref n=>(Al p.2 n).map fun l=>(.ref p.2.length,p.2++[.lst l.reverse]) | .tup l=>some (.tup l.reverse,p.2) | _=>none
end
structure ClsF(K:aA)(C:Str)(Ca:Addr):Prop where
 ns:aK K aI C=some (some (.ref Ca))
 cl:Cls K Ca
theorem ClsF.eq{K:aA}{C:Str}{Ca Cb:Addr}(T:ClsF K C Ca)(h:aK K aI C=some (some (.ref Cb))):Cb=Ca:=by
 have:=T.ns.symm.trans h
 simpa using this.symm
noncomputable def Nl(C:Str)(u:U)(L:UH):Option (Nat×List (Str×U)):=match u with
 | .ref n=>match L[n]? with
  | some (.ins C' fs)=>if C'=C then some (n,fs) else none
  | _=>none
 | _=>none
theorem Lu{C:Str}{u:U}{L:UH}{n:Nat}{fs:List (Str×U)}(h:Nl C u L=some (n,fs)):u = .ref n/\L[n]? = some (.ins C fs):=by
 unfold Nl at h
 split at h
 ·split at h
  ·rename_i e
   split at h
   ·rename_i hc
    cases h
    exact ⟨rfl,by rw[e,hc]⟩
   ·cases h
  ·cases h
 ·cases h
theorem Fh{K:aA}{H:Hp}{α:List Addr}{f:Str}:∀ {fs:List (Str×U)} {vs:List (Str×V)},fs.map (·.1)=vs.map (·.1)->RepL K H α (fs.map (·.2)) (vs.map (·.2))->(∀ u,fs.lookup f=some u->∃ v,vs.lookup f=some v/\RepU K H α u v)/\(fs.lookup f=none->vs.lookup f=none)
 | [],[],_,_=>⟨fun u h=>by simp at h,fun _=>rfl⟩
 | [],_::_,h,_=>by simp at h
 | _::_,[],h,_=>by simp at h
 | (g,u)::fs,(g',v)::vs,h,r=>by
  simp only[aM,gG] at h
  obtain ⟨h1,h2⟩:=h
  subst h1
  simp only[aM] at r
  unfold RepL at r
  obtain ⟨x,xr,e,r1,r2⟩:=r
  cases e
  obtain ⟨i1,i2⟩:=Fh (f:=f) h2 r2
  rw[bI,bI]
  cases hq:f == g with
  | true=>exact ⟨fun w hw=>by cases hw;exact ⟨v,rfl,r1⟩,fun hw=>by cases hw⟩
  | false=>exact ⟨i1,i2⟩
noncomputable def Yt(f:Str)(v:U):List (Str×U)->List (Str×U)
 | []=>[(f,v)]
 | (g,x)::r=>if g=f then (g,v)::r else (g,x)::Yt f v r
theorem V0{K:aA}{H:Hp}{α:List Addr}{f:Str}{u:U}{v:V}(ru:RepU K H α u v):∀ {fs:List (Str×U)} {vs:List (Str×V)},fs.map (·.1)=vs.map (·.1)->RepL K H α (fs.map (·.2)) (vs.map (·.2))->(Yt f u fs).map (·.1)=(Ew f v vs).map (·.1)/\RepL K H α ((Yt f u fs).map (·.2)) ((Ew f v vs).map (·.2))
 | [],[],_,_=>⟨rfl,.cons ru .nil⟩
 | [],_::_,h,_=>by simp at h
 | _::_,[],h,_=>by simp at h
 | (g,x)::fs,(g',y)::vs,h,r=>by
  simp only[aM,gG] at h
  obtain ⟨h1,h2⟩:=h
  subst h1
  simp only[aM] at r
  unfold RepL at r
  obtain ⟨z,zr,e,r1,r2⟩:=r
  cases e
  obtain ⟨i1,i2⟩:=V0 (f:=f) ru h2 r2
  unfold Yt Ew
  by_cases hq:g=f
  ·simp only[hq,if_true,aM]
   exact ⟨by rw[h2],.cons ru r2⟩
  ·simp only[hq,if_false,aM]
   exact ⟨by rw[i1],.cons r1 i2⟩
section
variable {X:Cx}{o e value:Expr}{es:List Expr}{f m C x:Str}{p pos pos' apos:Pos}{Ca fa:Addr}{fd:bE}{ps:List Str}{k n:Nat}{F:FN}{fe fo fv:FE}{g:FA}
noncomputable def G5(C f:Str)(fe:FE):FE:=fun δ L=>(fe δ L).bind fun p=>(Nl C p.1 p.2).bind fun q=>(q.2.lookup f).map fun v=>(v,p.2)
theorem Jt(T:ClsF X.K C Ca)(hn:NoAttr X.K Ca f)(he:PEF X e fe)(hb:attributeBase e f X.env (eval e X.env)=eval e X.env:=by rfl):PEF X (.Attribute e f pos) (G5 C f fe):=by
 refine PE.imp (Aiq he hb) ?_
 rintro σ H Q ⟨α,δ,L,A,S,z,L3,ee,q⟩
 obtain ⟨⟨u,L1⟩,e1,ee⟩:=aB.mp ee
 obtain ⟨⟨n,fs⟩,e2,ee⟩:=aB.mp ee
 obtain ⟨w,e3,ee⟩:=aH.mp ee
 cases ee
 obtain ⟨rfl,hL⟩:=Lu e2
 refine ⟨α,δ,L,A,S,_,L1,e1,fun x H1 α1 g1 A1 r1=>?_⟩
 obtain ⟨a,ea,Cb,dx,vs,hns,ha,hk,rr⟩:=A1.addr hL
 obtain ⟨a',ea',rfl⟩:=r1.ref_of A1
 rw[ea] at ea';cases ea'
 have:=T.eq hns
 subst this
 obtain ⟨v,hv,rv⟩:=(Fh hk rr).1 _ e3
 exact ⟨a,Cb,dx,vs,v,rfl,ha,T.cl,hn,hv,q v H1 α1 g1 A1 rv⟩
noncomputable def Adi(C f:Str)(fo fv:FE):FS:=fun δ L=>(fv δ L).bind fun p=>(fo δ p.2).bind fun q=>(Nl C q.1 q.2).bind fun r=>if r.2.length < 1000 then some (.nx δ,q.2.set r.1 (.ins C (Yt f p.1 r.2))) else none
theorem Wr(T:ClsF X.K C Ca)(hn:NoAttr X.K Ca f)(ho:PEF X o fo)(hv:PEF X value fv)(hs:swapsWith value (some (.Attribute o f pos')) pos.line X.env=pure false:=by rfl):PSF X (.Assign [.Attribute o f pos'] value pos) (Adi C f fo fv):=by
 refine PS.imp (Ahd ho hv hs) ?_
 rintro D σ H ⟨α,δ,L,A,S,fl,L',ee,q⟩
 obtain ⟨⟨u,L1⟩,e1,ee⟩:=aB.mp ee
 obtain ⟨⟨w,L2⟩,e2,ee⟩:=aB.mp ee
 obtain ⟨⟨n,fs⟩,e3,ee⟩:=aB.mp ee
 simp only at ee
 split at ee
 ·rename_i hlen
  cases ee
  obtain ⟨rfl,hL⟩:=Lu e3
  refine ⟨α,δ,L,A,S,u,L1,e1,fun y H1 α1 g1 A1 r1=>⟨α1,δ,L1,A1,S.mono g1,_,L2,e2,fun x H2 α2 g2 A2 r2=>?_⟩⟩
  obtain ⟨a,ea,Cb,dx,vs,hns,ha,hk,rr⟩:=A2.addr hL
  obtain ⟨a',ea',rfl⟩:=r2.ref_of A2
  rw[ea] at ea';cases ea'
  have:=T.eq hns
  subst this
  have hl:vs.length < 1000:=by
   have:=congrArg iH hk
   rw[cO,cO] at this
   omega
  have g3:Gr H2 α2 (upd H2 a (.ins Cb dx (Ew f y vs))) α2:=⟨⟨[],by simp⟩,.write ha (by exact trivial) _⟩
  obtain ⟨k1,k2⟩:=V0 (f:=f) ((r1.mono g2)) hk rr
  obtain ⟨A3,_⟩:=A2.put (o:=.ins Cb dx (Ew f y vs)) (u:=.ins C (Yt f u fs)) ea hL rfl rfl ha (by exact trivial) ⟨Cb,dx,_,hns,upd_same,k1,k2.mono g3⟩
  exact ⟨a,Cb,dx,vs,rfl,ha,T.cl,hn,hl,q _ _ α2 ((g1.trans g2).trans g3) A3 (((S.mono g1).mono g2).mono g3)⟩
 ·cases ee
noncomputable def Bt(C m:Str)(k:Nat)(F:FN)(fo:FE)(g:FA):FE:=fun δ L=>(fo δ L).bind fun p=>(Nl C p.1 p.2).bind fun r=>if r.2.lookup m=none then (g δ p.2).bind fun q=>if q.1.length+1=k then F (.ref r.1::q.1) q.2 else none else none
theorem M6{K:aA}{E:XK}(T:ClsF K C Ca):∀ σ H Q,lE K (Bt C m n F fo g) σ H Q->Abd Ca m (spF K n F) [] E (lE K fo) (lA K g) σ H Q:=by
 rintro σ H Q ⟨α,δ,L,A,S,z,L3,ee,q⟩
 obtain ⟨⟨u,L1⟩,e1,ee⟩:=aB.mp ee
 obtain ⟨⟨j,fs⟩,e2,ee⟩:=aB.mp ee
 simp only at ee
 split at ee
 ·rename_i hno
  obtain ⟨⟨us,L2⟩,e3,ff⟩:=aB.mp ee
  simp only at ff
  split at ff
  ·rename_i hlen
   obtain ⟨rfl,hL⟩:=Lu e2
   refine ⟨α,δ,L,A,S,_,L1,e1,fun x H1 α1 g1 A1 r1=>?_⟩
   obtain ⟨a,ea,Cb,dx,vs,hns,ha,hk,rr⟩:=A1.addr hL
   obtain ⟨a',ea',hx⟩:=r1.ref_of A1
   rw[ea] at ea';cases ea'
   have:=T.eq hns
   subst this
   refine ⟨a,dx,vs,hx,ha,(Fh hk rr).2 hno,α1,δ,L1,A1,S.mono g1,us,L2,e3,fun xs H2 α2 g2 A2 r2=>?_⟩
   refine ⟨α2,L2,.ref j::us,A2,?_,by simpa using hlen,z,L3,ff,fun v H3 α3 g3 A3 r3=>q v H3 α3 (g1.trans (g2.trans g3)) A3 r3⟩
   rw[bT]
   exact .cons (r1.mono g2) r2
  ·cases ff
 ·cases ee
theorem V9{pl:Sem Bool}(T:ClsF X.K C Ca)(hm:Meth X.K Ca m fa)(hF:FnOk X.prog X.w X.K X.mg X.base CX0 k fa fd ps (spF X.K n F))(hr:Room k X.A)(hb:Binds X.K fd ps [])(ho:PEF X o fo)(ha:PAF X (e::es) g)
  (hst:aL (e::es) X.env=(false,eval e X.env)::aL es X.env:=by rfl) (hpl:(backTo pos (aL es X.env)).any (·.1)=false:=by rfl)
  (ht:eval (.Call (.Attribute o m apos) (e::es) [] pos) X.env=(do
   let ov <- eval o X.env
   standAt apos.atName
   let (f,first) <- holding [ov] (getMethod ov m pl)
   callWith pos f first (backTo pos (aL (e::es) X.env)) (backToKw pos (keywordEach [] X.env))):=by rfl) :
  PEF X (.Call (.Attribute o m apos) (e::es) [] pos) (Bt C m n F fo g):=
 PE.imp (Aec (pl:=pl) ho T.cl hm hF hr hb .nil Sw ha hst hpl ht) (M6 T)
theorem Ln{pl:Sem Bool}(T:ClsF X.K C Ca)(hm:Meth X.K Ca m fa)(hF:FnOk X.prog X.w X.K X.mg X.base CX0 k fa fd ps (spF X.K n F))(hr:Room k X.A)(hb:Binds X.K fd ps [])(ho:PEF X o fo)
  (ht:eval (.Call (.Attribute o m apos) [] [] pos) X.env=(do
   let ov <- eval o X.env
   standAt apos.atName
   let (f,first) <- holding [ov] (getMethod ov m pl)
   callWith pos f first (backTo pos (aL [] X.env)) (backToKw pos (keywordEach [] X.env))):=by rfl) :
  PEF X (.Call (.Attribute o m apos) [] [] pos) (Bt C m n F fo Ah):=
 PE.imp (Aaj (pl:=pl) ho T.cl hm hF hr hb .nil Sw ht) (fun σ H Q h=>by
  have h:=M6 (E:=E0) T σ H Q h
  obtain ⟨α,δ,L,A,S,u,L1,e1,h⟩:=h
  refine ⟨α,δ,L,A,S,u,L1,e1,fun x H1 α1 g1 A1 r1=>?_⟩
  obtain ⟨a,dx,vs,hx,ha,hl,α2,δ2,L2,A2,S2,us,L3,e3,h3⟩:=h x H1 α1 g1 A1 r1
  cases e3
  exact ⟨a,dx,vs,hx,ha,hl,h3 [] H1 α2 (.refl _ _) A2 .nil⟩)
noncomputable def Tw(C:Str)(k:Nat)(F:FN)(g:FA):FE:=fun δ L=>(g δ L).bind fun p=>if p.1.length+1=k then (F (.ref p.2.length::p.1) (p.2++[.ins C []])).bind fun q=>match q.1 with | .non=>some (.ref p.2.length,q.2) | _=>none else none
theorem Ac6{K:aA}{E:XK}(hns:aK K aI C=some (some (.ref Ca))):∀ σ H Q,lE K (Tw C n F g) σ H Q->Ags Ca (spF K n F) [] E (lA K g) σ H Q:=by
 rintro σ H Q ⟨α,δ,L,A,S,z,L3,ee,q⟩
 obtain ⟨⟨us,L1⟩,e1,ee⟩:=aB.mp ee
 simp only at ee
 split at ee
 ·rename_i hlen
  obtain ⟨⟨w,L2⟩,e2,ee⟩:=aB.mp ee
  cases w with
  | non=>
   cases ee
   refine ⟨α,δ,L,A,S,us,L1,e1,fun xs H1 α1 g1 A1 r1 x dx nx ndx nex=>?_⟩
   have ga:Gr H1 α1 (upd H1 dx (.own x)) α1:=⟨⟨[],by simp⟩,.new ndx _⟩
   have Aa:Abs K (upd H1 dx (.own x)) α1 L1:=⟨A1.len,A1.inj,fun i a o e1 e2=>(A1.rep i a o e1 e2).other ga (.inr fun u q=>by rw[Ap (Au q ndx)];exact q)⟩
   have nx':(upd H1 dx (.own x)) x=none:=by rw[Ap (eY nex)];exact nx
   obtain ⟨Ab,gb⟩:=Aa.new (o:=.ins Ca dx []) (u:=.ins C []) nx' ⟨Ca,dx,[],hns,upd_same,rfl,.nil⟩
   have rx:RepU K (upd (upd H1 dx (.own x)) x (.ins Ca dx [])) (α1++[x]) (.ref L1.length) (.ref x):=by
    unfold RepU
    exact ⟨x,by rw[<- A1.len];simp,rfl⟩
   refine ⟨α1++[x],L1++[.ins C []],.ref L1.length::us,Ab,?_,by simpa using hlen,.non,L2,e2,fun v H3 α3 g3 A3 r3=>?_⟩
   ·rw[bT]
    exact .cons rx ((r1.mono ga).mono gb)
   ·have hv:v = .non:=by unfold RepU at r3;exact r3
    exact ⟨hv,q _ H3 α3 (g1.trans (ga.trans (gb.trans g3))) A3 (rx.mono g3)⟩
  | _=>cases ee
 ·cases ee
theorem Td(hns:aK X.K aI C=some (some (.ref Ca)))(M:Mk X.K Ca fa)(hF:FnOk X.prog X.w X.K X.mg X.base CX0 k fa fd ps (spF X.K n F))(hr:Room (k+1) X.A)(hg:Gl X C)(hm:X.mg C=some (.ref Ca))(hb:Binds X.K fd ps [])
  (hdb:(C == ("__debug__" : Str))=false:=by decide):PEF X (.Call (.Name C p) [] [] pos) (Tw C n F Ah):=
 PE.imp (Ab4 M hF hr hg hm hb .nil Sw hdb) (fun σ H Q h=>by
  obtain ⟨α,δ,L,A,S,us,L1,e1,h⟩:=Ac6 (E:=E0) hns σ H Q h
  cases e1
  exact h [] H α (.refl _ _) A .nil)
end
end MR
namespace ZT
open PySem PySem.Spec PyProof.Rows
open Sem (wp)
noncomputable def SqK(b:Bool)(h:Heap)(l:Addr)(xs:Array aC):Prop:=match b with
 | true=>h.IsList l xs
 | false=>h.IsTuple l xs
noncomputable def ItK(b:Bool)(h:Heap)(jt l:Addr)(k:Nat):Prop:=match b with
 | true=>h.IsListIter jt l k
 | false=>h.IsTupleIter jt l k
theorem SqK.keep{b:Bool}{h h':Heap}{l:Addr}{xs:Array aC}(x:SqK b h l xs)(e:∀ o,h.get? l=some o->h'.get? l=some o):SqK b h' l xs:=by
 cases b with
 | true=>obtain ⟨o,ho,r⟩:=x;exact ⟨o,e _ ho,r⟩
 | false=>obtain ⟨o,ho,r⟩:=x;exact ⟨o,e _ ho,r⟩
theorem ItK.keep{b:Bool}{h h':Heap}{jt l:Addr}{k:Nat}(x:ItK b h jt l k)(e:∀ o,h.get? jt=some o->h'.get? jt=some o):ItK b h' jt l k:=by
 cases b with
 | true=>obtain ⟨o,ho,r⟩:=x;exact ⟨o,e _ ho,r⟩
 | false=>obtain ⟨o,ho,r⟩:=x;exact ⟨o,e _ ho,r⟩
theorem ItK.lt{b:Bool}{h:Heap}{jt l:Addr}{k:Nat}(x:ItK b h jt l k):jt < h.objs.size:=by
 cases b with
 | true=>obtain ⟨o,ho,r⟩:=x;exact aO ho
 | false=>obtain ⟨o,ho,r⟩:=x;exact aO ho
theorem ItK.obj{b:Bool}{h:Heap}{jt l:Addr}{k:Nat}(x:ItK b h jt l k):∃ o,h.get? jt=some o/\o.data = .fields #[.ref l,.int k 0]:=by
 cases b with
 | true=>obtain ⟨o,ho,_,r⟩:=x;exact ⟨o,ho,r⟩
 | false=>obtain ⟨o,ho,_,r⟩:=x;exact ⟨o,ho,r⟩
section
variable {prog:aW}{w:bG}{A:bZ}{E:aC->aG->Prop}{s:aG}
theorem Acp{jt t:Addr}{k:Nat}{its:Array aC}{v:aC}{Q:aC->aG->Prop}(hj:s.heap.IsTupleIter jt t k)(ht:s.heap.IsTuple t its)(hv:its[k]? = some v)
  (hQ:∀ h',h'.IsTupleIter jt t (k+1)->gS jt s.heap h'->Q v { s with heap:=h' }):wpAny (model prog w) A (bX (.ref jt)) Q E s:=by
 obtain ⟨ob,hob,hcl,hda⟩:=id hj
 obtain ⟨ot,hot,_,nt,hdt⟩:=ht
 unfold bX
 refine aE (dQ (name:=fU "__next__") hj.typeIs eG (eW eG hj.typeIs jB ?_ (iR _)))
 show wpAny _ _ (field (.ref jt) 0 >>= _) _ _ s
 refine aE (cS hob hda (x:=.ref t) rfl ?_)
 show wpAny _ _ (if (bH t == gH)=true then _ else _) _ _ s
 rw[if_neg (show ¬ ((bH t == gH)=true) from (fun z=>cN z))]
 show wpAny _ _ (field (.ref jt) 1 >>= _) _ _ s
 refine aE (cS hob hda (x:=.int k 0) rfl ?_)
 show wpAny _ _ (seqItems? (.ref t) >>= fun z=>_) _ _ s
 refine aE (eI hot hdt ?_)
 simp only[gX,hv]
 refine aE (lX hob hda (by simp) (aP ⟨v,rfl,aP (hQ _ ?_ (iX ..))⟩))
 exact ⟨_,fM _ hob (lL (jN hda _)),(Obj.cls_mapFields ..).trans hcl,by rw[jN hda];simp[rawInt]⟩
theorem Adb{jt t:Addr}{k:Nat}{its:Array aC}{Q:aC->aG->Prop}(hh:A.handled=none)(hj:s.heap.IsTupleIter jt t k)(ht:s.heap.IsTuple t its)(hv:its[k]? = none)
  (hE:∀ h' e,lY jt s.heap h'->(∃ ob,h'.get? e=some ob/\ob.cls = .type "StopIteration")->E (.ref e) { s with heap:=h' }):wpAny (model prog w) A (bX (.ref jt)) Q E s:=by
 obtain ⟨ob,hob,hcl,hda⟩:=id hj
 obtain ⟨ot,hot,_,nt,hdt⟩:=ht
 unfold bX
 refine aE (dQ (name:=fU "__next__") hj.typeIs eG (eW eG hj.typeIs jB ?_ (iR _)))
 show wpAny _ _ (field (.ref jt) 0 >>= _) _ _ s
 refine aE (cS hob hda (x:=.ref t) rfl ?_)
 show wpAny _ _ (if (bH t == gH)=true then _ else _) _ _ s
 rw[if_neg (show ¬ ((bH t == gH)=true) from (fun z=>cN z))]
 show wpAny _ _ (field (.ref jt) 1 >>= _) _ _ s
 refine aE (cS hob hda (x:=.int k 0) rfl ?_)
 show wpAny _ _ (seqItems? (.ref t) >>= fun z=>_) _ _ s
 refine aE (eI hot hdt ?_)
 simp only[gX,hv]
 refine aE (pG (aE (lX hob hda (by simp) ?_)))
 show wpAny _ _ (newExc (.type "StopIteration") [] >>= fun z=>_) _ _ _
 refine aE ?_
 simp only[newExc,newTuple];refine aE (cQ ?_ (by size_fits))
 refine aE (m:=firstArgMember _ _) (wpAny_of_eq (a:=gH) (by first | rfl | (simp only[firstArgMember];rfl)) (cQ ?_ (by size_fits)))
 simp only[raiseNew];refine aE (wpAny_handled ?_)
 first | rw[show A.in1.handled=none from hh] | (rw[hh])
 exact aE (aP (wpAny_throw (hE _ _ (((iX ..).extBut.push _).push _) ⟨_,aR _ rfl,rfl⟩)))
theorem Ut{b:Bool}{jt l:Addr}{k:Nat}{its:Array aC}{v:aC}{Q:aC->aG->Prop}(hj:ItK b s.heap jt l k)(hl:SqK b s.heap l its)(hv:its[k]? = some v)
  (hQ:∀ h',ItK b h' jt l (k+1)->gS jt s.heap h'->Q v { s with heap:=h' }):wpAny (model prog w) A (bX (.ref jt)) Q E s:=by
 cases b with
 | true=>exact wpAny_nextOf_list_item hj hl hv hQ
 | false=>exact Acp hj hl hv hQ
theorem Aad{b:Bool}{jt l:Addr}{k:Nat}{its:Array aC}{Q:aC->aG->Prop}(hh:A.handled=none)(hj:ItK b s.heap jt l k)(hl:SqK b s.heap l its)(hv:its[k]? = none)
  (hE:∀ h' e,lY jt s.heap h'->(∃ ob,h'.get? e=some ob/\ob.cls = .type "StopIteration")->E (.ref e) { s with heap:=h' }):wpAny (model prog w) A (bX (.ref jt)) Q E s:=by
 cases b with
 | true=>exact wpAny_nextOf_list_end hh hj hl hv hE
 | false=>exact Adb hh hj hl hv hE
theorem SqK.but{b:Bool}{h h':Heap}{l c:Addr}{xs:Array aC}(x:SqK b h l xs)(e:lY c h h')(hne:l≠c):SqK b h' l xs:=x.keep fun o q=>e l o hne q
theorem ItK.but{b:Bool}{h h':Heap}{jt l c:Addr}{k:Nat}(x:ItK b h jt l k)(e:lY c h h')(hne:jt≠c):ItK b h' jt l k:=x.keep fun o q=>e jt o hne q
variable {b1 b2:Bool}{z TI TO j1 j2 l1 l2:Addr}{k1 k2:Nat}{xs ys:Array aC}{a b:aC}
theorem Ad8{x y:aC}{Q:aC->aG->Prop}(D:lW z TI TO j1 j2 l1 l2)(hz:iY s.heap z TI TO .none)(hI:eA s.heap TI (.ref j1) (.ref j2))(hO:eA s.heap TO a b)
  (h1:ItK b1 s.heap j1 l1 k1) (h2:ItK b2 s.heap j2 l2 k2) (g1:SqK b1 s.heap l1 xs) (g2:SqK b2 s.heap l2 ys) (hx:xs[k1]? = some x) (hy:ys[k2]? = some y)
  (hQ:∀ h',iY h' z TI TO (rawInt s.heap.objs.size)->eA h' TO x y->ItK b1 h' j1 l1 (k1+1)->ItK b2 h' j2 l2 (k2+1)->eA h' s.heap.objs.size x y->h'.objs.size=s.heap.objs.size+1 ->
   (∀ c o,c≠z->c≠TO->c≠j1->c≠j2->s.heap.get? c=some o->h'.get? c=some o)->Q (.ref s.heap.objs.size) { s with heap:=h' }) :
  wpAny (model prog w) A (jC.«zip.__next__» ⟨[.ref z],[]⟩) (fun fin s'=>∃ v,fin = .done (.ret v)/\Q v s') E s:=by
 show wpAny _ _ (field (.ref z) 2 >>= fun q=>_) _ _ _
 refine aE (cS hz rfl (x:=.bool false) rfl ?_);show wpAny _ _ (field (.ref z) 3 >>= _) _ _ _
 refine aE (cS hz rfl (x:=.ref TI) rfl (aE (eI hI rfl ?_)))
 show wpAny _ _ (dE (.ref z) >>= fun q=>_) _ _ _
 refine aE ?_;unfold dE
 refine aE (cS hz rfl (x:=.none) rfl (aP ?_));simp only[if_true]
 refine aE (pG (aE (cS hz rfl (x:=.ref TO) rfl (aE (eJ hz (by simp) fun p1 z1 s1=>?_)))))
 replace z1:iY p1 z TI TO .ellipsis:=z1
 refine aE ?_;simp only[oE,oO,iQ,pH]
 refine aE (aE (kC ?_));show wpAny _ _ (bX (.ref j1) >>= _) _ _ _
 refine aE (Ut (h1.but s1.extBut D.i1z) (g1.but s1.extBut D.l1z) hx fun p2 i2 s2=>aP ?_)
 have O2:eA p2 TO a b:=s2.extBut _ _ D.TOi1 (s1.extBut _ _ D.TOz hO)
 refine aE (eI O2 rfl (aE (iK O2 fun p3 O3 s3=>?_)))
 replace O3:eA p3 TO x b:=O3
 refine aE (lZ (aP ?_));refine aE (aE (kC ?_))
 show wpAny _ _ (bX (.ref j2) >>= fun q=>_) _ _ _
 refine aE (Ut (((h2.but s1.extBut D.i2z).but s2.extBut D.i12.symm).but s3.extBut D.TOi2.symm) (((g2.but s1.extBut D.l2z).but s2.extBut D.l2i1).but s3.extBut D.l2TO) hy fun p4 i4 s4=>aP ?_)
 have O4:eA p4 TO x b:=s4.extBut _ _ D.TOi2 O3
 refine aE (eI O4 rfl (aE (iK O4 fun p5 O5 s5=>?_)))
 replace O5:eA p5 TO x y:=O5
 refine aE (lZ (aP (aP ?_)));refine aE (eI O5 rfl (aE (wpAny_newTuple ?_)))
 have hsz:p5.objs.size=s.heap.objs.size:=by rw[s5.1,s4.1,s3.1,s2.1,s1.1]
 have z5:iY p5 z TI TO .ellipsis:=s5.extBut _ _ D.TOz.symm (s4.extBut _ _ D.i2z.symm (s3.extBut _ _ D.TOz.symm (s2.extBut _ _ D.i1z.symm z1)))
 have k5:∀ c o,c≠z->c≠TO->c≠j1->c≠j2->s.heap.get? c=some o->p5.get? c=some o:=fun c o c1 c2 c3 c4 e=>s5.extBut _ _ c2 (s4.extBut _ _ c4 (s3.extBut _ _ c2 (s2.extBut _ _ c3 (s1.extBut _ _ c1 e))))
 have i15:ItK b1 p5 j1 l1 (k1+1):=((i2.but s3.extBut D.TOi1.symm).but s4.extBut D.i12).but s5.extBut D.TOi1.symm
 have i25:ItK b2 p5 j2 l2 (k2+1):=i4.but s5.extBut D.TOi2.symm
 have zlt:z < p5.objs.size:=aO z5
 show wpAny _ _ (fY (.ref z) (.ref p5.objs.size) >>= fun q=>_) _ _ _
 refine aE ?_;unfold fY
 have z6:iY (p5.push { cls:=.type "tuple",data:=.seq #[x,y] }) z TI TO .ellipsis:=aD _ z5
 refine aE (eJ z6 (by simp) fun p7 z7 s7=>?_)
 replace z7:iY p7 z TI TO (rawInt p5.objs.size):=z7
 refine eJ z7 (by simp) fun p8 z8 s8=>?_
 replace z8:iY p8 z TI TO (rawInt p5.objs.size):=z8
 have up:∀ c o,c≠z->p5.get? c=some o->p8.get? c=some o:=fun c o c1 e=>s8.extBut _ _ c1 (s7.extBut _ _ c1 (aD _ e))
 have t8:eA p8 p5.objs.size x y:=s8.extBut _ _ (gT zlt) (s7.extBut _ _ (gT zlt) (aR _ rfl))
 have e8:p8.objs.size=p5.objs.size+1:=by rw[s8.1,s7.1,cP]
 rw[hsz] at z8 t8 e8
 refine aP ⟨_,rfl,?_⟩
 show Q (.ref p5.objs.size) _
 rw[hsz]
 exact hQ p8 z8 (up _ _ D.TOz O5) (i15.keep fun o e=>up _ o D.i1z e) (i25.keep fun o e=>up _ o D.i2z e) t8 e8 fun c o c1 c2 c3 c4 e=>up c o c1 (k5 c o c1 c2 c3 c4 e)
theorem Ai4{Q:Fin->aG->Prop}(hh:A.handled=none)(D:lW z TI TO j1 j2 l1 l2)(hz:iY s.heap z TI TO .none)(hI:eA s.heap TI (.ref j1) (.ref j2))(hO:eA s.heap TO a b)
  (h1:ItK b1 s.heap j1 l1 k1) (h2:ItK b2 s.heap j2 l2 k2) (g1:SqK b1 s.heap l1 xs) (g2:SqK b2 s.heap l2 ys) (hend:xs[k1]? = none\/ys[k2]? = none)
  (hE:∀ h' e,(∀ c o,c≠z->c≠TO->c≠j1->c≠j2->s.heap.get? c=some o->h'.get? c=some o)->(∃ ob,h'.get? e=some ob/\ob.cls = .type "StopIteration")->E (.ref e) { s with heap:=h' }) :
  wpAny (model prog w) A (jC.«zip.__next__» ⟨[.ref z],[]⟩) Q E s:=by
 show wpAny _ _ (field (.ref z) 2 >>= fun q=>_) _ _ _
 refine aE (cS hz rfl (x:=.bool false) rfl ?_);show wpAny _ _ (field (.ref z) 3 >>= _) _ _ _
 refine aE (cS hz rfl (x:=.ref TI) rfl (aE (eI hI rfl ?_)))
 show wpAny _ _ (dE (.ref z) >>= fun q=>_) _ _ _
 refine aE ?_;unfold dE
 refine aE (cS hz rfl (x:=.none) rfl (aP ?_));simp only[if_true]
 refine aE (pG (aE (cS hz rfl (x:=.ref TO) rfl (aE (eJ hz (by simp) fun p1 z1 s1=>?_)))))
 replace z1:iY p1 z TI TO .ellipsis:=z1
 refine aE ?_;simp only[oE,oO,iQ,pH]
 refine aE (aE (kC ?_));show wpAny _ _ (bX (.ref j1) >>= _) _ _ _
 cases hx:xs[k1]? with
 | none=>
  refine aE (Aad hh (h1.but s1.extBut D.i1z) (g1.but s1.extBut D.l1z) hx fun p2 e s2 he=>?_)
  obtain ⟨oe,hoe,hce⟩:=he
  have z2:iY p2 z TI TO .ellipsis:=s2 _ _ D.i1z.symm z1
  have hez:e≠z:=fun q=>by subst q;rw[z2] at hoe;cases hoe;simp at hce
  refine eJ z2 (by simp) fun p3 _ s3=>hE p3 e (fun c o c1 _ c3 _ q=>s3.extBut _ _ c1 (s2 _ _ c3 (s1.extBut _ _ c1 q))) ⟨oe,s3.extBut _ _ hez hoe,hce⟩
 | some x=>
  have hy:ys[k2]? = none:=by rcases hend with h | h;(rw[hx] at h;cases h);exact h
  refine aE (Ut (h1.but s1.extBut D.i1z) (g1.but s1.extBut D.l1z) hx fun p2 i2 s2=>aP ?_)
  have O2:eA p2 TO a b:=s2.extBut _ _ D.TOi1 (s1.extBut _ _ D.TOz hO)
  refine aE (eI O2 rfl (aE (iK O2 fun p3 O3 s3=>?_)))
  refine aE (lZ (aP ?_));refine aE (aE (kC ?_))
  show wpAny _ _ (bX (.ref j2) >>= fun q=>_) _ _ _
  refine aE (Aad hh (((h2.but s1.extBut D.i2z).but s2.extBut D.i12.symm).but s3.extBut D.TOi2.symm) (((g2.but s1.extBut D.l2z).but s2.extBut D.l2i1).but s3.extBut D.l2TO) hy fun p4 e s4 he=>?_)
  obtain ⟨oe,hoe,hce⟩:=he
  have z4:iY p4 z TI TO .ellipsis:=s4 _ _ D.i2z.symm (s3.extBut _ _ D.TOz.symm (s2.extBut _ _ D.i1z.symm z1))
  have hez:e≠z:=fun q=>by subst q;rw[z4] at hoe;cases hoe;simp at hce
  refine eJ z4 (by simp) fun p5 _ s5=>hE p5 e (fun c o c1 c2 c3 c4 q=>s5.extBut _ _ c1 (s4 _ _ c4 (s3.extBut _ _ c2 (s2.extBut _ _ c3 (s1.extBut _ _ c1 q))))) ⟨oe,s5.extBut _ _ hez hoe,hce⟩
theorem Aeq{x y:aC}{Q:Option aC->aG->Prop}(D:lW z TI TO j1 j2 l1 l2)(hz:iY s.heap z TI TO .none)(hI:eA s.heap TI (.ref j1) (.ref j2))(hO:eA s.heap TO a b)
  (h1:ItK b1 s.heap j1 l1 k1) (h2:ItK b2 s.heap j2 l2 k2) (g1:SqK b1 s.heap l1 xs) (g2:SqK b2 s.heap l2 ys) (hx:xs[k1]? = some x) (hy:ys[k2]? = some y)
  (hQ:∀ h',iY h' z TI TO (rawInt s.heap.objs.size)->eA h' TO x y->ItK b1 h' j1 l1 (k1+1)->ItK b2 h' j2 l2 (k2+1)->eA h' s.heap.objs.size x y->h'.objs.size=s.heap.objs.size+1 ->
   (∀ c o,c≠z->c≠TO->c≠j1->c≠j2->s.heap.get? c=some o->h'.get? c=some o)->Q (some (.ref s.heap.objs.size)) { s with heap:=h' }) :
  wpAny (model prog w) A (pyNext (.ref z)) Q E s:=by
 have ty:s.TypeIs (.ref z) "zip" := ⟨_,hz,rfl⟩
 unfold pyNext
 exact aE (kD (dQ (name:=fU "__next__") ty iS (eW iS ty oF (Ad8 D hz hI hO h1 h2 g1 g2 hx hy fun h' q1 q2 q3 q4 q5 q6 q7=>aP (hQ h' q1 q2 q3 q4 q5 q6 q7)) (nQ _))))
theorem Aio{Q:Option aC->aG->Prop}(hh:A.handled=none)(D:lW z TI TO j1 j2 l1 l2)(hz:iY s.heap z TI TO .none)(hI:eA s.heap TI (.ref j1) (.ref j2))(hO:eA s.heap TO a b)
  (h1:ItK b1 s.heap j1 l1 k1) (h2:ItK b2 s.heap j2 l2 k2) (g1:SqK b1 s.heap l1 xs) (g2:SqK b2 s.heap l2 ys) (hend:xs[k1]? = none\/ys[k2]? = none)
  (hQ:∀ h',(∀ c o,c≠z->c≠TO->c≠j1->c≠j2->s.heap.get? c=some o->h'.get? c=some o)->Q none { s with heap:=h' }):wpAny (model prog w) A (pyNext (.ref z)) Q E s:=by
 have ty:s.TypeIs (.ref z) "zip" := ⟨_,hz,rfl⟩
 unfold pyNext
 refine aE (kD (dQ (name:=fU "__next__") ty iS (eW iS ty oF (Ai4 hh D hz hI hO h1 h2 g1 g2 hend fun h' e hk he=>?_) (nQ _))))
 obtain ⟨ob,hob,hcl⟩:=he
 exact aE (wpAny_isInstance (T := "StopIteration") (b:=true) ⟨ob,hob,hcl⟩ isSubtype_stop (aP (hQ _ hk)))
end
noncomputable abbrev zh1(c1:String)(h:Heap)(l1:Addr):Heap:=h.push { cls:=.type c1,data:=.fields #[.ref l1,.int 0 0] }
noncomputable abbrev zh2(c1 c2:String)(h:Heap)(l1 l2:Addr):Heap:=(zh1 c1 h l1).push { cls:=.type c2,data:=.fields #[.ref l2,.int 0 0] }
noncomputable abbrev zh3(c1 c2:String)(h:Heap)(l1 l2:Addr):Heap:=(zh2 c1 c2 h l1 l2).push { cls:=.type "tuple",data:=.seq #[.ref h.objs.size,.ref (zh1 c1 h l1).objs.size] }
noncomputable abbrev zh4(c1 c2:String)(h:Heap)(l1 l2:Addr):Heap:=(zh3 c1 c2 h l1 l2).push { cls:=.type "tuple",data:=.seq #[.none,.none] }
noncomputable abbrev zh5(c1 c2:String)(h:Heap)(l1 l2:Addr):Heap:=(zh4 c1 c2 h l1 l2).push { cls:=.type "zip",data:=.fields #[.none,.bool false,.bool false,.ref (zh2 c1 c2 h l1 l2).objs.size,.ref (zh3 c1 c2 h l1 l2).objs.size] }
theorem Aiu (l1 l2 : Addr) (xs ys : Array aC) : Meets (jC.«zip.__new__» ⟨[.type "zip", .ref l1, .ref l2], []⟩) (fun _ R s => s.heap.IsTuple l1 xs /\ s.heap.IsTuple l2 ys /\
   R (.ok (.ret (.ref (zh4 "tuple_iterator" "tuple_iterator" s.heap l1 l2).objs.size))) { s with heap:=zh5 "tuple_iterator" "tuple_iterator" s.heap l1 l2 }):=
 .of_wp fun prog w A R s h=>by
  obtain ⟨hp,g,d,tk,os⟩:=s
  obtain ⟨t1,t2,h⟩:=h
  have hsub:=sub_zip
  have T1:nR (mB ⟨hp,g,d,tk,os⟩) l1 xs:=t1
  have T2:nR (mB ⟨hp.push { cls:=.type "tuple_iterator",data:=.fields #[.ref l1,.int 0 0] },g,d,tk,os⟩) l2 ys:=nS t2 _
  wp_walk using gI T1,gI T2
  exact ⟨_,rfl,h⟩
section
variable {prog:aW}{w:bG}{A:bZ}{E:aC->aG->Prop}{s:aG}
theorem Adl{l1 l2:Addr}{xs ys:Array aC}{Q:aC->aG->Prop}(t1:s.heap.IsTuple l1 xs)(t2:s.heap.IsTuple l2 ys)
  (h:∀ h',iY h' (s.heap.objs.size+4) (s.heap.objs.size+2) (s.heap.objs.size+3) .none->eA h' (s.heap.objs.size+2) (.ref s.heap.objs.size) (.ref (s.heap.objs.size+1)) ->
   eA h' (s.heap.objs.size+3) .none .none->ItK false h' s.heap.objs.size l1 0->ItK false h' (s.heap.objs.size+1) l2 0->(∀ c o,s.heap.get? c=some o->h'.get? c=some o)->Q (.ref (s.heap.objs.size+4)) { s with heap:=h' }) :
  wpAny (model prog w) A (call (.type "zip") [.ref l1,.ref l2]) Q E s:=by
 refine callType_new F.called_zip (by decide) (oG _ _) (oP _ _) (fun obj=>mC obj _ _) oQ (Aiu l1 l2 xs ys) ⟨t1,t2,?_⟩
 have z1:(zh1 "tuple_iterator" s.heap l1).objs.size=s.heap.objs.size+1:=cP ..
 have z2:(zh2 "tuple_iterator" "tuple_iterator" s.heap l1 l2).objs.size=s.heap.objs.size+2:=by rw[cP,z1]
 have z3:(zh3 "tuple_iterator" "tuple_iterator" s.heap l1 l2).objs.size=s.heap.objs.size+3:=by rw[cP,z2]
 have z4:(zh4 "tuple_iterator" "tuple_iterator" s.heap l1 l2).objs.size=s.heap.objs.size+4:=by rw[cP,z3]
 have q5:(zh5 "tuple_iterator" "tuple_iterator" s.heap l1 l2).get? (zh4 "tuple_iterator" "tuple_iterator" s.heap l1 l2).objs.size=some _:=aR _ rfl
 have q4:(zh5 "tuple_iterator" "tuple_iterator" s.heap l1 l2).get? (zh3 "tuple_iterator" "tuple_iterator" s.heap l1 l2).objs.size=some _:=aD _ (aR _ rfl)
 have q3:(zh5 "tuple_iterator" "tuple_iterator" s.heap l1 l2).get? (zh2 "tuple_iterator" "tuple_iterator" s.heap l1 l2).objs.size=some _:=aD _ (aD _ (aR _ rfl))
 have q2:(zh5 "tuple_iterator" "tuple_iterator" s.heap l1 l2).get? (zh1 "tuple_iterator" s.heap l1).objs.size=some _:=aD _ (aD _ (aD _ (aR _ rfl)))
 have q1:(zh5 "tuple_iterator" "tuple_iterator" s.heap l1 l2).get? s.heap.objs.size=some _:=aD _ (aD _ (aD _ (aD _ (aR _ rfl))))
 show _/\_
 rw[z2,z3,z4] at q5;rw[z1,z2] at q3;rw[z3] at q4
 rw[z1] at q2;rw[z4]
 exact ⟨⟨_,q5,rfl⟩,h _ q5 q3 q4 ⟨_,q1,rfl,rfl⟩ ⟨_,q2,rfl,rfl⟩ fun c o q=>aD _ (aD _ (aD _ (aD _ (aD _ q))))⟩
end
end ZT
namespace MR
open PySem PySem.Spec PyProof.Rows L2
noncomputable def SK(bb:Bool)(K:aA)(H:Hp)(a:Addr)(xs:List V):Prop:=match bb with
 | true=>SqL K H a xs
 | false=>SqT K H a xs
theorem SK.at{X:Cx}{pins:List (Addr×Obj)}{σ:L2.St}{H:Hp}{s:aG}{bb:Bool}{a:Addr}{xs:List V}(I:L2.Inv X pins σ H s)(h:SK bb X.K H a xs):∃ its:List aC,Vals xs its/\ZT.SqK bb s.heap a its.toArray/\xs.length<=sizeLine:=by
 cases bb with
 | true=>obtain ⟨its,r,p,z⟩:=I.list h;exact ⟨its,r,p.isList,z⟩
 | false=>obtain ⟨its,r,p,z⟩:=I.tuple h;exact ⟨its,r,p,z⟩
theorem SK.inj{X:Cx}{pins:List (Addr×Obj)}{σ:L2.St}{H:Hp}{s:aG}{bb:Bool}{a:Addr}{xs ys:List V}(I:L2.Inv X pins σ H s)(h:SK bb X.K H a xs)(h':SK bb X.K H a ys):xs=ys:=by
 cases bb with
 | true=>exact I.list_inj h h'
 | false=>exact I.tuple_inj h h'
noncomputable def Ack(b1 b2:Bool)(K:aA)(a b:Addr):It:=
 ⟨fun i H=>∃ xs ys x y,SK b1 K H a xs/\SK b2 K H b ys/\xs[i]? = some x/\ys[i]? = some y,fun i H z H'=>∃ p x y,H p=none/\z = .ref p/\H'=upd H p (.tup [x,y])/\(∀ xs,SK b1 K H a xs->xs[i]? = some x)/\∀ ys,SK b2 K H b ys->ys[i]? = some y,
  fun i H=>∃ xs ys,SK b1 K H a xs/\SK b2 K H b ys/\(xs.length<=i\/ys.length<=i)⟩
theorem Pt{b1 b2:Bool}{P:aW}{w:bG}{K:aA}{elts:List Expr}{x1}{pos:Pos}(a b z TI TO i1 i2:Addr)(D:lW z TI TO i1 i2 a b):Turn P w K (.Tuple elts x1 pos) (Ack b1 b2 K a b) [z,TI,TO,i1,i2] z
  (fun i h=>iY h z TI TO .none/\eA h TI (.ref i1) (.ref i2)/\(∃ u v,eA h TO u v)/\ZT.ItK b1 h i1 a i/\ZT.ItK b2 h i2 b i) where
 mem:=by simp
 obj:=fun i h st c hb=>by
  obtain ⟨h1,h2,⟨u,v,h3⟩,h4',h5'⟩:=st
  obtain ⟨o4,h4,d4⟩:=h4'.obj
  obtain ⟨o5,h5,d5⟩:=h5'.obj
  simp only[bV,eD,or_false] at hb
  rcases hb with rfl | rfl | rfl | rfl | rfl
  ·exact ⟨_,h1,fun v z=>by simp at z⟩
  ·exact ⟨_,h2,fun v z=>by simp at z⟩
  ·exact ⟨_,h3,fun v z=>by simp at z⟩
  ·exact ⟨_,h4,fun v z=>by rw[d4] at z;cases z⟩
  ·exact ⟨_,h5,fun v z=>by rw[d5] at z;cases z⟩
 keep:=fun i h h' st k=>by
  obtain ⟨h1,h2,⟨u,v,h3⟩,h4,h5⟩:=st
  exact ⟨k z (by simp) _ h1,k TI (by simp) _ h2,⟨u,v,k TO (by simp) _ h3⟩,h4.keep (k i1 (by simp)),h5.keep (k i2 (by simp))⟩
 item:=by
  intro X hP hw hK hc i pins s σ H E I hf st hg
  subst hP hw hK
  obtain ⟨h1,h2,⟨u0,v0,h3⟩,h4,h5⟩:=st
  obtain ⟨xs,ys,x,y,sq1,sq2,hx,hy⟩:=hg
  obtain ⟨its1,hv1,pl1,hz1⟩:=SK.at I sq1
  obtain ⟨its2,hv2,pl2,hz2⟩:=SK.at I sq2
  obtain ⟨u,hu,r⟩:=hv1.get hx
  obtain ⟨u',hu',r'⟩:=hv2.get hy
  refine ZT.Aeq D h1 h2 h3 h4 h5 pl1 pl2 (by simpa using hu) (by simpa using hu') fun h' o1 o2 o3 o4 o5 o6 o7=>?_
  refine ⟨_,rfl,?_⟩
  have hfr:H s.heap.objs.size=none:=I.hok.fresh (aZ _)
  have I1:L2.Inv X pins σ (upd H s.heap.objs.size (.tup [x,y])) { s with heap:=h',toks:=s.toks }:=
   Inv.turnNew (ch:=[z,TI,TO,i1,i2]) I hf (fun c o hb q=>o7 c o (fun z=>hb (by simp[z])) (fun z=>hb (by simp[z])) (fun z=>hb (by simp[z])) (fun z=>hb (by simp[z])) q) (aZ _)
    (show ObjOk X.prog X.w _ h' _ (.tup [x,y]) from ⟨by show 2<=sizeLine;decide,[u,u'],.cons r (.cons r' .nil),⟨_,o5,rfl,_,rfl⟩⟩)
  refine wpAny_letOwnedTupleGo_zip o1 fun h9 e2 sb2=>?_
  have hlt:∀ c∈[z,TI,TO,i1,i2],c < s.heap.objs.size:=fun c hb=>by
   simp only[bV,eD,or_false] at hb
   rcases hb with rfl | rfl | rfl | rfl | rfl
   ·exact aO h1
   ·exact aO h2
   ·exact aO h3
   ·exact h4.lt
   ·exact h5.lt
  have hnone:∀ c∈[z,TI,TO,i1,i2],(upd H s.heap.objs.size (.tup [x,y])) c=none:=fun c hb=>by rw[Ap (bR (hlt c hb))];exact (hf c hb).1
  obtain ⟨f0,f1,f2,f3,f4,f5⟩:=hf z (by simp)
  have I2:=I1.turned (t':=s.toks) (h':=h9) (it:=z) (fun c o hb q=>sb2.2 c hb |>.trans q) (hnone z (by simp)) f1 f3 f4 f5
  have hTI:eA h' TI (.ref i1) (.ref i2):=o7 TI _ D.TIz D.TITO D.TIi1 D.TIi2 h2
  refine ⟨.ref s.heap.objs.size,_,I2,rfl,⟨_,x,y,hfr,rfl,rfl,fun ys sq'=>?_,fun ys sq'=>?_⟩,⟨e2,(sb2.2 TI D.TIz).trans hTI,⟨_,_,(sb2.2 TO D.TOz).trans o2⟩,o3.keep (fun o q=>(sb2.2 i1 D.i1z).trans q),o4.keep (fun o q=>(sb2.2 i2 D.i2z).trans q)⟩,hnone⟩
  ·rw[SK.inj I sq' sq1];exact hx
  ·rw[SK.inj I sq' sq2];exact hy
 done:=by
  intro X hP hw hK hc i pins s σ H E I hf st hg
  subst hP hw hK
  obtain ⟨h1,h2,⟨u0,v0,h3⟩,h4,h5⟩:=st
  obtain ⟨xs,ys,sq1,sq2,hx⟩:=hg
  obtain ⟨its1,hv1,pl1,hz1⟩:=SK.at I sq1
  obtain ⟨its2,hv2,pl2,hz2⟩:=SK.at I sq2
  have hl1:=hv1.length
  have hl2:=hv2.length
  refine ZT.Aio (I.ok.hd hc) D h1 h2 h3 h4 h5 pl1 pl2 (by simp;omega) fun h' k=>⟨rfl,?_⟩
  have nch:∀ b u,H b=some u->b∉[z,TI,TO,i1,i2]:=fun b u e hb=>by rw[(hf b hb).1] at e;cases e
  have k':∀ b o,b∉[z,TI,TO,i1,i2]->s.heap.get? b=some o->h'.get? b=some o:=fun c o hb q=>k c o (fun z=>hb (by simp[z])) (fun z=>hb (by simp[z])) (fun z=>hb (by simp[z])) (fun z=>hb (by simp[z])) q
  refine I.step (g':=s.gens) (d':=s.drawn) (t':=s.toks) (ch:=[z,TI,TO,i1,i2]) (fun b hb=>?_) (fun b o _ _ hc e _=>k' b o hc e) (fun b o _ _ hc e _=>⟨o.slots,k' b o hc e⟩) (fun _ _ _ _ n=>n) (fun b u hc e=>⟨u,k' b u hc e⟩) (fun _ _ e=>e) (fun _ _ _ e=>e) (fun b ps e=>⟨#[],by rw[e];simp⟩) (fun m hm=>?_) (fun b u e=>?_) I.bare
  ·obtain ⟨_,f1,_,f3,f4,f5⟩:=hf b hb
   exact ⟨f3,f1,f4,f5⟩
  ·obtain ⟨o1,es,ep,ho,r⟩:=hm
   exact ⟨o1,es,ep,k' _ o1 (fun z=>(hf _ z).2.1 rfl) ho,r⟩
  ·refine (I.hok b u e).stay (fun c v hc q=>k' c v ?_ q) (fun _ q=>q) fun _ _ q=>q
   rcases hc with z | z
   ·rw[z];exact nch b u e
   ·exact nch c _ z
 self:=fun _ _ _ _ _ st h=>kJ st.1 h
section
variable {X:Cx}{elts:List Expr}{x1:Nat}{tpos:Pos}
noncomputable def Ak8(K:aA)(ta:TA):TI:=fun σ H R=>ta σ H fun vs H1=>∃ a b xs ys,vs=[.ref a,.ref b]/\SqT K H1 a xs/\SqT K H1 b ys/\R (Ack false false K a b) H1
theorem W2{a b:Expr}{ta:TA}{p pos:Pos}(hg:Gl X "zip")(hm:X.mg "zip" = none)(ha:PA X [a,b] ta)(hs:aL [a,b] X.env=(false,eval a X.env)::aL [b] X.env:=by rfl)(hpl:(backTo pos (aL [b] X.env)).any (·.1)=false:=by rfl):PI X (.Tuple elts x1 tpos) (.Call (.Name "zip" p) [a,b] [] pos) (Ak8 X.K ta):=by
 intro pins s σ H R I h
 refine Call_ (J6 I hg hm Tb (dY (thn (ha pos pins s σ H _ I h) fun us s1 ⟨vs,H1,I1,r1,q1⟩=>?_) hs hpl))
 obtain ⟨l1,l2,xs,ys,rfl,sq1,sq2,q⟩:=q1
 obtain ⟨u,u',rfl,ru,ru'⟩:=Agh r1
 cases ru;cases ru'
 obtain ⟨its1,hv1,pl1,hz1⟩:=I1.tuple sq1
 obtain ⟨its2,hv2,pl2,hz2⟩:=I1.tuple sq2
 have lt1:l1 < s1.heap.objs.size:=by obtain ⟨o,e,_⟩:=pl1;exact aO e
 have lt2:l2 < s1.heap.objs.size:=by obtain ⟨o,e,_⟩:=pl2;exact aO e
 refine ZT.Adl pl1 pl2 fun h' o1 o2 o3 o4 o5 o7=>?_
 have I2:L2.Inv X pins σ H1 { s1 with heap:=h' }:=I1.kept (t':=s1.toks) o7
 refine kJ o1 ⟨_,_,_,_,H1,rfl,I2,Pt (b1:=false) (b2:=false) l1 l2 _ _ _ _ _ (Pu _ _ _ lt1 lt2),⟨o1,o2,⟨_,_,o3⟩,o4,o5⟩,fun b hb=>?_,q⟩
 have hb':s1.heap.objs.size<=b:=by
  simp only[bV,eD,or_false] at hb
  rcases hb with rfl | rfl | rfl | rfl | rfl <;> first | exact oH _ _ | exact aZ _
 exact L2.Inv.fpOk I1 hb' (I1.hok.fresh hb')
noncomputable def Fo(us ws:List U):List U:=(us.zip ws).map fun p=>.tup [p.1,p.2]
theorem Ho(us ws:List U)(k:Nat):(Fo us ws)[k]? = Fw us[k]? ws[k]?:=by
 unfold Fo
 rw[cY,List.zip,List.getElem?_zipWith]
 cases us[k]? <;> cases ws[k]? <;> rfl
theorem Rn{K:aA}{H:Hp}{α:List Addr}{a b:Addr}{us ws:List U}{xs ys:List V}(sa:SqT K H a xs)(sb:SqT K H b ys)(ra:RepL K H α us xs)(rb:RepL K H α ws ys):Pe K (Ack false false K a b) (.seq (Fo us ws)) H α:=by
 intro H2 α2 L2 g A2 k
 have mv:∀ (c:Addr) (vs:List U) (zs:List V),SqT K H c zs->RepL K H α vs zs->∃ zs2,SqT K H2 c zs2/\RepL K H2 α2 vs zs2:=fun c vs zs s r=>by
  have m:=(show RepU K H α (.tup vs) (.ref c) by unfold RepU;exact ⟨c,zs,rfl,s,r⟩).mono g
  unfold RepU at m
  obtain ⟨c',zs2,e,s2,r2⟩:=m
  cases e
  exact ⟨zs2,s2,r2⟩
 obtain ⟨xs2,sa2,ra2⟩:=mv a us xs sa ra
 obtain ⟨ys2,sb2,rb2⟩:=mv b ws ys sb rb
 refine ⟨fun u eu=>?_,fun eu=>?_⟩
 ·have eu:(Fo us ws)[k]? = some u:=by simpa[IU.at] using eu
  rw[Ho] at eu
  cases h1:us[k]? with
  | none=>rw[h1] at eu;simp[Fw] at eu
  | some u1=>
   cases h2:ws[k]? with
   | none=>rw[h1,h2] at eu;simp[Fw] at eu
   | some u2=>
    rw[h1,h2] at eu
    simp[Fw] at eu
    subst eu
    obtain ⟨x,hx,rx⟩:=ra2.get h1
    obtain ⟨y,hy,ry⟩:=rb2.get h2
    refine ⟨⟨xs2,ys2,x,y,sa2,sb2,hx,hy⟩,?_⟩
    rintro z H3 ⟨p,v,v',hp,rfl,rfl,hy1,hy2⟩
    have e1:=hy1 xs2 sa2
    have e2:=hy2 ys2 sb2
    rw[hx] at e1;cases e1
    rw[hy] at e2;cases e2
    exact A2.tup (.cons rx (.cons ry .nil)) hp
 ·have eu:(Fo us ws)[k]? = none:=by simpa[IU.at] using eu
  rw[Ho] at eu
  refine ⟨xs2,ys2,sa2,sb2,?_⟩
  cases h1:us[k]? with
  | none=>left;rw[<- ra2.length];exact bO.mp h1
  | some u1=>
   cases h2:ws[k]? with
   | none=>right;rw[<- rb2.length];exact bO.mp h2
   | some u2=>rw[h1,h2] at eu;simp[Fw] at eu
end
end MR
namespace MR
open PySem PySem.Spec PyProof.Rows PySem.Calls L2
theorem Afk{bs:List Bool}:∀ {us:List aC},Vals (bs.map V.bl) us->∀ (i:Nat) (v:aC),us[i]? = some v->∃ b,bs[i]? = some b/\v = .bool b:=by
 induction bs with
 | nil=>intro us r i v e;rw[bW] at r;cases r;simp at e
 | cons n ns ih=>
  intro us r i v e
  rw[aM] at r
  cases r with
  | cons r1 r2=>
   cases i with
   | zero=>simp at e;subst e;exact ⟨n,rfl,r1⟩
   | succ i=>simpa using ih r2 i v (by simpa using e)
theorem Afx{bs:List Bool}:∀ {us:List aC},Vals (bs.map V.bl) us->us.length=bs.length:=by
 induction bs with
 | nil=>intro us r;rw[bW] at r;cases r;rfl
 | cons n ns ih=>
  intro us r
  rw[aM] at r
  cases r with
  | cons r1 r2=>simp[ih r2]
theorem Adt(bs:List Bool):((fO bs.length).all fun i=>(bs[i]?).getD true)=bs.all id:=by
 rw[lH,bM,bM]
 constructor
 ·intro h b hb
  obtain ⟨i,hi,e⟩:=mM hb
  have:=h i (gQ.mpr hi)
  simp only[dD hi,kK,e] at this
  exact this
 ·intro h i hi
  have hi':=gQ.mp hi
  simp only[dD hi',kK]
  exact h _ (List.getElem_mem hi')
section
variable {X:Cx}
theorem Ads{s:aG}{h':Heap}{o:Obj}(hk:∀ b x,b∉[s.heap.objs.size]->(s.heap.push o).get? b=some x->h'.get? b=some x):∀ b x,s.heap.get? b=some x->h'.get? b=some x:=
 fun b x e=>hk b x (fun hm=>by rw[jM.mp hm] at e;exact dB _ (aO e)) (aD _ e)
theorem Pf(hc:X.calm=true):CallR X (.builtin "all") (fun xs H Q=>∃ (p:Addr) (bs:List Bool),xs=[.ref p]/\SqL X.K H p (bs.map V.bl)/\Q (.bl (bs.all id)) H):=by
 intro pins s σ H xs us Q I r h
 obtain ⟨p,bs,rfl,hq,q⟩:=h
 obtain ⟨u,rfl,rx⟩:=Sf r
 cases rx
 obtain ⟨its,r',pl,hz⟩:=I.list hq
 have hl:=pl.isList
 have hlt:p < s.heap.objs.size:=by obtain ⟨_,e,_⟩:=hl;exact aO e
 refine call_all_walk (jU hl ?_)
 refine ⟨s.heap.objs.size,[s.heap.objs.size,p],[s.heap.objs.size],its.toArray.size,_,_,fun i=>(bs[i]?).getD true,rfl,Walks.list (A:=bZ.in1 _) (I.ok.hd hc) _ p (bR hlt) its.toArray,
  ⟨⟨_,aR _ rfl,rfl,rfl⟩,hl.push _⟩,fun i v s' Q' E' hP hQ=>?_,fun h' tk hk=>?_⟩
 ·obtain ⟨b,e,rfl⟩:=Afk r' i v (by simpa using hP)
  simp only[e,kK] at hQ
  exact eO hQ
 ·have e:((fO its.toArray.size).all fun i=>(bs[i]?).getD true)=bs.all id:=by
   rw[bS,Afx r'];exact Adt bs
  rw[e]
  exact ⟨.bl (bs.all id),H,I.kept (Ads hk),rfl,q⟩
end
noncomputable def toB:U->Option Bool
 | .bl b=>some b
 | _=>none
theorem Qe{K:aA}{H:Hp}{α:List Addr}:∀ {us:List U} {xs:List V} {bs:List Bool},RepL K H α us xs->mapO toB us=some bs->xs=bs.map V.bl
 | [],xs,ys,r,h=>by unfold RepL at r;subst r;cases h;rfl
 | u::us,xs,ys,r,h=>by
  unfold RepL at r
  obtain ⟨x,xr,rfl,r1,r2⟩:=r
  obtain ⟨y,e1,h⟩:=aB.mp h
  obtain ⟨yr,e2,h⟩:=aH.mp h
  subst h
  cases u <;> simp only[toB] at e1 <;> first
   | (cases e1;unfold RepU at r1;subst r1;rw[Qe r2 e2];rfl)
   | cases e1
noncomputable def Jp:SC:=fun us L=>match us with
 | [.ref n]=>(Al L n).bind fun l=>(mapO toB l).map fun bs=>(.bl (bs.all id),L)
 | _=>none
theorem W6{K:aA}:Q1 K (fun xs H Q=>∃ (p:Addr) (bs:List Bool),xs=[.ref p]/\SqL K H p (bs.map V.bl)/\Q (.bl (bs.all id)) H) Jp:=by
 intro H α L us xs z L' Q A r e q
 unfold Jp at e
 split at e
 ·obtain ⟨l,hl,e⟩:=aB.mp e
  obtain ⟨bs,e1,e⟩:=aH.mp e
  cases e
  obtain ⟨x,rfl,rx⟩:=r.one
  obtain ⟨a,ys,rfl,sq,r2⟩:=Lj A hl rx
  rw[Qe r2 e1] at sq
  exact ⟨a,bs,rfl,sq,q _ H α (.refl _ _) A rfl⟩
 ·cases e
section
variable {X:Cx}
end
end MR
namespace ZT
open PySem PySem.Spec PyProof.Rows
open Sem (wp)
section
variable {prog:aW}{w:bG}{A:bZ}{E:aC->aG->Prop}{s:aG}
end
section
variable {prog:aW}{w:bG}{A:bZ}{E:aC->aG->Prop}{s:aG}
end
end ZT
namespace MR
open PySem PySem.Spec PyProof.Rows L2
section
variable {X:Cx}{elts:List Expr}{x1:Nat}{tpos:Pos}
end
structure CompScC(X:Cx)(scope:gR)(N':List Str)(ix:List (Option Nat)):Prop where
 kind:scope.kind = .function
 own:(scope.names.all fun y=>scope.names.lookup y.1 == some y.2)=true
 free:(scope.names.all fun y=>y.2 != .free || (X.env.kindOf y.1 == some .cell || X.env.kindOf y.1 == some .free))=true
 ixs:((N'.zip ix).all fun p=>match p.2 with | none=>true | some i=>(X.N[i]? == some p.1)&&(scope.names.lookup p.1 == some .free))=true
 len:N'.length=ix.length
section
variable {X:Cx}{scope:gR}{N':List Str}{ix:List (Option Nat)}{pins:List (Addr×Obj)}{σ:L2.St}{H2:Hp}{s2:aG}{cl:List (Str×Addr)}{fp:List Addr}
theorem CompScC.lk(S:CompScC X scope N' ix){x:Str}{k:gC}(h:(x,k)∈scope.names):scope.names.lookup x=some k:=by
 have:=bM.mp S.own _ h
 simpa using this
theorem CompScC.names(S:CompScC X scope N' ix):∀ x∈scope.names,x.2 = .local->scope.names.lookup x.1=some .local:=fun x hx hl=>by
 have:=S.lk (x:=x.1) (k:=x.2) hx
 rw[hl] at this
 exact this
theorem CompScC.clos(S:CompScC X scope N' ix)(ok:X.Ok):∃ cl,closureFor scope X.env=pure cl/\(∀ x c,cl.lookup x=some c->X.env.cells.lookup x=some c)/\∀ y∈scope.names,y.2 = .free->∃ c,cl.lookup y.1=some c:=by
 refine Hc fun y hy hf=>?_
 have:=bM.mp S.free y hy
 rw[hf] at this
 simp at this
 exact ok.has y.1 this
end
section
variable {X:Cx}{scope:gR}{N':List Str}{ix:List (Option Nat)}{elt tg iter c:Expr}{pos:Pos}{fi:FI}{g:FG}{ft:FT}{fe:FE}
end
noncomputable def Its(x:Str):It:=⟨fun i _=>i < x.cps.size,fun i H v H'=>H'=H/\∃ c,x.cps[i]? = some c/\v = .str ⟨#[c]⟩,fun i _=>x.cps.size<=i⟩
theorem Aac{P:aW}{w:bG}{K:aA}{tg:Expr}(x:Str)(t:Tok)(it:Addr):Turn P w K tg (Its x) [it] it (fun i h=>h.IsStrIter it "str_ascii_iterator" x t i) where
 mem:=by simp
 obj:=fun i h st b hb=>by
  have e:b=it:=by simpa using hb
  subst e
  obtain ⟨o,e,c,d⟩:=st
  exact ⟨o,e,fun v z=>by rw[d] at z;cases z⟩
 keep:=fun i h h' st k=>by
  obtain ⟨o,e,r⟩:=st
  exact ⟨o,k it (by simp) o e,r⟩
 item:=by
  intro X hP hw hK hc i pins s σ H E I hf st hg
  subst hP hw hK
  obtain ⟨f0,f1,f2,f3,f4,f5⟩:=hf it (by simp)
  have hg:i < x.cps.size:=hg
  have hx:x.cps[i]? = some (x.cps[i]'hg):=jS hg
  refine wpAny_pyNext_ascii_item st hx fun h' st' sb=>?_
  have I1:Inv X pins σ H { s with heap:=h',toks:=s.toks+1 }:=I.turned (t':=s.toks+1) (fun b o hb e=>(sb.2 b hb).trans e) f0 f1 f3 f4 f5
  obtain ⟨o,e,c,d⟩:=id st'
  exact ⟨_,rfl,Y9 (s:={ s with heap:=h',toks:=s.toks+1 }) e c d (by decide) ⟨.str ⟨#[x.cps[i]'hg]⟩,H,I1,⟨_,rfl⟩,⟨rfl,_,hx,rfl⟩,st',fun b hb=>(hf b hb).1⟩⟩
 done:=by
  intro X hP hw hK hc i pins s σ H E I hf st hg
  subst hP hw hK
  obtain ⟨f0,f1,f2,f3,f4,f5⟩:=hf it (by simp)
  have hx:x.cps[i]? = none:=Array.getElem?_eq_none hg
  exact wpAny_pyNext_ascii_end (I.ok.hd hc) st hx fun h' eb=>⟨rfl,I.turned (t':=s.toks) (fun b o hb e=>eb b o hb e) f0 f1 f3 f4 f5⟩
 self:=fun _ _ _ _ _ st h=>wpAny_pyIter_striter_ascii st h
noncomputable def Amy(tl:TE):TI:=fun σ H R=>tl σ H fun v H1=>∃ x:Str,v = .str x/\x.cps.all (· < 128)=true/\R (Its x) H1
section
variable {X:Cx}{tg:Expr}
theorem Ai6{l:Expr}{tl:TE}(hl:PE X l tl):PI X tg l (Amy tl):=by
 intro pins s σ H R I h
 refine thn (hl pins s σ H _ I h) fun v s1 ⟨x,H1,I1,r1,q1⟩=>?_
 obtain ⟨x,rfl,ha,q⟩:=q1
 obtain ⟨t,rfl⟩:=r1
 refine wpAny_pyIter_ascii ha ?_
 refine ⟨s1.heap.objs.size,[s1.heap.objs.size],_,_,H1,rfl,I1.kept (t':=s1.toks) fun b o e=>aD _ e,Aac x t _,⟨_,aR _ rfl,rfl,rfl⟩,fun b hb=>?_,q⟩
 have e:b=s1.heap.objs.size:=by simpa using hb
 subst e
 exact I1.fpOk (aZ _) (I1.hok.fresh (aZ _))
noncomputable def Ye(x:Str):List U:=x.cps.toList.map fun c=>.str ⟨#[c]⟩
noncomputable def S0(f:FE):FI:=fun δ L=>(f δ L).bind fun p=>match p.1 with
 | .str x=>if x.cps.all (· < 128)=true then some (.seq (Ye x),p.2) else none
 | _=>none
theorem Ad9{K:aA}{H:Hp}{α:List Addr}(x:Str):Pe K (Its x) (.seq (Ye x)) H α:=by
 intro H2 α2 L2 g A2 k
 refine ⟨fun u eu=>?_,fun eu=>?_⟩
 ·have eu:(Ye x)[k]? = some u:=by simpa[IU.at] using eu
  unfold Ye at eu
  rw[cY] at eu
  obtain ⟨c,hc,eu⟩:=aH.mp eu
  subst eu
  have hc':x.cps[k]? = some c:=by simpa using hc
  have hk:k < x.cps.size:=by
   have:=(aX.mp hc).1
   simpa using this
  refine ⟨hk,?_⟩
  rintro y H3 ⟨rfl,c',hc2,rfl⟩
  rw[hc'] at hc2;cases hc2
  exact ⟨.refl _ _,A2,rfl⟩
 ·have eu:(Ye x)[k]? = none:=by simpa[IU.at] using eu
  unfold Ye at eu
  have:x.cps.toList.length<=k:=by simpa using eu
  show x.cps.size<=k
  simpa using this
theorem Af0{l:Expr}{f:FE}(hl:PEF X l f):PIF X tg l (S0 f):=by
 refine PI.imp (Ai6 hl) ?_
 rintro σ H R ⟨α,δ,L,A,S,i,L3,e,q⟩
 obtain ⟨⟨u,L1⟩,e1,e⟩:=aB.mp e
 simp only at e
 split at e
 ·split at e
  ·rename_i ha
   cases e
   refine ⟨α,δ,L,A,S,_,_,e1,fun x H1 α1 g1 A1 r1=>?_⟩
   unfold RepU at r1
   subst r1
   exact ⟨_,rfl,ha,q _ H1 α1 g1 A1 (Ad9 _)⟩
  ·cases e
 ·cases e
end
end MR
namespace ZT
open PySem PySem.Spec PyProof.Rows
open Sem (wp)
section
variable {prog:aW}{w:bG}{A:bZ}{s:aG}{R:Result->aG->Prop}
variable {I:Addr}{fp wr:List Addr}{G:Array jF->Array jF->Prop}{n:Nat}{P:Nat->aC->Prop}{St:Nat->aG->Prop}
end
section
variable {prog:aW}{w:bG}{A:bZ}{E:aC->aG->Prop}{s:aG}
variable {I:Addr}{fp wr:List Addr}{G:Array jF->Array jF->Prop}{n:Nat}{P:Nat->aC->Prop}{St:Nat->aG->Prop}
end
end ZT
namespace MR
open PySem PySem.Spec PyProof.Rows PySem.Calls L2
section
variable {X:Cx}
theorem Ru:dX "tuple" = some (.type "tuple"):=by decide +kernel
end
end MR
namespace ZT
open PySem PySem.Spec PyProof.Rows HT
section
variable {prog:aW}{w:bG}{A:bZ}{E:aC->aG->Prop}{s:aG}
end
end ZT
namespace MR
open PySem PySem.Spec PyProof.Rows PySem.Calls L2
section
variable {X:Cx}{tg:Expr}
end
section
variable {X:Cx}
end
noncomputable def Aey:S2:=fun u w L=>match u,w with
 | .tup [],.tup b=>some (.tup b,L)
 | u,w=>Acu u w L
@[simp] theorem Agz(i j:Int)(L:UH):Aey (.int i) (.int j) L=some (.int (i+j),L):=rfl
end MR
namespace MR
open PySem PyProof.Rows L2
section
variable {X:Cx}
noncomputable def Aig:V->Option Int->Option Int->Hp->VK->Prop:=fun x lo hi H Q=>∃ a,x = .str a/\a.length<=sizeLine/\Q (.str (iC a lo hi)) H
theorem Ag6:SlR X Aig:=by
 intro pins s σ H x v vl vu lo hi sl Q I rx hs pl pu h
 obtain ⟨a,rfl,hl,q⟩:=h
 obtain ⟨t,rfl⟩:=rx
 refine ⟨"str",_,F.slot_str_getitem.lookup,jL _ _ _,?_⟩
 have fin:∀ (t':Tok) (k:Nat),EP X pins σ Q (.str (iC a lo hi) t') { s with toks:=k }:=fun t' k=>⟨.str (iC a lo hi),H,I.tok k,⟨_,rfl⟩,q⟩
 have hz:(iC a lo hi).length<=sizeLine:=cF (Txt.slice_le a _ _) hl
 cases pl with
 | none=>
  cases pu with
  | none=>exact eX (l:=none) (u:=none) (st:=none) hs rfl (iT ⟨hz,fin⟩)
  | int j tj=>exact eX (l:=none) (u:=some (j,tj)) (st:=none) hs rfl (iT ⟨hz,fin⟩)
 | int i ti=>
  cases pu with
  | none=>exact eX (l:=some (i,ti)) (u:=none) (st:=none) hs rfl (iT ⟨hz,fin⟩)
  | int j tj=>exact eX (l:=some (i,ti)) (u:=some (j,tj)) (st:=none) hs rfl (iT ⟨hz,fin⟩)
noncomputable def Agn:V->List V->Hp->VK->Prop:=fun x vs H Q=>∃ (a:Str) (l:Addr) (ys:List Str),x = .str a/\vs=[.ref l]/\H l=some (.lst (ys.map V.str))/\a.length<=16/\(ys.map (·.length)).sum+ys.length<=1048576/\Q (.str (pI a ys)) H
theorem Mm:∀ {its:List aC} {ys:List Str},Vals (ys.map V.str) its->StrsAre its ys
 | its,[],r=>by rw[bW] at r;cases r;exact .nil
 | its,y::ys,r=>by
  rw[aM] at r
  cases r with
  | cons r1 r2=>
   obtain ⟨t',rfl⟩:=r1
   exact .cons _ _ (Mm r2)
theorem Ad7:MtR X "str.join" Agn:=by
 intro pins s σ H x vs v us Q I rx rv h
 obtain ⟨a,l,ys,rfl,rfl,hH,ha,hw,q⟩:=h
 obtain ⟨t,rfl⟩:=rx
 obtain ⟨u,rfl,ru⟩:=rv.one
 cases ru
 obtain ⟨z,its,n,r,hl,e⟩:=I.lstM hH
 exact join_listW ⟨_,e,rfl,_,rfl⟩ (by simpa using Mm r) ha hw fun t' k=>⟨.str (pI a ys),H,I.tok k,⟨_,rfl⟩,q⟩
end
noncomputable def Mr:SS:=fun u lo hi L=>match u with
 | .str x=>if Cv x.length=true then some (.str (iC x lo hi),L) else none
 | u=>Ny u lo hi L
theorem Adr{X:Cx}:SlR X (fun x lo hi H Q=>Aem X.K x lo hi H Q\/Aig x lo hi H Q):=Abi.or Ag6
theorem Afc{K:aA}:Abt K (fun x lo hi H Q=>Aem K x lo hi H Q\/Aig x lo hi H Q) Mr:=by
 intro H α L u x lo hi z L' Q A ru e q
 cases u with
 | str a=>
  unfold Mr at e
  simp only at e
  split at e
  ·rename_i hs
   cases e
   unfold RepU at ru
   subst ru
   exact .inr ⟨a,rfl,Cr hs,q _ H α (.refl _ _) A rfl⟩
  ·cases e
 | tup l=>exact .inl (Uh H α L (.tup l) x lo hi z L' Q A ru e q)
 | ref n=>exact .inl (Uh H α L (.ref n) x lo hi z L' Q A ru e q)
 | _=>cases e
noncomputable def toS:U->Option Str
 | .str a=>some a
 | _=>none
theorem Wq{K:aA}{H:Hp}{α:List Addr}:∀ {us:List U} {xs:List V} {ys:List Str},RepL K H α us xs->mapO toS us=some ys->xs=ys.map V.str
 | [],xs,ys,r,e=>by
  unfold RepL at r
  cases e
  exact r
 | u::us,xs,ys,r,e=>by
  unfold RepL at r
  obtain ⟨x,xr,rfl,rx,r⟩:=r
  unfold mapO at e
  obtain ⟨y,hy,e⟩:=aB.mp e
  obtain ⟨yr,hyr,e⟩:=aH.mp e
  cases e
  cases u with
  | str a=>
   cases hy
   unfold RepU at rx
   rw[rx,Wq r hyr];rfl
  | _=>cases hy
noncomputable def Im:SM:=fun u us L=>match u,us with
 | .str a,[.ref n]=>(Ee L n).bind fun l=>(mapO toS l).bind fun ys=>if a.length<=16/\(ys.map (·.length)).sum+ys.length<=1048576 then some (.str (pI a ys),L) else none
 | _,_=>none
theorem Aa6{K:aA}:Vg K Agn Im:=by
 intro H α L u us x xs z L' Q A ru r e q
 unfold Im at e
 split at e
 ·obtain ⟨l,hl,e⟩:=aB.mp e
  obtain ⟨ys,hys,e⟩:=aB.mp e
  split at e
  ·rename_i hc
   cases e
   unfold RepU at ru
   subst ru
   obtain ⟨v,rfl,rv⟩:=r.one
   obtain ⟨a',zs,rfl,ea,h,r2⟩:=V7 A hl rv
   rw[Wq r2 hys] at h
   exact ⟨_,a',ys,rfl,rfl,h,hc.1,hc.2,q _ H α (.refl _ _) A rfl⟩
  ·cases e
 ·cases e
end MR
namespace MR
open PySem PySem.W PyProof.Rows L2
end MR
namespace Att
open PySem PySem.W PySem.Calls PyProof.Rows L2 MR
end Att
namespace MR
open PySem PyProof.Rows L2
section
variable {X:Cx}{k:Nat}{f:Addr}{fd:bE}{p:Str}{ps:List Str}{x:Str}{pp pos kpos:Pos}{e:Expr}{kws:List eZ}{nm:Option Str}
theorem PK.imp{t t':TA}(h:PK X kws t)(hi:∀ σ H Q,t' σ H Q->t σ H Q):PK X kws t':=fun pos pins s σ H Q I q=>h pos pins s σ H Q I (hi σ H Q q)
noncomputable def PKF(X:Cx)(kws:List eZ)(g:FA):Prop:=PK X kws (lA X.K g)
theorem Wk:PKF X [] Ah:=by
 refine PK.imp Aip ?_
 rintro σ H Q ⟨α,δ,L,A,S,z,L3,e,q⟩
 cases e
 exact q [] H α (.refl _ _) A .nil
theorem Ra{fe:FE}{g:FA}(ha:PEF X e fe)(hr:PKF X kws g):PKF X (⟨nm,e,kpos⟩::kws) (Ac fe g):=by
 refine PK.imp (Ae2 ha hr) ?_
 rintro σ H Q ⟨α,δ,L,A,S,z,L3,e,q⟩
 obtain ⟨⟨u,L1⟩,e1,e⟩:=aB.mp e
 obtain ⟨⟨us,L2⟩,e2,e⟩:=aH.mp e
 cases e
 exact ⟨α,δ,L,A,S,u,L1,e1,fun x H1 α1 g1 A1 r1=>⟨α1,δ,L1,A1,S.mono g1,us,L2,e2,fun xs H2 α2 g2 A2 r2=>q (x::xs) H2 α2 (g1.trans g2) A2 (.cons (r1.mono g2) r2)⟩⟩
end
end MR
namespace MR
open PySem PySem.Spec PyProof.Rows PySem.Calls L2
section
variable {X:Cx}
end
section
variable {X:Cx}
end
end MR
namespace MR
open PySem PyProof.Rows L2
theorem RepL.init{K:aA}{H:Hp}{α:List Addr}:∀ {us:List U} {xs:List V},RepL K H α us xs->RepL K H α us.dropLast xs.dropLast
 | [],xs,r=>by unfold RepL at r;subst r;exact .nil
 | [u],xs,r=>by
  unfold RepL at r
  obtain ⟨x,xr,rfl,rx,r⟩:=r
  unfold RepL at r
  subst r
  exact .nil
 | u::w::us,xs,r=>by
  unfold RepL at r
  obtain ⟨x,xr,rfl,rx,r⟩:=r
  have r':=r
  unfold RepL at r'
  obtain ⟨y,yr,rfl,ry,_⟩:=r'
  exact .cons rx (RepL.init r)
noncomputable def toK:U->Option Key
 | .int i=>some (.inl i)
 | .str x=>some (.inr x)
 | _=>none
theorem Aby{K:aA}{H:Hp}{α:List Addr}{u:U}{x:V}{k:Key}(r:RepU K H α u x)(h:toK u=some k):x=kV k:=by
 cases u <;> simp only[toK] at h <;> first | (cases h;unfold RepU at r;exact r) | cases h
noncomputable def Qc(kvs:List (Key×U))(k:Key):Option U:=(kvs.find? fun kv=>decide (kv.1=k)).map (·.2)
noncomputable def Acr(kvs:List (Key×U))(k:Key)(v:U):List (Key×U):=
 if (kvs.any fun kv=>decide (kv.1=k))=true then kvs.map (fun kv=>if kv.1=k then (kv.1,v) else kv) else kvs++[(k,v)]
section
variable {K:aA}{H:Hp}{α:List Addr}
noncomputable def RepKV(K:aA)(H:Hp)(α:List Addr)(kvs:List (Key×U))(vs:List (Key×V)):Prop:=kvs.map (·.1)=vs.map (·.1)/\RepL K H α (kvs.map (·.2)) (vs.map (·.2))
theorem RepKV.nil:RepKV K H α [] []:=⟨rfl,.nil⟩
theorem RepKV.cons{kv:Key×U}{kvs:List (Key×U)}{vs:List (Key×V)}(h:RepKV K H α (kv::kvs) vs):∃ x vs',vs=(kv.1,x)::vs'/\RepU K H α kv.2 x/\RepKV K H α kvs vs':=by
 obtain ⟨h1,h2⟩:=h
 cases vs with
 | nil=>simp at h1
 | cons w vs'=>
  simp only[aM,gG] at h1
  rw[aM,aM] at h2
  unfold RepL at h2
  obtain ⟨x,xr,hx,rx,r⟩:=h2
  injection hx with e1 e2
  subst e1
  refine ⟨w.2,vs',by rw[h1.1],rx,h1.2,?_⟩
  rw[e2];exact r
theorem RepKV.mk{k:Key}{u:U}{x:V}{kvs:List (Key×U)}{vs:List (Key×V)}(r:RepU K H α u x)(h:RepKV K H α kvs vs):RepKV K H α ((k,u)::kvs) ((k,x)::vs):=
 ⟨by simp[h.1],by rw[aM,aM];exact .cons r h.2⟩
theorem RepKV.val{k:Key}{u:U}:∀ {kvs:List (Key×U)} {vs:List (Key×V)},RepKV K H α kvs vs->Qc kvs k=some u->∃ x,Hq vs k=some x/\RepU K H α u x
 | [],vs,_,e=>by simp[Qc] at e
 | kv::kvs,vs,r,e=>by
  obtain ⟨x,vs',rfl,rx,r'⟩:=r.cons
  unfold Qc at e
  unfold Hq
  rw[dU] at e ⊢
  by_cases h:kv.1=k
  ·simp only[h,decide_true,aJ] at e ⊢
   cases e
   exact ⟨x,rfl,rx⟩
  ·simp only[h,decide_false] at e ⊢
   exact RepKV.val r' e
theorem RepKV.any{k:Key}:∀ {kvs:List (Key×U)} {vs:List (Key×V)},RepKV K H α kvs vs->(kvs.any fun kv=>decide (kv.1=k))=(vs.any fun kv=>decide (kv.1=k))
 | [],vs,r=>by
  obtain ⟨h1,_⟩:=r
  cases vs with
  | nil=>rfl
  | cons _ _=>simp at h1
 | kv::kvs,vs,r=>by
  obtain ⟨x,vs',rfl,rx,r'⟩:=r.cons
  rw[dM,dM,RepKV.any r']
theorem RepKV.len{kvs:List (Key×U)}{vs:List (Key×V)}(r:RepKV K H α kvs vs):kvs.length=vs.length:=by
 have:=congrArg iH r.1
 simpa using this
theorem RepKV.upd{k:Key}{u:U}{x:V}(ru:RepU K H α u x):∀ {kvs:List (Key×U)} {vs:List (Key×V)},RepKV K H α kvs vs->RepKV K H α (kvs.map fun kv=>if kv.1=k then (kv.1,u) else kv) (vs.map fun kv=>if kv.1=k then (kv.1,x) else kv)
 | [],vs,r=>by
  obtain ⟨h1,_⟩:=r
  cases vs with
  | nil=>exact .nil
  | cons _ _=>simp at h1
 | kv::kvs,vs,r=>by
  obtain ⟨y,vs',rfl,ry,r'⟩:=r.cons
  rw[aM,aM]
  by_cases h:kv.1=k
  ·rw[if_pos h,if_pos h]
   exact .mk ru (RepKV.upd ru r')
  ·rw[if_neg h,if_neg h]
   exact .mk ry (RepKV.upd ru r')
theorem RepKV.add{k:Key}{u:U}{x:V}(ru:RepU K H α u x):∀ {kvs:List (Key×U)} {vs:List (Key×V)},RepKV K H α kvs vs->RepKV K H α (kvs++[(k,u)]) (vs++[(k,x)])
 | [],vs,r=>by
  obtain ⟨h1,_⟩:=r
  cases vs with
  | nil=>exact .mk ru .nil
  | cons _ _=>simp at h1
 | kv::kvs,vs,r=>by
  obtain ⟨y,vs',rfl,ry,r'⟩:=r.cons
  exact .mk ry (RepKV.add ru r')
theorem RepKV.put{k:Key}{u:U}{x:V}{kvs:List (Key×U)}{vs:List (Key×V)}(ru:RepU K H α u x)(r:RepKV K H α kvs vs):RepKV K H α (Acr kvs k u) (Iv vs k x):=by
 unfold Acr Iv
 rw[r.any]
 split
 ·exact r.upd ru
 ·exact r.add ru
theorem RepKV.mono{H':Hp}{α':List Addr}{kvs:List (Key×U)}{vs:List (Key×V)}(r:RepKV K H α kvs vs)(g:Gr H α H' α'):RepKV K H' α' kvs vs:=⟨r.1,r.2.mono g⟩
end
noncomputable def Ic(L:UH)(n:Nat):Option (List (Key×U)):=match L[n]? with
 | some (.dic kvs)=>some kvs
 | _=>none
theorem Ls{L:UH}{n:Nat}{kvs:List (Key×U)}(h:Ic L n=some kvs):L[n]? = some (.dic kvs):=by
 unfold Ic at h
 split at h
 ·rename_i e;cases h;exact e
 ·cases h
theorem Qy{K:aA}{H:Hp}{α:List Addr}{L:UH}{n:Nat}{x:V}{kvs:List (Key×U)}(A:Abs K H α L)(h:Ic L n=some kvs)(r:RepU K H α (.ref n) x):∃ a vs,x = .ref a/\α[n]? = some a/\H a=some (.dK vs)/\RepKV K H α kvs vs:=by
 unfold RepU at r
 obtain ⟨a,ea,rfl⟩:=r
 obtain ⟨vs,e,k1,k2⟩:=A.rep n a _ ea (Ls h)
 exact ⟨a,vs,rfl,ea,e,k1,k2⟩
theorem Abs.setD{K:aA}{H:Hp}{α:List Addr}{L:UH}{n:Nat}{a:Addr}{vs ws:List (Key×V)}{kvs kws:List (Key×U)}(A:Abs K H α L)(h:Ic L n=some kvs)(ea:α[n]? = some a)(e:H a=some (.dK vs))(r:RepKV K H α kws ws) :
  Gr H α (upd H a (.dK ws)) α/\Abs K (upd H a (.dK ws)) α (L.set n (.dic kws)):=by
 have g:Gr H α (upd H a (.dK ws)) α:=⟨⟨[],by simp⟩,.write e (by exact trivial) _⟩
 obtain ⟨A',_⟩:=A.put (o:=.dK ws) (u:=.dic kws) ea (Ls h) rfl rfl e (by exact trivial) ⟨ws,upd_same,(r.mono g).1,(r.mono g).2⟩
 exact ⟨g,A'⟩
section
variable {X:Cx}{o i value:Expr}{pos pos':Pos}{fo fi fv:FE}
noncomputable def Agf:FE:=fun _ L=>some (.ref L.length,L++[.dic []])
theorem Afj:PEF X (.Dict [] [] pos) Agf:=by
 refine PE.imp Aa2 ?_
 rintro σ H Q ⟨α,δ,L,A,S,z,L3,e,q⟩
 cases e
 intro p hp
 have g:Gr H α (upd H p (.dK [])) (α ++ [p]):=⟨⟨[p],rfl⟩,.new hp _⟩
 obtain ⟨A',_⟩:=A.new (o:=.dK []) (u:=.dic []) hp ⟨[],upd_same,rfl,.nil⟩
 refine q _ _ _ g A' ?_
 unfold RepU
 exact ⟨p,by rw[<- A.len];simp,rfl⟩
noncomputable def Ww(fo fi fv:FE):FS:=fun δ L=>(fv δ L).bind fun p=>(fo δ p.2).bind fun q=>(fi δ q.2).bind fun r=>match q.1 with
 | .ref n=>(toK r.1).bind fun k=>(Ic r.2 n).bind fun kvs=>if kvs.length < 1000000 then some (.nx δ,r.2.set n (.dic (Acr kvs k p.1))) else none
 | _=>none
theorem Acn(hu:X.A.units+64 < cLine)(ho:PEF X o fo)(hi:PEF X i fi)(hv:PEF X value fv)(hs:swapsWith value (some (.Subscript o i pos')) pos.line X.env=pure false:=by rfl):PSF X (.Assign [.Subscript o i pos'] value pos) (Ww fo fi fv):=by
 refine PS.imp (Ad1 (by omega) ho hi hv hs) ?_
 rintro D σ H ⟨α,δ,L,A,S,fl,L',e,q⟩
 obtain ⟨⟨v,L1⟩,e1,e⟩:=aB.mp e
 obtain ⟨⟨u,L2⟩,e2,e⟩:=aB.mp e
 obtain ⟨⟨w,L3⟩,e3,e⟩:=aB.mp e
 refine ⟨α,δ,L,A,S,v,L1,e1,fun xv H1 α1 g1 A1 rv=>⟨α1,δ,L1,A1,S.mono g1,u,L2,e2,fun x H2 α2 g2 A2 rx=>⟨α2,δ,L2,A2,(S.mono g1).mono g2,w,L3,e3,fun y H3 α3 g3 A3 ry=>?_⟩⟩⟩
 simp only at e
 split at e
 ·obtain ⟨k,hk,e⟩:=aB.mp e
  obtain ⟨kvs,hd,e⟩:=aB.mp e
  split at e
  ·rename_i hl
   cases e
   obtain ⟨a,vs,rfl,ea,ha,rk⟩:=Qy A3 hd (rx.mono g3)
   have rv':=rv.mono (g2.trans g3)
   obtain ⟨g4,A4⟩:=A3.setD hd ea ha (rk.put (k:=k) rv')
   refine ⟨a,_,rfl,?_,q σ _ α3 ((g1.trans (g2.trans g3)).trans g4) A4 ((((S.mono g1).mono g2).mono g3).mono g4)⟩
   rw[Aby ry hk]
   exact DPut.k ha (by rw[<- rk.len];unfold sizeLine;omega)
  ·cases e
 ·cases e
end
theorem Ama{β:Type}{P:List β->Prop}(h:P [])(us:List β)(hl:us.length=0):P us:=by
 cases us with
 | nil=>exact h
 | cons=>cases hl
theorem Afh{β:Type}{n:Nat}{P:List β->Prop}(h:∀ (a:β) (us:List β),us.length=n->P (a::us))(us:List β)(hl:us.length=n+1):P us:=by
 cases us with
 | nil=>cases hl
 | cons a us=>exact h a us (Nat.succ.inj hl)
theorem Gq{β:Type}{P:List β->Prop}(h:∀ a,P [a]):∀ us:List β,us.length=1->P us:=Afh fun a=>Ama (h a)
theorem Od{β:Type}{P:List β->Prop}(h:∀ a b,P [a,b]):∀ us:List β,us.length=2->P us:=Afh fun a=>Gq (h a)
theorem Alc{β:Type}{P:List β->Prop}(h:∀ a b c,P [a,b,c]):∀ us:List β,us.length=3->P us:=Afh fun a=>Od (h a)
theorem Al6{β:Type}{P:List β->Prop}(h:∀ a b c d,P [a,b,c,d]):∀ us:List β,us.length=4->P us:=Afh fun a=>Alc (h a)
section
variable {X:Cx}{elts:List Expr}{x1:Nat}{tpos:Pos}
noncomputable def Wm(g:FA):FI:=fun δ L=>(g δ L).bind fun p=>match p.1 with
 | [.tup us,.tup ws]=>some (.seq (Fo us ws),p.2)
 | _=>none
theorem Aa7{a b:Expr}{g:FA}{p pos:Pos}(hg:Gl X "zip")(hm:X.mg "zip" = none)(ha:PAF X [a,b] g)(hs:aL [a,b] X.env=(false,eval a X.env)::aL [b] X.env:=by rfl)(hpl:(backTo pos (aL [b] X.env)).any (·.1)=false:=by rfl):PIF X (.Tuple elts x1 tpos) (.Call (.Name "zip" p) [a,b] [] pos) (Wm g):=by
 refine PI.imp (W2 hg hm ha hs hpl) ?_
 rintro σ H R ⟨α,δ,L,A,S,i,L3,e,q⟩
 obtain ⟨⟨us,L1⟩,e1,ee⟩:=aB.mp e
 simp only at ee
 split at ee
 ·cases ee
  refine ⟨α,δ,L,A,S,_,_,e1,fun xs H1 α1 g1 A1 r1=>?_⟩
  obtain ⟨x,y,rfl,rx,ry⟩:=r1.two
  unfold RepU at rx ry
  obtain ⟨a',ys,rfl,sq,r2⟩:=rx
  obtain ⟨b',ys',rfl,sq',r2'⟩:=ry
  exact ⟨a',b',ys,ys',rfl,sq,sq',q _ H1 α1 g1 A1 (Rn sq sq' r2 r2')⟩
 ·cases ee
end
end MR
namespace MR
open PySem L2
@[simp] theorem fVar_eq(i:Nat)(δ:UE)(L:UH):Ae i δ L=(δ[i]?).join.map fun u=>(u,L):=rfl
@[simp] theorem fC_eq(u:U)(δ:UE)(L:UH):fC u δ L=some (u,L):=rfl
@[simp] theorem f2_eq(s:S2)(a b:FE)(δ:UE)(L:UH):f2 s a b δ L=(a δ L).bind fun p=>(b δ p.2).bind fun q=>s p.1 q.1 q.2:=rfl
@[simp] theorem fTest_eq(f:FE)(δ:UE)(L:UH):Be f δ L=(f δ L).bind fun p=>match p.1 with | .bl k=>some (k,p.2) | _=>none:=rfl
@[simp] theorem Afp(f g:FT)(δ:UE)(L:UH):Ahs f g δ L=(f δ L).bind fun p=>if p.1=true then g δ p.2 else some (false,p.2):=rfl
@[simp] theorem fOr_eq(f g:FT)(δ:UE)(L:UH):fOr f g δ L=(f δ L).bind fun p=>if p.1=true then some (true,p.2) else g δ p.2:=rfl
@[simp] theorem Ws(f:FT)(δ:UE)(L:UH):Qv f δ L=(f δ L).map fun p=>(!p.1,p.2):=rfl
@[simp] theorem I0(f g:FE)(δ:UE)(L:UH):Py f g δ L=(f δ L).bind fun p=>match p.1 with | .bl k=>if k=true then g δ p.2 else some (.bl false,p.2) | _=>none:=rfl
@[simp] theorem Af1(f g:FE)(δ:UE)(L:UH):Ado f g δ L=(f δ L).bind fun p=>match p.1 with | .bl k=>if k=true then some (.bl true,p.2) else g δ p.2 | _=>none:=rfl
@[simp] theorem Akl(f:FE)(δ:UE)(L:UH):Akf f δ L=(f δ L).bind fun p=>match p.1 with | .bl k=>some (.bl (!k),p.2) | _=>none:=rfl
@[simp] theorem Air(c:FT)(f g:FE)(δ:UE)(L:UH):fIf c f g δ L=(c δ L).bind fun p=>if p.1=true then f δ p.2 else g δ p.2:=rfl
@[simp] theorem fNil_eq(δ:UE)(L:UH):Ah δ L=some ([],L):=rfl
@[simp] theorem fCons_eq(f:FE)(g:FA)(δ:UE)(L:UH):Ac f g δ L=(f δ L).bind fun p=>(g δ p.2).map fun q=>(p.1::q.1,q.2):=rfl
@[simp] theorem fTup_eq(g:FA)(δ:UE)(L:UH):Hj g δ L=(g δ L).bind fun p=>if Cv p.1.length=true then some (.tup p.1,p.2) else none:=rfl
@[simp] theorem Jc(g:FA)(δ:UE)(L:UH):Q0 g δ L=(g δ L).bind fun p=>if Cv p.1.length=true then some (.ref p.2.length,p.2++[.lst p.1]) else none:=rfl
@[simp] theorem fCall_eq(s:SC)(g:FA)(δ:UE)(L:UH):Bv s g δ L=(g δ L).bind fun p=>s p.1 p.2:=rfl
@[simp] theorem Le(n:Nat)(F:FN)(g:FA)(δ:UE)(L:UH):El n F g δ L=(g δ L).bind fun p=>if p.1.length=n then F p.1 p.2 else none:=rfl
@[simp] theorem Gh(T:String)(s:SM)(f:FE)(g:FA)(δ:UE)(L:UH):Ep T s f g δ L=(f δ L).bind fun p=>if tyU T p.1 p.2=true then (g δ p.2).bind fun q=>s p.1 q.1 q.2 else none:=rfl
@[simp] theorem Adc(f:FE)(δ:UE)(L:UH):Nb f δ L=(f δ L).bind fun p=>match p.1 with | .int i=>some (some i,p.2) | _=>none:=rfl
@[simp] theorem fNoPart_eq(δ:UE)(L:UH):Fs δ L=some (none,L):=rfl
@[simp] theorem Ai0(s:SS)(f:FE)(l h:FO)(δ:UE)(L:UH):fSl s f l h δ L=(f δ L).bind fun p=>(l δ p.2).bind fun q=>(h δ q.2).bind fun r=>s p.1 q.1 r.1 r.2:=rfl
@[simp] theorem Alu(f:FE)(δ:UE)(L:UH):Al5 f δ L=(f δ L).bind fun p=>match p.1 with | .int i=>some (.int (-i),p.2) | _=>none:=rfl
@[simp] theorem fTru_eq(f:FE)(δ:UE)(L:UH):G6 f δ L=(f δ L).bind fun p=>(Vk p.1 p.2).map fun k=>(k,p.2):=rfl
@[simp] theorem Alv(c:String)(f:FE)(δ:UE)(L:UH):Am4 c f δ L=(f δ L).bind fun p=>(Ab9 p.1 p.2).map fun t=>(.bl (isT t c),p.2):=rfl
@[simp] theorem Sa(δ:UE)(L:UH):B8 δ L=some (.nx δ,L):=rfl
@[simp] theorem fSeq_eq(f g:FS)(δ:UE)(L:UH):Ce f g δ L=(f δ L).bind fun p=>match p.1 with | .nx δ'=>g δ' p.2 | fl=>some (fl,p.2):=rfl
@[simp] theorem fRet_eq(f:FE)(δ:UE)(L:UH):C7 f δ L=(f δ L).map fun p=>(.rt p.1,p.2):=rfl
@[simp] theorem Mz(f:FE)(δ:UE)(L:UH):Er f δ L=(f δ L).map fun p=>(.nx δ,p.2):=rfl
@[simp] theorem Akq(δ:UE)(L:UH):Akv δ L=some (.rt .non,L):=rfl
@[simp] theorem Li(c:FT)(f g:FS)(δ:UE)(L:UH):Dc c f g δ L=(c δ L).bind fun p=>if p.1=true then f δ p.2 else g δ p.2:=rfl
@[simp] theorem gN_eq(i:Nat)(u:U)(δ:UE)(L:UH):gN i u δ L=some (δ.set i (some u),L):=rfl
@[simp] theorem Als(δ:UE)(L:UH):MR.gNil [] δ L=some (δ,L):=rfl
@[simp] theorem Ali(f:FG)(g:FGs)(u:U)(r:List U)(δ:UE)(L:UH):MR.gCons f g (u::r) δ L=(f u δ L).bind fun p=>g r p.1 p.2:=rfl
@[simp] theorem Alx(n:Nat)(g:FGs)(us:List U)(δ:UE)(L:UH):MR.gTup n g (.tup us) δ L=if us.length=n then g us δ L else none:=rfl
@[simp] theorem Alr(a b:FE)(v:U)(δ:UE)(L:UH):MR.gSub a b v δ L=(a δ L).bind fun p=>(b δ p.2).bind fun q=>match p.1,q.1 with
 | .ref n,.int k=>(Ee q.2 n).bind fun l=>(ixN l.length k).map fun j=>(δ,q.2.set n (.lst (l.set j v)))
 | _,_=>none:=rfl
@[simp] theorem Qd(f:FE)(g:FG)(δ:UE)(L:UH):Hw f g δ L=(f δ L).bind fun p=>(g p.1 δ p.2).map fun q=>(.nx q.1,q.2):=rfl
@[simp] theorem Aee(fi:FI)(g:FG)(b:FS)(δ:UE)(L:UH):Aba fi g b δ L=(fi δ L).bind fun p=>Iq p.1 g b (p.1.size p.2+1) 0 δ p.2:=rfl
@[simp] theorem Nh(f:FE)(δ:UE)(L:UH):Dm f δ L=(f δ L).bind fun p=>(Lx p.1 p.2).map fun i=>(i,p.2):=rfl
@[simp] theorem Ako(g:FA)(δ:UE)(L:UH):Alo g δ L=(g δ L).bind fun p=>match p.1 with
 | [.int j]=>if -(2 ^ 62)<=j/\j < 2 ^ 62 then some (.seq (Qi 0 j.toNat),p.2) else none
 | _=>none:=rfl
@[simp] theorem Ahr(i j:Int)(L:UH):Acu (.int i) (.int j) L=some (.int (i+j),L):=rfl
@[simp] theorem T5(i j:Int)(L:UH):P5 (.int i) (.int j) L=some (.int (i - j),L):=rfl
@[simp] theorem Aim(i j:Int)(L:UH):Aiv (.int i) (.int j) L=if Agm i j=true then some (.int (i * j),L) else none:=rfl
@[simp] theorem Aii(i j:Int)(L:UH):Ai5 (.int i) (.int j) L=if Agj i j=true then some (.int (i / j),L) else none:=rfl
@[simp] theorem Uu(i j:Int)(L:UH):Jh (.int i) (.int j) L=if decide (0 < j)=true then some (.int (i % j),L) else none:=rfl
@[simp] theorem Aix(i j:Int)(L:UH):Ahj (.int i) (.int j) L=if Agy i j=true then some (.int (i ^ j.toNat),L) else none:=rfl
@[simp] theorem Ajn(i j:Int)(L:UH):Ir (.int i) (.int j) L=some (.bl (decide (i<=j)),L):=rfl
@[simp] theorem Ajm(i j:Int)(L:UH):Ala (.int i) (.int j) L=some (.bl (decide (i < j)),L):=rfl
@[simp] theorem X9(i j:Int)(L:UH):Vu (.int i) (.int j) L=some (.bl (decide (j < i)),L):=rfl
@[simp] theorem Xm(i j:Int)(L:UH):We (.int i) (.int j) L=some (.bl (decide (j<=i)),L):=rfl
@[simp] theorem Ajo(i j:Int)(L:UH):Bw (.int i) (.int j) L=some (.bl (i == j),L):=rfl
@[simp] theorem Ym(i j:Int)(L:UH):C5 (.int i) (.int j) L=some (.bl (!(i == j)),L):=rfl
@[simp] theorem Akw(i j:Bool)(L:UH):Bw (.bl i) (.bl j) L=some (.bl (i == j),L):=rfl
@[simp] theorem Ajv(i j:Bool)(L:UH):C5 (.bl i) (.bl j) L=some (.bl (!(i == j)),L):=rfl
@[simp] theorem Ald(i j:Bool)(L:UH):Alp false (.bl i) (.bl j) L=some (.bl (i == j),L):=rfl
@[simp] theorem Ajl(l:List U)(i:Int)(L:UH):Bs (.tup l) (.int i) L=(L2.atI l i).map fun z=>(z,L):=rfl
@[simp] theorem Xj(n:Nat)(i:Int)(L:UH):Bs (.ref n) (.int i) L=(Al L n).bind fun l=>(L2.atI l i).map fun z=>(z,L):=rfl
@[simp] theorem truU_bl(b:Bool)(L:UH):Vk (.bl b) L=some b:=rfl
theorem Bh{L:UH}{n:Nat}{us:List U}(h:L[n]? = some (.lst us)):Al L n=some us:=by unfold Al;rw[h]
theorem Ct{n:Nat}(h:n<=16777216):Cv n=true:=by unfold Cv sizeLine;exact decide_eq_true (by omega)
theorem Ab3{β:Type}{l:List β}{i:Int}(h0:0<=i)(h:i < l.length):L2.atI l i=l[i.toNat]?:=by
 unfold L2.atI ixN
 rw[if_pos h0,if_pos h];rfl
noncomputable def Aal(g:FG)(body:FS)(u:U)(δ:UE)(L:UH)(R:UE->UH->Prop):Prop:=∃ δ1 L1,g u δ L=some (δ1,L1)/\∃ δ2 L2,(body δ1 L1=some (.nx δ2,L2)\/body δ1 L1=some (.ct δ2,L2))/\R δ2 L2
theorem S9{it:IU}{g:FG}{body:FS}{us:List U}(P:Nat->UE->UH->Prop)(hat:∀ k δ L,k<=us.length->P k δ L->it.at k L=some us[k]?)
  (step:∀ k u δ L,us[k]? = some u->P k δ L->Aal g body u δ L (P (k+1))) :
  ∀ (m k:Nat) (δ:UE) (L:UH),us.length < m+k->k<=us.length->P k δ L->∃ δ' L',Iq it g body m k δ L=some (.nx δ',L')/\P us.length δ' L'
 | 0,k,δ,L,h1,h2,_=>by omega
 | m+1,k,δ,L,h1,h2,hP=>by
  have hk:=hat k δ L h2 hP
  unfold Iq
  rw[hk]
  cases hu:us[k]? with
  | none=>
   have:k=us.length:=by have:=bO.mp hu;omega
   subst this
   exact ⟨δ,L,rfl,hP⟩
  | some u=>
   have hlt:k < us.length:=(aX.mp hu).1
   obtain ⟨δ1,L1,e1,δ2,L2,e2,hP2⟩:=step k u δ L hu hP
   obtain ⟨δ',L',e3,hP3⟩:=S9 P hat step m (k+1) δ2 L2 (by omega) (by omega) hP2
   refine ⟨δ',L',?_,hP3⟩
   rcases e2 with e2 | e2
   ·simp only[e1,aF,e2,e3]
   ·simp only[e1,aF,e2,e3]
theorem Ad6{fi:FI}{g:FG}{body:FS}{us:List U}{δ:UE}{L L0:UH}(P:Nat->UE->UH->Prop)(hi:fi δ L=some (.seq us,L0))(h0:P 0 δ L0)(step:∀ k u δ L,us[k]? = some u->P k δ L->Aal g body u δ L (P (k+1))) :
  ∃ δ' L',Aba fi g body δ L=some (.nx δ',L')/\P us.length δ' L':=by
 obtain ⟨δ',L',e,h⟩:=S9 (it:=.seq us) (g:=g) (body:=body) (us:=us) P (fun _ _ _ _ _=>rfl) step (us.length+1) 0 δ L0 (by omega) (by omega) h0
 exact ⟨δ',L',by rw[Aee,hi];exact e,h⟩
theorem Jm{L:UH}{n:Nat}{us:List U}(h:Al L n=some us):Lx (.ref n) L=some (.ref n):=by
 unfold Al at h
 unfold Lx
 simp only
 split at h
 ·rename_i e;first | rw[e] | rfl
 ·rename_i e;first | rw[e] | rfl
 ·cases h
@[simp] theorem Aku(g:FA)(δ:UE)(L:UH):Ajw g δ L=(g δ L).bind fun p=>match p.1 with
 | [.ref n]=>(Al p.2 n).map fun _=>(.enm n,p.2)
 | _=>none:=rfl
@[simp] theorem Alw(g:FA)(δ:UE)(L:UH):Am1 g δ L=(g δ L).bind fun p=>match p.1 with
 | [.ref n,.ref m]=>(Al p.2 n).bind fun _=>(Al p.2 m).map fun _=>(.zip2 n m,p.2)
 | _=>none:=rfl
@[simp] theorem Aly(f:FE)(δ:UE)(L:UH):Al3 f δ L=(f δ L).bind fun p=>match p.1 with | .ref n=>(Al p.2 n).map fun l=>(.ref p.2.length,p.2++[.lst l.reverse]) | .tup l=>some (.tup l.reverse,p.2) | _=>none:=rfl
@[simp] theorem Alh(g:FA)(δ:UE)(L:UH):Agl g δ L=(g δ L).bind fun p=>match p.1 with
 | [.int i,.int j]=>if (-(2 ^ 62)<=i/\i < 2 ^ 62)/\(-(2 ^ 62)<=j/\j < 2 ^ 62) then some (.seq (Qi i (j - i).toNat),p.2) else none
 | _=>none:=by first | rfl | (unfold Agl;rfl)
theorem Na{it:IU}{g:FG}{tt:Option FT}{fe:FE}{us:List U}(P:Nat->List U->UE->UH->Prop)(hat:∀ k acc δ L,k<=us.length->P k acc δ L->it.at k L=some us[k]?)
  (step:∀ k u acc δ L,us[k]? = some u->P k acc δ L->∃ δ1 L1,g u δ L=some (δ1,L1)/\∃ b L2,Gb tt δ1 L1=some (b,L2)/\(b=true->∃ r L3,fe δ1 L2=some (r,L3)/\acc.length < 16777216/\P (k+1) (acc++[r]) δ1 L3)/\(b=false->P (k+1) acc δ1 L2)) :
  ∀ (m k:Nat) (acc:List U) (δ:UE) (L:UH),us.length < m+k->k<=us.length->P k acc δ L->∃ ys δ' L',N2 it g tt fe m k acc δ L=some (ys,L')/\P us.length ys δ' L'
 | 0,k,acc,δ,L,h1,h2,_=>by omega
 | m+1,k,acc,δ,L,h1,h2,hP=>by
  have hk:=hat k acc δ L h2 hP
  unfold N2
  rw[hk]
  cases hu:us[k]? with
  | none=>
   have:k=us.length:=by have:=bO.mp hu;omega
   subst this
   exact ⟨acc,δ,L,rfl,hP⟩
  | some u=>
   have hlt:k < us.length:=(aX.mp hu).1
   obtain ⟨δ1,L1,e1,b,L2,e2,h3,h4⟩:=step k u acc δ L hu hP
   cases b with
   | true=>
    obtain ⟨r,L3,e3,hl,hP2⟩:=h3 rfl
    obtain ⟨ys,δ',L',e4,hP3⟩:=Na P hat step m (k+1) (acc++[r]) δ1 L3 (by omega) (by omega) hP2
    refine ⟨ys,δ',L',?_,hP3⟩
    have hz:decide (acc.length < sizeLine)=true:=decide_eq_true (by unfold sizeLine;omega)
    simp only[e1,aF,e2,e3,if_true,hz,e4]
   | false=>
    obtain ⟨ys,δ',L',e4,hP3⟩:=Na P hat step m (k+1) acc δ1 L2 (by omega) (by omega) (h4 rfl)
    refine ⟨ys,δ',L',?_,hP3⟩
    simp only[e1,aF,e2,e4,dL,if_false]
theorem Aju{ix:List (Option Nat)}{fi:FI}{it:IU}{g:FG}{tt:Option FT}{fe:FE}{us:List U}{δ:UE}{L L0:UH}(P:Nat->List U->UE->UH->Prop)(hi:fi δ L=some (it,L0))(hsz:us.length<=it.size L0)(h0:P 0 [] (Hs ix δ) L0)
  (hat:∀ k acc δ L,k<=us.length->P k acc δ L->it.at k L=some us[k]?)
  (step:∀ k u acc δ L,us[k]? = some u->P k acc δ L->∃ δ1 L1,g u δ L=some (δ1,L1)/\∃ b L2,Gb tt δ1 L1=some (b,L2)/\(b=true->∃ r L3,fe δ1 L2=some (r,L3)/\acc.length < 16777216/\P (k+1) (acc++[r]) δ1 L3)/\(b=false->P (k+1) acc δ1 L2)) :
  ∃ ys δ' L',Dx ix fi g tt fe δ L=some (.ref L'.length,L'++[.lst ys])/\P us.length ys δ' L':=by
 obtain ⟨ys,δ',L',e,h⟩:=Na P hat step (it.size L0+1) 0 [] (Hs ix δ) L0 (by omega) (by omega) h0
 refine ⟨ys,δ',L',?_,h⟩
 unfold Dx
 simp only[hi,aF,e,aJ]
theorem U9{n k:Nat}{L:UH}{us:List U}(h:Al L n=some us):(IU.ref n).at k L=some us[k]?:=by
 unfold Al at h
 unfold IU.at
 simp only
 split at h
 ·rename_i e;cases h;first | rw[e] | rfl
 ·rename_i e;cases h;first | rw[e] | rfl
 ·cases h
theorem Lp{n:Nat}{L:UH}{us:List U}(h:Al L n=some us):(IU.ref n).size L=us.length:=by
 unfold Al at h
 unfold IU.size
 simp only
 split at h
 ·rename_i e;cases h;first | rw[e] | rfl
 ·rename_i e;cases h;first | rw[e] | rfl
 ·cases h
theorem Cy{β:Type}{ix:List (Option Nat)}{fi:FI}{it:IU}{g:FG}{tt:Option FT}{fe:FE}{δ:UE}{L L0:UH}(as:List β)(rep:β->U)(f:β->Bool)(e:β->U)(E:UE->Prop)(hi:fi δ L=some (it,L0))(hsz:as.length<=it.size L0)(hl:as.length < 16777216)(h0:E (Hs ix δ))
  (hat:∀ k x,it.at k (L0++x)=some (as.map rep)[k]?)
  (step:∀ (a:β) δ x,a∈as->E δ->∃ δ1,g (rep a) δ (L0++x)=some (δ1,L0++x)/\E δ1/\∃ y,Gb tt δ1 (L0++x)=some (f a,L0++x++y)/\(f a=true->∃ z,fe δ1 (L0++x++y)=some (e a,L0++x++y++z))) :
  ∃ x,Dx ix fi g tt fe δ L=some (.ref (L0++x).length,L0++x++[.lst ((as.filter f).map e)]):=by
 obtain ⟨ys,δ',L',e1,⟨h1,h2,x,rfl⟩,h3⟩:=Aju (us:=as.map rep) (ix:=ix) (tt:=tt) (g:=g) (fe:=fe) (δ:=δ) (fun k acc δ L=>(acc=((as.take k).filter f).map e/\E δ/\∃ x,L=L0++x)/\acc.length<=k) hi (by simpa using hsz) ⟨⟨rfl,h0,[],by simp⟩,by simp⟩
  (fun k acc δ L _ zz=>by obtain ⟨⟨_,_,x,hx⟩,_⟩:=zz;rw[hx];exact hat k x)
  (fun k u acc δ L hu zz=>by
   obtain ⟨⟨ha,hE,x,hx⟩,hlen⟩:=zz
   subst hx
   rw[cY] at hu
   obtain ⟨a,hk,rfl⟩:=aH.mp hu
   have hk':=(aX.mp hk).1
   obtain ⟨δ1,g1,E1,y,t1,r1⟩:=step a δ x (eQ hk) hE
   have ht:as.take (k+1)=as.take k++[a]:=by
    rw[List.take_add_one,hk];rfl
   refine ⟨δ1,_,g1,f a,_,t1,fun hf=>?_,fun hf=>?_⟩
   ·obtain ⟨z,q⟩:=r1 hf
    refine ⟨_,_,q,by omega,⟨?_,E1,x++y++z,by simp⟩,by simp;omega⟩
    rw[ha,ht];simp[hf]
   ·refine ⟨⟨?_,E1,x++y,by simp⟩,by omega⟩
    rw[ha,ht];simp[hf])
 refine ⟨x,?_⟩
 rw[e1,h1]
 simp
theorem D8{L x:UH}{n:Nat}{us:List U}(h:Al L n=some us):Al (L++x) n=some us:=by
 unfold Al at h ⊢
 cases hn:L[n]? with
 | none=>rw[hn] at h;cases h
 | some o=>rw[aY (aX.mp hn).1,hn];rw[hn] at h;exact h
noncomputable def Pl:Nat->U->Prop
 | _,.non=>True
 | _,.int _=>True
 | _,.str x=>kY x=true
 | n+1,.tup l=>∀ u∈l,Pl n u
 | _,_=>False
mutual
noncomputable def pd:U->pF
 | .non=>.none
 | .bl b=>.bool b
 | .int i=>.int i
 | .str x=>.str x
 | .tup l=>.tuple (pds l)
 | .ref _=>.none
noncomputable def pds:List U->List pF
 | []=>[]
 | u::r=>pd u::pds r
end
theorem Qk{n:Nat}{l:List U}:Pl (n+1) (.tup l)↔∀ u∈l,Pl n u:=by rw[Pl]
theorem Lc{L:UH}{n m:Nat}(ih:∀ u,Pl n u->toP L m u=some (pd u)):∀ l:List U,(∀ u∈l,Pl n u)->mapO (toP L m) l=some (pds l)
 | [],_=>rfl
 | u::r,h=>by
  simp only[mapO,ih u (h u (bK ..)),Lc ih r (fun x hx=>h x (bD _ hx)),aF,aJ,pds]
theorem Nf(L:UH):∀ (n m:Nat) (u:U),n < m->Pl n u->toP L m u=some (pd u)
 | n,0,u,h,_=>by omega
 | n,m+1,.non,_,_=>rfl
 | n,m+1,.int _,_,_=>rfl
 | n,m+1,.str _,_,_=>rfl
 | n,m+1,.bl _,_,h=>by cases n <;> exact absurd h (by simp[Pl])
 | n,m+1,.ref _,_,h=>by cases n <;> exact absurd h (by simp[Pl])
 | 0,m+1,.tup l,_,h=>absurd h (by simp[Pl])
 | n+1,m+1,.tup l,hm,h=>by
  have:=Lc (L:=L) (n:=n) (m:=m) (fun u hu=>Nf L n m u (by omega) hu) l (Qk.mp h)
  show (mapO (toP L m) l).map pF.tuple=_
  rw[this]
  rfl
theorem Lf{n:Nat}(ih:∀ u,Pl n u->eK (pd u)=true/\fD (pd u)<=n):∀ l:List U,(∀ u∈l,Pl n u)->nT (pds l)=true/\oR (pds l)<=n
 | [],_=>⟨rfl,jV _⟩
 | u::r,h=>by
  obtain ⟨a1,a2⟩:=ih u (h u (bK ..))
  obtain ⟨b1,b2⟩:=Lf ih r (fun x hx=>h x (bD _ hx))
  refine ⟨by simp[pds,nT,a1,b1],?_⟩
  simp only[pds,oR]
  omega
theorem Mc:∀ (n:Nat) (u:U),Pl n u->eK (pd u)=true/\fD (pd u)<=n
 | n,.non,_=>by simp[pd,eK,fD]
 | n,.int _,_=>by simp[pd,eK,fD]
 | n,.str x,h=>by
  have h':kY x=true:=by cases n <;> simpa[Pl] using h
  simp[pd,eK,fD,h']
 | n,.bl _,h=>by cases n <;> exact absurd h (by simp[Pl])
 | n,.ref _,h=>by cases n <;> exact absurd h (by simp[Pl])
 | 0,.tup l,h=>absurd h (by simp[Pl])
 | n+1,.tup l,h=>by
  obtain ⟨a,b⟩:=Lf (fun u hu=>Mc n u hu) l (Qk.mp h)
  simp only[pd,eK,fD]
  exact ⟨a,by omega⟩
theorem Hu{n:Nat}(ih:∀ u w,Pl n u->Pl n w->(cM (pd u) (pd w)=true↔u=w)):∀ l m:List U,(∀ u∈l,Pl n u)->(∀ u∈m,Pl n u)->(gD (pds l) (pds m)=true↔l=m)
 | [],[],_,_=>by simp[pds,gD]
 | [],_::_,_,_=>by simp[pds,gD]
 | _::_,[],_,_=>by simp[pds,gD]
 | u::l,w::m,h1,h2=>by
  simp only[pds,gD,cC,ih u w (h1 u (bK ..)) (h2 w (bK ..)),Hu ih l m (fun x hx=>h1 x (bD _ hx)) (fun x hx=>h2 x (bD _ hx)),gG]
theorem Q4:∀ (n:Nat) (u w:U),Pl n u->Pl n w->(cM (pd u) (pd w)=true↔u=w)
 | n,.bl _,_,h,_=>by cases n <;> exact absurd h (by simp[Pl])
 | n,.ref _,_,h,_=>by cases n <;> exact absurd h (by simp[Pl])
 | n,_,.bl _,_,h=>by cases n <;> exact absurd h (by simp[Pl])
 | n,_,.ref _,_,h=>by cases n <;> exact absurd h (by simp[Pl])
 | 0,.tup _,_,h,_=>absurd h (by simp[Pl])
 | 0,_,.tup _,_,h=>absurd h (by simp[Pl])
 | n+1,.tup l,.tup m,h1,h2=>by
  simp only[pd,cM,U.tup.injEq]
  exact Hu (fun u w=>Q4 n u w) l m (Qk.mp h1) (Qk.mp h2)
 | n,.non,.non,_,_=>by simp[pd,cM]
 | n,.non,.int _,_,_=>by simp[pd,cM]
 | n,.non,.str _,_,_=>by simp[pd,cM]
 | n+1,.non,.tup _,_,_=>by simp[pd,cM]
 | n,.int _,.non,_,_=>by simp[pd,cM]
 | n,.int _,.int _,_,_=>by simp[pd,cM]
 | n,.int _,.str _,_,_=>by simp[pd,cM]
 | n+1,.int _,.tup _,_,_=>by simp[pd,cM]
 | n,.str _,.non,_,_=>by simp[pd,cM]
 | n,.str _,.int _,_,_=>by simp[pd,cM]
 | n,.str _,.str _,_,_=>by simp[pd,cM]
 | n+1,.str _,.tup _,_,_=>by simp[pd,cM]
 | n+1,.tup _,.non,_,_=>by simp[pd,cM]
 | n+1,.tup _,.int _,_,_=>by simp[pd,cM]
 | n+1,.tup _,.str _,_,_=>by simp[pd,cM]
noncomputable def eqB(u w:U):Bool:=cM (pd u) (pd w)
theorem Afm{u w:U}(h1:Pl 6 u)(h2:Pl 6 w):eqB u w=true↔u=w:=Q4 6 u w h1 h2
theorem Ac8{u w:U}(L:UH)(h1:Pl 6 u)(h2:Pl 6 w):eqP u w L=some (eqB u w):=by
 obtain ⟨a1,a2⟩:=Mc 6 u h1
 obtain ⟨b1,b2⟩:=Mc 6 w h2
 have s1:dZ (pd u)=true:=by unfold dZ;rw[a1];simp;omega
 have s2:dZ (pd w)=true:=by unfold dZ;rw[b1];simp;omega
 unfold eqP
 simp only[Nf L 6 8 u (by decide) h1,Nf L 6 8 w (by decide) h2,aF,s1,s2,and_self,if_true,eqB]
theorem Aa5{u w:U}(L:UH)(h1:Pl 6 u)(h2:Pl 6 w):Bw u w L=some (.bl (eqB u w),L):=by unfold Bw;rw[Ac8 L h1 h2];rfl
theorem Y7{u w:U}(L:UH)(h1:Pl 6 u)(h2:Pl 6 w):C5 u w L=some (.bl (!eqB u w),L):=by unfold C5;rw[Ac8 L h1 h2];rfl
noncomputable def Acd(us ws:List U):Bool:=gD (pds us) (pds ws)
theorem Aa8{us ws:List U}(h1:∀ u∈us,Pl 6 u)(h2:∀ u∈ws,Pl 6 u):Acd us ws=true↔us=ws:=Hu (fun u w=>Q4 6 u w) us ws h1 h2
theorem V6{n m:Nat}{us ws:List U}{L:UH}(e1:Al L n=some us)(e2:Al L m=some ws)(h1:∀ u∈us,Pl 6 u)(h2:∀ u∈ws,Pl 6 u):eqP (.ref n) (.ref m) L=some (Acd us ws):=by
 obtain ⟨a1,a2⟩:=Lf (Mc 6) us h1
 obtain ⟨b1,b2⟩:=Lf (Mc 6) ws h2
 have s1:dZ (.list (pds us))=true:=by unfold dZ;simp[eK,fD,a1];omega
 have s2:dZ (.list (pds ws))=true:=by unfold dZ;simp[eK,fD,b1];omega
 have t1:toP L 8 (.ref n)=some (.list (pds us)):=by
  show (Al L n).bind (fun l=>(mapO (toP L 7) l).map qG)=_
  rw[e1]
  simp only[aF,Lc (fun u hu=>Nf L 6 7 u (by decide) hu) us h1,aJ]
 have t2:toP L 8 (.ref m)=some (.list (pds ws)):=by
  show (Al L m).bind (fun l=>(mapO (toP L 7) l).map qG)=_
  rw[e2]
  simp only[aF,Lc (fun u hu=>Nf L 6 7 u (by decide) hu) ws h2,aJ]
 unfold eqP
 simp only[t1,t2,aF,s1,s2,and_self,if_true,cM,Acd]
theorem X7{n m:Nat}{us ws:List U}{L:UH}(e1:Al L n=some us)(e2:Al L m=some ws)(h1:∀ u∈us,Pl 6 u)(h2:∀ u∈ws,Pl 6 u):Bw (.ref n) (.ref m) L=some (.bl (Acd us ws),L):=by unfold Bw;rw[V6 e1 e2 h1 h2];rfl
theorem Xx{n m:Nat}{us ws:List U}{L:UH}(e1:Al L n=some us)(e2:Al L m=some ws)(h1:∀ u∈us,Pl 6 u)(h2:∀ u∈ws,Pl 6 u):C5 (.ref n) (.ref m) L=some (.bl (!Acd us ws),L):=by unfold C5;rw[V6 e1 e2 h1 h2];rfl
theorem Pl.int(n:Nat)(i:Int):Pl n (.int i):=by cases n <;> exact trivial
end MR
namespace Lw
open PySem L2 MR
end Lw
namespace MR
open PySem PySem.Spec PyProof.Rows L2
section
variable {X:Cx}{pins:List (Addr×Obj)}{σ:L2.St}{H H':Hp}{s:aG}
noncomputable def Thaw(H H' H2:Hp):Prop:=∀ b,H2 b=H' b\/∃ o vs,H' b=some (.frz o (.dK vs))/\H2 b=some (.dK vs)/\∀ o u,H b≠some (.frz o u)
theorem Thaw.stay{H2:Hp}(t:Thaw H H' H2){b:Addr}{u:Option HO}(e:H' b=u)(n:∀ o ks,u≠some (.frz o (.dK ks))):H2 b=u:=by
 rcases t b with z | ⟨o,vs,z,_⟩
 ·rw[z];exact e
 ·rw[e] at z;exact absurd z (n _ _)
end
section
variable {K:aA}{H H':Hp}{α:List Addr}
mutual
theorem RepU.via(g:∀ a xs,SqT K H a xs->SqT K H' a xs):∀ (u:U) (v:V),RepU K H α u v->RepU K H' α u v
 | .non,_,h=>h
 | .bl _,_,h=>h
 | .int _,_,h=>h
 | .str _,_,h=>h
 | .tup l,v,h=>by
  unfold RepU at h ⊢
  obtain ⟨a,xs,e,s,r⟩:=h
  exact ⟨a,xs,e,g _ _ s,RepL.via g l xs r⟩
 | .ref n,v,h=>by
  unfold RepU at h ⊢
  exact h
theorem RepL.via(g:∀ a xs,SqT K H a xs->SqT K H' a xs):∀ (l:List U) (xs:List V),RepL K H α l xs->RepL K H' α l xs
 | [],xs,h=>h
 | u::l,xs,h=>by
  unfold RepL at h ⊢
  obtain ⟨x,r,e,h1,h2⟩:=h
  exact ⟨x,r,e,RepU.via g u x h1,RepL.via g l r h2⟩
end
end
structure DObj(P:aW)(w:bG)(o:Obj)(kvs:List (Key×V))(vs:List (Key×aC))(ep:Nat):Prop where
 rel:KV kvs vs
 at_:∀ (h:Heap) (d:Addr),h.get? d=some o->h.DictAt (Bg P w) d vs ep
theorem KV.at_:∀ {kvs:List (Key×V)} {vs:List (Key×aC)} {i:Nat} {p:Key×aC},KV kvs vs->vs[i]? = some p->∃ q,kvs[i]? = some q/\q.1=p.1/\RelV q.2 p.2
 | _,_,i,p,.nil,e=>by simp at e
 | _,_,0,p,.cons r t,e=>by simp at e;subst e;exact ⟨_,rfl,r⟩
 | _,_,i+1,p,.cons r t,e=>by simpa using KV.at_ (i:=i) t (by simpa using e)
section
variable {P:aW}{w:bG}{K:aA}{d it:Addr}{o:Obj}{kvs:List (Key×V)}{vs:List (Key×aC)}{ep:Nat}
end
section
variable {X:Cx}{tg o e:Expr}{apos cpos:Pos}{td:TE}
structure M0(X:Cx)(o:Expr)(m:Str)(apos cpos:Pos):Prop where
 base:attributeBase o m X.env (eval o X.env)=eval o X.env
 few:((backTo cpos (aL [] X.env)).all (fun x=>!x.1)&&(backToKw cpos (keywordEach [] X.env)).all (fun x=>x.1.isSome)
  && decide (([]:List Expr).length+([]:List eZ).length+(if ([]:List eZ).isEmpty then 0 else 1) < 30))=true
 line:(apos.endLine == cpos.line)=true
 trees:backTo cpos (aL [] X.env)=[]
theorem Ad4{pins:List (Addr×Obj)}{σ:L2.St}{H:Hp}{s:aG}{a:Addr}{kvs:List (Key×V)}(I:L2.Inv X pins σ H s)(e:H a=some (.dK kvs)) :
  (a == sysModules)=false/\∃ ob vs ep,s.heap.get? a=some ob/\DObj X.prog X.w ob kvs vs ep:=by
 obtain ⟨z,hd,vs,rel,ob,es,ep,h1,h2⟩:=Acj I.hok e
 exact ⟨hd,ob,vs,ep,h1,rel,fun h d hg=>⟨ob,es,hg,h2⟩⟩
end
noncomputable def Abq(kvs:List (Key×U)):List U:=kvs.map fun kv=>kv.2
section
variable {K:aA}{H:Hp}{α:List Addr}{L:UH}{a:Addr}{ob:Obj}
end
section
variable {X:Cx}{tg o:Expr}{apos cpos:Pos}{fo:FE}
noncomputable def Akb:R2:=fun y x H Q=>∃ a r,x = .ref a/\DGet H a y r/\Q (.bl r.isSome) H
theorem Ajj(hu:X.A.units+64 < cLine):OpR X (cZ .In) Akb:=by
 intro pins s σ H x y u w Q I rx ry h
 obtain ⟨a,r,rfl,g,q⟩:=h
 obtain rfl:w=bH a:=ry
 exact Anb (by omega) I g rx fun s' I'=>⟨.bl _,H,I',rfl,q⟩
noncomputable def Ju:S2:=fun y x L=>match x with
 | .ref n=>(toK y).bind fun k=>(Ic L n).map fun kvs=>(.bl (Qc kvs k).isSome,L)
 | _=>none
theorem find_any(k:Key):∀ kvs:List (Key×U),(kvs.find? fun kv=>decide (kv.1=k)).isSome=kvs.any fun kv=>decide (kv.1=k)
 | []=>rfl
 | kv::kvs=>by
  rw[dU,dM]
  by_cases h:kv.1=k
  ·simp[h]
  ·simp only[h,decide_false,pP]
   exact find_any k kvs
theorem RepKV.some{K:aA}{H:Hp}{α:List Addr}{kvs:List (Key×U)}{vs:List (Key×V)}(r:RepKV K H α kvs vs)(k:Key):(Qc kvs k).isSome=(Hq vs k).isSome:=by
 have h1:(Qc kvs k).isSome=kvs.any fun kv=>decide (kv.1=k):=by
  unfold Qc
  rw[gZ]
  exact find_any k kvs
 rw[h1,r.any,Ml]
theorem Ady{K:aA}:Cm K Akb Ju:=by
 intro H α L u w x y z L' Q A ru rw' e q
 unfold Ju at e
 split at e
 ·obtain ⟨k,hk,e⟩:=aB.mp e
  obtain ⟨kvs,hd,e⟩:=aH.mp e
  cases e
  obtain ⟨a,vs,rfl,ea,ha,rk⟩:=Qy A hd rw'
  refine ⟨a,_,rfl,by rw[Aby ru hk];exact DGet.k ha,?_⟩
  rw[<- rk.some k]
  exact q _ H α (.refl _ _) A rfl
 ·cases e
end
noncomputable def Ag0(kvs:List (Key×U))(k:Key):List (Key×U):=kvs.filter fun kv=>decide (kv.1≠k)
theorem RepKV.drop{K:aA}{H:Hp}{α:List Addr}(k:Key):∀ {kvs:List (Key×U)} {vs:List (Key×V)},RepKV K H α kvs vs->RepKV K H α (Ag0 kvs k) (Vo vs k)
 | [],vs,r=>by
  have:=r.1
  cases vs with
  | nil=>exact .nil
  | cons _ _=>simp at this
 | kv::kvs,vs,r=>by
  obtain ⟨x,vs',rfl,rx,r'⟩:=r.cons
  unfold Ag0 Vo
  rw[iB,iB]
  by_cases h:kv.1=k
  ·simp only[h,ne_eq,not_true_eq_false,decide_false,dL,if_false]
   exact RepKV.drop k r'
  ·simp only[h,ne_eq,not_false_eq_true,decide_true,if_true]
   exact .mk rx (RepKV.drop k r')
end MR
namespace MR
open PySem PyProof.Rows L2
end MR
namespace MR
open PySem PySem.Spec PyProof.Rows L2
inductive XObj(e Ca:Addr)(dd:Option Addr)(h:Heap)(vs:Array aC):Prop
 | mk (o:Obj) (h0:h.get? e=some o) (h1:o.cls = .ref Ca) (h2:o.dict=dd) (h3:o.data = .fields vs) (h4:1 < vs.size) (h5:o.slots=#[]):XObj e Ca dd h vs
inductive Tra(N:Nat)(e Ca:Addr)(dd:Option Addr)(fl:aC)(h:Heap):Prop
 | mk (vs:_) (T:_) (oT:_) (ts:_) (h0:XObj e Ca dd h vs) (h1:vs[1]? = some (.ref T)) (h2:N<=T) (h3:T≠e) (h4:h.get? T=some oT) (h5:oT.data = .fields ts) (h6:ts[3]? = some fl):Tra N e Ca dd fl h
noncomputable def Raw(e Ca:Addr)(dd:Option Addr)(h:Heap):Prop:=∃ vs,XObj e Ca dd h vs/\vs[1]? = some .none
noncomputable def Fly(N:Nat)(e Ca:Addr)(dd:Option Addr)(h:Heap):Prop:=N<=h.objs.size/\(Raw e Ca dd h\/∃ fl,Tra N e Ca dd fl h)
theorem XObj.excIs{e Ca:Addr}{dd:Option Addr}{h:Heap}{vs:Array aC}(x:XObj e Ca dd h vs):ExcIs e Ca dd false h:=by
 obtain ⟨o,h1,h2,h3,h4,h5,h6⟩:=x
 exact ⟨o,vs,h1,h2,h3,h4,h5,h6,fun z=>nomatch z⟩
theorem Fly.excIs{N:Nat}{e Ca:Addr}{dd:Option Addr}{h:Heap}(x:Fly N e Ca dd h):ExcIs e Ca dd false h:=by
 rcases x.2 with ⟨vs,q,_⟩ | ⟨_,vs,_,_,_,q,_⟩
 ·exact q.excIs
 ·exact q.excIs
theorem Tra.excIs{N:Nat}{e Ca:Addr}{dd:Option Addr}{fl:aC}{h:Heap}(x:Tra N e Ca dd fl h):ExcIs e Ca dd false h:=by
 obtain ⟨vs,_,_,_,q,_⟩:=x
 exact q.excIs
structure Stp(N:Nat)(fs:List Addr)(e:Addr)(h h':Heap):Prop where
 keep:∀ b o,b < N->b∉fs->b≠e->h.get? b=some o->h'.get? b=some o
 slot:∀ b o,b∈fs->h.get? b=some o->∃ sl,h'.get? b=some { o with slots:=sl }
 all:∀ b o,h.get? b=some o->∃ o',h'.get? b=some o'
 sz:h.objs.size<=h'.objs.size
theorem Stp.refl{N:Nat}{fs:List Addr}{e:Addr}{h:Heap}:Stp N fs e h h:=⟨fun _ _ _ _ _ q=>q,fun b o _ q=>⟨o.slots,q⟩,fun _ o q=>⟨o,q⟩,aZ _⟩
theorem Stp.trans{N:Nat}{fs:List Addr}{e:Addr}{h h1 h2:Heap}(x:Stp N fs e h h1)(y:Stp N fs e h1 h2):Stp N fs e h h2:=
 ⟨fun b o l n z q=>y.keep b o l n z (x.keep b o l n z q),fun b o m q=>let ⟨_,q1⟩:=x.slot b o m q;let ⟨sl,q2⟩:=y.slot b _ m q1;⟨sl,q2⟩,fun b o q=>let ⟨o1,q1⟩:=x.all b o q;y.all b o1 q1,cF x.sz y.sz⟩
section
variable {M:Model}{A:bZ}{E:aC->aG->Prop}{s:aG}{base:Heap}{N:Nat}{env:fV}{outer:List fV}{L e Ca:Addr}{dd:Option Addr}
theorem Abp{o:Obj}{vs:Array aC}{h:Heap}{k:Nat}{x:aC}(hd:o.data = .fields vs)(hq:(o.cls = .ref Ca/\o.dict=dd)/\1 < vs.size/\o.slots=#[])(hg:h.get? e=some (o.mapFields (·.setIfInBounds k x))) :
  XObj e Ca dd h (vs.setIfInBounds k x):=by
 obtain ⟨cl,di,da,sl⟩:=o
 dsimp only at hd hq
 subst hd
 exact ⟨_,hg,hq.1.1,hq.1.2,rfl,by rw[Array.size_setIfInBounds];exact hq.2.1,hq.2.2⟩
end
theorem Afa{P:aW}{w:bG}{H:Hp}{h h':Heap}{N:Nat}{fs:List Addr}{e Ca:Addr}{dd:Option Addr}(ok:HOk P w H h)(hf:∀ b∈fs,H b=none)(tr:∀ b o,H b=some o->b < N)(S:Stp N fs e h h')
  (me:H e=some (.ext (ExcIs e Ca dd false))) (x:ExcIs e Ca dd false h'):HOk P w H h':=fun a o q=>by
 by_cases ha:a=e
 ·subst ha
  rw[me] at q
  cases q
  obtain ⟨o,vs,h1,_,_,_,_,_,_⟩:=id x
  refine ⟨x,⟨o,h1⟩,fun h1 h2 z k=>?_⟩
  obtain ⟨o1,ws,q1,r1,r2,r3,r4,r5,r6⟩:=z
  exact ⟨o1,ws,k _ q1,r1,r2,r3,r4,r5,r6⟩
 ·refine (ok a o q).stay (fun b u hb z=>?_) (fun _ z=>z) fun _ _ z=>z
  have hbt:∃ ob,H b=some ob:=by
   rcases hb with hb | hb
   ·exact ⟨o,by rw[hb];exact q⟩
   ·exact ⟨_,hb⟩
  obtain ⟨ob,hob⟩:=hbt
  refine S.keep b u (tr b ob hob) (fun m=>by rw[hf b m] at hob;cases hob) ?_ z
  rintro rfl
  rcases hb with hb | hb
  ·exact ha hb.symm
  ·rw[me] at hb;cases hb
structure Bd(X:Cx)(pins:List (Addr×Obj))(N:Nat):Prop where
 s0:X.s₀.heap.objs.size<=N
 lo:X.env.locals < N
 ce:∀ x c,X.env.cells.lookup x=some c->c < N
 pi:∀ p∈X.pn++pins,p.1 < N
theorem Bd.of{X:Cx}{pins:List (Addr×Obj)}{σ:L2.St}{H:Hp}{s:aG}{N:Nat}(I:L2.Inv X pins σ H s)(h:s.heap.objs.size<=N):Bd X pins N:=
 ⟨cF I.sz h,aS I.lt h,fun x c q=>by
  obtain ⟨v,o,ho,_⟩:=I.cell x c q
  exact aS (aO ho) h,fun p hp=>aS (aO (I.pin p hp).1) h⟩
structure FlX(X:Cx)(pins:List (Addr×Obj))(σ:L2.St)(H:Hp)(e Ca:Addr)(dd:Option Addr)(N:Nat)(s:aG):Prop where
 inv:L2.Inv X pins σ H s
 bd:Bd X pins N
 fly:Fly N e Ca dd s.heap
 tr:∀ b o,H b=some o->b < N
 me:H e=some (.ext (ExcIs e Ca dd false))
section
variable {X:Cx}{pins:List (Addr×Obj)}{σ:L2.St}{H:Hp}{s:aG}{e Ca:Addr}{dd:Option Addr}{N:Nat}{h':Heap}
theorem FlX.stk(F:FlX X pins σ H e Ca dd N s):∀ b∈frs X.stack,H b=none:=F.inv.stkFree
theorem Inv.stepX{t':Nat}(I:L2.Inv X pins σ H s)(bd:Bd X pins N)(tr:∀ b o,H b=some o->b < N)(me:H e=some (.ext (ExcIs e Ca dd false)))(S:Stp N (frs X.stack) e s.heap h')(fl:ExcIs e Ca dd false h'):L2.Inv X pins σ H { s with heap:=h',toks:=t' }:=by
 refine I.call (g':=s.gens) (d':=s.drawn) (t':=t') (h':=h') (ch:=(fO s.heap.objs.size).filter (N<=·)) ⟨fun b o q n hb hx=>?_,fun b o q n hb hx=>S.slot b o hb q,fun _ _ _ n _=>n,fun b o q _=>S.all b o q,fun _ _ z=>z,fun _ _ _ z=>z,fun b ps z=>⟨#[],by rw[z];simp⟩⟩ (Afa I.hok I.stkFree tr S me fl) I.bare (fun b hb=>?_)
 ·refine S.keep b o ?_ hb (fun z=>by rw[z,me] at n;cases n) q
  by_cases hl:b < N
  ·exact hl
  ·exact absurd (iN.mpr ⟨gQ.mpr (aO q),by simpa using hl⟩) hx
 ·have hb:N<=b:=by simpa using (iN.mp hb).2
  refine ⟨.inr (cF bd.s0 hb),fun z=>absurd bd.lo (by rw[<- z];exact pJ.mpr hb),fun x c q z=>absurd (bd.ce x c q) (by rw[z];exact pJ.mpr hb),fun p hp z=>absurd (bd.pi p hp) (by rw[z];exact pJ.mpr hb)⟩
theorem FlX.step(F:FlX X pins σ H e Ca dd N s)(S:Stp N (frs X.stack) e s.heap h')(fl:Fly N e Ca dd h'):FlX X pins σ H e Ca dd N { s with heap:=h' }:=
 ⟨Inv.stepX (t':=s.toks) F.inv F.bd F.tr F.me S fl.excIs,F.bd,fl,F.tr,F.me⟩
end
inductive CFl(P:aW)(w:bG)(K:aA)(outer:List fV)(H:Hp)(α:List Addr)(s:aG)(n:Nat)(L':UH)(e:aC)(s':aG):Prop
 | mk (ea:_) (Ca:_) (dd:_) (N:_) (H':_) (α':_) (h0:e = .ref ea) (h1:s'.os=s.os) (h2:jA s'.gens) (h3:Un (frs outer) [] H H' s.heap s'.heap) (h4:HOk P w H' s'.heap) (h5:s.heap.objs.size<=N) (h6:Fly N ea Ca dd s'.heap) (h7:(∀ b o,H' b=some o->b < N)) (h8:H' ea=some (.ext (ExcIs ea Ca dd false))) (h9:Gr H α H' α') (h10:Abs K H' α' L') (h11:α'[n]? = some ea):CFl P w K outer H α s n L' e s'
noncomputable abbrev XN:=List U->UH->Option (Nat×UH)
structure FnX(P:aW)(w:bG)(K:aA)(mg:Str->Option aC)(base:Heap)(k:Nat)(f:Addr)(fd:bE)(ps:List Str)(x:XN):Prop where
 run:∀ (A:bZ) (outer:List fV) (s:aG) (H:Hp) (args:Args) (us:List aC) (vs:List V) (α:List Addr) (L:UH) (ws:List U) (n:Nat) (L':UH),Room k A->Env0 P w K mg base A outer s H->kS s fd args (ps.zip us)->Vals vs us ->
  Abs K H α L->RepL K H α ws vs->ws.length=ps.length->x ws L=some (n,L')->iF (model P w) A (.call (.ref f) args) (fun r s'=>∃ e,r = .error e/\CFl P w K outer H α s n L' e s') s
noncomputable abbrev XS:=UE->UH->Option (Nat×UE×UH)
noncomputable abbrev XE:=UE->UH->Option (Nat×UH)
inductive FXP(X:Cx)(pins:List (Addr×Obj))(H:Hp)(α:List Addr)(n:Nat)(δ':UE)(L':UH)(e:aC)(s':aG):Prop
 | mk (ea:_) (Ca:_) (dd:_) (N:_) (σ':_) (H':_) (α':_) (h0:e = .ref ea) (h1:FlX X pins σ' H' ea Ca dd N s') (h2:Gr H α H' α') (h3:Abs X.K H' α' L') (h4:RepS X.K H' α' δ' σ') (h5:α'[n]? = some ea):FXP X pins H α n δ' L' e s'
theorem FXP.from{X:Cx}{pins:List (Addr×Obj)}{H H1:Hp}{α α1:List Addr}{n:Nat}{δ':UE}{L':UH}{e:aC}{s':aG}(g:Gr H α H1 α1)(h:FXP X pins H1 α1 n δ' L' e s'):FXP X pins H α n δ' L' e s':=by
 obtain ⟨ea,Ca,dd,N,σ',H',α',h1,h2,h3,r1,r2,r3⟩:=h
 exact ⟨ea,Ca,dd,N,σ',H',α',h1,h2,g.trans h3,r1,r2,r3⟩
section
variable {X:Cx}{e:Expr}{es:List Expr}{st:Stmt}{pins:List (Addr×Obj)}{s:aG}{σ:L2.St}{H:Hp}{α:List Addr}{δ:UE}{L L':UH}{E:aC->aG->Prop}
theorem PEF.go{f:FE}{u:U}{Q:aC->aG->Prop}(h:PEF X e f)(hx:∀ e s,X.xe e s->False)(I:L2.Inv X pins σ H s)(A:Abs X.K H α L)(S:RepS X.K H α δ σ)(hf:f δ L=some (u,L'))
  (q:∀ x v H' α' s',L2.Inv X pins σ H' s'->Gr H α H' α'->Abs X.K H' α' L'->RepU X.K H' α' u v->RelV v x->Q x s'):wpAny (model X.prog X.w) X.A (eval e X.env) Q E s:=
 dI (h pins s σ H (fun v H'=>∃ α',Gr H α H' α'/\Abs X.K H' α' L'/\RepU X.K H' α' u v) I ⟨α,δ,L,A,S,u,L',hf,fun v H' α' g A' r=>⟨α',g,A',r⟩⟩) (fun x s' ⟨v,H',I',rv,α',g,A',r⟩=>q x v H' α' s' I' g A' r rv) fun _ _ z=>(hx _ _ z).elim
theorem PTF.go{f:FT}{b:Bool}{Q:Bool->aG->Prop}(h:PTF X e f)(hx:∀ e s,X.xe e s->False)(I:L2.Inv X pins σ H s)(A:Abs X.K H α L)(S:RepS X.K H α δ σ)(hf:f δ L=some (b,L'))
  (q:∀ H' α' s',L2.Inv X pins σ H' s'->Gr H α H' α'->Abs X.K H' α' L'->Q b s'):wpAny (model X.prog X.w) X.A (isTrue e X.env (eval e X.env)) Q E s:=
 dI (h pins s σ H (fun b' H'=>b'=b/\∃ α',Gr H α H' α'/\Abs X.K H' α' L') I ⟨α,δ,L,A,S,b,L',hf,fun H' α' g A'=>⟨rfl,α',g,A'⟩⟩) (fun x s' ⟨H',I',hb,α',g,A'⟩=>by subst hb;exact q H' α' s' I' g A') fun _ _ z=>(hx _ _ z).elim
theorem PAF.go{f:FA}{us:List U}{pos:Pos}{Q:List aC->aG->Prop}(h:PAF X es f)(hx:∀ e s,X.xe e s->False)(I:L2.Inv X pins σ H s)(A:Abs X.K H α L)(S:RepS X.K H α δ σ)(hf:f δ L=some (us,L'))
  (q:∀ xs vs H' α' s',L2.Inv X pins σ H' s'->Gr H α H' α'->Abs X.K H' α' L'->RepL X.K H' α' us vs->Vals vs xs->Q xs s'):wpAny (model X.prog X.w) X.A (spliced (backTo pos (aL es X.env))) Q E s:=
 dI (h pos pins s σ H (fun vs H'=>∃ α',Gr H α H' α'/\Abs X.K H' α' L'/\RepL X.K H' α' us vs) I ⟨α,δ,L,A,S,us,L',hf,fun vs H' α' g A' r=>⟨α',g,A',r⟩⟩) (fun x s' ⟨vs,H',I',rv,α',g,A',r⟩=>q x vs H' α' s' I' g A' r rv) fun _ _ z=>(hx _ _ z).elim
end
section
variable {X:Cx}{e:Expr}{es:List Expr}{st:Stmt}{rest:List Stmt}{pos:Pos}
end
section
variable {X:Cx}{e o:Expr}{es:List Expr}{p pos apos:Pos}{x m C:Str}{k n:Nat}{f fa Ca:Addr}{fd:bE}{ps:List Str}{F:XN}{g:FA}{fo:FE}
end
section
variable {P:aW}{w:bG}{K:aA}{mg:Str->Option aC}{base:Heap}
end
noncomputable def bmV:List aC:=[.type "ValueError",.type "Exception",.type "BaseException",.type "object"]
noncomputable def Adn(d:Data):Option ClassData:=match d with
 | .cls cd=>some cd
 | _=>none
theorem Aer{d:Data}{cd:ClassData}(h:Adn d=some cd):d = .cls cd:=by
 unfold Adn at h
 split at h
 ·cases h;rfl
 ·cases h
noncomputable def Js(K:aA)(C:Addr):Bool:=match K.lookup C with
 | some o=>(o.cls == .type "type" && (match Adn o.data with | some cd=>!cd.hasDel&&(cd.mro.head? == some (.ref C)&&PySem.W.tailIn K bmV cd.mro.tail) | none=>false))&&(o.slots.toList.length == 6&&o.slots.toList[4]? == some (some (.builtin "ValueError.__new__")))
 | none=>false
inductive six_I(α:Type)(l:List α)(k:α):Prop
 | mk (k0:_) (k1:_) (k2:_) (k3:_) (k5:_) (h0:l=[k0,k1,k2,k3,k,k5]):six_I α l k
theorem six{α:Type}{l:List α}{k:α}(h:l.length=6)(e:l[4]? = some k):six_I α l k:=by
 rcases l with _ | ⟨k0,l⟩
 ·cases h
 rcases l with _ | ⟨k1,l⟩
 ·cases h
 rcases l with _ | ⟨k2,l⟩
 ·cases h
 rcases l with _ | ⟨k3,l⟩
 ·cases h
 rcases l with _ | ⟨k4,l⟩
 ·cases h
 rcases l with _ | ⟨k5,l⟩
 ·cases h
 rcases l with _ | ⟨_,l⟩
 ·cases e;exact ⟨k0,k1,k2,k3,k5,rfl⟩
 ·cases h
inductive exc_obj_I(h:Heap)(C:Addr):Prop
 | mk (nm:_) (qn:_) (N:_) (bs:_) (bm:_) (hdct:_) (sn:_) (sub:_) (ab:_) (col:_) (dd:_) (k0:_) (k1:_) (k2:_) (k3:_) (k5:_) (h0:h.get? C=some (excClassObj nm qn C N bs bm hdct sn sub ab col dd k0 k1 k2 k3 k5 "ValueError.__new__")) (h1:OwnTail h bmV bm):exc_obj_I h C
theorem Lh{K:aA}{h:Heap}{C:Addr}(X:K.In h)(q:Js K C=true):exc_obj_I h C:=by
 unfold Js at q
 cases ho:K.lookup C with
 | none=>rw[ho] at q;cases q
 | some o=>
  rw[ho] at q
  obtain ⟨q1,q2⟩:=eR.mp q
  obtain ⟨q1,q3⟩:=eR.mp q1
  obtain ⟨q4,q5⟩:=eR.mp q2
  obtain ⟨cls,dd,dat,⟨l⟩⟩:=o
  obtain ⟨k0,k1,k2,k3,k5,e6⟩:=six (beq_iff_eq.mp q4) (beq_iff_eq.mp q5)
  obtain rfl:l=_:=e6
  obtain rfl:=beq_iff_eq.mp q1
  cases hd:Adn dat with
  | none=>simp only[hd] at q3;cases q3
  | some cd=>
   simp only[hd] at q3
   obtain ⟨nm,bs,mro,ns,qn,hdt,sn,sub,ab,col,del⟩:=cd
   obtain rfl:=Aer hd
   obtain ⟨q6,q7⟩:=eR.mp q3
   obtain ⟨q7,ht⟩:=eR.mp q7
   cases mro with
   | nil=>cases beq_iff_eq.mp q7
   | cons D bm=>
    cases beq_iff_eq.mp q7
    cases del with
    | true=>cases q6
    | false=>exact ⟨nm,qn,ns,bs,bm,hdt,sn,sub,ab,col,dd,k0,k1,k2,k3,k5,X _ _ ho,PySem.W.tail_of_in X ht⟩
noncomputable abbrev Y2(rest:List aC):Obj:={ cls:=.type "tuple",data:=.seq rest.toArray }
noncomputable abbrev Ve(C t:Addr):Obj:={ cls:=.ref C,data:=.fields #[.ref t,.none,.none,.none,.bool false,.none] }
noncomputable abbrev Ey(h:Heap)(C:Addr)(rest:List aC):Heap:=(h.push (Y2 rest)).push (Ve C h.objs.size)
section
variable {prog:aW}{w:bG}{A:bZ}{E:aC->aG->Prop}{K:aA}{C f:Addr}{rest:List aC}
theorem exHeap_e{h:Heap}:(Ey h C rest).get? (h.objs.size+1)=some (Ve C h.objs.size):=by
 have:=aR (h.push (Y2 rest)) (o:=Ve C h.objs.size) rfl
 rwa [cP] at this
theorem Sx{h:Heap}{b:Addr}{o:Obj}(q:h.get? b=some o):(Ey h C rest).get? b=some o:=aD _ (aD _ q)
theorem Yp{h:Heap}{g:Array jF}{d:Drawn}{t:Nat}{os:dR}{Q:Fin->aG->Prop}(X:K.In h)(q:Js K C=true)(hf:aQ K (.ref C) "__init__" = some (some (.ref f)))(ht:lU K (.ref f)=some (.type "function"))(hl:rest.length<=sizeLine)
  (k:wpAny (model prog w) A (call (.ref f) (.ref (h.objs.size+1)::rest)) (fun r s'=>r = .none/\Q (.done (.ret (.ref (h.objs.size+1)))) s') E ⟨Ey h C rest,g,d,t,os⟩) :
  wpAny (model prog w) A (jC.«type.__call__» ⟨.ref C::rest,[]⟩) Q E ⟨h,g,d,t,os⟩:=by
 obtain ⟨nm,qn,N,bs,bm,hdct,sn,sub,ab,col,dd,k0,k1,k2,k3,k5,hC,T⟩:=Lh X q
 have FV:ExcBaseFacts "ValueError" "ValueError.__new__" "ValueError.__init__" bmV:=jO
 repeat (first | with_reducible refine jX hC ?_ | with_reducible refine wpAny_madeBy_exc hC ?_ | wp_step)
 refine codeAny_call_builtin_code (nC _ FV.quiet) (wpAny_check_new_subT FV T hC ?_)
 refine codeAny_exc_new_subT FV T hC ?_ hl
 show wpAny _ _ _ _ _ _
 have hC1:=aD { cls:=.ref C,data:=.fields #[.ref h.objs.size,.none,.none,.none,.bool false,.none] } (aD { cls:=.type "tuple",data:=.seq rest.toArray } hC)
 have X1:K.In (Ey h C rest):=X.keeps fun b o e=>Sx e
 have hget:((h.push { cls:=.type "tuple",data:=.seq rest.toArray }).push { cls:=.ref C,data:=.fields #[.ref h.objs.size,.none,.none,.none,.bool false,.none] }).get? (h.objs.size+1)=some { cls:=.ref C,data:=.fields #[.ref h.objs.size,.none,.none,.none,.bool false,.none] }:=exHeap_e
 have hcC:(bH C::bm).contains (.ref C)=true:=by simp
 unfold isInstance
 repeat (first | with_reducible refine jX hget ?_ | (with_reducible refine wpAny_isSubtype_exc hC1 ?_;rw[hcC]) | wp_step)
 show wpAny _ _ (typeLookup (.ref C) _) _ _ _
 refine dJ (s:=⟨Ey h C rest,g,d,t,os⟩) (fP X1 hf) ?_
 refine iG (aE ?_)
 unfold bindSpecial
 refine aE (dJ (s:=⟨Ey h C rest,g,d,t,os⟩) (PySem.W.looks_typeIn X1 ht) ?_)
 rw[if_pos (by decide)]
 refine aP (aE (dI k (fun r s' hr=>?_) fun _ _ x=>x))
 obtain ⟨rfl,hQ⟩:=hr
 wp_walk
 exact hQ
theorem Abv{s:aG}{Q:aC->aG->Prop}(X:K.In s.heap)(q:Js K C=true)(hf:aQ K (.ref C) "__init__" = some (some (.ref f)))(ht:lU K (.ref f)=some (.type "function"))(hl:rest.length<=sizeLine)
  (k:wpAny (model prog w) (A.under (.builtin "type.__call__" ⟨.ref C::rest,[]⟩)) (call (.ref f) (.ref (s.heap.objs.size+1)::rest)) (fun r s'=>r = .none/\Q (.ref (s.heap.objs.size+1)) s') E { s with heap:=Ey s.heap C rest }) :
  wpAny (model prog w) A (call (.ref C) rest) Q E s:=by
 obtain ⟨h,g,d,t,os⟩:=s
 obtain ⟨nm,qn,N,bs,bm,hdct,sn,sub,ab,col,dd,k0,k1,k2,k3,k5,hC,T⟩:=Lh X q
 have x1:=tc_lookup
 have x2:=tc_bind (.ref C)
 have hT:(⟨h,g,d,t,os⟩:aG).TypeIs (.ref C) "type" := ⟨_,hC,rfl⟩
 refine gJ (codeAny_of_tree ?_)
 show wpAny _ _ (callAny (.ref C) _) _ _ _
 repeat (any_goals (first | assumption | with_reducible refine jX hC ?_ | wp_step))
 refine ⟨rfl,?_⟩
 exact codeAny_call_builtin_at (nC _ (by decide +kernel)) entry_typeCall (wpAny_check_type_call_sub hC (Yp X q hf ht hl k))
end
theorem My{P:aW}{w:bG}{H:Hp}{h:Heap}{e Ca:Addr}{dd:Option Addr}{fr:Bool}(x:ExcIs e Ca dd fr h):ObjOk P w H h e (.ext (ExcIs e Ca dd fr)):=by
 obtain ⟨o,vs,h1,_,_,_,_,_,_⟩:=id x
 refine ⟨x,⟨o,h1⟩,fun h1 h2 z k=>?_⟩
 obtain ⟨o1,ws,q1,r1,r2,r3,r4,r5,r6⟩:=z
 exact ⟨o1,ws,k _ q1,r1,r2,r3,r4,r5,r6⟩
structure MkX(K:aA)(C f:Addr):Prop where
 ex:Js K C=true
 init:aQ K (.ref C) "__init__" = some (some (.ref f))
 fn:cV K (.ref f)=true
 kp:aT K (.ref C)=true
noncomputable def Aja(Ca:Addr)(sp:Sp)(t:TA):TE:=fun σ H Q=>t σ H fun vs H1=>vs.length<=sizeLine/\∀ x,H1 x=none->sp (.ref x::vs) (upd H1 x (.ext (ExcIs x Ca none true))) (fun v H2=>v = .non/\Q (.ref x) H2) E0
section
variable {X:Cx}{k n:Nat}{f Ca:Addr}{fd:bE}{ps:List Str}{sp:Sp}{C x:Str}{p pos apos:Pos}{e:Expr}{es:List Expr}{t:TA}
theorem Yj{pins:List (Addr×Obj)}{σ:L2.St}{H:Hp}{s:aG}{Q:VK}{us:List aC}{vs:List V}(M:MkX X.K Ca f)(F:FnOk X.prog X.w X.K X.mg X.base CX0 k f fd ps sp)(hr:Room (k+1) X.A)(hb:Binds X.K fd ps [])
  (I:L2.Inv X pins σ H s) (r:Vals vs us) (hz:vs.length<=sizeLine) (h:∀ x,H x=none->sp (.ref x::vs) (upd H x (.ext (ExcIs x Ca none true))) (fun v H2=>v = .non/\Q (.ref x) H2) E0) :
  wpAny (model X.prog X.w) X.A (call (.ref Ca) us) (EP X pins σ Q) X.xe s:=by
 have hq:=h (s.heap.objs.size+1) (I.hok.fresh (lV _))
 have x0:ExcIs (s.heap.objs.size+1) Ca none true (Ey s.heap Ca us):=⟨_,_,exHeap_e,rfl,rfl,rfl,by simp,rfl,fun _=>rfl⟩
 have I2:L2.Inv X pins σ (upd H (s.heap.objs.size+1) (.ext (ExcIs (s.heap.objs.size+1) Ca none true))) { s with heap:=Ey s.heap Ca us,toks:=s.toks }:=I.laid (fun b u q=>Sx q) (lV _) (My x0)
 have r2:Vals (V.ref (s.heap.objs.size+1)::vs) (bH (s.heap.objs.size+1)::us):=.cons rfl r
 have hl:(bH (s.heap.objs.size+1)::us++[]).length=ps.length:=by rw[bT,<- r2.length];exact F.len _ _ _ _ hq
 have hbt:=hb { s with heap:=Ey s.heap Ca us,toks:=s.toks } (bH (s.heap.objs.size+1)::us) I2.kIn hl
 rw[bT] at hbt
 refine Abv (f:=f) I.kIn M.ex M.init (beq_iff_eq.mp M.fn) (by rw[<- r.length];exact hz) ?_
 refine gJ (gW (F.run _ X.stack _ _ ⟨_,[]⟩ _ _ _ E0 (hr.make Ca us []) (I2.env0.make Ca us []) hbt r2 hq) fun r s' hq'=>?_)
 cases r with
 | error e=>exact cJ hq'
 | ok fl=>
  cases fl with
  | ret u=>
   obtain ⟨v,H',I3,rv,ev,q3⟩:=I2.after hq'
   subst ev
   exact ⟨rv,⟨V.ref (s.heap.objs.size+1),H',I3,rfl,q3⟩⟩
  | next=>exact cJ hq'
  | brk=>exact cJ hq'
  | cont=>exact cJ hq'
theorem Aak(M:MkX X.K Ca f)(F:FnOk X.prog X.w X.K X.mg X.base CX0 k f fd ps sp)(hr:Room (k+1) X.A)(hg:Gl X x)(hm:X.mg x=some (.ref Ca))(hb:Binds X.K fd ps [])
  (ha:PA X (e::es) t) (hdb:(x == ("__debug__" : Str))=false:=by decide) (he:aL (e::es) X.env=(false,eval e X.env)::aL es X.env:=by rfl) (hpl:(backTo pos (aL es X.env)).any (·.1)=false:=by rfl) :
  PE X (.Call (.Name x p) (e::es) [] pos) (Aja Ca sp t):=by
 intro pins s σ H Q I h
 refine eE (G3 I hg hm ?_ hdb)
 refine jJ (h₀:=X.base) I.ok.mod.kin M.kp (thn (ha pos pins s σ H _ I h) fun us s1 zz=>zz.elim fun vs H1 I1 r zq=>⟨I1.kIn,?_⟩) he hpl
 obtain ⟨z,q⟩:=zq
 exact Yj M F hr hb I1 r z q
noncomputable def Bu(C:Str)(k:Nat)(F:FN)(g:FA):FE:=fun δ L=>(g δ L).bind fun p=>if p.1.length+1=k/\p.1.length<=100 then (F (.ref p.2.length::p.1) (p.2++[.exc C true []])).bind fun q=>match q.1 with | .non=>some (.ref p.2.length,q.2) | _=>none else none
theorem Ij{F:FN}{g:FA}(hns:aK X.K aI C=some (some (.ref Ca)))(M:MkX X.K Ca f)(hF:FnOk X.prog X.w X.K X.mg X.base CX0 k f fd ps (spF X.K n F))(hr:Room (k+1) X.A)(hg:Gl X C)(hm:X.mg C=some (.ref Ca))(hb:Binds X.K fd ps [])
  (ha:PAF X (e::es) g) (hdb:(C == ("__debug__" : Str))=false:=by decide) (he:aL (e::es) X.env=(false,eval e X.env)::aL es X.env:=by rfl) (hpl:(backTo pos (aL es X.env)).any (·.1)=false:=by rfl) :
  PEF X (.Call (.Name C p) (e::es) [] pos) (Bu C n F g):=by
 refine PE.imp (Aak M hF hr hg hm hb ha hdb he hpl) ?_
 rintro σ H Q ⟨α,δ,L,A,S,z,L3,ee,q⟩
 obtain ⟨⟨us,L1⟩,e1,ee⟩:=aB.mp ee
 simp only at ee
 split at ee
 ·rename_i hlen
  obtain ⟨⟨w,L2⟩,e2,ee⟩:=aB.mp ee
  cases w with
  | non=>
   cases ee
   refine ⟨α,δ,L,A,S,us,L1,e1,fun xs H1 α1 g1 A1 r1=>⟨?_,fun x nx=>?_⟩⟩
   ·rw[<- r1.length];exact kR (Yd (by omega))
   obtain ⟨Ab,gb⟩:=A1.new (o:=.ext (ExcIs x Ca none true)) (u:=.exc C true []) nx ⟨Ca,none,[],hns,upd_same,rfl,rfl,.nil⟩
   have rx:RepU X.K (upd H1 x (.ext (ExcIs x Ca none true))) (α1++[x]) (.ref L1.length) (.ref x):=by
    unfold RepU
    exact ⟨x,by rw[<- A1.len];simp,rfl⟩
   refine ⟨α1++[x],L1++[.exc C true []],.ref L1.length::us,Ab,.cons rx (r1.mono gb),by simpa using hlen.1,.non,L2,e2,fun v H3 α3 g3 A3 r3=>?_⟩
   have hv:v = .non:=by unfold RepU at r3;exact r3
   exact ⟨hv,q _ H3 α3 (g1.trans (gb.trans g3)) A3 (rx.mono g3)⟩
  | _=>cases ee
 ·cases ee
end
noncomputable def Ab7(K:aA)(B:Addr):Bool:=match oS K (.ref B) (.type "type") "__init__" with
 | some (.val (.builtin id))=>id == "ValueError.__init__"
 | _=>false
structure BInit(K:aA)(B:Addr):Prop where
 sp:eP K (.ref B) "__getattribute__" = some (some (.builtin "type.__getattribute__"))
 rd:oU K B (.type "type")=true
 fd:Ab7 K B=true
theorem BInit.found{K:aA}{B:Addr}(b:BInit K B):oS K (.ref B) (.type "type") "__init__" = some (.val (.builtin "ValueError.__init__")):=by
 have h:=b.fd
 unfold Ab7 at h
 split at h
 ·rename_i id q
  rw[q,beq_iff_eq.mp h]
 ·cases h
noncomputable def Aik(K:aA)(t:TA):TE:=fun σ H Q=>t σ H fun vs H1=>∃ a Ca dd fr y,vs=[.ref a,y]/\H1 a=some (.ext (ExcIs a Ca dd fr))/\Js K Ca=true/\Q .non H1
section
variable {X:Cx}{B:Addr}{x:Str}{p pos apos:Pos}{a b:Expr}{t:TA}
theorem T8{pins:List (Addr×Obj)}{σ:L2.St}{H:Hp}{s:aG}{Q:VK}{ea Ca:Addr}{dd:Option Addr}{fr:Bool}{v:aC}(I:L2.Inv X pins σ H s)(he:H ea=some (.ext (ExcIs ea Ca dd fr)))(hc:Js X.K Ca=true)(q:Q .non H) :
  wpAny (model X.prog X.w) X.A (call (.builtin "ValueError.__init__") [.ref ea,v]) (EP X pins σ Q) X.xe s:=by
 have x:=(I.hok ea _ he).1
 obtain ⟨o,vs,h1,h2,h3,h4,h5,h6,h7⟩:=id x
 obtain ⟨nm,qn,N,bs,bm,hdct,sn,sub,ab,col,dd',k0,k1,k2,k3,k5,hC,T⟩:=Lh I.kIn hc
 have FV:ExcBaseFacts "ValueError" "ValueError.__new__" "ValueError.__init__" bmV:=jO
 obtain ⟨h,g,d,tk,os⟩:=s
 refine gJ (iL FV.init.plain FV.initEntry (wpAny_check_init_subT FV T hC h1 h2 ?_))
 unfold jC.«BaseException.__init__»
 dsimp only
 obtain ⟨v0,hv0⟩:∃ v0,vs[0]? = some v0:=⟨vs[0],jS (by omega)⟩
 unfold newTuple jC.BaseException.bexcPut
 rw[if_neg (by decide)]
 refine aE (cQ ?_ (by show (1:Nat)<=sizeLine;decide))
 have e2:(h.push { cls:=.type "tuple",data:=.seq #[v] }).get? ea=some o:=aD _ h1
 have fin:∀ s':aG,s'=⟨(h.push { cls:=.type "tuple",data:=.seq #[v] }).update ea (mR (·.setIfInBounds 0 (bH h.objs.size))),g,d,tk,os⟩->EP X pins σ Q .none s':=fun s' hs=>by
  subst hs
  have hd3:=jN h4 (·.setIfInBounds 0 (bH h.objs.size))
  have e3:=fM (mR (·.setIfInBounds 0 (bH h.objs.size))) e2 (lL hd3)
  refine ⟨.non,H,?_,rfl,q⟩
  have hupd:upd H ea (.ext (ExcIs ea Ca dd fr))=H:=by
   funext b
   unfold upd
   split
   ·rename_i hb;rw[hb,he]
   ·rfl
  have J:=I.write (h':=(h.push { cls:=.type "tuple",data:=.seq #[v] }).update ea (mR (·.setIfInBounds 0 (bH h.objs.size)))) (x:=ea) (e:=ea) (o:=.ext (ExcIs ea Ca dd fr)) (t':=tk) (by rw[he];exact fQ) (.inl rfl) (fun b u hb z=>by
   rw[hG _ _ (eY hb)]
   exact aD _ z) ⟨_,e3⟩ (My (by obtain ⟨o2,g1,g2,g3,g4,g5,g6⟩:=Abp h4 ⟨⟨h2,h3⟩,h5,h6⟩ e3;exact ⟨o2,_,g1,g2,g3,g4,g5,g6,fun z=>by rw[Array.getElem?_setIfInBounds_ne (by decide)];exact h7 z⟩))
  rw[hupd] at J
  exact J
 refine aE (aE (cS e2 h4 hv0 (aE (lX e2 h4 (by omega) ?_))))
 cases v0 with
 | ref a0=>exact lZ (aP (fin _ rfl))
 | _=>exact aP (aP (fin _ rfl))
theorem Acy{pl:Sem Bool}(Bi:BInit X.K B)(hg:Gl X x)(hm:X.mg x=some (.ref B))(ha:PA X [a,b] t)(hdb:(x == ("__debug__" : Str))=false:=by decide)
  (hst:aL [a,b] X.env=(false,eval a X.env)::aL [b] X.env:=by rfl) (hpl:(backTo pos (aL [b] X.env)).any (·.1)=false:=by rfl)
  (ht:eval (.Call (.Attribute (.Name x p) "__init__" apos) [a,b] [] pos) X.env=(do
   let ov <- eval (.Name x p) X.env
   standAt apos.atName
   let (f,first) <- holding [ov] (getMethod ov "__init__" pl)
   callWith pos f first (backTo pos (aL [a,b] X.env)) (backToKw pos (keywordEach [] X.env))):=by rfl) :
  PE X (.Call (.Attribute (.Name x p) "__init__" apos) [a,b] [] pos) (Aik X.K t):=by
 intro pins s σ H Q I h
 refine fL (pl:=pl) (G3 I hg hm ?_ hdb) ht
 refine PySem.W.method_cls I.kIn Bi.sp (PySem.W.cls_value I.kIn Bi.rd Bi.found (by decide +kernel) ?_)
 have I1:=I.tok (s.toks+1)
 have hA:=ha pos pins { s with toks:=s.toks+1 } σ H _ I1 h
 rw[hst] at hA ⊢
 refine fA (by show (false || (backTo pos (aL [b] X.env)).any (·.1))=false;rw[hpl] <;> rfl) (iI ?_)
 refine thn hA fun us s2 zz=>zz.elim fun vs H2 I2 r2 zq=>?_
 obtain ⟨ea,Ca,dd,fr,y,hv,he,hc,q2⟩:=zq
 subst hv
 obtain ⟨u1,u2,rfl,ru1,ru2⟩:=r2.two
 obtain rfl:u1=bH ea:=ru1
 exact T8 I2 he hc q2
noncomputable def AllX(K:aA)(Cs:List Str):Prop:=∀ C∈Cs,∀ Ca,aK K aI C=some (some (.ref Ca))->Js K Ca=true
noncomputable def Dl(Cs:List Str)(g:FA):FE:=fun δ L=>(g δ L).bind fun p=>match p.1 with
 | [.ref n,_]=>match p.2[n]? with
  | some (.exc C _ _)=>if C∈Cs then some (.non,p.2) else none
  | _=>none
 | _=>none
theorem Mn{pl:Sem Bool}{Cs:List Str}{g:FA}(hC:AllX X.K Cs)(Bi:BInit X.K B)(hg:Gl X x)(hm:X.mg x=some (.ref B))(ha:PAF X [a,b] g)(hdb:(x == ("__debug__" : Str))=false:=by decide)
  (hst:aL [a,b] X.env=(false,eval a X.env)::aL [b] X.env:=by rfl) (hpl:(backTo pos (aL [b] X.env)).any (·.1)=false:=by rfl)
  (ht:eval (.Call (.Attribute (.Name x p) "__init__" apos) [a,b] [] pos) X.env=(do
   let ov <- eval (.Name x p) X.env
   standAt apos.atName
   let (f,first) <- holding [ov] (getMethod ov "__init__" pl)
   callWith pos f first (backTo pos (aL [a,b] X.env)) (backToKw pos (keywordEach [] X.env))):=by rfl) :
  PEF X (.Call (.Attribute (.Name x p) "__init__" apos) [a,b] [] pos) (Dl Cs g):=by
 refine PE.imp (Acy (pl:=pl) Bi hg hm ha hdb hst hpl ht) ?_
 rintro σ H Q ⟨α,δ,L,A,S,z,L3,ee,q⟩
 obtain ⟨⟨us,L1⟩,e1,ee⟩:=aB.mp ee
 refine ⟨α,δ,L,A,S,us,L1,e1,fun xs H1 α1 g1 A1 r1=>?_⟩
 simp only at ee
 split at ee
 ·rename_i n w
  split at ee
  ·rename_i C fr fs hL
   split at ee
   ·rename_i hin
    cases ee
    obtain ⟨x1,x2,rfl,rx1,rx2⟩:=r1.two
    obtain ⟨a,ea,Ca,dd,vs,hns,ha,_⟩:=A1.addr hL
    obtain ⟨a',ea',rfl⟩:=rx1.ref_of A1
    rw[ea] at ea';cases ea'
    exact ⟨a,Ca,dd,fr,x2,rfl,ha,hC C hin Ca hns,q _ H1 α1 g1 A1 rfl⟩
   ·cases ee
  ·cases ee
 ·cases ee
end
section
variable {X:Cx}{e:Expr}{pos:Pos}{fe:FE}{Cs:List Str}
end
noncomputable def AllM(K:aA)(Cs:List Str)(D:Addr):Prop:=∀ C∈Cs,∀ Ca,aK K aI C=some (some (.ref Ca))->mD K (.ref Ca) (.ref D)=some true
section
variable {X:Cx}{body suite:List Stmt}{b0:Stmt}{x n:Str}{np hpos pos:Pos}{D:Addr}{Cs:List Str}{fb fs:FS}{xb:XS}{i:Nat}
end
noncomputable def Aij(K:aA)(C:Addr):Bool:=Js K C&&aQ K (.ref C) "__getattribute__" == some (some (.builtin "BaseException.__getattribute__"))&&aQ K (.ref C) "__getattr__" == some none &&
 pQ K (.ref C) (.type "BaseException") == some true&&aQ K (.ref C) "__class__" == some (some (.builtin "object.__class__"))&&mO K C (.type "object") == some true&&dP K C &&
 eP K (.builtin "object.__class__") "__get__" == some (some (.builtin "getset_descriptor.__get__"))&&lD K (.builtin "object.__class__") == some true
structure ExcA(K:aA)(C:Addr):Prop where
 ex:Js K C=true
 ga:aQ K (.ref C) "__getattribute__" = some (some (.builtin "BaseException.__getattribute__"))
 gk:aQ K (.ref C) "__getattr__" = some none
 sb:pQ K (.ref C) (.type "BaseException")=some true
 cl:aQ K (.ref C) "__class__" = some (some (.builtin "object.__class__"))
 mo:mO K C (.type "object")=some true
 hd:dP K C=true
 sg:eP K (.builtin "object.__class__") "__get__" = some (some (.builtin "getset_descriptor.__get__"))
 tk:lD K (.builtin "object.__class__")=some true
theorem Ae9{K:aA}{C:Addr}(h:Aij K C=true):ExcA K C:=by
 unfold Aij at h
 simp only[cC,beq_iff_eq] at h
 obtain ⟨⟨⟨⟨⟨⟨⟨⟨a,b⟩,c⟩,d⟩,e⟩,f⟩,g⟩,i⟩,j⟩:=h
 exact ⟨a,b,c,d,e,f,g,i,j⟩
noncomputable def isX(C D:Str):Bool:=C == D || D == "BelowError" || D == "ValueError"
noncomputable def X8(K:aA)(D:Str):Option aC:=match aK K aI D with
 | some (some (.ref a))=>some (.ref a)
 | some none=>if D == "ValueError" then some (.type "ValueError") else none
 | _=>none
noncomputable def L9(K:aA)(Cs Ds:List Str):Bool:=Cs.all fun C=>match aK K aI C with
 | some (some (.ref a))=>Aij K a&&Ds.all fun D=>match X8 K D with
  | some v=>mE K (.ref a) v == some (isX C D)&&(!isX C D || mD K (.ref a) v == some true)
  | none=>false
 | _=>false
section
variable {K:aA}{Cs Ds:List Str}
theorem Gs(T:L9 K Cs Ds=true){C:Str}{Ca:Addr}(hC:C∈Cs)(hn:aK K aI C=some (some (.ref Ca))):ExcA K Ca/\∀ D∈Ds,∃ v,X8 K D=some v/\mE K (.ref Ca) v=some (isX C D)/\(isX C D=true->mD K (.ref Ca) v=some true):=by
 have h:=bM.mp T C hC
 rw[hn] at h
 simp only[cC] at h
 refine ⟨Ae9 h.1,fun D hD=>?_⟩
 have h2:=bM.mp h.2 D hD
 split at h2
 ·rename_i v hv
  simp only[cC,beq_iff_eq,Bool.or_eq_true,Bool.not_eq_true'] at h2
  exact ⟨v,hv,h2.1,fun z=>h2.2.resolve_left (by rw[z];exact Bool.noConfusion)⟩
 ·cases h2
theorem AllX.of(T:L9 K Cs Ds=true):AllX K Cs:=fun C hC Ca hn=>(Gs T hC hn).1.ex
theorem Ly{D:Str}{Da:Addr}(h:aK K aI D=some (some (.ref Da))):X8 K D=some (.ref Da):=by unfold X8;rw[h]
theorem AllM.of{D:Str}{Da:Addr}(T:L9 K Cs Ds=true)(hD:D∈Ds)(hn:aK K aI D=some (some (.ref Da)))(ha:Cs.all (fun C=>isX C D)=true):AllM K Cs Da:=fun C hC Ca hc=>by
 obtain ⟨v,hv,_,h2⟩:=(Gs T hC hc).2 D hD
 rw[Ly hn] at hv
 cases hv
 exact h2 (bM.mp ha C hC)
theorem AllM.sub{Es:List Str}{D:Str}{Da:Addr}(T:L9 K Cs Ds=true)(hs:∀ C∈Es,C∈Cs)(hD:D∈Ds)(hn:aK K aI D=some (some (.ref Da)))(ha:Es.all (fun C=>isX C D)=true):AllM K Es Da:=fun C hC Ca hc=>by
 obtain ⟨v,hv,_,h2⟩:=(Gs T (hs C hC) hc).2 D hD
 rw[Ly hn] at hv
 cases hv
 exact h2 (bM.mp ha C hC)
end
section
variable {prog:aW}{w:bG}{A:bZ}{E:aC->aG->Prop}{s:aG}{K:aA}{x C:Addr}{ox:Obj}{od:Option Obj}{name:Str}
theorem Aau{fill expr:Bool}{tk:Tok}{Q:aC->aG->Prop}(X:K.In s.heap)(T:ExcA K C)(I:eT s.heap x ox C od)
  (h:wpAny (model prog w) A.in1 (jC.«object.__getattribute__» ⟨[.ref x,.str name tk],[]⟩) (fun fin s'=>match fin with | .done (.ret v)=>wpAny (model prog w) A (handedOut v) Q E s' | _=>False) (fun _ _=>False) s) :
  wpAny (model prog w) A (getAttrBy (.ref x) (.str name tk) fill expr) Q E s:=by
 have FB:=PySem.F.attr_ValueError
 have hB:(mS "BaseException.__getattribute__" == mS "object.__getattribute__")=false:=by decide +kernel
 unfold getAttrBy
 refine iG (aE (I.type.here (aE ((fP X T.ga).here ?_))))
 dsimp only
 rw[hB,mF,if_neg (by decide)]
 unfold getAttrByItsOwn
 refine aE ((PySem.W.looks_hook X (mc:=.ref C) (r:=none) (by rw[if_pos (show onTheHeap (.ref C)=true from rfl)];exact T.gk)).here (aE (kD (iG ?_))))
 unfold callGetattribute
 rw[show (expr&&onTheHeap (mS "BaseException.__getattribute__"))=false from mF _,if_neg (by decide)]
 unfold boundAndCalled
 rw[FB.ga.bind]
 refine aE (aP ?_)
 show wpAny _ _ (call (.builtin "BaseException.__getattribute__") [.ref x,.str name tk]) _ _ _
 refine gJ (iL FB.ga.plain PySem.F.entry_bexc_ga ?_)
 refine @nD (model prog w) _ _ s "BaseException.__getattribute__" "BaseException" "__getattribute__" (.ref x) [.str name tk] [] _ (by decide +kernel) (by decide +kernel) (I.type.andThen (PySem.W.looks_subIn X T.sb)) (PySem.F.args_bexc_ga (.ref x) (.str name tk)) ?_
 refine dI h (fun fin s' z=>?_) fun _ _ z=>z.elim
 rcases fin with (_ | _ | _ | _) | _ <;> first | exact z | exact z.elim
theorem Aaf{r:jC.ObjectAttr.Found}{tk:Tok}{Q:Fin->aG->Prop}(X:K.In s.heap)(I:eT s.heap x ox C od)(hf:iU K C od name=some r)
  (h:match r with
   | .value v=>Q (.done (.ret v)) s
   | .bind g a=>wpAny (model prog w) A (call g [a,.ref x,.ref C]) (fun v s'=>Q (.done (.ret v)) s') E s
   | .missing=>False):wpAny (model prog w) A (jC.«object.__getattribute__» ⟨[.ref x,.str name tk],[]⟩) Q E s:=by
 unfold jC.«object.__getattribute__»
 refine aE (aP ?_)
 refine aE (aP ?_)
 refine aE (I.type.here (aE ((PySem.W.looks_find X I hf).here ?_)))
 cases r with
 | value v=>exact aP h
 | bind g a=>
  show wpAny _ _ (holding [a] (call g [a,.ref x,.ref C]) >>= ret) _ _ _
  exact aE (iG (dI h (fun v s' z=>aP z) fun _ _ z=>z))
 | missing=>exact h.elim
theorem Aa4(T:ExcA K C):PySem.W.KitX K (.ref x) (.ref C) (fun h=>eT h x ox C od) where
 ty:=fun _ _ _ I=>I.type
 it:=fun _ _ X _=>by
  obtain ⟨cd,hc,_⟩:=fS T.hd
  unfold pR at hc
  split at hc
  ·rename_i ho
   intro A' Q' E' s' k q
   unfold isType loadHead
   exact aE (lR (k _ _ (X _ _ ho)) (aP q))
  ·cases hc
 ne:=fun h tp dd its n sl X htp=>by
  obtain ⟨cd,hc,_⟩:=fS T.hd
  refine Bool.eq_false_iff.mpr fun q=>?_
  have e:C=tp:=bH.inj (beq_iff_eq.mp q)
  subst e
  unfold pR at hc
  split at hc
  ·rename_i ho
   have z:=(X _ _ ho).symm.trans htp
   cases z
  ·cases hc
 ca:=fun {prog w A E Q s} X I k=>by
  have hf:iU K C od "__class__" = some (.bind (.builtin "getset_descriptor.__get__") (.builtin "object.__class__")):=by
   obtain ⟨cd,hc,_⟩:=fS T.hd
   unfold iU
   rw[hc,aF,T.cl,aF]
   dsimp only
   rw[T.sg,aF]
   dsimp only
   rw[T.tk,aF]
  unfold getAttr? getAttrBy?
  refine aE (wpAny_mkText (aE (kD (Aau (s:={ s with toks:=s.toks+1 }) X T I (Aaf (s:={ s with toks:=s.toks+1 }) X I hf ?_)))))
  refine gJ (PySem.W.class_get (s:={ s with toks:=s.toks+1 }) X I T.mo ?_)
  exact nU rfl (aP k)
end
section
variable {X:Cx}{Cs Ds:List Str}
theorem Adz{P:aW}{w:bG}{H:Hp}{h:Heap}{a Ca:Addr}{dd:Option Addr}{fr:Bool}{vs:List (Str×V)}(ok:HOk P w H h)(he:H a=some (.ext (ExcIs a Ca dd fr)))(hd:DictIs H dd vs) :
  ∃ ox od,eT h a ox Ca od/\ox.dict=dd:=by
 obtain ⟨o,ws,h1,h2,h3,h4,_⟩:=(ok a _ he).1
 have no:mG o=true:=by unfold mG;rw[h4]
 cases dd with
 | none=>exact ⟨o,none,⟨h1,h2,no,by rw[h3];trivial⟩,h3⟩
 | some dx=>
  obtain ⟨_,od,q⟩:=hd
  exact ⟨o,some od,⟨h1,h2,no,by rw[h3];exact (ok dx _ q).1⟩,h3⟩
noncomputable def vOf:aC->Option V
 | .ref a=>some (.ref a)
 | .type T=>some (.ty T)
 | _=>none
inductive IsxR(K:aA)(xs:List V)(H:Hp)(Q:VK):Prop
 | mk (a:_) (Ca:_) (dd:_) (fr:_) (vs:_) (c:_) (v:_) (b:_) (h0:xs=[.ref a,v]) (h1:vOf c=some v) (h2:H a=some (.ext (ExcIs a Ca dd fr))) (h3:DictIs H dd vs) (h4:ExcA K Ca) (h5:mE K (.ref Ca) c=some b) (h6:Q (.bl b) H):IsxR K xs H Q
theorem Rj:CallR X (.builtin "isinstance") (IsxR X.K):=by
 intro pins s σ H xs us Q I r h
 obtain ⟨a,Ca,dd,fr,vs,c,v,b,rfl,hc,ha,hd,T,e,q⟩:=h
 obtain ⟨u,u2,rfl,rx,ry⟩:=r.two
 obtain rfl:u=bH a:=rx
 have hu:u2=c:=by
  cases c <;> simp[vOf] at hc <;> subst hc <;> exact ry
 subst hu
 obtain ⟨ox,od,J,_⟩:=Adz I.hok ha hd
 exact PySem.W.kia_one (Aa4 (ox:=ox) (od:=od) T) I.kIn J e (fun z=>nomatch z) fun tk=>⟨.bl b,H,I.tok _,rfl,q⟩
inductive IsxtR(K:aA)(xs:List V)(H:Hp)(Q:VK):Prop
 | mk (a Ca:Addr) (dd:Option Addr) (fr:Bool) (vs:List (Str×V)) (tp:Addr) (ds:List Addr) (b:Bool) (h0:xs=[.ref a,.ref tp]) (h1:H tp=some (.tup (ds.map V.ref))) (h2:H a=some (.ext (ExcIs a Ca dd fr))) (h3:DictIs H dd vs) (h4:ExcA K Ca) (h5:PySem.W.kitAny K (.ref Ca) (ds.map bH)=some b) (h6:Q (.bl b) H):IsxtR K xs H Q
noncomputable def Oy(Cs:List Str)(u:U)(L:UH):Option (Nat×Str×List (Str×U)):=match u with
 | .ref n=>match L[n]? with
  | some (.exc C _ fs)=>if C∈Cs then some (n,C,fs) else none
  | _=>none
 | _=>none
theorem R9{u:U}{L:UH}{n:Nat}{C:Str}{fs:List (Str×U)}(h:Oy Cs u L=some (n,C,fs)):u = .ref n/\C∈Cs/\∃ fr,L[n]? = some (.exc C fr fs):=by
 unfold Oy at h
 split at h
 ·split at h
  ·rename_i e
   split at h
   ·rename_i hc
    cases h
    exact ⟨rfl,hc,_,e⟩
   ·cases h
  ·cases h
 ·cases h
noncomputable def J3(Cs:List Str)(D:Str)(f:FE):FE:=fun δ L=>(f δ L).bind fun p=>(Oy Cs p.1 p.2).map fun t=>(.bl (isX t.2.1 D),p.2)
theorem V1{σ:L2.St}{H:Hp}{Q:VK}{K:aA}{D:Str}{fe:FE}{c:aC}{v:V}(T:L9 K Cs Ds=true)(hD:D∈Ds)(hc:X8 K D=some c)(hv:vOf c=some v)(h:lE K (J3 Cs D fe) σ H Q) :
  tCB (IsxR K) (V4 (lE K fe) (V4 (tC v) Abb)) σ H Q:=by
 obtain ⟨α,δ,L,A,S,z,L3,e,q⟩:=h
 obtain ⟨⟨u,L1⟩,e1,e⟩:=aB.mp e
 obtain ⟨⟨n,C,fs⟩,e2,e⟩:=aH.mp e
 cases e
 obtain ⟨rfl,hC,fr,hL⟩:=R9 e2
 refine ⟨α,δ,L,A,S,_,_,e1,fun x H1 α1 g1 A1 r1=>?_⟩
 obtain ⟨a,ea,Ca,dd,vs,hns,ha,hd,hk,rr⟩:=A1.addr hL
 obtain ⟨a',ea',rfl⟩:=r1.ref_of A1
 rw[ea] at ea';cases ea'
 obtain ⟨TA,TD⟩:=Gs T hC hns
 obtain ⟨c',hc',hk',_⟩:=TD D hD
 rw[hc] at hc';cases hc'
 exact ⟨a,Ca,dd,fr,vs,c,v,_,rfl,hv,ha,hd,TA,hk',q _ H1 α1 g1 A1 rfl⟩
theorem Q3{e:Expr}{fe:FE}{p p2 pos:Pos}{D:Str}{Da:Addr}(T:L9 X.K Cs Ds=true)(hD:D∈Ds)(hns:aK X.K aI D=some (some (.ref Da)))(he:PEF X e fe)(hg:Gl X "isinstance")(hm:X.mg "isinstance" = none)(hg2:Gl X D)(hm2:X.mg D=some (.ref Da))
  (hdb:(D == ("__debug__" : Str))=false:=by decide)
  (hs:aL [e,.Name D p2] X.env=(false,eval e X.env)::aL [.Name D p2] X.env:=by rfl) (hs2:aL [.Name D p2] X.env=(false,eval (.Name D p2) X.env)::aL [] X.env:=by rfl)
  (hpl:(backTo pos (aL [.Name D p2] X.env)).any (·.1)=false:=by rfl):PEF X (.Call (.Name "isinstance" p) [e,.Name D p2] [] pos) (J3 Cs D fe):=
 PE.imp (Nx Rj hg hm (by decide +kernel) (G0 he (G0 (Lg hg2 hm2 (v:=.ref Da) rfl hdb) Qo hs2) hs) (by decide) (by decide) hs hpl) fun σ H Q h=>V1 T hD (Ly hns) rfl h
theorem Aew{e:Expr}{fe:FE}{p p2 pos:Pos}(T:L9 X.K Cs Ds=true)(hD:("ValueError" : Str)∈Ds)(hns:aK X.K aI "ValueError" = some none)(he:PEF X e fe)(hg:Gl X "isinstance")(hm:X.mg "isinstance" = none)(hg2:Gl X "ValueError")(hm2:X.mg "ValueError" = none)
  (hs:aL [e,.Name "ValueError" p2] X.env=(false,eval e X.env)::aL [.Name "ValueError" p2] X.env:=by rfl) (hs2:aL [.Name "ValueError" p2] X.env=(false,eval (.Name "ValueError" p2) X.env)::aL [] X.env:=by rfl)
  (hpl:(backTo pos (aL [.Name "ValueError" p2] X.env)).any (·.1)=false:=by rfl):PEF X (.Call (.Name "isinstance" p) [e,.Name "ValueError" p2] [] pos) (J3 Cs "ValueError" fe):=
 PE.imp (Nx Rj hg hm (by decide +kernel) (G0 he (G0 (Ael hg2 hm2 (u:=.type "ValueError") (by decide +kernel) (v:=.ty "ValueError") rfl) Qo hs2) hs) (by decide) (by decide) hs hpl) fun σ H Q h=>V1 (c:=.type "ValueError") T hD (by unfold X8;rw[hns];rfl) rfl h
inductive Names(X:Cx):List Str->List Addr->List Expr->Prop where
 | nil:Names X [] [] []
 | cons {D:Str} {Da:Addr} {Dn:List Str} {ds:List Addr} {es:List Expr} {p2:Pos} (hns:aK X.K aI D=some (some (.ref Da))) (hg2:Gl X D) (hm2:X.mg D=some (.ref Da)) (t:Names X Dn ds es)
   (hdb:(D == ("__debug__" : Str))=false:=by decide) (hs:aL (.Name D p2::es) X.env=(false,eval (.Name D p2) X.env)::aL es X.env:=by rfl):Names X (D::Dn) (Da::ds) (.Name D p2::es)
theorem Names.pa{Dn:List Str}{ds:List Addr}{es:List Expr}(h:Names X Dn ds es):PA X es (fun _ H Q=>Q (ds.map V.ref) H):=by
 induction h with
 | nil=>exact Qo
 | cons hns hg2 hm2 t hdb hs ih=>exact G0 (Lg hg2 hm2 (v:=.ref _) rfl hdb) ih hs
theorem Names.len{Dn:List Str}{ds:List Addr}{es:List Expr}(h:Names X Dn ds es):ds.length=Dn.length:=by
 induction h with
 | nil=>rfl
 | cons _ _ _ _ _ _ ih=>simp[ih]
end
section
variable {X:Cx}{e:Expr}{pos pos':Pos}{x:Str}{xe:XE}
end
end MR
namespace MR
open PySem PySem.Spec PyProof.Rows PySem.Calls L2
theorem Px(x y:Str):(dA x y).length<=x.length+2:=by
 unfold dA
 split
 ·simp
 ·split
  ·simp
  ·have e1:=StrLaws.occ_length_le x y 0 x.length (x.length+1)
   rw[length_partsBetween];omega
theorem W7{P:aW}{w:bG}{A:bZ}{E:aC->aG->Prop}{s:aG}{Q:aC->aG->Prop}{x y:Str}{t u:Tok}(hy:(y.length == 0)=false)(hsz:x.length+2<=sizeLine)
  (h:∀ (l:List (Str×Tok)) (k:Nat),l.map (·.1)=dA x y->Q (.ref s.heap.objs.size) { s with heap:=s.heap.push { cls:=.type "list",data:=.seq (strValues l).toArray },toks:=k }) :
  wpAny (model P w) A (call (.builtin "str.split") [.str x t,.str y u]) Q E s:=by
 have hn:=Px x y
 by_cases c1:(decide (x.length < y.length) || decide (fZ x < fZ y))=true
 ·have e:dA x y=[x]:=by unfold dA;rw[if_pos c1]
  exact nE fE (jL _ _ _) gL (gE _ _) (meets_str_split_cannot_occur x y t u c1) (h [(x,t)] s.toks (by rw[e];rfl))
 have c1':(decide (x.length < y.length) || decide (fZ x < fZ y))=false:=by simpa using c1
 by_cases c2:(cA x y 0 x.length (x.length+1)).isEmpty=true
 ·have e:dA x y=[x]:=by unfold dA;rw[if_neg c1,if_pos c2]
  exact nE fE (jL _ _ _) gL (gE _ _) (meets_str_split_not_found x y t u c1' hy c2) (h [(x,t)] s.toks (by rw[e];rfl))
 have c2':(cA x y 0 x.length (x.length+1)).isEmpty=false:=by simpa using c2
 have e:dA x y=jC.Str.partsBetween x (cA x y 0 x.length (x.length+1)) y.length:=by unfold dA;rw[if_neg c1,if_neg c2]
 rw[e] at hn
 refine nE fE (jL _ _ _) gL (gE _ _) (meets_str_split_sep x y t u c1' hy c2' (by omega) (by omega)) ?_
 show wants Q E _ _
 rw[strsFrom_eq]
 exact h (numbered s.toks _) _ ((numbered_texts _ _).trans e.symm)
theorem J9:∀ (l:List (Str×Tok)),Vals ((l.map (·.1)).map V.str) (strValues l)
 | []=>.nil
 | p::r=>.cons ⟨p.2,rfl⟩ (J9 r)
section
variable {X:Cx}
noncomputable def Acw:V->List V->Hp->VK->Prop:=fun x vs H Q=>∃ a b,x = .str a/\vs=[.str b]/\(b.length == 0)=false/\a.length+2<=sizeLine/\∀ l,H l=none->Q (.ref l) (upd H l (.lst ((dA a b).map V.str)))
theorem Ada:MtR X "str.split" Acw:=by
 intro pins s σ H x vs v us Q I rx rv h
 obtain ⟨a,b,rfl,rfl,hb,hz,q⟩:=h
 obtain ⟨t,rfl⟩:=rx
 obtain ⟨u,rfl,ru⟩:=rv.one
 obtain ⟨t',rfl⟩:=ru
 refine W7 hb hz fun l k e=>?_
 have hlen:=Px a b
 refine ⟨.ref s.heap.objs.size,_,I.laid (t':=k) (o:=.lst ((dA a b).map V.str)) (fun b o e=>aD _ e) (aZ _) ⟨by rw[cO];omega,strValues l,0,by rw[<- e];exact J9 l,aR _ rfl⟩,rfl,q _ (I.hok.fresh (aZ _))⟩
noncomputable def Vy:V->List V->Hp->VK->Prop:=fun x vs H Q=>∃ a b,x = .str a/\vs=[.str b]/\Q (.bl (hU a b)) H
theorem O1:MtR X "str.startswith" Vy:=by
 intro pins s σ H x vs v us Q I rx rv h
 obtain ⟨a,b,rfl,rfl,q⟩:=h
 obtain ⟨t,rfl⟩:=rx
 obtain ⟨u,rfl,ru⟩:=rv.one
 obtain ⟨t',rfl⟩:=ru
 exact SC.startswith ⟨.bl (hU a b),H,I,rfl,q⟩
theorem W9:CallR X (.type "int") (fun xs H Q=>∃ a n,xs=[.str a]/\jP a=some n/\a.length<=640/\Q (.int n) H):=by
 intro pins s σ H xs us Q I r h
 obtain ⟨a,n,rfl,hn,hl,q⟩:=h
 obtain ⟨u,rfl,ru⟩:=r.one
 obtain ⟨t,rfl⟩:=ru
 exact PySem.W.KIN.call_text hn hl ⟨.int n,H,I.tok _,⟨_,rfl⟩,q⟩
end
noncomputable def E5:SM:=fun u us L=>match u,us with
 | .str a,[.str b]=>if (b.length == 0)=false/\a.length<=1000000 then some (.ref L.length,L++[.lst ((dA a b).map U.str)]) else none
 | _,_=>none
theorem Lq{K:aA}{H:Hp}{α:List Addr}:∀ l:List Str,RepL K H α (l.map U.str) (l.map V.str)
 | []=>.nil
 | a::l=>.cons (by unfold RepU;rfl) (Lq l)
theorem Ys{K:aA}:Vg K Acw E5:=by
 intro H α L u us x xs z L' Q A ru r e q
 unfold E5 at e
 split at e
 ·rename_i a b
  split at e
  ·rename_i hc
   cases e
   unfold RepU at ru
   subst ru
   obtain ⟨v,rfl,rv⟩:=r.one
   unfold RepU at rv
   subst rv
   refine ⟨a,b,rfl,rfl,hc.1,by unfold sizeLine;omega,fun l hl=>?_⟩
   obtain ⟨g2,A2,r2⟩:=A.lst (Lq (K:=K) (H:=H) (α:=α) (dA a b)) hl
   exact q _ _ _ g2 A2 r2
  ·cases e
 ·cases e
noncomputable def semStarts:SM:=fun u us L=>match u,us with
 | .str a,[.str b]=>some (.bl (hU a b),L)
 | _,_=>none
theorem M8{K:aA}:Vg K Vy semStarts:=by
 intro H α L u us x xs z L' Q A ru r e q
 unfold semStarts at e
 split at e
 ·cases e
  unfold RepU at ru
  subst ru
  obtain ⟨v,rfl,rv⟩:=r.one
  unfold RepU at rv
  subst rv
  exact ⟨_,_,rfl,rfl,q _ H α (.refl _ _) A rfl⟩
 ·cases e
noncomputable def Ib:SC:=fun us L=>match us with
 | [.str a]=>if a.length<=640 then (jP a).map fun n=>(.int n,L) else none
 | _=>none
theorem Ab6{K:aA}:Q1 K (fun xs H Q=>∃ a n,xs=[.str a]/\jP a=some n/\a.length<=640/\Q (.int n) H) Ib:=by
 intro H α L us xs z L' Q A r e q
 unfold Ib at e
 split at e
 ·split at e
  ·rename_i hc
   obtain ⟨n,hn,e⟩:=aH.mp e
   cases e
   obtain ⟨x,rfl,rx⟩:=r.one
   unfold RepU at rx
   subst rx
   exact ⟨_,n,rfl,hn,hc,q _ H α (.refl _ _) A rfl⟩
  ·cases e
 ·cases e
theorem Rh{X:Cx}{x:Str}{a:Str}{pos:Pos}(hg:Gl X x)(hm:∃ t,X.mg x=some (.str a t))(hd:(x == ("__debug__" : Str))=false:=by decide):PEF X (.Name x pos) (fC (.str a)):=
 let ⟨t,h⟩:=hm
 X2 (Lg (v:=.str a) hg h ⟨t,rfl⟩ hd) fun _ _=>by unfold RepU;rfl
theorem Lo{X:Cx}{x:Str}{i:Int}{pos:Pos}(hg:Gl X x)(hm:∃ t,X.mg x=some (.int i t))(hd:(x == ("__debug__" : Str))=false:=by decide):PEF X (.Name x pos) (fC (.int i)):=
 let ⟨t,h⟩:=hm
 X2 (Lg (v:=.int i) hg h ⟨t,rfl⟩ hd) fun _ _=>by unfold RepU;rfl
noncomputable def G9(n:Int):Bool:=decide (-100000000000000000000<=n)&&decide (n<=100000000000000000000)
theorem V8{n:Int}(h:G9 n=true):n.natAbs.log2 < 1920:=by
 unfold G9 at h
 simp only[cC,decide_eq_true_eq] at h
 have h1:n.natAbs<=100000000000000000000:=by omega
 by_cases h0:n.natAbs=0
 ·rw[h0];decide
 ·rw[Nat.log2_lt h0]
  refine nA h1 ?_
  have:(100000000000000000000:Nat) < 2 ^ 100:=by decide
  exact aS this (Nat.pow_le_pow_right (by decide) (by decide))
noncomputable def Nj(n:Int):Str:=fU (toString n)
noncomputable def Amo(t:TE):TE:=fun σ H Q=>t σ H fun v H1=>(∃ x,v = .str x/\x.length<=sizeLine/\Q (.str x) H1)\/∃ n,v = .int n/\G9 n=true/\Q (.str (Nj n)) H1
section
variable {X:Cx}
theorem Aiz{e:Expr}{t:TE}{pos:Pos}(h:PE X e t):PE X (.FormattedValue e (-1) none pos) (Amo t):=by
 intro pins s σ H Q I q
 refine FormattedValue_plain (thn (h pins s σ H _ I q) fun v s1 zz=>?_)
 obtain ⟨x,H1,I1,r1,q1⟩:=zz
 rcases q1 with ⟨a,rfl,hl,q⟩ | ⟨n,rfl,hn,q⟩
 ·obtain ⟨t',rfl⟩:=r1
  exact formatField_str (fun t'' tk=>⟨.str a,H1,I1.tok tk,⟨_,rfl⟩,q⟩) hl
 ·obtain ⟨t',rfl⟩:=r1
  exact formatField_int_small (V8 hn) ⟨.str (Nj n),H1,I1.tok _,⟨_,rfl⟩,q⟩
noncomputable def tJ:Str->List TE->L2.St->Hp->VK->Prop
 | out,[],_,H,Q=>out.length<=sizeLine/\Q (.str out) H
 | out,t::r,σ,H,Q=>t σ H fun v H1=>∃ x,v = .str x/\(out++x).length<=sizeLine/\tJ (out++x) r σ H1 Q
inductive PEs(X:Cx):List Expr->List TE->Prop
 | nil:PEs X [] []
 | cons {e:Expr} {t:TE} {es:List Expr} {ts:List TE} (h:PE X e t) (r:PEs X es ts):PEs X (e::es) (t::ts)
theorem Xo{es:List Expr}{ts:List TE}(h:PEs X es ts):∀ (pins:List (Addr×Obj)) (s:aG) (σ:L2.St) (H:Hp) (Q:VK) (out:Str),Inv X pins σ H s ->
  tJ out ts σ H Q->wpAny (model X.prog X.w) X.A (joinParts out (evalEach es X.env)) (EP X pins σ Q) X.xe s:=by
 induction h with
 | nil=>
  intro pins s σ H Q out I q
  obtain ⟨hl,q⟩:=q
  exact joinParts_nil ⟨.str out,H,I.tok _,⟨_,rfl⟩,q⟩ hl
 | @cons e t es ts h r ih=>
  intro pins s σ H Q out I q
  show wpAny _ _ (joinParts out (eval e X.env::evalEach es X.env)) _ _ _
  refine joinParts_cons (thn (h pins s σ H _ I q) fun v s1 zz=>?_)
  obtain ⟨x,H1,I1,r1,y,ey,hl,q1⟩:=zz
  subst ey
  obtain ⟨t',rfl⟩:=r1
  exact ⟨hl,ih pins s1 σ H1 Q (out++y) I1 q1⟩
theorem Yk{v1 v2:Expr}{es:List Expr}{ts:List TE}{pos:Pos}(h:PEs X (v1::v2::es) ts):PE X (.JoinedStr (v1::v2::es) pos) (tJ fT ts):=fun pins s σ H Q I q=>
 JoinedStr_many (Xo h pins s σ H Q fT I q)
end
noncomputable def Tz(f:FE):FE:=fun δ L=>(f δ L).bind fun p=>match p.1 with
 | .str x=>if Cv x.length=true then some (.str x,p.2) else none
 | .int n=>if G9 n=true then some (.str (Nj n),p.2) else none
 | _=>none
theorem Ahz{X:Cx}{e:Expr}{f:FE}{pos:Pos}(h:PEF X e f):PEF X (.FormattedValue e (-1) none pos) (Tz f):=by
 refine PE.imp (Aiz h) ?_
 rintro σ H Q ⟨α,δ,L,A,S,z,L3,e,q⟩
 obtain ⟨⟨u,L1⟩,e1,e⟩:=aB.mp e
 refine ⟨α,δ,L,A,S,u,L1,e1,fun x H1 α1 g1 A1 r1=>?_⟩
 simp only at e
 split at e
 ·split at e
  ·rename_i hc
   cases e
   unfold RepU at r1
   subst r1
   exact .inl ⟨_,rfl,Cr hc,q _ _ _ g1 A1 (by unfold RepU;rfl)⟩
  ·cases e
 ·split at e
  ·rename_i hc
   cases e
   unfold RepU at r1
   subst r1
   exact .inr ⟨_,rfl,hc,q _ _ _ g1 A1 (by unfold RepU;rfl)⟩
  ·cases e
 ·cases e
noncomputable def goJ:Str->List FE->UE->UH->Option (U×UH)
 | out,[],_,L=>some (.str out,L)
 | out,f::r,δ,L=>(f δ L).bind fun p=>match p.1 with
  | .str x=>if Cv (out++x).length=true then goJ (out++x) r δ p.2 else none
  | _=>none
noncomputable def Dg(fs:List FE):FE:=fun δ L=>goJ fT fs δ L
inductive PFs(X:Cx):List Expr->List FE->Prop
 | nil:PFs X [] []
 | cons {e:Expr} {f:FE} {es:List Expr} {fs:List FE} (h:PEF X e f) (r:PFs X es fs):PFs X (e::es) (f::fs)
theorem PFs.pes{X:Cx}{es:List Expr}{fs:List FE}(h:PFs X es fs):PEs X es (fs.map (lE X.K)):=by
 induction h with
 | nil=>exact .nil
 | cons h r ih=>exact .cons h ih
theorem Yz{K:aA}:∀ (fs:List FE) (out:Str) (σ:L2.St) (H:Hp) (Q:VK) (α:List Addr) (δ:UE) (L:UH) (z:U) (L3:UH),Abs K H α L->RepS K H α δ σ->goJ out fs δ L=some (z,L3)->out.length<=sizeLine ->
  (∀ v H' α',Gr H α H' α'->Abs K H' α' L3->RepU K H' α' z v->Q v H')->tJ out (fs.map (lE K)) σ H Q
 | [],out,σ,H,Q,α,δ,L,z,L3,A,S,e,hl,q=>by
  cases e
  exact ⟨hl,q _ H α (.refl _ _) A (by unfold RepU;rfl)⟩
 | f::r,out,σ,H,Q,α,δ,L,z,L3,A,S,e,hl,q=>by
  unfold goJ at e
  obtain ⟨⟨u,L1⟩,e1,e⟩:=aB.mp e
  refine ⟨α,δ,L,A,S,u,L1,e1,fun x H1 α1 g1 A1 r1=>?_⟩
  simp only at e
  split at e
  ·split at e
   ·rename_i x' hc
    unfold RepU at r1
    subst r1
    exact ⟨x',rfl,Cr hc,Yz r (out++x') σ H1 Q α1 δ L1 z L3 A1 (S.mono g1) e (Cr hc) fun v H' α' g A' r'=>q v H' α' (g1.trans g) A' r'⟩
   ·cases e
  ·cases e
theorem Po{X:Cx}{v1 v2:Expr}{es:List Expr}{fs:List FE}{pos:Pos}(h:PFs X (v1::v2::es) fs):PEF X (.JoinedStr (v1::v2::es) pos) (Dg fs):=by
 refine PE.imp (Yk h.pes) ?_
 rintro σ H Q ⟨α,δ,L,A,S,z,L3,e,q⟩
 exact Yz fs fT σ H Q α δ L z L3 A S e (jV _) q
end MR
namespace MR
open PySem PySem.Spec PyProof.Rows L2
noncomputable def Aj0(t:TE):TE:=fun σ H Q=>t σ H fun v H1=>∃ x,v = .str x/\(reprText x).length<=sizeLine/\Q (.str (reprText x)) H1
section
variable {X:Cx}
theorem Aea{e:Expr}{t:TE}{pos:Pos}(h:PE X e t):PE X (.FormattedValue e 114 none pos) (Aj0 t):=by
 intro pins s σ H Q I q
 refine wpAny_FormattedValue_repr (thn (h pins s σ H _ I q) fun v s1 zz=>?_)
 obtain ⟨x,H1,I1,r1,a,ea,hl,q1⟩:=zz
 subst ea
 obtain ⟨t',rfl⟩:=r1
 refine wpAny_pyReprObj_str ?_ hl
 exact formatField_str (fun t'' tk=>⟨.str (reprText a),H1,I1.tok tk,⟨_,rfl⟩,q1⟩) hl
noncomputable def Ph(f:FE):FE:=fun δ L=>(f δ L).bind fun p=>match p.1 with
 | .str x=>if Cv (reprText x).length=true then some (.str (reprText x),p.2) else none
 | _=>none
theorem Adj{e:Expr}{f:FE}{pos:Pos}(h:PEF X e f):PEF X (.FormattedValue e 114 none pos) (Ph f):=by
 refine PE.imp (Aea h) ?_
 rintro σ H Q ⟨α,δ,L,A,S,z,L3,e,q⟩
 obtain ⟨⟨u,L1⟩,e1,e⟩:=aB.mp e
 refine ⟨α,δ,L,A,S,u,L1,e1,fun x H1 α1 g1 A1 r1=>?_⟩
 simp only at e
 split at e
 ·split at e
  ·rename_i hc
   cases e
   unfold RepU at r1
   subst r1
   exact ⟨_,rfl,Cr hc,q _ _ _ g1 A1 (by unfold RepU;rfl)⟩
  ·cases e
 ·cases e
end
theorem Acq(self:aC):oI self "__setattr__" bmV=pure ():=by kernel_rfl
theorem Ro{h:Heap}{l:List aC}(self:aC)(T:OwnTail h bmV l):oI self "__setattr__" l=pure ():=by
 generalize hb:bmV=b at T
 induction T with
 | base=>rw[<- hb];exact Acq self
 | own _ _ _ _ ih=>rw[PySem.refuseLoop_ref];exact ih
noncomputable def Ac2(K:aA)(Cs:List Str)(f:Str):Bool:=Cs.all fun C=>match aK K aI C with
 | some (some (.ref a))=>aQ K (.ref a) f == some none&&aQ K (.ref a) "__setattr__" == some (some (.builtin "object.__setattr__"))
 | _=>false
theorem Vr{K:aA}{Cs:List Str}{f C:Str}{Ca:Addr}(T:Ac2 K Cs f=true)(hC:C∈Cs)(hn:aK K aI C=some (some (.ref Ca))):aQ K (.ref Ca) f=some none/\aQ K (.ref Ca) "__setattr__" = some (some (.builtin "object.__setattr__")):=by
 have h:=bM.mp T C hC
 rw[hn] at h
 simpa only[cC,beq_iff_eq] using h
section
variable {prog:aW}{w:bG}{A:bZ}{E:aC->aG->Prop}{s:aG}{K:aA}{x C:Addr}{name:Str}{v:aC}{vs:Array aC}
theorem Aex{Q:Unit->aG->Prop}(X:K.In s.heap)(T:ExcA K C)(hf:aQ K (.ref C) name=some none)(hs:aQ K (.ref C) "__setattr__" = some (some (.builtin "object.__setattr__")))
  (hx:s.heap.get? x=some ⟨.ref C,none,.fields vs,#[]⟩)
  (h:∀ h',(∀ b o,b≠x->s.heap.get? b=some o->h'.get? b=some o)->h'.get? x=some ⟨.ref C,some s.heap.objs.size,.fields vs,#[]⟩->h'.Ns1 s.heap.objs.size (fun y=>if y=name then some v else none)->Q () { s with heap:=h',toks:=s.toks+2 }) :
  wpAny (model prog w) A (setAttr (.ref x) name v) Q E s:=by
 have I:eT s.heap x ⟨.ref C,none,.fields vs,#[]⟩ C none:=⟨hx,rfl,rfl,trivial⟩
 have SF:=PySem.F.store_object
 obtain ⟨cd,hc,hd⟩:=fS T.hd
 refine nI X I hs ?_
 have hs1:({ s with toks:=s.toks+1 }:aG).heap=s.heap:=rfl
 have sub:PySem.W.Looks (model prog w) s.heap (isInstance (.ref x) (.type "object")) true:=I.type.andThen (PySem.W.looks_mroIn X T.mo)
 refine iL SF.slot.plain SF.entry (@nD (model prog w) _ _ { s with toks:=s.toks+1 } "object.__setattr__" "object" "__setattr__" (.ref x) [.str name s.toks,v] [] _ SF.kind SF.split sub (SF.args (.ref x) (.str name s.toks) v) ?_)
 obtain ⟨nm,qn,N,bs,bm,hdct,sn,sub',ab,col,dd',k0,k1,k2,k3,k5,hC,OT⟩:=Lh X T.ex
 rw[PySem.W.osa_eq,refuse_eq]
 refine aE (aE (dJ (s:={ s with toks:=s.toks+1 }) I.type (aE ?_)))
 refine wpAny_mroOf_exc (g:=s.gens) (d:=s.drawn) (t:=s.toks+1) (os:=s.os) hC ?_
 rw[refuseLoop_ref,Ro _ OT]
 refine aP (aE (dJ (s:={ s with toks:=s.toks+1 }) I.type (aE (dJ (s:={ s with toks:=s.toks+1 }) (fP X hf) ?_))))
 refine aE (aP (a:=none) ?_)
 show wpAny _ _ (gO (.ref x) (.ref C) (.str name s.toks) name v false) _ _ _
 unfold gO jC.ObjectAttr.ownDictForStores instanceDict
 refine aE (aP ?_)
 rw[if_neg (show ¬ ((bH C == kQ "module")=true) from by simp)]
 refine aE ?_
 refine aE (lR hx ?_)
 refine aE (dJ (s:={ s with toks:=s.toks+1 }) (mJ X hc) ?_)
 rw[hd]
 show wpAny _ _ (do
  let d <- alloc { cls:=.type "dict",data:=.dict #[] }
  update x fun o=>{ o with dict:=some d }
  dictMade (.ref C) x d) _ _ _
 refine aE (wpAny_alloc ?_)
 have hx1:(s.heap.push { cls:=.type "dict",data:=.dict #[] }).get? x=some ⟨.ref C,none,.fields vs,#[]⟩:=aD _ hx
 refine aE (wpAny_update hx1 (aP ?_))
 have hne:x≠s.heap.objs.size:=bR (aO hx)
 have e2:((s.heap.push { cls:=.type "dict",data:=.dict #[] }).update x fun o=>{ o with dict:=some s.heap.objs.size }).get? x=some ⟨.ref C,some s.heap.objs.size,.fields vs,#[]⟩:=fM _ hx1 rfl
 have e1:((s.heap.push { cls:=.type "dict",data:=.dict #[] }).update x fun o=>{ o with dict:=some s.heap.objs.size }).get? s.heap.objs.size=some { cls:=.type "dict",data:=.dict #[] }:=(hG _ _ hne).trans (aR s.heap rfl)
 have n0:((s.heap.push { cls:=.type "dict",data:=.dict #[] }).update x fun o=>{ o with dict:=some s.heap.objs.size }).Ns1 s.heap.objs.size (fun _=>none):=nL ⟨_,#[],_,e1,rfl,(fun e he=>absurd he (by simp)),fun _=>rfl⟩
 generalize hh2:((s.heap.push { cls:=.type "dict",data:=.dict #[] }).update x fun o=>{ o with dict:=some s.heap.objs.size })=h2 at *
 show wpAny _ _ (iD s.heap.objs.size (.str name s.toks) name v) _ _ _
 unfold iD
 refine aE (aP (aE ?_))
 refine wpAny_nsSet1 n0 fun h3 n3 sb=>?_
 obtain ⟨oD,esD,epD,hoD,hdD,hcD⟩:=n3.count (nJ (ns:=[]) name v (fun y hy=>absurd rfl hy))
 refine aE (nZ hoD (by rw[hdD];exact oA (cF hcD (by show 1<=sizeLine+1;decide))) ?_)
 refine aP (h h3 (fun b o hb q=>?_) ((sb.2 x hne).trans e2) n3)
 have hb2:b≠s.heap.objs.size:=bR (aO q)
 rw[sb.2 b hb2,<- hh2,hG _ _ (eY hb)]
 exact aD _ q
end
noncomputable def Ak3(K:aA)(to tv:TE)(f:Str):TS:=fun D σ H=>tv σ H fun y H1=>to σ H1 fun x H2=>∃ a Ca fr,x = .ref a/\H2 a=some (.ext (ExcIs a Ca none fr))/\ExcA K Ca/\aQ K (.ref Ca) f=some none /\
 aQ K (.ref Ca) "__setattr__" = some (some (.builtin "object.__setattr__"))/\∀ d od,H2 d=none->d≠a->D.nx σ (upd (upd H2 d (.frz od (.xd [(f,y)]))) a (.ext (ExcIs a Ca (some d) fr)))
section
variable {X:Cx}{o e value:Expr}{f:Str}{p pos pos':Pos}{to tv:TE}
theorem Adx(ho:PE X o to)(hv:PE X value tv)(hs:swapsWith value (some (.Attribute o f pos')) pos.line X.env=pure false:=by rfl):PS X (.Assign [.Attribute o f pos'] value pos) (Ak3 X.K to tv f):=by
 intro pins s σ H D I h
 refine hW (thn (hv pins s σ H _ I h) fun u s1 ⟨y,H1,I1,ry,q⟩=>thn (ho pins s1 σ H1 _ I1 q) fun ov s2 ⟨x,H2,I2,rx,a,Ca,fr,ex,ea,T,hf,hsa,q2⟩=>?_) hs
 subst ex
 obtain rfl:ov=bH a:=rx
 obtain ⟨ob,vs,h1,h2,h3,h4,h5,h6,h7⟩:=(I2.hok a _ ea).1
 obtain ⟨cl,di,da,sl⟩:=ob
 dsimp only at h2 h3 h4 h6
 subst h2 h3 h4 h6
 refine Aex I2.kIn T hf hsa h1 fun h' k hx hn=>?_
 have hfr:H2 s2.heap.objs.size=none:=I2.hok.fresh (aZ _)
 have hne:s2.heap.objs.size≠a:=gT (aO h1)
 obtain ⟨od,es,ep,ho',hrest⟩:=id hn
 have hfd:od.isFreed=false:=(Heap.get?_some_iff.mp ho').2
 have e1:(s2.heap.push od).get? s2.heap.objs.size=some od:=aR s2.heap hfd
 have nx:(s2.heap.push od).Ns1 s2.heap.objs.size (fun z=>if z=f then some u else none):=⟨od,es,ep,e1,hrest⟩
 have rel:∀ g,RelO (cX g [(f,y)]) (if g=f then some u else none):=fun g=>by
  rw[bI]
  by_cases hg:g=f
  ·subst hg;simp;exact ry
  ·have:(g == f)=false:=by simpa using hg
   rw[this,if_neg hg]
   exact fQ
 have J1:=I2.laid (a:=s2.heap.objs.size) (o:=.frz od (.xd [(f,y)])) (h':=s2.heap.push od) (t':=s2.toks) (fun b u q=>aD _ q) (aZ _) ⟨e1,_,nx,rel⟩
 have hxI:ExcIs a Ca (some s2.heap.objs.size) fr h':=⟨_,vs,hx,rfl,rfl,rfl,h5,rfl,h7⟩
 have J2:=J1.write (h':=h') (x:=a) (e:=a) (o:=.ext (ExcIs a Ca (some s2.heap.objs.size) fr)) (t':=s2.toks+2) (by rw[Ap (eY hne),ea];exact fQ) (.inl rfl) (fun b w hb z=>by
  rcases Heap.get?_push_cases z with ⟨hd,ho2⟩ | z2
  ·subst hd;subst ho2;exact ho'
  ·exact k b w hb z2) ⟨_,hx⟩ (My hxI)
 exact ⟨σ,_,J2,q2 _ od hfr hne⟩
end
noncomputable def Wl(Cs:List Str)(f:Str)(fo fv:FE):FS:=fun δ L=>(fv δ L).bind fun p=>(fo δ p.2).bind fun q=>match q.1 with
 | .ref n=>match q.2[n]? with
  | some (.exc C fr [])=>if C∈Cs then some (.nx δ,q.2.set n (.exc C fr [(f,p.1)])) else none
  | _=>none
 | _=>none
section
variable {X:Cx}{o e value:Expr}{f:Str}{p pos pos':Pos}{fo fv fe:FE}{Cs Ds:List Str}
theorem Y1(T:L9 X.K Cs Ds=true)(F:Ac2 X.K Cs f=true)(ho:PEF X o fo)(hv:PEF X value fv)(hs:swapsWith value (some (.Attribute o f pos')) pos.line X.env=pure false:=by rfl) :
  PSF X (.Assign [.Attribute o f pos'] value pos) (Wl Cs f fo fv):=by
 refine PS.imp (Adx ho hv hs) ?_
 rintro D σ H ⟨α,δ,L,A,S,fl,L',ee,q⟩
 obtain ⟨⟨u,L1⟩,e1,ee⟩:=aB.mp ee
 obtain ⟨⟨w,L2⟩,e2,ee⟩:=aB.mp ee
 simp only at ee
 split at ee
 ·rename_i n
  split at ee
  ·rename_i C fr hL
   split at ee
   ·rename_i hC
    cases ee
    refine ⟨α,δ,L,A,S,u,L1,e1,fun y H1 α1 g1 A1 r1=>⟨α1,δ,L1,A1,S.mono g1,_,L2,e2,fun x H2 α2 g2 A2 r2=>?_⟩⟩
    obtain ⟨a,ea,Ca,dd,vs,hns,ha,hd,hk,rr⟩:=A2.addr hL
    obtain ⟨a',ea',rfl⟩:=r2.ref_of A2
    rw[ea] at ea';cases ea'
    have hvs:vs=[]:=by
     cases vs with
     | nil=>rfl
     | cons z zs=>simp at hk
    subst hvs
    have hdn:dd=none:=by
     cases dd with
     | none=>rfl
     | some dx=>exact absurd rfl hd.1
    subst hdn
    obtain ⟨TA,_⟩:=Gs T hC hns
    obtain ⟨F1,F2⟩:=Vr F hC hns
    refine ⟨a,Ca,fr,rfl,ha,TA,F1,F2,fun d od nd hne=>?_⟩
    have ga:Gr H2 α2 (upd H2 d (.frz od (.xd [(f,y)]))) α2:=⟨⟨[],by simp⟩,.new nd _⟩
    have Aa:Abs X.K (upd H2 d (.frz od (.xd [(f,y)]))) α2 L2:=⟨A2.len,A2.inj,fun i b o' e1 e2=>(A2.rep i b o' e1 e2).other ga (.inr fun v z=>by rw[Ap (Au z nd)];exact z)⟩
    have ha':(upd H2 d (.frz od (.xd [(f,y)]))) a=some (.ext (ExcIs a Ca none fr)):=by rw[Ap (eY hne)];exact ha
    have gb:Gr (upd H2 d (.frz od (.xd [(f,y)]))) α2 (upd (upd H2 d (.frz od (.xd [(f,y)]))) a (.ext (ExcIs a Ca (some d) fr))) α2:=⟨⟨[],by simp⟩,.write ha' (by exact trivial) _⟩
    have hdd:DictIs (upd (upd H2 d (.frz od (.xd [(f,y)]))) a (.ext (ExcIs a Ca (some d) fr))) (some d) [(f,y)]:=⟨by simp,od,by rw[Ap hne,upd_same]⟩
    obtain ⟨Ab,_⟩:=Aa.put (o:=.ext (ExcIs a Ca (some d) fr)) (u:=.exc C fr [(f,u)]) ea hL rfl rfl ha' (by exact trivial) ⟨Ca,some d,[(f,y)],hns,upd_same,hdd,rfl,.cons (((r1.mono g2).mono ga).mono gb) .nil⟩
    exact q _ _ α2 ((g1.trans g2).trans (ga.trans gb)) Ab ((((S.mono g1).mono g2).mono ga).mono gb)
   ·cases ee
  ·cases ee
 ·cases ee
inductive FldXR(K:aA)(f:Str)(Q:VK)(x:V)(H1:Hp):Prop
 | mk (a:_) (Ca:_) (dx:_) (fr:_) (vs:_) (od:_) (v:_) (h0:x = .ref a) (h1:H1 a=some (.ext (ExcIs a Ca (some dx) fr))) (h2:H1 dx=some (.frz od (.xd vs))) (h3:ExcA K Ca) (h4:aQ K (.ref Ca) f=some none) (h5:vs.lookup f=some v) (h6:Q v H1):FldXR K f Q x H1
noncomputable def Alq(K:aA)(t:TE)(f:Str):TE:=fun σ H Q=>t σ H (FldXR K f Q)
theorem Ae8{t:TE}(he:PE X e t)(hb:attributeBase e f X.env (eval e X.env)=eval e X.env:=by rfl):PE X (.Attribute e f pos) (Alq X.K t f):=by
 intro pins s σ H Q I h
 refine Wx hb (thn (he pins s σ H _ I h) fun u s1 zz=>?_)
 obtain ⟨x,H1,I1,rx,a,Ca,dx,fr,vs,od,v,ex,ea,ed,T,hf,hl,q⟩:=zz
 subst ex
 obtain rfl:u=bH a:=rx
 obtain ⟨ob,ws,h1,h2,h3,h4,_⟩:=(I1.hok a _ ea).1
 obtain ⟨hod,mA,hn,hr⟩:=I1.hok dx _ ed
 have J:eT s1.heap a ob Ca (some od):=⟨h1,h2,by unfold mG;rw[h4],by rw[h3];exact hod⟩
 obtain ⟨od2,ho2,hlk⟩:=Pq hn
 rw[hod] at ho2
 cases ho2
 have hv:=hr f
 rw[hl] at hv
 cases hm:mA f with
 | none=>rw[hm] at hv;exact hv.elim
 | some v'=>
  rw[hm] at hv
  have hfo:iU X.K Ca (some od) f=some (.value v'):=mI T.hd hf rfl (by rw[hlk,hm])
  unfold getAttr
  refine aE (wpAny_mkText ?_)
  refine Aau (s:={ s1 with toks:=s1.toks+1 }) I1.kIn T J (Aaf (s:={ s1 with toks:=s1.toks+1 }) I1.kIn J hfo ?_)
  exact nU (P0 hv) ⟨v,H1,I1.tok _,hv,q⟩
noncomputable def Sl(Cs:List Str)(f:Str)(fe:FE):FE:=fun δ L=>(fe δ L).bind fun p=>(Oy Cs p.1 p.2).bind fun t=>(t.2.2.lookup f).map fun v=>(v,p.2)
theorem Afg(T:L9 X.K Cs Ds=true)(F:Ac2 X.K Cs f=true)(he:PEF X e fe)(hb:attributeBase e f X.env (eval e X.env)=eval e X.env:=by rfl):PEF X (.Attribute e f pos) (Sl Cs f fe):=by
 refine PE.imp (Ae8 he hb) ?_
 rintro σ H Q ⟨α,δ,L,A,S,z,L3,ee,q⟩
 obtain ⟨⟨u,L1⟩,e1,ee⟩:=aB.mp ee
 obtain ⟨⟨n,C,fs⟩,e2,ee⟩:=aB.mp ee
 obtain ⟨w,e3,ee⟩:=aH.mp ee
 cases ee
 obtain ⟨rfl,hC,fr,hL⟩:=R9 e2
 refine ⟨α,δ,L,A,S,_,_,e1,fun x H1 α1 g1 A1 r1=>?_⟩
 obtain ⟨a,ea,Ca,dd,vs,hns,ha,hd,hk,rr⟩:=A1.addr hL
 obtain ⟨a',ea',rfl⟩:=r1.ref_of A1
 rw[ea] at ea';cases ea'
 obtain ⟨v,hv,rv⟩:=(Fh hk rr).1 _ e3
 cases dd with
 | none=>
  have hd:vs=[]:=hd
  subst hd
  cases hv
 | some dx=>
  obtain ⟨_,od,hdx⟩:=hd
  exact ⟨a,Ca,dx,fr,vs,od,v,rfl,ha,hdx,(Gs T hC hns).1,(Vr F hC hns).1,hv,q v H1 α1 g1 A1 rv⟩
end
end MR
namespace MR
open PySem PySem.Spec PyProof.Rows PySem.Calls L2
section
variable {X:Cx}
noncomputable def Vp:V->List V->Hp->VK->Prop:=fun x vs H Q=>∃ a b,x = .str a/\vs=[.str b]/\a.length<=sizeLine/\Q (.str (fJ a b)) H
theorem X3:MtR X "str.lstrip" Vp:=by
 intro pins s σ H x vs v us Q I rx rv h
 obtain ⟨a,b,rfl,rfl,hl,q⟩:=h
 obtain ⟨t,rfl⟩:=rx
 obtain ⟨u,rfl,ru⟩:=rv.one
 obtain ⟨t',rfl⟩:=ru
 exact SC.lstripChars (fun t' k=>⟨.str (fJ a b),H,I.tok k,⟨_,rfl⟩,q⟩) hl
noncomputable def Ag3:List V->Hp->VK->Prop:=fun xs H Q=>∃ n,xs=[.int n]/\G9 n=true/\Q (.str (Nj n)) H
theorem Xz:CallR X (.type "str") Ag3:=by
 intro pins s σ H xs us Q I r h
 obtain ⟨n,rfl,hn,q⟩:=h
 obtain ⟨u,rfl,ru⟩:=r.one
 obtain ⟨t,rfl⟩:=ru
 exact P.str_of_int (V8 hn) ⟨.str (Nj n),H,I.tok _,⟨_,rfl⟩,q⟩
end
noncomputable def D2:SM:=fun u us L=>match u,us with
 | .str a,[.str b]=>if a.length<=1000000 then some (.str (fJ a b),L) else none
 | _,_=>none
theorem Uv{K:aA}:Vg K Vp D2:=by
 intro H α L u us x xs z L' Q A ru r e q
 unfold D2 at e
 split at e
 ·split at e
  ·rename_i hc
   cases e
   unfold RepU at ru
   subst ru
   obtain ⟨v,rfl,rv⟩:=r.one
   unfold RepU at rv
   subst rv
   exact ⟨_,_,rfl,rfl,by unfold sizeLine;omega,q _ H α (.refl _ _) A (by unfold RepU;rfl)⟩
  ·cases e
 ·cases e
noncomputable def Q9:SC:=fun us L=>match us with
 | [.int n]=>if G9 n=true then some (.str (Nj n),L) else none
 | _=>none
theorem Ac3{K:aA}:Q1 K Ag3 Q9:=by
 intro H α L us xs z L' Q A r e q
 unfold Q9 at e
 split at e
 ·split at e
  ·rename_i hc
   cases e
   obtain ⟨x,rfl,rx⟩:=r.one
   unfold RepU at rx
   subst rx
   exact ⟨_,rfl,hc,q _ H α (.refl _ _) A (by unfold RepU;rfl)⟩
  ·cases e
 ·cases e
theorem Abl(a b:Bool):MeetsSeq.EqGives (.bool a) (.bool b) (a == b):=fun prog w A E s Q hq=>PySem.SeqAt.EqAt.bool_bool a b prog w E Q hq
section
variable {X:Cx}
noncomputable def V2(K:aA):V->List V->Hp->VK->Prop:=fun x vs H Q=>∃ (l:Addr) (bs:List Bool) (k:Bool),x = .ref l/\vs=[.bl k]/\H l=some (.lst (bs.map V.bl))/\Q (.int (bs.count k:Nat)) H
theorem Ky{k:Bool}:∀ {its:List aC} {bs:List Bool},Vals (bs.map V.bl) its->(its.countP fun v=>match v with | .bool a=>a == k | _=>false)=bs.count k
 | its,[],r=>by rw[bW] at r;cases r;rfl
 | its,n::bs,r=>by
  rw[aM] at r
  cases r with
  | cons r1 r2=>
   cases r1
   rw[List.countP_cons,List.count_cons,Ky r2]
theorem Yq:MtM X "list.count" (V2 X.K):=by
 intro pins s σ H x vs v us Q I rx rv h
 obtain ⟨l,bs,k,rfl,rfl,hH,q⟩:=h
 cases rx
 obtain ⟨u,rfl,ru⟩:=rv.one
 cases ru
 obtain ⟨z,its,n,r,hl,e⟩:=I.lstM hH
 refine nE F.slot_list_count ⟨_,e,rfl⟩ F.entry_list_count (F.args_list_count_2 _ _)
  (MeetsSeq.list_count l its.toArray n (.bool k) (fun v=>match v with | .bool a=>a == k | _=>false) (fun y hy=>?_)) ⟨e,?_⟩
 ·have hy':y∈its:=by simpa using hy
  obtain ⟨i,hi2,rfl⟩:=mM hy'
  have hlen:=r.length
  have hx:(bs.map V.bl)[i]? = some (.bl (bs[i]'(by rw[cO] at hlen;omega))):=by
   rw[cY,dD];rfl
  obtain ⟨u',hu',ht'⟩:=r.get hx
  have:its[i]=u':=by
   rw[dD hi2] at hu';cases hu';rfl
  rw[this]
  cases ht'
  exact Abl _ _
 ·have hc:(its.toArray.toList.countP fun v=>match v with | .bool a=>a == k | _=>false)=bs.count k:=by
   have:its.toArray.toList=its:=by simp
   rw[this];exact Ky r
  rw[hc]
  exact ⟨.int (bs.count k:Nat),H,I.tok _,⟨_,rfl⟩,q⟩
end
noncomputable def E9:SM:=fun u us L=>match u,us with
 | .ref n,[.bl k]=>(Ee L n).bind fun l=>(mapO toB l).map fun bs=>(.int (bs.count k:Nat),L)
 | _,_=>none
theorem Vd{K:aA}:Vg K (V2 K) E9:=by
 intro H α L u us x xs z L' Q A ru r e q
 unfold E9 at e
 split at e
 ·obtain ⟨l,hl,e⟩:=aB.mp e
  obtain ⟨bs,hbs,e⟩:=aH.mp e
  cases e
  obtain ⟨v,rfl,rv⟩:=r.one
  unfold RepU at rv
  subst rv
  obtain ⟨a,ys,rfl,ea,h,r2⟩:=V7 A hl ru
  rw[Qe r2 hbs] at h
  exact ⟨a,bs,_,rfl,rfl,h,q _ H α (.refl _ _) A rfl⟩
 ·cases e
end MR
namespace ZT
open PySem PySem.Spec PyProof.Rows PySem.W
open Sem (wp)
section
variable {prog:aW}{w:bG}{A:bZ}{E:aC->aG->Prop}{s:aG}{T:String}{r d:Addr}{n:Nat}{P:Nat->aC->Prop}{OK:Heap->Prop}
theorem Ry{Q:List aC->aG->Prop}(K:KdlSrc prog w T r d n P OK)(hh:A.handled=none)(hok:OK s.heap)
  (hQ:∀ (h':Heap) (tk:Nat) (acc:Array aC),(∀ b o,s.heap.get? b=some o->h'.get? b=some o)->ItemsOf P acc n->Q acc.toList { s with heap:=h',toks:=tk }) (hn:n<=sizeLine):wpAny (model prog w) A (collect (.ref r)) Q E s:=by
 have hlt:=K.there _ hok
 unfold collect
 refine aE (wpAny_runValue (lJ PySem.F.entry_proto_collect ?_))
 rw[iM PySem.F.plain_proto_collect _]
 show wpAny _ A.in1 (newList [] >>= fun l=>again (.builtin "list.__iadd__" ⟨[l,.ref r],[]⟩)) _ _ s
 refine aE (cQ ?_)
 refine aP ⟨plainId_quiet kL _,lJ PySem.F.entry_list_iadd ?_⟩
 rw[iM kL _]
 have hS₁:(s.heap.push { cls:=.type "list",data:=.seq ([]:List aC).toArray }).get? s.heap.objs.size=some { cls:=.type "list",data:=.seq ([]:List aC).toArray }:=aR _ rfl
 show wpAny _ A.in1 (jC.List.listExtendWith (.ref s.heap.objs.size) (.ref r) (.ref s.heap.objs.size)) _ _ _
 refine kdl_extend (R:=wants _ E) (s:={ s with heap:=s.heap.push { cls:=.type "list",data:=.seq ([]:List aC).toArray } }) K hh (K.keep _ _ hok fun b _ o e=>aD _ e) s.heap.objs.size (gT hlt.1) (gT hlt.2) _ _ hS₁ (fun h' tk acc' c' hk hS' hacc=>?_) hn
 show wpAny _ A (load s.heap.objs.size >>= _) _ _ _
 refine aE (wpAny_load hS' ?_)
 exact aP (hQ h' tk acc' (fun b o e=>hk b o (bR (aO e)) (aD _ e)) hacc)
theorem Nn{Q₁:aC->aG->Prop}(K:KdlSrc prog w T r d n P OK)(hh:A.handled=none)(hok:OK s.heap)
  (h:∀ (h':Heap) (tk:Nat) (acc:Array aC),(∀ b o,s.heap.get? b=some o->h'.get? b=some o)->ItemsOf P acc n->Q₁ (.ref h'.objs.size) { s with heap:=h'.push { cls:=.type "tuple",data:=.seq acc },toks:=tk }) (hsz:n<=sizeLine) :
  iF (model prog w) A (.call (.builtin "tuple.__new__") ⟨[.type "tuple",.ref r],[]⟩) (wants Q₁ E) s:=by
 refine codeAny_of_tree ?_
 show wpAny _ A.in1 (do checkBuiltinCall "tuple.__new__" ⟨[.type "tuple",.ref r],[]⟩;again (.builtin "tuple.__new__" ⟨[.type "tuple",.ref r],[]⟩)) _ _ s
 refine aE (wpAny_of_eq (PySem.F.newCall_tuple_1 _) (aP ⟨plainId_quiet kM _,lJ PySem.F.entry_tuple_new ?_⟩))
 rw[iM kM _]
 have hsub:=sub_tuple_self
 have hinit:=init_tuple_lookup
 have hmh:=madeHere_tuple
 have hTI:=K.type s hok
 have hnt:=K.notTuple
 wp_walk using wpAny_typeOf hTI,Ry (A:=A.in1) (hn:=hsz) K hh hok
 intro h' tk acc hm hacc
 show wpAny _ _ (dC acc.toList.toArray >>= fun v=>ret v) _ _ _
 unfold dC
 refine aE (cQ ?_ (by show acc.toList.toArray.size<=sizeLine;simp only[Array.toArray_toList];rw[hacc.1];exact hsz))
 refine aP ?_
 have e:acc.toList.toArray=acc:=by simp
 rw[e]
 exact h h' tk acc hm hacc
theorem Lz{Q:aC->aG->Prop}(K:KdlSrc prog w T r d n P OK)(hh:A.handled=none)(hok:OK s.heap)
  (hQ:∀ (h':Heap) (tk:Nat) (acc:Array aC),(∀ b o,s.heap.get? b=some o->h'.get? b=some o)->ItemsOf P acc n->Q (.ref h'.objs.size) { s with heap:=h'.push { cls:=.type "tuple",data:=.seq acc },toks:=tk }) (hsz:n<=sizeLine) :
  wpAny (model prog w) A (call (.type "tuple") [.ref r]) Q E s:=by
 refine callType_codes (Q₁:=fun obj s₁=>s₁.TypeIs obj "tuple" /\ Q obj s₁) PySem.F.called_tuple (PySem.F.typeCall_tuple_1 _) PySem.F.entry_object_init
  (Nn (hsz:=hsz) K hh hok fun h' tk acc hm hacc=>⟨⟨_,aR _ rfl,rfl⟩,hQ h' tk acc hm hacc⟩) fun obj s₁ h₁=>?_
 exact ⟨h₁.1,PySem.F.args_object_init_2 obj _,object_init_meets PySem.F.called_tuple.init.lookup PySem.F.called_tuple.made (by decide) prog w A.in1 _ s₁ ⟨h₁.1,rfl,h₁.2⟩⟩
end
end ZT
namespace MR
open PySem PySem.Spec PyProof.Rows PySem.Calls L2
theorem W4:∀ {kvs:List (Key×V)} {vs:List (Key×aC)},KV kvs vs->Vals (kvs.map (·.2)) (vs.map (·.2))
 | _,_,.nil=>.nil
 | _,_,.cons r t=>.cons r.2 (W4 t)
theorem Uk{vs:List (Key×aC)}{acc:Array aC}(h:ItemsOf (fun i v=>∃ k,vs[i]? = some (k,v)) acc vs.length):acc.toList=vs.map (·.2):=
 PySem.W.kdl_vals_eq acc.toList (by rw[fX];exact h.1) fun j v e=>h.2 j v (by rw[<- Array.getElem?_toList];exact e)
section
variable {X:Cx}{o:Expr}{apos cpos p pos:Pos}{td:TE}{fo:FE}
noncomputable def Ai1(td:TE):TE:=fun σ H Q=>td σ H fun x H1=>∃ a kvs,x = .ref a/\H1 a=some (.dK kvs)/\∀ l,H1 l=none->Q (.ref l) (upd H1 l (.tup (kvs.map (·.2))))
theorem Adh(hc:X.calm=true)(hgL:Gl X "tuple")(hmL:X.mg "tuple" = none)(hl:PE X o td)(m:M0 X o "values" apos cpos)
  (hs2:aL [.Call (.Attribute o "values" apos) [] [] cpos] X.env=[(false,eval (.Call (.Attribute o "values" apos) [] [] cpos) X.env)]:=by rfl):PE X (.Call (.Name "tuple" p) [.Call (.Attribute o "values" apos) [] [] cpos] [] pos) (Ai1 td):=by
 intro pins s σ H Q I h
 refine eE (J6 I hgL hmL Ru ?_)
 refine dY ?_ hs2 rfl
 rw[hs2]
 refine jI ?_
 refine nV m.base m.few m.line kN kE PySem.F.type_dict_values (thn (hl pins s σ H _ I h) fun u s1 zz=>zz.elim fun x H1 I1 rx zq=>?_)
 obtain ⟨a,kvs,ex,ea,q⟩:=zq
 subst ex
 obtain rfl:u=bH a:=rx
 obtain ⟨t1,t2,_⟩:=Ain I1 (.inl ⟨kvs,.inl ea⟩)
 refine ⟨t1,t2,?_⟩
 rw[m.trees]
 obtain ⟨hd,ob,vs,ep,ho,D⟩:=Ad4 I1 ea
 have da:=D.at_ _ _ ho
 refine fA rfl (PySem.evalArgs_none ?_)
 refine call_meetsIn kE t1 PySem.F.entry_dict_values (PySem.F.args_dict_values_1 _) (meets_dict_values (Bg X.prog X.w) a hd) ⟨⟨vs,da.dictOf⟩,?_⟩
 refine jW ?_
 have I2:L2.Inv X pins σ H1 { s1 with heap:=s1.heap.push { cls:=.type "dict_values",data:=.fields #[.ref a] } }:=I1.kept (t':=s1.toks) fun b o e=>aD _ e
 have hz:kvs.length<=sizeLine:=(Acj I1.hok ea).1
 have hl:=KV.length D.rel
 refine ZT.Lz (PySem.W.kdl_values (knd:=Bg X.prog X.w) (kvs:=vs) (ep:=ep)) (I2.ok.hd hc) ⟨⟨_,aR _ rfl,rfl,rfl⟩,da.push _⟩ (fun h' tk acc hk hacc=>?_) (by rw[<- hl];exact hz)
 have hacc':=Uk hacc
 have hacc2:acc=(vs.map (·.2)).toArray:=by rw[<- hacc']
 have I3:L2.Inv X pins σ H1 { s1 with heap:=h',toks:=tk }:=I2.kept (t':=tk) hk
 have I4:L2.Inv X pins σ (upd H1 h'.objs.size (.tup (kvs.map (·.2)))) { s1 with heap:=h'.push { cls:=.type "tuple",data:=.seq acc },toks:=tk }:=
  I3.laid (t':=tk) (fun b o e=>aD _ e) (aZ _) (show ObjOk X.prog X.w _ _ _ (.tup (kvs.map (·.2))) from ⟨by rw[cO];exact hz,vs.map (·.2),W4 D.rel,by rw[hacc2];exact TupN.new _ _⟩)
 exact ⟨.ref h'.objs.size,_,I4,rfl,q _ (I3.hok.fresh (aZ _))⟩
noncomputable def T7(f:FE):FE:=fun δ L=>(f δ L).bind fun p=>match p.1 with
 | .ref n=>(Ic p.2 n).map fun kvs=>(.tup (Abq kvs),p.2)
 | _=>none
theorem Ace(hc:X.calm=true)(hgL:Gl X "tuple")(hmL:X.mg "tuple" = none)(hl:PEF X o fo)(m:M0 X o "values" apos cpos)
  (hs2:aL [.Call (.Attribute o "values" apos) [] [] cpos] X.env=[(false,eval (.Call (.Attribute o "values" apos) [] [] cpos) X.env)]:=by rfl):PEF X (.Call (.Name "tuple" p) [.Call (.Attribute o "values" apos) [] [] cpos] [] pos) (T7 fo):=by
 refine PE.imp (Adh hc hgL hmL hl m hs2) ?_
 rintro σ H Q ⟨α,δ,L,A,S,u,L3,e,q⟩
 obtain ⟨⟨u,L1⟩,e1,e⟩:=aB.mp e
 simp only at e
 split at e
 ·obtain ⟨kvs,hd,e⟩:=aH.mp e
  cases e
  refine ⟨α,δ,L,A,S,_,_,e1,fun x H1 α1 g1 A1 r1=>?_⟩
  obtain ⟨a,vs,rfl,ea,ha,rk⟩:=Qy A1 hd r1
  refine ⟨a,vs,rfl,ha,fun l hl=>?_⟩
  obtain ⟨g',A',r'⟩:=A1.tup rk.2 hl
  exact q _ _ _ (g1.trans g') A' r'
 ·cases e
end
end MR
namespace MR
open PySem PySem.Spec PyProof.Rows L2
section
variable {X:Cx}{o i e f:Expr}{pos apos cpos:Pos}{fo fi fe fx:FE}
end
end MR
namespace MR
open PySem PySem.Spec PyProof.Rows PySem.Calls L2
section
variable {X:Cx}
end
noncomputable def Aib(P:kB)(e:Str×Nat×Addr):oC:=⟨pK P e.1,.str e.1 e.2.1,.ref e.2.2⟩
noncomputable def Aap(P:kB)(l:List (Str×Nat×Addr))(ep:Nat):Obj:=⟨.type "dict",none,.dict (l.map (Aib P)).toArray ep,#[]⟩
noncomputable def Ah3(ws:List (Str×Nat)):Obj:=⟨.type "tuple",none,.seq (ws.map fun w=>kF w.1 w.2).toArray 0,#[]⟩
inductive Fm(K:aA):List (Str×Nat×Addr)->List (Str×List Str)->Prop
 | nil:Fm K [] []
 | cons {x:Str} {n:Nat} {r:Addr} {ws:List (Str×Nat)} {l:List (Str×Nat×Addr)} {t:List (Str×List Str)} (h:K.lookup r=some (Ah3 ws)) (hl:ws.length<=1000) (k:Fm K l t):Fm K ((x,n,r)::l) ((x,ws.map (·.1))::t)
inductive FormsAt(K:aA)(w:bG)(mg:Str->Option aC)(x:Str)(tbl:List (Str×List Str)):Prop
 | mk (a:Addr) (l:List (Str×Nat×Addr)) (ep:Nat) (hm:mg x=some (.ref a)) (hK:K.lookup a=some (Aap w.params l ep)) (hs:(a == sysModules)=false) (hn:(tbl.map (·.1)).Nodup) (hf:Fm K l tbl):FormsAt K w mg x tbl
theorem Fm.keys{K:aA}{l:List (Str×Nat×Addr)}{t:List (Str×List Str)}(h:Fm K l t):l.map (·.1)=t.map (·.1):=by
 induction h with
 | nil=>rfl
 | cons _ _ _ ih=>simp[ih]
theorem Fm.find{K:aA}{l:List (Str×Nat×Addr)}{t:List (Str×List Str)}(h:Fm K l t)(s:Str) :
  (t.lookup s=none/\valueAt (l.map fun e=>((dW e.1:Key),bH e.2.2)) (.inr s)=none) \/
  ∃ (r:Addr) (ws:List (Str×Nat)),t.lookup s=some (ws.map (·.1))/\valueAt (l.map fun e=>((dW e.1:Key),bH e.2.2)) (.inr s)=some (.ref r)/\K.lookup r=some (Ah3 ws)/\ws.length<=1000:=by
 induction h with
 | nil=>exact .inl ⟨rfl,rfl⟩
 | @cons x n r ws l t h hl _ ih=>
  by_cases e:x=s
  ·subst e
   refine .inr ⟨r,ws,by simp[cX],?_,h,hl⟩
   simp[valueAt]
  ·have e1:(s == x)=false:=beq_false_of_ne (eY e)
   have e2:¬ ((dW x:Key) = .inr s):=fun q=>e (by injection q)
   have hv:valueAt (((x,n,r)::l).map fun e=>((dW e.1:Key),bH e.2.2)) (.inr s)=valueAt (l.map fun e=>((dW e.1:Key),bH e.2.2)) (.inr s):=by
    simp[valueAt,e2]
   rw[hv]
   simp only[cX,e1]
   exact ih
theorem W0{P:aW}{w:bG}{h:Heap}{a:Addr}{l:List (Str×Nat×Addr)}{ep:Nat}(ho:h.get? a=some (Aap w.params l ep))(hn:(l.map (·.1)).Nodup):h.DictOf (Bg P w) a (l.map fun e=>((dW e.1:Key),bH e.2.2)):=by
 refine ⟨_,_,ep,ho,⟨rfl,rfl,rfl⟩,rfl,?_,?_,?_⟩
 ·intro e he
  have:e∈l.map (Aib w.params):=by simpa using he
  obtain ⟨q,_,rfl⟩:=pX.mp this
  exact ⟨.inr q.1,Gg P w q.1 q.2.1,rfl⟩
 ·show Pairs (Bg P w) (l.map (Aib w.params)) _
  clear ho hn
  induction l with
  | nil=>exact .nil
  | cons q l ih=>exact .cons (Gg P w q.1 q.2.1) rfl ih
 ·rw[fF]
  have:(l.map (·.1)).map (dW:Str->Key)=l.map ((fun x=>x.fst)∘fun e=>((dW e.1:Key),bH e.2.2)):=by rw[fF];rfl
  rw[<- this]
  exact List.Pairwise.map _ (fun a b h q=>h (by injection q)) hn
section
variable {X:Cx}{e:Expr}{x:Str}{p apos cpos:Pos}{ty:TE}{tbl:List (Str×List Str)}
noncomputable def Ai8(K:aA)(tbl:List (Str×List Str))(ty:TE):TE:=fun σ H Q=>ty σ H fun y H2=>∃ s,y = .str s/\(tbl.lookup s=none->Q .non H2)/\∀ (r:Addr) (ws:List (Str×Nat)),tbl.lookup s=some (ws.map (·.1))->K.lookup r=some (Ah3 ws)->ws.length<=1000->Q (.ref r) H2
theorem Aae(F:FormsAt X.K X.w X.mg x tbl)(hg:Gl X x)(he:PE X e ty)(m:M1 X (.Name x p) "get" apos e cpos)(hd:(x == ("__debug__" : Str))=false:=by decide):PE X (.Call (.Attribute (.Name x p) "get" apos) [e] [] cpos) (Ai8 X.K tbl ty):=by
 intro pins s σ H Q I h
 obtain ⟨a,l,ep,hm,hK,hs,hn,hf⟩:=F
 rw[<- hf.keys] at hn
 have hat:∀ {s1:aG} {H1:Hp},Inv X pins σ H1 s1->s1.heap.get? a=some (Aap X.w.params l ep):=fun I1=>I1.kIn _ _ hK
 refine nV m.base m.few m.line kN lM PySem.F.type_dict_get (G3 I hg hm ?_ hd)
 have dd:=W0 (P:=X.prog) (hat I) hn
 refine ⟨dd.typeIs,fun b q=>?_,?_⟩
 ·cases q
  exact ⟨_,hat I,rfl⟩
 rw[m.trees]
 refine fA rfl (iI (jI (thn (he pins s σ H _ I h) fun iv s2 zz=>zz.elim fun y H2 I2 ry zq=>jW ?_)))
 obtain ⟨sx,rfl,q1,q2⟩:=zq
 have d2:=W0 (P:=X.prog) (hat I2) hn
 refine call_meetsIn lM d2.typeIs PySem.F.entry_dict_get (PySem.F.args_dict_get_2 _ _) (meets_dict_get (Bg X.prog X.w) a (W5 (k:=.inr sx) ry) hs) ⟨_,d2.mapOf,?_⟩
 rcases hf.find sx with ⟨f1,f2⟩ | ⟨r,ws,f1,f2,f3,f4⟩
 ·exact ⟨.non,H2,I2.tok _,by rw[f2];rfl,q1 f1⟩
 ·exact ⟨.ref r,H2,I2.tok _,by rw[f2];rfl,q2 r ws f1 f3 f4⟩
end
noncomputable def Qs(tbl:List (Str×List Str))(fe:FE):FE:=fun δ L=>(fe δ L).bind fun q=>match q.1 with
 | .str s=>some (match tbl.lookup s with | some ws=>.tup (ws.map U.str) | none=>.non,q.2)
 | _=>none
theorem Oz:∀ ws:List (Str×Nat),Vals ((ws.map (·.1)).map V.str) (ws.map fun w=>kF w.1 w.2)
 | []=>.nil
 | w::ws=>.cons ⟨_,rfl⟩ (Oz ws)
theorem Acl{X:Cx}{e:Expr}{x:Str}{p apos cpos:Pos}{fe:FE}{tbl:List (Str×List Str)}(F:FormsAt X.K X.w X.mg x tbl)(hg:Gl X x)(he:PEF X e fe)(m:M1 X (.Name x p) "get" apos e cpos)(hd:(x == ("__debug__" : Str))=false:=by decide):PEF X (.Call (.Attribute (.Name x p) "get" apos) [e] [] cpos) (Qs tbl fe):=by
 refine PE.imp (Aae F hg he m hd) ?_
 rintro σ H Q ⟨α,δ,L,A,S,z,L3,ee,q⟩
 obtain ⟨⟨u,L1⟩,e1,ee⟩:=aB.mp ee
 refine ⟨α,δ,L,A,S,u,L1,e1,fun y H1 α1 g1 A1 r1=>?_⟩
 simp only at ee
 split at ee
 ·rename_i s
  cases ee
  unfold RepU at r1
  subst r1
  refine ⟨s,rfl,fun h0=>?_,fun r ws h1 h2 h3=>?_⟩
  ·exact q _ _ _ g1 A1 (by rw[h0];unfold RepU;rfl)
  ·refine q _ _ _ g1 A1 ?_
   rw[h1]
   unfold RepU
   exact ⟨r,(ws.map (·.1)).map V.str,rfl,.inr ⟨_,_,0,h2,rfl,rfl,by simp;unfold sizeLine;omega,by simpa using Oz ws⟩,Lq _⟩
 ·cases ee
end MR
namespace ZT
open PySem PySem.Spec PyProof.Rows
open Sem (wp)
theorem Aid (l1 l2 : Addr) (xs ys : Array aC) : Meets (jC.«zip.__new__» ⟨[.type "zip", .ref l1, .ref l2], []⟩) (fun _ R s => s.heap.IsList l1 xs /\ s.heap.IsTuple l2 ys /\
   R (.ok (.ret (.ref (zh4 "list_iterator" "tuple_iterator" s.heap l1 l2).objs.size))) { s with heap:=zh5 "list_iterator" "tuple_iterator" s.heap l1 l2 }):=
 .of_wp fun prog w A R s h=>by
  obtain ⟨hp,g,d,tk,os⟩:=s
  obtain ⟨t1,t2,h⟩:=h
  have hsub:=sub_zip
  have T1:Heap.IsList (mB ⟨hp,g,d,tk,os⟩) l1 xs:=t1
  have T2:nR (mB ⟨hp.push { cls:=.type "list_iterator",data:=.fields #[.ref l1,.int 0 0] },g,d,tk,os⟩) l2 ys:=nS t2 _
  wp_walk using jU T1,gI T2
  exact ⟨_,rfl,h⟩
section
variable {prog:aW}{w:bG}{A:bZ}{E:aC->aG->Prop}{s:aG}
theorem Afy{l1 l2:Addr}{xs ys:Array aC}{Q:aC->aG->Prop}(t1:s.heap.IsList l1 xs)(t2:s.heap.IsTuple l2 ys)
  (h:∀ h',iY h' (s.heap.objs.size+4) (s.heap.objs.size+2) (s.heap.objs.size+3) .none->eA h' (s.heap.objs.size+2) (.ref s.heap.objs.size) (.ref (s.heap.objs.size+1)) ->
   eA h' (s.heap.objs.size+3) .none .none->ItK true h' s.heap.objs.size l1 0->ItK false h' (s.heap.objs.size+1) l2 0->(∀ c o,s.heap.get? c=some o->h'.get? c=some o)->Q (.ref (s.heap.objs.size+4)) { s with heap:=h' }) :
  wpAny (model prog w) A (call (.type "zip") [.ref l1,.ref l2]) Q E s:=by
 refine callType_new F.called_zip (by decide) (oG _ _) (oP _ _) (fun obj=>mC obj _ _) oQ (Aid l1 l2 xs ys) ⟨t1,t2,?_⟩
 have z1:(zh1 "list_iterator" s.heap l1).objs.size=s.heap.objs.size+1:=cP ..
 have z2:(zh2 "list_iterator" "tuple_iterator" s.heap l1 l2).objs.size=s.heap.objs.size+2:=by rw[cP,z1]
 have z3:(zh3 "list_iterator" "tuple_iterator" s.heap l1 l2).objs.size=s.heap.objs.size+3:=by rw[cP,z2]
 have z4:(zh4 "list_iterator" "tuple_iterator" s.heap l1 l2).objs.size=s.heap.objs.size+4:=by rw[cP,z3]
 have q5:(zh5 "list_iterator" "tuple_iterator" s.heap l1 l2).get? (zh4 "list_iterator" "tuple_iterator" s.heap l1 l2).objs.size=some _:=aR _ rfl
 have q4:(zh5 "list_iterator" "tuple_iterator" s.heap l1 l2).get? (zh3 "list_iterator" "tuple_iterator" s.heap l1 l2).objs.size=some _:=aD _ (aR _ rfl)
 have q3:(zh5 "list_iterator" "tuple_iterator" s.heap l1 l2).get? (zh2 "list_iterator" "tuple_iterator" s.heap l1 l2).objs.size=some _:=aD _ (aD _ (aR _ rfl))
 have q2:(zh5 "list_iterator" "tuple_iterator" s.heap l1 l2).get? (zh1 "list_iterator" s.heap l1).objs.size=some _:=aD _ (aD _ (aD _ (aR _ rfl)))
 have q1:(zh5 "list_iterator" "tuple_iterator" s.heap l1 l2).get? s.heap.objs.size=some _:=aD _ (aD _ (aD _ (aD _ (aR _ rfl))))
 show _/\_
 rw[z2,z3,z4] at q5;rw[z1,z2] at q3;rw[z3] at q4
 rw[z1] at q2;rw[z4]
 exact ⟨⟨_,q5,rfl⟩,h _ q5 q3 q4 ⟨_,q1,rfl,rfl⟩ ⟨_,q2,rfl,rfl⟩ fun c o q=>aD _ (aD _ (aD _ (aD _ (aD _ q))))⟩
end
end ZT
namespace MR
open PySem PySem.Spec PyProof.Rows L2
section
variable {X:Cx}{elts:List Expr}{x1:Nat}{tpos:Pos}
noncomputable def Ak9(K:aA)(ta:TA):TI:=fun σ H R=>ta σ H fun vs H1=>∃ a b xs ys,vs=[.ref a,.ref b]/\SqL K H1 a xs/\SqT K H1 b ys/\R (Ack true false K a b) H1
theorem Aga{a b:Expr}{ta:TA}{p pos:Pos}(hg:Gl X "zip")(hm:X.mg "zip" = none)(ha:PA X [a,b] ta)(hs:aL [a,b] X.env=(false,eval a X.env)::aL [b] X.env:=by rfl)(hpl:(backTo pos (aL [b] X.env)).any (·.1)=false:=by rfl):PI X (.Tuple elts x1 tpos) (.Call (.Name "zip" p) [a,b] [] pos) (Ak9 X.K ta):=by
 intro pins s σ H R I h
 refine Call_ (J6 I hg hm Tb (dY (thn (ha pos pins s σ H _ I h) fun us s1 ⟨vs,H1,I1,r1,q1⟩=>?_) hs hpl))
 obtain ⟨l1,l2,xs,ys,rfl,sq1,sq2,q⟩:=q1
 obtain ⟨u,u',rfl,ru,ru'⟩:=Agh r1
 cases ru;cases ru'
 obtain ⟨its1,hv1,pl1,hz1⟩:=I1.list sq1
 obtain ⟨its2,hv2,pl2,hz2⟩:=I1.tuple sq2
 have lt1:l1 < s1.heap.objs.size:=by obtain ⟨o,_,e,_⟩:=pl1;exact aO e
 have lt2:l2 < s1.heap.objs.size:=by obtain ⟨o,e,_⟩:=pl2;exact aO e
 refine ZT.Afy pl1.isList pl2 fun h' o1 o2 o3 o4 o5 o7=>?_
 have I2:L2.Inv X pins σ H1 { s1 with heap:=h' }:=I1.kept (t':=s1.toks) o7
 refine kJ o1 ⟨_,_,_,_,H1,rfl,I2,Pt (b1:=true) (b2:=false) l1 l2 _ _ _ _ _ (Pu _ _ _ lt1 lt2),⟨o1,o2,⟨_,_,o3⟩,o4,o5⟩,fun b hb=>?_,q⟩
 have hb':s1.heap.objs.size<=b:=by
  simp only[bV,eD,or_false] at hb
  rcases hb with rfl | rfl | rfl | rfl | rfl <;> first | exact oH _ _ | exact aZ _
 exact L2.Inv.fpOk I1 hb' (I1.hok.fresh hb')
theorem Aav{K:aA}{H:Hp}{α:List Addr}{n:Nat}{a b:Addr}{ws:List U}{ys:List V}(ea:α[n]? = some a)(sb:SqT K H b ys)(rb:RepL K H α ws ys):Pe K (Ack true false K a b) (.zipL n ws) H α:=by
 intro H2 α2 L2 g A2 k
 have ea2:=g.at ea
 have mv:∃ zs2,SqT K H2 b zs2/\RepL K H2 α2 ws zs2:=by
  have m:=(show RepU K H α (.tup ws) (.ref b) by unfold RepU;exact ⟨b,ys,rfl,sb,rb⟩).mono g
  unfold RepU at m
  obtain ⟨c',zs2,e,s2,r2⟩:=m
  cases e
  exact ⟨zs2,s2,r2⟩
 obtain ⟨ys2,sb2,rb2⟩:=mv
 refine ⟨fun u eu=>?_,fun eu=>?_⟩
 ·obtain ⟨us,hw,eu⟩:=aH.mp eu
  obtain ⟨xs2,sa2,ra2⟩:=M5 A2 ea2 hw
  cases h1:us[k]? with
  | none=>rw[h1] at eu;simp[Fw] at eu
  | some u1=>
   cases h2:ws[k]? with
   | none=>rw[h1,h2] at eu;simp[Fw] at eu
   | some u2=>
    rw[h1,h2] at eu
    simp[Fw] at eu
    subst eu
    obtain ⟨x,hx,rx⟩:=ra2.get h1
    obtain ⟨y,hy,ry⟩:=rb2.get h2
    refine ⟨⟨xs2,ys2,x,y,sa2,sb2,hx,hy⟩,?_⟩
    rintro z H3 ⟨p,v,v',hp,rfl,rfl,hy1,hy2⟩
    have e1:=hy1 xs2 sa2
    have e2:=hy2 ys2 sb2
    rw[hx] at e1;cases e1
    rw[hy] at e2;cases e2
    exact A2.tup (.cons rx (.cons ry .nil)) hp
 ·obtain ⟨us,hw,eu⟩:=aH.mp eu
  obtain ⟨xs2,sa2,ra2⟩:=M5 A2 ea2 hw
  refine ⟨xs2,ys2,sa2,sb2,?_⟩
  cases h1:us[k]? with
  | none=>left;rw[<- ra2.length];exact bO.mp h1
  | some u1=>
   cases h2:ws[k]? with
   | none=>right;rw[<- rb2.length];exact bO.mp h2
   | some u2=>rw[h1,h2] at eu;simp[Fw] at eu
noncomputable def Wu(g:FA):FI:=fun δ L=>(g δ L).bind fun p=>match p.1 with
 | [.tup us,.tup ws]=>some (.seq (Fo us ws),p.2)
 | [.ref n,.tup ws]=>(Al p.2 n).map fun _=>(.zipL n ws,p.2)
 | _=>none
theorem Abj{a b:Expr}{g:FA}{p pos:Pos}(hg:Gl X "zip")(hm:X.mg "zip" = none)(ha:PAF X [a,b] g)(hs:aL [a,b] X.env=(false,eval a X.env)::aL [b] X.env:=by rfl)(hpl:(backTo pos (aL [b] X.env)).any (·.1)=false:=by rfl):PIF X (.Tuple elts x1 tpos) (.Call (.Name "zip" p) [a,b] [] pos) (Wu g):=by
 refine PI.imp (PI.or (W2 hg hm ha hs hpl) (Aga hg hm ha hs hpl)) ?_
 rintro σ H R ⟨α,δ,L,A,S,i,L3,e,q⟩
 obtain ⟨⟨us,L1⟩,e1,ee⟩:=aB.mp e
 simp only at ee
 split at ee
 ·cases ee
  refine .inl ⟨α,δ,L,A,S,_,_,e1,fun xs H1 α1 g1 A1 r1=>?_⟩
  obtain ⟨x,y,rfl,rx,ry⟩:=r1.two
  unfold RepU at rx ry
  obtain ⟨a',ys,rfl,sq,r2⟩:=rx
  obtain ⟨b',ys',rfl,sq',r2'⟩:=ry
  exact ⟨a',b',ys,ys',rfl,sq,sq',q _ H1 α1 g1 A1 (Rn sq sq' r2 r2')⟩
 ·obtain ⟨l,hl,e3⟩:=aH.mp ee
  cases e3
  refine .inr ⟨α,δ,L,A,S,_,_,e1,fun xs H1 α1 g1 A1 r1=>?_⟩
  obtain ⟨x,y,rfl,rx,ry⟩:=r1.two
  unfold RepU at ry
  obtain ⟨b',ys',rfl,sq',r2'⟩:=ry
  obtain ⟨a',ys,rfl,sq,r2⟩:=Lj A1 hl rx
  obtain ⟨a2,ea,ha2⟩:=rx.ref_of A1
  cases ha2
  exact ⟨a',b',ys,ys',rfl,sq,sq',q _ H1 α1 g1 A1 (Aav ea sq' r2')⟩
 ·cases ee
end
end MR
namespace MR
open PySem PyProof.Rows L2
noncomputable def Hb{β:Type}(d:β)(π:List Nat)(l:List β):List β:=π.map fun i=>l.getD i d
noncomputable def gP(m n:Nat)(π:List Nat)(us ws:List aC):List aC:=if us.length=m/\ws.length=n then us++Hb .none π ws else []
noncomputable def gVP(m n:Nat)(π:List Nat)(vs zs:List V):List V:=if vs.length=m/\zs.length=n then vs++Hb .non π zs else []
theorem Pn{zs:List V}{ws:List aC}(r:Vals zs ws):∀ π:List Nat,Vals (Hb .non π zs) (Hb .none π ws)
 | []=>.nil
 | i :: π=>by
  refine .cons ?_ (Pn r π)
  show RelV (zs.getD i .non) (ws.getD i .none)
  rw[eL,eL]
  cases h:zs[i]? with
  | none=>
   have hl:=r.length
   have:ws[i]? = none:=by
    rw[bO] at h ⊢
    omega
   rw[this]
   rfl
  | some x=>
   obtain ⟨v,hv,rv⟩:=r.get h
   rw[hv]
   exact rv
theorem Aas{vs zs:List V}{us ws:List aC}(r:Vals vs us)(rz:Vals zs ws):Vals (vs++zs) (us++ws):=by
 induction r with
 | nil=>exact rz
 | cons h r ih=>exact .cons h ih
theorem Afo{K:aA}{fd:bE}{p:Str}{ps ks:List Str}{m n:Nat}{π:List Nat}(h:∀ us:List aC,us.length=m->∀ ws:List aC,ws.length=n->bindArgs fd ⟨us,ks.zip ws⟩=pure ((p::ps).zip (us++Hb .none π ws))):KBinds K fd (p::ps) ks (gP m n π) (gVP m n π) where
 to:=fun s us ws _ hl=>by
  unfold gP at hl ⊢
  by_cases hc:us.length=m/\ws.length=n
  ·rw[if_pos hc]
   exact .of_eq (h us hc.1 ws hc.2)
  ·rw[if_neg hc] at hl
   cases hl
 rel:=fun {vs us zs ws} r rz=>by
  unfold gP gVP
  have h1:=r.length
  have h2:=rz.length
  by_cases hc:us.length=m/\ws.length=n
  ·rw[if_pos hc,if_pos ⟨by omega,by omega⟩]
   exact Aas r (Pn rz π)
  ·rw[if_neg hc,if_neg (fun q=>hc ⟨by omega,by omega⟩)]
   exact .nil
noncomputable def Nt(n:Nat)(π:List Nat)(g:FA):FA:=fun δ L=>(g δ L).bind fun p=>if p.1.length=n then some (Hb .non π p.1,p.2) else none
theorem O8{K:aA}{H:Hp}{α:List Addr}{us:List U}{xs:List V}(r:RepL K H α us xs):∀ π:List Nat,RepL K H α (Hb .non π us) (Hb .non π xs)
 | []=>.nil
 | i :: π=>by
  refine .cons ?_ (O8 r π)
  show RepU K H α (us.getD i .non) (xs.getD i .non)
  rw[eL,eL]
  cases h:us[i]? with
  | none=>
   have hl:=r.length
   have:xs[i]? = none:=by
    rw[bO] at h ⊢
    omega
   rw[this]
   show RepU K H α .non .non
   unfold RepU
   rfl
  | some u=>
   obtain ⟨x,hx,rx⟩:=r.get h
   rw[hx]
   exact rx
section
variable {X:Cx}{k n q:Nat}{π:List Nat}{f:Addr}{fd:bE}{p:Str}{ps ks:List Str}{x:Str}{pp pos apos kpos:Pos}{kws:List eZ}{F:FN}{g:FA}
theorem Pg{pl:Sem Bool}{o:Expr}{fo:FE}{C m:Str}{Ca:Addr}(T:ClsF X.K C Ca)(hme:Meth X.K Ca m f)(hF:FnOk X.prog X.w X.K X.mg X.base CX0 k f fd (p::ps) (spF X.K q F))(hr:Room k X.A)(hb:KBinds X.K fd (p::ps) ks (gP 1 n π) (gVP 1 n π))(ho:PEF X o fo)
  (hkw:PKF X kws g) (hall:(backToKw pos (keywordEach kws X.env)).all (·.1.isSome)=true:=by rfl) (hks:(backToKw pos (keywordEach kws X.env)).filterMap (·.1)=ks:=by rfl)
  (hpl:((backTo pos (aL [] X.env)).any (·.1) || (backToKw pos (keywordEach kws X.env)).any (·.1.isNone))=false:=by rfl)
  (ht:eval (.Call (.Attribute o m apos) [] kws pos) X.env=(do
   let ov <- eval o X.env
   standAt apos.atName
   let (f,first) <- holding [ov] (getMethod ov m pl)
   callWith pos f first (backTo pos (aL [] X.env)) (backToKw pos (keywordEach kws X.env))):=by rfl) :
  PEF X (.Call (.Attribute o m apos) [] kws pos) (Bt C m q F fo (Nt n π g)):=by
 have base:PE X (.Call (.Attribute o m apos) [] kws pos) (fun σ H Q=>lE X.K fo σ H fun x H1=>∃ a dx fs,x = .ref a/\H1 a=some (.ins Ca dx fs)/\fs.lookup m=none/\lA X.K g σ H1 fun zs H2=>spF X.K q F (gVP 1 n π [.ref a] zs) H2 Q E0):=by
  intro pins s σ H Q I h
  refine fL (pl:=pl) (thn (ho pins s σ H _ I h) fun u s1 ⟨x,H1,I1,rx,a,dx,fs,ex,ea,l,q1⟩=>?_) ht
  subst ex
  obtain rfl:u=bH a:=rx
  refine Hl I1 ea T.cl hme l ?_
  refine PySem.W.callWith_KW0 (first:=[.ref a]) (h₀:=X.base) I.ok.mod.kin hme.kp hall (thn (hkw pos pins s1 σ H1 _ I1 q1) fun ws s2 ⟨zs,H2,I2,rz,q2⟩=>⟨I2.kIn,?_⟩) hpl
  rw[hks]
  exact Adm (vs:=[.ref a]) (us:=[.ref a]) hF hr hb Sw I2 (.cons rfl .nil) rz q2
 refine PE.imp base ?_
 intro σ H Q h
 obtain ⟨α,δ,L,A,S,u,L1,e1,h⟩:=M6 (E:=E0) T σ H Q h
 refine ⟨α,δ,L,A,S,u,L1,e1,fun x H1 α1 g1 A1 r1=>?_⟩
 obtain ⟨a,dx,vs,hx,ha,hl,α2,δ2,L2,A2,S2,us,L3,e3,h3⟩:=h x H1 α1 g1 A1 r1
 unfold Nt at e3
 obtain ⟨⟨us0,L0⟩,e0,e3⟩:=aB.mp e3
 simp only at e3
 split at e3
 ·rename_i hn
  cases e3
  refine ⟨a,dx,vs,hx,ha,hl,α2,δ2,L2,A2,S2,us0,_,e0,fun xs H3 α3 g3 A3 r3=>?_⟩
  have hgv:gVP 1 n π [.ref a] xs = .ref a::Hb .non π xs:=by
   unfold gVP
   rw[if_pos ⟨rfl,by rw[<- r3.length];exact hn⟩]
   rfl
  show spF X.K q F (gVP 1 n π [.ref a] xs) H3 Q E0
  rw[hgv]
  have:=h3 (Hb .non π xs) H3 α3 g3 A3 (O8 r3 π)
  rw[<- ‹x=V.ref a›]
  simpa using this
 ·cases e3
end
section
variable {X:Cx}{k n q:Nat}{π:List Nat}{f Ca:Addr}{fd:bE}{p:Str}{ps ks:List Str}{C:Str}{pp pos:Pos}{kws:List eZ}{F:FN}{g:FA}
end
end MR
namespace MR
open PySem PySem.Spec PyProof.Rows PySem.Calls L2
section
variable {X:Cx}
end
noncomputable def Vf:S2:=fun u w L=>match w with
 | .non=>some (.bl (!isSome u),L)
 | _=>none
theorem Aes{K:aA}:Cm K (fun x y H Q=>y = .non/\Q (.bl (decide (x = .non))) H) Vf:=by
 intro H α L u w x y z L' Q A ru rw e q
 cases w with
 | non=>
  cases e
  unfold RepU at rw
  refine ⟨rw,?_⟩
  have:(decide (x=V.non)) = !isSome u:=by
   cases u with
   | non=>unfold RepU at ru;simp[ru,isSome]
   | bl b=>unfold RepU at ru;simp[ru,isSome]
   | int b=>unfold RepU at ru;simp[ru,isSome]
   | str b=>unfold RepU at ru;simp[ru,isSome]
   | tup b=>unfold RepU at ru;obtain ⟨_,_,rfl,_⟩:=ru;simp[isSome]
   | ref b=>unfold RepU at ru;obtain ⟨_,_,rfl⟩:=ru;simp[isSome]
  rw[this]
  exact q _ H α (.refl _ _) A (by unfold RepU;rfl)
 | _=>cases e
end MR
namespace Lw
open PySem L2 MR
noncomputable def C1:List (Str×List Str):=[("put",["name","number","number"]),("take",["name"]),("move",["name","number","number"]),("points",[]),("counts",[]),("pairs",[]),("halves",[]),("below",["number","number"]),("above",["number","number"]),("box",["number","number","number","number"]),("nth",["place","number","number","number","number"]),("stairs",[]),("longest",[]),("crowd",[])]
noncomputable def Ge:FS:=(Adi "KeptPoints" "points" (Ae 0) Agf)
noncomputable def C8:FN:=fnU 1 1 Ge
noncomputable def K3:FS:=(Adi "Desk" "kept" (Ae 0) (Tw "KeptPoints" 1 C8 Ah))
noncomputable def Dr:FN:=fnU 1 1 K3
noncomputable def Cu:FS:=(C7 (T7 (G5 "KeptPoints" "points" (Ae 0))))
noncomputable def Ar:FN:=fnU 1 1 Cu
noncomputable def De:FS:=(Dc (Be (f2 We (Bv Bp (Ac (Bt "KeptPoints" "points_now" 1 Ar (G5 "Desk" "kept" (Ae 0)) Ah) Ah)) (fC (.int 60)))) B6 B8)
noncomputable def B1:FN:=fnU 1 1 De
noncomputable def C2:FS:=(Ce (Dc (Be (f2 Ju (Ae 1) (G5 "KeptPoints" "points" (Ae 0)))) B6 B8) (Ww (G5 "KeptPoints" "points" (Ae 0)) (Ae 1) (Hj (Ac (Ae 1) (Ac (Ae 2) (Ac (Ae 3) Ah))))))
noncomputable def A8:FN:=fnU 4 4 C2
noncomputable def Cc:FS:=(Dc (Be (f2 Bw (Ae 1) (fC (.str "put")))) (Ce (Er (Bt "Desk" "need_room" 1 B1 (Ae 0) Ah)) (Er (Bt "KeptPoints" "put_point" 4 A8 (G5 "Desk" "kept" (Ae 0)) (Ac (f2 Bs (Ae 2) (fC (.int 0))) (Ac (f2 Bs (Ae 2) (fC (.int 1))) (Ac (f2 Bs (Ae 2) (fC (.int 2))) Ah)))))) (Dc (Be (f2 Bw (Ae 1) (fC (.str "take")))) B6 B6))
noncomputable def Bc:FN:=fnU 3 3 Cc
noncomputable def Fy:FE:=(f2 (Kq false) (Ae 0) (Ae 1))
noncomputable def H9:FS:=(C7 (Bv Jp (Ac (Dx [none,some 1] (S0 (Ae 0)) (gN 0) none Fy) Ah)))
noncomputable def B5:FN:=fnU 2 2 H9
noncomputable def X0:FS:=(C7 (Py (J5 Ir Ir (fC (.int 1)) (Bv Bp (Ac (Ae 0) Ah)) (fC (.int 8))) (El 2 B5 (Ac (Ae 0) (Ac (fC (.str "abcdefghijklmnopqrstuvwxyz")) Ah)))))
noncomputable def J0:FN:=fnU 1 1 X0
noncomputable def Ko:FS:=(Ce (Hw (fIf (G6 (Ep "str" semStarts (Ae 0) (Ac (fC (.str "-")) Ah))) (fSl Mr (Ae 0) (Nb (fC (.int 1))) Fs) (Ae 0)) (gN 1)) (Ce (Dc (fOr (Be (f2 Bw (Ae 1) (fC (.str "")))) (Qv (G6 (El 2 B5 (Ac (Ae 1) (Ac (fC (.str "0123456789")) Ah)))))) (C7 (fC (.bl false))) B8) (C7 (Ado (f2 C5 (f2 Bs (Ae 1) (fC (.int 0))) (fC (.str "0"))) (f2 Bw (Ae 0) (fC (.str "0")))))))
noncomputable def Gj:FN:=fnU 2 1 Ko
noncomputable def Ej:FS:=(Ce (Dc (Be (f2 Bw (Ae 1) (fC (.str "name")))) (Ce (Dc (Qv (G6 (El 1 J0 (Ac (Ae 0) Ah)))) B6 B8) (C7 (Ae 0))) B8) (Ce (Dc (fOr (Qv (G6 (El 1 Gj (Ac (Ae 0) Ah)))) (Be (f2 Vu (Bv Bp (Ac (Ep "str" D2 (Ae 0) (Ac (fC (.str "-")) Ah)) Ah)) (fC (.int 10))))) B6 B8) (Ce (Dc (Ahs (Be (f2 Bw (Ae 1) (fC (.str "place")))) (G6 (Ep "str" semStarts (Ae 0) (Ac (fC (.str "-")) Ah)))) B6 B8) (C7 (Bv Ib (Ac (Ae 0) Ah))))))
noncomputable def Ek:FN:=fnU 2 2 Ej
noncomputable def En:FE:=(El 2 Ek (Ac (Ae 0) (Ac (Ae 1) Ah)))
noncomputable def Eg:FS:=(Ce (Hw (Qs C1 (f2 Bs (Ae 0) (fC (.int 0)))) (gN 1)) (Ce (Dc (fOr (Be (f2 Vf (Ae 1) (fC .non))) (Be (f2 C5 (Bv Bp (Ac (Ae 1) Ah)) (f2 P5 (Bv Bp (Ac (Ae 0) Ah)) (fC (.int 1)))))) B6 B8) (C7 (Bv Ef (Ac (Dx [none,none] (Wu (Ac (fSl Ny (Ae 0) (Nb (fC (.int 1))) Fs) (Ac (Ae 1) Ah))) (MR.gTup 2 (MR.gCons (gN 0) (MR.gCons (gN 1) MR.gNil))) none En) Ah)))))
noncomputable def Ei:FN:=fnU 2 1 Eg
noncomputable def Dw:FE:=(f2 Ir (Ae 0) (Ae 1))
noncomputable def Ft:FS:=(C7 (Py (f2 C5 (Ae 0) (Ae 1)) (Bv Jp (Ac (Dx [none,none] (Wm (Ac (Ae 0) (Ac (Ae 1) Ah))) (MR.gTup 2 (MR.gCons (gN 0) (MR.gCons (gN 1) MR.gNil))) none Dw) Ah))))
noncomputable def C4:FN:=fnU 2 2 Ft
noncomputable def Dv:FE:=(Ae 0)
noncomputable def b_many_below_1t:FT:=(G6 (El 2 C4 (Ac (Ae 0) (Ac (Ae 1) Ah))))
noncomputable def Ip:FS:=(C7 (Bv Bp (Ac (Dx [none,some 1] (Dm (Ae 0)) (gN 0) (some b_many_below_1t) Dv) Ah)))
noncomputable def D1:FN:=fnU 2 2 Ip
noncomputable def Md:FS:=(C7 (Hj (Ac (f2 Bs (Ae 0) (fC (.int 1))) (Ac (f2 Bs (Ae 0) (fC (.int 2))) Ah))))
noncomputable def Fe:FN:=fnU 1 1 Md
noncomputable def Dt:FE:=(El 2 D1 (Ac (Ae 1) (Ac (Ae 0) Ah)))
noncomputable def Dp:FE:=(El 1 Fe (Ac (Ae 0) Ah))
noncomputable def Ja:FS:=(Ce (Hw (Dx [none] (Dm (Ae 0)) (gN 0) none Dp) (gN 1)) (C7 (Bv Ef (Ac (Dx [none,some 1] (Dm (Ae 1)) (gN 0) none Dt) Ah))))
noncomputable def D0:FN:=fnU 2 1 Ja
noncomputable def Gk:FS:=(C7 (Bv Dq (Ac (El 1 D0 (Ac (Ae 0) Ah)) Ah)))
noncomputable def C0:FN:=fnU 1 1 Gk
noncomputable def Jy:FS:=(Ce (Dc (Be (f2 Bw (Ae 0) (fC (.str "points")))) (C7 (Ae 1)) B8) (Ce (Dc (Be (f2 Bw (Ae 0) (fC (.str "counts")))) (Ce B6 B6) B8) (Ce (Dc (Be (f2 Bw (Ae 0) (fC (.str "pairs")))) (C7 (Q0 (Ac (Hj (Ac (El 1 C0 (Ac (Ae 1) Ah)) Ah)) Ah))) B8) (Ce (Dc (Be (f2 Bw (Ae 0) (fC (.str "halves")))) B6 B8) (Ce (Dc (Be (f2 Bw (Ae 0) (fC (.str "stairs")))) B6 B8) (Ce (Dc (Be (f2 Bw (Ae 0) (fC (.str "longest")))) (Ce B6 B6) B8) B6))))))
noncomputable def Jq:FN:=fnU 2 2 Jy
noncomputable def Cd:FE:=(Bv Q9 (Ac (Ae 0) Ah))
noncomputable def Gm:FS:=(C7 (Ep "str" Im (fC (.str " ")) (Ac (Dx [none] (Dm (Ae 0)) (gN 0) none Cd) Ah)))
noncomputable def Gn:FN:=fnU 1 1 Gm
noncomputable def Fx:FE:=(El 1 Gn (Ac (Ae 0) Ah))
noncomputable def b_rows_shown_1t:FT:=(G6 (Ae 0))
noncomputable def Fp:FS:=(C7 (Dx [none] (Dm (Ae 0)) (gN 0) (some b_rows_shown_1t) Fx))
noncomputable def Ff:FN:=fnU 1 1 Fp
noncomputable def Ea:FS:=(Ce (Hw (Ep "str" E5 (Ae 1) (Ac (fC (.str " ")) Ah)) (gN 2)) (Ce (Hw (El 1 Ei (Ac (Ae 2) Ah)) (gN 3)) (Ce (Dc (Be (f2 (Kq false) (f2 Bs (Ae 2) (fC (.int 0))) (Hj (Ac (fC (.str "put")) (Ac (fC (.str "take")) (Ac (fC (.str "move")) Ah)))))) (Ce (Er (Bt "Desk" "change_points" 3 Bc (Ae 0) (Ac (f2 Bs (Ae 2) (fC (.int 0))) (Ac (Ae 3) Ah)))) (C7 (Q0 Ah))) B8) (Ce (Dc (G6 (Ae 3)) B6 B8) (C7 (El 1 Ff (Ac (El 2 Jq (Ac (f2 Bs (Ae 2) (fC (.int 0))) (Ac (Bt "KeptPoints" "points_now" 1 Ar (G5 "Desk" "kept" (Ae 0)) Ah) Ah))) Ah)))))))
noncomputable def C9:FN:=fnU 4 2 Ea
noncomputable def E7:FS:=(Er (Dl ["NoPlace","NoAsk","NoName"] (Ac (Ae 0) (Ac (Ae 1) Ah))))
noncomputable def A7:FN:=fnU 2 2 E7
noncomputable def Em:FS:=(Ce (Er (Dl ["NoPlace","NoAsk","NoName"] (Ac (Ae 0) (Ac (Dg [(fC (.str "the name ")),(Ph (Ae 1)),(fC (.str " is refused here"))]) Ah)))) (Wl ["NoPlace","NoAsk","NoName"] "word" (Ae 0) (Ae 1)))
noncomputable def Am:FN:=fnU 2 2 Em
noncomputable def D9:FS:=(Er (Dl ["NoPlace","NoAsk","NoName"] (Ac (Ae 0) (Ac (Ae 1) Ah))))
noncomputable def Aw:FN:=fnU 2 2 D9
noncomputable def Jj:FS:=(C7 (Ep "list" E9 (Q0 (Ac (J3 ["NoPlace","NoAsk","NoName"] "NoAsk" (Ae 0)) (Ac (J3 ["NoPlace","NoAsk","NoName"] "NoName" (Ae 0)) (Ac (J3 ["NoPlace","NoAsk","NoName"] "NoPlace" (Ae 0)) Ah)))) (Ac (fC (.bl true)) Ah)))
noncomputable def J7:FN:=fnU 1 1 Jj
noncomputable def Iy:FS:=(Dc (fOr (Qv (G6 (J3 ["NoPlace","NoAsk","NoName"] "BelowError" (Ae 3)))) (fOr (Qv (G6 (J3 ["NoPlace","NoAsk","NoName"] "ValueError" (Ae 3)))) (Be (f2 C5 (El 1 J7 (Ac (Ae 3) Ah)) (fC (.int 1)))))) (C7 (fC (.bl false))) B8)
noncomputable def Abk:FS:=(Ce (Hw (f2 Jh (Bv Dq (Ac (Ae 0) Ah)) (fC (.int 1000))) (gN 1)) (Ce (Hw (Tw "Desk" 1 Dr Ah) (gN 2)) (Ce (Dc (Be (f2 C5 (Bt "Desk" "ask" 2 C9 (Ae 2) (Nt 1 [0] (Ac (Dg [(fC (.str "put ab ")),(Tz (Ae 1)),(fC (.str " 1"))]) Ah))) (Q0 Ah))) (C7 (fC (.bl false))) B8) (Ce (Aba (Dm (Hj (Ac (Bu "NoAsk" 2 A7 (Ac (fC (.str "a")) Ah)) (Ac (Bu "NoPlace" 2 Aw (Ac (fC (.str "b")) Ah)) (Ac (Bu "NoName" 2 Am (Ac (fC (.str "ab")) Ah)) Ah))))) (gN 3) Iy) (C7 (Py (f2 Bw (Sl ["NoPlace","NoAsk","NoName"] "word" (Bu "NoName" 2 Am (Ac (fC (.str "ab")) Ah))) (fC (.str "ab"))) (f2 Bw (Bt "Desk" "ask" 2 C9 (Ae 2) (Nt 1 [0] (Ac (fC (.str "pairs")) Ah))) (Q0 (Ac (fC (.str "0")) Ah)))))))))
noncomputable def Tp:FN:=fnU 4 1 Abk
structure Ex(d:Nat)(L L':UH):Prop where
 le:L.length<=L'.length
 at_:∀ i,i < L.length->i≠d->L'[i]? = L[i]?
theorem Ex.refl(d:Nat)(L:UH):Ex d L L:=⟨aZ _,fun _ _ _=>rfl⟩
theorem Ex.trans{d:Nat}{L L1 L2:UH}(a:Ex d L L1)(b:Ex d L1 L2):Ex d L L2:=
 ⟨cF a.le b.le,fun i h1 h2=>by rw[b.at_ i (aS h1 a.le) h2,a.at_ i h1 h2]⟩
theorem Ex.new(d:Nat)(L:UH)(x:List HU):Ex d L (L++x):=⟨by simp,fun i h _=>by rw[aY h]⟩
theorem Ex.put(d:Nat)(L:UH)(o:HU):Ex d L (L.set d o):=⟨by simp,fun i _ h=>by rw[cG (eY h)]⟩
theorem Ex.set{d:Nat}{L L':UH}(h:Ex d L L'){n:Nat}(hn:L.length<=n)(o:HU):Ex d L (L'.set n o):=
 ⟨by rw[List.length_set];exact h.le,fun i h1 h2=>by rw[cG (by omega)];exact h.at_ i h1 h2⟩
theorem Ex.get{d:Nat}{L L':UH}{i:Nat}{o:HU}(h:Ex d L L')(e:L[i]? = some o)(hi:i≠d):L'[i]? = some o:=by
 rw[h.at_ i (aX.mp e).1 hi];exact e
noncomputable def Gw(L L':UH):Prop:=∃ x,L'=L++x
theorem Gw.refl(L:UH):Gw L L:=⟨[],by simp⟩
theorem Gw.trans{L L1 M:UH}(a:Gw L L1)(b:Gw L1 M):Gw L M:=by obtain ⟨x,rfl⟩:=a;obtain ⟨y,rfl⟩:=b;exact ⟨x++y,by simp⟩
theorem Gw.new(L x:UH):Gw L (L++x):=⟨x,rfl⟩
theorem Gw.set{L L':UH}(h:Gw L L'){n:Nat}(hn:L.length<=n)(o:HU):Gw L (L'.set n o):=by
 obtain ⟨x,rfl⟩:=h
 exact ⟨x.set (n - L.length) o,by rw[List.set_append_right _ _ hn]⟩
theorem Gw.le{L L':UH}(h:Gw L L'):L.length<=L'.length:=by obtain ⟨x,rfl⟩:=h;simp
theorem Gw.get{L L':UH}(h:Gw L L'){n:Nat}{o:HU}(e:L[n]? = some o):L'[n]? = some o:=by
 obtain ⟨x,rfl⟩:=h
 rw[aY (aX.mp e).1];exact e
theorem Gw.seq{L L':UH}(h:Gw L L'){n:Nat}{us:List U}(e:Al L n=some us):Al L' n=some us:=by
 obtain ⟨x,rfl⟩:=h;exact D8 e
theorem Gw.ex{L L':UH}(h:Gw L L')(d:Nat):Ex d L L':=by obtain ⟨x,rfl⟩:=h;exact Ex.new d L x
theorem Afl{L:UH}{n:Nat}{l:List U}(h:L[n]? = some (.lst l)):tyU "list" (.ref n) L=true:=by simp[tyU,h]
theorem Wy{L:UH}{n:Nat}{l:List U}(h:L[n]? = some (.lst l)):Bp [.ref n] L=some (.int l.length,L):=by simp[Bp,lenU,Bh h]
theorem Fj{f g:FS}{δ δ':UE}{L L':UH}(h:f δ L=some (.nx δ',L')):Ce f g δ L=g δ' L':=by rw[fSeq_eq,h];rfl
theorem Ex.seq{d:Nat}{L L':UH}(h:Ex d L L'){n:Nat}{us:List U}(hn:n≠d)(e:Al L n=some us):Al L' n=some us:=by
 unfold Al at e ⊢
 cases hq:L[n]? with
 | none=>rw[hq] at e;cases e
 | some o=>rw[h.get hq hn];rw[hq] at e;exact e
noncomputable def ptU(p:Str×(Int×Int)):U:=.tup [.str p.1,.int p.2.1,.int p.2.2]
noncomputable def prU(p:Int×Int):U:=.tup [.int p.1,.int p.2]
noncomputable def Fb(p q:Int×Int):Bool:=decide (p.1<=q.1)&&(decide (p.2<=q.2) && !(p.1 == q.1&&(p.2 == q.2&&true)))
theorem Agw(p q:Int×Int)(L:UH):C5 (prU p) (prU q) L=some (.bl (!(p.1 == q.1&&(p.2 == q.2&&true))),L):=rfl
theorem Tt{β:Type}(as:List β)(f:β->Bool):mapO toB (as.map fun a=>U.bl (f a))=some (as.map f):=by
 induction as with
 | nil=>rfl
 | cons a as ih=>simp[mapO,toB,ih]
theorem Wi{β:Type}{L:UH}{n:Nat}(as:List β)(f:β->Bool)(h:Al L n=some (as.map fun a=>U.bl (f a))):Jp [.ref n] L=some (.bl (as.all f),L):=by
 simp[Jp,h,Tt]
theorem Aeu(p q:Int×Int)(L:UH):∃ x,C4 [prU p,prU q] L=some (.bl (Fb p q),L++x):=by
 have hz:(Wm (Ac (Ae 0) (Ac (Ae 1) Ah))) [some (prU p),some (prU q)] L=some (.seq ([(p.1,q.1),(p.2,q.2)].map fun a=>.tup [.int a.1,.int a.2]),L):=rfl
 obtain ⟨x,e⟩:=Cy (ix:=[none,none]) (fi:=Wm (Ac (Ae 0) (Ac (Ae 1) Ah))) (it:=.seq ([(p.1,q.1),(p.2,q.2)].map fun a=>.tup [.int a.1,.int a.2])) (g:=(MR.gTup 2 (MR.gCons (gN 0) (MR.gCons (gN 1) MR.gNil)))) (tt:=none) (fe:=Dw) (δ:=[some (prU p),some (prU q)]) (L:=L) (L0:=L)
  [(p.1,q.1),(p.2,q.2)] (fun a=>.tup [.int a.1,.int a.2]) (fun _=>true) (fun a=>.bl (decide (a.1<=a.2))) (fun δ=>∃ a b,δ = [a,b]) hz (by simp[IU.size]) (by simp) ⟨none,none,rfl⟩
  (fun k x=>rfl)
  (fun a δ x _ ⟨y,z,hδ⟩=>by
   subst hδ
   refine ⟨_,rfl,⟨_,_,rfl⟩,[],by simp[Gb],fun _=>⟨[],?_⟩⟩
   simp[Dw])
 have hf:jY (fun _:Int×Int=>true) [(p.1,q.1),(p.2,q.2)]=[(p.1,q.1),(p.2,q.2)]:=by simp
 rw[hf] at e
 have q1:Al (L++x++[HU.lst ([(p.1,q.1),(p.2,q.2)].map fun a=>.bl (decide (a.1<=a.2)))]) (L++x).length=some ([(p.1,q.1),(p.2,q.2)].map fun a=>U.bl (decide (a.1<=a.2))):=Bh (by simp)
 have ha:=Wi _ _ q1
 by_cases h:(!(p.1 == q.1&&(p.2 == q.2&&true)))=true
 ·refine ⟨x++[HU.lst ([(p.1,q.1),(p.2,q.2)].map fun a=>.bl (decide (a.1<=a.2)))],?_⟩
  have hb:Fb p q=List.all [(p.1,q.1),(p.2,q.2)] fun a=>decide (a.1<=a.2):=by
   simp only[Fb,h,mP,List.all_nil]
  have hn:=Agw p q L
  rw[h] at hn
  unfold C4 fnU Ft
  simp only[bB,bU,if_true,aM,bW,dN,cB,bT,fRet_eq,I0,f2_eq,fVar_eq,aV,bP,bN,aJ,aF,hn,fCall_eq,fCons_eq,fNil_eq]
  simp only[aM,bW] at e ha
  rw[hb,<- cR]
  simp only[e,ha,aJ,aF]
 ·have h':(!(p.1 == q.1&&(p.2 == q.2&&true)))=false:=by simpa using h
  refine ⟨[],?_⟩
  have hb:Fb p q=false:=by simp only[Fb,h',mF]
  have hn:=Agw p q L
  rw[h'] at hn
  unfold C4 fnU Ft
  simp only[bB,bU,if_true,aM,bW,dN,cB,bT,fRet_eq,I0,f2_eq,fVar_eq,aV,bP,bN,aJ,aF,hn,hb]
  simp
noncomputable abbrev NP:=Str×(Int×Int)
noncomputable def kG(g:NP->U)(m:List NP):List (Key×U):=m.map fun p=>(.inr p.1,g p)
noncomputable def Sm(m:List NP)(nm:Str):Bool:=m.any fun p=>decide (p.1=nm)
noncomputable def Mp(m:List NP)(nm:Str)(q:Int×Int):List NP:=if Sm m nm=true then m.map (fun p=>if p.1=nm then (nm,q) else p) else m++[(nm,q)]
theorem Q6(a b:Str):((dW a:Key) = .inr b)↔a=b:=⟨fun h=>by injection h,fun h=>by rw[h]⟩
theorem Vh(g:NP->U)(nm:Str):∀ m:List NP,((kG g m).any fun kv=>decide (kv.1 = .inr nm))=Sm m nm
 | []=>rfl
 | p::m=>by
  have ih:=Vh g nm m
  unfold kG Sm at ih ⊢
  rw[aM,dM,dM,ih]
  simp only[Q6]
theorem Af7(g:NP->U)(m:List NP)(nm:Str):(Qc (kG g m) (.inr nm)).isSome=Sm m nm:=by
 unfold Qc
 rw[gZ,find_any,Vh]
theorem Ahf(g:NP->U)(m:List NP)(nm:Str)(q:Int×Int):Acr (kG g m) (.inr nm) (g (nm,q))=kG g (Mp m nm q):=by
 unfold Acr Mp
 rw[Vh]
 split
 ·unfold kG
  rw[fF,fF]
  apply List.map_congr_left
  intro p _
  show (if (dW p.1:Key) = .inr nm then (dW p.1,g (nm,q)) else (dW p.1,g p))=_
  by_cases h:p.1=nm
  ·rw[if_pos ((Q6 _ _).mpr h)]
   show _=(dW (if p.1=nm then (nm,q) else p).1,g (if p.1=nm then (nm,q) else p))
   rw[if_pos h,h]
  ·rw[if_neg (fun z=>h ((Q6 _ _).mp z))]
   simp only[Function.comp_apply,if_neg h]
 ·unfold kG
  rw[lK]
  rfl
theorem Jb{C:Str}{L:UH}{t:Nat}{fs:List (Str×U)}(h:L[t]? = some (.ins C fs)):Nl C (.ref t) L=some (t,fs):=by
 unfold Nl
 simp only[h,if_true]
noncomputable def kfl(p:Nat):List (Str×U):=[("points",.ref p)]
theorem kf_pts(p:Nat):cX ("points" : Str) (kfl p)=some (.ref p):=rfl
theorem Ajr{s:Str}(p:Nat)(h:(s == "points")=false):cX s (kfl p)=none:=by
 unfold kfl
 rw[bI,h]
 rfl
structure Kept(L:UH)(k p:Nat)(m:List NP):Prop where
 ob:L[k]? = some (.ins "KeptPoints" (kfl p))
 pt:L[p]? = some (.dic (kG ptU m))
theorem Kept.ne{L:UH}{k p:Nat}{m:List NP}(T:Kept L k p m):k≠p:=fun h=>by
 have a:=T.ob
 rw[h,T.pt] at a
 cases a
theorem Kept.gw{L L':UH}{k p:Nat}{m:List NP}(T:Kept L k p m)(g:Gw L L'):Kept L' k p m:=⟨g.get T.ob,g.get T.pt⟩
theorem Kept.set{L:UH}{k p:Nat}{m m':List NP}(T:Kept L k p m):Kept (L.set p (.dic (kG ptU m'))) k p m':=
 ⟨by rw[cG (eY T.ne)];exact T.ob,cU (aX.mp T.pt).1⟩
theorem Kept.fld{L:UH}{k p:Nat}{m:List NP}(T:Kept L k p m){δ:UE}{fe:FE}(h:fe δ L=some (.ref k,L)):G5 "KeptPoints" "points" fe δ L=some (.ref p,L):=by
 unfold G5
 rw[h]
 simp only[aF,Jb T.ob,kf_pts,aJ]
theorem U6{L:UH}{n:Nat}{kvs:List (Key×U)}(h:L[n]? = some (.dic kvs)):Ic L n=some kvs:=by unfold Ic;rw[h]
theorem Ahm{L:UH}{n:Nat}{g:NP->U}{m:List NP}(h:L[n]? = some (.dic (kG g m)))(nm:Str):Ju (.str nm) (.ref n) L=some (.bl (Sm m nm),L):=by
 unfold Ju
 simp only[toK,aF,U6 h,aJ,Af7]
theorem Aep{L:UH}{k p:Nat}{m:List NP}{nm:Str}{x y:Int}(T:Kept L k p m)(hl:m.length < 1000) :
  (Ww (G5 "KeptPoints" "points" (Ae 0)) (Ae 1) (Hj (Ac (Ae 1) (Ac (Ae 2) (Ac (Ae 3) Ah))))) [some (.ref k),some (.str nm),some (.int x),some (.int y)] L=some (.nx [some (.ref k),some (.str nm),some (.int x),some (.int y)],L.set p (.dic (kG ptU (Mp m nm (x,y))))):=by
 have f1:=T.fld (δ:=[some (.ref k),some (.str nm),some (.int x),some (.int y)]) (fe:=Ae 0) rfl
 have ht:(Hj (Ac (Ae 1) (Ac (Ae 2) (Ac (Ae 3) Ah)))) [some (.ref k),some (.str nm),some (.int x),some (.int y)] L=some (ptU (nm,(x,y)),L):=by
  simp only[fTup_eq,fCons_eq,fNil_eq,fVar_eq,aV,bP,bN,aJ,aF]
  rw[if_pos (Ct (by show 3<=16777216;decide))]
  rfl
 have hk:(kG ptU m).length < 1000000:=by unfold kG;rw[cO];omega
 unfold Ww
 rw[ht]
 simp only[aF,f1,fVar_eq,aV,bP,bN,aJ,toK,U6 T.pt]
 rw[if_pos hk,Ahf]
theorem Afq{L:UH}{k p:Nat}{m:List NP}{nm:Str}{x y:Int}(T:Kept L k p m)(h:Sm m nm=false)(hl:m.length < 1000) :
  A8 [.ref k,.str nm,.int x,.int y] L=some (.non,L.set p (.dic (kG ptU (Mp m nm (x,y))))):=by
 have f1:=T.fld (δ:=[some (.ref k),some (.str nm),some (.int x),some (.int y)]) (fe:=Ae 0) rfl
 have s1:(Dc (Be (f2 Ju (Ae 1) (G5 "KeptPoints" "points" (Ae 0)))) B6 B8) [some (.ref k),some (.str nm),some (.int x),some (.int y)] L=some (.nx [some (.ref k),some (.str nm),some (.int x),some (.int y)],L):=by
  rw[Li,fTest_eq,f2_eq]
  simp only[fVar_eq,aV,bP,bN,aJ,aF,f1,Ahm T.pt,h,dL,if_false,Sa]
 unfold A8 fnU C2
 simp only[bB,bU,if_true,aM,bW,dN,cB,bT]
 rw[Fj s1,Aep T hl]
 rfl
theorem Tq(p:NP)(L:UH):Fe [ptU p] L=some (prU p.2,L):=by
 have h1:L2.atI [U.str p.1,.int p.2.1,.int p.2.2] 1=some (.int p.2.1):=rfl
 have h2:L2.atI [U.str p.1,.int p.2.1,.int p.2.2] 2=some (.int p.2.2):=rfl
 simp[Fe,fnU,Md,ptU,h1,h2,Ct,prU]
theorem Afw(g:NP->U)(m:List NP):Abq (kG g m)=m.map g:=by
 unfold Abq kG
 rw[fF]
 rfl
noncomputable def cnt(qs:List (Int×Int))(q:Int×Int):Int:=((qs.filter fun o=>Fb o q).length:Nat)
theorem Oh{L:UH}{r:Nat}{qs:List (Int×Int)}(q:Int×Int)(hr:Al L r=some (qs.map prU))(hl:qs.length < 1000000):∃ L',D1 [.ref r,prU q] L=some (.int (cnt qs q),L')/\Gw L L':=by
 obtain ⟨x,e⟩:=Cy (ix:=[none,some 1]) (fi:=Dm (Ae 0)) (it:=.ref r) (g:=gN 0) (tt:=some b_many_below_1t) (fe:=Dv) (δ:=[some (.ref r),some (prU q)]) (L:=L) (L0:=L)
  qs prU (fun o=>Fb o q) prU (fun δ=>∃ a,δ = [a,some (prU q)]) (by simp[Jm hr]) (by rw[Lp hr];simp) (by omega) ⟨none,rfl⟩
  (fun k x=>U9 (D8 hr))
  (fun a δ x _ ⟨y,hδ⟩=>by
   subst hδ
   obtain ⟨xl,hx⟩:=Aeu a q (L++x)
   refine ⟨_,rfl,⟨_,rfl⟩,xl,?_,fun _=>⟨[],?_⟩⟩
   ·simp[Gb,b_many_below_1t,hx]
   ·simp[Dv])
 have q1:(L++x++[HU.lst ((qs.filter fun o=>Fb o q).map prU)])[(L++x).length]? = some (.lst ((qs.filter fun o=>Fb o q).map prU)):=by simp
 have hlen:=Wy q1
 rw[cO] at hlen
 refine ⟨L++x++[HU.lst ((qs.filter fun o=>Fb o q).map prU)],?_,⟨x++[HU.lst ((qs.filter fun o=>Fb o q).map prU)],by rw[cR]⟩⟩
 unfold D1 fnU Ip
 simp only[bB,bU,if_true,aM,bW,dN,cB,bT,fRet_eq,fCall_eq,fCons_eq,fNil_eq,aJ,aF,e,hlen,cnt]
theorem Oj(ps:List (Str×(Int×Int)))(L:UH)(hl:ps.length < 1000000):∃ L',D0 [.tup (ps.map ptU)] L=some (.tup (ps.map fun p=>.int (cnt (ps.map (·.2)) p.2)),L')/\Gw L L':=by
 obtain ⟨x,e⟩:=Cy (ix:=[none]) (fi:=Dm (Ae 0)) (it:=.seq (ps.map ptU)) (g:=gN 0) (tt:=none) (fe:=Dp) (δ:=[some (.tup (ps.map ptU)),none]) (L:=L) (L0:=L)
  ps ptU (fun _=>true) (fun p=>prU p.2) (fun δ=>∃ a,δ = [a]) (by simp[Lx]) (by simp[IU.size]) (by omega) ⟨none,rfl⟩
  (fun k x=>rfl)
  (fun a δ x _ ⟨y,hδ⟩=>by
   subst hδ
   refine ⟨_,rfl,⟨_,rfl⟩,[],by simp[Gb],fun _=>⟨[],?_⟩⟩
   simp[Dp,Tq])
 have hf:∀ (l:List (Str×(Int×Int))),jY (fun _=>true) l=l:=fun l=>iZ.mpr (fun _ _=>rfl)
 rw[hf] at e
 have hm:(ps.map fun p=>prU p.2)=(ps.map (·.2)).map prU:=by rw[fF];rfl
 rw[hm] at e
 generalize hM:L++x++[HU.lst ((ps.map (·.2)).map prU)]=M at e
 have hr:Al M (L++x).length=some ((ps.map (·.2)).map prU):=by rw[<- hM];exact Bh (by simp)
 have gM:Gw L M:=⟨x++[HU.lst ((ps.map (·.2)).map prU)],by rw[<- hM,cR]⟩
 obtain ⟨y,e2⟩:=Cy (ix:=[none,some 1]) (fi:=Dm (Ae 1)) (it:=.ref (L++x).length) (g:=gN 0) (tt:=none) (fe:=Dt) (δ:=[some (.tup (ps.map ptU)),some (.ref (L++x).length)]) (L:=M) (L0:=M)
  (ps.map (·.2)) prU (fun _=>true) (fun q=>.int (cnt (ps.map (·.2)) q)) (fun δ=>∃ a,δ = [a,some (.ref (L++x).length)]) (by simp only[Nh,fVar_eq,bP,aV,bN,aJ,aF,Jm hr]) (by rw[Lp hr];simp) (by simp;omega) ⟨none,rfl⟩
  (fun k x=>U9 (D8 hr))
  (fun a δ z _ ⟨y,hδ⟩=>by
   subst hδ
   obtain ⟨L',e3,w,hw⟩:=Oh (L:=M++z) a (D8 hr) (by simp;omega)
   refine ⟨_,rfl,⟨_,rfl⟩,[],by simp[Gb],fun _=>⟨w,?_⟩⟩
   rw[bT,<- hw]
   unfold Dt
   simp only[Le,fCons_eq,fNil_eq,fVar_eq,nF,bP,aV,bN,aJ,aF,bB,bU,if_true,e3])
 have hf2:∀ (l:List (Int×Int)),jY (fun _=>true) l=l:=fun l=>iZ.mpr (fun _ _=>rfl)
 rw[hf2] at e2
 generalize hR:((ps.map (·.2)).map fun q=>U.int (cnt (ps.map (·.2)) q))=R at e2
 have q2:Al (M++y++[HU.lst R]) (M++y).length=some R:=Bh (by simp)
 have ht:Ef [.ref (M++y).length] (M++y++[HU.lst R])=some (.tup R,M++y++[HU.lst R]):=by simp only[Ef,q2,aJ]
 refine ⟨M++y++[HU.lst R],?_,gM.trans ⟨y++[HU.lst R],by rw[cR]⟩⟩
 have hR':(ps.map fun p=>U.int (cnt (ps.map (·.2)) p.2))=R:=by rw[<- hR,fF];rfl
 rw[hR']
 unfold D0 fnU Ja
 simp only[bB,bU,if_true,aM,bW,dG,kO,oV,fSeq_eq,Qd,e,gN_eq,aJ,aF,List.set_cons_succ,nF,fRet_eq,fCall_eq,fCons_eq,fNil_eq,e2,ht]
noncomputable def tupU(ps:List (Str×(Int×Int))):U:=.tup (ps.map ptU)
theorem toI_map{β:Type}(f:β->Int):∀ l:List β,mapO toI (l.map fun a=>U.int (f a))=some (l.map f)
 | []=>rfl
 | a::l=>by simp only[aM,mapO,toI,toI_map f l,aF,aJ]
noncomputable def pairs(qs:List (Int×Int)):Int:=(qs.map (cnt qs)).sum
theorem Aah(ps:List (Str×(Int×Int)))(L:UH)(hl:ps.length < 1000000):∃ L',C0 [tupU ps] L=some (.int (pairs (ps.map (·.2))),L')/\Gw L L':=by
 obtain ⟨L',e,g⟩:=Oj ps L hl
 refine ⟨L',?_,g⟩
 have hs:Dq [.tup (ps.map fun p=>.int (cnt (ps.map (·.2)) p.2))] L'=some (.int (pairs (ps.map (·.2))),L'):=by
  simp only[Dq,toI_map,aJ,pairs,fF];rfl
 simp[C0,fnU,Gk,tupU,e,hs]
theorem N9{L:UH}{k p:Nat}{m:List NP}(T:Kept L k p m):Ar [.ref k] L=some (.tup (m.map ptU),L):=by
 have f1:=T.fld (δ:=[some (.ref k)]) (fe:=Ae 0) rfl
 unfold Ar fnU Cu
 simp only[bB,bU,if_true,aM,bW,dN,cB,bT]
 rw[fRet_eq]
 unfold T7
 rw[f1]
 simp only[aF,U6 T.pt,aJ,Afw]
theorem Di{a b:Str}(h:a.cps.toList=b.cps.toList):a=b:=by
 cases a;cases b
 simp only[Str.mk.injEq]
 exact Array.toList_inj.mp h
theorem app_cps(a b:Str):(a++b).cps.toList=a.cps.toList++b.cps.toList:=by
 show (a.cps++b.cps).toList=_
 simp
theorem join_cons(c:Nat)(a b:Str)(r:List Str):(hV ⟨#[c]⟩ (a::b::r)).cps.toList=a.cps.toList++c::(hV ⟨#[c]⟩ (b::r)).cps.toList:=by
 show (a++⟨#[c]⟩++hV ⟨#[c]⟩ (b::r)).cps.toList=_
 rw[app_cps,app_cps]
 simp
theorem Aca{c:Nat}:∀ {a a' r r':List Nat},c∉a->c∉a'->a++c::r=a'++c::r'->a=a'/\r=r'
 | [],[],r,r',_,_,h=>by simp at h;exact ⟨rfl,h⟩
 | [],x::a',r,r',_,h2,h=>by
  simp at h
  exact absurd (by rw[<- h.1];exact bK ..) h2
 | x::a,[],r,r',h1,_,h=>by
  simp at h
  exact absurd (by rw[h.1];exact bK ..) h1
 | x::a,y::a',r,r',h1,h2,h=>by
  simp only[kO,gG] at h
  obtain ⟨e1,e2⟩:=Aca (fun q=>h1 (bD _ q)) (fun q=>h2 (bD _ q)) h.2
  exact ⟨by rw[h.1,e1],e2⟩
theorem Rt(c:Nat):∀ (l l':List Str),l≠[]->l'≠[]->(∀ p∈l,c∉p.cps.toList)->(∀ p∈l',c∉p.cps.toList)->(hV ⟨#[c]⟩ l).cps.toList=(hV ⟨#[c]⟩ l').cps.toList->l=l'
 | [],_,h,_,_,_,_=>absurd rfl h
 | _,[],_,h,_,_,_=>absurd rfl h
 | [a],[b],_,_,_,_,h=>by
  have:a=b:=Di h
  rw[this]
 | [a],b::b'::r,_,_,h1,_,h=>by
  rw[join_cons] at h
  have h':a.cps.toList=b.cps.toList++c::(hV ⟨#[c]⟩ (b'::r)).cps.toList:=h
  exact absurd (by rw[h'];simp) (h1 a (bK ..))
 | a::a'::r,[b],_,_,_,h2,h=>by
  rw[join_cons] at h
  have h':a.cps.toList++c::(hV ⟨#[c]⟩ (a'::r)).cps.toList=b.cps.toList:=h
  exact absurd (by rw[<- h'];simp) (h2 b (bK ..))
 | a::a'::r,b::b'::r',_,_,h1,h2,h=>by
  rw[join_cons,join_cons] at h
  obtain ⟨e1,e2⟩:=Aca (h1 a (bK ..)) (h2 b (bK ..)) h
  have ih:=Rt c (a'::r) (b'::r') (by simp) (by simp) (fun p hp=>h1 p (bD _ hp)) (fun p hp=>h2 p (bD _ hp)) e2
  rw[Di e1,ih]
theorem Y4(x y:Str):dA x y≠[]:=by
 unfold dA
 split
 ·simp
 ·split
  ·simp
  ·rw[StrLaws.partsBetween_eq]
   obtain ⟨p,r,e⟩:=StrLaws.partsFrom_ne x y.length 0 (cA x y 0 x.length (x.length+1))
   rw[e];simp
theorem Ud{c:Nat}{l:List Str}(hne:l≠[])(hf:∀ p∈l,c∉p.cps.toList):dA (hV ⟨#[c]⟩ l) ⟨#[c]⟩=l:=
 Rt c _ l (Y4 _ _) hne (fun p hp=>StrLaws.split_free _ c p hp) hf (by rw[StrLaws.join_split])
noncomputable def dig(n:Nat):List Nat:=if h:n < 10 then [48+n] else dig (n / 10)++[48+n % 10]
termination_by n
decreasing_by omega
theorem N1{n:Nat}(h:n < 10):dig n=[48+n]:=by rw[dig,dif_pos h]
theorem T6{n:Nat}(h:¬ n < 10):dig n=dig (n / 10)++[48+n % 10]:=by rw[dig,dif_neg h]
theorem D5:∀ n:Nat,NumText.AllDigits (dig n)/\dig n≠[]/\NumText.digitsVal (dig n)=n/\(n≠0->∃ c r,dig n=c::r/\c≠48):=by
 intro n
 induction n using oW with
 | _ n ih=>
  by_cases h:n < 10
  ·rw[N1 h]
   refine ⟨fun c hc=>?_,by simp,?_,fun h0=>⟨48+n,[],rfl,by omega⟩⟩
   ·have:c=48+n:=by simpa using hc
    omega
   ·show 0 * 10+(48+n - 48)=n
    omega
  ·obtain ⟨h1,h2,h3,h4⟩:=ih (n / 10) (by omega)
   rw[T6 h]
   refine ⟨fun c hc=>?_,by simp,?_,fun _=>?_⟩
   ·rcases fH.mp hc with q | q
    ·exact h1 c q
    ·have:c=48+n % 10:=by simpa using q
     omega
   ·rw[NumText.digitsVal_snoc,h3];omega
   ·obtain ⟨c,r,e,hc⟩:=h4 (by omega)
    exact ⟨c,r++[48+n % 10],by rw[e];rfl,hc⟩
theorem Q7:∀ (k n:Nat),n < 10 ^ (k+1)->(dig n).length<=k+1
 | 0,n,h=>by rw[N1 (by simpa using h)];simp
 | k+1,n,h=>by
  by_cases hn:n < 10
  ·rw[N1 hn];simp
  ·rw[T6 hn,eF]
   have:=Q7 k (n / 10) (by
    rw[Nat.pow_succ] at h
    exact Nat.div_lt_of_lt_mul (by rw[Nat.mul_comm];exact h))
   simp;omega
noncomputable def fig(n:Int):Str:=⟨((if n < 0 then [45] else [])++dig n.natAbs).toArray⟩
theorem fig_cps(n:Int):(fig n).cps.toList=(if n < 0 then [45] else [])++dig n.natAbs:=by unfold fig;simp
theorem Wc{n:Int}(h:-9999999999<=n/\n<=9999999999):(fig n).length<=11:=by
 have e:(fig n).length=(fig n).cps.toList.length:=by simp[mY]
 rw[e,fig_cps,eF]
 have:=Q7 9 n.natAbs (by omega)
 split <;> simp <;> omega
theorem Aez{n:Int}(h:-9999999999<=n/\n<=9999999999):jP (fig n)=some n:=by
 have hl:=Wc h
 have en:n < 0->-((n.natAbs:Nat):Int)=n:=fun q=>by omega
 have ep:¬ n < 0->((n.natAbs:Nat):Int)=n:=fun q=>by omega
 obtain ⟨h1,h2,h3,_⟩:=D5 n.natAbs
 by_cases h0:n < 0
 ·have hx:(fig n).cps.toList=45::dig n.natAbs:=by rw[fig_cps,if_pos h0];rfl
  rw[PySem.intText_neg hx h1 h2 (by omega),h3,en h0]
 ·have hx:(fig n).cps.toList=dig n.natAbs:=by rw[fig_cps,if_neg h0];rfl
  rw[PySem.intText_digits (by rw[hx];exact h1) (by rw[hx];exact h2) (by omega),hx,h3,ep h0]
theorem S6{n:Int}{c:Nat}(hc:c < 45):c∉(fig n).cps.toList:=fun h=>by
 rw[fig_cps] at h
 rcases fH.mp h with q | q
 ·split at q
  ·have:c=45:=by simpa using q
   omega
  ·simp at q
 ·have:=(D5 n.natAbs).1 c q
  omega
noncomputable def Low(s:Str):Prop:=∀ c∈s.cps.toList,97<=c/\c<=122
noncomputable def Nm(s:Str):Prop:=1<=s.length/\s.length<=8/\Low s
theorem Xi(x:Str)(i:Int)(L:UH):Bs (.str x) (.int i) L=if Cv x.length=true then (L2.atI x.cps.toList i).map fun c=>(.str ⟨#[c]⟩,L) else none:=rfl
theorem Yw{fe:FE}{v:U}{i:Nat}{δ:UE}{L L':UH}(e:fe δ L=some (v,L')):(Hw fe (gN i)) δ L=some (.nx (δ.set i (some v)),L'):=by
 rw[Qd,e]
 simp only[aF,gN_eq,aJ]
theorem T9{f:FN}{i:Nat}{u v:U}{δ:UE}{L L':UH}(h:Ae i δ L=some (u,L))(e:f [u] L=some (v,L')):(El 1 f (Ac (Ae i) Ah)) δ L=some (v,L'):=by
 rw[Le,fCons_eq,h]
 simp only[aF,fNil_eq,aJ,bB,bU,if_true,e]
theorem Ake{f:FN}{fe:FE}{u v:U}{δ:UE}{L L1 L':UH}(h:fe δ L=some (u,L1))(e:f [u] L1=some (v,L')):(El 1 f (Ac fe Ah)) δ L=some (v,L'):=by
 rw[Le,fCons_eq,h]
 simp only[aF,fNil_eq,aJ,bB,bU,if_true,e]
theorem Adk{f:FN}{fa fb:FE}{u w v:U}{δ:UE}{L L1 L2 L':UH}(h:fa δ L=some (u,L1))(h2:fb δ L1=some (w,L2))(e:f [u,w] L2=some (v,L')):(El 2 f (Ac fa (Ac fb Ah))) δ L=some (v,L'):=by
 rw[Le,fCons_eq,h,aF,fCons_eq,h2]
 simp only[aF,fNil_eq,aJ,bB,bU,if_true,e]
theorem fn1{n:Nat}{b:FS}{u v:U}{L L':UH}(h:b (some u::dG n none) L=some (.rt v,L')):fnU (n+1) 1 b [u] L=some (v,L'):=by
 unfold fnU
 simp only[bB,bU,if_true,aM,bW,kO,oV,Nat.add_sub_cancel,h]
 rfl
theorem Du{fe:FE}{v:U}{δ:UE}{L L':UH}(e:fe δ L=some (v,L')):C7 fe δ L=some (.rt v,L'):=by
 rw[fRet_eq,e];rfl
noncomputable def asc(w:Str):Prop:=w.cps.all (· < 128)=true
theorem Eo(w:Str):w.length=w.cps.toList.length:=by simp[mY]
theorem Tf(w signs:Str)(ha:asc w)(hl:w.length<=1000)(L:UH):∃ L',B5 [.str w,.str signs] L=some (.bl (w.cps.toList.all fun c=>decide (c∈signs.cps.toList)),L')/\Gw L L':=by
 have hlc:=Eo w
 have hi:S0 (Ae 0) [some (.str w),some (.str signs)] L=some (.seq (w.cps.toList.map fun c=>.str ⟨#[c]⟩),L):=by
  unfold S0
  simp only[fVar_eq,aV,bN,aJ,aF]
  rw[if_pos (show (w.cps.all (· < 128))=true from ha)];rfl
 obtain ⟨x,e⟩:=Cy (ix:=[none,some 1]) (fi:=S0 (Ae 0)) (it:=.seq (w.cps.toList.map fun c=>U.str ⟨#[c]⟩)) (g:=gN 0) (tt:=none) (fe:=Fy) (δ:=[some (.str w),some (.str signs)]) (L:=L) (L0:=L)
  w.cps.toList (fun c=>U.str ⟨#[c]⟩) (fun _=>true) (fun c=>.bl (decide (c∈signs.cps.toList))) (fun δ=>∃ a,δ = [a,some (.str signs)]) hi (by simp[IU.size]) (by omega) ⟨none,rfl⟩
  (fun k x=>rfl)
  (fun c δ x _ ⟨y,hδ⟩=>by
   subst hδ
   refine ⟨[some (.str ⟨#[c]⟩),some (.str signs)],rfl,⟨_,rfl⟩,[],by simp[Gb],fun _=>⟨[],?_⟩⟩
   have hfo:=StrLaws.found_one signs c
   show some (U.bl (!(cA signs ⟨#[c]⟩ 0 signs.length 1).isEmpty),L++x++[])=_
   rw[hfo];simp)
 have hff:jY (fun _=>true) w.cps.toList=w.cps.toList:=iZ.mpr (fun _ _=>rfl)
 rw[hff] at e
 have q1:Al (L++x++[HU.lst (w.cps.toList.map fun c=>.bl (decide (c∈signs.cps.toList)))]) (L++x).length=some (w.cps.toList.map fun c=>U.bl (decide (c∈signs.cps.toList))):=Bh (by simp)
 have ha:=Wi _ _ q1
 refine ⟨L++x++[HU.lst (w.cps.toList.map fun c=>.bl (decide (c∈signs.cps.toList)))],?_,⟨x++[HU.lst (w.cps.toList.map fun c=>.bl (decide (c∈signs.cps.toList)))],by rw[cR]⟩⟩
 unfold B5 fnU H9
 simp only[bB,bU,if_true,aM,bW,dN,cB,bT,fRet_eq,fCall_eq,fCons_eq,fNil_eq,aJ,aF,e,ha]
theorem Af8:(fN "abcdefghijklmnopqrstuvwxyz").toList=(fO 26).map (97 + ·):=by decide +kernel
theorem Xe:(fN "0123456789").toList=(fO 10).map (48 + ·):=by decide +kernel
theorem Af2{c:Nat}(h:97<=c/\c<=122):c∈(fN "abcdefghijklmnopqrstuvwxyz").toList:=by
 rw[Af8]
 exact pX.mpr ⟨c - 97,gQ.mpr (by omega),by omega⟩
theorem Adf{c:Nat}(h:48<=c/\c<=57):c∈(fN "0123456789").toList:=by
 rw[Xe]
 exact pX.mpr ⟨c - 48,gQ.mpr (by omega),by omega⟩
theorem Q8{w:Str}(h:∀ c∈w.cps.toList,c < 128):asc w:=by
 unfold asc
 rw[<- oJ,bM]
 intro c hc
 exact decide_eq_true (h c hc)
theorem Ach{fa fb fc:FE}{δ:UE}{L:UH}{a b c:Int}(ha:fa δ L=some (.int a,L))(hb:fb δ L=some (.int b,L))(hc:fc δ L=some (.int c,L)):J5 Ir Ir fa fb fc δ L=some (.bl (decide (a<=b)&&decide (b<=c)),L):=by
 unfold J5
 rw[ha,aF,hb]
 cases h:decide (a<=b) <;> simp[h,hc]
theorem Abw{w:Str}(h:w.length<=1000)(L:UH):Bp [.str w] L=some (.int w.length,L):=by
 unfold Bp lenU
 simp only[Ct (show w.length<=16777216 by omega),if_true,aJ]
theorem Ue{w:Str}(h:Nm w)(L:UH):∃ L',J0 [.str w] L=some (.bl true,L')/\Gw L L':=by
 obtain ⟨h1,h2,h3⟩:=h
 obtain ⟨L',e,g⟩:=Tf w "abcdefghijklmnopqrstuvwxyz" (Q8 fun c hc=>by have:=h3 c hc;omega) (by omega) L
 have ht:(w.cps.toList.all fun c=>decide (c∈(fN "abcdefghijklmnopqrstuvwxyz").toList))=true:=bM.mpr fun c hc=>decide_eq_true (Af2 (h3 c hc))
 rw[ht] at e
 refine ⟨L',fn1 (n:=0) ?_,g⟩
 have c1:J5 Ir Ir (fC (.int 1)) (Bv Bp (Ac (Ae 0) Ah)) (fC (.int 8)) [some (.str w)] L=some (.bl true,L):=by
  have hb:(Bv Bp (Ac (Ae 0) Ah)) [some (.str w)] L=some (.int w.length,L):=by
   simp only[fCall_eq,fCons_eq,fNil_eq,fVar_eq,aV,bN,aJ,aF,Abw (show w.length<=1000 by omega)]
  rw[Ach (a:=1) (b:=w.length) (c:=8) rfl hb rfl,decide_eq_true (show (1:Int)<=w.length by omega),decide_eq_true (show (w.length:Int)<=8 by omega)]
  rfl
 show C7 _ [some (.str w)] L=_
 refine Du ?_
 rw[I0,c1]
 simp only[aF,if_true]
 exact Adk (u:=.str w) rfl rfl e
theorem zero_cps:(fN "0").toList=[48]:=by decide +kernel
theorem minus_cps:(fN "-").toList=[45]:=by decide +kernel
theorem Xc:(fN "").toList=[]:=by decide +kernel
theorem Ahi{a b:Str}(h:a.cps.toList≠b.cps.toList):a≠b:=fun q=>h (by rw[q])
theorem Hr{w:Str}(h:asc w):Pl 6 (.str w):=by
 show kY w=true
 unfold kY
 unfold asc at h
 rw[<- oJ,bM] at h ⊢
 intro c hc
 have:=of_decide_eq_true (h c hc)
 exact decide_eq_true (by omega)
theorem Wh{a b:Str}(ha:asc a)(hb:asc b):eqB (.str a) (.str b)=decide (a=b):=by
 rw[lH,Afm (Hr ha) (Hr hb),decide_eq_true_eq]
 exact ⟨fun q=>by injection q,fun q=>by rw[q]⟩
theorem Gy{a b:Str}(ha:asc a)(hb:asc b)(L:UH):Bw (.str a) (.str b) L=some (.bl (decide (a=b)),L):=by
 rw[Aa5 L (Hr ha) (Hr hb),Wh ha hb]
theorem Xl{a b:Str}(ha:asc a)(hb:asc b)(L:UH):C5 (.str a) (.str b) L=some (.bl (!decide (a=b)),L):=by
 rw[Y7 L (Hr ha) (Hr hb),Wh ha hb]
theorem Se:asc "0" := by unfold asc;decide +kernel
theorem Yh:asc "" := by unfold asc;decide +kernel
theorem Af5{c:Nat}(h:c < 128):asc ⟨#[c]⟩:=Q8 fun x hx=>by
 have:x=c:=by simpa using hx
 omega
theorem Afr(n:Int):asc (fig n):=Q8 fun c hc=>by
 rw[fig_cps] at hc
 rcases fH.mp hc with q | q
 ·split at q
  ·have:c=45:=by simpa using q
   omega
  ·simp at q
 ·have:=(D5 n.natAbs).1 c q
  omega
noncomputable def Fi(n:Int):Str:=⟨(dig n.natAbs).toArray⟩
theorem figA_cps(n:Int):(Fi n).cps.toList=dig n.natAbs:=by unfold Fi;simp
theorem Rc(n:Nat):∃ c r,dig n=c::r/\48<=c/\c<=57:=by
 obtain ⟨h1,h2,_,_⟩:=D5 n
 cases e:dig n with
 | nil=>exact absurd e h2
 | cons c r=>exact ⟨c,r,rfl,h1 c (by rw[e];exact bK ..)⟩
theorem Qz(n:Int):hU (fig n) "-" = decide (n < 0):=by
 unfold hU
 rw[StrLaws.subAt_eq,minus_cps,fig_cps]
 have hm:mY "-" = 1:=by rw[Eo,minus_cps];rfl
 have hl:(fig n).length=(fig n).cps.toList.length:=Eo _
 rw[hm,hl,fig_cps]
 obtain ⟨c,r,e,h1,h2⟩:=Rc n.natAbs
 rw[e]
 by_cases h:n < 0
 ·rw[if_pos h,decide_eq_true h]
  simp
 ·rw[if_neg h,decide_eq_false h]
  have:(c == 45)=false:=by simp;omega
  simp[this]
theorem Y8(a len:Nat):eB (some (a:Int)) none 1 len=eB (some (a:Int)) (some (len:Int)) 1 len:=by
 unfold eB
 have h2:¬ ((len:Int) < 0):=by omega
 have e2:max (0:Int) (min (len:Int) (len:Int))=len:=by omega
 simp only[h2,if_false,e2,show ((1:Int) > 0)=True from by simp,if_true]
theorem Xq{x:Str}(h:1<=x.length):(iC x (some 1) none).cps.toList=x.cps.toList.drop 1:=by
 have e:=Y8 1 x.length
 have p:=StrLaws.strSliceIndices_plain (a:=1) (b:=x.length) (len:=x.length) h (aZ _)
 have q:=StrLaws.sliced_plain x (a:=1) (b:=x.length) h (aZ _)
 have i1:((1:Nat):Int)=1:=rfl
 rw[i1] at e p q
 unfold iC
 rw[e]
 have hl:(eB (some 1) (some (x.length:Int)) 1 x.length).length=x.length - 1:=by rw[p];simp
 rw[if_neg (by rw[hl];simp;omega),q]
 have:x.length=x.cps.toList.length:=Eo x
 simp only[fB (by rw[kI];omega:(x.cps.toList.drop 1).length<=x.length - 1)]
theorem Su(n:Int):asc (Fi n):=Q8 fun c hc=>by
 rw[figA_cps] at hc
 have:=(D5 n.natAbs).1 c hc
 omega
theorem Qq{n:Int}(h:-9999999999<=n/\n<=9999999999)(L:UH):∃ L',Gj [.str (fig n)] L=some (.bl true,L')/\Gw L L':=by
 have hlf:=Wc h
 have hst:=Qz n
 have hlA:(Fi n).length<=11:=by
  rw[Eo,figA_cps]
  have h1:(fig n).length=(fig n).cps.toList.length:=Eo _
  rw[fig_cps,eF] at h1
  omega
 obtain ⟨L',e,g⟩:=Tf (Fi n) "0123456789" (Su n) (by omega) L
 have hd:=D5 n.natAbs
 have ht:((Fi n).cps.toList.all fun c=>decide (c∈(fN "0123456789").toList))=true:=bM.mpr fun c hc=>decide_eq_true (Adf (hd.1 c (by rw[figA_cps] at hc;exact hc)))
 rw[ht] at e
 have ty:∀ L,tyU "str" (.str (fig n)) L=true:=fun _=>rfl
 have c0:(G6 (Ep "str" semStarts (Ae 0) (Ac (fC (.str "-")) Ah))) [some (.str (fig n)),none] L=some (decide (n < 0),L):=by
  rw[fTru_eq,Gh]
  simp only[fVar_eq,fCons_eq,fC_eq,fNil_eq,aV,bN,aJ,aF,ty,if_true,semStarts,hst,truU_bl]
 have s1:(Hw (fIf (G6 (Ep "str" semStarts (Ae 0) (Ac (fC (.str "-")) Ah))) (fSl Mr (Ae 0) (Nb (fC (.int 1))) Fs) (Ae 0)) (gN 1)) [some (.str (fig n)),none] L=some (.nx [some (.str (fig n)),some (.str (Fi n))],L):=by
  refine Yw ?_
  rw[Air,c0,aF]
  by_cases h0:n < 0
  ·have hx:(fig n).cps.toList=45::dig n.natAbs:=by rw[fig_cps,if_pos h0];rfl
   have hs:iC (fig n) (some 1) none=Fi n:=by
    apply Di
    rw[Xq (by rw[Eo,hx];simp),hx,figA_cps]
    rfl
   simp only[decide_eq_true h0,if_true,Ai0,fVar_eq,Adc,fNoPart_eq,fC_eq,aV,bN,aJ,aF,Mr]
   rw[if_pos (Ct (by omega)),hs]
  ·have hx:fig n=Fi n:=Di (by rw[fig_cps,if_neg h0,figA_cps];rfl)
   simp only[decide_eq_false h0,dL,if_false,fVar_eq,aV,bN,aJ]
   rw[<- hx]
 have hne:(decide (Fi n = ""))=false:=decide_eq_false (Ahi (by rw[figA_cps,Xc];exact hd.2.1))
 have s2:(Dc (fOr (Be (f2 Bw (Ae 1) (fC (.str "")))) (Qv (G6 (El 2 B5 (Ac (Ae 1) (Ac (fC (.str "0123456789")) Ah)))))) (C7 (fC (.bl false))) B8) [some (.str (fig n)),some (.str (Fi n))] L=some (.nx [some (.str (fig n)),some (.str (Fi n))],L'):=by
  have t1:(Be (f2 Bw (Ae 1) (fC (.str "")))) [some (.str (fig n)),some (.str (Fi n))] L=some (false,L):=by
   rw[fTest_eq,f2_eq]
   simp only[fVar_eq,fC_eq,aV,bP,bN,aJ,aF,Gy (Su n) Yh,hne]
  have t2:(El 2 B5 (Ac (Ae 1) (Ac (fC (.str "0123456789")) Ah))) [some (.str (fig n)),some (.str (Fi n))] L=some (.bl true,L'):=Adk (u:=.str (Fi n)) rfl rfl e
  rw[Li,fOr_eq,t1]
  simp only[aF,dL,if_false,Ws,fTru_eq,t2,truU_bl,aJ,pS,Sa]
 refine ⟨L',fn1 (n:=1) ?_,g⟩
 obtain ⟨c,r,ec,h1,h2⟩:=Rc n.natAbs
 have hix:∀ L,Bs (.str (Fi n)) (.int 0) L=some (.str ⟨#[c]⟩,L):=fun L=>by
  rw[Xi,if_pos (Ct (by omega)),figA_cps,ec,Ab3 (by omega) (by simp)]
  rfl
 have hc0:(decide ((⟨#[c]⟩:Str) = "0"))=decide (c=48):=by
  rw[lH,decide_eq_true_eq,decide_eq_true_eq]
  constructor
  ·intro q
   have:([c]:List Nat)=(fN "0").toList:=by rw[<- q]
   rw[zero_cps] at this
   simpa using this
  ·intro q
   apply Di
   rw[zero_cps,q]
 have s3:(Ado (f2 C5 (f2 Bs (Ae 1) (fC (.int 0))) (fC (.str "0"))) (f2 Bw (Ae 0) (fC (.str "0")))) [some (.str (fig n)),some (.str (Fi n))] L'=some (.bl true,L'):=by
  have t1:(f2 C5 (f2 Bs (Ae 1) (fC (.int 0))) (fC (.str "0"))) [some (.str (fig n)),some (.str (Fi n))] L'=some (.bl (!decide (c=48)),L'):=by
   rw[f2_eq,f2_eq]
   simp only[fVar_eq,fC_eq,aV,bP,bN,aJ,aF,hix,Xl (Af5 (show c < 128 by omega)) Se,hc0]
  rw[Af1,t1]
  by_cases q:c=48
  ·have hz:n.natAbs=0:=by
    by_cases z:n.natAbs=0
    ·exact z
    ·obtain ⟨c',r',e',hc'⟩:=hd.2.2.2 z
     rw[ec] at e'
     injection e' with a b
     exact absurd (a.symm.trans q) hc'
   have hn0:n=0:=by omega
   have hf0:fig n = "0" := by
    apply Di
    rw[fig_cps,zero_cps,hn0,if_neg (by decide)]
    show []++dig 0=[48]
    rw[N1 (by decide)];rfl
   have t2:(f2 Bw (Ae 0) (fC (.str "0"))) [some (.str (fig n)),some (.str (Fi n))] L'=some (.bl true,L'):=by
    rw[f2_eq]
    simp only[fVar_eq,fC_eq,aV,bN,aJ,aF,Gy (Afr n) Se,decide_eq_true hf0]
   rw[decide_eq_true q]
   simp only[aF,pS,dL,if_false,t2]
  ·rw[decide_eq_false q]
   simp only[aF,Bool.not_false,if_true]
 unfold Ko
 show Ce _ _ [some (.str (fig n)),none] L=_
 rw[Fj s1,Fj s2]
 exact Du s3
theorem Ga{c:FT}{f:FS}{δ:UE}{L L':UH}(h:c δ L=some (false,L')):Dc c f B8 δ L=some (.nx δ,L'):=by
 rw[Li,h];rfl
theorem Gu{f:FE}{δ:UE}{L L':UH}{b:Bool}(h:f δ L=some (.bl b,L')):Be f δ L=some (b,L'):=by
 rw[fTest_eq,h];rfl
theorem Fz{s:S2}{fa fb:FE}{δ:UE}{L L1 L2 L3:UH}{u v w:U}(h1:fa δ L=some (u,L1))(h2:fb δ L1=some (v,L2))(h:s u v L2=some (w,L3)):f2 s fa fb δ L=some (w,L3):=by
 rw[f2_eq,h1];simp only[aF,h2,h]
theorem fnN{n k:Nat}{b:FS}{us:List U}{v:U}{L L':UH}(hn:us.length=k)(h:b (us.map some++dG (n - k) none) L=some (.rt v,L')):fnU n k b us L=some (v,L'):=by
 subst hn
 unfold fnU
 rw[if_pos rfl,h]
 rfl
theorem Mh{s:SC}{fa:FE}{u v:U}{δ:UE}{L L1 L2:UH}(h:fa δ L=some (u,L1))(e:s [u] L1=some (v,L2)):(Bv s (Ac fa Ah)) δ L=some (v,L2):=by
 rw[fCall_eq,fCons_eq,h];exact e
theorem Lk{fe:FE}{δ:UE}{L L':UH}(h:fe δ L=some (.bl true,L')):(Qv (G6 fe)) δ L=some (false,L'):=by
 rw[Ws,fTru_eq,h];rfl
theorem Up{l:List U}{k:Nat}{u:U}(h:l[k]? = some u):L2.atI l (k:Int)=some u:=by
 have:=(aX.mp h).1
 rw[Ab3 (by omega) (by omega),gX,h]
theorem Ub{L:UH}{n:Nat}{l:List U}{i:Int}{u:U}(h:L[n]? = some (.lst l))(hu:L2.atI l i=some u):Bs (.ref n) (.int i) L=some (u,L):=by
 rw[Xj,Bh h]
 simp only[aF,hu,aJ]
theorem Am9{fa:FE}{u:U}{δ:UE}{L L':UH}(h:fa δ L=some (u,L')):(Hj (Ac fa Ah)) δ L=some (.tup [u],L'):=by
 rw[fTup_eq,fCons_eq,h]
 simp only[aF,fNil_eq,aJ]
 rw[if_pos (Ct (by show 1<=16777216;decide))]
theorem Aj6{fa fb fc:FE}{u v w:U}{δ:UE}{L:UH}(h:fa δ L=some (u,L))(h2:fb δ L=some (v,L))(h3:fc δ L=some (w,L)):(Hj (Ac fa (Ac fb (Ac fc Ah)))) δ L=some (.tup [u,v,w],L):=by
 rw[fTup_eq,fCons_eq,h,aF,fCons_eq,h2,aF,fCons_eq,h3]
 simp only[aF,fNil_eq,aJ]
 rw[if_pos (Ct (by show 3<=16777216;decide))]
theorem Dj{fe:FE}{g:FA}{δ:UE}{L L1 L2:UH}{u:U}{us:List U}(h1:fe δ L=some (u,L1))(h2:g δ L1=some (us,L2)):Ac fe g δ L=some (u::us,L2):=by
 rw[fCons_eq,h1,aF,h2];rfl
theorem Qh{c:FT}{f g:FS}{δ:UE}{L L':UH}(h:c δ L=some (true,L')):Dc c f g δ L=f δ L':=by
 rw[Li,h];rfl
theorem neI{fa fb:FE}{u:Int}{δ:UE}{L L1 L2:UH}(h1:fa δ L=some (.int u,L1))(h2:fb δ L1=some (.int u,L2)):(Be (f2 C5 fa fb)) δ L=some (false,L2):=by
 rw[fTest_eq,f2_eq,h1,aF,h2,aF,Ym]
 simp
theorem orF{a b:FT}{δ:UE}{L L1 L2:UH}(h1:a δ L=some (false,L1))(h2:b δ L1=some (false,L2)):fOr a b δ L=some (false,L2):=by
 rw[fOr_eq,h1,aF]
 exact h2
theorem P7(a b:Str):(a++b).length=a.length+b.length:=by
 show (a.cps++b.cps).size=a.cps.size+b.cps.size
 rw[Array.size_append]
theorem O6{δ:UE}{L:UH}:∀ (fs:List FE) (out:Str),(∀ f∈fs,∃ x:Str,f δ L=some (.str x,L)/\x.length<=1000)->out.length+1000 * fs.length<=16777216->∃ s,goJ out fs δ L=some (.str s,L)
 | [],out,_,_=>⟨out,rfl⟩
 | f::r,out,h,hl=>by
  obtain ⟨x,e,hx⟩:=h f bK
  rw[bB] at hl
  have hb:(out++x).length+1000 * r.length<=16777216:=by rw[P7];omega
  obtain ⟨s,hs⟩:=O6 r (out++x) (fun g hg=>h g (bD _ hg)) hb
  refine ⟨s,?_⟩
  unfold goJ
  simp only[e,aF]
  rw[if_pos (Ct (by omega)),hs]
theorem Yb{δ:UE}{L:UH}(fs:List FE)(h:∀ f∈fs,∃ x:Str,f δ L=some (.str x,L)/\x.length<=1000)(hl:fs.length<=100):∃ s,Dg fs δ L=some (.str s,L):=O6 fs fT h (by show 0+_<=_;omega)
theorem Ab1{δ:UE}{L:UH}(x:Str)(h:x.length<=1000):∃ y:Str,fC (.str x) δ L=some (.str y,L)/\y.length<=1000:=⟨x,rfl,h⟩
theorem Afv{δ:UE}{L:UH}{a b c:FE}(ha:∃ x:Str,a δ L=some (.str x,L)/\x.length<=1000)(hb:∃ x:Str,b δ L=some (.str x,L)/\x.length<=1000)(hc:∃ x:Str,c δ L=some (.str x,L)/\x.length<=1000):∃ s,Dg [a,b,c] δ L=some (.str s,L):=
 Yb _ (fun f hf=>by
  rcases bV.mp hf with rfl | hf
  ·exact ha
  ·rcases bV.mp hf with rfl | hf
   ·exact hb
   ·rcases bV.mp hf with rfl | hf
    ·exact hc
    ·cases hf) (by show 3<=100;decide)
theorem Mt{C:Str}{F:FN}{g:FA}{δ:UE}{L L1:UH}{u:U}{fs:List (Str×U)}(hg:g δ L=some ([u],L1))(hF:F [.ref L1.length,u] (L1++[.exc C true []])=some (.non,L1++[.exc C true fs])) :
  Bu C 2 F g δ L=some (.ref L1.length,L1++[.exc C true fs]):=by
 unfold Bu
 simp only[hg,aF]
 rw[if_pos ⟨rfl,by simp⟩,hF]
 rfl
theorem O0{Cs:List Str}{L:UH}{n:Nat}{C:Str}{fr:Bool}{fs:List (Str×U)}(hL:L[n]? = some (.exc C fr fs))(hC:C∈Cs):Oy Cs (.ref n) L=some (n,C,fs):=by
 unfold Oy
 simp only[hL]
 rw[if_pos hC]
theorem Ah7:(fN " ").toList=[32]:=by decide +kernel
theorem Akn:(" " : Str)=⟨#[32]⟩:=Di (by rw[Ah7])
theorem Aka:∀ d:Nat,d < 10->(Nat.digitChar d).toNat=48+d:=by decide
theorem Ajh(m:Nat):dig m=(kZ 10 m).map nG:=by
 induction m using oW with
 | _ m ih=>
  by_cases h:m < 10
  ·rw[kP h,N1 h,aM,bW,Aka m h]
  ·have hm:m % 10 < 10:=Nat.mod_lt m (by decide)
   have t:kZ 10 (m / 10)++kZ 10 (m % 10)=kZ 10 (10 * (m / 10)+m % 10):=Nat.toDigits_append_toDigits (by decide) (by omega) hm
   rw[Nat.div_add_mod] at t
   rw[<- t,lK,kP hm,T6 h,ih (m / 10) (by omega),aM,bW,Aka _ hm]
theorem Ah5(s:String):(fU s).cps.toList=s.toList.map nG:=by rw[Str.ofString_eq_toList,List.toList_toArray]
theorem Ad5(n:Int):Nj n=fig n:=by
 apply Di
 unfold Nj
 rw[Ah5,fig_cps,Ajh]
 cases n with
 | ofNat m=>
  rw[if_neg (by show ¬ ((m:Nat):Int) < 0;omega)]
  show (Nat.repr m).toList.map nG=[]++_
  rw[oX];rfl
 | negSucc m=>
  rw[if_pos (by show Int.negSucc m < 0;omega)]
  show ("-" ++ Nat.repr (m+1)).toList.map nG=_
  rw[String.toList_append,lK,oX]
  rfl
theorem Aet{n:Int}(h:-9999999999<=n/\n<=9999999999):G9 n=true:=by
 unfold G9
 simp only[cC,decide_eq_true_eq]
 omega
theorem U1{f g:FS}{δ:UE}{L L':UH}{v:U}(h:f δ L=some (.rt v,L')):Ce f g δ L=some (.rt v,L'):=by rw[fSeq_eq,h];rfl
theorem B7{f g:FS}{δ δ':UE}{L L':UH}{r:Option (Fl×UH)}(h:f δ L=some (.nx δ',L'))(k:g δ' L'=r):Ce f g δ L=r:=by rw[Fj h,k]
theorem eqS{a b:Str}(ha:asc a)(hb:asc b){fe:FE}{δ:UE}{L L1:UH}(hv:fe δ L=some (.str a,L1)):(Be (f2 Bw fe (fC (.str b)))) δ L=some (decide (a=b),L1):=
 Gu (Fz hv rfl (Gy ha hb L1))
theorem Vb:asc "name" := by unfold asc;decide +kernel
theorem Sb:asc "number" := by unfold asc;decide +kernel
theorem Afs:asc "place" := by unfold asc;decide +kernel
theorem Ur{w:Str}(h:Nm w)(L:UH):∃ L',Ek [.str w,.str "name"] L=some (.str w,L')/\Gw L L':=by
 obtain ⟨L1,e,g⟩:=Ue h L
 refine ⟨L1,fnN (n:=2) rfl ?_,g⟩
 show Ej [some (.str w),some (.str "name")] L=_
 unfold Ej
 refine U1 ?_
 rw[Qh (by rw[eqS Vb Vb rfl,decide_eq_true rfl])]
 refine B7 (Ga (Lk (T9 rfl e))) ?_
 exact Du rfl
theorem Ai2{n:Int}(h:0<=n/\n<=999):(fig n).length<=3:=by
 rw[Eo,fig_cps,if_neg (by omega)]
 exact Q7 2 n.natAbs (by omega)
theorem Aa0(a b:Str):(fJ a b).length<=a.length:=by
 obtain ⟨i,hi,e⟩:=PyProof.Rows.lstripChars_is_suffix a b
 rw[e]
 exact PySem.le_strSub _ _ _
theorem Iw{n:Int}(h:0<=n/\n<=999)(L:UH):∃ L',Ek [.str (fig n),.str "number"] L=some (.int n,L')/\Gw L L':=by
 obtain ⟨L1,e,g⟩:=Qq (n:=n) (by omega) L
 have hl:=Ai2 h
 have hs:=Aa0 (fig n) "-"
 have n1:¬ (("number" : Str) = "name"):=by decide +kernel
 have n2:¬ (("number" : Str) = "place"):=by decide +kernel
 refine ⟨L1,fnN (n:=2) rfl ?_,g⟩
 show Ej [some (.str (fig n)),some (.str "number")] L=_
 unfold Ej
 refine B7 (Ga (by rw[eqS Sb Vb rfl,decide_eq_false n1])) ?_
 have hg:(Be (f2 Vu (Bv Bp (Ac (Ep "str" D2 (Ae 0) (Ac (fC (.str "-")) Ah)) Ah)) (fC (.int 10)))) [some (.str (fig n)),some (.str "number")] L1=some (false,L1):=by
  have e0:(Ep "str" D2 (Ae 0) (Ac (fC (.str "-")) Ah)) [some (.str (fig n)),some (.str "number")] L1=some (.str (fJ (fig n) "-"),L1):=by
   rw[Gh]
   simp[tyU,D2];omega
  refine Gu (Fz (Mh e0 (Abw (by omega) L1)) rfl ?_)
  rw[X9]
  have:¬ (((fJ (fig n) "-").length:Int) > 10):=by omega
  simp[this]
 refine B7 (Ga (orF (Lk (T9 rfl e)) hg)) ?_
 refine B7 (L':=L1) (Ga ?_) ?_
 ·rw[Afp,eqS Sb Afs rfl,decide_eq_false n2];rfl
 refine Du ?_
 have hi:Ib [.str (fig n)] L1=some (.int n,L1):=by
  unfold Ib
  simp only[Aez (n:=n) (by omega),aJ]
  rw[if_pos (by omega)]
 exact Mh rfl hi
noncomputable abbrev Wv:=Str×Str×U
theorem Rr{L:UH}{r:Nat}{w0:Str}{as:List Wv}(hr:L[r]? = some (.lst ((w0::as.map (·.1)).map U.str)))(hf:C1.lookup w0=some (as.map (·.2.1)))(hl:as.length<=10)
  (hv:∀ a∈as,∀ M:UH,∃ M',Ek [.str a.1,.str a.2.1] M=some (a.2.2,M')/\Gw M M') :
  ∃ L',Ei [.ref r] L=some (.tup (as.map (·.2.2)),L')/\Gw L L':=by
 have i0:(f2 Bs (Ae 0) (fC (.int 0))) [some (.ref r),none] L=some (.str w0,L):=Fz rfl rfl (Ub hr (by exact Up (k:=0) rfl))
 have s1:(Hw (Qs C1 (f2 Bs (Ae 0) (fC (.int 0)))) (gN 1)) [some (.ref r),none] L=some (.nx [some (.ref r),some (.tup ((as.map (·.2.1)).map U.str))],L):=by
  refine Yw (i:=1) (δ:=[some (.ref r),none]) ?_
  unfold Qs
  rw[i0]
  simp only[aF,hf]
 have c1:(Be (f2 Vf (Ae 1) (fC .non))) [some (.ref r),some (.tup ((as.map (·.2.1)).map U.str))] L=some (false,L):=rfl
 have c2:(Be (f2 C5 (Bv Bp (Ac (Ae 1) Ah)) (f2 P5 (Bv Bp (Ac (Ae 0) Ah)) (fC (.int 1))))) [some (.ref r),some (.tup ((as.map (·.2.1)).map U.str))] L=some (false,L):=by
  have h1:Bp [.tup ((as.map (·.2.1)).map U.str)] L=some (.int (as.length:Nat),L):=by simp[Bp,lenU]
  refine neI (Mh rfl h1) (Fz (Mh rfl (Wy hr)) rfl ?_)
  rw[T5]
  simp
 generalize hL1:L++[HU.lst ((as.map (·.1)).map U.str)]=L1
 have hs:(fSl Ny (Ae 0) (Nb (fC (.int 1))) Fs) [some (.ref r),some (.tup ((as.map (·.2.1)).map U.str))] L=some (.ref L.length,L1):=by
  subst hL1
  have:Ny (.ref r) (some 1) none L=some (.ref L.length,L++[HU.lst ((as.map (·.1)).map U.str)]):=by
   show Option.map (fun l=>(U.ref (iH L),L++[HU.lst (Xf l (some 1) none)])) (Al L r)=_
   rw[Bh hr]
   simp[Xf,HT.sIx]
   exact fB (by simp)
  exact this
 have hr1:L1[L.length]? = some (.lst ((as.map (·.1)).map U.str)):=by subst hL1;simp
 have hsq:=Bh hr1
 have hz:Wu (Ac (fSl Ny (Ae 0) (Nb (fC (.int 1))) Fs) (Ac (Ae 1) Ah)) [some (.ref r),some (.tup ((as.map (·.2.1)).map U.str))] L=some (.zipL L.length ((as.map (·.2.1)).map U.str),L1):=by
  unfold Wu
  rw[fCons_eq,hs]
  simp only[aF,fCons_eq,fNil_eq,aJ]
  show ((Al L1 L.length).map _)=_
  rw[hsq];rfl
 have hp:Fo ((as.map (·.1)).map U.str) ((as.map (·.2.1)).map U.str)=as.map fun a=>U.tup [.str a.1,.str a.2.1]:=by
  clear hr hf hl hv i0 s1 c1 c2 hs hL1 hr1 hsq hz
  induction as with
  | nil=>rfl
  | cons a as ih=>simp only[aM];unfold Fo at ih ⊢;simp only[List.zip_cons_cons,aM,ih]
 obtain ⟨x,ec⟩:=Cy (ix:=[none,none]) (g:=MR.gTup 2 (MR.gCons (gN 0) (MR.gCons (gN 1) MR.gNil))) (tt:=none) (fe:=En) as (fun a=>U.tup [.str a.1,.str a.2.1]) (fun _=>true) (·.2.2) (fun δ=>δ.length=2) hz
  (by show _<=(match Al L1 L.length with | some us=>min us.length _ | none=>0);rw[hsq];simp) (by omega) rfl
  (fun k x=>by show (Al (L1++x) L.length).map _=_;rw[D8 hsq,aJ,<- hp,Ho])
  (fun a δ x ha hδ=>by
   match δ,hδ with
   | [u0,u1],_=>
    refine ⟨[some (.str a.1),some (.str a.2.1)],rfl,rfl,[],?_,fun _=>?_⟩
    ·simp[Gb]
    ·obtain ⟨M',em,z,hz2⟩:=hv a ha (L1++x++[])
     subst hz2
     exact ⟨z,Adk rfl rfl em⟩)
 have hfl:as.filter (fun _=>true)=as:=by simp
 rw[hfl] at ec
 refine ⟨L1++x++[.lst (as.map (·.2.2))],?_,by subst hL1;exact ⟨_,by rw[cR,cR]⟩⟩
 refine fn1 (n:=1) ?_
 show Eg [some (.ref r),none] L=_
 unfold Eg
 refine B7 s1 (B7 (Ga (orF c1 c2)) (Du (Mh ec ?_)))
 have:Al (L1++x++[HU.lst (as.map (·.2.2))]) (L1++x).length=some (as.map (·.2.2)):=Bh (by simp)
 simp only[Ef,this]
 rfl
noncomputable abbrev CS3:List Str:=["NoPlace","NoAsk","NoName"]
theorem inA:("NoAsk" : Str)∈CS3:=by decide +kernel
theorem inP:("NoPlace" : Str)∈CS3:=by decide +kernel
theorem inN:("NoName" : Str)∈CS3:=by decide +kernel
theorem Sd{M:UH}{C:Str}{x:U}(hC:C∈CS3):(Er (Dl CS3 (Ac (Ae 0) (Ac (Ae 1) Ah)))) [some (.ref M.length),some x] (M++[.exc C true []])=some (.nx [some (.ref M.length),some x],M++[.exc C true []]):=by
 have h1:(M++[HU.exc C true []])[M.length]? = some (.exc C true []):=by simp
 have h2:(Dl CS3 (Ac (Ae 0) (Ac (Ae 1) Ah))) [some (.ref M.length),some x] (M++[.exc C true []])=some (.non,M++[.exc C true []]):=by
  unfold Dl
  simp only[fCons_eq,fNil_eq,fVar_eq,aV,bP,bN,aJ,aF,h1]
  rw[if_pos hC]
 rw[Mz,h2];rfl
theorem Acx(x:U)(M:UH):A7 [.ref M.length,x] (M++[.exc "NoAsk" true []])=some (.non,M++[.exc "NoAsk" true []]):=by
 unfold A7 fnU E7
 simp only[bB,bU,if_true,aM,bW,dN,cB,bT]
 rw[Sd inA];rfl
theorem Uc(x:U)(M:UH):Aw [.ref M.length,x] (M++[.exc "NoPlace" true []])=some (.non,M++[.exc "NoPlace" true []]):=by
 unfold Aw fnU D9
 simp only[bB,bU,if_true,aM,bW,dN,cB,bT]
 rw[Sd inP];rfl
theorem Xv{x:Str}(hx:(reprText x).length<=1000)(M:UH):Am [.ref M.length,.str x] (M++[.exc "NoName" true []])=some (.non,M++[.exc "NoName" true [("word",.str x)]]):=by
 have h1:(M++[HU.exc "NoName" true []])[M.length]? = some (.exc "NoName" true []):=by simp
 generalize hN:M++[HU.exc "NoName" true []]=N at h1
 obtain ⟨s,hs⟩:=Afv (δ:=[some (.ref M.length),some (.str x)]) (L:=N) (Ab1 "the name " (by decide)) (b:=Ph (Ae 1)) ⟨reprText x,by
  unfold Ph
  simp only[fVar_eq,bP,aV,bN,aJ,aF]
  rw[if_pos (Ct (by omega))],hx⟩ (Ab1 " is refused here" (by decide))
 have s1:(Er (Dl CS3 (Ac (Ae 0) (Ac (Dg [(fC (.str "the name ")),(Ph (Ae 1)),(fC (.str " is refused here"))]) Ah)))) [some (.ref M.length),some (.str x)] N=some (.nx [some (.ref M.length),some (.str x)],N):=by
  have h2:(Dl CS3 (Ac (Ae 0) (Ac (Dg [(fC (.str "the name ")),(Ph (Ae 1)),(fC (.str " is refused here"))]) Ah))) [some (.ref M.length),some (.str x)] N=some (.non,N):=by
   unfold Dl
   simp only[fCons_eq,fNil_eq,hs,fVar_eq,aV,bN,aJ,aF,h1]
   rw[if_pos inN]
  rw[Mz,h2];rfl
 have s2:(Wl CS3 "word" (Ae 0) (Ae 1)) [some (.ref M.length),some (.str x)] N=some (.nx [some (.ref M.length),some (.str x)],N.set M.length (.exc "NoName" true [("word",.str x)])):=by
  unfold Wl
  simp only[fVar_eq,bP,aV,bN,aJ,aF,h1]
  rw[if_pos inN]
 unfold Am fnU Em
 simp only[bB,bU,if_true,aM,bW,dN,cB,bT]
 rw[Fj s1,s2,<- hN]
 simp
theorem Adq:(reprText "ab").length<=1000:=by decide +kernel
theorem isx{L:UH}{n i:Nat}{C D:Str}{fr:Bool}{fs:List (Str×U)}{δ:UE}(h:L[n]? = some (.exc C fr fs))(hC:C∈CS3)(hv:Ae i δ L=some (.ref n,L)):J3 CS3 D (Ae i) δ L=some (.bl (isX C D),L):=by
 unfold J3
 rw[hv]
 simp only[aF,O0 h hC,aJ]
theorem Ac0{L:UH}{n:Nat}{C:Str}{fr:Bool}{fs:List (Str×U)}(h:L[n]? = some (.exc C fr fs))(hC:C∈CS3)(hc:[isX C "NoAsk",isX C "NoName",isX C "NoPlace"].count true=1):∃ L',J7 [.ref n] L=some (.int 1,L')/\Gw L L':=by
 refine ⟨_,fnN (n:=1) rfl ?_,Gw.new L [.lst ([isX C "NoAsk",isX C "NoName",isX C "NoPlace"].map U.bl)]⟩
 show Jj [some (.ref n)] L=_
 unfold Jj
 refine Du ?_
 have hl:(Q0 (Ac (J3 CS3 "NoAsk" (Ae 0)) (Ac (J3 CS3 "NoName" (Ae 0)) (Ac (J3 CS3 "NoPlace" (Ae 0)) Ah)))) [some (.ref n)] L=some (.ref L.length,L++[.lst ([isX C "NoAsk",isX C "NoName",isX C "NoPlace"].map U.bl)]):=by
  rw[Jc,Dj (isx h hC rfl) (Dj (isx h hC rfl) (Dj (isx h hC rfl) rfl))]
  rfl
 have key:∀ bs:List Bool,bs.count true=1->(if tyU "list" (.ref L.length) (L++[HU.lst (bs.map U.bl)])=true then E9 (.ref L.length) [.bl true] (L++[HU.lst (bs.map U.bl)]) else none)=some (.int 1,L++[HU.lst (bs.map U.bl)]):=fun bs hb=>by
  have h1:(L++[HU.lst (bs.map U.bl)])[L.length]? = some (.lst (bs.map U.bl)):=by simp
  have h2:Ee (L++[HU.lst (bs.map U.bl)]) L.length=some (bs.map U.bl):=by unfold Ee;rw[h1]
  have h3:mapO toB (bs.map U.bl)=some bs:=by have:=Tt bs id;simpa using this
  rw[if_pos (Afl h1)]
  unfold E9
  simp only[h2,aF,h3,aJ,hb]
  rfl
 rw[Gh,hl]
 exact key _ hc
theorem Aeo{L:UH}{n:Nat}{C:Str}{fr:Bool}{fs:List (Str×U)}{a b c:Option U}(h:L[n]? = some (.exc C fr fs))(hC:C∈CS3)(h1:isX C "BelowError" = true)(h2:isX C "ValueError" = true)(hc:[isX C "NoAsk",isX C "NoName",isX C "NoPlace"].count true=1) :
  ∃ L',Iy [a,b,c,some (.ref n)] L=some (.nx [a,b,c,some (.ref n)],L')/\Gw L L':=by
 obtain ⟨L1,e,g⟩:=Ac0 h hC hc
 refine ⟨L1,?_,g⟩
 unfold Iy
 refine Ga (orF (Lk (by rw[isx h hC rfl,h1])) (orF (Lk (by rw[isx h hC rfl,h2])) (neI (T9 rfl e) rfl)))
structure Dk(L:UH)(d k p:Nat)(m:List NP):Prop where
 ob:L[d]? = some (.ins "Desk" [("kept",.ref k)])
 kp:Kept L k p m
theorem Dk.gw{L L':UH}{d k p:Nat}{m:List NP}(T:Dk L d k p m)(g:Gw L L'):Dk L' d k p m:=⟨g.get T.ob,T.kp.gw g⟩
theorem Dk.ne{L:UH}{d k p:Nat}{m:List NP}(T:Dk L d k p m):d≠p:=fun h=>by
 have h1:=T.ob
 rw[h,T.kp.pt] at h1
 cases h1
theorem Dk.set{L:UH}{d k p:Nat}{m m':List NP}(T:Dk L d k p m):Dk (L.set p (.dic (kG ptU m'))) d k p m':=
 ⟨by rw[cG (eY T.ne)];exact T.ob,T.kp.set⟩
theorem dk_lk(k:Nat):cX ("kept" : Str) [(("kept" : Str),U.ref k)]=some (.ref k):=rfl
theorem Akx{s:Str}(k:Nat)(h:(s == "kept")=false):cX s [(("kept" : Str),U.ref k)]=none:=by rw[bI,h];rfl
theorem Dk.fld{L:UH}{d k p:Nat}{m:List NP}(T:Dk L d k p m){δ:UE}{fe:FE}(h:fe δ L=some (.ref d,L)):G5 "Desk" "kept" fe δ L=some (.ref k,L):=by
 unfold G5
 rw[h]
 simp only[aF,Jb T.ob,dk_lk,aJ]
theorem Wn{L L1 L2:UH}{d k p n:Nat}{m:List NP}{s:Str}{F:FN}{fo:FE}{g:FA}{δ:UE}{us:List U}{v:U}(T:Dk L d k p m)(hno:(s == "kept")=false)(ho:fo δ L=some (.ref d,L))(hg:g δ L=some (us,L1))(hk:us.length+1=n)(e:F (.ref d::us) L1=some (v,L2)):(Bt "Desk" s n F fo g) δ L=some (v,L2):=by
 unfold Bt
 simp only[ho,aF,Jb T.ob,Akx (s:=s) k hno,if_true,hg,hk,e]
theorem Agk{L L1 L2:UH}{k p n:Nat}{m:List NP}{s:Str}{F:FN}{fo:FE}{g:FA}{δ:UE}{us:List U}{v:U}(T:Kept L k p m)(hno:(s == "points")=false)(ho:fo δ L=some (.ref k,L))(hg:g δ L=some (us,L1))(hk:us.length+1=n)(e:F (.ref k::us) L1=some (v,L2)):(Bt "KeptPoints" s n F fo g) δ L=some (v,L2):=by
 unfold Bt
 simp only[ho,aF,Jb T.ob,Ajr (s:=s) p hno,if_true,hg,hk,e]
theorem Qr{fe:FE}{v:U}{δ:UE}{L L':UH}(e:fe δ L=some (v,L')):Er fe δ L=some (.nx δ,L'):=by
 rw[Mz,e];rfl
theorem n1:(("put_point" : Str) == "points")=false:=by decide +kernel
theorem n7:(("points_now" : Str) == "points")=false:=by decide +kernel
theorem d1:(("need_room" : Str) == "kept")=false:=by decide +kernel
theorem d2:(("change_points" : Str) == "kept")=false:=by decide +kernel
theorem d3:(("ask" : Str) == "kept")=false:=by decide +kernel
theorem Ago:asc "put" := by unfold asc;decide +kernel
theorem P2{L:UH}{d k p:Nat}{m:List NP}{δ:UE}{i:Nat}(T:Dk L d k p m)(hi:Ae i δ L=some (.ref d,L)):(Bt "KeptPoints" "points_now" 1 Ar (G5 "Desk" "kept" (Ae i)) Ah) δ L=some (.tup (m.map ptU),L):=
 Agk T.kp n7 (T.fld hi) (us:=[]) rfl rfl (N9 T.kp)
theorem Ae7{L:UH}{d k p:Nat}{m:List NP}(T:Dk L d k p m)(hl:m.length < 60):B1 [.ref d] L=some (.non,L):=by
 have h1:Bp [.tup (m.map ptU)] L=some (.int (m.length:Nat),L):=by simp[Bp,lenU]
 have h2:(Be (f2 We (Bv Bp (Ac (Bt "KeptPoints" "points_now" 1 Ar (G5 "Desk" "kept" (Ae 0)) Ah) Ah)) (fC (.int 60)))) [some (.ref d)] L=some (false,L):=by
  refine Gu (Fz (Mh (P2 T rfl) h1) rfl ?_)
  rw[Xm]
  have:¬ ((m.length:Int) ≥ 60):=by omega
  simp[this]
 have h3:De [some (.ref d)] L=some (.nx [some (.ref d)],L):=by
  unfold De
  exact Ga h2
 unfold B1 fnU
 simp only[bB,bU,if_true,aM,bW,dN,cB,bT]
 rw[h3];rfl
theorem X6{L:UH}{d k p:Nat}{m:List NP}{nm:Str}{x y:Int}(T:Dk L d k p m)(hl:m.length < 60)(h:Sm m nm=false) :
  Bc [.ref d,.str "put",.tup [.str nm,.int x,.int y]] L=some (.non,L.set p (.dic (kG ptU (Mp m nm (x,y))))):=by
 have e:=Afq (nm:=nm) (x:=x) (y:=y) T.kp h (by omega)
 have s1:(Er (Bt "Desk" "need_room" 1 B1 (Ae 0) Ah)) [some (.ref d),some (.str "put"),some (.tup [.str nm,.int x,.int y])] L=some (.nx [some (.ref d),some (.str "put"),some (.tup [.str nm,.int x,.int y])],L):=
  Qr (Wn T d1 rfl (us:=[]) rfl rfl (Ae7 T hl))
 have s2:(Er (Bt "KeptPoints" "put_point" 4 A8 (G5 "Desk" "kept" (Ae 0)) (Ac (f2 Bs (Ae 2) (fC (.int 0))) (Ac (f2 Bs (Ae 2) (fC (.int 1))) (Ac (f2 Bs (Ae 2) (fC (.int 2))) Ah))))) [some (.ref d),some (.str "put"),some (.tup [.str nm,.int x,.int y])] L=some (.nx [some (.ref d),some (.str "put"),some (.tup [.str nm,.int x,.int y])],L.set p (.dic (kG ptU (Mp m nm (x,y))))):=
  Qr (Agk T.kp n1 (T.fld rfl) (us:=[.str nm,.int x,.int y]) rfl rfl e)
 have s3:Cc [some (.ref d),some (.str "put"),some (.tup [.str nm,.int x,.int y])] L=some (.nx [some (.ref d),some (.str "put"),some (.tup [.str nm,.int x,.int y])],L.set p (.dic (kG ptU (Mp m nm (x,y))))):=by
  unfold Cc
  rw[Qh (by rw[eqS Ago Ago rfl,decide_eq_true rfl]),Fj s1,s2]
 unfold Bc fnU
 simp only[bB,bU,if_true,aM,bW,dN,cB,bT]
 rw[s3];rfl
theorem Aef:(fN "put ab ").toList=[112,117,116,32,97,98,32]:=by decide +kernel
theorem R5:(fN "put").toList=[112,117,116]:=by decide +kernel
theorem Ul:(fN "ab").toList=[97,98]:=by decide +kernel
theorem Aha:(fN " 1").toList=[32,49]:=by decide +kernel
theorem Am7:fig 1 = "1" := by decide +kernel
theorem Ae0:(fig 1).cps.toList=[49]:=by rw[Am7];decide +kernel
noncomputable def Dz(n:Int):Str := "put ab " ++ fig n ++ " 1"
theorem Ae6(n:Int):Dz n=hV ⟨#[32]⟩ ["put","ab",fig n,fig 1]:=by
 apply Di
 have j1:(hV ⟨#[32]⟩ [fig 1]).cps.toList=[49]:=by rw[<- Ae0];rfl
 rw[join_cons,join_cons,join_cons,j1,R5,Ul]
 unfold Dz
 rw[app_cps,app_cps,Aef,Aha]
 simp
theorem Ak1:Nm "ab" := by
 refine ⟨by decide +kernel,by decide +kernel,?_⟩
 unfold Low
 rw[Ul]
 decide
theorem U8{n:Int}(h:0<=n/\n<=999):dA (Dz n) " " = (["put","ab",fig n,fig 1]:List Str):=by
 rw[Ae6,Akn]
 refine Ud (by simp) fun p hp=>?_
 simp only[bV,eD,or_false] at hp
 rcases hp with rfl | rfl | rfl | rfl
 ·rw[R5];decide
 ·rw[Ul];decide
 ·exact S6 (by omega)
 ·exact S6 (by omega)
theorem Vq{n:Int}(h:0<=n/\n<=999):(Dz n).length<=1000:=by
 have:=Ai2 h
 unfold Dz
 rw[P7,P7]
 have h1:("put ab " : Str).length=7:=by decide +kernel
 have h2:(" 1" : Str).length=2:=by decide +kernel
 omega
theorem Tr{d:U}{line:Str}{ws:List Str}{L:UH}(hw:dA line " " = ws)(hl:line.length<=1000) :
  (Hw (Ep "str" E5 (Ae 1) (Ac (fC (.str " ")) Ah)) (gN 2)) [some d,some (.str line),none,none] L=some (.nx [some d,some (.str line),some (.ref L.length),none],L++[.lst (ws.map U.str)]):=by
 refine Yw (i:=2) (δ:=[some d,some (.str line),none,none]) ?_
 rw[Gh]
 have h1:((" " : Str).length == 0)=false:=by decide +kernel
 have h2:E5 (.str line) [.str " "] L=some (.ref L.length,L++[.lst (ws.map U.str)]):=by
  unfold E5
  simp only
  rw[if_pos ⟨h1,by omega⟩,hw]
 exact h2
theorem Abr:C1.lookup ("put" : Str)=some (["name","number","number"]:List Str):=by decide +kernel
theorem U2:C1.lookup ("pairs" : Str)=some []:=by decide +kernel
theorem Ahh(L:UH):Kq false (.str "put") (.tup [.str "put",.str "take",.str "move"]) L=some (.bl true,L):=by kernel_rfl
theorem Abn(L:UH):Kq false (.str "pairs") (.tup [.str "put",.str "take",.str "move"]) L=some (.bl false,L):=by kernel_rfl
theorem Adv{L:UH}{d k p:Nat}{m:List NP}{n:Int}(T:Dk L d k p m)(h:0<=n/\n<=999)(hl:m.length < 60)(hm:Sm m "ab" = false) :
  ∃ r L',C9 [.ref d,.str (Dz n)] L=some (.ref r,L')/\L'[r]? = some (.lst [])/\Dk L' d k p (Mp m "ab" (n,1)):=by
 have s1:=Tr (d:=.ref d) (L:=L) (U8 h) (Vq h)
 have T1:=T.gw (Gw.new L [.lst ((["put","ab",fig n,fig 1]:List Str).map U.str)])
 have hr:(L++[HU.lst ((["put","ab",fig n,fig 1]:List Str).map U.str)])[L.length]? = some (.lst ((["put","ab",fig n,fig 1]:List Str).map U.str)):=by simp
 generalize L++[HU.lst ((["put","ab",fig n,fig 1]:List Str).map U.str)]=L1 at s1 T1 hr
 obtain ⟨L2,e2,g2⟩:=Rr (L:=L1) (r:=L.length) (w0 := "put") (as:=[("ab","name",.str "ab"),(fig n,"number",.int n),(fig 1,"number",.int 1)]) hr Abr (by simp)
  (fun a ha M=>by
   simp only[bV,eD,or_false] at ha
   rcases ha with rfl | rfl | rfl
   ·exact Ur Ak1 M
   ·exact Iw h M
   ·exact Iw (by omega) M)
 have T2:=T1.gw g2
 have hr2:=g2.get hr
 have s2:=Yw (i:=3) (δ:=[some (.ref d),some (.str (Dz n)),some (.ref L.length),none]) (T9 (i:=2) rfl e2)
 have i0:(f2 Bs (Ae 2) (fC (.int 0))) [some (.ref d),some (.str (Dz n)),some (.ref L.length),some (.tup [.str "ab",.int n,.int 1])] L2=some (.str "put",L2):=Fz rfl rfl (Ub hr2 (by exact Up (k:=0) rfl))
 have c3:(Be (f2 (Kq false) (f2 Bs (Ae 2) (fC (.int 0))) (Hj (Ac (fC (.str "put")) (Ac (fC (.str "take")) (Ac (fC (.str "move")) Ah)))))) [some (.ref d),some (.str (Dz n)),some (.ref L.length),some (.tup [.str "ab",.int n,.int 1])] L2=some (true,L2):=
  Gu (Fz i0 (Aj6 rfl rfl rfl) (Ahh L2))
 have e3:=X6 (nm := "ab") (x:=n) (y:=1) T2 hl hm
 have T3:=T2.set (m':=Mp m "ab" (n,1))
 generalize L2.set p (.dic (kG ptU (Mp m "ab" (n,1))))=L3 at e3 T3
 have s3:(Er (Bt "Desk" "change_points" 3 Bc (Ae 0) (Ac (f2 Bs (Ae 2) (fC (.int 0))) (Ac (Ae 3) Ah)))) [some (.ref d),some (.str (Dz n)),some (.ref L.length),some (.tup [.str "ab",.int n,.int 1])] L2=some (.nx [some (.ref d),some (.str (Dz n)),some (.ref L.length),some (.tup [.str "ab",.int n,.int 1])],L3):=
  Qr (Wn T2 d2 rfl (us:=[.str "put",.tup [.str "ab",.int n,.int 1]]) (Dj i0 rfl) rfl e3)
 refine ⟨L3.length,L3++[.lst []],?_,by simp,T3.gw (Gw.new L3 _)⟩
 refine fnN (n:=4) rfl ?_
 show Ea [some (.ref d),some (.str (Dz n)),none,none] L=_
 unfold Ea
 refine B7 s1 (B7 s2 (U1 ?_))
 show (Dc _ _ B8) [some (.ref d),some (.str (Dz n)),some (.ref L.length),some (.tup [.str "ab",.int n,.int 1])] L2=_
 rw[Qh c3,Fj s3]
 refine Du ?_
 rw[Jc];rfl
theorem Ld:asc "pairs" := by unfold asc;decide +kernel
theorem Abg:asc "points" := by unfold asc;decide +kernel
theorem Aci:asc "counts" := by unfold asc;decide +kernel
theorem Ag7(q:Int×Int):pairs [q]=0:=by
 have h:Fb q q=false:=by unfold Fb;simp
 simp[pairs,cnt,jY,h]
theorem Ug{nm:Str}{q:Int×Int}(L:UH):∃ r L',Jq [.str "pairs",.tup ([(nm,q)].map ptU)] L=some (.ref r,L')/\L'[r]? = some (.lst [.tup [.int 0]])/\Gw L L':=by
 obtain ⟨L1,e1,g1⟩:=Aah [(nm,q)] L (by simp)
 rw[show ([(nm,q)].map (·.2))=[q] from rfl,Ag7] at e1
 refine ⟨L1.length,L1++[.lst [.tup [.int 0]]],fnN (n:=2) rfl ?_,by simp,g1.trans (Gw.new L1 _)⟩
 show Jy [some (.str "pairs"),some (.tup ([(nm,q)].map ptU))] L=_
 have n1:¬ (("pairs" : Str) = "points"):=by decide +kernel
 have n2:¬ (("pairs" : Str) = "counts"):=by decide +kernel
 unfold Jy
 refine B7 (Ga (by rw[eqS Ld Abg rfl,decide_eq_false n1])) (B7 (Ga (by rw[eqS Ld Aci rfl,decide_eq_false n2])) (U1 ?_))
 rw[Qh (by rw[eqS Ld Ld rfl,decide_eq_true rfl])]
 refine Du ?_
 rw[Jc,Dj (Am9 (T9 (i:=1) rfl e1)) rfl]
 rfl
theorem Ana:Nj 0 = "0" := by decide +kernel
theorem Ale:pI " " (["0"]:List Str) = "0" := by decide +kernel
theorem Ais(L:UH):∃ L',Gn [.tup [.int 0]] L=some (.str "0",L')/\Gw L L':=by
 obtain ⟨x,ec⟩:=Cy (ix:=[none]) (fi:=Dm (Ae 0)) (g:=gN 0) (tt:=none) (fe:=Cd) (δ:=[some (.tup [.int 0])]) (L:=L) (L0:=L) (it:=.seq [.int 0]) [()] (fun _=>U.int 0) (fun _=>true) (fun _=>U.str "0") (fun δ=>δ.length=1) rfl
  (by simp[IU.size]) (by simp) rfl (fun k x=>rfl)
  (fun a δ x ha hδ=>by
   match δ,hδ with
   | [u0],_=>
    refine ⟨[some (.int 0)],rfl,rfl,[],by simp[Gb],fun _=>⟨[],?_⟩⟩
    unfold Cd
    refine Mh rfl ?_
    show (if G9 0=true then some (U.str (Nj 0),_) else none)=_
    rw[if_pos (by decide),Ana];simp)
 refine ⟨_,fnN (n:=1) rfl ?_,⟨x++[.lst [.str "0"]],by rw[<- cR]⟩⟩
 show Gm [some (.tup [.int 0])] L=_
 unfold Gm
 refine Du ?_
 have h2:Im (.str " ") [.ref (L++x).length] (L++x++[.lst [.str "0"]])=some (.str "0",L++x++[.lst [.str "0"]]):=by
  have h1:Ee (L++x++[HU.lst [.str "0"]]) (L++x).length=some [.str "0"]:=by
   have:(L++x++[HU.lst [.str "0"]])[(L++x).length]? = some (.lst [.str "0"]):=by simp
   unfold Ee;rw[this]
  have h3:mapO toS [U.str "0"]=some (["0"]:List Str):=rfl
  have h4:(" " : Str).length<=16/\((["0"]:List Str).map (·.length)).sum+(["0"]:List Str).length<=1048576:=by decide +kernel
  unfold Im
  simp only[h1,aF,h3]
  rw[if_pos h4,Ale]
 have ha:(Ac (Dx [none] (Dm (Ae 0)) (gN 0) none Cd) Ah) [some (.tup [.int 0])] L=some ([.ref (L++x).length],L++x++[.lst [.str "0"]]):=Dj ec rfl
 rw[Gh,fC_eq,aF]
 show (if true=true then ((Ac (Dx [none] (Dm (Ae 0)) (gN 0) none Cd) Ah) [some (.tup [.int 0])] L).bind _ else none)=_
 rw[if_pos rfl,ha]
 exact h2
theorem Aai{L:UH}{r:Nat}(hr:L[r]? = some (.lst [.tup [.int 0]])):∃ r' L',Ff [.ref r] L=some (.ref r',L')/\L'[r']? = some (.lst [.str "0"])/\Gw L L':=by
 have hsq:=Bh hr
 obtain ⟨x,ec⟩:=Cy (ix:=[none]) (fi:=Dm (Ae 0)) (g:=gN 0) (tt:=some b_rows_shown_1t) (fe:=Fx) (δ:=[some (.ref r)]) (L:=L) (L0:=L) (it:=.ref r) [()] (fun _=>U.tup [.int 0]) (fun _=>true) (fun _=>U.str "0") (fun δ=>δ.length=1)
  (by rw[Nh];show (Lx (.ref r) L).map _=_;rw[Jm hsq];rfl)
  (by rw[Lp hsq];simp) (by simp) rfl (fun k x=>U9 (D8 hsq))
  (fun a δ x ha hδ=>by
   match δ,hδ with
   | [u0],_=>
    refine ⟨[some (.tup [.int 0])],rfl,rfl,[],by simp[Gb,b_rows_shown_1t,Vk],fun _=>?_⟩
    obtain ⟨M',em,z,hz⟩:=Ais (L++x++[])
    subst hz
    exact ⟨z,T9 rfl em⟩)
 refine ⟨(L++x).length,L++x++[.lst [.str "0"]],fnN (n:=1) rfl ?_,by simp,⟨x++[.lst [.str "0"]],by rw[<- cR]⟩⟩
 ·show Fp [some (.ref r)] L=_
  unfold Fp
  exact Du ec
theorem So:dA "pairs" " " = (["pairs"]:List Str):=by decide +kernel
theorem Y0:("pairs" : Str).length<=1000:=by decide +kernel
theorem Yu{L:UH}{d k p:Nat}{nm:Str}{q:Int×Int}(T:Dk L d k p [(nm,q)]) :
  ∃ r L',C9 [.ref d,.str "pairs"] L=some (.ref r,L')/\L'[r]? = some (.lst [.str "0"]):=by
 have s1:=Tr (d:=.ref d) (L:=L) So Y0
 have T1:=T.gw (Gw.new L [.lst ((["pairs"]:List Str).map U.str)])
 have hr:(L++[HU.lst ((["pairs"]:List Str).map U.str)])[L.length]? = some (.lst ((["pairs"]:List Str).map U.str)):=by simp
 generalize L++[HU.lst ((["pairs"]:List Str).map U.str)]=L1 at s1 T1 hr
 obtain ⟨L2,e2,g2⟩:=Rr (L:=L1) (r:=L.length) (w0 := "pairs") (as:=[]) hr U2 (by simp) (fun a ha=>by cases ha)
 have T2:=T1.gw g2
 have hr2:=g2.get hr
 have s2:=Yw (i:=3) (δ:=[some (.ref d),some (.str "pairs"),some (.ref L.length),none]) (T9 (i:=2) rfl e2)
 have i0:(f2 Bs (Ae 2) (fC (.int 0))) [some (.ref d),some (.str "pairs"),some (.ref L.length),some (.tup [])] L2=some (.str "pairs",L2):=Fz rfl rfl (Ub hr2 (by exact Up (k:=0) rfl))
 have c3:(Be (f2 (Kq false) (f2 Bs (Ae 2) (fC (.int 0))) (Hj (Ac (fC (.str "put")) (Ac (fC (.str "take")) (Ac (fC (.str "move")) Ah)))))) [some (.ref d),some (.str "pairs"),some (.ref L.length),some (.tup [])] L2=some (false,L2):=
  Gu (Fz i0 (Aj6 rfl rfl rfl) (Abn L2))
 obtain ⟨r3,L3,e3,h3,g3⟩:=Ug (nm:=nm) (q:=q) L2
 obtain ⟨r4,L4,e4,h4,g4⟩:=Aai h3
 refine ⟨r4,L4,fnN (n:=4) rfl ?_,h4⟩
 show Ea [some (.ref d),some (.str "pairs"),none,none] L=_
 unfold Ea
 refine B7 s1 (B7 s2 (B7 (Ga c3) (B7 (L':=L2) (Ga rfl) (Du (Ake (Adk i0 (P2 T2 rfl) e3) e4)))))
theorem e_app(a:Str):fT++a=a:=by
 apply Di
 rw[app_cps]
 rfl
theorem Uw{out x:Str}{f:FE}{r:List FE}{δ:UE}{L:UH}(h:f δ L=some (.str x,L))(hs:(out++x).length<=1000):goJ out (f::r) δ L=goJ (out++x) r δ L:=by
 show ((f δ L).bind _)=_
 rw[h]
 show (if Cv (out++x).length=true then goJ (out++x) r δ L else none)=_
 rw[if_pos (Ct (by omega))]
theorem Abm{n:Int}(h:0<=n/\n<=999){δ:UE}{L:UH}(hv:Ae 1 δ L=some (.int n,L)):(Dg [(fC (.str "put ab ")),(Tz (Ae 1)),(fC (.str " 1"))]) δ L=some (.str (Dz n),L):=by
 have hl:=Vq h
 have h3:=Ai2 h
 have h7:("put ab " : Str).length=7:=by decide +kernel
 have hf:(Tz (Ae 1)) δ L=some (.str (fig n),L):=by
  unfold Tz
  rw[hv]
  show (if G9 n=true then some (U.str (Nj n),L) else none)=_
  rw[if_pos (Aet (by omega)),Ad5]
 show goJ fT _ δ L=_
 rw[Uw (x := "put ab ") rfl (by rw[e_app];omega),e_app,Uw hf (by rw[P7];omega),Uw (x := " 1") rfl hl]
 rfl
theorem D6:isX "NoAsk" "BelowError" = true/\isX "NoAsk" "ValueError" = true/\isX "NoPlace" "BelowError" = true/\isX "NoPlace" "ValueError" = true/\isX "NoName" "BelowError" = true/\isX "NoName" "ValueError" = true:=by decide +kernel
theorem Je:[isX "NoAsk" "NoAsk",isX "NoAsk" "NoName",isX "NoAsk" "NoPlace"].count true=1/\[isX "NoPlace" "NoAsk",isX "NoPlace" "NoName",isX "NoPlace" "NoPlace"].count true=1/\[isX "NoName" "NoAsk",isX "NoName" "NoName",isX "NoName" "NoPlace"].count true=1:=by decide +kernel
theorem Aj3:asc "ab" := by unfold asc;decide +kernel
theorem a_0:asc "0" := by unfold asc;decide +kernel
theorem Am2{f g:FE}{v:U}{δ:UE}{L L1 L2:UH}(h:f δ L=some (.bl true,L1))(h2:g δ L1=some (v,L2)):Py f g δ L=some (v,L2):=by
 rw[I0,h];simp only[aF,if_true,h2]
theorem mkA(δ:UE)(L:UH):Bu "NoAsk" 2 A7 (Ac (fC (.str "a")) Ah) δ L=some (.ref L.length,L++[.exc "NoAsk" true []]):=Mt rfl (Acx _ L)
theorem mkP(δ:UE)(L:UH):Bu "NoPlace" 2 Aw (Ac (fC (.str "b")) Ah) δ L=some (.ref L.length,L++[.exc "NoPlace" true []]):=Mt rfl (Uc _ L)
theorem mkN(δ:UE)(L:UH):Bu "NoName" 2 Am (Ac (fC (.str "ab")) Ah) δ L=some (.ref L.length,L++[.exc "NoName" true [("word",.str "ab")]]):=Mt rfl (Xv Adq L)
theorem Afd{L:UH}{a b c:Option U}:∃ y L',(Aba (Dm (Hj (Ac (Bu "NoAsk" 2 A7 (Ac (fC (.str "a")) Ah)) (Ac (Bu "NoPlace" 2 Aw (Ac (fC (.str "b")) Ah)) (Ac (Bu "NoName" 2 Am (Ac (fC (.str "ab")) Ah)) Ah))))) (gN 3) Iy) [a,b,c,none] L=some (.nx [a,b,c,y],L')/\Gw L L':=by
 generalize h1:L++[HU.exc "NoAsk" true []]=L1
 generalize h2:L1++[HU.exc "NoPlace" true []]=L2
 generalize h3:L2++[HU.exc "NoName" true [("word",.str "ab")]]=L3
 have x1:L1[L.length]? = some (.exc "NoAsk" true []):=by subst h1;simp
 have x2:L2[L1.length]? = some (.exc "NoPlace" true []):=by subst h2;simp
 have x3:L3[L2.length]? = some (.exc "NoName" true [("word",.str "ab")]):=by subst h3;simp
 have g1:Gw L L1:=by subst h1;exact Gw.new L _
 have g2:Gw L1 L2:=by subst h2;exact Gw.new L1 _
 have g3:Gw L2 L3:=by subst h3;exact Gw.new L2 _
 have hi:(Dm (Hj (Ac (Bu "NoAsk" 2 A7 (Ac (fC (.str "a")) Ah)) (Ac (Bu "NoPlace" 2 Aw (Ac (fC (.str "b")) Ah)) (Ac (Bu "NoName" 2 Am (Ac (fC (.str "ab")) Ah)) Ah))))) [a,b,c,none] L=some (.seq [.ref L.length,.ref L1.length,.ref L2.length],L3):=by
  have e:(Ac (Bu "NoAsk" 2 A7 (Ac (fC (.str "a")) Ah)) (Ac (Bu "NoPlace" 2 Aw (Ac (fC (.str "b")) Ah)) (Ac (Bu "NoName" 2 Am (Ac (fC (.str "ab")) Ah)) Ah))) [a,b,c,none] L=some ([.ref L.length,.ref L1.length,.ref L2.length],L3):=
   Dj (by rw[mkA,h1]) (Dj (by rw[mkP,h2]) (Dj (by rw[mkN,h3]) rfl))
  rw[Nh,fTup_eq,e]
  rfl
 obtain ⟨δ',L',e,⟨y,hy⟩,g⟩:=Ad6 (us:=[.ref L.length,.ref L1.length,.ref L2.length]) (body:=Iy) (g:=gN 3)
  (fun _ δ' M=>(∃ y,δ'=[a,b,c,y])/\Gw L3 M) hi ⟨⟨none,rfl⟩,Gw.refl L3⟩
  (fun j u δ M hu hP=>by
   obtain ⟨⟨y,rfl⟩,gM⟩:=hP
   have hx:∃ C fs n,u = .ref n/\M[n]? = some (.exc C true fs)/\C∈CS3/\isX C "BelowError" = true/\isX C "ValueError" = true/\[isX C "NoAsk",isX C "NoName",isX C "NoPlace"].count true=1:=by
    have hm:u∈[U.ref L.length,.ref L1.length,.ref L2.length]:=eQ hu
    simp only[bV,eD,or_false] at hm
    rcases hm with rfl | rfl | rfl
    ·exact ⟨_,_,_,rfl,gM.get (g3.get (g2.get x1)),inA,D6.1,D6.2.1,Je.1⟩
    ·exact ⟨_,_,_,rfl,gM.get (g3.get x2),inP,D6.2.2.1,D6.2.2.2.1,Je.2.1⟩
    ·exact ⟨_,_,_,rfl,gM.get x3,inN,D6.2.2.2.2.1,D6.2.2.2.2.2,Je.2.2⟩
   obtain ⟨C,fs,n,rfl,h,hC,b1,b2,b3⟩:=hx
   obtain ⟨M',eM,gM'⟩:=Aeo (a:=a) (b:=b) (c:=c) h hC b1 b2 b3
   exact ⟨[a,b,c,some (.ref n)],M,rfl,_,M',.inl eM,⟨_,rfl⟩,gM.trans gM'⟩)
 subst hy
 exact ⟨y,L',e,((g1.trans g2).trans g3).trans g⟩
theorem Acs(ns:List Int)(hl:ns.length<=63):∃ L',Tp [.ref 0] [.ro (ns.map U.int)]=some (.bl true,L'):=by
 have hs:Dq [.ref 0] [.ro (ns.map U.int)]=some (.int ns.sum,[.ro (ns.map U.int)]):=by
  unfold Dq
  simp only[Al,aV,aF]
  rw[show mapO toI (ns.map U.int)=some ns by have:=toI_map (fun x:Int=>x) ns;simpa using this]
  rfl
 generalize hk:ns.sum % 1000=k
 have k0:0<=k/\k<=999:=by omega
 have s1:Hw (f2 Jh (Bv Dq (Ac (Ae 0) Ah)) (fC (.int 1000))) (gN 1) [some (.ref 0),none,none,none] [.ro (ns.map U.int)]=some (.nx [some (.ref 0),some (.int k),none,none],[.ro (ns.map U.int)]):=by
  have e:f2 Jh (Bv Dq (Ac (Ae 0) Ah)) (fC (.int 1000)) [some (.ref 0),none,none,none] [.ro (ns.map U.int)]=some (.int k,[.ro (ns.map U.int)]):=by
   rw[f2_eq,show Bv Dq (Ac (Ae 0) Ah) [some (.ref 0),none,none,none] [.ro (ns.map U.int)]=Dq [.ref 0] [.ro (ns.map U.int)] from rfl,hs]
   show Jh (.int ns.sum) (.int 1000) _=_
   rw[Uu,if_pos (by decide),hk]
  rw[Qd,e]
  rfl
 have s2:(Hw (Tw "Desk" 1 Dr Ah) (gN 2)) [some (.ref 0),some (.int k),none,none] [.ro (ns.map U.int)]=some (.nx [some (.ref 0),some (.int k),some (.ref 1),none],[.ro (ns.map U.int),.ins "Desk" [("kept",.ref 2)],.ins "KeptPoints" (kfl 3),.dic (kG ptU [])]):=by kernel_rfl
 have T0:Dk [.ro (ns.map U.int),.ins "Desk" [("kept",.ref 2)],.ins "KeptPoints" (kfl 3),.dic (kG ptU [])] 1 2 3 []:=⟨rfl,rfl,rfl⟩
 generalize [HU.ro (ns.map U.int),.ins "Desk" [("kept",.ref 2)],.ins "KeptPoints" (kfl 3),.dic (kG ptU [])]=L0 at s2 T0
 obtain ⟨r,L1,e1,h1,T1⟩:=Adv T0 k0 (by simp) rfl
 have hg:(Nt 1 [0] (Ac (Dg [(fC (.str "put ab ")),(Tz (Ae 1)),(fC (.str " 1"))]) Ah)) [some (.ref 0),some (.int k),some (.ref 1),none] L0=some ([.str (Dz k)],L0):=by
  unfold Nt
  rw[Dj (Abm k0 rfl) rfl]
  rfl
 generalize hL2:L1++[HU.lst []]=L2
 have gg:Gw L1 L2:=by subst hL2;exact Gw.new L1 _
 have h2:L2[L1.length]? = some (.lst []):=by subst hL2;simp
 have c3:(Be (f2 C5 (Bt "Desk" "ask" 2 C9 (Ae 2) (Nt 1 [0] (Ac (Dg [(fC (.str "put ab ")),(Tz (Ae 1)),(fC (.str " 1"))]) Ah))) (Q0 Ah))) [some (.ref 0),some (.int k),some (.ref 1),none] L0=some (false,L2):=by
  refine Gu (Fz (Wn T0 d3 rfl (us:=[.str (Dz k)]) hg rfl e1) (v:=.ref L1.length) (L2:=L2) (by rw[Jc,<- hL2];rfl) ?_)
  rw[Xx (Bh (gg.get h1)) (Bh h2) (fun u hu=>by cases hu) (fun u hu=>by cases hu)]
  rfl
 have T2:=T1.gw gg
 obtain ⟨y,L3,e3,g3⟩:=Afd (L:=L2) (a:=some (.ref 0)) (b:=some (.int k)) (c:=some (.ref 1))
 have T3:=T2.gw g3
 generalize hL4:L3++[HU.exc "NoName" true [("word",.str "ab")]]=L4
 have g4:Gw L3 L4:=by subst hL4;exact Gw.new L3 _
 have x4:L4[L3.length]? = some (.exc "NoName" true [("word",.str "ab")]):=by subst hL4;simp
 have T4:=T3.gw g4
 have hw:(Sl CS3 "word" (Bu "NoName" 2 Am (Ac (fC (.str "ab")) Ah))) [some (.ref 0),some (.int k),some (.ref 1),y] L3=some (.str "ab",L4):=by
  unfold Sl
  rw[mkN,hL4]
  simp only[aF,O0 x4 inN]
  rfl
 have hp:Mp [] "ab" (k,1)=([("ab",(k,1))]:List NP):=rfl
 rw[hp] at T4
 obtain ⟨r5,L5,e5,h5⟩:=Yu T4
 have hw2:(f2 Bw (Sl CS3 "word" (Bu "NoName" 2 Am (Ac (fC (.str "ab")) Ah))) (fC (.str "ab"))) [some (.ref 0),some (.int k),some (.ref 1),y] L3=some (.bl true,L4):=
  Fz hw rfl (by rw[Gy Aj3 Aj3,decide_eq_true rfl])
 generalize hL6:L5++[HU.lst [.str "0"]]=L6
 have g6:Gw L5 L6:=by subst hL6;exact Gw.new L5 _
 have x6:L6[L5.length]? = some (.lst [.str "0"]):=by subst hL6;simp
 refine ⟨L6,fn1 (n:=3) ?_⟩
 show Abk [some (.ref 0),none,none,none] [.ro (ns.map U.int)]=_
 unfold Abk
 refine B7 s1 (B7 s2 (B7 (Ga c3) (B7 e3 (Du (Am2 hw2 ?_)))))
 refine Fz (Wn T4 d3 rfl (us:=[.str "pairs"]) rfl rfl e5) (v:=.ref L5.length) (L2:=L6) (by rw[Jc,<- hL6];rfl) ?_
 have hpl:∀ u∈[U.str "0"],Pl 6 u:=fun u hu=>by simp at hu;subst hu;exact Hr a_0
 rw[X7 (Bh (g6.get h5)) (Bh x6) hpl hpl,(Aa8 hpl hpl).mpr rfl]
noncomputable def top(i:Nat):Stmt:=PySem.Challenge.pw_belowpoints_k92_desk_by_names.main.body.getD i (.Pass ⟨0,0,0,0⟩)
noncomputable abbrev Ay:Stmt:=Ai (top 46) 0
theorem Fu:FnScope ["self"] ["self"] (Af Ay):=⟨rfl,rfl,rfl,by decide +kernel,rfl,by decide +kernel,by decide +kernel⟩
noncomputable abbrev Bq:Stmt:=Ai (top 51) 0
theorem Jx:FnScope ["self"] ["self"] (Af Bq):=⟨rfl,rfl,rfl,by decide +kernel,rfl,by decide +kernel,by decide +kernel⟩
noncomputable abbrev Av:Stmt:=Ai (top 46) 4
theorem Eu:FnScope ["self"] ["self"] (Af Av):=⟨rfl,rfl,rfl,by decide +kernel,rfl,by decide +kernel,by decide +kernel⟩
noncomputable abbrev Bl:Stmt:=Ai (top 51) 3
theorem Ig:FnScope ["self"] ["self"] (Af Bl):=⟨rfl,rfl,rfl,by decide +kernel,rfl,by decide +kernel,by decide +kernel⟩
noncomputable abbrev Ax:Stmt:=Ai (top 46) 1
theorem E3:FnScope ["self","name","x","y"] ["self","name","x","y"] (Af Ax):=⟨rfl,rfl,rfl,by decide +kernel,rfl,by decide +kernel,by decide +kernel⟩
noncomputable abbrev A0:Stmt:=Ai (top 51) 2
theorem Gf:FnScope ["self","word","given"] ["self","word","given"] (Af A0):=⟨rfl,rfl,rfl,by decide +kernel,rfl,by decide +kernel,by decide +kernel⟩
noncomputable abbrev Ci:Stmt:=top 14
theorem Ow:FnScope ["word","signs"] ["word","signs"] (Af Ci):=⟨rfl,rfl,rfl,by decide +kernel,rfl,by decide +kernel,by decide +kernel⟩
noncomputable abbrev D3:Stmt:=top 12
theorem Va:FnScope ["word"] ["word"] (Af D3):=⟨rfl,rfl,rfl,by decide +kernel,rfl,by decide +kernel,by decide +kernel⟩
noncomputable abbrev Cw:Stmt:=top 13
theorem Ih:FnScope ["word","figures"] ["word"] (Af Cw):=⟨rfl,rfl,rfl,by decide +kernel,rfl,by decide +kernel,by decide +kernel⟩
noncomputable abbrev Dd:Stmt:=top 53
theorem Rx:FnScope ["word","kind"] ["word","kind"] (Af Dd):=⟨rfl,rfl,rfl,by decide +kernel,rfl,by decide +kernel,by decide +kernel⟩
noncomputable abbrev Bx:Stmt:=top 52
theorem Fv:FnScope ["words","form"] ["words"] (Af Bx):=⟨rfl,rfl,rfl,by decide +kernel,rfl,by decide +kernel,by decide +kernel⟩
noncomputable abbrev Ck:Stmt:=top 10
theorem Ov:FnScope ["one","other"] ["one","other"] (Af Ck):=⟨rfl,rfl,rfl,by decide +kernel,rfl,by decide +kernel,by decide +kernel⟩
noncomputable abbrev Cj:Stmt:=top 19
theorem Oa:FnScope ["places","place"] ["places","place"] (Af Cj):=⟨rfl,rfl,rfl,by decide +kernel,rfl,by decide +kernel,by decide +kernel⟩
noncomputable abbrev Df:Stmt:=top 11
theorem S3:FnScope ["point"] ["point"] (Af Df):=⟨rfl,rfl,rfl,by decide +kernel,rfl,by decide +kernel,by decide +kernel⟩
noncomputable abbrev Cg:Stmt:=top 16
theorem Ha:FnScope ["points","places"] ["points"] (Af Cg):=⟨rfl,rfl,rfl,by decide +kernel,rfl,by decide +kernel,by decide +kernel⟩
noncomputable abbrev By:Stmt:=top 18
theorem K2:FnScope ["points"] ["points"] (Af By):=⟨rfl,rfl,rfl,by decide +kernel,rfl,by decide +kernel,by decide +kernel⟩
noncomputable abbrev D4:Stmt:=top 54
theorem Uy:FnScope ["word","points"] ["word","points"] (Af D4):=⟨rfl,rfl,rfl,by decide +kernel,rfl,by decide +kernel,by decide +kernel⟩
noncomputable abbrev Cz:Stmt:=top 56
theorem Qm:FnScope ["row"] ["row"] (Af Cz):=⟨rfl,rfl,rfl,by decide +kernel,rfl,by decide +kernel,by decide +kernel⟩
noncomputable abbrev Cf:Stmt:=top 55
theorem Ou:FnScope ["rows"] ["rows"] (Af Cf):=⟨rfl,rfl,rfl,by decide +kernel,rfl,by decide +kernel,by decide +kernel⟩
noncomputable abbrev B3:Stmt:=Ai (top 51) 1
theorem Gp:FnScope ["self","line","words","given"] ["self","line"] (Af B3):=⟨rfl,rfl,rfl,by decide +kernel,rfl,by decide +kernel,by decide +kernel⟩
noncomputable abbrev Bm:Stmt:=Ai (top 4) 0
theorem H0:FnScope ["self","text"] ["self","text"] (Af Bm):=⟨rfl,rfl,rfl,by decide +kernel,rfl,by decide +kernel,by decide +kernel⟩
noncomputable abbrev Bf:Stmt:=Ai (top 5) 0
theorem Hn:FnScope ["self","word"] ["self","word"] (Af Bf):=⟨rfl,rfl,rfl,by decide +kernel,rfl,by decide +kernel,by decide +kernel⟩
noncomputable abbrev Bb:Stmt:=Ai (top 3) 0
theorem G7:FnScope ["self","text"] ["self","text"] (Af Bb):=⟨rfl,rfl,rfl,by decide +kernel,rfl,by decide +kernel,by decide +kernel⟩
noncomputable abbrev D7:Stmt:=top 58
theorem Ui:FnScope ["error"] ["error"] (Af D7):=⟨rfl,rfl,rfl,by decide +kernel,rfl,by decide +kernel,by decide +kernel⟩
noncomputable abbrev Hy:Stmt:=top 59
theorem Qt:FnScope ["script","far","desk","error"] ["script"] (Af Hy):=⟨rfl,rfl,rfl,by decide +kernel,rfl,by decide +kernel,by decide +kernel⟩
set_option genInjectivity false
set_option genSizeOf false
set_option genSizeOfSpec false
structure Defs(K:aA)(mg:Str->Option aC)(w:bG) where
 ua:Addr
 ub:ClsF K "KeptPoints" ua
 uc:Addr
 ud:ClsF K "Desk" uc
 ue:Addr
 uf:Addr
 ug:Addr
 uh:Addr
 ui:Addr
 uj:bE
 uk:Fun K "__init__" "KeptPoints.__init__" Ay ui uj
 ul:Binds K uj ["self"] []
 um:Addr
 uo:bE
 uq:Fun K "__init__" "Desk.__init__" Bq um uo
 ur:Binds K uo ["self"] []
 ut:Addr
 uu:bE
 uv:Fun K "points_now" "KeptPoints.points_now" Av ut uu
 uw:Binds K uu ["self"] []
 ux:Meth K ua "points_now" ut
 uy:Addr
 uz:bE
 uA:Fun K "need_room" "Desk.need_room" Bl uy uz
 uB:Binds K uz ["self"] []
 uC:Meth K uc "need_room" uy
 uD:Addr
 uE:bE
 uF:Fun K "put_point" "KeptPoints.put_point" Ax uD uE
 uG:Binds K uE ["self","name","x","y"] []
 uH:Meth K ua "put_point" uD
 uI:Addr
 uJ:bE
 uK:Fun K "change_points" "Desk.change_points" A0 uI uJ
 uL:Binds K uJ ["self","word","given"] []
 uM:Meth K uc "change_points" uI
 uN:Addr
 uO:bE
 uP:Fun K "holds_only" "holds_only" Ci uN uO
 uQ:Binds K uO ["word","signs"] []
 uR:mg "holds_only" = some (.ref uN)
 uS:Addr
 uT:bE
 uU:Fun K "is_name" "is_name" D3 uS uT
 uV:Binds K uT ["word"] []
 uW:mg "is_name" = some (.ref uS)
 uX:Addr
 uY:bE
 uZ:Fun K "is_number" "is_number" Cw uX uY
 u4:Binds K uY ["word"] []
 u5:mg "is_number" = some (.ref uX)
 u6:Addr
 u7:bE
 u8:Fun K "value_of" "value_of" Dd u6 u7
 u9:Binds K u7 ["word","kind"] []
 va:mg "value_of" = some (.ref u6)
 vb:Addr
 vc:bE
 vd:Fun K "given_behind" "given_behind" Bx vb vc
 ve:Binds K vc ["words"] []
 vf:mg "given_behind" = some (.ref vb)
 vg:Addr
 vh:bE
 vi:Fun K "lies_below" "lies_below" Ck vg vh
 vj:Binds K vh ["one","other"] []
 vk:mg "lies_below" = some (.ref vg)
 vm:Addr
 vn:bE
 vo:Fun K "many_below" "many_below" Cj vm vn
 vp:Binds K vn ["places","place"] []
 vq:mg "many_below" = some (.ref vm)
 vt:Addr
 vv:bE
 vw:Fun K "place_of" "place_of" Df vt vv
 vx:Binds K vv ["point"] []
 vy:mg "place_of" = some (.ref vt)
 vz:Addr
 vA:bE
 vB:Fun K "below_each" "below_each" Cg vz vA
 vC:Binds K vA ["points"] []
 vD:mg "below_each" = some (.ref vz)
 vE:Addr
 vF:bE
 vG:Fun K "pairs_in_all" "pairs_in_all" By vE vF
 vH:Binds K vF ["points"] []
 vI:mg "pairs_in_all" = some (.ref vE)
 vJ:Addr
 vK:bE
 vL:Fun K "rows_of" "rows_of" D4 vJ vK
 vM:Binds K vK ["word","points"] []
 vN:mg "rows_of" = some (.ref vJ)
 vO:Addr
 vP:bE
 vQ:Fun K "row_shown" "row_shown" Cz vO vP
 vR:Binds K vP ["row"] []
 vS:mg "row_shown" = some (.ref vO)
 vT:Addr
 vU:bE
 vV:Fun K "rows_shown" "rows_shown" Cf vT vU
 vW:Binds K vU ["rows"] []
 vX:mg "rows_shown" = some (.ref vT)
 vY:Addr
 vZ:bE
 v3:Fun K "ask" "Desk.ask" B3 vY vZ
 v4:Binds K vZ ["self","line"] []
 v5:Meth K uc "ask" vY
 v6:Addr
 v7:bE
 v8:Fun K "__init__" "NoAsk.__init__" Bm v6 v7
 v9:Binds K v7 ["self","text"] []
 wa:Addr
 wb:bE
 wc:Fun K "__init__" "NoName.__init__" Bf wa wb
 wd:Binds K wb ["self","word"] []
 we:Addr
 wf:bE
 wg:Fun K "__init__" "NoPlace.__init__" Bb we wf
 wj:Binds K wf ["self","text"] []
 wk:Addr
 wl:bE
 wm:Fun K "_law_kinds" "_law_kinds" D7 wk wl
 wn:Binds K wl ["error"] []
 wo:mg "_law_kinds" = some (.ref wk)
 wq:Addr
 wt:bE
 wu:Fun K "law" "law" Hy wq wt
 wv:Binds K wt ["script"] []
 ww:mg "law" = some (.ref wq)
 wx:KBinds K vZ ["self","line"] ["line"] (gP 1 1 [0]) (gVP 1 1 [0])
 wy:Mk K uc um
 wz:mg "Desk" = some (.ref uc)
 wA:Mk K ua ui
 wB:mg "KeptPoints" = some (.ref ua)
 wC:aK K aI "BelowError" = some (some (.ref ue))
 wD:mg "BelowError" = some (.ref ue)
 wE:aK K aI "NoAsk" = some (some (.ref uf))
 wF:mg "NoAsk" = some (.ref uf)
 wG:aK K aI "NoName" = some (some (.ref ug))
 wH:mg "NoName" = some (.ref ug)
 wI:aK K aI "NoPlace" = some (some (.ref uh))
 wJ:mg "NoPlace" = some (.ref uh)
 wK:MkX K uf v6
 wL:MkX K ug wa
 wM:MkX K uh we
 wN:BInit K ue
 wO:L9 K ["NoPlace","NoAsk","NoName"] ["BelowError","NoPlace","NoAsk","NoName","ValueError"]=true
 wP:Ac2 K ["NoPlace","NoAsk","NoName"] "word" = true
 wQ:aK K aI "ValueError" = some none
 wR:NoAttr K uc "kept"
 wS:NoAttr K ua "points"
 wT:FormsAt K w mg "FORMS" C1
 wU:∃ t,mg "FIGURES" = some (.str "0123456789" t)
 wV:∃ t,mg "LETTERS" = some (.str "abcdefghijklmnopqrstuvwxyz" t)
 wW:∃ t,mg "LONGEST_NAME" = some (.int 8 t)
 wX:∃ t,mg "MOST_FIGURES" = some (.int 10 t)
 wY:∃ t,mg "MOST_POINTS" = some (.int 60 t)
 wZ:mg "ValueError" = none
 w4:mg "all" = none
 w5:mg "int" = none
 w6:mg "isinstance" = none
 w9:mg "len" = none
 xa:mg "str" = none
 xc:mg "sum" = none
 xf:mg "tuple" = none
 xg:mg "zip" = none
section
variable {P:aW}{w:bG}{K:aA}{mg:Str->Option aC}{base:Heap}
theorem Fg(C:Defs K mg w):FnOk P w K mg base CX0 1 C.ui C.uj ["self"] (spF K 1 C8):=by
 refine Fun.okF (N:=["self"]) C.uk Fu (fun cdv A outer s H E hr=>?_)
 have hu:=hr.units
 exact (Aj (Wr C.ub C.wS (Ak 0) Afj))
theorem Jn(C:Defs K mg w):FnOk P w K mg base CX0 3 C.um C.uo ["self"] (spF K 1 Dr):=by
 refine Fun.okF (N:=["self"]) C.uq Jx (fun cdv A outer s H E hr=>?_)
 have hu:=hr.units
 exact (Aj (Wr C.ud C.wR (Ak 0) (Td C.ub.ns C.wA (Fg C) (hr.mono (by decide)) (by rfl) C.wB C.ul)))
theorem Cq(C:Defs K mg w):FnOk P w K mg base CX0 1 C.ut C.uu ["self"] (spF K 1 Ar):=by
 refine Fun.okF (N:=["self"]) C.uv Eu (fun cdv A outer s H E hr=>?_)
 have hu:=hr.units
 exact (Aj (A9 (Ace rfl (by rfl) C.xf (Jt C.ub C.wS (Ak 0)) ⟨rfl,rfl,rfl,rfl⟩)))
theorem Ii(C:Defs K mg w):FnOk P w K mg base CX0 2 C.uy C.uz ["self"] (spF K 1 B1):=by
 refine Fun.okF (N:=["self"]) C.uA Ig (fun cdv A outer s H E hr=>?_)
 have hu:=hr.units
 exact (Aj (B0 (Bk Aky Ahu (Cp E6 G2 (by rfl) C.w9 fR (Ad (Ln C.ub C.ux (Cq C) (hr.mono (by decide)) C.uw (Jt C.ud C.wR (Ak 0))) Ag)) (Lo (by rfl) C.wY) (Bn _)) (Aj Ba) Bo))
theorem E4(C:Defs K mg w):FnOk P w K mg base CX0 1 C.uD C.uE ["self","name","x","y"] (spF K 4 A8):=by
 refine Fun.okF (N:=["self","name","x","y"]) C.uF E3 (fun cdv A outer s H E hr=>?_)
 have hu:=hr.units
 refine An ?s0 ?t0
 case s0=>exact (B0 (Bk (Ajj hu) Ady (Ak 1) (Jt C.ub C.wS (Ak 0)) (by with_unfolding_all rfl)) (Aj Ba) Bo)
 exact (Aj (Acn hu (Jt C.ub C.wS (Ak 0)) (Ak 1) (Mu (Ad (Ak 1) (Ad (Ak 2) (Ad (Ak 3) Ag))))))
theorem Gd(C:Defs K mg w):FnOk P w K mg base CX0 3 C.uI C.uJ ["self","word","given"] (spF K 3 Bc):=by
 refine Fun.okF (N:=["self","word","given"]) C.uK Gf (fun cdv A outer s H E hr=>?_)
 have hu:=hr.units
 exact (Aj (B0 (Bk (C3 hu) C6 (Ak 1) Az (Bn _)) (An (E8 (Ln C.ud C.uC (Ii C) (hr.mono (by decide)) C.uB (Ak 0))) (Aj (E8 (V9 C.ub C.uH (E4 C) (hr.mono (by decide)) C.uG (Jt C.ud C.wR (Ak 0)) (Ad (He Ez E2 (Ak 2) Co (fun _ _=>rfl)) (Ad (He Ez E2 (Ak 2) Co (fun _ _=>rfl)) (Ad (He Ez E2 (Ak 2) Co (fun _ _=>rfl)) Ag))))))) (Aj (B0 (Bk (C3 hu) C6 (Ak 1) Az (Bn _)) (Aj Ba) (Aj Ba)))))
theorem Hh(C:Defs K mg w):FnOk P w K mg base CX0 1 C.uN C.uO ["word","signs"] (spF K 2 B5):=by
 refine Fun.okF (N:=["word","signs"]) C.uP Ow (fun cdv A outer s H E hr=>?_)
 have hu:=hr.units
 exact (Aj (A9 (Cp (Pf rfl) W6 (by rfl) C.w4 lN (Ad (Gz (N':=["sign","signs"]) (ix:=[none,some 1]) ⟨rfl,rfl,rfl,rfl,rfl,rfl⟩ rfl (Af0 (Ak 0)) (fun _ _ _ _ _ _=>(B9 (i:=0) (show fG (α:=Str) ["sign","signs"] by decide +kernel))) (fun _ _ _ _ _ _=>(Hm Ac1 (Aa1 false) (Ak 0) (Ak 1) (by with_unfolding_all rfl)))) Ag))))
theorem Ua(C:Defs K mg w):FnOk P w K mg base CX0 2 C.uS C.uT ["word"] (spF K 1 J0):=by
 refine Fun.okF (N:=["word"]) C.uU Va (fun cdv A outer s H E hr=>?_)
 have hu:=hr.units
 exact (Aj (A9 (Um (Acg Yv Yv Uo Uo Co (Cp E6 G2 (by rfl) C.w9 fR (Ad (Ak 0) Ag)) (Lo (by rfl) C.wW)) (Qa (B2 (Hh C) (hr.mono (by decide)) (by rfl) C.uR C.uP.kp C.uQ (Ad (Ak 0) (Ad (Rh (by rfl) C.wV) Ag)))))))
theorem Qn(C:Defs K mg w):FnOk P w K mg base CX0 2 C.uX C.uY ["word"] (spF K 1 Gj):=by
 refine Fun.okF (N:=["word","figures"]) C.uZ Ih (fun cdv A outer s H E hr=>?_)
 have hu:=hr.units
 refine An ?s0 ?t0
 case s0=>exact (Fd (i:=1) (by exact Ih.nd) (Aks (Dh (Pj eC jD jE O1 M8 (Ak 0) (Ad Az Ag))) (Tx Adr Afc (Ak 0) (Ri Co) Rk) (Ak 0)))
 refine An ?s1 ?t1
 case s1=>exact (B0 (PWF.pt (M3 (Bk (C3 hu) C6 (Ak 1) Az (Bn _)) (Ll (Iz (Dh (B2 (Hh C) (hr.mono (by decide)) (by rfl) C.uR C.uP.kp C.uQ (Ad (Ak 1) (Ad (Rh (by rfl) C.wU) Ag)))))))) (Aj (A9 W3)) Bo)
 exact (Aj (A9 (Ajs (Hm (Mw hu) Nq (He Ez E2 (Ak 1) Co (fun _ _=>rfl)) Az (Bn _)) (Qa (Hm (C3 hu) C6 (Ak 0) Az (Bn _))))))
theorem Tg(C:Defs K mg w):FnOk P w K mg base CX0 3 C.u6 C.u7 ["word","kind"] (spF K 2 Ek):=by
 refine Fun.okF (N:=["word","kind"]) C.u8 Rx (fun cdv A outer s H E hr=>?_)
 have hu:=hr.units
 refine An ?s0 ?t0
 case s0=>exact (B0 (Bk (C3 hu) C6 (Ak 1) Az (Bn _)) (An (B0 (Iz (Dh (B2 (Ua C) (hr.mono (by decide)) (by rfl) C.uW C.uU.kp C.uV (Ad (Ak 0) Ag)))) (Aj Ba) Bo) (Aj (A9 (Ak 0)))) Bo)
 refine An ?s1 ?t1
 case s1=>exact (B0 (PWF.pt (M3 (Iz (Dh (B2 (Qn C) (hr.mono (by decide)) (by rfl) C.u5 C.uZ.kp C.u4 (Ad (Ak 0) Ag)))) (Ll (Bk Akh Ahw (Cp E6 G2 (by rfl) C.w9 fR (Ad (Pj eC PySem.F.slot_str_lstrip PySem.F.type_str_lstrip X3 Uv (Ak 0) (Ad Az Ag)) Ag)) (Lo (by rfl) C.wX) (Bn _))))) (Aj Ba) Bo)
 refine An ?s2 ?t2
 case s2=>exact (B0 (PWF.pt (Aei (Bk (C3 hu) C6 (Ak 1) Az (Bn _)) (Ab2 (Dh (Pj eC jD jE O1 M8 (Ak 0) (Ad Az Ag)))))) (Aj Ba) Bo)
 exact (Aj (A9 (G1 W9 Ab6 (by rfl) C.w5 (by decide +kernel) (Ad (Ak 0) Ag))))
theorem K5(C:Defs K mg w):FnOk P w K mg base CX0 4 C.vb C.vc ["words"] (spF K 1 Ei):=by
 refine Fun.okF (N:=["words","form"]) C.vd Fv (fun cdv A outer s H E hr=>?_)
 have hu:=hr.units
 refine An ?s0 ?t0
 case s0=>exact (Fd (i:=1) (by exact Fv.nd) (Acl C.wT (by rfl) (He Ez E2 (Ak 0) Co (fun _ _=>rfl)) ⟨rfl,rfl,rfl,rfl⟩))
 refine An ?s1 ?t1
 case s1=>exact (B0 (PWF.pt (M3 (Bk Ag4 Aes (Ak 1) Aji (Bn _)) (Ll (Bk (Mw hu) Nq (Cp E6 G2 (by rfl) C.w9 fR (Ad (Ak 1) Ag)) (Agv Ag8 Aen (Cp E6 G2 (by rfl) C.w9 fR (Ad (Ak 0) Ag)) Co) (Bn _))))) (Aj Ba) Bo)
 exact (Aj (A9 (G1 Hi Pc (by rfl) C.xf (by decide +kernel) (Ad (Gz (N':=["word","kind"]) (ix:=[none,none]) ⟨rfl,rfl,rfl,rfl,rfl,rfl⟩ rfl (Abj (by rfl) C.xg (Ad (Tx Abi Uh (Ak 0) (Ri Co) Rk) (Ad (Ak 1) Ag))) (fun _ _ _ _ _ _=>(V3 rfl (Gv (B9 (i:=0) (show fG (α:=Str) ["word","kind"] by decide +kernel)) (Gv (B9 (i:=1) (show fG (α:=Str) ["word","kind"] by decide +kernel)) Rp)))) (fun _ _ _ _ _ _=>(B2 (Tg C) (hr.mono (by decide)) (by rfl) C.va C.u8.kp C.u9 (Ad (Ak 0) (Ad (Ak 1) Ag))))) Ag))))
theorem Oi(C:Defs K mg w):FnOk P w K mg base CX0 1 C.vg C.vh ["one","other"] (spF K 2 C4):=by
 refine Fun.okF (N:=["one","other"]) C.vi Ov (fun cdv A outer s H E hr=>?_)
 have hu:=hr.units
 exact (Aj (A9 (Um (Hm (Mw hu) Nq (Ak 0) (Ak 1) (Bn _)) (Qa (Cp (Pf rfl) W6 (by rfl) C.w4 lN (Ad (Gz (N':=["number","above"]) (ix:=[none,none]) ⟨rfl,rfl,rfl,rfl,rfl,rfl⟩ rfl (Aa7 (by rfl) C.xg (Ad (Ak 0) (Ad (Ak 1) Ag))) (fun _ _ _ _ _ _=>(V3 rfl (Gv (B9 (i:=0) (show fG (α:=Str) ["number","above"] by decide +kernel)) (Gv (B9 (i:=1) (show fG (α:=Str) ["number","above"] by decide +kernel)) Rp)))) (fun _ _ _ _ _ _=>(Hm Yv Uo (Ak 0) (Ak 1) (Bn _)))) Ag))))))
theorem Oo(C:Defs K mg w):FnOk P w K mg base CX0 2 C.vm C.vn ["places","place"] (spF K 2 D1):=by
 refine Fun.okF (N:=["places","place"]) C.vo Oa (fun cdv A outer s H E hr=>?_)
 have hu:=hr.units
 exact (Aj (A9 (Cp E6 G2 (by rfl) C.w9 fR (Ad (Rg (N':=["other","place"]) (ix:=[none,some 1]) ⟨rfl,rfl,rfl,rfl,rfl,rfl⟩ rfl (Gx (Ak 0)) (fun _ _ _ _ _ _=>(B9 (i:=0) (show fG (α:=Str) ["other","place"] by decide +kernel))) (fun _ _ _ _ _ _=>(Dh (B2 (Oi C) (hr.mono (by decide)) (by rfl) C.vk C.vi.kp C.vj (Ad (Ak 0) (Ad (Ak 1) Ag))))) (fun _ _ _ _ _ _=>(Ak 0))) Ag))))
theorem Tn(C:Defs K mg w):FnOk P w K mg base CX0 1 C.vt C.vv ["point"] (spF K 1 Fe):=by
 refine Fun.okF (N:=["point"]) C.vw S3 (fun cdv A outer s H E hr=>?_)
 have hu:=hr.units
 exact (Aj (A9 (Mu (Ad (He Ez E2 (Ak 0) Co (fun _ _=>rfl)) (Ad (He Ez E2 (Ak 0) Co (fun _ _=>rfl)) Ag)))))
theorem Ox(C:Defs K mg w):FnOk P w K mg base CX0 3 C.vz C.vA ["points"] (spF K 1 D0):=by
 refine Fun.okF (N:=["points","places"]) C.vB Ha (fun cdv A outer s H E hr=>?_)
 have hu:=hr.units
 refine An ?s0 ?t0
 case s0=>exact (Fd (i:=1) (by exact Ha.nd) (Gz (N':=["point"]) (ix:=[none]) ⟨rfl,rfl,rfl,rfl,rfl,rfl⟩ rfl (Gx (Ak 0)) (fun _ _ _ _ _ _=>(B9 (i:=0) (show fG (α:=Str) ["point"] by decide +kernel))) (fun _ _ _ _ _ _=>(B2 (Tn C) (hr.mono (by decide)) (by rfl) C.vy C.vw.kp C.vx (Ad (Ak 0) Ag)))))
 exact (Aj (A9 (G1 Hi Pc (by rfl) C.xf (by decide +kernel) (Ad (Gz (N':=["place","places"]) (ix:=[none,some 1]) ⟨rfl,rfl,rfl,rfl,rfl,rfl⟩ rfl (Gx (Ak 1)) (fun _ _ _ _ _ _=>(B9 (i:=0) (show fG (α:=Str) ["place","places"] by decide +kernel))) (fun _ _ _ _ _ _=>(B2 (Oo C) (hr.mono (by decide)) (by rfl) C.vq C.vo.kp C.vp (Ad (Ak 1) (Ad (Ak 0) Ag))))) Ag))))
theorem K9(C:Defs K mg w):FnOk P w K mg base CX0 4 C.vE C.vF ["points"] (spF K 1 C0):=by
 refine Fun.okF (N:=["points"]) C.vG K2 (fun cdv A outer s H E hr=>?_)
 have hu:=hr.units
 exact (Aj (A9 (Cp (Pd rfl) Wj (by rfl) C.xc lP (Ad (B2 (Ox C) (hr.mono (by decide)) (by rfl) C.vD C.vB.kp C.vC (Ad (Ak 0) Ag)) Ag))))
theorem U4(C:Defs K mg w):FnOk P w K mg base CX0 5 C.vJ C.vK ["word","points"] (spF K 2 Jq):=by
 refine Fun.okF (N:=["word","points"]) C.vL Uy (fun cdv A outer s H E hr=>?_)
 have hu:=hr.units
 refine An ?s0 ?t0
 case s0=>exact (B0 (Bk (C3 hu) C6 (Ak 0) Az (Bn _)) (Aj (A9 (Ak 1))) Bo)
 refine An ?s1 ?t1
 case s1=>exact (B0 (Bk (C3 hu) C6 (Ak 0) Az (Bn _)) (An Ba (Aj Ba)) Bo)
 refine An ?s2 ?t2
 case s2=>exact (B0 (Bk (C3 hu) C6 (Ak 0) Az (Bn _)) (Aj (A9 (Lv (Ad (Mu (Ad (B2 (K9 C) (hr.mono (by decide)) (by rfl) C.vI C.vG.kp C.vH (Ad (Ak 1) Ag)) Ag)) Ag)))) Bo)
 refine An ?s3 ?t3
 case s3=>exact (B0 (Bk (C3 hu) C6 (Ak 0) Az (Bn _)) (Aj Ba) Bo)
 refine An ?s4 ?t4
 case s4=>exact (B0 (Bk (C3 hu) C6 (Ak 0) Az (Bn _)) (Aj Ba) Bo)
 refine An ?s5 ?t5
 case s5=>exact (B0 (Bk (C3 hu) C6 (Ak 0) Az (Bn _)) (An Ba (Aj Ba)) Bo)
 exact (Aj Ba)
theorem Qj(C:Defs K mg w):FnOk P w K mg base CX0 1 C.vO C.vP ["row"] (spF K 1 Gn):=by
 refine Fun.okF (N:=["row"]) C.vQ Qm (fun cdv A outer s H E hr=>?_)
 have hu:=hr.units
 exact (Aj (A9 (Pj eC PySem.F.slot_str_join PySem.F.type_str_join Ad7 Aa6 Az (Ad (Gz (N':=["part"]) (ix:=[none]) ⟨rfl,rfl,rfl,rfl,rfl,rfl⟩ rfl (Gx (Ak 0)) (fun _ _ _ _ _ _=>(B9 (i:=0) (show fG (α:=Str) ["part"] by decide +kernel))) (fun _ _ _ _ _ _=>(G1 Xz Ac3 (by rfl) C.xa (by decide +kernel) (Ad (Ak 0) Ag)))) Ag))))
theorem Og(C:Defs K mg w):FnOk P w K mg base CX0 2 C.vT C.vU ["rows"] (spF K 1 Ff):=by
 refine Fun.okF (N:=["rows"]) C.vV Ou (fun cdv A outer s H E hr=>?_)
 have hu:=hr.units
 exact (Aj (A9 (Rg (N':=["row"]) (ix:=[none]) ⟨rfl,rfl,rfl,rfl,rfl,rfl⟩ rfl (Gx (Ak 0)) (fun _ _ _ _ _ _=>(B9 (i:=0) (show fG (α:=Str) ["row"] by decide +kernel))) (fun _ _ _ _ _ _=>(Dh (Ak 0))) (fun _ _ _ _ _ _=>(B2 (Qj C) (hr.mono (by decide)) (by rfl) C.vS C.vQ.kp C.vR (Ad (Ak 0) Ag))))))
theorem Kv(C:Defs K mg w):FnOk P w K mg base CX0 6 C.vY C.vZ ["self","line"] (spF K 2 C9):=by
 refine Fun.okF (N:=["self","line","words","given"]) C.v3 Gp (fun cdv A outer s H E hr=>?_)
 have hu:=hr.units
 refine An ?s0 ?t0
 case s0=>exact (Fd (i:=2) (by exact Gp.nd) (Pj eC fE PySem.F.type_str_split Ada Ys (Ak 1) (Ad Az Ag)))
 refine An ?s1 ?t1
 case s1=>exact (Fd (i:=3) (by exact Gp.nd) (B2 (K5 C) (hr.mono (by decide)) (by rfl) C.vf C.vd.kp C.ve (Ad (Ak 2) Ag)))
 refine An ?s2 ?t2
 case s2=>exact (B0 (Bk Ac1 (Aa1 false) (He Ez E2 (Ak 2) Co (fun _ _=>rfl)) (Mu (Ad Az (Ad Az (Ad Az Ag)))) (by with_unfolding_all rfl)) (An (E8 (V9 C.ud C.uM (Gd C) (hr.mono (by decide)) C.uL (Ak 0) (Ad (He Ez E2 (Ak 2) Co (fun _ _=>rfl)) (Ad (Ak 3) Ag)))) (Aj (A9 (Lv Ag)))) Bo)
 refine An ?s3 ?t3
 case s3=>exact (B0 (Dh (Ak 3)) (Aj Ba) Bo)
 exact (Aj (A9 (B2 (Og C) (hr.mono (by decide)) (by rfl) C.vX C.vV.kp C.vW (Ad (B2 (U4 C) (hr.mono (by decide)) (by rfl) C.vN C.vL.kp C.vM (Ad (He Ez E2 (Ak 2) Co (fun _ _=>rfl)) (Ad (Ln C.ub C.ux (Cq C) (hr.mono (by decide)) C.uw (Jt C.ud C.wR (Ak 0))) Ag))) Ag))))
theorem Iu(C:Defs K mg w):FnOk P w K mg base CX0 1 C.v6 C.v7 ["self","text"] (spF K 2 A7):=by
 refine Fun.okF (N:=["self","text"]) C.v8 H0 (fun cdv A outer s H E hr=>?_)
 have hu:=hr.units
 exact (Aj (E8 (Mn (AllX.of C.wO) C.wN (by rfl) C.wD (Ad (Ak 0) (Ad (Ak 1) Ag)))))
theorem Eb(C:Defs K mg w):FnOk P w K mg base CX0 1 C.wa C.wb ["self","word"] (spF K 2 Am):=by
 refine Fun.okF (N:=["self","word"]) C.wc Hn (fun cdv A outer s H E hr=>?_)
 have hu:=hr.units
 refine An ?s0 ?t0
 case s0=>exact (E8 (Mn (AllX.of C.wO) C.wN (by rfl) C.wD (Ad (Ak 0) (Ad (Po (.cons Az (.cons (Adj (Ak 1)) (.cons Az .nil)))) Ag))))
 exact (Aj (Y1 C.wO C.wP (Ak 0) (Ak 1)))
theorem G4(C:Defs K mg w):FnOk P w K mg base CX0 1 C.we C.wf ["self","text"] (spF K 2 Aw):=by
 refine Fun.okF (N:=["self","text"]) C.wg G7 (fun cdv A outer s H E hr=>?_)
 have hu:=hr.units
 exact (Aj (E8 (Mn (AllX.of C.wO) C.wN (by rfl) C.wD (Ad (Ak 0) (Ad (Ak 1) Ag)))))
theorem Uq(C:Defs K mg w):FnOk P w K mg base CX0 1 C.wk C.wl ["error"] (spF K 1 J7):=by
 refine Fun.okF (N:=["error"]) C.wm Ui (fun cdv A outer s H E hr=>?_)
 have hu:=hr.units
 exact (Aj (A9 (Pj PySem.F.plainAttrs_list PySem.F.slot_list_count PySem.F.type_list_count Yq Vd (Lv (Ad (Q3 C.wO (by decide) C.wE (Ak 0) (by rfl) C.w6 (by rfl) C.wF) (Ad (Q3 C.wO (by decide) C.wG (Ak 0) (by rfl) C.w6 (by rfl) C.wH) (Ad (Q3 C.wO (by decide) C.wI (Ak 0) (by rfl) C.w6 (by rfl) C.wJ) Ag)))) (Ad W3 Ag))))
theorem Ahq(C:Defs K mg w):FnOk P w K mg base CX0 7 C.wq C.wt ["script"] (spF K 1 Tp):=by
 refine Fun.okF (N:=["script","far","desk","error"]) C.wu Qt (fun cdv A outer s H E hr=>?_)
 have hu:=hr.units
 refine An ?s0 ?t0
 case s0=>exact (Fd (i:=1) (by exact Qt.nd) (Agv Ahg Adp (Cp (Pd rfl) Wj (by rfl) C.xc lP (Ad (Ak 0) Ag)) Co))
 refine An ?s1 ?t1
 case s1=>exact (Fd (i:=2) (by exact Qt.nd) (Td C.ud.ns C.wy (Jn C) (hr.mono (by decide)) (by rfl) C.wz C.ur))
 refine An ?s2 ?t2
 case s2=>exact (B0 (Bk (Mw hu) Nq (Pg C.ud C.v5 (Kv C) (hr.mono (by decide)) C.wx (Ak 2) (Ra (Po (.cons Az (.cons (Ahz (Ak 1)) (.cons Az .nil)))) Wk)) (Lv Ag) (Bn _)) (Aj (A9 W3)) Bo)
 refine An ?s3 ?t3
 case s3=>exact (Aeb PassesOwn.never rfl (Gx (Mu (Ad (Ij C.wE C.wK (Iu C) (hr.mono (by decide)) (by rfl) C.wF C.v9 (Ad Az Ag)) (Ad (Ij C.wI C.wM (G4 C) (hr.mono (by decide)) (by rfl) C.wJ C.wj (Ad Az Ag)) (Ad (Ij C.wG C.wL (Eb C) (hr.mono (by decide)) (by rfl) C.wH C.wd (Ad Az Ag)) Ag))))) (B9 (i:=3) (by exact Qt.nd)) (Aj (B0 (PWF.pt (M3 (Iz (Dh (Q3 C.wO (by decide) C.wC (Ak 3) (by rfl) C.w6 (by rfl) C.wD))) (M3 (Iz (Dh (Aew C.wO (by decide) C.wQ (Ak 3) (by rfl) C.w6 (by rfl) C.wZ))) (Ll (Bk (Mw hu) Nq (B2 (Uq C) (hr.mono (by decide)) (by rfl) C.wo C.wm.kp C.wn (Ad (Ak 3) Ag)) Co (Bn _)))))) (Aj (A9 W3)) Bo)))
 exact (Aj (A9 (Um (Hm (C3 hu) C6 (Afg C.wO C.wP (Ij C.wG C.wL (Eb C) (hr.mono (by decide)) (by rfl) C.wH C.wd (Ad Az Ag))) Az (Bn _)) (Qa (Hm (C3 hu) C6 (Pg C.ud C.v5 (Kv C) (hr.mono (by decide)) C.wx (Ak 2) (Ra Az Wk)) (Lv (Ad Az Ag)) (Bn _))))))
end
theorem Ah4{l:iJ}{w:bG}{K:aA}{h:Heap}{mg:Str->Option aC}{fa:Addr}(X:K.In h)(G:h.Ns aI mg)(hfa:mg "law" = some (.ref fa))
  {od0 an0:Option Addr} {sl0:Array (Option aC)} {oc0 kV0 dc0 pm0 cd0 ct0:aC} {f0:Addr} {od1 an1:Option Addr} {sl1:Array (Option aC)} {oc1 kV1 dc1 pm1 cd1 ct1:aC} {f1:Addr} {od2 an2:Option Addr} {sl2:Array (Option aC)} {oc2 kV2 dc2 pm2 cd2 ct2:aC} {f2:Addr} {od3 an3:Option Addr} {sl3:Array (Option aC)} {oc3 kV3 dc3 pm3 cd3 ct3:aC} {f3:Addr} {od4 an4:Option Addr} {sl4:Array (Option aC)} {oc4 kV4 dc4 pm4 cd4 ct4:aC} {f4:Addr} {od5 an5:Option Addr} {sl5:Array (Option aC)} {oc5 kV5 dc5 pm5 cd5 ct5:aC} {f5:Addr} {od6 an6:Option Addr} {sl6:Array (Option aC)} {oc6 kV6 dc6 pm6 cd6 ct6:aC} {f6:Addr} {od7 an7:Option Addr} {sl7:Array (Option aC)} {oc7 kV7 dc7 pm7 cd7 ct7:aC} {f7:Addr} {od8 an8:Option Addr} {sl8:Array (Option aC)} {oc8 kV8 dc8 pm8 cd8 ct8:aC} {f8:Addr} {od9 an9:Option Addr} {sl9:Array (Option aC)} {oc9 kV9 dc9 pm9 cd9 ct9:aC} {f9:Addr} {od10 an10:Option Addr} {sl10:Array (Option aC)} {oc10 kV10 dc10 pm10 cd10 ct10:aC} {f10:Addr} {od11 an11:Option Addr} {sl11:Array (Option aC)} {oc11 kV11 dc11 pm11 cd11 ct11:aC} {f11:Addr} {od12 an12:Option Addr} {sl12:Array (Option aC)} {oc12 kV12 dc12 pm12 cd12 ct12:aC} {f12:Addr} {od13 an13:Option Addr} {sl13:Array (Option aC)} {oc13 kV13 dc13 pm13 cd13 ct13:aC} {f13:Addr} {od14 an14:Option Addr} {sl14:Array (Option aC)} {oc14 kV14 dc14 pm14 cd14 ct14:aC} {f14:Addr} {od15 an15:Option Addr} {sl15:Array (Option aC)} {oc15 kV15 dc15 pm15 cd15 ct15:aC} {f15:Addr} {od16 an16:Option Addr} {sl16:Array (Option aC)} {oc16 kV16 dc16 pm16 cd16 ct16:aC} {f16:Addr} {od17 an17:Option Addr} {sl17:Array (Option aC)} {oc17 kV17 dc17 pm17 cd17 ct17:aC} {f17:Addr} {od18 an18:Option Addr} {sl18:Array (Option aC)} {oc18 kV18 dc18 pm18 cd18 ct18:aC} {f18:Addr} {od19 an19:Option Addr} {sl19:Array (Option aC)} {oc19 kV19 dc19 pm19 cd19 ct19:aC} {f19:Addr} {od20 an20:Option Addr} {sl20:Array (Option aC)} {oc20 kV20 dc20 pm20 cd20 ct20:aC} {f20:Addr} {od21 an21:Option Addr} {sl21:Array (Option aC)} {oc21 kV21 dc21 pm21 cd21 ct21:aC} {f21:Addr} {od22 an22:Option Addr} {sl22:Array (Option aC)} {oc22 kV22 dc22 pm22 cd22 ct22:aC} {f22:Addr} {od23 an23:Option Addr} {sl23:Array (Option aC)} {oc23 kV23 dc23 pm23 cd23 ct23:aC} {f23:Addr} {od24 an24:Option Addr} {sl24:Array (Option aC)} {oc24 kV24 dc24 pm24 cd24 ct24:aC} {f24:Addr}
  {A_KeptPoints:Addr} (aC_KeptPoints:aK K aI "KeptPoints" = some (some (.ref A_KeptPoints))) (pg_KeptPoints:eU K A_KeptPoints fT=true) (hd_KeptPoints:dP K A_KeptPoints=true) (po_KeptPoints:gU K A_KeptPoints=true) (sa_KeptPoints:aQ K (.ref A_KeptPoints) "__setattr__" = some (some (.builtin "object.__setattr__")))
  {A_Desk:Addr} (aC_Desk:aK K aI "Desk" = some (some (.ref A_Desk))) (pg_Desk:eU K A_Desk fT=true) (hd_Desk:dP K A_Desk=true) (po_Desk:gU K A_Desk=true) (sa_Desk:aQ K (.ref A_Desk) "__setattr__" = some (some (.builtin "object.__setattr__")))
  {A_BelowError:Addr} (xn_BelowError:aK K aI "BelowError" = some (some (.ref A_BelowError)))
  {A_NoAsk:Addr} (xn_NoAsk:aK K aI "NoAsk" = some (some (.ref A_NoAsk)))
  {A_NoName:Addr} (xn_NoName:aK K aI "NoName" = some (some (.ref A_NoName)))
  {A_NoPlace:Addr} (xn_NoPlace:aK K aI "NoPlace" = some (some (.ref A_NoPlace)))
  (ex_NoAsk:Js K A_NoAsk=true) (kc_NoAsk:aT K (.ref A_NoAsk)=true)
  (ex_NoName:Js K A_NoName=true) (kc_NoName:aT K (.ref A_NoName)=true)
  (ex_NoPlace:Js K A_NoPlace=true) (kc_NoPlace:aT K (.ref A_NoPlace)=true)
  (bs_BelowError:eP K (.ref A_BelowError) "__getattribute__" = some (some (.builtin "type.__getattribute__"))) (br_BelowError:oU K A_BelowError (.type "type")=true) (bf_BelowError:Ab7 K A_BelowError=true)
  (xt:L9 K ["NoPlace","NoAsk","NoName"] ["BelowError","NoPlace","NoAsk","NoName","ValueError"]=true)
  (xf_word:Ac2 K ["NoPlace","NoAsk","NoName"] "word" = true)
  (xv:aK K aI "ValueError" = some none)
  (mk_Desk:iO K A_Desk=true) (kc_Desk:aT K (.ref A_Desk)=true)
  (mk_KeptPoints:iO K A_KeptPoints=true) (kc_KeptPoints:aT K (.ref A_KeptPoints)=true)
  (nf_Desk_kept:aQ K (.ref A_Desk) "kept" = some none)
  (nf_KeptPoints_points:aQ K (.ref A_KeptPoints) "points" = some none)
  (a0:aQ K (.ref A_KeptPoints) "__init__" = some (some (.ref f0))) (i0:cV K (.ref f0)=true) (l0:K.lookup f0=some ⟨oc0,od0,.func (bA "__init__" "KeptPoints.__init__" (Aq Ay) (Ao Ay) (Af Ay) .none kV0 dc0 pm0 an0 cd0 ct0),sl0⟩) (c0:bC K cd0 "KeptPoints.__init__" = true) (k0:aT K (.ref f0)=true)
  (a1:aQ K (.ref A_Desk) "__init__" = some (some (.ref f1))) (i1:cV K (.ref f1)=true) (l1:K.lookup f1=some ⟨oc1,od1,.func (bA "__init__" "Desk.__init__" (Aq Bq) (Ao Bq) (Af Bq) .none kV1 dc1 pm1 an1 cd1 ct1),sl1⟩) (c1:bC K cd1 "Desk.__init__" = true) (k1:aT K (.ref f1)=true)
  (a2:aQ K (.ref A_KeptPoints) "points_now" = some (some (.ref f2))) (i2:cV K (.ref f2)=true) (l2:K.lookup f2=some ⟨oc2,od2,.func (bA "points_now" "KeptPoints.points_now" (Aq Av) (Ao Av) (Af Av) .none kV2 dc2 pm2 an2 cd2 ct2),sl2⟩) (c2:bC K cd2 "KeptPoints.points_now" = true) (k2:aT K (.ref f2)=true)
  (a3:aQ K (.ref A_Desk) "need_room" = some (some (.ref f3))) (i3:cV K (.ref f3)=true) (l3:K.lookup f3=some ⟨oc3,od3,.func (bA "need_room" "Desk.need_room" (Aq Bl) (Ao Bl) (Af Bl) .none kV3 dc3 pm3 an3 cd3 ct3),sl3⟩) (c3:bC K cd3 "Desk.need_room" = true) (k3:aT K (.ref f3)=true)
  (a4:aQ K (.ref A_KeptPoints) "put_point" = some (some (.ref f4))) (i4:cV K (.ref f4)=true) (l4:K.lookup f4=some ⟨oc4,od4,.func (bA "put_point" "KeptPoints.put_point" (Aq Ax) (Ao Ax) (Af Ax) .none kV4 dc4 pm4 an4 cd4 ct4),sl4⟩) (c4:bC K cd4 "KeptPoints.put_point" = true) (k4:aT K (.ref f4)=true)
  (a5:aQ K (.ref A_Desk) "change_points" = some (some (.ref f5))) (i5:cV K (.ref f5)=true) (l5:K.lookup f5=some ⟨oc5,od5,.func (bA "change_points" "Desk.change_points" (Aq A0) (Ao A0) (Af A0) .none kV5 dc5 pm5 an5 cd5 ct5),sl5⟩) (c5:bC K cd5 "Desk.change_points" = true) (k5:aT K (.ref f5)=true)
  (a6:aK K aI "holds_only" = some (some (.ref f6))) (l6:K.lookup f6=some ⟨oc6,od6,.func (bA "holds_only" "holds_only" (Aq Ci) (Ao Ci) (Af Ci) .none kV6 dc6 pm6 an6 cd6 ct6),sl6⟩) (c6:bC K cd6 "holds_only" = true) (k6:aT K (.ref f6)=true)
  (a7:aK K aI "is_name" = some (some (.ref f7))) (l7:K.lookup f7=some ⟨oc7,od7,.func (bA "is_name" "is_name" (Aq D3) (Ao D3) (Af D3) .none kV7 dc7 pm7 an7 cd7 ct7),sl7⟩) (c7:bC K cd7 "is_name" = true) (k7:aT K (.ref f7)=true)
  (a8:aK K aI "is_number" = some (some (.ref f8))) (l8:K.lookup f8=some ⟨oc8,od8,.func (bA "is_number" "is_number" (Aq Cw) (Ao Cw) (Af Cw) .none kV8 dc8 pm8 an8 cd8 ct8),sl8⟩) (c8:bC K cd8 "is_number" = true) (k8:aT K (.ref f8)=true)
  (a9:aK K aI "value_of" = some (some (.ref f9))) (l9:K.lookup f9=some ⟨oc9,od9,.func (bA "value_of" "value_of" (Aq Dd) (Ao Dd) (Af Dd) .none kV9 dc9 pm9 an9 cd9 ct9),sl9⟩) (c9:bC K cd9 "value_of" = true) (k9:aT K (.ref f9)=true)
  (a10:aK K aI "given_behind" = some (some (.ref f10))) (l10:K.lookup f10=some ⟨oc10,od10,.func (bA "given_behind" "given_behind" (Aq Bx) (Ao Bx) (Af Bx) .none kV10 dc10 pm10 an10 cd10 ct10),sl10⟩) (c10:bC K cd10 "given_behind" = true) (k10:aT K (.ref f10)=true)
  (a11:aK K aI "lies_below" = some (some (.ref f11))) (l11:K.lookup f11=some ⟨oc11,od11,.func (bA "lies_below" "lies_below" (Aq Ck) (Ao Ck) (Af Ck) .none kV11 dc11 pm11 an11 cd11 ct11),sl11⟩) (c11:bC K cd11 "lies_below" = true) (k11:aT K (.ref f11)=true)
  (a12:aK K aI "many_below" = some (some (.ref f12))) (l12:K.lookup f12=some ⟨oc12,od12,.func (bA "many_below" "many_below" (Aq Cj) (Ao Cj) (Af Cj) .none kV12 dc12 pm12 an12 cd12 ct12),sl12⟩) (c12:bC K cd12 "many_below" = true) (k12:aT K (.ref f12)=true)
  (a13:aK K aI "place_of" = some (some (.ref f13))) (l13:K.lookup f13=some ⟨oc13,od13,.func (bA "place_of" "place_of" (Aq Df) (Ao Df) (Af Df) .none kV13 dc13 pm13 an13 cd13 ct13),sl13⟩) (c13:bC K cd13 "place_of" = true) (k13:aT K (.ref f13)=true)
  (a14:aK K aI "below_each" = some (some (.ref f14))) (l14:K.lookup f14=some ⟨oc14,od14,.func (bA "below_each" "below_each" (Aq Cg) (Ao Cg) (Af Cg) .none kV14 dc14 pm14 an14 cd14 ct14),sl14⟩) (c14:bC K cd14 "below_each" = true) (k14:aT K (.ref f14)=true)
  (a15:aK K aI "pairs_in_all" = some (some (.ref f15))) (l15:K.lookup f15=some ⟨oc15,od15,.func (bA "pairs_in_all" "pairs_in_all" (Aq By) (Ao By) (Af By) .none kV15 dc15 pm15 an15 cd15 ct15),sl15⟩) (c15:bC K cd15 "pairs_in_all" = true) (k15:aT K (.ref f15)=true)
  (a16:aK K aI "rows_of" = some (some (.ref f16))) (l16:K.lookup f16=some ⟨oc16,od16,.func (bA "rows_of" "rows_of" (Aq D4) (Ao D4) (Af D4) .none kV16 dc16 pm16 an16 cd16 ct16),sl16⟩) (c16:bC K cd16 "rows_of" = true) (k16:aT K (.ref f16)=true)
  (a17:aK K aI "row_shown" = some (some (.ref f17))) (l17:K.lookup f17=some ⟨oc17,od17,.func (bA "row_shown" "row_shown" (Aq Cz) (Ao Cz) (Af Cz) .none kV17 dc17 pm17 an17 cd17 ct17),sl17⟩) (c17:bC K cd17 "row_shown" = true) (k17:aT K (.ref f17)=true)
  (a18:aK K aI "rows_shown" = some (some (.ref f18))) (l18:K.lookup f18=some ⟨oc18,od18,.func (bA "rows_shown" "rows_shown" (Aq Cf) (Ao Cf) (Af Cf) .none kV18 dc18 pm18 an18 cd18 ct18),sl18⟩) (c18:bC K cd18 "rows_shown" = true) (k18:aT K (.ref f18)=true)
  (a19:aQ K (.ref A_Desk) "ask" = some (some (.ref f19))) (i19:cV K (.ref f19)=true) (l19:K.lookup f19=some ⟨oc19,od19,.func (bA "ask" "Desk.ask" (Aq B3) (Ao B3) (Af B3) .none kV19 dc19 pm19 an19 cd19 ct19),sl19⟩) (c19:bC K cd19 "Desk.ask" = true) (k19:aT K (.ref f19)=true)
  (a20:aQ K (.ref A_NoAsk) "__init__" = some (some (.ref f20))) (i20:cV K (.ref f20)=true) (l20:K.lookup f20=some ⟨oc20,od20,.func (bA "__init__" "NoAsk.__init__" (Aq Bm) (Ao Bm) (Af Bm) .none kV20 dc20 pm20 an20 cd20 ct20),sl20⟩) (c20:bC K cd20 "NoAsk.__init__" = true) (k20:aT K (.ref f20)=true)
  (a21:aQ K (.ref A_NoName) "__init__" = some (some (.ref f21))) (i21:cV K (.ref f21)=true) (l21:K.lookup f21=some ⟨oc21,od21,.func (bA "__init__" "NoName.__init__" (Aq Bf) (Ao Bf) (Af Bf) .none kV21 dc21 pm21 an21 cd21 ct21),sl21⟩) (c21:bC K cd21 "NoName.__init__" = true) (k21:aT K (.ref f21)=true)
  (a22:aQ K (.ref A_NoPlace) "__init__" = some (some (.ref f22))) (i22:cV K (.ref f22)=true) (l22:K.lookup f22=some ⟨oc22,od22,.func (bA "__init__" "NoPlace.__init__" (Aq Bb) (Ao Bb) (Af Bb) .none kV22 dc22 pm22 an22 cd22 ct22),sl22⟩) (c22:bC K cd22 "NoPlace.__init__" = true) (k22:aT K (.ref f22)=true)
  (a23:aK K aI "_law_kinds" = some (some (.ref f23))) (l23:K.lookup f23=some ⟨oc23,od23,.func (bA "_law_kinds" "_law_kinds" (Aq D7) (Ao D7) (Af D7) .none kV23 dc23 pm23 an23 cd23 ct23),sl23⟩) (c23:bC K cd23 "_law_kinds" = true) (k23:aT K (.ref f23)=true)
  (a24:aK K aI "law" = some (some (.ref f24))) (l24:K.lookup f24=some ⟨oc24,od24,.func (bA "law" "law" (Aq Hy) (Ao Hy) (Af Hy) .none kV24 dc24 pm24 an24 cd24 ct24),sl24⟩) (c24:bC K cd24 "law" = true) (k24:aT K (.ref f24)=true)
  (fm_FORMS:∃ (a:Addr) (l:List (Str×Nat×Addr)) (ep:Nat),aK K aI "FORMS" = some (some (.ref a))/\K.lookup a=some (Aap w.params l ep)/\(a == sysModules)=false/\Fm K l C1)
  {tk_FIGURES:Tok} (v_FIGURES:aK K aI "FIGURES" = some (some (.str "0123456789" tk_FIGURES)))
  {tk_LETTERS:Tok} (v_LETTERS:aK K aI "LETTERS" = some (some (.str "abcdefghijklmnopqrstuvwxyz" tk_LETTERS)))
  {tk_LONGEST_NAME:Tok} (v_LONGEST_NAME:aK K aI "LONGEST_NAME" = some (some (.int 8 tk_LONGEST_NAME)))
  {tk_MOST_FIGURES:Tok} (v_MOST_FIGURES:aK K aI "MOST_FIGURES" = some (some (.int 10 tk_MOST_FIGURES)))
  {tk_MOST_POINTS:Tok} (v_MOST_POINTS:aK K aI "MOST_POINTS" = some (some (.int 60 tk_MOST_POINTS)))
  (z_ValueError:aK K aI "ValueError" = some none)
  (z_all:aK K aI "all" = some none)
  (z_int:aK K aI "int" = some none)
  (z_isinstance:aK K aI "isinstance" = some none)
  (z_len:aK K aI "len" = some none)
  (z_str:aK K aI "str" = some none)
  (z_sum:aK K aI "sum" = some none)
  (z_tuple:aK K aI "tuple" = some none)
  (z_zip:aK K aI "zip" = some none) :
  ∃ fd:bE,(∀ (s:aG) (v:aC),kS s fd ⟨[v],[]⟩ [("script",v)])/\∀ base:Heap,K.In base->base.Ns aI mg->FnOk l.prog w K mg base CX0 7 fa fd ["script"] (spF K 1 Tp):=by
 have e:=hfa.symm.trans (bF X G a24)
 cases e
 have fm_FORMS1:FormsAt K w mg "FORMS" C1:=by
  obtain ⟨a,l,ep,h1,h2,h3,h4⟩:=fm_FORMS
  exact ⟨a,l,ep,bF X G h1,h2,h3,by decide +kernel,h4⟩
 have F0:=Bj (st:=Ay) l0 c0 k0
 have b0:=F0.binds (ps:=["self"]) fun _ _ _ _ _ _=>Gq (fun _=>rfl)
 have F1:=Bj (st:=Bq) l1 c1 k1
 have b1:=F1.binds (ps:=["self"]) fun _ _ _ _ _ _=>Gq (fun _=>rfl)
 have F2:=Bj (st:=Av) l2 c2 k2
 have b2:=F2.binds (ps:=["self"]) fun _ _ _ _ _ _=>Gq (fun _=>rfl)
 have F3:=Bj (st:=Bl) l3 c3 k3
 have b3:=F3.binds (ps:=["self"]) fun _ _ _ _ _ _=>Gq (fun _=>rfl)
 have F4:=Bj (st:=Ax) l4 c4 k4
 have b4:=F4.binds (ps:=["self","name","x","y"]) fun _ _ _ _ _ _=>Al6 (fun _ _ _ _=>rfl)
 have F5:=Bj (st:=A0) l5 c5 k5
 have b5:=F5.binds (ps:=["self","word","given"]) fun _ _ _ _ _ _=>Alc (fun _ _ _=>rfl)
 have F6:=Bj (st:=Ci) l6 c6 k6
 have b6:=F6.binds (ps:=["word","signs"]) fun _ _ _ _ _ _=>Od (fun _ _=>rfl)
 have F7:=Bj (st:=D3) l7 c7 k7
 have b7:=F7.binds (ps:=["word"]) fun _ _ _ _ _ _=>Gq (fun _=>rfl)
 have F8:=Bj (st:=Cw) l8 c8 k8
 have b8:=F8.binds (ps:=["word"]) fun _ _ _ _ _ _=>Gq (fun _=>rfl)
 have F9:=Bj (st:=Dd) l9 c9 k9
 have b9:=F9.binds (ps:=["word","kind"]) fun _ _ _ _ _ _=>Od (fun _ _=>rfl)
 have F10:=Bj (st:=Bx) l10 c10 k10
 have b10:=F10.binds (ps:=["words"]) fun _ _ _ _ _ _=>Gq (fun _=>rfl)
 have F11:=Bj (st:=Ck) l11 c11 k11
 have b11:=F11.binds (ps:=["one","other"]) fun _ _ _ _ _ _=>Od (fun _ _=>rfl)
 have F12:=Bj (st:=Cj) l12 c12 k12
 have b12:=F12.binds (ps:=["places","place"]) fun _ _ _ _ _ _=>Od (fun _ _=>rfl)
 have F13:=Bj (st:=Df) l13 c13 k13
 have b13:=F13.binds (ps:=["point"]) fun _ _ _ _ _ _=>Gq (fun _=>rfl)
 have F14:=Bj (st:=Cg) l14 c14 k14
 have b14:=F14.binds (ps:=["points"]) fun _ _ _ _ _ _=>Gq (fun _=>rfl)
 have F15:=Bj (st:=By) l15 c15 k15
 have b15:=F15.binds (ps:=["points"]) fun _ _ _ _ _ _=>Gq (fun _=>rfl)
 have F16:=Bj (st:=D4) l16 c16 k16
 have b16:=F16.binds (ps:=["word","points"]) fun _ _ _ _ _ _=>Od (fun _ _=>rfl)
 have F17:=Bj (st:=Cz) l17 c17 k17
 have b17:=F17.binds (ps:=["row"]) fun _ _ _ _ _ _=>Gq (fun _=>rfl)
 have F18:=Bj (st:=Cf) l18 c18 k18
 have b18:=F18.binds (ps:=["rows"]) fun _ _ _ _ _ _=>Gq (fun _=>rfl)
 have F19:=Bj (st:=B3) l19 c19 k19
 have b19:=F19.binds (ps:=["self","line"]) fun _ _ _ _ _ _=>Od (fun _ _=>rfl)
 have kp19_0:=Afo (K:=K) (fd:=bA "ask" "Desk.ask" (Aq B3) (Ao B3) (Af B3) .none kV19 dc19 pm19 an19 cd19 ct19) (p := "self") (ps:=["line"]) (ks:=["line"]) (m:=1) (n:=1) (π:=[0]) (by refine Gq ?_;intro _;exact Gq (fun _=>rfl))
 have F20:=Bj (st:=Bm) l20 c20 k20
 have b20:=F20.binds (ps:=["self","text"]) fun _ _ _ _ _ _=>Od (fun _ _=>rfl)
 have F21:=Bj (st:=Bf) l21 c21 k21
 have b21:=F21.binds (ps:=["self","word"]) fun _ _ _ _ _ _=>Od (fun _ _=>rfl)
 have F22:=Bj (st:=Bb) l22 c22 k22
 have b22:=F22.binds (ps:=["self","text"]) fun _ _ _ _ _ _=>Od (fun _ _=>rfl)
 have F23:=Bj (st:=D7) l23 c23 k23
 have b23:=F23.binds (ps:=["error"]) fun _ _ _ _ _ _=>Gq (fun _=>rfl)
 have F24:=Bj (st:=Hy) l24 c24 k24
 have b24:=F24.binds (ps:=["script"]) fun _ _ _ _ _ _=>Gq (fun _=>rfl)
 let C:Defs K mg w:={ ui:=_,uj:=_,uk:=F0,ul:=b0,wA:=⟨mk_KeptPoints,a0,i0,kc_KeptPoints⟩,wB:=bF X G aC_KeptPoints,um:=_,uo:=_,uq:=F1,ur:=b1,wy:=⟨mk_Desk,a1,i1,kc_Desk⟩,wz:=bF X G aC_Desk,ut:=_,uu:=_,uv:=F2,uw:=b2,ux:=⟨a2,i2,k2⟩,uy:=_,uz:=_,uA:=F3,uB:=b3,uC:=⟨a3,i3,k3⟩,uD:=_,uE:=_,uF:=F4,uG:=b4,uH:=⟨a4,i4,k4⟩,uI:=_,uJ:=_,uK:=F5,uL:=b5,uM:=⟨a5,i5,k5⟩,uN:=_,uO:=_,uP:=F6,uQ:=b6,uR:=bF X G a6,uS:=_,uT:=_,uU:=F7,uV:=b7,uW:=bF X G a7,uX:=_,uY:=_,uZ:=F8,u4:=b8,u5:=bF X G a8,u6:=_,u7:=_,u8:=F9,u9:=b9,va:=bF X G a9,vb:=_,vc:=_,vd:=F10,ve:=b10,vf:=bF X G a10,vg:=_,vh:=_,vi:=F11,vj:=b11,vk:=bF X G a11,vm:=_,vn:=_,vo:=F12,vp:=b12,vq:=bF X G a12,vt:=_,vv:=_,vw:=F13,vx:=b13,vy:=bF X G a13,vz:=_,vA:=_,vB:=F14,vC:=b14,vD:=bF X G a14,vE:=_,vF:=_,vG:=F15,vH:=b15,vI:=bF X G a15,vJ:=_,vK:=_,vL:=F16,vM:=b16,vN:=bF X G a16,vO:=_,vP:=_,vQ:=F17,vR:=b17,vS:=bF X G a17,vT:=_,vU:=_,vV:=F18,vW:=b18,vX:=bF X G a18,wx:=kp19_0,vY:=_,vZ:=_,v3:=F19,v4:=b19,v5:=⟨a19,i19,k19⟩,v6:=_,v7:=_,v8:=F20,v9:=b20,wK:=⟨ex_NoAsk,a20,i20,kc_NoAsk⟩,wa:=_,wb:=_,wc:=F21,wd:=b21,wL:=⟨ex_NoName,a21,i21,kc_NoName⟩,we:=_,wf:=_,wg:=F22,wj:=b22,wM:=⟨ex_NoPlace,a22,i22,kc_NoPlace⟩,wk:=_,wl:=_,wm:=F23,wn:=b23,wo:=bF X G a23,wq:=_,wt:=_,wu:=F24,wv:=b24,ww:=bF X G a24,ua:=_,ub:=⟨aC_KeptPoints,⟨pg_KeptPoints,hd_KeptPoints,po_KeptPoints,sa_KeptPoints⟩⟩,uc:=_,ud:=⟨aC_Desk,⟨pg_Desk,hd_Desk,po_Desk,sa_Desk⟩⟩,ue:=_,wC:=xn_BelowError,wD:=bF X G xn_BelowError,uf:=_,wE:=xn_NoAsk,wF:=bF X G xn_NoAsk,ug:=_,wG:=xn_NoName,wH:=bF X G xn_NoName,uh:=_,wI:=xn_NoPlace,wJ:=bF X G xn_NoPlace,wN:=⟨bs_BelowError,br_BelowError,bf_BelowError⟩,wO:=xt,wP:=xf_word,wQ:=xv,wR:=nf_Desk_kept,wS:=nf_KeptPoints_points,wT:=fm_FORMS1,wU:=⟨_,bF X G v_FIGURES⟩,wV:=⟨_,bF X G v_LETTERS⟩,wW:=⟨_,bF X G v_LONGEST_NAME⟩,wX:=⟨_,bF X G v_MOST_FIGURES⟩,wY:=⟨_,bF X G v_MOST_POINTS⟩,wZ:=cT X G z_ValueError,w4:=cT X G z_all,w5:=cT X G z_int,w6:=cT X G z_isinstance,w9:=cT X G z_len,xa:=cT X G z_str,xc:=cT X G z_sum,xf:=cT X G z_tuple,xg:=cT X G z_zip }
 refine ⟨bA "law" "law" (Aq Hy) (Ao Hy) (Af Hy) .none kV24 dc24 pm24 an24 cd24 ct24,fun s v=>.of_eq rfl,fun base _ _=>?_⟩
 exact Ahq C
noncomputable section
variable (P:kB)
abbrev fn(a b:Str)(s:Stmt)(dV kV d p:aC)(n:Option Addr)(c t:aC):bE:=bA a b (Aq s) (Ao s) (Af s) dV kV d p n c t
abbrev zf(a b:Str)(s:Stmt)(p c:aC):Obj:=⟨.type "function",none,.func (fn a b s .none .none .none p none c .none),#[]⟩
abbrev zx(a b:Str)(s:Stmt):Obj:=⟨.none,none,.func ⟨a,b,Aq s,.stmts (Ao s),Af s,0,[],.none,.none,.none,.none,none,.none,.none,0⟩,#[]⟩
abbrev zi(n:Int):aC:=.int n 0
abbrev zr(a:Addr):aC:=.ref a
abbrev zs(a:Str)(n:Nat):aC:=.str a n
abbrev zc(l:List aC):Obj:=⟨.type "code",none,.fields l.toArray,#[]⟩
abbrev zt(l:List aC):Obj:=⟨.type "tuple",none,.seq l.toArray 0,#[]⟩
abbrev zl(l:List aC):Obj:=⟨.none,none,.fields l.toArray,#[]⟩
abbrev zd(l:List oC)(n:Nat):Obj:=⟨.type "dict",none,.dict l.toArray n,#[]⟩
abbrev zn(o:Obj)(l r:dF):dF:=.node o l r
abbrev zg(o:Obj):dF:=.node o .nil .nil
abbrev de(s:Str)(n:Nat)(v:aC):oC:=⟨pK P s,.str s n,v⟩
noncomputable def zo1:Obj:=zd [de P "builtins" 162 (zr 4),de P "__main__" 163 (zr 5)] 2
noncomputable def zo2:Obj:=⟨.none,none,(.dict #[] 0),#[]⟩
noncomputable def zo4:Obj:=⟨(.type "module"),(some 0),.plain,#[]⟩
noncomputable def zo5:Obj:=⟨(.type "module"),(some 3),.plain,#[]⟩
noncomputable def zo6:Obj:=zd [] 0
noncomputable def zo7:Obj:=zt []
noncomputable def zo8:Obj:=zl []
noncomputable def zo9:Obj:=zc [(zs "<module>" 176),(zs "<module>" 177),(zs "/claim/cut.py" 178),(zi 1),(zi 0),(zi 0),(zi 0),(zi 0),(zr 7),(.bool false),(zi 175),(zr 8),.none,.none,.none,.none,(zi 179),(zi 1),(zs "/claim/cut.py" 180)]
noncomputable def zo10:Obj:=⟨(.type "frame"),none,.plain,#[(some (zr 9)),(some (zr 3)),(some (zr 3)),none,(some (zs "__main__" 164)),none,(some (zr 0))]⟩
noncomputable def Hk:Obj:=zc [(zs "<module>" 182),(zs "<module>" 183),(zs "/claim/cut.py" 184),(zi 1),(zi 0),(zi 0),(zi 0),(zi 0),(zr 11),(.bool false),(zi 181),(zr 12),.none,.none,.none,.none,(zi 185),(zi 1),(zs "/claim/cut.py" 186)]
noncomputable def zo12:Obj:=⟨(.type "frame"),none,.plain,#[(some (zr 13)),(some (zr 3)),(some (zr 3)),none,(some (zs "__main__" 164)),none,(some (zr 0))]⟩
noncomputable def Al1:Obj:=zd [de P "__name__" 165 (zs "belowpoints.errors" 194),de P "__doc__" 166 .none,de P "__package__" 167 .none,de P "__loader__" 168 (.builtin "__main__.__loader__#opaque"),de P "__spec__" 169 .none,de P "__annotations__" 170 (zr 6),de P "__builtins__" 171 (zr 4),de P "__file__" 173 (zs "/claim/cut.py" 172),de P "__cached__" 174 .none,de P "_wall" 193 (zr 21),de P "BelowError" 213 (zr 31)] 11
noncomputable def Amf:Obj:=zl [(zi 1),(zi 0),(zr 20),(zi 5),(zi 0),(zr 27)]
noncomputable def Jg:Obj:=zt [(zs "k" 190)]
noncomputable def Jw:Obj:=zx "_wall" "_wall" (top 0)
noncomputable def zo17:Obj:=zc [(zs "_wall" 187),(zs "_wall" 188),(zs "/claim/cut.py" 189),(zi 1),(zi 1),(zi 0),(zi 0),(zi 3),(zr 15),(.bool true),(zi 181),(zr 16),.none,(zr 17),(zr 18),(zr 19),(zi 191),(zi 1),(zs "/claim/cut.py" 192)]
noncomputable def Jr:Obj:=zf "_wall" "_wall" (top 0) (zs "__main__" 164) (zr 20)
noncomputable def zo19:Obj:=zt [(.type "ValueError")]
noncomputable def zo20:Obj:=⟨(.type "builtin_function_or_method"),none,(.fields #[(.builtin "type.__prepare__"),(.type "type")]),#[]⟩
noncomputable def Il:Obj:=zd [de P "__module__" 203 (zs "belowpoints.errors" 194),de P "__qualname__" 205 (zs "BelowError" 204),de P "__firstlineno__" 207 (.int 5 206),de P "__static_attributes__" 208 (zr 29)] 4
noncomputable def zo22:Obj:=zc [(zs "BelowError" 198),(zs "BelowError" 199),(zs "/claim/cut.py" 200),(zi 5),(zi 0),(zi 0),(zi 0),(zi 0),(zr 25),(.bool false),(zi 181),(zr 26),.none,.none,.none,.none,(zi 201),(zi 5),(zs "/claim/cut.py" 202)]
noncomputable def Jd:Obj:=⟨(.type "frame"),none,.plain,#[(some (zr 27)),(some (zr 3)),(some (zr 24)),none,(some (zs "belowpoints.errors" 194)),none,(some (zr 0))]⟩
noncomputable def Hz:Obj:=zd [de P "__module__" 203 (zs "belowpoints.errors" 194),de P "__firstlineno__" 207 (.int 5 206),de P "__static_attributes__" 208 (zr 29),de P "__weakref__" 210 (zr 32),de P "__doc__" 211 .none] 3
noncomputable def Amr:Obj:=⟨(.type "type"),none,(.cls ⟨"BelowError",[(.type "ValueError")],[(zr 31),(.type "ValueError"),(.type "Exception"),(.type "BaseException"),(.type "object")],30,"BelowError",true,[],[],false,none,false⟩),#[(some (zr 22)),none,(some (zs "BelowError" 196)),(some (zs "BelowError" 204)),(some (.builtin "ValueError.__new__")),(some (.bool true))]⟩
noncomputable def Jf:Obj:=⟨(.type "getset_descriptor"),none,(.fields #[(zs "__weakref__" 209),(zr 31),(.builtin "ExceptionGroup.__weakref__"),.none]),#[]⟩
noncomputable def zo27:Obj:=⟨(.type "super"),none,(.fields #[(zr 31),(zr 31),(zr 31)]),#[]⟩
noncomputable def Jo:Obj:=⟨(.type "builtin_function_or_method"),none,(.fields #[(.builtin "object.__init_subclass__"),(zr 31)]),#[]⟩
noncomputable def Amp:Obj:=zd [de P "__name__" 165 (zs "belowpoints.errors" 194),de P "__doc__" 166 .none,de P "__package__" 167 .none,de P "__loader__" 168 (.builtin "__main__.__loader__#opaque"),de P "__spec__" 169 .none,de P "__annotations__" 170 (zr 6),de P "__builtins__" 171 (zr 4),de P "__file__" 173 (zs "/claim/cut.py" 172),de P "__cached__" 174 .none,de P "_wall" 193 (zr 21),de P "BelowError" 213 (zr 31),de P "NoPlace" 237 (zr 51)] 12
noncomputable def Amd:Obj:=zl [(zi 1),(zi 0),(zr 20),(zi 5),(zi 0),(zr 27),(zi 7),(zi 0),(zr 40)]
noncomputable def Amh:Obj:=⟨(.type "type"),none,(.cls ⟨"BelowError",[(.type "ValueError")],[(zr 31),(.type "ValueError"),(.type "Exception"),(.type "BaseException"),(.type "object")],30,"BelowError",true,[],[(zr 51)],false,none,false⟩),#[(some (zr 22)),none,(some (zs "BelowError" 196)),(some (zs "BelowError" 204)),(some (.builtin "ValueError.__new__")),(some (.bool true))]⟩
noncomputable def zo32:Obj:=zt [(zr 31)]
noncomputable def Jz:Obj:=zd [de P "__module__" 221 (zs "belowpoints.errors" 194),de P "__qualname__" 223 (zs "NoPlace" 222),de P "__firstlineno__" 225 (.int 7 224),de P "__init__" 233 (zr 48),de P "__static_attributes__" 234 (zr 49)] 5
noncomputable def La:Obj:=zl [(zi 9),(zi 4),(zr 47)]
noncomputable def zo35:Obj:=zc [(zs "NoPlace" 216),(zs "NoPlace" 217),(zs "/claim/cut.py" 218),(zi 7),(zi 0),(zi 0),(zi 0),(zi 0),(zr 38),(.bool false),(zi 181),(zr 39),.none,.none,.none,.none,(zi 219),(zi 7),(zs "/claim/cut.py" 220)]
noncomputable def K6:Obj:=⟨(.type "frame"),none,.plain,#[(some (zr 40)),(some (zr 3)),(some (zr 37)),none,(some (zs "belowpoints.errors" 194)),none,(some (zr 0))]⟩
noncomputable def zo37:Obj:=zt [(zs "self" 229),(zs "text" 230)]
noncomputable def zo38:Obj:=zx "__init__" "NoPlace.__init__" (Ai (top 3) 0)
noncomputable def Jl:Obj:=zc [(zs "__init__" 226),(zs "NoPlace.__init__" 227),(zs "/claim/cut.py" 228),(zi 9),(zi 2),(zi 0),(zi 0),(zi 3),(zr 42),(.bool true),(zi 181),(zr 43),.none,(zr 44),(zr 45),(zr 46),(zi 231),(zi 9),(zs "/claim/cut.py" 232)]
noncomputable def zo40:Obj:=zf "__init__" "NoPlace.__init__" (Ai (top 3) 0) (zs "belowpoints.errors" 194) (zr 47)
noncomputable def Ji:Obj:=zd [de P "__module__" 221 (zs "belowpoints.errors" 194),de P "__firstlineno__" 225 (.int 7 224),de P "__init__" 233 (zr 48),de P "__static_attributes__" 234 (zr 49),de P "__doc__" 235 .none] 2
noncomputable def zo42:Obj:=⟨(.type "type"),none,(.cls ⟨"NoPlace",[(zr 31)],[(zr 51),(zr 31),(.type "ValueError"),(.type "Exception"),(.type "BaseException"),(.type "object")],50,"NoPlace",true,[],[],false,none,false⟩),#[(some (zr 35)),none,(some (zs "NoPlace" 214)),(some (zs "NoPlace" 222)),(some (.builtin "ValueError.__new__")),(some (.bool true))]⟩
noncomputable def K7:Obj:=⟨(.type "super"),none,(.fields #[(zr 51),(zr 51),(zr 51)]),#[]⟩
noncomputable def zo44:Obj:=⟨(.type "builtin_function_or_method"),none,(.fields #[(.builtin "object.__init_subclass__"),(zr 51)]),#[]⟩
noncomputable def Amq:Obj:=zd [de P "__name__" 165 (zs "belowpoints.errors" 194),de P "__doc__" 166 .none,de P "__package__" 167 .none,de P "__loader__" 168 (.builtin "__main__.__loader__#opaque"),de P "__spec__" 169 .none,de P "__annotations__" 170 (zr 6),de P "__builtins__" 171 (zr 4),de P "__file__" 173 (zs "/claim/cut.py" 172),de P "__cached__" 174 .none,de P "_wall" 193 (zr 21),de P "BelowError" 213 (zr 31),de P "NoPlace" 237 (zr 51),de P "NoAsk" 261 (zr 70)] 13
noncomputable def Al7:Obj:=zl [(zi 1),(zi 0),(zr 20),(zi 5),(zi 0),(zr 27),(zi 7),(zi 0),(zr 40),(zi 11),(zi 0),(zr 59)]
noncomputable def Amg:Obj:=⟨(.type "type"),none,(.cls ⟨"BelowError",[(.type "ValueError")],[(zr 31),(.type "ValueError"),(.type "Exception"),(.type "BaseException"),(.type "object")],30,"BelowError",true,[],[(zr 51),(zr 70)],false,none,false⟩),#[(some (zr 22)),none,(some (zs "BelowError" 196)),(some (zs "BelowError" 204)),(some (.builtin "ValueError.__new__")),(some (.bool true))]⟩
noncomputable def K8:Obj:=zd [de P "__module__" 245 (zs "belowpoints.errors" 194),de P "__qualname__" 247 (zs "NoAsk" 246),de P "__firstlineno__" 249 (.int 11 248),de P "__init__" 257 (zr 67),de P "__static_attributes__" 258 (zr 68)] 5
noncomputable def Lr:Obj:=zl [(zi 13),(zi 4),(zr 66)]
noncomputable def zo50:Obj:=zc [(zs "NoAsk" 240),(zs "NoAsk" 241),(zs "/claim/cut.py" 242),(zi 11),(zi 0),(zi 0),(zi 0),(zi 0),(zr 57),(.bool false),(zi 181),(zr 58),.none,.none,.none,.none,(zi 243),(zi 11),(zs "/claim/cut.py" 244)]
noncomputable def M4:Obj:=⟨(.type "frame"),none,.plain,#[(some (zr 59)),(some (zr 3)),(some (zr 56)),none,(some (zs "belowpoints.errors" 194)),none,(some (zr 0))]⟩
noncomputable def zo52:Obj:=zt [(zs "self" 253),(zs "text" 254)]
noncomputable def zo53:Obj:=zx "__init__" "NoAsk.__init__" (Ai (top 4) 0)
noncomputable def K1:Obj:=zc [(zs "__init__" 250),(zs "NoAsk.__init__" 251),(zs "/claim/cut.py" 252),(zi 13),(zi 2),(zi 0),(zi 0),(zi 3),(zr 61),(.bool true),(zi 181),(zr 62),.none,(zr 63),(zr 64),(zr 65),(zi 255),(zi 13),(zs "/claim/cut.py" 256)]
noncomputable def zo55:Obj:=zf "__init__" "NoAsk.__init__" (Ai (top 4) 0) (zs "belowpoints.errors" 194) (zr 66)
noncomputable def K4:Obj:=zd [de P "__module__" 245 (zs "belowpoints.errors" 194),de P "__firstlineno__" 249 (.int 11 248),de P "__init__" 257 (zr 67),de P "__static_attributes__" 258 (zr 68),de P "__doc__" 259 .none] 2
noncomputable def zo57:Obj:=⟨(.type "type"),none,(.cls ⟨"NoAsk",[(zr 31)],[(zr 70),(zr 31),(.type "ValueError"),(.type "Exception"),(.type "BaseException"),(.type "object")],69,"NoAsk",true,[],[],false,none,false⟩),#[(some (zr 54)),none,(some (zs "NoAsk" 238)),(some (zs "NoAsk" 246)),(some (.builtin "ValueError.__new__")),(some (.bool true))]⟩
noncomputable def M7:Obj:=⟨(.type "super"),none,(.fields #[(zr 70),(zr 70),(zr 70)]),#[]⟩
noncomputable def zo59:Obj:=⟨(.type "builtin_function_or_method"),none,(.fields #[(.builtin "object.__init_subclass__"),(zr 70)]),#[]⟩
noncomputable def Ams:Obj:=zd [de P "__name__" 165 (zs "belowpoints.heaps.texts" 287),de P "__doc__" 166 .none,de P "__package__" 167 .none,de P "__loader__" 168 (.builtin "__main__.__loader__#opaque"),de P "__spec__" 169 .none,de P "__annotations__" 170 (zr 6),de P "__builtins__" 171 (zr 4),de P "__file__" 173 (zs "/claim/cut.py" 172),de P "__cached__" 174 .none,de P "_wall" 193 (zr 21),de P "BelowError" 213 (zr 31),de P "NoPlace" 237 (zr 51),de P "NoAsk" 261 (zr 70),de P "NoName" 286 (zr 89),de P "LETTERS" 290 (zs "abcdefghijklmnopqrstuvwxyz" 289),de P "FIGURES" 292 (zs "0123456789" 291),de P "LONGEST_NAME" 294 (.int 8 293)] 17
noncomputable def Amv:Obj:=zl [(zi 1),(zi 0),(zr 20),(zi 5),(zi 0),(zr 27),(zi 7),(zi 0),(zr 40),(zi 11),(zi 0),(zr 59),(zi 15),(zi 0),(zr 78)]
noncomputable def zo62:Obj:=⟨(.type "type"),none,(.cls ⟨"BelowError",[(.type "ValueError")],[(zr 31),(.type "ValueError"),(.type "Exception"),(.type "BaseException"),(.type "object")],30,"BelowError",true,[],[(zr 51),(zr 70),(zr 89)],false,none,false⟩),#[(some (zr 22)),none,(some (zs "BelowError" 196)),(some (zs "BelowError" 204)),(some (.builtin "ValueError.__new__")),(some (.bool true))]⟩
noncomputable def Mo:Obj:=zd [de P "__module__" 269 (zs "belowpoints.errors" 194),de P "__qualname__" 271 (zs "NoName" 270),de P "__firstlineno__" 273 (.int 15 272),de P "__init__" 281 (zr 86),de P "__static_attributes__" 283 (zr 87)] 5
noncomputable def Oc:Obj:=zl [(zi 17),(zi 4),(zr 85)]
noncomputable def zo65:Obj:=zc [(zs "NoName" 264),(zs "NoName" 265),(zs "/claim/cut.py" 266),(zi 15),(zi 0),(zi 0),(zi 0),(zi 0),(zr 76),(.bool false),(zi 181),(zr 77),.none,.none,.none,.none,(zi 267),(zi 15),(zs "/claim/cut.py" 268)]
noncomputable def Ob:Obj:=⟨(.type "frame"),none,.plain,#[(some (zr 78)),(some (zr 3)),(some (zr 75)),none,(some (zs "belowpoints.errors" 194)),none,(some (zr 0))]⟩
noncomputable def zo67:Obj:=zt [(zs "self" 277),(zs "word" 278)]
noncomputable def zo68:Obj:=zx "__init__" "NoName.__init__" (Ai (top 5) 0)
noncomputable def Me:Obj:=zc [(zs "__init__" 274),(zs "NoName.__init__" 275),(zs "/claim/cut.py" 276),(zi 17),(zi 2),(zi 0),(zi 0),(zi 3),(zr 80),(.bool true),(zi 181),(zr 81),.none,(zr 82),(zr 83),(zr 84),(zi 279),(zi 17),(zs "/claim/cut.py" 280)]
noncomputable def zo70:Obj:=zf "__init__" "NoName.__init__" (Ai (top 5) 0) (zs "belowpoints.errors" 194) (zr 85)
noncomputable def Oe:Obj:=zt [(zs "word" 282)]
noncomputable def Nv:Obj:=zd [de P "__module__" 269 (zs "belowpoints.errors" 194),de P "__firstlineno__" 273 (.int 15 272),de P "__init__" 281 (zr 86),de P "__static_attributes__" 283 (zr 87),de P "__doc__" 284 .none] 2
noncomputable def zo73:Obj:=⟨(.type "type"),none,(.cls ⟨"NoName",[(zr 31)],[(zr 89),(zr 31),(.type "ValueError"),(.type "Exception"),(.type "BaseException"),(.type "object")],88,"NoName",true,[],[],false,none,false⟩),#[(some (zr 73)),none,(some (zs "NoName" 262)),(some (zs "NoName" 270)),(some (.builtin "ValueError.__new__")),(some (.bool true))]⟩
noncomputable def Oq:Obj:=⟨(.type "super"),none,(.fields #[(zr 89),(zr 89),(zr 89)]),#[]⟩
noncomputable def zo75:Obj:=⟨(.type "builtin_function_or_method"),none,(.fields #[(.builtin "object.__init_subclass__"),(zr 89)]),#[]⟩
noncomputable def Am0:Obj:=zd [de P "__name__" 165 (zs "belowpoints.chains.covers" 362),de P "__doc__" 166 .none,de P "__package__" 167 .none,de P "__loader__" 168 (.builtin "__main__.__loader__#opaque"),de P "__spec__" 169 .none,de P "__annotations__" 170 (zr 6),de P "__builtins__" 171 (zr 4),de P "__file__" 173 (zs "/claim/cut.py" 172),de P "__cached__" 174 .none,de P "_wall" 193 (zr 21),de P "BelowError" 213 (zr 31),de P "NoPlace" 237 (zr 51),de P "NoAsk" 261 (zr 70),de P "NoName" 286 (zr 89),de P "LETTERS" 290 (zs "abcdefghijklmnopqrstuvwxyz" 289),de P "FIGURES" 292 (zs "0123456789" 291),de P "LONGEST_NAME" 294 (.int 8 293),de P "lies_below" 300 (zr 96),de P "place_of" 307 (zr 103),de P "is_name" 314 (zr 110),de P "is_number" 322 (zr 117),de P "holds_only" 328 (zr 122),de P "below_each" 336 (zr 127),de P "above_each" 342 (zr 132),de P "pairs_in_all" 349 (zr 139),de P "many_below" 355 (zr 144),de P "many_above" 361 (zr 149)] 27
noncomputable def Anf:Obj:=zl [(zi 1),(zi 0),(zr 20),(zi 5),(zi 0),(zr 27),(zi 7),(zi 0),(zr 40),(zi 11),(zi 0),(zr 59),(zi 15),(zi 0),(zr 78),(zi 24),(zi 0),(zr 95),(zi 26),(zi 0),(zr 102),(zi 28),(zi 0),(zr 109),(zi 30),(zi 0),(zr 116),(zi 35),(zi 0),(zr 121),(zi 38),(zi 0),(zr 126),(zi 41),(zi 0),(zr 131),(zi 44),(zi 0),(zr 138),(zi 46),(zi 0),(zr 143),(zi 48),(zi 0),(zr 148)]
noncomputable def Qg:Obj:=zx "lies_below" "lies_below" (top 10)
noncomputable def zo79:Obj:=zc [(zs "lies_below" 295),(zs "lies_below" 296),(zs "/claim/cut.py" 297),(zi 24),(zi 2),(zi 0),(zi 0),(zi 3),(zr 92),(.bool true),(zi 181),(zr 93),.none,.none,.none,(zr 94),(zi 298),(zi 24),(zs "/claim/cut.py" 299)]
noncomputable def Ol:Obj:=zf "lies_below" "lies_below" (top 10) (zs "belowpoints.heaps.texts" 287) (zr 95)
noncomputable def zo81:Obj:=zt [(zs "point" 304)]
noncomputable def zo82:Obj:=zx "place_of" "place_of" (top 11)
noncomputable def Ot:Obj:=zc [(zs "place_of" 301),(zs "place_of" 302),(zs "/claim/cut.py" 303),(zi 26),(zi 1),(zi 0),(zi 0),(zi 3),(zr 97),(.bool true),(zi 181),(zr 98),.none,(zr 99),(zr 100),(zr 101),(zi 305),(zi 26),(zs "/claim/cut.py" 306)]
noncomputable def zo84:Obj:=zf "place_of" "place_of" (top 11) (zs "belowpoints.heaps.texts" 287) (zr 102)
noncomputable def Q5:Obj:=zt [(zs "word" 311)]
noncomputable def P9:Obj:=zx "is_name" "is_name" (top 12)
noncomputable def zo87:Obj:=zc [(zs "is_name" 308),(zs "is_name" 309),(zs "/claim/cut.py" 310),(zi 28),(zi 1),(zi 0),(zi 0),(zi 3),(zr 104),(.bool true),(zi 181),(zr 105),.none,(zr 106),(zr 107),(zr 108),(zi 312),(zi 28),(zs "/claim/cut.py" 313)]
noncomputable def N5:Obj:=zf "is_name" "is_name" (top 12) (zs "belowpoints.heaps.texts" 287) (zr 109)
noncomputable def zo89:Obj:=zt [(zs "word" 318),(zs "figures" 319)]
noncomputable def zo90:Obj:=zx "is_number" "is_number" (top 13)
noncomputable def N6:Obj:=zc [(zs "is_number" 315),(zs "is_number" 316),(zs "/claim/cut.py" 317),(zi 30),(zi 1),(zi 0),(zi 0),(zi 3),(zr 111),(.bool true),(zi 181),(zr 112),.none,(zr 113),(zr 114),(zr 115),(zi 320),(zi 30),(zs "/claim/cut.py" 321)]
noncomputable def zo92:Obj:=zf "is_number" "is_number" (top 13) (zs "belowpoints.heaps.texts" 287) (zr 116)
noncomputable def Q2:Obj:=zx "holds_only" "holds_only" (top 14)
noncomputable def zo94:Obj:=zc [(zs "holds_only" 323),(zs "holds_only" 324),(zs "/claim/cut.py" 325),(zi 35),(zi 2),(zi 0),(zi 0),(zi 3),(zr 118),(.bool true),(zi 181),(zr 119),.none,.none,.none,(zr 120),(zi 326),(zi 35),(zs "/claim/cut.py" 327)]
noncomputable def Om:Obj:=zf "holds_only" "holds_only" (top 14) (zs "belowpoints.heaps.texts" 287) (zr 121)
noncomputable def zo96:Obj:=zx "below_each" "below_each" (top 16)
noncomputable def N7:Obj:=zc [(zs "below_each" 331),(zs "below_each" 332),(zs "/claim/cut.py" 333),(zi 38),(zi 1),(zi 0),(zi 0),(zi 3),(zr 123),(.bool true),(zi 181),(zr 124),.none,.none,.none,(zr 125),(zi 334),(zi 38),(zs "/claim/cut.py" 335)]
noncomputable def zo98:Obj:=zf "below_each" "below_each" (top 16) (zs "belowpoints.counts.pairs" 329) (zr 126)
noncomputable def Qx:Obj:=zx "above_each" "above_each" (top 17)
noncomputable def zo100:Obj:=zc [(zs "above_each" 337),(zs "above_each" 338),(zs "/claim/cut.py" 339),(zi 41),(zi 1),(zi 0),(zi 0),(zi 3),(zr 128),(.bool true),(zi 181),(zr 129),.none,.none,.none,(zr 130),(zi 340),(zi 41),(zs "/claim/cut.py" 341)]
noncomputable def Ie:Obj:=zf "above_each" "above_each" (top 17) (zs "belowpoints.counts.pairs" 329) (zr 131)
noncomputable def zo102:Obj:=zt [(zs "points" 346)]
noncomputable def zo103:Obj:=zx "pairs_in_all" "pairs_in_all" (top 18)
noncomputable def Hf:Obj:=zc [(zs "pairs_in_all" 343),(zs "pairs_in_all" 344),(zs "/claim/cut.py" 345),(zi 44),(zi 1),(zi 0),(zi 0),(zi 3),(zr 133),(.bool true),(zi 181),(zr 134),.none,(zr 135),(zr 136),(zr 137),(zi 347),(zi 44),(zs "/claim/cut.py" 348)]
noncomputable def zo105:Obj:=zf "pairs_in_all" "pairs_in_all" (top 18) (zs "belowpoints.counts.pairs" 329) (zr 138)
noncomputable def Ia:Obj:=zx "many_below" "many_below" (top 19)
noncomputable def zo107:Obj:=zc [(zs "many_below" 350),(zs "many_below" 351),(zs "/claim/cut.py" 352),(zi 46),(zi 2),(zi 0),(zi 0),(zi 3),(zr 140),(.bool true),(zi 181),(zr 141),.none,.none,.none,(zr 142),(zi 353),(zi 46),(zs "/claim/cut.py" 354)]
noncomputable def G8:Obj:=zf "many_below" "many_below" (top 19) (zs "belowpoints.counts.pairs" 329) (zr 143)
noncomputable def zo109:Obj:=zx "many_above" "many_above" (top 20)
noncomputable def Hx:Obj:=zc [(zs "many_above" 356),(zs "many_above" 357),(zs "/claim/cut.py" 358),(zi 48),(zi 2),(zi 0),(zi 0),(zi 3),(zr 145),(.bool true),(zi 181),(zr 146),.none,.none,.none,(zr 147),(zi 359),(zi 48),(zs "/claim/cut.py" 360)]
noncomputable def zo111:Obj:=zf "many_above" "many_above" (top 20) (zs "belowpoints.counts.pairs" 329) (zr 148)
noncomputable def Alj:Obj:=zd [de P "__name__" 165 (zs "belowpoints.chains.stairs" 391),de P "__doc__" 166 .none,de P "__package__" 167 .none,de P "__loader__" 168 (.builtin "__main__.__loader__#opaque"),de P "__spec__" 169 .none,de P "__annotations__" 170 (zr 6),de P "__builtins__" 171 (zr 4),de P "__file__" 173 (zs "/claim/cut.py" 172),de P "__cached__" 174 .none,de P "_wall" 193 (zr 21),de P "BelowError" 213 (zr 31),de P "NoPlace" 237 (zr 51),de P "NoAsk" 261 (zr 70),de P "NoName" 286 (zr 89),de P "LETTERS" 290 (zs "abcdefghijklmnopqrstuvwxyz" 289),de P "FIGURES" 292 (zs "0123456789" 291),de P "LONGEST_NAME" 294 (.int 8 293),de P "lies_below" 300 (zr 96),de P "place_of" 307 (zr 103),de P "is_name" 314 (zr 110),de P "is_number" 322 (zr 117),de P "holds_only" 328 (zr 122),de P "below_each" 336 (zr 127),de P "above_each" 342 (zr 132),de P "pairs_in_all" 349 (zr 139),de P "many_below" 355 (zr 144),de P "many_above" 361 (zr 149),de P "crowd_of" 369 (zr 154),de P "chains_laid" 380 (zr 161),de P "first_that_takes" 390 (zr 168),de P "stairs_of" 398 (zr 173),de P "longest_chains" 408 (zr 180),de P "heaviest_chain" 414 (zr 185),de P "chains_of_each" 420 (zr 190),de P "heaviest_begun" 426 (zr 195),de P "first_heaviest" 433 (zr 202),de P "turns_from_the_highest" 441 (zr 209)] 37
noncomputable def Akj:Obj:=zl [(zi 1),(zi 0),(zr 20),(zi 5),(zi 0),(zr 27),(zi 7),(zi 0),(zr 40),(zi 11),(zi 0),(zr 59),(zi 15),(zi 0),(zr 78),(zi 24),(zi 0),(zr 95),(zi 26),(zi 0),(zr 102),(zi 28),(zi 0),(zr 109),(zi 30),(zi 0),(zr 116),(zi 35),(zi 0),(zr 121),(zi 38),(zi 0),(zr 126),(zi 41),(zi 0),(zr 131),(zi 44),(zi 0),(zr 138),(zi 46),(zi 0),(zr 143),(zi 48),(zi 0),(zr 148),(zi 51),(zi 0),(zr 153),(zi 57),(zi 0),(zr 160),(zi 66),(zi 0),(zr 167),(zi 72),(zi 0),(zr 172),(zi 81),(zi 0),(zr 179),(zi 89),(zi 0),(zr 184),(zi 94),(zi 0),(zr 189),(zi 102),(zi 0),(zr 194),(zi 109),(zi 0),(zr 201),(zi 111),(zi 0),(zr 208)]
noncomputable def Kb:Obj:=zx "crowd_of" "crowd_of" (top 22)
noncomputable def zo115:Obj:=zc [(zs "crowd_of" 364),(zs "crowd_of" 365),(zs "/claim/cut.py" 366),(zi 51),(zi 1),(zi 0),(zi 0),(zi 3),(zr 150),(.bool true),(zi 181),(zr 151),.none,.none,.none,(zr 152),(zi 367),(zi 51),(zs "/claim/cut.py" 368)]
noncomputable def Kk:Obj:=zf "crowd_of" "crowd_of" (top 22) (zs "belowpoints.chains.covers" 362) (zr 153)
noncomputable def zo117:Obj:=zt [(zs "points" 373),(zs "chains" 374),(zs "point" 375),(zs "turn" 376),(zs "crowd" 377)]
noncomputable def zo118:Obj:=zx "chains_laid" "chains_laid" (top 23)
noncomputable def Kn:Obj:=zc [(zs "chains_laid" 370),(zs "chains_laid" 371),(zs "/claim/cut.py" 372),(zi 57),(zi 1),(zi 0),(zi 0),(zi 3),(zr 155),(.bool true),(zi 181),(zr 156),.none,(zr 157),(zr 158),(zr 159),(zi 378),(zi 57),(zs "/claim/cut.py" 379)]
noncomputable def zo120:Obj:=zf "chains_laid" "chains_laid" (top 23) (zs "belowpoints.chains.covers" 362) (zr 160)
noncomputable def Kf:Obj:=zt [(zs "chains" 384),(zs "point" 385),(zs "turn" 386),(zs "chain" 387)]
noncomputable def Kw:Obj:=zx "first_that_takes" "first_that_takes" (top 24)
noncomputable def zo123:Obj:=zc [(zs "first_that_takes" 381),(zs "first_that_takes" 382),(zs "/claim/cut.py" 383),(zi 66),(zi 2),(zi 0),(zi 0),(zi 3),(zr 162),(.bool true),(zi 181),(zr 163),.none,(zr 164),(zr 165),(zr 166),(zi 388),(zi 66),(zs "/claim/cut.py" 389)]
noncomputable def Kg:Obj:=zf "first_that_takes" "first_that_takes" (top 24) (zs "belowpoints.chains.covers" 362) (zr 167)
noncomputable def zo125:Obj:=zx "stairs_of" "stairs_of" (top 26)
noncomputable def Ke:Obj:=zc [(zs "stairs_of" 393),(zs "stairs_of" 394),(zs "/claim/cut.py" 395),(zi 72),(zi 1),(zi 0),(zi 0),(zi 3),(zr 169),(.bool true),(zi 181),(zr 170),.none,.none,.none,(zr 171),(zi 396),(zi 72),(zs "/claim/cut.py" 397)]
noncomputable def zo127:Obj:=zf "stairs_of" "stairs_of" (top 26) (zs "belowpoints.chains.stairs" 391) (zr 172)
noncomputable def Kl:Obj:=zt [(zs "points" 402),(zs "ones" 403),(zs "point" 404),(zs "heaviest" 405)]
noncomputable def Kz:Obj:=zx "longest_chains" "longest_chains" (top 27)
noncomputable def zo130:Obj:=zc [(zs "longest_chains" 399),(zs "longest_chains" 400),(zs "/claim/cut.py" 401),(zi 81),(zi 1),(zi 0),(zi 0),(zi 3),(zr 174),(.bool true),(zi 181),(zr 175),.none,(zr 176),(zr 177),(zr 178),(zi 406),(zi 81),(zs "/claim/cut.py" 407)]
noncomputable def Kt:Obj:=zf "longest_chains" "longest_chains" (top 27) (zs "belowpoints.chains.stairs" 391) (zr 179)
noncomputable def zo132:Obj:=zx "heaviest_chain" "heaviest_chain" (top 28)
noncomputable def Ku:Obj:=zc [(zs "heaviest_chain" 409),(zs "heaviest_chain" 410),(zs "/claim/cut.py" 411),(zi 89),(zi 2),(zi 0),(zi 0),(zi 3),(zr 181),(.bool true),(zi 181),(zr 182),.none,.none,.none,(zr 183),(zi 412),(zi 89),(zs "/claim/cut.py" 413)]
noncomputable def zo134:Obj:=zf "heaviest_chain" "heaviest_chain" (top 28) (zs "belowpoints.chains.stairs" 391) (zr 184)
noncomputable def Ks:Obj:=zx "chains_of_each" "chains_of_each" (top 29)
noncomputable def zo136:Obj:=zc [(zs "chains_of_each" 415),(zs "chains_of_each" 416),(zs "/claim/cut.py" 417),(zi 94),(zi 1),(zi 0),(zi 0),(zi 3),(zr 186),(.bool true),(zi 181),(zr 187),.none,.none,.none,(zr 188),(zi 418),(zi 94),(zs "/claim/cut.py" 419)]
noncomputable def Km:Obj:=zf "chains_of_each" "chains_of_each" (top 29) (zs "belowpoints.chains.stairs" 391) (zr 189)
noncomputable def zo138:Obj:=zx "heaviest_begun" "heaviest_begun" (top 30)
noncomputable def Kh:Obj:=zc [(zs "heaviest_begun" 421),(zs "heaviest_begun" 422),(zs "/claim/cut.py" 423),(zi 102),(zi 2),(zi 0),(zi 0),(zi 3),(zr 191),(.bool true),(zi 181),(zr 192),.none,.none,.none,(zr 193),(zi 424),(zi 102),(zs "/claim/cut.py" 425)]
noncomputable def zo140:Obj:=zf "heaviest_begun" "heaviest_begun" (top 30) (zs "belowpoints.chains.stairs" 391) (zr 194)
noncomputable def Ka:Obj:=zt [(zs "chains" 430)]
noncomputable def Kp:Obj:=zx "first_heaviest" "first_heaviest" (top 31)
noncomputable def zo143:Obj:=zc [(zs "first_heaviest" 427),(zs "first_heaviest" 428),(zs "/claim/cut.py" 429),(zi 109),(zi 1),(zi 0),(zi 0),(zi 3),(zr 196),(.bool true),(zi 181),(zr 197),.none,(zr 198),(zr 199),(zr 200),(zi 431),(zi 109),(zs "/claim/cut.py" 432)]
noncomputable def Ki:Obj:=zf "first_heaviest" "first_heaviest" (top 31) (zs "belowpoints.chains.stairs" 391) (zr 201)
noncomputable def zo145:Obj:=zt [(zs "points" 437)]
noncomputable def Kj:Obj:=zt [(zs "points" 438)]
noncomputable def zo147:Obj:=zx "turns_from_the_highest" "turns_from_the_highest" (top 32)
noncomputable def Kd:Obj:=zc [(zs "turns_from_the_highest" 434),(zs "turns_from_the_highest" 435),(zs "/claim/cut.py" 436),(zi 111),(zi 1),(zi 0),(zi 0),(zi 3),(zr 203),(.bool true),(zi 181),(zr 204),.none,(zr 205),(zr 206),(zr 207),(zi 439),(zi 111),(zs "/claim/cut.py" 440)]
noncomputable def zo149:Obj:=zf "turns_from_the_highest" "turns_from_the_highest" (top 32) (zs "belowpoints.chains.stairs" 391) (zr 208)
noncomputable def Ajq:Obj:=zd [de P "__name__" 165 (zs "belowpoints.heaps.boxes" 480),de P "__doc__" 166 .none,de P "__package__" 167 .none,de P "__loader__" 168 (.builtin "__main__.__loader__#opaque"),de P "__spec__" 169 .none,de P "__annotations__" 170 (zr 6),de P "__builtins__" 171 (zr 4),de P "__file__" 173 (zs "/claim/cut.py" 172),de P "__cached__" 174 .none,de P "_wall" 193 (zr 21),de P "BelowError" 213 (zr 31),de P "NoPlace" 237 (zr 51),de P "NoAsk" 261 (zr 70),de P "NoName" 286 (zr 89),de P "LETTERS" 290 (zs "abcdefghijklmnopqrstuvwxyz" 289),de P "FIGURES" 292 (zs "0123456789" 291),de P "LONGEST_NAME" 294 (.int 8 293),de P "lies_below" 300 (zr 96),de P "place_of" 307 (zr 103),de P "is_name" 314 (zr 110),de P "is_number" 322 (zr 117),de P "holds_only" 328 (zr 122),de P "below_each" 336 (zr 127),de P "above_each" 342 (zr 132),de P "pairs_in_all" 349 (zr 139),de P "many_below" 355 (zr 144),de P "many_above" 361 (zr 149),de P "crowd_of" 369 (zr 154),de P "chains_laid" 380 (zr 161),de P "first_that_takes" 390 (zr 168),de P "stairs_of" 398 (zr 173),de P "longest_chains" 408 (zr 180),de P "heaviest_chain" 414 (zr 185),de P "chains_of_each" 420 (zr 190),de P "heaviest_begun" 426 (zr 195),de P "first_heaviest" 433 (zr 202),de P "turns_from_the_highest" 441 (zr 209),de P "turns_above" 447 (zr 214),de P "sum_at" 453 (zr 219),de P "halves_of" 461 (zr 224),de P "halves_between" 473 (zr 231),de P "crossings_of" 479 (zr 236),de P "in_boxes" 487 (zr 241),de P "nth_by_x" 496 (zr 248),de P "points_in" 502 (zr 253),de P "is_held" 510 (zr 260),de P "name_at" 518 (zr 267)] 47
noncomputable def Agr:Obj:=zl [(zi 1),(zi 0),(zr 20),(zi 5),(zi 0),(zr 27),(zi 7),(zi 0),(zr 40),(zi 11),(zi 0),(zr 59),(zi 15),(zi 0),(zr 78),(zi 24),(zi 0),(zr 95),(zi 26),(zi 0),(zr 102),(zi 28),(zi 0),(zr 109),(zi 30),(zi 0),(zr 116),(zi 35),(zi 0),(zr 121),(zi 38),(zi 0),(zr 126),(zi 41),(zi 0),(zr 131),(zi 44),(zi 0),(zr 138),(zi 46),(zi 0),(zr 143),(zi 48),(zi 0),(zr 148),(zi 51),(zi 0),(zr 153),(zi 57),(zi 0),(zr 160),(zi 66),(zi 0),(zr 167),(zi 72),(zi 0),(zr 172),(zi 81),(zi 0),(zr 179),(zi 89),(zi 0),(zr 184),(zi 94),(zi 0),(zr 189),(zi 102),(zi 0),(zr 194),(zi 109),(zi 0),(zr 201),(zi 111),(zi 0),(zr 208),(zi 113),(zi 0),(zr 213),(zi 116),(zi 0),(zr 218),(zi 119),(zi 0),(zr 223),(zi 122),(zi 0),(zr 230),(zi 129),(zi 0),(zr 235),(zi 132),(zi 0),(zr 240),(zi 134),(zi 0),(zr 247),(zi 136),(zi 0),(zr 252),(zi 138),(zi 0),(zr 259),(zi 140),(zi 0),(zr 266)]
noncomputable def Np:Obj:=zx "turns_above" "turns_above" (top 33)
noncomputable def zo153:Obj:=zc [(zs "turns_above" 442),(zs "turns_above" 443),(zs "/claim/cut.py" 444),(zi 113),(zi 2),(zi 0),(zi 0),(zi 3),(zr 210),(.bool true),(zi 181),(zr 211),.none,.none,.none,(zr 212),(zi 445),(zi 113),(zs "/claim/cut.py" 446)]
noncomputable def M9:Obj:=zf "turns_above" "turns_above" (top 33) (zs "belowpoints.chains.stairs" 391) (zr 213)
noncomputable def zo155:Obj:=zx "sum_at" "sum_at" (top 34)
noncomputable def Mf:Obj:=zc [(zs "sum_at" 448),(zs "sum_at" 449),(zs "/claim/cut.py" 450),(zi 116),(zi 2),(zi 0),(zi 0),(zi 3),(zr 215),(.bool true),(zi 181),(zr 216),.none,.none,.none,(zr 217),(zi 451),(zi 116),(zs "/claim/cut.py" 452)]
noncomputable def zo157:Obj:=zf "sum_at" "sum_at" (top 34) (zs "belowpoints.chains.stairs" 391) (zr 218)
noncomputable def Mg:Obj:=zx "halves_of" "halves_of" (top 36)
noncomputable def zo159:Obj:=zc [(zs "halves_of" 456),(zs "halves_of" 457),(zs "/claim/cut.py" 458),(zi 119),(zi 1),(zi 0),(zi 0),(zi 3),(zr 220),(.bool true),(zi 181),(zr 221),.none,.none,.none,(zr 222),(zi 459),(zi 119),(zs "/claim/cut.py" 460)]
noncomputable def Nw:Obj:=zf "halves_of" "halves_of" (top 36) (zs "belowpoints.counts.halves" 454) (zr 223)
noncomputable def zo161:Obj:=zt [(zs "places" 465),(zs "first" 466),(zs "behind" 467),(zs "many" 468),(zs "middle" 469),(zs "whole" 470)]
noncomputable def zo162:Obj:=zx "halves_between" "halves_between" (top 37)
noncomputable def Mq:Obj:=zc [(zs "halves_between" 462),(zs "halves_between" 463),(zs "/claim/cut.py" 464),(zi 122),(zi 3),(zi 0),(zi 0),(zi 3),(zr 225),(.bool true),(zi 181),(zr 226),.none,(zr 227),(zr 228),(zr 229),(zi 471),(zi 122),(zs "/claim/cut.py" 472)]
noncomputable def zo164:Obj:=zf "halves_between" "halves_between" (top 37) (zs "belowpoints.counts.halves" 454) (zr 230)
noncomputable def Ma:Obj:=zx "crossings_of" "crossings_of" (top 38)
noncomputable def zo166:Obj:=zc [(zs "crossings_of" 474),(zs "crossings_of" 475),(zs "/claim/cut.py" 476),(zi 129),(zi 2),(zi 0),(zi 0),(zi 3),(zr 232),(.bool true),(zi 181),(zr 233),.none,.none,.none,(zr 234),(zi 477),(zi 129),(zs "/claim/cut.py" 478)]
noncomputable def N0:Obj:=zf "crossings_of" "crossings_of" (top 38) (zs "belowpoints.counts.halves" 454) (zr 235)
noncomputable def zo168:Obj:=zx "in_boxes" "in_boxes" (top 40)
noncomputable def Ni:Obj:=zc [(zs "in_boxes" 482),(zs "in_boxes" 483),(zs "/claim/cut.py" 484),(zi 132),(zi 2),(zi 0),(zi 0),(zi 3),(zr 237),(.bool true),(zi 181),(zr 238),.none,.none,.none,(zr 239),(zi 485),(zi 132),(zs "/claim/cut.py" 486)]
noncomputable def zo170:Obj:=zf "in_boxes" "in_boxes" (top 40) (zs "belowpoints.heaps.boxes" 480) (zr 240)
noncomputable def Nk:Obj:=zt [(zs "points" 491),(zs "box" 492),(zs "place" 493)]
noncomputable def Mb:Obj:=zx "nth_by_x" "nth_by_x" (top 41)
noncomputable def zo173:Obj:=zc [(zs "nth_by_x" 488),(zs "nth_by_x" 489),(zs "/claim/cut.py" 490),(zi 134),(zi 3),(zi 0),(zi 0),(zi 3),(zr 242),(.bool true),(zi 181),(zr 243),.none,(zr 244),(zr 245),(zr 246),(zi 494),(zi 134),(zs "/claim/cut.py" 495)]
noncomputable def N3:Obj:=zf "nth_by_x" "nth_by_x" (top 41) (zs "belowpoints.heaps.boxes" 480) (zr 247)
noncomputable def zo175:Obj:=zx "points_in" "points_in" (top 42)
noncomputable def Nd:Obj:=zc [(zs "points_in" 497),(zs "points_in" 498),(zs "/claim/cut.py" 499),(zi 136),(zi 2),(zi 0),(zi 0),(zi 3),(zr 249),(.bool true),(zi 181),(zr 250),.none,.none,.none,(zr 251),(zi 500),(zi 136),(zs "/claim/cut.py" 501)]
noncomputable def zo177:Obj:=zf "points_in" "points_in" (top 42) (zs "belowpoints.heaps.boxes" 480) (zr 252)
noncomputable def L7:Obj:=zt [(zs "point" 506),(zs "box" 507)]
noncomputable def Mi:Obj:=zx "is_held" "is_held" (top 43)
noncomputable def zo180:Obj:=zc [(zs "is_held" 503),(zs "is_held" 504),(zs "/claim/cut.py" 505),(zi 138),(zi 2),(zi 0),(zi 0),(zi 3),(zr 254),(.bool true),(zi 181),(zr 255),.none,(zr 256),(zr 257),(zr 258),(zi 508),(zi 138),(zs "/claim/cut.py" 509)]
noncomputable def Mj:Obj:=zf "is_held" "is_held" (top 43) (zs "belowpoints.heaps.boxes" 480) (zr 259)
noncomputable def zo182:Obj:=zt [(zs "points" 514),(zs "place" 515)]
noncomputable def zo183:Obj:=zx "name_at" "name_at" (top 44)
noncomputable def N4:Obj:=zc [(zs "name_at" 511),(zs "name_at" 512),(zs "/claim/cut.py" 513),(zi 140),(zi 2),(zi 0),(zi 0),(zi 3),(zr 261),(.bool true),(zi 181),(zr 262),.none,(zr 263),(zr 264),(zr 265),(zi 516),(zi 140),(zs "/claim/cut.py" 517)]
noncomputable def zo185:Obj:=zf "name_at" "name_at" (top 44) (zs "belowpoints.heaps.boxes" 480) (zr 266)
noncomputable def Ak7:Obj:=zd [de P "__name__" 165 (zs "belowpoints.kept" 519),de P "__doc__" 166 .none,de P "__package__" 167 .none,de P "__loader__" 168 (.builtin "__main__.__loader__#opaque"),de P "__spec__" 169 .none,de P "__annotations__" 170 (zr 6),de P "__builtins__" 171 (zr 4),de P "__file__" 173 (zs "/claim/cut.py" 172),de P "__cached__" 174 .none,de P "_wall" 193 (zr 21),de P "BelowError" 213 (zr 31),de P "NoPlace" 237 (zr 51),de P "NoAsk" 261 (zr 70),de P "NoName" 286 (zr 89),de P "LETTERS" 290 (zs "abcdefghijklmnopqrstuvwxyz" 289),de P "FIGURES" 292 (zs "0123456789" 291),de P "LONGEST_NAME" 294 (.int 8 293),de P "lies_below" 300 (zr 96),de P "place_of" 307 (zr 103),de P "is_name" 314 (zr 110),de P "is_number" 322 (zr 117),de P "holds_only" 328 (zr 122),de P "below_each" 336 (zr 127),de P "above_each" 342 (zr 132),de P "pairs_in_all" 349 (zr 139),de P "many_below" 355 (zr 144),de P "many_above" 361 (zr 149),de P "crowd_of" 369 (zr 154),de P "chains_laid" 380 (zr 161),de P "first_that_takes" 390 (zr 168),de P "stairs_of" 398 (zr 173),de P "longest_chains" 408 (zr 180),de P "heaviest_chain" 414 (zr 185),de P "chains_of_each" 420 (zr 190),de P "heaviest_begun" 426 (zr 195),de P "first_heaviest" 433 (zr 202),de P "turns_from_the_highest" 441 (zr 209),de P "turns_above" 447 (zr 214),de P "sum_at" 453 (zr 219),de P "halves_of" 461 (zr 224),de P "halves_between" 473 (zr 231),de P "crossings_of" 479 (zr 236),de P "in_boxes" 487 (zr 241),de P "nth_by_x" 496 (zr 248),de P "points_in" 502 (zr 253),de P "is_held" 510 (zr 260),de P "name_at" 518 (zr 267)] 47
noncomputable def Akc:Obj:=zd [de P "__name__" 165 (zs "belowpoints.kept" 519),de P "__doc__" 166 .none,de P "__package__" 167 .none,de P "__loader__" 168 (.builtin "__main__.__loader__#opaque"),de P "__spec__" 169 .none,de P "__annotations__" 170 (zr 6),de P "__builtins__" 171 (zr 4),de P "__file__" 173 (zs "/claim/cut.py" 172),de P "__cached__" 174 .none,de P "_wall" 193 (zr 21),de P "BelowError" 213 (zr 31),de P "NoPlace" 237 (zr 51),de P "NoAsk" 261 (zr 70),de P "NoName" 286 (zr 89),de P "LETTERS" 290 (zs "abcdefghijklmnopqrstuvwxyz" 289),de P "FIGURES" 292 (zs "0123456789" 291),de P "LONGEST_NAME" 294 (.int 8 293),de P "lies_below" 300 (zr 96),de P "place_of" 307 (zr 103),de P "is_name" 314 (zr 110),de P "is_number" 322 (zr 117),de P "holds_only" 328 (zr 122),de P "below_each" 336 (zr 127),de P "above_each" 342 (zr 132),de P "pairs_in_all" 349 (zr 139),de P "many_below" 355 (zr 144),de P "many_above" 361 (zr 149),de P "crowd_of" 369 (zr 154),de P "chains_laid" 380 (zr 161),de P "first_that_takes" 390 (zr 168),de P "stairs_of" 398 (zr 173),de P "longest_chains" 408 (zr 180),de P "heaviest_chain" 414 (zr 185),de P "chains_of_each" 420 (zr 190),de P "heaviest_begun" 426 (zr 195),de P "first_heaviest" 433 (zr 202),de P "turns_from_the_highest" 441 (zr 209),de P "turns_above" 447 (zr 214),de P "sum_at" 453 (zr 219),de P "halves_of" 461 (zr 224),de P "halves_between" 473 (zr 231),de P "crossings_of" 479 (zr 236),de P "in_boxes" 487 (zr 241),de P "nth_by_x" 496 (zr 248),de P "points_in" 502 (zr 253),de P "is_held" 510 (zr 260),de P "name_at" 518 (zr 267),de P "KeptPoints" 630 (zr 352)] 48
noncomputable def Agi:Obj:=zl [(zi 1),(zi 0),(zr 20),(zi 5),(zi 0),(zr 27),(zi 7),(zi 0),(zr 40),(zi 11),(zi 0),(zr 59),(zi 15),(zi 0),(zr 78),(zi 24),(zi 0),(zr 95),(zi 26),(zi 0),(zr 102),(zi 28),(zi 0),(zr 109),(zi 30),(zi 0),(zr 116),(zi 35),(zi 0),(zr 121),(zi 38),(zi 0),(zr 126),(zi 41),(zi 0),(zr 131),(zi 44),(zi 0),(zr 138),(zi 46),(zi 0),(zr 143),(zi 48),(zi 0),(zr 148),(zi 51),(zi 0),(zr 153),(zi 57),(zi 0),(zr 160),(zi 66),(zi 0),(zr 167),(zi 72),(zi 0),(zr 172),(zi 81),(zi 0),(zr 179),(zi 89),(zi 0),(zr 184),(zi 94),(zi 0),(zr 189),(zi 102),(zi 0),(zr 194),(zi 109),(zi 0),(zr 201),(zi 111),(zi 0),(zr 208),(zi 113),(zi 0),(zr 213),(zi 116),(zi 0),(zr 218),(zi 119),(zi 0),(zr 223),(zi 122),(zi 0),(zr 230),(zi 129),(zi 0),(zr 235),(zi 132),(zi 0),(zr 240),(zi 134),(zi 0),(zr 247),(zi 136),(zi 0),(zr 252),(zi 138),(zi 0),(zr 259),(zi 140),(zi 0),(zr 266),(zi 145),(zi 0),(zr 273)]
noncomputable def Pp:Obj:=zd [de P "__module__" 528 (zs "belowpoints.kept" 519),de P "__qualname__" 530 (zs "KeptPoints" 529),de P "__firstlineno__" 532 (.int 145 531),de P "__init__" 539 (zr 281),de P "put_point" 549 (zr 288),de P "take_point" 557 (zr 295),de P "move_point" 567 (zr 302),de P "points_now" 574 (zr 309),de P "below_now" 583 (zr 316),de P "above_now" 592 (zr 323),de P "pairs_now" 599 (zr 330),de P "box_now" 607 (zr 337),de P "places_now" 613 (zr 342),de P "need_name" 621 (zr 349),de P "__static_attributes__" 623 (zr 350)] 15
noncomputable def Sy:Obj:=zl [(zi 147),(zi 4),(zr 280),(zi 150),(zi 4),(zr 287),(zi 155),(zi 4),(zr 294),(zi 159),(zi 4),(zr 301),(zi 163),(zi 4),(zr 308),(zi 166),(zi 4),(zr 315),(zi 169),(zi 4),(zr 322),(zi 172),(zi 4),(zr 329),(zi 175),(zi 4),(zr 336),(zi 178),(zi 4),(zr 341),(zi 181),(zi 4),(zr 348)]
noncomputable def zo191:Obj:=zc [(zs "KeptPoints" 523),(zs "KeptPoints" 524),(zs "/claim/cut.py" 525),(zi 145),(zi 0),(zi 0),(zi 0),(zi 0),(zr 271),(.bool false),(zi 181),(zr 272),.none,.none,.none,.none,(zi 526),(zi 145),(zs "/claim/cut.py" 527)]
noncomputable def Te:Obj:=⟨(.type "frame"),none,.plain,#[(some (zr 273)),(some (zr 3)),(some (zr 270)),none,(some (zs "belowpoints.kept" 519)),none,(some (zr 0))]⟩
noncomputable def zo193:Obj:=zt [(zs "self" 536)]
noncomputable def zo194:Obj:=zx "__init__" "KeptPoints.__init__" (Ai (top 46) 0)
noncomputable def Pw:Obj:=zc [(zs "__init__" 533),(zs "KeptPoints.__init__" 534),(zs "/claim/cut.py" 535),(zi 147),(zi 1),(zi 0),(zi 0),(zi 3),(zr 275),(.bool true),(zi 181),(zr 276),.none,(zr 277),(zr 278),(zr 279),(zi 537),(zi 147),(zs "/claim/cut.py" 538)]
noncomputable def zo196:Obj:=zf "__init__" "KeptPoints.__init__" (Ai (top 46) 0) (zs "belowpoints.kept" 519) (zr 280)
noncomputable def Tu:Obj:=zt [(zs "self" 543),(zs "name" 544),(zs "x" 545),(zs "y" 546)]
noncomputable def Ta:Obj:=zx "put_point" "KeptPoints.put_point" (Ai (top 46) 1)
noncomputable def zo199:Obj:=zc [(zs "put_point" 540),(zs "KeptPoints.put_point" 541),(zs "/claim/cut.py" 542),(zi 150),(zi 4),(zi 0),(zi 0),(zi 3),(zr 282),(.bool true),(zi 181),(zr 283),.none,(zr 284),(zr 285),(zr 286),(zi 547),(zi 150),(zs "/claim/cut.py" 548)]
noncomputable def O7:Obj:=zf "put_point" "KeptPoints.put_point" (Ai (top 46) 1) (zs "belowpoints.kept" 519) (zr 287)
noncomputable def zo201:Obj:=zt [(zs "self" 553),(zs "name" 554)]
noncomputable def zo202:Obj:=zx "take_point" "KeptPoints.take_point" (Ai (top 46) 2)
noncomputable def S8:Obj:=zc [(zs "take_point" 550),(zs "KeptPoints.take_point" 551),(zs "/claim/cut.py" 552),(zi 155),(zi 2),(zi 0),(zi 0),(zi 3),(zr 289),(.bool true),(zi 181),(zr 290),.none,(zr 291),(zr 292),(zr 293),(zi 555),(zi 155),(zs "/claim/cut.py" 556)]
noncomputable def zo204:Obj:=zf "take_point" "KeptPoints.take_point" (Ai (top 46) 2) (zs "belowpoints.kept" 519) (zr 294)
noncomputable def Tj:Obj:=zt [(zs "self" 561),(zs "name" 562),(zs "x" 563),(zs "y" 564)]
noncomputable def Ti:Obj:=zx "move_point" "KeptPoints.move_point" (Ai (top 46) 3)
noncomputable def zo207:Obj:=zc [(zs "move_point" 558),(zs "KeptPoints.move_point" 559),(zs "/claim/cut.py" 560),(zi 159),(zi 4),(zi 0),(zi 0),(zi 3),(zr 296),(.bool true),(zi 181),(zr 297),.none,(zr 298),(zr 299),(zr 300),(zi 565),(zi 159),(zs "/claim/cut.py" 566)]
noncomputable def Sv:Obj:=zf "move_point" "KeptPoints.move_point" (Ai (top 46) 3) (zs "belowpoints.kept" 519) (zr 301)
noncomputable def zo209:Obj:=zt [(zs "self" 571)]
noncomputable def zo210:Obj:=zx "points_now" "KeptPoints.points_now" (Ai (top 46) 4)
noncomputable def P4:Obj:=zc [(zs "points_now" 568),(zs "KeptPoints.points_now" 569),(zs "/claim/cut.py" 570),(zi 163),(zi 1),(zi 0),(zi 0),(zi 3),(zr 303),(.bool true),(zi 181),(zr 304),.none,(zr 305),(zr 306),(zr 307),(zi 572),(zi 163),(zs "/claim/cut.py" 573)]
noncomputable def zo212:Obj:=zf "points_now" "KeptPoints.points_now" (Ai (top 46) 4) (zs "belowpoints.kept" 519) (zr 308)
noncomputable def Ss:Obj:=zt [(zs "self" 578),(zs "x" 579),(zs "y" 580)]
noncomputable def Rq:Obj:=zx "below_now" "KeptPoints.below_now" (Ai (top 46) 5)
noncomputable def zo215:Obj:=zc [(zs "below_now" 575),(zs "KeptPoints.below_now" 576),(zs "/claim/cut.py" 577),(zi 166),(zi 3),(zi 0),(zi 0),(zi 3),(zr 310),(.bool true),(zi 181),(zr 311),.none,(zr 312),(zr 313),(zr 314),(zi 581),(zi 166),(zs "/claim/cut.py" 582)]
noncomputable def R1:Obj:=zf "below_now" "KeptPoints.below_now" (Ai (top 46) 5) (zs "belowpoints.kept" 519) (zr 315)
noncomputable def zo217:Obj:=zt [(zs "self" 587),(zs "x" 588),(zs "y" 589)]
noncomputable def zo218:Obj:=zx "above_now" "KeptPoints.above_now" (Ai (top 46) 6)
noncomputable def Si:Obj:=zc [(zs "above_now" 584),(zs "KeptPoints.above_now" 585),(zs "/claim/cut.py" 586),(zi 169),(zi 3),(zi 0),(zi 0),(zi 3),(zr 317),(.bool true),(zi 181),(zr 318),.none,(zr 319),(zr 320),(zr 321),(zi 590),(zi 169),(zs "/claim/cut.py" 591)]
noncomputable def zo220:Obj:=zf "above_now" "KeptPoints.above_now" (Ai (top 46) 6) (zs "belowpoints.kept" 519) (zr 322)
noncomputable def Tc:Obj:=zt [(zs "self" 596)]
noncomputable def Th:Obj:=zx "pairs_now" "KeptPoints.pairs_now" (Ai (top 46) 7)
noncomputable def zo223:Obj:=zc [(zs "pairs_now" 593),(zs "KeptPoints.pairs_now" 594),(zs "/claim/cut.py" 595),(zi 172),(zi 1),(zi 0),(zi 0),(zi 3),(zr 324),(.bool true),(zi 181),(zr 325),.none,(zr 326),(zr 327),(zr 328),(zi 597),(zi 172),(zs "/claim/cut.py" 598)]
noncomputable def Rz:Obj:=zf "pairs_now" "KeptPoints.pairs_now" (Ai (top 46) 7) (zs "belowpoints.kept" 519) (zr 329)
noncomputable def zo225:Obj:=zt [(zs "self" 603),(zs "box" 604)]
noncomputable def zo226:Obj:=zx "box_now" "KeptPoints.box_now" (Ai (top 46) 8)
noncomputable def R7:Obj:=zc [(zs "box_now" 600),(zs "KeptPoints.box_now" 601),(zs "/claim/cut.py" 602),(zi 175),(zi 2),(zi 0),(zi 0),(zi 3),(zr 331),(.bool true),(zi 181),(zr 332),.none,(zr 333),(zr 334),(zr 335),(zi 605),(zi 175),(zs "/claim/cut.py" 606)]
noncomputable def zo228:Obj:=zf "box_now" "KeptPoints.box_now" (Ai (top 46) 8) (zs "belowpoints.kept" 519) (zr 336)
noncomputable def Sr:Obj:=zx "places_now" "KeptPoints.places_now" (Ai (top 46) 9)
noncomputable def zo230:Obj:=zc [(zs "places_now" 608),(zs "KeptPoints.places_now" 609),(zs "/claim/cut.py" 610),(zi 178),(zi 1),(zi 0),(zi 0),(zi 3),(zr 338),(.bool true),(zi 181),(zr 339),.none,.none,.none,(zr 340),(zi 611),(zi 178),(zs "/claim/cut.py" 612)]
noncomputable def R4:Obj:=zf "places_now" "KeptPoints.places_now" (Ai (top 46) 9) (zs "belowpoints.kept" 519) (zr 341)
noncomputable def zo232:Obj:=zt [(zs "self" 617),(zs "name" 618)]
noncomputable def zo233:Obj:=zx "need_name" "KeptPoints.need_name" (Ai (top 46) 10)
noncomputable def Tv:Obj:=zc [(zs "need_name" 614),(zs "KeptPoints.need_name" 615),(zs "/claim/cut.py" 616),(zi 181),(zi 2),(zi 0),(zi 0),(zi 3),(zr 343),(.bool true),(zi 181),(zr 344),.none,(zr 345),(zr 346),(zr 347),(zi 619),(zi 181),(zs "/claim/cut.py" 620)]
noncomputable def zo235:Obj:=zf "need_name" "KeptPoints.need_name" (Ai (top 46) 10) (zs "belowpoints.kept" 519) (zr 348)
noncomputable def Rf:Obj:=zt [(zs "points" 622)]
noncomputable def O9:Obj:=zd [de P "__module__" 528 (zs "belowpoints.kept" 519),de P "__firstlineno__" 532 (.int 145 531),de P "__init__" 539 (zr 281),de P "put_point" 549 (zr 288),de P "take_point" 557 (zr 295),de P "move_point" 567 (zr 302),de P "points_now" 574 (zr 309),de P "below_now" 583 (zr 316),de P "above_now" 592 (zr 323),de P "pairs_now" 599 (zr 330),de P "box_now" 607 (zr 337),de P "places_now" 613 (zr 342),de P "need_name" 621 (zr 349),de P "__static_attributes__" 623 (zr 350),de P "__dict__" 625 (zr 353),de P "__weakref__" 627 (zr 354),de P "__doc__" 628 .none] 4
noncomputable def zo238:Obj:=⟨(.type "type"),none,(.cls ⟨"KeptPoints",[(.type "object")],[(zr 352),(.type "object")],351,"KeptPoints",true,[],[],false,none,false⟩),#[none,none,(some (zs "KeptPoints" 521)),(some (zs "KeptPoints" 529)),(some (.builtin "object.__new__")),(some (.bool true))]⟩
noncomputable def Ts:Obj:=⟨(.type "getset_descriptor"),none,(.fields #[(zs "__dict__" 624),(zr 352),(.builtin "function.__dict__"),(.builtin "function.__dict__#set")]),#[]⟩
noncomputable def zo240:Obj:=⟨(.type "getset_descriptor"),none,(.fields #[(zs "__weakref__" 626),(zr 352),(.builtin "ExceptionGroup.__weakref__"),.none]),#[]⟩
noncomputable def Sk:Obj:=⟨(.type "super"),none,(.fields #[(zr 352),(zr 352),(zr 352)]),#[]⟩
noncomputable def zo242:Obj:=⟨(.type "builtin_function_or_method"),none,(.fields #[(.builtin "object.__init_subclass__"),(zr 352)]),#[]⟩
noncomputable def Akd:Obj:=zd [de P "__name__" 165 (zs "belowpoints.whole" 631),de P "__doc__" 166 .none,de P "__package__" 167 .none,de P "__loader__" 168 (.builtin "__main__.__loader__#opaque"),de P "__spec__" 169 .none,de P "__annotations__" 170 (zr 6),de P "__builtins__" 171 (zr 4),de P "__file__" 173 (zs "/claim/cut.py" 172),de P "__cached__" 174 .none,de P "_wall" 193 (zr 21),de P "BelowError" 213 (zr 31),de P "NoPlace" 237 (zr 51),de P "NoAsk" 261 (zr 70),de P "NoName" 286 (zr 89),de P "LETTERS" 290 (zs "abcdefghijklmnopqrstuvwxyz" 289),de P "FIGURES" 292 (zs "0123456789" 291),de P "LONGEST_NAME" 294 (.int 8 293),de P "lies_below" 300 (zr 96),de P "place_of" 307 (zr 103),de P "is_name" 314 (zr 110),de P "is_number" 322 (zr 117),de P "holds_only" 328 (zr 122),de P "below_each" 336 (zr 127),de P "above_each" 342 (zr 132),de P "pairs_in_all" 349 (zr 139),de P "many_below" 355 (zr 144),de P "many_above" 361 (zr 149),de P "crowd_of" 369 (zr 154),de P "chains_laid" 380 (zr 161),de P "first_that_takes" 390 (zr 168),de P "stairs_of" 398 (zr 173),de P "longest_chains" 408 (zr 180),de P "heaviest_chain" 414 (zr 185),de P "chains_of_each" 420 (zr 190),de P "heaviest_begun" 426 (zr 195),de P "first_heaviest" 433 (zr 202),de P "turns_from_the_highest" 441 (zr 209),de P "turns_above" 447 (zr 214),de P "sum_at" 453 (zr 219),de P "halves_of" 461 (zr 224),de P "halves_between" 473 (zr 231),de P "crossings_of" 479 (zr 236),de P "in_boxes" 487 (zr 241),de P "nth_by_x" 496 (zr 248),de P "points_in" 502 (zr 253),de P "is_held" 510 (zr 260),de P "name_at" 518 (zr 267),de P "KeptPoints" 630 (zr 352),de P "MOST_POINTS" 634 (.int 60 633),de P "MOST_FIGURES" 636 (.int 10 635),de P "FORMS" 685 (zr 357)] 51
noncomputable def Rl:Obj:=zd [de P "put" 637 (zr 358),de P "take" 641 (zr 359),de P "move" 643 (zr 360),de P "points" 647 (zr 361),de P "counts" 648 (zr 362),de P "pairs" 649 (zr 363),de P "halves" 650 (zr 364),de P "below" 651 (zr 365),de P "above" 654 (zr 366),de P "box" 657 (zr 367),de P "nth" 662 (zr 368),de P "stairs" 668 (zr 369),de P "longest" 669 (zr 370),de P "crowd" 670 (zr 371)] 14
noncomputable def zo245:Obj:=zt [(zs "name" 638),(zs "number" 639),(zs "number" 640)]
noncomputable def R0:Obj:=zt [(zs "name" 642)]
noncomputable def zo247:Obj:=zt [(zs "name" 644),(zs "number" 645),(zs "number" 646)]
noncomputable def Sh:Obj:=zt [(zs "number" 652),(zs "number" 653)]
noncomputable def zo249:Obj:=zt [(zs "number" 655),(zs "number" 656)]
noncomputable def Sn:Obj:=zt [(zs "number" 658),(zs "number" 659),(zs "number" 660),(zs "number" 661)]
noncomputable def zo251:Obj:=zt [(zs "place" 663),(zs "number" 664),(zs "number" 665),(zs "number" 666),(zs "number" 667)]
noncomputable def Akr:Obj:=zd [de P "__name__" 165 (zs "belowpoints.whole" 631),de P "__doc__" 166 .none,de P "__package__" 167 .none,de P "__loader__" 168 (.builtin "__main__.__loader__#opaque"),de P "__spec__" 169 .none,de P "__annotations__" 170 (zr 6),de P "__builtins__" 171 (zr 4),de P "__file__" 173 (zs "/claim/cut.py" 172),de P "__cached__" 174 .none,de P "_wall" 193 (zr 21),de P "BelowError" 213 (zr 31),de P "NoPlace" 237 (zr 51),de P "NoAsk" 261 (zr 70),de P "NoName" 286 (zr 89),de P "LETTERS" 290 (zs "abcdefghijklmnopqrstuvwxyz" 289),de P "FIGURES" 292 (zs "0123456789" 291),de P "LONGEST_NAME" 294 (.int 8 293),de P "lies_below" 300 (zr 96),de P "place_of" 307 (zr 103),de P "is_name" 314 (zr 110),de P "is_number" 322 (zr 117),de P "holds_only" 328 (zr 122),de P "below_each" 336 (zr 127),de P "above_each" 342 (zr 132),de P "pairs_in_all" 349 (zr 139),de P "many_below" 355 (zr 144),de P "many_above" 361 (zr 149),de P "crowd_of" 369 (zr 154),de P "chains_laid" 380 (zr 161),de P "first_that_takes" 390 (zr 168),de P "stairs_of" 398 (zr 173),de P "longest_chains" 408 (zr 180),de P "heaviest_chain" 414 (zr 185),de P "chains_of_each" 420 (zr 190),de P "heaviest_begun" 426 (zr 195),de P "first_heaviest" 433 (zr 202),de P "turns_from_the_highest" 441 (zr 209),de P "turns_above" 447 (zr 214),de P "sum_at" 453 (zr 219),de P "halves_of" 461 (zr 224),de P "halves_between" 473 (zr 231),de P "crossings_of" 479 (zr 236),de P "in_boxes" 487 (zr 241),de P "nth_by_x" 496 (zr 248),de P "points_in" 502 (zr 253),de P "is_held" 510 (zr 260),de P "name_at" 518 (zr 267),de P "KeptPoints" 630 (zr 352),de P "MOST_POINTS" 634 (.int 60 633),de P "MOST_FIGURES" 636 (.int 10 635),de P "FORMS" 685 (zr 357),de P "Desk" 748 (zr 416)] 52
noncomputable def Ak5:Obj:=zl [(zi 1),(zi 0),(zr 20),(zi 5),(zi 0),(zr 27),(zi 7),(zi 0),(zr 40),(zi 11),(zi 0),(zr 59),(zi 15),(zi 0),(zr 78),(zi 24),(zi 0),(zr 95),(zi 26),(zi 0),(zr 102),(zi 28),(zi 0),(zr 109),(zi 30),(zi 0),(zr 116),(zi 35),(zi 0),(zr 121),(zi 38),(zi 0),(zr 126),(zi 41),(zi 0),(zr 131),(zi 44),(zi 0),(zr 138),(zi 46),(zi 0),(zr 143),(zi 48),(zi 0),(zr 148),(zi 51),(zi 0),(zr 153),(zi 57),(zi 0),(zr 160),(zi 66),(zi 0),(zr 167),(zi 72),(zi 0),(zr 172),(zi 81),(zi 0),(zr 179),(zi 89),(zi 0),(zr 184),(zi 94),(zi 0),(zr 189),(zi 102),(zi 0),(zr 194),(zi 109),(zi 0),(zr 201),(zi 111),(zi 0),(zr 208),(zi 113),(zi 0),(zr 213),(zi 116),(zi 0),(zr 218),(zi 119),(zi 0),(zr 223),(zi 122),(zi 0),(zr 230),(zi 129),(zi 0),(zr 235),(zi 132),(zi 0),(zr 240),(zi 134),(zi 0),(zr 247),(zi 136),(zi 0),(zr 252),(zi 138),(zi 0),(zr 259),(zi 140),(zi 0),(zr 266),(zi 145),(zi 0),(zr 273),(zi 188),(zi 0),(zr 377)]
noncomputable def Vz:Obj:=zd [de P "__module__" 693 (zs "belowpoints.whole" 631),de P "__qualname__" 695 (zs "Desk" 694),de P "__firstlineno__" 697 (.int 188 696),de P "__init__" 704 (zr 385),de P "ask" 714 (zr 392),de P "change_points" 723 (zr 399),de P "need_room" 730 (zr 406),de P "told_at" 739 (zr 413),de P "__static_attributes__" 741 (zr 414)] 9
noncomputable def Aan:Obj:=zl [(zi 190),(zi 4),(zr 384),(zi 193),(zi 4),(zr 391),(zi 203),(zi 4),(zr 398),(zi 212),(zi 4),(zr 405),(zi 216),(zi 4),(zr 412)]
noncomputable def zo256:Obj:=zc [(zs "Desk" 688),(zs "Desk" 689),(zs "/claim/cut.py" 690),(zi 188),(zi 0),(zi 0),(zi 0),(zi 0),(zr 375),(.bool false),(zi 181),(zr 376),.none,.none,.none,.none,(zi 691),(zi 188),(zs "/claim/cut.py" 692)]
noncomputable def Abh:Obj:=⟨(.type "frame"),none,.plain,#[(some (zr 377)),(some (zr 3)),(some (zr 374)),none,(some (zs "belowpoints.whole" 631)),none,(some (zr 0))]⟩
noncomputable def zo258:Obj:=zt [(zs "self" 701)]
noncomputable def zo259:Obj:=zx "__init__" "Desk.__init__" (Ai (top 51) 0)
noncomputable def Vx:Obj:=zc [(zs "__init__" 698),(zs "Desk.__init__" 699),(zs "/claim/cut.py" 700),(zi 190),(zi 1),(zi 0),(zi 0),(zi 3),(zr 379),(.bool true),(zi 181),(zr 380),.none,(zr 381),(zr 382),(zr 383),(zi 702),(zi 190),(zs "/claim/cut.py" 703)]
noncomputable def zo261:Obj:=zf "__init__" "Desk.__init__" (Ai (top 51) 0) (zs "belowpoints.whole" 631) (zr 384)
noncomputable def Abo:Obj:=zt [(zs "self" 708),(zs "line" 709),(zs "words" 710),(zs "given" 711)]
noncomputable def Acm:Obj:=zx "ask" "Desk.ask" (Ai (top 51) 1)
noncomputable def zo264:Obj:=zc [(zs "ask" 705),(zs "Desk.ask" 706),(zs "/claim/cut.py" 707),(zi 193),(zi 2),(zi 0),(zi 0),(zi 3),(zr 386),(.bool true),(zi 181),(zr 387),.none,(zr 388),(zr 389),(zr 390),(zi 712),(zi 193),(zs "/claim/cut.py" 713)]
noncomputable def Wt:Obj:=zf "ask" "Desk.ask" (Ai (top 51) 1) (zs "belowpoints.whole" 631) (zr 391)
noncomputable def zo266:Obj:=zt [(zs "self" 718),(zs "word" 719),(zs "given" 720)]
noncomputable def zo267:Obj:=zx "change_points" "Desk.change_points" (Ai (top 51) 2)
noncomputable def Vv:Obj:=zc [(zs "change_points" 715),(zs "Desk.change_points" 716),(zs "/claim/cut.py" 717),(zi 203),(zi 3),(zi 0),(zi 0),(zi 3),(zr 393),(.bool true),(zi 181),(zr 394),.none,(zr 395),(zr 396),(zr 397),(zi 721),(zi 203),(zs "/claim/cut.py" 722)]
noncomputable def zo269:Obj:=zf "change_points" "Desk.change_points" (Ai (top 51) 2) (zs "belowpoints.whole" 631) (zr 398)
noncomputable def Aco:Obj:=zt [(zs "self" 727)]
noncomputable def Aao:Obj:=zx "need_room" "Desk.need_room" (Ai (top 51) 3)
noncomputable def zo272:Obj:=zc [(zs "need_room" 724),(zs "Desk.need_room" 725),(zs "/claim/cut.py" 726),(zi 212),(zi 1),(zi 0),(zi 0),(zi 3),(zr 400),(.bool true),(zi 181),(zr 401),.none,(zr 402),(zr 403),(zr 404),(zi 728),(zi 212),(zs "/claim/cut.py" 729)]
noncomputable def V5:Obj:=zf "need_room" "Desk.need_room" (Ai (top 51) 3) (zs "belowpoints.whole" 631) (zr 405)
noncomputable def zo274:Obj:=zt [(zs "self" 734),(zs "word" 735),(zs "given" 736)]
noncomputable def zo275:Obj:=zx "told_at" "Desk.told_at" (Ai (top 51) 4)
noncomputable def Aag:Obj:=zc [(zs "told_at" 731),(zs "Desk.told_at" 732),(zs "/claim/cut.py" 733),(zi 216),(zi 3),(zi 0),(zi 0),(zi 3),(zr 407),(.bool true),(zi 181),(zr 408),.none,(zr 409),(zr 410),(zr 411),(zi 737),(zi 216),(zs "/claim/cut.py" 738)]
noncomputable def zo277:Obj:=zf "told_at" "Desk.told_at" (Ai (top 51) 4) (zs "belowpoints.whole" 631) (zr 412)
noncomputable def Yy:Obj:=zt [(zs "kept" 740)]
noncomputable def Vs:Obj:=zd [de P "__module__" 693 (zs "belowpoints.whole" 631),de P "__firstlineno__" 697 (.int 188 696),de P "__init__" 704 (zr 385),de P "ask" 714 (zr 392),de P "change_points" 723 (zr 399),de P "need_room" 730 (zr 406),de P "told_at" 739 (zr 413),de P "__static_attributes__" 741 (zr 414),de P "__dict__" 743 (zr 417),de P "__weakref__" 745 (zr 418),de P "__doc__" 746 .none] 4
noncomputable def zo280:Obj:=⟨(.type "type"),none,(.cls ⟨"Desk",[(.type "object")],[(zr 416),(.type "object")],415,"Desk",true,[],[],false,none,false⟩),#[none,none,(some (zs "Desk" 686)),(some (zs "Desk" 694)),(some (.builtin "object.__new__")),(some (.bool true))]⟩
noncomputable def Aax:Obj:=⟨(.type "getset_descriptor"),none,(.fields #[(zs "__dict__" 742),(zr 416),(.builtin "function.__dict__"),(.builtin "function.__dict__#set")]),#[]⟩
noncomputable def zo282:Obj:=⟨(.type "getset_descriptor"),none,(.fields #[(zs "__weakref__" 744),(zr 416),(.builtin "ExceptionGroup.__weakref__"),.none]),#[]⟩
noncomputable def Aat:Obj:=⟨(.type "super"),none,(.fields #[(zr 416),(zr 416),(zr 416)]),#[]⟩
noncomputable def zo284:Obj:=⟨(.type "builtin_function_or_method"),none,(.fields #[(.builtin "object.__init_subclass__"),(zr 416)]),#[]⟩
noncomputable def Aab:Obj:=zd [de P "__name__" 165 (zs "law_belowpoints_k92_desk_by_names" 781),de P "__doc__" 166 .none,de P "__package__" 167 .none,de P "__loader__" 168 (.builtin "__main__.__loader__#opaque"),de P "__spec__" 169 .none,de P "__annotations__" 170 (zr 6),de P "__builtins__" 171 (zr 4),de P "__file__" 173 (zs "/claim/cut.py" 172),de P "__cached__" 174 .none,de P "_wall" 193 (zr 21),de P "BelowError" 213 (zr 31),de P "NoPlace" 237 (zr 51),de P "NoAsk" 261 (zr 70),de P "NoName" 286 (zr 89),de P "LETTERS" 290 (zs "abcdefghijklmnopqrstuvwxyz" 289),de P "FIGURES" 292 (zs "0123456789" 291),de P "LONGEST_NAME" 294 (.int 8 293),de P "lies_below" 300 (zr 96),de P "place_of" 307 (zr 103),de P "is_name" 314 (zr 110),de P "is_number" 322 (zr 117),de P "holds_only" 328 (zr 122),de P "below_each" 336 (zr 127),de P "above_each" 342 (zr 132),de P "pairs_in_all" 349 (zr 139),de P "many_below" 355 (zr 144),de P "many_above" 361 (zr 149),de P "crowd_of" 369 (zr 154),de P "chains_laid" 380 (zr 161),de P "first_that_takes" 390 (zr 168),de P "stairs_of" 398 (zr 173),de P "longest_chains" 408 (zr 180),de P "heaviest_chain" 414 (zr 185),de P "chains_of_each" 420 (zr 190),de P "heaviest_begun" 426 (zr 195),de P "first_heaviest" 433 (zr 202),de P "turns_from_the_highest" 441 (zr 209),de P "turns_above" 447 (zr 214),de P "sum_at" 453 (zr 219),de P "halves_of" 461 (zr 224),de P "halves_between" 473 (zr 231),de P "crossings_of" 479 (zr 236),de P "in_boxes" 487 (zr 241),de P "nth_by_x" 496 (zr 248),de P "points_in" 502 (zr 253),de P "is_held" 510 (zr 260),de P "name_at" 518 (zr 267),de P "KeptPoints" 630 (zr 352),de P "MOST_POINTS" 634 (.int 60 633),de P "MOST_FIGURES" 636 (.int 10 635),de P "FORMS" 685 (zr 357),de P "Desk" 748 (zr 416),de P "given_behind" 754 (zr 425),de P "value_of" 762 (zr 432),de P "rows_of" 768 (zr 437),de P "rows_shown" 774 (zr 442),de P "row_shown" 780 (zr 447),de P "_law_kinds" 789 (zr 454),de P "law" 799 (zr 461)] 59
noncomputable def zo286:Obj:=zl [(zi 1),(zi 0),(zr 20),(zi 5),(zi 0),(zr 27),(zi 7),(zi 0),(zr 40),(zi 11),(zi 0),(zr 59),(zi 15),(zi 0),(zr 78),(zi 24),(zi 0),(zr 95),(zi 26),(zi 0),(zr 102),(zi 28),(zi 0),(zr 109),(zi 30),(zi 0),(zr 116),(zi 35),(zi 0),(zr 121),(zi 38),(zi 0),(zr 126),(zi 41),(zi 0),(zr 131),(zi 44),(zi 0),(zr 138),(zi 46),(zi 0),(zr 143),(zi 48),(zi 0),(zr 148),(zi 51),(zi 0),(zr 153),(zi 57),(zi 0),(zr 160),(zi 66),(zi 0),(zr 167),(zi 72),(zi 0),(zr 172),(zi 81),(zi 0),(zr 179),(zi 89),(zi 0),(zr 184),(zi 94),(zi 0),(zr 189),(zi 102),(zi 0),(zr 194),(zi 109),(zi 0),(zr 201),(zi 111),(zi 0),(zr 208),(zi 113),(zi 0),(zr 213),(zi 116),(zi 0),(zr 218),(zi 119),(zi 0),(zr 223),(zi 122),(zi 0),(zr 230),(zi 129),(zi 0),(zr 235),(zi 132),(zi 0),(zr 240),(zi 134),(zi 0),(zr 247),(zi 136),(zi 0),(zr 252),(zi 138),(zi 0),(zr 259),(zi 140),(zi 0),(zr 266),(zi 145),(zi 0),(zr 273),(zi 188),(zi 0),(zr 377),(zi 224),(zi 0),(zr 424),(zi 229),(zi 0),(zr 431),(zi 239),(zi 0),(zr 436),(zi 255),(zi 0),(zr 441),(zi 257),(zi 0),(zr 446),(zi 260),(zi 0),(zr 453),(zi 262),(zi 0),(zr 460)]
noncomputable def Ag1:Obj:=zx "given_behind" "given_behind" (top 52)
noncomputable def zo288:Obj:=zc [(zs "given_behind" 749),(zs "given_behind" 750),(zs "/claim/cut.py" 751),(zi 224),(zi 1),(zi 0),(zi 0),(zi 3),(zr 421),(.bool true),(zi 181),(zr 422),.none,.none,.none,(zr 423),(zi 752),(zi 224),(zs "/claim/cut.py" 753)]
noncomputable def Acz:Obj:=zf "given_behind" "given_behind" (top 52) (zs "belowpoints.whole" 631) (zr 424)
noncomputable def zo290:Obj:=zt [(zs "word" 758),(zs "kind" 759)]
noncomputable def zo291:Obj:=zx "value_of" "value_of" (top 53)
noncomputable def Aaw:Obj:=zc [(zs "value_of" 755),(zs "value_of" 756),(zs "/claim/cut.py" 757),(zi 229),(zi 2),(zi 0),(zi 0),(zi 3),(zr 426),(.bool true),(zi 181),(zr 427),.none,(zr 428),(zr 429),(zr 430),(zi 760),(zi 229),(zs "/claim/cut.py" 761)]
noncomputable def zo293:Obj:=zf "value_of" "value_of" (top 53) (zs "belowpoints.whole" 631) (zr 431)
noncomputable def Age:Obj:=zx "rows_of" "rows_of" (top 54)
noncomputable def zo295:Obj:=zc [(zs "rows_of" 763),(zs "rows_of" 764),(zs "/claim/cut.py" 765),(zi 239),(zi 2),(zi 0),(zi 0),(zi 3),(zr 433),(.bool true),(zi 181),(zr 434),.none,.none,.none,(zr 435),(zi 766),(zi 239),(zs "/claim/cut.py" 767)]
noncomputable def Ac5:Obj:=zf "rows_of" "rows_of" (top 54) (zs "belowpoints.whole" 631) (zr 436)
noncomputable def zo297:Obj:=zx "rows_shown" "rows_shown" (top 55)
noncomputable def Aaz:Obj:=zc [(zs "rows_shown" 769),(zs "rows_shown" 770),(zs "/claim/cut.py" 771),(zi 255),(zi 1),(zi 0),(zi 0),(zi 3),(zr 438),(.bool true),(zi 181),(zr 439),.none,.none,.none,(zr 440),(zi 772),(zi 255),(zs "/claim/cut.py" 773)]
noncomputable def zo299:Obj:=zf "rows_shown" "rows_shown" (top 55) (zs "belowpoints.whole" 631) (zr 441)
noncomputable def Agx:Obj:=zx "row_shown" "row_shown" (top 56)
noncomputable def zo301:Obj:=zc [(zs "row_shown" 775),(zs "row_shown" 776),(zs "/claim/cut.py" 777),(zi 257),(zi 1),(zi 0),(zi 0),(zi 3),(zr 443),(.bool true),(zi 181),(zr 444),.none,.none,.none,(zr 445),(zi 778),(zi 257),(zs "/claim/cut.py" 779)]
noncomputable def Abz:Obj:=zf "row_shown" "row_shown" (top 56) (zs "belowpoints.whole" 631) (zr 446)
noncomputable def zo303:Obj:=zt [(zs "error" 786)]
noncomputable def zo304:Obj:=zx "_law_kinds" "_law_kinds" (top 58)
noncomputable def Abx:Obj:=zc [(zs "_law_kinds" 783),(zs "_law_kinds" 784),(zs "/claim/cut.py" 785),(zi 260),(zi 1),(zi 0),(zi 0),(zi 3),(zr 448),(.bool true),(zi 181),(zr 449),.none,(zr 450),(zr 451),(zr 452),(zi 787),(zi 260),(zs "/claim/cut.py" 788)]
noncomputable def zo306:Obj:=zf "_law_kinds" "_law_kinds" (top 58) (zs "law_belowpoints_k92_desk_by_names" 781) (zr 453)
noncomputable def Agu:Obj:=zt [(zs "script" 793),(zs "far" 794),(zs "desk" 795),(zs "error" 796)]
noncomputable def Agd:Obj:=zx "law" "law" (top 59)
noncomputable def zo309:Obj:=zc [(zs "law" 790),(zs "law" 791),(zs "/claim/cut.py" 792),(zi 262),(zi 1),(zi 0),(zi 0),(zi 3),(zr 455),(.bool true),(zi 181),(zr 456),.none,(zr 457),(zr 458),(zr 459),(zi 797),(zi 262),(zs "/claim/cut.py" 798)]
noncomputable def Acv:Obj:=zf "law" "law" (top 59) (zs "law_belowpoints_k92_desk_by_names" 781) (zr 460)
noncomputable def t_0:dF:=zn (bY P) (zn (zo1 P) (zn (oK P) (zg zo7) (zg zo7)) (zn zo5 (zg zo9) (zg Hk))) (zn zo2 (zn zo4 (zg zo8) (zg zo8)) (zn zo6 (zg zo10) (zg zo12)))
noncomputable def t_1:dF:=zn (bY P) (zn (zo1 P) (zn (Al1 P) (zn zo7 (zn zo7 (zg Amr) .nil) (zg zo20)) (zn zo7 (zg Jw) (zg zo22))) (zn zo5 (zn zo9 (zn Jg (zg zo27) .nil) (zg zo7)) (zn Hk (zg Jr) (zg zo7)))) (zn zo2 (zn zo4 (zn zo8 (zn zo8 (zg Jf) .nil) (zg (Il P))) (zn Amf (zg zo17) (zg Jd))) (zn zo6 (zn zo10 (zn zo7 (zg Jo) .nil) (zg zo8)) (zn zo12 (zg zo19) (zg (Hz P)))))
noncomputable def t_2:dF:=zn (bY P) (zn (zo1 P) (zn (Amp P) (zn zo7 (zn zo7 (zg Amh) (zg Jl)) (zn zo20 (zg La) .nil)) (zn zo7 (zn Jw (zg zo32) (zg zo42)) (zn zo22 (zg zo8) .nil))) (zn zo5 (zn zo9 (zn Jg (zg zo27) (zg zo7)) (zn zo7 (zg K6) .nil)) (zn Hk (zn Jr (zg (Jz P)) (zg zo44)) (zn zo7 (zg zo7) .nil)))) (zn zo2 (zn zo4 (zn zo8 (zn zo8 (zg Jf) (zg zo40)) (zn (Il P) (zg zo35) .nil)) (zn Amd (zn zo17 (zg zo20) (zg K7)) (zn Jd (zg zo37) .nil))) (zn zo6 (zn zo10 (zn zo7 (zg Jo) (zg (Ji P))) (zn zo8 (zg zo7) .nil)) (zn zo12 (zn zo19 (zg zo7) .nil) (zn (Hz P) (zg zo38) .nil))))
noncomputable def t_3:dF:=zn (bY P) (zn (zo1 P) (zn (Amq P) (zn zo7 (zn zo7 (zn Amg (zg zo52) .nil) (zg Jl)) (zn zo20 (zn La (zg M7) .nil) (zg zo20))) (zn zo7 (zn Jw (zn zo32 (zg zo55) .nil) (zg zo42)) (zn zo22 (zg zo8) (zg zo50)))) (zn zo5 (zn zo9 (zn Jg (zn zo27 (zg zo53) .nil) (zg zo7)) (zn zo7 (zg K6) (zg zo7))) (zn Hk (zn Jr (zn (Jz P) (zg (K4 P)) .nil) (zg zo44)) (zn zo7 (zg zo7) (zg zo7))))) (zn zo2 (zn zo4 (zn zo8 (zn zo8 (zn Jf (zg zo7) .nil) (zg zo40)) (zn (Il P) (zn zo35 (zg zo59) .nil) (zg (K8 P)))) (zn Al7 (zn zo17 (zn zo20 (zg zo7) .nil) (zg K7)) (zn Jd (zg zo37) (zg M4)))) (zn zo6 (zn zo10 (zn zo7 (zn Jo (zg K1) .nil) (zg (Ji P))) (zn zo8 (zg zo7) (zg Lr))) (zn zo12 (zn zo19 (zn zo7 (zg zo57) .nil) (zg zo32)) (zn (Hz P) (zg zo38) (zg zo8)))))
noncomputable def t_4:dF:=zn (bY P) (zn (zo1 P) (zn (Ams P) (zn zo7 (zn zo7 (zn zo62 (zg zo52) .nil) (zn Jl (zg Ob) .nil)) (zn zo20 (zn La (zg M7) .nil) (zn zo20 (zg Oe) .nil))) (zn zo7 (zn Jw (zn zo32 (zg zo55) .nil) (zn zo42 (zg zo7) .nil)) (zn zo22 (zn zo8 (zg (Mo P)) .nil) (zn zo50 (zg zo75) .nil)))) (zn zo5 (zn zo9 (zn Jg (zn zo27 (zg zo53) .nil) (zn zo7 (zg zo8) .nil)) (zn zo7 (zn K6 (zg zo32) .nil) (zn zo7 (zg zo73) .nil))) (zn Hk (zn Jr (zn (Jz P) (zg (K4 P)) .nil) (zn zo44 (zg Me) .nil)) (zn zo7 (zn zo7 (zg Oc) .nil) (zg zo7))))) (zn zo2 (zn zo4 (zn zo8 (zn zo8 (zn Jf (zg zo7) .nil) (zn zo40 (zg zo7) .nil)) (zn (Il P) (zn zo35 (zg zo59) .nil) (zn (K8 P) (zg (Nv P)) .nil))) (zn Amv (zn zo17 (zn zo20 (zg zo7) .nil) (zn K7 (zg zo68) .nil)) (zn Jd (zn zo37 (zg zo7) .nil) (zg M4)))) (zn zo6 (zn zo10 (zn zo7 (zn Jo (zg K1) .nil) (zn (Ji P) (zg zo67) .nil)) (zn zo8 (zn zo7 (zg zo20) .nil) (zn Lr (zg Oq) .nil))) (zn zo12 (zn zo19 (zn zo7 (zg zo57) .nil) (zn zo32 (zg zo70) .nil)) (zn (Hz P) (zn zo38 (zg zo65) .nil) (zg zo8)))))
noncomputable def t_5:dF:=zn (bY P) (zn (zo1 P) (zn (Am0 P) (zn zo7 (zn zo7 (zn zo62 (zn zo52 (zg zo98) .nil) (zg zo79)) (zn Jl (zn Ob (zg zo107) .nil) (zg zo7))) (zn zo20 (zn La (zn M7 (zg zo102) .nil) (zg zo84)) (zn zo20 (zg Oe) (zg zo8)))) (zn zo7 (zn Jw (zn zo32 (zn zo55 (zg zo100) .nil) (zg zo81)) (zn zo42 (zn zo7 (zg zo109) .nil) (zg zo90))) (zn zo22 (zn zo8 (zn (Mo P) (zg zo105) .nil) (zg zo7)) (zn zo50 (zg zo75) (zg zo7))))) (zn zo5 (zn zo9 (zn Jg (zn zo27 (zn zo53 (zg zo8) .nil) (zg zo7)) (zn zo7 (zn zo8 (zg zo7) .nil) (zg zo89))) (zn zo7 (zn K6 (zn zo32 (zg zo103) .nil) (zg zo8)) (zn zo7 (zg zo73) (zg zo94)))) (zn Hk (zn Jr (zn (Jz P) (zn (K4 P) (zg zo7) .nil) (zg zo82)) (zn zo44 (zn Me (zg zo111) .nil) (zg zo92))) (zn zo7 (zn zo7 (zn Oc (zg zo8) .nil) (zg zo87)) (zn zo7 (zg zo8) (zg zo96)))))) (zn zo2 (zn zo4 (zn zo8 (zn zo8 (zn Jf (zn zo7 (zg zo7) .nil) (zg Ol)) (zn zo40 (zn zo7 (zg G8) .nil) (zg zo8))) (zn (Il P) (zn zo35 (zn zo59 (zg zo7) .nil) (zg zo7)) (zn (K8 P) (zg (Nv P)) (zg Q2)))) (zn Anf (zn zo17 (zn zo20 (zn zo7 (zg Ie) .nil) (zg zo7)) (zn K7 (zn zo68 (zg Hx) .nil) (zg N6))) (zn Jd (zn zo37 (zn zo7 (zg zo7) .nil) (zg P9)) (zn M4 (zg zo7) (zg zo8))))) (zn zo6 (zn zo10 (zn zo7 (zn Jo (zn K1 (zg Qx) .nil) (zg zo8)) (zn (Ji P) (zn zo67 (zg zo8) .nil) (zg zo7))) (zn zo8 (zn zo7 (zn zo20 (zg Hf) .nil) (zg Q5)) (zn Lr (zg Oq) (zg Om)))) (zn zo12 (zn zo19 (zn zo7 (zn zo57 (zg zo8) .nil) (zg Ot)) (zn zo32 (zg zo70) (zg zo7))) (zn (Hz P) (zn zo38 (zn zo65 (zg Ia) .nil) (zg N5)) (zn zo8 (zg Qg) (zg N7))))))
noncomputable def t_6:dF:=zn (bY P) (zn (zo1 P) (zn (Alj P) (zn zo7 (zn zo7 (zn zo62 (zn zo52 (zg zo98) (zg zo7)) (zn zo79 (zg zo118) .nil)) (zn Jl (zn Ob (zg zo107) (zg zo147)) (zn zo7 (zg zo8) .nil))) (zn zo20 (zn La (zn M7 (zg zo102) (zg zo7)) (zn zo84 (zg zo123) .nil)) (zn zo20 (zn Oe (zg zo8) .nil) (zn zo8 (zg zo132) .nil)))) (zn zo7 (zn Jw (zn zo32 (zn zo55 (zg zo100) (zg zo140)) (zn zo81 (zg zo8) .nil)) (zn zo42 (zn zo7 (zg zo109) .nil) (zn zo90 (zg zo130) .nil))) (zn zo22 (zn zo8 (zn (Mo P) (zg zo105) (zg zo7)) (zn zo7 (zg zo125) .nil)) (zn zo50 (zn zo75 (zg zo7) .nil) (zn zo7 (zg zo8) .nil))))) (zn zo5 (zn zo9 (zn Jg (zn zo27 (zn zo53 (zg zo8) (zg zo138)) (zn zo7 (zg zo120) .nil)) (zn zo7 (zn zo8 (zg zo7) (zg zo149)) (zn zo89 (zg zo7) .nil))) (zn zo7 (zn K6 (zn zo32 (zg zo103) (zg zo143)) (zn zo8 (zg zo7) .nil)) (zn zo7 (zn zo73 (zg zo115) .nil) (zn zo94 (zg zo134) .nil)))) (zn Hk (zn Jr (zn (Jz P) (zn (K4 P) (zg zo7) (zg zo8)) (zn zo82 (zg zo7) .nil)) (zn zo44 (zn Me (zg zo111) .nil) (zn zo92 (zg zo7) .nil))) (zn zo7 (zn zo7 (zn Oc (zg zo8) (zg zo145)) (zn zo87 (zg zo127) .nil)) (zn zo7 (zn zo8 (zg zo117) .nil) (zn zo96 (zg zo136) .nil)))))) (zn zo2 (zn zo4 (zn zo8 (zn zo8 (zn Jf (zn zo7 (zg zo7) (zg zo8)) (zn Ol (zg Kn) .nil)) (zn zo40 (zn zo7 (zg G8) (zg Kd)) (zn zo8 (zg Kl) .nil))) (zn (Il P) (zn zo35 (zn zo59 (zg zo7) (zg Kp)) (zn zo7 (zg Kg) .nil)) (zn (K8 P) (zn (Nv P) (zg Kb) .nil) (zn Q2 (zg Ku) .nil)))) (zn Akj (zn zo17 (zn zo20 (zn zo7 (zg Ie) (zg zo7)) (zn zo7 (zg Kf) .nil)) (zn K7 (zn zo68 (zg Hx) .nil) (zn N6 (zg Kt) .nil))) (zn Jd (zn zo37 (zn zo7 (zg zo7) (zg zo8)) (zn P9 (zg Ke) .nil)) (zn M4 (zn zo7 (zg zo8) .nil) (zn zo8 (zg Ks) .nil))))) (zn zo6 (zn zo10 (zn zo7 (zn Jo (zn K1 (zg Qx) (zg Kh)) (zn zo8 (zg zo7) .nil)) (zn (Ji P) (zn zo67 (zg zo8) .nil) (zn zo7 (zg Kz) .nil))) (zn zo8 (zn zo7 (zn zo20 (zg Hf) (zg Ki)) (zn Q5 (zg zo8) .nil)) (zn Lr (zn Oq (zg Kk) .nil) (zn Om (zg zo7) .nil)))) (zn zo12 (zn zo19 (zn zo7 (zn zo57 (zg zo8) (zg Ka)) (zn Ot (zg Kw) .nil)) (zn zo32 (zn zo70 (zg zo7) .nil) (zn zo7 (zg zo8) .nil))) (zn (Hz P) (zn zo38 (zn zo65 (zg Ia) (zg Kj)) (zn N5 (zg zo7) .nil)) (zn zo8 (zn Qg (zg zo7) .nil) (zn N7 (zg Km) .nil))))))
noncomputable def t_7:dF:=zn (bY P) (zn (zo1 P) (zn (Ajq P) (zn zo7 (zn zo7 (zn zo62 (zn zo52 (zn zo98 (zg zo8) .nil) (zg zo7)) (zn zo79 (zg zo118) (zg zo159))) (zn Jl (zn Ob (zg zo107) (zg zo147)) (zn zo7 (zg zo8) (zg zo168)))) (zn zo20 (zn La (zn M7 (zn zo102 (zg zo182) .nil) (zg zo7)) (zn zo84 (zg zo123) (zg zo164))) (zn zo20 (zn Oe (zg zo8) (zg zo7)) (zn zo8 (zg zo132) (zg zo173))))) (zn zo7 (zn Jw (zn zo32 (zn zo55 (zn zo100 (zg zo180) .nil) (zg zo140)) (zn zo81 (zg zo8) (zg zo161))) (zn zo42 (zn zo7 (zg zo109) (zg zo8)) (zn zo90 (zg zo130) (zg zo8)))) (zn zo22 (zn zo8 (zn (Mo P) (zn zo105 (zg zo185) .nil) (zg zo7)) (zn zo7 (zg zo125) (zg zo166))) (zn zo50 (zn zo75 (zg zo7) (zg zo157)) (zn zo7 (zg zo8) (zg zo175)))))) (zn zo5 (zn zo9 (zn Jg (zn zo27 (zn zo53 (zn zo8 (zg zo7) .nil) (zg zo138)) (zn zo7 (zg zo120) (zg zo7))) (zn zo7 (zn zo8 (zg zo7) (zg zo149)) (zn zo89 (zg zo7) (zg zo170)))) (zn zo7 (zn K6 (zn zo32 (zn zo103 (zg zo183) .nil) (zg zo143)) (zn zo8 (zg zo7) (zg zo8))) (zn zo7 (zn zo73 (zg zo115) (zg zo155)) (zn zo94 (zg zo134) (zg zo7))))) (zn Hk (zn Jr (zn (Jz P) (zn (K4 P) (zn zo7 (zg zo7) .nil) (zg zo8)) (zn zo82 (zg zo7) (zg zo162))) (zn zo44 (zn Me (zg zo111) (zg zo153)) (zn zo92 (zg zo7) (zg zo7)))) (zn zo7 (zn zo7 (zn Oc (zg zo8) (zg zo145)) (zn zo87 (zg zo127) (zg zo7))) (zn zo7 (zn zo8 (zg zo117) (zg zo8)) (zn zo96 (zg zo136) (zg zo177))))))) (zn zo2 (zn zo4 (zn zo8 (zn zo8 (zn Jf (zn zo7 (zn zo7 (zg L7) .nil) (zg zo8)) (zn Ol (zg Kn) (zg Nw))) (zn zo40 (zn zo7 (zg G8) (zg Kd)) (zn zo8 (zg Kl) (zg Ni)))) (zn (Il P) (zn zo35 (zn zo59 (zn zo7 (zg zo7) .nil) (zg Kp)) (zn zo7 (zg Kg) (zg zo7))) (zn (K8 P) (zn (Nv P) (zg Kb) (zg zo8)) (zn Q2 (zg Ku) (zg N3))))) (zn Agr (zn zo17 (zn zo20 (zn zo7 (zn Ie (zg Mj) .nil) (zg zo7)) (zn zo7 (zg Kf) (zg zo7))) (zn K7 (zn zo68 (zg Hx) (zg Np)) (zn N6 (zg Kt) (zg Nk)))) (zn Jd (zn zo37 (zn zo7 (zg zo7) (zg zo8)) (zn P9 (zg Ke) (zg N0))) (zn M4 (zn zo7 (zg zo8) (zg zo7)) (zn zo8 (zg Ks) (zg Nd)))))) (zn zo6 (zn zo10 (zn zo7 (zn Jo (zn K1 (zn Qx (zg Mi) .nil) (zg Kh)) (zn zo8 (zg zo7) (zg zo8))) (zn (Ji P) (zn zo67 (zg zo8) (zg zo7)) (zn zo7 (zg Kz) (zg zo7)))) (zn zo8 (zn zo7 (zn zo20 (zn Hf (zg N4) .nil) (zg Ki)) (zn Q5 (zg zo8) (zg Ma))) (zn Lr (zn Oq (zg Kk) (zg Mf)) (zn Om (zg zo7) (zg zo8))))) (zn zo12 (zn zo19 (zn zo7 (zn zo57 (zn zo8 (zg zo8) .nil) (zg Ka)) (zn Ot (zg Kw) (zg Mq))) (zn zo32 (zn zo70 (zg zo7) (zg M9)) (zn zo7 (zg zo8) (zg Mb)))) (zn (Hz P) (zn zo38 (zn zo65 (zg Ia) (zg Kj)) (zn N5 (zg zo7) (zg zo8))) (zn zo8 (zn Qg (zg zo7) (zg Mg)) (zn N7 (zg Km) (zg zo7)))))))
noncomputable def t_8:dF:=zn (bY P) (zn (zo1 P) (zn (Ak7 P) (zn zo7 (zn zo7 (zn zo62 (zn zo52 (zn zo98 (zg zo8) .nil) (zg zo7)) (zn zo79 (zg zo118) (zg zo159))) (zn Jl (zn Ob (zg zo107) (zg zo147)) (zn zo7 (zg zo8) (zg zo168)))) (zn zo20 (zn La (zn M7 (zn zo102 (zg zo182) .nil) (zg zo7)) (zn zo84 (zg zo123) (zg zo164))) (zn zo20 (zn Oe (zg zo8) (zg zo7)) (zn zo8 (zg zo132) (zg zo173))))) (zn zo7 (zn Jw (zn zo32 (zn zo55 (zn zo100 (zg zo180) .nil) (zg zo140)) (zn zo81 (zg zo8) (zg zo161))) (zn zo42 (zn zo7 (zg zo109) (zg zo8)) (zn zo90 (zg zo130) (zg zo8)))) (zn zo22 (zn zo8 (zn (Mo P) (zn zo105 (zg zo185) .nil) (zg zo7)) (zn zo7 (zg zo125) (zg zo166))) (zn zo50 (zn zo75 (zg zo7) (zg zo157)) (zn zo7 (zg zo8) (zg zo175)))))) (zn zo5 (zn zo9 (zn Jg (zn zo27 (zn zo53 (zn zo8 (zg zo7) .nil) (zg zo138)) (zn zo7 (zg zo120) (zg zo7))) (zn zo7 (zn zo8 (zg zo7) (zg zo149)) (zn zo89 (zg zo7) (zg zo170)))) (zn zo7 (zn K6 (zn zo32 (zn zo103 (zg zo183) .nil) (zg zo143)) (zn zo8 (zg zo7) (zg zo8))) (zn zo7 (zn zo73 (zg zo115) (zg zo155)) (zn zo94 (zg zo134) (zg zo7))))) (zn Hk (zn Jr (zn (Jz P) (zn (K4 P) (zn zo7 (zg zo7) .nil) (zg zo8)) (zn zo82 (zg zo7) (zg zo162))) (zn zo44 (zn Me (zg zo111) (zg zo153)) (zn zo92 (zg zo7) (zg zo7)))) (zn zo7 (zn zo7 (zn Oc (zg zo8) (zg zo145)) (zn zo87 (zg zo127) (zg zo7))) (zn zo7 (zn zo8 (zg zo117) (zg zo8)) (zn zo96 (zg zo136) (zg zo177))))))) (zn zo2 (zn zo4 (zn zo8 (zn zo8 (zn Jf (zn zo7 (zn zo7 (zg L7) .nil) (zg zo8)) (zn Ol (zg Kn) (zg Nw))) (zn zo40 (zn zo7 (zg G8) (zg Kd)) (zn zo8 (zg Kl) (zg Ni)))) (zn (Il P) (zn zo35 (zn zo59 (zn zo7 (zg zo7) .nil) (zg Kp)) (zn zo7 (zg Kg) (zg zo7))) (zn (K8 P) (zn (Nv P) (zg Kb) (zg zo8)) (zn Q2 (zg Ku) (zg N3))))) (zn Agr (zn zo17 (zn zo20 (zn zo7 (zn Ie (zg Mj) .nil) (zg zo7)) (zn zo7 (zg Kf) (zg zo7))) (zn K7 (zn zo68 (zg Hx) (zg Np)) (zn N6 (zg Kt) (zg Nk)))) (zn Jd (zn zo37 (zn zo7 (zg zo7) (zg zo8)) (zn P9 (zg Ke) (zg N0))) (zn M4 (zn zo7 (zg zo8) (zg zo7)) (zn zo8 (zg Ks) (zg Nd)))))) (zn zo6 (zn zo10 (zn zo7 (zn Jo (zn K1 (zn Qx (zg Mi) .nil) (zg Kh)) (zn zo8 (zg zo7) (zg zo8))) (zn (Ji P) (zn zo67 (zg zo8) (zg zo7)) (zn zo7 (zg Kz) (zg zo7)))) (zn zo8 (zn zo7 (zn zo20 (zn Hf (zg N4) .nil) (zg Ki)) (zn Q5 (zg zo8) (zg Ma))) (zn Lr (zn Oq (zg Kk) (zg Mf)) (zn Om (zg zo7) (zg zo8))))) (zn zo12 (zn zo19 (zn zo7 (zn zo57 (zn zo8 (zg zo8) .nil) (zg Ka)) (zn Ot (zg Kw) (zg Mq))) (zn zo32 (zn zo70 (zg zo7) (zg M9)) (zn zo7 (zg zo8) (zg Mb)))) (zn (Hz P) (zn zo38 (zn zo65 (zg Ia) (zg Kj)) (zn N5 (zg zo7) (zg zo8))) (zn zo8 (zn Qg (zg zo7) (zg Mg)) (zn N7 (zg Km) (zg zo7)))))))
noncomputable def t_9:dF:=zn (bY P) (zn (zo1 P) (zn (Akc P) (zn zo7 (zn zo7 (zn zo62 (zn zo52 (zn zo98 (zg zo8) .nil) (zn zo7 (zg zo217) .nil)) (zn zo79 (zn zo118 (zg zo199) .nil) (zn zo159 (zg (O9 P)) .nil))) (zn Jl (zn Ob (zn zo107 (zg zo7) .nil) (zn zo147 (zg zo226) .nil)) (zn zo7 (zn zo8 (zg zo7) .nil) (zg zo168)))) (zn zo20 (zn La (zn M7 (zn zo102 (zg zo182) .nil) (zn zo7 (zg zo7) .nil)) (zn zo84 (zn zo123 (zg zo204) .nil) (zg zo164))) (zn zo20 (zn Oe (zn zo8 (zg zo194) .nil) (zn zo7 (zg zo7) .nil)) (zn zo8 (zn zo132 (zg zo8) .nil) (zg zo173))))) (zn zo7 (zn Jw (zn zo32 (zn zo55 (zn zo100 (zg zo180) .nil) (zn zo140 (zg zo220) .nil)) (zn zo81 (zn zo8 (zg zo201) .nil) (zn zo161 (zg Sk) .nil))) (zn zo42 (zn zo7 (zn zo109 (zg zo7) .nil) (zn zo8 (zg zo8) .nil)) (zn zo90 (zn zo130 (zg zo210) .nil) (zg zo8)))) (zn zo22 (zn zo8 (zn (Mo P) (zn zo105 (zg zo185) .nil) (zn zo7 (zg zo7) .nil)) (zn zo7 (zn zo125 (zg zo7) .nil) (zg zo166))) (zn zo50 (zn zo75 (zn zo7 (zg zo8) .nil) (zn zo157 (zg zo233) .nil)) (zn zo7 (zn zo8 (zg zo215) .nil) (zg zo175)))))) (zn zo5 (zn zo9 (zn Jg (zn zo27 (zn zo53 (zn zo8 (zg zo7) .nil) (zn zo138 (zg zo218) .nil)) (zn zo7 (zn zo120 (zg zo7) .nil) (zn zo7 (zg Ts) .nil))) (zn zo7 (zn zo8 (zn zo7 (zg zo191) .nil) (zn zo149 (zg zo228) .nil)) (zn zo89 (zn zo7 (zg zo209) .nil) (zg zo170)))) (zn zo7 (zn K6 (zn zo32 (zn zo103 (zg zo183) .nil) (zn zo143 (zg zo223) .nil)) (zn zo8 (zn zo7 (zg zo8) .nil) (zg zo8))) (zn zo7 (zn zo73 (zn zo115 (zg zo196) .nil) (zn zo155 (zg zo232) .nil)) (zn zo94 (zn zo134 (zg zo7) .nil) (zg zo7))))) (zn Hk (zn Jr (zn (Jz P) (zn (K4 P) (zn zo7 (zg zo7) .nil) (zn zo8 (zg zo8) .nil)) (zn zo82 (zn zo7 (zg zo202) .nil) (zg zo162))) (zn zo44 (zn Me (zn zo111 (zg zo193) .nil) (zn zo153 (zg zo230) .nil)) (zn zo92 (zn zo7 (zg zo212) .nil) (zg zo7)))) (zn zo7 (zn zo7 (zn Oc (zn zo8 (zg zo20) .nil) (zn zo145 (zg zo225) .nil)) (zn zo87 (zn zo127 (zg zo207) .nil) (zg zo7))) (zn zo7 (zn zo8 (zn zo117 (zg zo7) .nil) (zn zo8 (zg zo235) .nil)) (zn zo96 (zn zo136 (zg zo7) .nil) (zg zo177))))))) (zn zo2 (zn zo4 (zn zo8 (zn zo8 (zn Jf (zn zo7 (zn zo7 (zg L7) .nil) (zn zo8 (zg zo7) .nil)) (zn Ol (zn Kn (zg O7) .nil) (zn Nw (zg zo238) .nil))) (zn zo40 (zn zo7 (zn G8 (zg Sy) .nil) (zn Kd (zg R7) .nil)) (zn zo8 (zn Kl (zg zo8) .nil) (zg Ni)))) (zn (Il P) (zn zo35 (zn zo59 (zn zo7 (zg zo7) .nil) (zn Kp (zg Th) .nil)) (zn zo7 (zn Kg (zg zo7) .nil) (zg zo7))) (zn (K8 P) (zn (Nv P) (zn Kb (zg Pw) .nil) (zn zo8 (zg zo8) .nil)) (zn Q2 (zn Ku (zg Ss) .nil) (zg N3))))) (zn Agi (zn zo17 (zn zo20 (zn zo7 (zn Ie (zg Mj) .nil) (zn zo7 (zg zo7) .nil)) (zn zo7 (zn Kf (zg zo7) .nil) (zn zo7 (zg zo242) .nil))) (zn K7 (zn zo68 (zn Hx (zg zo8) .nil) (zn Np (zg Sr) .nil)) (zn N6 (zn Kt (zg P4) .nil) (zg Nk)))) (zn Jd (zn zo37 (zn zo7 (zn zo7 (zg zo7) .nil) (zn zo8 (zg zo8) .nil)) (zn P9 (zn Ke (zg Ti) .nil) (zg N0))) (zn M4 (zn zo7 (zn zo8 (zg Tu) .nil) (zn zo7 (zg Tv) .nil)) (zn zo8 (zn Ks (zg R1) .nil) (zg Nd)))))) (zn zo6 (zn zo10 (zn zo7 (zn Jo (zn K1 (zn Qx (zg Mi) .nil) (zn Kh (zg Si) .nil)) (zn zo8 (zn zo7 (zg zo8) .nil) (zn zo8 (zg zo240) .nil))) (zn (Ji P) (zn zo67 (zn zo8 (zg Te) .nil) (zn zo7 (zg zo7) .nil)) (zn zo7 (zn Kz (zg zo7) .nil) (zg zo7)))) (zn zo8 (zn zo7 (zn zo20 (zn Hf (zg N4) .nil) (zn Ki (zg Rz) .nil)) (zn Q5 (zn zo8 (zg Tj) .nil) (zg Ma))) (zn Lr (zn Oq (zn Kk (zg zo7) .nil) (zn Mf (zg zo7) .nil)) (zn Om (zn zo7 (zg Rq) .nil) (zg zo8))))) (zn zo12 (zn zo19 (zn zo7 (zn zo57 (zn zo8 (zg zo8) .nil) (zn Ka (zg Tc) .nil)) (zn Ot (zn Kw (zg S8) .nil) (zg Mq))) (zn zo32 (zn zo70 (zn zo7 (zg zo7) .nil) (zn M9 (zg R4) .nil)) (zn zo7 (zn zo8 (zg zo7) .nil) (zg Mb)))) (zn (Hz P) (zn zo38 (zn zo65 (zn Ia (zg (Pp P)) .nil) (zn Kj (zg zo7) .nil)) (zn N5 (zn zo7 (zg Sv) .nil) (zg zo8))) (zn zo8 (zn Qg (zn zo7 (zg Ta) .nil) (zn Mg (zg Rf) .nil)) (zn N7 (zn Km (zg zo8) .nil) (zg zo7)))))))
noncomputable def Ahc:dF:=zn (bY P) (zn (zo1 P) (zn (Akd P) (zn zo7 (zn zo7 (zn zo62 (zn zo52 (zn zo98 (zg zo8) .nil) (zn zo7 (zg zo217) .nil)) (zn zo79 (zn zo118 (zg zo199) .nil) (zn zo159 (zg (O9 P)) .nil))) (zn Jl (zn Ob (zn zo107 (zg zo7) .nil) (zn zo147 (zg zo226) .nil)) (zn zo7 (zn zo8 (zg zo7) .nil) (zn zo168 (zg Sn) .nil)))) (zn zo20 (zn La (zn M7 (zn zo102 (zg zo182) .nil) (zn zo7 (zg zo7) .nil)) (zn zo84 (zn zo123 (zg zo204) .nil) (zn zo164 (zg R0) .nil))) (zn zo20 (zn Oe (zn zo8 (zg zo194) .nil) (zn zo7 (zg zo7) .nil)) (zn zo8 (zn zo132 (zg zo8) .nil) (zg zo173))))) (zn zo7 (zn Jw (zn zo32 (zn zo55 (zn zo100 (zg zo180) .nil) (zn zo140 (zg zo220) .nil)) (zn zo81 (zn zo8 (zg zo201) .nil) (zn zo161 (zg Sk) .nil))) (zn zo42 (zn zo7 (zn zo109 (zg zo7) .nil) (zn zo8 (zg zo8) .nil)) (zn zo90 (zn zo130 (zg zo210) .nil) (zn zo8 (zg zo7) .nil)))) (zn zo22 (zn zo8 (zn (Mo P) (zn zo105 (zg zo185) .nil) (zn zo7 (zg zo7) .nil)) (zn zo7 (zn zo125 (zg zo7) .nil) (zn zo166 (zg zo7) .nil))) (zn zo50 (zn zo75 (zn zo7 (zg zo8) .nil) (zn zo157 (zg zo233) .nil)) (zn zo7 (zn zo8 (zg zo215) .nil) (zg zo175)))))) (zn zo5 (zn zo9 (zn Jg (zn zo27 (zn zo53 (zn zo8 (zg zo7) .nil) (zn zo138 (zg zo218) .nil)) (zn zo7 (zn zo120 (zg zo7) .nil) (zn zo7 (zg Ts) .nil))) (zn zo7 (zn zo8 (zn zo7 (zg zo191) .nil) (zn zo149 (zg zo228) .nil)) (zn zo89 (zn zo7 (zg zo209) .nil) (zn zo170 (zg zo7) .nil)))) (zn zo7 (zn K6 (zn zo32 (zn zo103 (zg zo183) .nil) (zn zo143 (zg zo223) .nil)) (zn zo8 (zn zo7 (zg zo8) .nil) (zn zo8 (zg zo7) .nil))) (zn zo7 (zn zo73 (zn zo115 (zg zo196) .nil) (zn zo155 (zg zo232) .nil)) (zn zo94 (zn zo134 (zg zo7) .nil) (zg zo7))))) (zn Hk (zn Jr (zn (Jz P) (zn (K4 P) (zn zo7 (zg zo7) .nil) (zn zo8 (zg zo8) .nil)) (zn zo82 (zn zo7 (zg zo202) .nil) (zn zo162 (zg (Rl P)) .nil))) (zn zo44 (zn Me (zn zo111 (zg zo193) .nil) (zn zo153 (zg zo230) .nil)) (zn zo92 (zn zo7 (zg zo212) .nil) (zg zo7)))) (zn zo7 (zn zo7 (zn Oc (zn zo8 (zg zo20) .nil) (zn zo145 (zg zo225) .nil)) (zn zo87 (zn zo127 (zg zo207) .nil) (zn zo7 (zg Sh) .nil))) (zn zo7 (zn zo8 (zn zo117 (zg zo7) .nil) (zn zo8 (zg zo235) .nil)) (zn zo96 (zn zo136 (zg zo7) .nil) (zg zo177))))))) (zn zo2 (zn zo4 (zn zo8 (zn zo8 (zn Jf (zn zo7 (zn zo7 (zg L7) .nil) (zn zo8 (zg zo7) .nil)) (zn Ol (zn Kn (zg O7) .nil) (zn Nw (zg zo238) .nil))) (zn zo40 (zn zo7 (zn G8 (zg Sy) .nil) (zn Kd (zg R7) .nil)) (zn zo8 (zn Kl (zg zo8) .nil) (zn Ni (zg zo251) .nil)))) (zn (Il P) (zn zo35 (zn zo59 (zn zo7 (zg zo7) .nil) (zn Kp (zg Th) .nil)) (zn zo7 (zn Kg (zg zo7) .nil) (zn zo7 (zg zo247) .nil))) (zn (K8 P) (zn (Nv P) (zn Kb (zg Pw) .nil) (zn zo8 (zg zo8) .nil)) (zn Q2 (zn Ku (zg Ss) .nil) (zg N3))))) (zn Agi (zn zo17 (zn zo20 (zn zo7 (zn Ie (zg Mj) .nil) (zn zo7 (zg zo7) .nil)) (zn zo7 (zn Kf (zg zo7) .nil) (zn zo7 (zg zo242) .nil))) (zn K7 (zn zo68 (zn Hx (zg zo8) .nil) (zn Np (zg Sr) .nil)) (zn N6 (zn Kt (zg P4) .nil) (zg Nk)))) (zn Jd (zn zo37 (zn zo7 (zn zo7 (zg zo7) .nil) (zn zo8 (zg zo8) .nil)) (zn P9 (zn Ke (zg Ti) .nil) (zn N0 (zg zo7) .nil))) (zn M4 (zn zo7 (zn zo8 (zg Tu) .nil) (zn zo7 (zg Tv) .nil)) (zn zo8 (zn Ks (zg R1) .nil) (zg Nd)))))) (zn zo6 (zn zo10 (zn zo7 (zn Jo (zn K1 (zn Qx (zg Mi) .nil) (zn Kh (zg Si) .nil)) (zn zo8 (zn zo7 (zg zo8) .nil) (zn zo8 (zg zo240) .nil))) (zn (Ji P) (zn zo67 (zn zo8 (zg Te) .nil) (zn zo7 (zg zo7) .nil)) (zn zo7 (zn Kz (zg zo7) .nil) (zn zo7 (zg zo7) .nil)))) (zn zo8 (zn zo7 (zn zo20 (zn Hf (zg N4) .nil) (zn Ki (zg Rz) .nil)) (zn Q5 (zn zo8 (zg Tj) .nil) (zn Ma (zg zo7) .nil))) (zn Lr (zn Oq (zn Kk (zg zo7) .nil) (zn Mf (zg zo7) .nil)) (zn Om (zn zo7 (zg Rq) .nil) (zg zo8))))) (zn zo12 (zn zo19 (zn zo7 (zn zo57 (zn zo8 (zg zo8) .nil) (zn Ka (zg Tc) .nil)) (zn Ot (zn Kw (zg S8) .nil) (zn Mq (zg zo245) .nil))) (zn zo32 (zn zo70 (zn zo7 (zg zo7) .nil) (zn M9 (zg R4) .nil)) (zn zo7 (zn zo8 (zg zo7) .nil) (zg Mb)))) (zn (Hz P) (zn zo38 (zn zo65 (zn Ia (zg (Pp P)) .nil) (zn Kj (zg zo7) .nil)) (zn N5 (zn zo7 (zg Sv) .nil) (zn zo8 (zg zo249) .nil))) (zn zo8 (zn Qg (zn zo7 (zg Ta) .nil) (zn Mg (zg Rf) .nil)) (zn N7 (zn Km (zg zo8) .nil) (zg zo7)))))))
noncomputable def Alk:dF:=zn (bY P) (zn (zo1 P) (zn (Akr P) (zn zo7 (zn zo7 (zn zo62 (zn zo52 (zn zo98 (zg zo8) (zg zo259)) (zn zo7 (zg zo217) .nil)) (zn zo79 (zn zo118 (zg zo199) (zg (Vs P))) (zn zo159 (zg (O9 P)) .nil))) (zn Jl (zn Ob (zn zo107 (zg zo7) (zg zo269)) (zn zo147 (zg zo226) .nil)) (zn zo7 (zn zo8 (zg zo7) .nil) (zn zo168 (zg Sn) .nil)))) (zn zo20 (zn La (zn M7 (zn zo102 (zg zo182) (zg zo264)) (zn zo7 (zg zo7) .nil)) (zn zo84 (zn zo123 (zg zo204) .nil) (zn zo164 (zg R0) .nil))) (zn zo20 (zn Oe (zn zo8 (zg zo194) (zg zo7)) (zn zo7 (zg zo7) .nil)) (zn zo8 (zn zo132 (zg zo8) .nil) (zn zo173 (zg zo7) .nil))))) (zn zo7 (zn Jw (zn zo32 (zn zo55 (zn zo100 (zg zo180) (zg zo8)) (zn zo140 (zg zo220) .nil)) (zn zo81 (zn zo8 (zg zo201) (zg Aat)) (zn zo161 (zg Sk) .nil))) (zn zo42 (zn zo7 (zn zo109 (zg zo7) (zg zo7)) (zn zo8 (zg zo8) .nil)) (zn zo90 (zn zo130 (zg zo210) .nil) (zn zo8 (zg zo7) .nil)))) (zn zo22 (zn zo8 (zn (Mo P) (zn zo105 (zg zo185) (zg zo266)) (zn zo7 (zg zo7) .nil)) (zn zo7 (zn zo125 (zg zo7) .nil) (zn zo166 (zg zo7) .nil))) (zn zo50 (zn zo75 (zn zo7 (zg zo8) (zg zo275)) (zn zo157 (zg zo233) .nil)) (zn zo7 (zn zo8 (zg zo215) .nil) (zn zo175 (zg zo7) .nil)))))) (zn zo5 (zn zo9 (zn Jg (zn zo27 (zn zo53 (zn zo8 (zg zo7) (zg zo261)) (zn zo138 (zg zo218) .nil)) (zn zo7 (zn zo120 (zg zo7) (zg Aax)) (zn zo7 (zg Ts) .nil))) (zn zo7 (zn zo8 (zn zo7 (zg zo191) (zg zo8)) (zn zo149 (zg zo228) .nil)) (zn zo89 (zn zo7 (zg zo209) .nil) (zn zo170 (zg zo7) .nil)))) (zn zo7 (zn K6 (zn zo32 (zn zo103 (zg zo183) (zg zo7)) (zn zo143 (zg zo223) .nil)) (zn zo8 (zn zo7 (zg zo8) .nil) (zn zo8 (zg zo7) .nil))) (zn zo7 (zn zo73 (zn zo115 (zg zo196) (zg zo274)) (zn zo155 (zg zo232) .nil)) (zn zo94 (zn zo134 (zg zo7) .nil) (zn zo7 (zg zo256) .nil))))) (zn Hk (zn Jr (zn (Jz P) (zn (K4 P) (zn zo7 (zg zo7) (zg zo7)) (zn zo8 (zg zo8) .nil)) (zn zo82 (zn zo7 (zg zo202) .nil) (zn zo162 (zg (Rl P)) .nil))) (zn zo44 (zn Me (zn zo111 (zg zo193) (zg zo272)) (zn zo153 (zg zo230) .nil)) (zn zo92 (zn zo7 (zg zo212) .nil) (zn zo7 (zg zo20) .nil)))) (zn zo7 (zn zo7 (zn Oc (zn zo8 (zg zo20) (zg zo267)) (zn zo145 (zg zo225) .nil)) (zn zo87 (zn zo127 (zg zo207) .nil) (zn zo7 (zg Sh) .nil))) (zn zo7 (zn zo8 (zn zo117 (zg zo7) (zg zo277)) (zn zo8 (zg zo235) .nil)) (zn zo96 (zn zo136 (zg zo7) .nil) (zn zo177 (zg zo258) .nil))))))) (zn zo2 (zn zo4 (zn zo8 (zn zo8 (zn Jf (zn zo7 (zn zo7 (zg L7) (zg Vx)) (zn zo8 (zg zo7) .nil)) (zn Ol (zn Kn (zg O7) (zg zo280)) (zn Nw (zg zo238) .nil))) (zn zo40 (zn zo7 (zn G8 (zg Sy) (zg zo7)) (zn Kd (zg R7) .nil)) (zn zo8 (zn Kl (zg zo8) .nil) (zn Ni (zg zo251) .nil)))) (zn (Il P) (zn zo35 (zn zo59 (zn zo7 (zg zo7) (zg Wt)) (zn Kp (zg Th) .nil)) (zn zo7 (zn Kg (zg zo7) .nil) (zn zo7 (zg zo247) .nil))) (zn (K8 P) (zn (Nv P) (zn Kb (zg Pw) (zg zo8)) (zn zo8 (zg zo8) .nil)) (zn Q2 (zn Ku (zg Ss) .nil) (zn N3 (zg Aan) .nil))))) (zn Ak5 (zn zo17 (zn zo20 (zn zo7 (zn Ie (zg Mj) (zg Abo)) (zn zo7 (zg zo7) .nil)) (zn zo7 (zn Kf (zg zo7) (zg zo284)) (zn zo7 (zg zo242) .nil))) (zn K7 (zn zo68 (zn Hx (zg zo8) (zg Aao)) (zn Np (zg Sr) .nil)) (zn N6 (zn Kt (zg P4) .nil) (zn Nk (zg zo7) .nil)))) (zn Jd (zn zo37 (zn zo7 (zn zo7 (zg zo7) (zg zo7)) (zn zo8 (zg zo8) .nil)) (zn P9 (zn Ke (zg Ti) .nil) (zn N0 (zg zo7) .nil))) (zn M4 (zn zo7 (zn zo8 (zg Tu) (zg Aag)) (zn zo7 (zg Tv) .nil)) (zn zo8 (zn Ks (zg R1) .nil) (zn Nd (zg zo8) .nil)))))) (zn zo6 (zn zo10 (zn zo7 (zn Jo (zn K1 (zn Qx (zg Mi) (zg zo7)) (zn Kh (zg Si) .nil)) (zn zo8 (zn zo7 (zg zo8) (zg zo282)) (zn zo8 (zg zo240) .nil))) (zn (Ji P) (zn zo67 (zn zo8 (zg Te) (zg Aco)) (zn zo7 (zg zo7) .nil)) (zn zo7 (zn Kz (zg zo7) .nil) (zn zo7 (zg zo7) .nil)))) (zn zo8 (zn zo7 (zn zo20 (zn Hf (zg N4) (zg zo8)) (zn Ki (zg Rz) .nil)) (zn Q5 (zn zo8 (zg Tj) .nil) (zn Ma (zg zo7) .nil))) (zn Lr (zn Oq (zn Kk (zg zo7) (zg zo7)) (zn Mf (zg zo7) .nil)) (zn Om (zn zo7 (zg Rq) .nil) (zn zo8 (zg Abh) .nil))))) (zn zo12 (zn zo19 (zn zo7 (zn zo57 (zn zo8 (zg zo8) (zg Acm)) (zn Ka (zg Tc) .nil)) (zn Ot (zn Kw (zg S8) .nil) (zn Mq (zg zo245) .nil))) (zn zo32 (zn zo70 (zn zo7 (zg zo7) (zg V5)) (zn M9 (zg R4) .nil)) (zn zo7 (zn zo8 (zg zo7) .nil) (zn Mb (zg (Vz P)) .nil)))) (zn (Hz P) (zn zo38 (zn zo65 (zn Ia (zg (Pp P)) (zg Vv)) (zn Kj (zg zo7) .nil)) (zn N5 (zn zo7 (zg Sv) .nil) (zn zo8 (zg zo249) .nil))) (zn zo8 (zn Qg (zn zo7 (zg Ta) (zg Yy)) (zn Mg (zg Rf) .nil)) (zn N7 (zn Km (zg zo8) .nil) (zn zo7 (zg zo7) .nil)))))))
noncomputable def Ak4:dF:=zn (bY P) (zn (zo1 P) (zn (Aab P) (zn zo7 (zn zo7 (zn zo62 (zn zo52 (zn zo98 (zg zo8) (zg zo259)) (zn zo7 (zg zo217) (zg Abz))) (zn zo79 (zn zo118 (zg zo199) (zg (Vs P))) (zn zo159 (zg (O9 P)) .nil))) (zn Jl (zn Ob (zn zo107 (zg zo7) (zg zo269)) (zn zo147 (zg zo226) .nil)) (zn zo7 (zn zo8 (zg zo7) (zg Aaw)) (zn zo168 (zg Sn) .nil)))) (zn zo20 (zn La (zn M7 (zn zo102 (zg zo182) (zg zo264)) (zn zo7 (zg zo7) (zg zo7))) (zn zo84 (zn zo123 (zg zo204) (zg Ag1)) (zn zo164 (zg R0) .nil))) (zn zo20 (zn Oe (zn zo8 (zg zo194) (zg zo7)) (zn zo7 (zg zo7) .nil)) (zn zo8 (zn zo132 (zg zo8) (zg zo8)) (zn zo173 (zg zo7) .nil))))) (zn zo7 (zn Jw (zn zo32 (zn zo55 (zn zo100 (zg zo180) (zg zo8)) (zn zo140 (zg zo220) (zg zo7))) (zn zo81 (zn zo8 (zg zo201) (zg Aat)) (zn zo161 (zg Sk) .nil))) (zn zo42 (zn zo7 (zn zo109 (zg zo7) (zg zo7)) (zn zo8 (zg zo8) .nil)) (zn zo90 (zn zo130 (zg zo210) (zg Age)) (zn zo8 (zg zo7) .nil)))) (zn zo22 (zn zo8 (zn (Mo P) (zn zo105 (zg zo185) (zg zo266)) (zn zo7 (zg zo7) (zg Agd))) (zn zo7 (zn zo125 (zg zo7) (zg zo8)) (zn zo166 (zg zo7) .nil))) (zn zo50 (zn zo75 (zn zo7 (zg zo8) (zg zo275)) (zn zo157 (zg zo233) .nil)) (zn zo7 (zn zo8 (zg zo215) (zg zo7)) (zn zo175 (zg zo7) .nil)))))) (zn zo5 (zn zo9 (zn Jg (zn zo27 (zn zo53 (zn zo8 (zg zo7) (zg zo261)) (zn zo138 (zg zo218) (zg zo8))) (zn zo7 (zn zo120 (zg zo7) (zg Aax)) (zn zo7 (zg Ts) .nil))) (zn zo7 (zn zo8 (zn zo7 (zg zo191) (zg zo8)) (zn zo149 (zg zo228) .nil)) (zn zo89 (zn zo7 (zg zo209) (zg zo7)) (zn zo170 (zg zo7) .nil)))) (zn zo7 (zn K6 (zn zo32 (zn zo103 (zg zo183) (zg zo7)) (zn zo143 (zg zo223) (zg Agu))) (zn zo8 (zn zo7 (zg zo8) (zg Acz)) (zn zo8 (zg zo7) .nil))) (zn zo7 (zn zo73 (zn zo115 (zg zo196) (zg zo274)) (zn zo155 (zg zo232) .nil)) (zn zo94 (zn zo134 (zg zo7) (zg Aaz)) (zn zo7 (zg zo256) .nil))))) (zn Hk (zn Jr (zn (Jz P) (zn (K4 P) (zn zo7 (zg zo7) (zg zo7)) (zn zo8 (zg zo8) (zg Abx))) (zn zo82 (zn zo7 (zg zo202) (zg zo7)) (zn zo162 (zg (Rl P)) .nil))) (zn zo44 (zn Me (zn zo111 (zg zo193) (zg zo272)) (zn zo153 (zg zo230) .nil)) (zn zo92 (zn zo7 (zg zo212) (zg Ac5)) (zn zo7 (zg zo20) .nil)))) (zn zo7 (zn zo7 (zn Oc (zn zo8 (zg zo20) (zg zo267)) (zn zo145 (zg zo225) (zg Acv))) (zn zo87 (zn zo127 (zg zo207) (zg zo7)) (zn zo7 (zg Sh) .nil))) (zn zo7 (zn zo8 (zn zo117 (zg zo7) (zg zo277)) (zn zo8 (zg zo235) .nil)) (zn zo96 (zn zo136 (zg zo7) (zg Agx)) (zn zo177 (zg zo258) .nil))))))) (zn zo2 (zn zo4 (zn zo8 (zn zo8 (zn Jf (zn zo7 (zn zo7 (zg L7) (zg Vx)) (zn zo8 (zg zo7) (zg zo7))) (zn Ol (zn Kn (zg O7) (zg zo280)) (zn Nw (zg zo238) .nil))) (zn zo40 (zn zo7 (zn G8 (zg Sy) (zg zo7)) (zn Kd (zg R7) .nil)) (zn zo8 (zn Kl (zg zo8) (zg zo293)) (zn Ni (zg zo251) .nil)))) (zn (Il P) (zn zo35 (zn zo59 (zn zo7 (zg zo7) (zg Wt)) (zn Kp (zg Th) (zg zo8))) (zn zo7 (zn Kg (zg zo7) (zg zo288)) (zn zo7 (zg zo247) .nil))) (zn (K8 P) (zn (Nv P) (zn Kb (zg Pw) (zg zo8)) (zn zo8 (zg zo8) .nil)) (zn Q2 (zn Ku (zg Ss) (zg zo297)) (zn N3 (zg Aan) .nil))))) (zn zo286 (zn zo17 (zn zo20 (zn zo7 (zn Ie (zg Mj) (zg Abo)) (zn zo7 (zg zo7) (zg zo304))) (zn zo7 (zn Kf (zg zo7) (zg zo284)) (zn zo7 (zg zo242) .nil))) (zn K7 (zn zo68 (zn Hx (zg zo8) (zg Aao)) (zn Np (zg Sr) .nil)) (zn N6 (zn Kt (zg P4) (zg zo295)) (zn Nk (zg zo7) .nil)))) (zn Jd (zn zo37 (zn zo7 (zn zo7 (zg zo7) (zg zo7)) (zn zo8 (zg zo8) (zg zo309))) (zn P9 (zn Ke (zg Ti) (zg zo290)) (zn N0 (zg zo7) .nil))) (zn M4 (zn zo7 (zn zo8 (zg Tu) (zg Aag)) (zn zo7 (zg Tv) .nil)) (zn zo8 (zn Ks (zg R1) (zg zo8)) (zn Nd (zg zo8) .nil)))))) (zn zo6 (zn zo10 (zn zo7 (zn Jo (zn K1 (zn Qx (zg Mi) (zg zo7)) (zn Kh (zg Si) (zg zo303))) (zn zo8 (zn zo7 (zg zo8) (zg zo282)) (zn zo8 (zg zo240) .nil))) (zn (Ji P) (zn zo67 (zn zo8 (zg Te) (zg Aco)) (zn zo7 (zg zo7) .nil)) (zn zo7 (zn Kz (zg zo7) (zg zo8)) (zn zo7 (zg zo7) .nil)))) (zn zo8 (zn zo7 (zn zo20 (zn Hf (zg N4) (zg zo8)) (zn Ki (zg Rz) (zg zo7))) (zn Q5 (zn zo8 (zg Tj) (zg zo7)) (zn Ma (zg zo7) .nil))) (zn Lr (zn Oq (zn Kk (zg zo7) (zg zo7)) (zn Mf (zg zo7) .nil)) (zn Om (zn zo7 (zg Rq) (zg zo299)) (zn zo8 (zg Abh) .nil))))) (zn zo12 (zn zo19 (zn zo7 (zn zo57 (zn zo8 (zg zo8) (zg Acm)) (zn Ka (zg Tc) (zg zo306))) (zn Ot (zn Kw (zg S8) (zg zo8)) (zn Mq (zg zo245) .nil))) (zn zo32 (zn zo70 (zn zo7 (zg zo7) (zg V5)) (zn M9 (zg R4) .nil)) (zn zo7 (zn zo8 (zg zo7) (zg zo7)) (zn Mb (zg (Vz P)) .nil)))) (zn (Hz P) (zn zo38 (zn zo65 (zn Ia (zg (Pp P)) (zg Vv)) (zn Kj (zg zo7) .nil)) (zn N5 (zn zo7 (zg Sv) (zg zo291)) (zn zo8 (zg zo249) .nil))) (zn zo8 (zn Qg (zn zo7 (zg Ta) (zg Yy)) (zn Mg (zg Rf) .nil)) (zn N7 (zn Km (zg zo8) (zg zo301)) (zn zo7 (zg zo7) .nil)))))))
noncomputable def hA:Heap:=⟨⟨[(bY P),(zo1 P),zo2,(oK P),zo4,zo5,zo6,zo7,zo8,zo9,zo10,zo7,zo8,Hk,zo12]⟩,{}⟩
noncomputable def hZ:Heap:=⟨⟨[(bY P),(zo1 P),zo2,(Aab P),zo4,zo5,zo6,zo7,zo8,zo9,zo10,zo7,zo286,Hk,zo12,zo7,zo8,Jg,zo7,Jw,zo17,Jr,zo19,zo20,(Il P),zo7,zo8,zo22,Jd,zo7,(Hz P),zo62,Jf,zo27,Jo,zo32,zo20,(Jz P),zo7,La,zo35,K6,zo7,zo8,zo37,zo7,zo38,Jl,zo40,zo7,(Ji P),zo42,K7,zo44,zo32,zo20,(K8 P),zo7,Lr,zo50,M4,zo7,zo8,zo52,zo7,zo53,K1,zo55,zo7,(K4 P),zo57,M7,zo59,zo32,zo20,(Mo P),zo7,Oc,zo65,Ob,zo7,zo8,zo67,zo7,zo68,Me,zo70,Oe,(Nv P),zo73,Oq,zo75,zo7,zo8,Qg,zo79,Ol,zo7,zo8,zo81,zo7,zo82,Ot,zo84,zo7,zo8,Q5,zo7,P9,zo87,N5,zo7,zo8,zo89,zo7,zo90,N6,zo92,zo7,zo8,Q2,zo94,Om,zo7,zo8,zo96,N7,zo98,zo7,zo8,Qx,zo100,Ie,zo7,zo8,zo102,zo7,zo103,Hf,zo105,zo7,zo8,Ia,zo107,G8,zo7,zo8,zo109,Hx,zo111,zo7,zo8,Kb,zo115,Kk,zo7,zo8,zo117,zo7,zo118,Kn,zo120,zo7,zo8,Kf,zo7,Kw,zo123,Kg,zo7,zo8,zo125,Ke,zo127,zo7,zo8,Kl,zo7,Kz,zo130,Kt,zo7,zo8,zo132,Ku,zo134,zo7,zo8,Ks,zo136,Km,zo7,zo8,zo138,Kh,zo140,zo7,zo8,Ka,zo7,Kp,zo143,Ki,zo7,zo8,zo145,Kj,zo147,Kd,zo149,zo7,zo8,Np,zo153,M9,zo7,zo8,zo155,Mf,zo157,zo7,zo8,Mg,zo159,Nw,zo7,zo8,zo161,zo7,zo162,Mq,zo164,zo7,zo8,Ma,zo166,N0,zo7,zo8,zo168,Ni,zo170,zo7,zo8,Nk,zo7,Mb,zo173,N3,zo7,zo8,zo175,Nd,zo177,zo7,zo8,L7,zo7,Mi,zo180,Mj,zo7,zo8,zo182,zo7,zo183,N4,zo185,zo7,zo20,(Pp P),zo7,Sy,zo191,Te,zo7,zo8,zo193,zo7,zo194,Pw,zo196,zo7,zo8,Tu,zo7,Ta,zo199,O7,zo7,zo8,zo201,zo7,zo202,S8,zo204,zo7,zo8,Tj,zo7,Ti,zo207,Sv,zo7,zo8,zo209,zo7,zo210,P4,zo212,zo7,zo8,Ss,zo7,Rq,zo215,R1,zo7,zo8,zo217,zo7,zo218,Si,zo220,zo7,zo8,Tc,zo7,Th,zo223,Rz,zo7,zo8,zo225,zo7,zo226,R7,zo228,zo7,zo8,Sr,zo230,R4,zo7,zo8,zo232,zo7,zo233,Tv,zo235,Rf,(O9 P),zo238,Ts,zo240,Sk,zo242,(Rl P),zo245,R0,zo247,zo7,zo7,zo7,zo7,Sh,zo249,Sn,zo251,zo7,zo7,zo7,zo7,zo20,(Vz P),zo7,Aan,zo256,Abh,zo7,zo8,zo258,zo7,zo259,Vx,zo261,zo7,zo8,Abo,zo7,Acm,zo264,Wt,zo7,zo8,zo266,zo7,zo267,Vv,zo269,zo7,zo8,Aco,zo7,Aao,zo272,V5,zo7,zo8,zo274,zo7,zo275,Aag,zo277,Yy,(Vs P),zo280,Aax,zo282,Aat,zo284,zo7,zo8,Ag1,zo288,Acz,zo7,zo8,zo290,zo7,zo291,Aaw,zo293,zo7,zo8,Age,zo295,Ac5,zo7,zo8,zo297,Aaz,zo299,zo7,zo8,Agx,zo301,Abz,zo7,zo8,zo303,zo7,zo304,Abx,zo306,zo7,zo8,Agu,zo7,Agd,zo309,Acv]⟩,{}⟩
abbrev pp:aW:=PySem.Challenge.pw_belowpoints_k92_desk_by_names
noncomputable def q0:aW:={ pp with main:={ pp.main with body:=[0,2,3,4,5,7,8,9,10,11,12,13,14,16,17,18,19,20,22,23,24,26,27,28,29,30,31,32,33,34,36,37,38,40,41,42,43,44,46,48,49,50,51,52,53,54,55,56,58,59].map top } }
noncomputable def ev:Env:={ scope:=pp.main.scope,locals:=mainNs,globals:=mainNs,cells:=[],code:=(.ref 13),frame:=some 14 }
abbrev bd:List Stmt:=PySem.W.behindTheImports pp
abbrev cE:Code:=.body bd ev
abbrev tB:List Frame:=[iE ⟨0,0,0,0⟩]
noncomputable def sl(i j:Nat):List Stmt:=(bd.drop i).take j
theorem Aj9(w:bG)(os:dR):PySem.W.topGo bQ pp w 11 (some (.ref 6)) 12 ⟨dH w.params,⟨[]⟩,jQ,jZ,os⟩ (oY pp)=some (⟨hA w.params,⟨[]⟩,{},187,os⟩,⟨denote bQ cE,cE,⟨0,0,0,0⟩,tB⟩):=by
 rw[PySem.W.Fast.te15667345088766844465,aN,PySem.W.Fast.te11892475500146522536];kernel_rfl
theorem Adu(w:bG)(os:dR):pL bQ pp w 11 (some (.ref 6)) 1 1 ⟨hA w.params,⟨[]⟩,{},187,os⟩ (oZ bd ev cE ⟨0,0,0,0⟩ tB)=some (.next,mN ⟨t_0 w.params,15,{},⟨[]⟩,{},187,os⟩,cE,⟨0,0,0,0⟩):=by
 rw[PySem.W.Fast.te14374325043358763698,aN];kernel_rfl
theorem r_0(w:bG)(os:dR):cK bQ pp w 11 (some (.ref 6)) 1 225 ⟨t_0 w.params,15,{},⟨[]⟩,{},187,os⟩ (cD (sl 0 3) ev cE ⟨0,0,0,0⟩ tB)=some (.next,⟨t_1 w.params,35,{},⟨[]⟩,{},214,os⟩,cE,⟨5,0,6,8⟩):=by
 rw[aU,aN];kernel_rfl
theorem r_1(w:bG)(os:dR):cK bQ pp w 11 (some (.ref 6)) 1 245 ⟨t_1 w.params,35,{},⟨[]⟩,{},214,os⟩ (cD (sl 3 1) ev cE ⟨5,0,6,8⟩ tB)=some (.next,⟨t_2 w.params,54,{},⟨[]⟩,{},238,os⟩,cE,⟨7,0,10,39⟩):=by
 rw[aU,aN];kernel_rfl
theorem r_2(w:bG)(os:dR):cK bQ pp w 11 (some (.ref 6)) 1 245 ⟨t_2 w.params,54,{},⟨[]⟩,{},238,os⟩ (cD (sl 4 1) ev cE ⟨7,0,10,39⟩ tB)=some (.next,⟨t_3 w.params,73,{},⟨[]⟩,{},262,os⟩,cE,⟨11,0,14,39⟩):=by
 rw[aU,aN];kernel_rfl
theorem r_3(w:bG)(os:dR):cK bQ pp w 11 (some (.ref 6)) 1 282 ⟨t_3 w.params,73,{},⟨[]⟩,{},262,os⟩ (cD (sl 5 5) ev cE ⟨11,0,14,39⟩ tB)=some (.next,⟨t_4 w.params,92,{},⟨[]⟩,{},295,os⟩,cE,⟨23,0,23,12⟩):=by
 rw[aU,aN];kernel_rfl
theorem r_4(w:bG)(os:dR):cK bQ pp w 11 (some (.ref 6)) 1 292 ⟨t_4 w.params,92,{},⟨[]⟩,{},295,os⟩ (cD (sl 10 12) ev cE ⟨23,0,23,12⟩ tB)=some (.next,⟨t_5 w.params,150,{},⟨[]⟩,{},364,os⟩,cE,⟨50,0,50,8⟩):=by
 rw[aU,aN];kernel_rfl
theorem r_5(w:bG)(os:dR):cK bQ pp w 11 (some (.ref 6)) 1 296 ⟨t_5 w.params,150,{},⟨[]⟩,{},364,os⟩ (cD (sl 22 11) ev cE ⟨50,0,50,8⟩ tB)=some (.next,⟨t_6 w.params,210,{},⟨[]⟩,{},442,os⟩,cE,⟨111,0,112,92⟩):=by
 rw[aU,aN];kernel_rfl
theorem r_6(w:bG)(os:dR):cK bQ pp w 11 (some (.ref 6)) 1 300 ⟨t_6 w.params,210,{},⟨[]⟩,{},442,os⟩ (cD (sl 33 12) ev cE ⟨111,0,112,92⟩ tB)=some (.next,⟨t_7 w.params,268,{},⟨[]⟩,{},519,os⟩,cE,⟨140,0,143,27⟩):=by
 rw[aU,aN];kernel_rfl
theorem r_7(w:bG)(os:dR):cK bQ pp w 11 (some (.ref 6)) 1 10 ⟨t_7 w.params,268,{},⟨[]⟩,{},519,os⟩ (cD (sl 45 1) ev cE ⟨140,0,143,27⟩ tB)=some (.next,⟨t_8 w.params,268,{},⟨[]⟩,{},521,os⟩,cE,⟨144,0,144,8⟩):=by
 rw[aU,aN];kernel_rfl
theorem r_8(w:bG)(os:dR):cK bQ pp w 11 (some (.ref 6)) 1 542 ⟨t_8 w.params,268,{},⟨[]⟩,{},521,os⟩ (cD (sl 46 1) ev cE ⟨144,0,144,8⟩ tB)=some (.next,⟨t_9 w.params,357,{},⟨[]⟩,{},631,os⟩,cE,⟨145,0,183,30⟩):=by
 rw[aU,aN];kernel_rfl
theorem r_9(w:bG)(os:dR):cK bQ pp w 11 (some (.ref 6)) 1 282 ⟨t_9 w.params,357,{},⟨[]⟩,{},631,os⟩ (cD (sl 47 4) ev cE ⟨145,0,183,30⟩ tB)=some (.next,⟨Ahc w.params,372,{},⟨[]⟩,{},686,os⟩,cE,⟨187,0,187,5⟩):=
 PySem.W.byRow2 "special-get-raises" (P:=fun w=>∀ os:dR,cK bQ pp w 11 (some (.ref 6)) 1 282 ⟨t_9 w.params,357,{},⟨[]⟩,{},631,os⟩ (cD (sl 47 4) ev cE ⟨145,0,183,30⟩ tB)=some (.next,⟨Ahc w.params,372,{},⟨[]⟩,{},686,os⟩,cE,⟨187,0,187,5⟩)) (fun w os=>by rw[aU,aN];kernel_rfl) (fun w os=>by rw[aU,aN];kernel_rfl) w os
theorem Al0(w:bG)(os:dR):cK bQ pp w 11 (some (.ref 6)) 1 353 ⟨Ahc w.params,372,{},⟨[]⟩,{},686,os⟩ (cD (sl 51 1) ev cE ⟨187,0,187,5⟩ tB)=some (.next,⟨Alk w.params,421,{},⟨[]⟩,{},749,os⟩,cE,⟨188,0,223,71⟩):=by
 rw[aU,aN];kernel_rfl
theorem Al8(w:bG)(os:dR):cK bQ pp w 11 (some (.ref 6)) 1 205 ⟨Alk w.params,421,{},⟨[]⟩,{},749,os⟩ (cD (sl 52 8) ev cE ⟨188,0,223,71⟩ tB)=some (.next,⟨Ak4 w.params,462,{},⟨[]⟩,{},800,os⟩,cE,⟨262,0,270,72⟩):=by
 rw[aU,aN];kernel_rfl
theorem Aj2(w:bG)(os:dR):jR bQ pp w 11 (some (.ref 6)) 2 (mN ⟨Ak4 w.params,462,{},⟨[]⟩,{},800,os⟩) (pM [] ev cE ⟨262,0,270,72⟩ tB)=some ⟨hZ w.params,⟨[]⟩,{},800,os⟩:=by
 rw[PySem.W.Fast.te14082659384304107361,aN];kernel_rfl
theorem bdE:bd=(sl 0 3++(sl 3 1++(sl 4 1++(sl 5 5++(sl 10 12++(sl 22 11++(sl 33 12++(sl 45 1++(sl 46 1++(sl 47 4++(sl 51 1++(sl 52 8++[])))))))))))):=by kernel_rfl
theorem Af4{tb:String->Option jC}{p:aW}{w:bG}{n₀:Nat}{ann:Option aC}{env:Env}{q:Pos}{n N:Nat}{s s1 r:aG}{b b1:List Stmt}{c:Code}{pos p1:Pos}(hb:b=b1)(h:pL tb p w n₀ ann 1 n s (oZ b env c pos [iE q])=some (.next,s1,c,p1))(k:jR tb p w n₀ ann N s1 (pM b1 env c p1 [iE q])=some r):jR tb p w n₀ ann (n+N) s ⟨denote tb (.body b env),c,pos,[iE q]⟩=some r:=by
 subst hb;exact PySem.W.piece_block h k
theorem Ajz(w:bG)(os:dR):jR bQ pp w 11 (some (.ref 6)) (12+(1+(225+(245+(245+(282+(292+(296+(300+(10+(542+(282+(353+(205+2)))))))))))))) ⟨dH w.params,⟨[]⟩,jQ,jZ,os⟩ (oY pp)=some ⟨hZ w.params,⟨[]⟩,{},800,os⟩:=
 PySem.W.go_top (Aj9 w os) (Af4 bdE (Adu w os) (cH (cI (r_0 w os)) (cH (cI (r_1 w os)) (cH (cI (r_2 w os)) (cH (cI (r_3 w os)) (cH (cI (r_4 w os)) (cH (cI (r_5 w os)) (cH (cI (r_6 w os)) (cH (cI (r_7 w os)) (cH (cI (r_8 w os)) (cH (cI (r_9 w os)) (cH (cI (Al0 w os)) (cH (cI (Al8 w os)) (Aj2 w os))))))))))))))
theorem Ajf:∀ w:bG,(PySem.W.fencedOpening bQ pp w 6656).map (fun s=>(s.heap,s.gens,s.drawn,s.toks))=some (dH w.params,Array.mk [],jQ,jZ):=
 PySem.W.boot_open (by kernel_rfl) (by decide) (fun s=>by kernel_rfl)
theorem Ajg(w:bG):((dH w.params).isNs aI&&(Array.mk []:Array jF).size == 0,(dH w.params).objs.size,(dH w.params).nsMap aI "__annotations__")=(true,11,(some (.ref 6))):=by
 rw[PySem.W.Fast.te8920871248978507458];kernel_rfl
noncomputable def K0(P:kB):aA:=(nat_lit 48,zo40)::(nat_lit 67,zo55)::(nat_lit 86,zo70)::(nat_lit 96,Ol)::(nat_lit 103,zo84)::(nat_lit 110,N5)::(nat_lit 117,zo92)::(nat_lit 122,Om)::(nat_lit 127,zo98)::(nat_lit 139,zo105)::(nat_lit 144,G8)::(nat_lit 281,zo196)::(nat_lit 288,O7)::(nat_lit 309,zo212)::(nat_lit 385,zo261)::(nat_lit 392,Wt)::(nat_lit 399,zo269)::(nat_lit 406,V5)::(nat_lit 425,Acz)::(nat_lit 432,zo293)::(nat_lit 437,Ac5)::(nat_lit 442,zo299)::(nat_lit 447,Abz)::(nat_lit 454,zo306)::(nat_lit 461,Acv)::(nat_lit 0,(bY P))::(nat_lit 1,(zo1 P))::(nat_lit 2,zo2)::(nat_lit 3,(Aab P))::(nat_lit 6,zo6)::(nat_lit 24,(Il P))::(nat_lit 30,(Hz P))::(nat_lit 31,zo62)::(nat_lit 37,(Jz P))::(nat_lit 47,Jl)::(nat_lit 50,(Ji P))::(nat_lit 51,zo42)::(nat_lit 56,(K8 P))::(nat_lit 66,K1)::(nat_lit 69,(K4 P))::(nat_lit 70,zo57)::(nat_lit 75,(Mo P))::(nat_lit 85,Me)::(nat_lit 88,(Nv P))::(nat_lit 89,zo73)::(nat_lit 95,zo79)::(nat_lit 102,Ot)::(nat_lit 109,zo87)::(nat_lit 116,N6)::(nat_lit 121,zo94)::(nat_lit 126,N7)::(nat_lit 138,Hf)::(nat_lit 143,zo107)::(nat_lit 270,(Pp P))::(nat_lit 280,Pw)::(nat_lit 287,zo199)::(nat_lit 308,P4)::(nat_lit 351,(O9 P))::(nat_lit 352,zo238)::(nat_lit 357,(Rl P))::(nat_lit 374,(Vz P))::(nat_lit 384,Vx)::(nat_lit 391,zo264)::(nat_lit 398,Vv)::(nat_lit 405,zo272)::(nat_lit 415,(Vs P))::(nat_lit 416,zo280)::(nat_lit 424,zo288)::(nat_lit 431,Aaw)::(nat_lit 436,zo295)::(nat_lit 441,Aaz)::(nat_lit 446,zo301)::(nat_lit 453,Abx)::(nat_lit 460,zo309)::(nat_lit 358,zo245)::(nat_lit 359,R0)::(nat_lit 360,zo247)::(nat_lit 361,zo7)::(nat_lit 362,zo7)::(nat_lit 363,zo7)::(nat_lit 364,zo7)::(nat_lit 365,Sh)::(nat_lit 366,zo249)::(nat_lit 367,Sn)::(nat_lit 368,zo251)::(nat_lit 369,zo7)::(nat_lit 370,zo7)::(nat_lit 371,zo7)::[]
abbrev hK:PySem.W.Hook:=PySem.W.kHook K0 [nat_lit 48,nat_lit 67,nat_lit 86,nat_lit 96,nat_lit 103,nat_lit 110,nat_lit 117,nat_lit 122,nat_lit 127,nat_lit 139,nat_lit 144,nat_lit 281,nat_lit 288,nat_lit 309,nat_lit 385,nat_lit 392,nat_lit 399,nat_lit 406,nat_lit 425,nat_lit 432,nat_lit 437,nat_lit 442,nat_lit 447,nat_lit 454,nat_lit 461,nat_lit 0,nat_lit 1,nat_lit 2,nat_lit 3,nat_lit 6,nat_lit 24,nat_lit 30,nat_lit 31,nat_lit 37,nat_lit 47,nat_lit 50,nat_lit 51,nat_lit 56,nat_lit 66,nat_lit 69,nat_lit 70,nat_lit 75,nat_lit 85,nat_lit 88,nat_lit 89,nat_lit 95,nat_lit 102,nat_lit 109,nat_lit 116,nat_lit 121,nat_lit 126,nat_lit 138,nat_lit 143,nat_lit 270,nat_lit 280,nat_lit 287,nat_lit 308,nat_lit 351,nat_lit 352,nat_lit 357,nat_lit 374,nat_lit 384,nat_lit 391,nat_lit 398,nat_lit 405,nat_lit 415,nat_lit 416,nat_lit 424,nat_lit 431,nat_lit 436,nat_lit 441,nat_lit 446,nat_lit 453,nat_lit 460,nat_lit 358,nat_lit 359,nat_lit 360,nat_lit 361,nat_lit 362,nat_lit 363,nat_lit 364,nat_lit 365,nat_lit 366,nat_lit 367,nat_lit 368,nat_lit 369,nat_lit 370,nat_lit 371] (fun _=>by kernel_rfl)
abbrev lz:List Str:=["FORMS"]
theorem Xg(w:bG):∃ (a:Addr) (l:List (Str×Nat×Addr)) (ep:Nat),aK (K0 w.params) aI "FORMS" = some (some (.ref a))/\(K0 w.params).lookup a=some (Aap w.params l ep)/\(a == sysModules)=false/\Fm (K0 w.params) l C1:=
 ⟨357,[("put",637,358),("take",641,359),("move",643,360),("points",647,361),("counts",648,362),("pairs",649,363),("halves",650,364),("below",651,365),("above",654,366),("box",657,367),("nth",662,368),("stairs",668,369),("longest",669,370),("crowd",670,371)],14,by kernel_rfl,by kernel_rfl,by kernel_rfl,.cons (ws:=[("name",638),("number",639),("number",640)]) (by kernel_rfl) (by decide) (.cons (ws:=[("name",642)]) (by kernel_rfl) (by decide) (.cons (ws:=[("name",644),("number",645),("number",646)]) (by kernel_rfl) (by decide) (.cons (ws:=[]) (by kernel_rfl) (by decide) (.cons (ws:=[]) (by kernel_rfl) (by decide) (.cons (ws:=[]) (by kernel_rfl) (by decide) (.cons (ws:=[]) (by kernel_rfl) (by decide) (.cons (ws:=[("number",652),("number",653)]) (by kernel_rfl) (by decide) (.cons (ws:=[("number",655),("number",656)]) (by kernel_rfl) (by decide) (.cons (ws:=[("number",658),("number",659),("number",660),("number",661)]) (by kernel_rfl) (by decide) (.cons (ws:=[("place",663),("number",664),("number",665),("number",666),("number",667)]) (by kernel_rfl) (by decide) (.cons (ws:=[]) (by kernel_rfl) (by decide) (.cons (ws:=[]) (by kernel_rfl) (by decide) (.cons (ws:=[]) (by kernel_rfl) (by decide) (.nil))))))))))))))⟩
theorem Amm(w:bG)(os:dR):(PySem.W.staticsOk (importedModules pp.main.body) (dH w.params) (hZ w.params)&&PySem.W.namesBound pp (hZ w.params)&&PySem.W.gensDone ⟨hZ w.params,⟨[]⟩,{},800,os⟩&&PySem.W.laidKept (dH w.params) (hZ w.params))=true:=by
 rw[gK];kernel_rfl
theorem Aml(w:bG)(os:dR):PySem.W.openSeen q0 lz (importedModules pp.main.body) (fun s=>pY q0 [] s&&pT [] s) true ⟨hZ w.params,⟨[]⟩,{},800,os⟩=PySem.W.openGood q0 lz:=by
 rw[gK,PySem.W.Fast.te4187177175401517315];kernel_rfl
theorem Amw(w:bG)(os:dR):hK.obs ⟨hZ w.params,⟨[]⟩,{},800,os⟩=hK.val w:=by kernel_rfl
theorem Amx:PySem.W.LeftO pp q0 lz (fun s=>pY q0 [] s&&pT [] s) hK.obs hK.val 6656:=
 PySem.W.LeftO.of_pieces Ajf Ajg Ajz (by decide) fun w=>funext fun os=>qD (Amm w os) (qD (Aml w os) (Amw w os))
end
theorem Ame{l:iJ}{q:aW}{loose:List Str}{XP:(Str->Option aC)->Heap->Prop}{YP:bG->Heap->Prop}{d:DefRec}{K:kB->aA}(hn:l.most=some 63)(hdf:d.params.defaults=[])
  (hY:∀ (w:bG) (h:Heap),YP w h->(K w.params).In h)
  (F:∀ (w:bG) (mg:Str->Option aC) (fa:Addr) (h:Heap),(K w.params).In h->h.Ns aI mg->mg d.name=some (.ref fa) ->
   ∃ fd:bE,(∀ (s:aG) (u:aC),kS s fd ⟨[u],[]⟩ [("script",u)])/\∀ base:Heap,(K w.params).In base->base.Ns aI mg->FnOk l.prog w (K w.params) mg base CX0 7 fa fd ["script"] (spF (K w.params) 1 Tp)) :
  pO q loose XP YP l.row.toRowW d [] (fun f vs=>pE f vs):=
 L2.Afz (n:=63) (k:=7) (x := "script") (CX:=fun _=>CX0) (sp:=fun w=>spF (K w.params) 1 Tp) hn (by decide) hdf ⟨rfl,by decide,by decide⟩ hY F (fun w H a ns hl ho hS=>Ah8 ho hS (Acs ns hl)) fun _ _ _ _ _ z=>z
end Lw
open PySem PySem.W PyProof.Rows
set_option maxRecDepth 100000 in
set_option maxHeartbeats 0 in
theorem PySem.Challenge.cw_belowpoints_k92_desk_by_names_holds : PySem.Challenge.rw_belowpoints_k92_desk_by_names.Holds := by
  w_on; o_law
  refine holds_open (q := Lw.q0) (loose := Lw.lz) (Xt := fun s => xlAt Lw.q0 [] s && recOk [] s) (XP := XL Lw.q0 []) (Yf := Lw.hK.obs) (Ya := Lw.hK.val) (YP := InK Lw.K0) Lw.Amx Lw.hK.of Lw.hK.keeps (fun s e => xl_of s (Bool.and_eq_true_iff.mp e).1) XL.keeps (by rfl) (by rfl) (by rfl) (fun s e => recFacts_of (Bool.and_eq_true_iff.mp e).2) (by rfl) (by first | assumption | decide +kernel) (by decide +kernel) ⟨rfl, rfl, rfl, rfl, rfl, by decide +kernel⟩ ?hw ?hc
  case hw => w_witness2
  k_fill
  refine Lw.Ame (l := PySem.Challenge.rw_belowpoints_k92_desk_by_names) rfl rfl (K := Lw.K0) (fun w h Y => Y) ?F
  case F =>
    intro w mg fa h KX G hmg
    refine' Lw.Ah4 KX G hmg ?aC_KeptPoints ?pg_KeptPoints ?hd_KeptPoints ?po_KeptPoints ?sa_KeptPoints ?aC_Desk ?pg_Desk ?hd_Desk ?po_Desk ?sa_Desk ?xn_BelowError ?xn_NoAsk ?xn_NoName ?xn_NoPlace ?ex_NoAsk ?kc_NoAsk ?ex_NoName ?kc_NoName ?ex_NoPlace ?kc_NoPlace ?bs_BelowError ?br_BelowError ?bf_BelowError ?xt ?xf_word ?xv ?mk_Desk ?kc_Desk ?mk_KeptPoints ?kc_KeptPoints ?nf_Desk_kept ?nf_KeptPoints_points ?a0 ?i0 ?l0 ?c0 ?k0 ?a1 ?i1 ?l1 ?c1 ?k1 ?a2 ?i2 ?l2 ?c2 ?k2 ?a3 ?i3 ?l3 ?c3 ?k3 ?a4 ?i4 ?l4 ?c4 ?k4 ?a5 ?i5 ?l5 ?c5 ?k5 ?a6 ?l6 ?c6 ?k6 ?a7 ?l7 ?c7 ?k7 ?a8 ?l8 ?c8 ?k8 ?a9 ?l9 ?c9 ?k9 ?a10 ?l10 ?c10 ?k10 ?a11 ?l11 ?c11 ?k11 ?a12 ?l12 ?c12 ?k12 ?a13 ?l13 ?c13 ?k13 ?a14 ?l14 ?c14 ?k14 ?a15 ?l15 ?c15 ?k15 ?a16 ?l16 ?c16 ?k16 ?a17 ?l17 ?c17 ?k17 ?a18 ?l18 ?c18 ?k18 ?a19 ?i19 ?l19 ?c19 ?k19 ?a20 ?i20 ?l20 ?c20 ?k20 ?a21 ?i21 ?l21 ?c21 ?k21 ?a22 ?i22 ?l22 ?c22 ?k22 ?a23 ?l23 ?c23 ?k23 ?a24 ?l24 ?c24 ?k24 ?fm_FORMS ?v_FIGURES ?v_LETTERS ?v_LONGEST_NAME ?v_MOST_FIGURES ?v_MOST_POINTS ?z_ValueError ?z_all ?z_int ?z_isinstance ?z_len ?z_str ?z_sum ?z_tuple ?z_zip
    (case aC_KeptPoints => k_is)
    (case pg_KeptPoints => k_is)
    (case hd_KeptPoints => k_is)
    (case po_KeptPoints => k_is)
    (case sa_KeptPoints => k_is)
    (case aC_Desk => k_is)
    (case pg_Desk => k_is)
    (case hd_Desk => k_is)
    (case po_Desk => k_is)
    (case sa_Desk => k_is)
    (case xn_BelowError => k_is)
    (case xn_NoAsk => k_is)
    (case xn_NoName => k_is)
    (case xn_NoPlace => k_is)
    (case ex_NoAsk => kernel_rfl)
    (case kc_NoAsk => k_is)
    (case ex_NoName => kernel_rfl)
    (case kc_NoName => k_is)
    (case ex_NoPlace => kernel_rfl)
    (case kc_NoPlace => k_is)
    (case bs_BelowError => k_is)
    (case br_BelowError => k_is)
    (case bf_BelowError => kernel_rfl)
    (case xt => kernel_rfl)
    (case xf_word => kernel_rfl)
    (case xv => k_is)
    (case mk_Desk => k_is)
    (case kc_Desk => k_is)
    (case mk_KeptPoints => k_is)
    (case kc_KeptPoints => k_is)
    (case nf_Desk_kept => k_is)
    (case nf_KeptPoints_points => k_is)
    (case a0 => k_is); (case i0 => k_is)
    (case l0 => k_is); (case c0 => k_is); (case k0 => k_is)
    (case a1 => k_is); (case i1 => k_is)
    (case l1 => k_is); (case c1 => k_is); (case k1 => k_is)
    (case a2 => k_is); (case i2 => k_is)
    (case l2 => k_is); (case c2 => k_is); (case k2 => k_is)
    (case a3 => k_is); (case i3 => k_is)
    (case l3 => k_is); (case c3 => k_is); (case k3 => k_is)
    (case a4 => k_is); (case i4 => k_is)
    (case l4 => k_is); (case c4 => k_is); (case k4 => k_is)
    (case a5 => k_is); (case i5 => k_is)
    (case l5 => k_is); (case c5 => k_is); (case k5 => k_is)
    (case a6 => k_is); (case l6 => k_is); (case c6 => k_is); (case k6 => k_is)
    (case a7 => k_is); (case l7 => k_is); (case c7 => k_is); (case k7 => k_is)
    (case a8 => k_is); (case l8 => k_is); (case c8 => k_is); (case k8 => k_is)
    (case a9 => k_is); (case l9 => k_is); (case c9 => k_is); (case k9 => k_is)
    (case a10 => k_is); (case l10 => k_is); (case c10 => k_is); (case k10 => k_is)
    (case a11 => k_is); (case l11 => k_is); (case c11 => k_is); (case k11 => k_is)
    (case a12 => k_is); (case l12 => k_is); (case c12 => k_is); (case k12 => k_is)
    (case a13 => k_is); (case l13 => k_is); (case c13 => k_is); (case k13 => k_is)
    (case a14 => k_is); (case l14 => k_is); (case c14 => k_is); (case k14 => k_is)
    (case a15 => k_is); (case l15 => k_is); (case c15 => k_is); (case k15 => k_is)
    (case a16 => k_is); (case l16 => k_is); (case c16 => k_is); (case k16 => k_is)
    (case a17 => k_is); (case l17 => k_is); (case c17 => k_is); (case k17 => k_is)
    (case a18 => k_is); (case l18 => k_is); (case c18 => k_is); (case k18 => k_is)
    (case a19 => k_is); (case i19 => k_is)
    (case l19 => k_is); (case c19 => k_is); (case k19 => k_is)
    (case a20 => k_is); (case i20 => k_is)
    (case l20 => k_is); (case c20 => k_is); (case k20 => k_is)
    (case a21 => k_is); (case i21 => k_is)
    (case l21 => k_is); (case c21 => k_is); (case k21 => k_is)
    (case a22 => k_is); (case i22 => k_is)
    (case l22 => k_is); (case c22 => k_is); (case k22 => k_is)
    (case a23 => k_is); (case l23 => k_is); (case c23 => k_is); (case k23 => k_is)
    (case a24 => k_is); (case l24 => k_is); (case c24 => k_is); (case k24 => k_is)
    (case fm_FORMS => exact Lw.Xg w)
    (case v_FIGURES => k_is)
    (case v_LETTERS => k_is)
    (case v_LONGEST_NAME => k_is)
    (case v_MOST_FIGURES => k_is)
    (case v_MOST_POINTS => k_is)
    (case z_ValueError => k_is)
    (case z_all => k_is)
    (case z_int => k_is)
    (case z_isinstance => k_is)
    (case z_len => k_is)
    (case z_str => k_is)
    (case z_sum => k_is)
    (case z_tuple => k_is)
    (case z_zip => k_is)
