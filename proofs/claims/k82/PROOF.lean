import PyProof.Rows.All
import Wide.All
import OpenK.AllK
import Wide.FinOn
import Lean
import PyProof.EqAt
import PyProof.EqKinds
import PyProof.TupleCall
import PySem.SetOps
import KE.KDictOf
import PyProof.AttrMiss
import PyProof.IsiH_list
import PyProof.WalkInts
import KE.KMinBuiltin
import PyProof.Rows.CallKwBuiltin
import KE.KEqDict
import KE.KItemsList
import KE.KDictSum
import KE.KRevSl
import PyProof.Rows.SortStr
import PyProof.Rows.SortWalk
import PyProof.DictWalks
import KE.KTryMore
import PyProof.NsDelKeeps
import PyProof.ExcAttrAll.ValueError
import PyProof.StrReplace2
import PyProof.ReprStr
import PyProof.Rows.RuleU_int
import PyProof.InstStoreFacts
import PyProof.ExcInit
import PyProof.MinMaxWalk
import PyProof.ListIndex
import KE.KDictList
import KE.KMinKey
import KE.KLam
import KE.KNestM
import PyProof.Rows.StrInSeq3
import PyProof.PureStr
import PyProof.MeetsIn
import PyProof.Rows.SumAny
import PySem.Challenge.RW_shopbound_k82_serving_and_moved
set_option Elab.async false
set_option linter.all false
set_option maxRecDepth 100000
open Option renaming some->aa,none->ab,isSome_iff_exists->eN,isSome_map->nv,map->sx,getD_none->Ra,bind_none->Ry,join_some->RK,getD_some->RL,or_eq_some_iff->SN
open _root_ renaming List->ac,Int->ag,Nat->al,Option->ar,Bool->aQ,absurd->bK,Array->bQ,congrArg->cJ,if_true->cK,if_false->c9,String->dq,DecidableEq->eV,of_decide_eq_true->fC,beq_iff_eq->kO,Unit->lO,decide_eq_true_eq->l0,beq_eq_false_iff_ne->ng,not_or->sI,and_self->vU,decide_not->vV,decide_eq_decide->z8,decide_eq_false_iff_not->FO,instBEqOfDecidableEq->R4
open Bool renaming true->ah,false->ao,and_eq_true->fU,not_true->iL,eq_iff_iff->jh,not_false->l7,true_and->nI,or_eq_true->pj,and_true->vQ,not_eq_true'->vR,or_true->z5,and_false->Ff,false_or->Fg,eq_false_iff->FD,or_false->Q9,not_not->SV
open PySem renaming Str->aj,Addr->av,Shared->aH,wpAny->aM,model->aR,sizeLine->aW,starEach->a8,Obj->bf,tupleKeyHash->bR,Program->bV,cLine->cy,backTo->cN,World->cR,Env->c8,compareOp->dz,Around->dB,Pos->dD,intKind->eK,swapsWith->fG,sizeLine_eq->fT,argBest->fW,mainGlobals->gd,wpAny_mono->ie,attributeBase->ig,NameKind->ii,SetTable->im,codeAny->iH,rawInt->jf,binaryOp->jg,backToKw->ji,keywordEach->jj,Keyword->jo,wpAny_truthy_bool->jW,holding->jX,assignEach->jY,pyNext->jZ,sysModules->kJ,tupleKind->kK,assign->kN,bindArgs->kP,wpAny_setState_of->kU,bootBuiltins->lN,behindInMarks->lP,wpAny_newObj_type->lQ,bindL->lV,bindC->lW,atKey->lY,FuncData->nj,mem_of_lookup->nk,IsPart->nq,getItem->nr,valueAt->nu,call_meetsIn->ny,callerA->nz,codeAny_builtin->nF,wpAny_loadPart'->nJ,standAt->o6,pyIter->o7,foldedSetIterable->o9,getMethod->pc,sliceBounds->pd,argsOk->ph,setAdd->pz,GenState->rY,callWith->sd,BindsTo->se,codeAny_mono->sg,wpAny_call_entry->sj,wpAny_typeOf->sk,tupleKind_room_in1->su,wpAny_pyIter_list->sB,plainId_quiet->sG,typeLookup_type->sJ,builtinLookup_eq_fast->sK,pickOrder->sL,Model->vm,letOwnedTupleGo->vo,wpAny_passesOwn->vq,typeLookup->vz,typeIs_str->vA,call_meets->vD,Slot->vG,PyData->vK,wpAny_of_eq->vO,wpAny_askSetting->vP,wpAny_ite_split->vS,swapsWithSole->yU,swappedStores->yV,bindName->yW,lastMarks->yZ,wpAny_call->zc,wpAny_Call_Name_kw->zd,cellsFrom->ze,pick_run->zi,subscripted->zl,Params->zu,DefRec->zv,call->zx,relabel->zz,setSearchFrom->zR,wpAny_storeSet_of->zT,wpAny_attempt->zV,wpAny_isInstance->zW,entryFor->zX,isSubtype_type->z4,Within->EJ,builtinsNs->EL,wpAny_Name->EM,wpAny_execs_nil->EN,assignInOrder->EO,wpAny_standAt->ER,wpAny_rule->ES,wpAny_field->E7,wpAny_callSpecial?_slot->E8,typeIs_int->Fd,wpAny_specialOf->Fh,wpAny_Call_method->Fi,compEnvC->Fm,wpAny_seqItems->FI,wpAny_forIn_list->FJ,ofAClassStatement->FK,intKind_is->FP,signature?_of->FU,setsByText->FV,wpAny_setEntries_of->FW,wpAny_setField->FX,wpAny_isTrue_Compare1->QN,wpAny_execs_cons->QP,wpAny_assign_Name->QQ,wpAny_bindName->QT,slot_list_getitem->Q8,sliceRange_one->Rb,wpAny_comprehension_free->Rv,wpAny_pyIter_enum->Rw,codeAny_of_tree->RU,codeAny_call_builtin->RW,hashByValue_scannable->RY,carriedByValue->RZ,searchCouldBeSeen->R0,wpAny_eqIsQuiet_tuple->R1,setAddHashedIn->R3,getAttrByItsOwn->R5,boundAndCalled->R6,getattributeRaised->R7,entryFor_of_tree->R8,entryFor_alias->Sg,wpAny_fieldsOf->Sm,firstArgMember->Sq,wpAny_pyIter_slot->Sr
open PySem.W renaming Frag->bu,findIn->dN,fnOf->gW,keepIn->iI,kia_one->j0,emptyDict->lR,instObj->nh,codeIn->si,plainGet->vt,isFn->vx,lookIn->y0,hasDictIn->y7,makesIn->y9,nsIn->zD,mg_of->zE,methodObj->EK,plainGet_of->EV,plainOver->EW,takerIn->EX,methodCall_KW->EY,callWith_K->E2,fd_plain->Fj,OpenLaw->Fk,handedIn->QU,kitOne->QV,kitx_list->QW,kitx_dict->QX,cellsFrom_some->QZ,WalkO->Ru
open List renaming mem_map->bC,mem_singleton->ce,replicate->cq,range->cV,mem_cons->c0,mem_filter->c7,getElem?_eq_some_iff->di,lookup->dJ,find?_cons->eY,mem_range->fB,mem_append->fS,length->gm,length_drop->jk,map_append->jp,take_length->j3,forall_mem_cons->j5,nodup_cons->kQ,foldl_cons->kR,any_cons->kS,getD_eq_getElem?_getD->kX,nodup_append->kZ,append_nil->lT,replicate_succ->lX,any_eq_true->lZ,getElem?_set_ne->ni,length_mapIdx->nC,mem_filterMap->o8,flatten_cons->pf,lookup_cons->pi,getD->pk,getElem_mem->pp,take_succ->pC,set_cons_zero->pF,map_congr_left->pG,append_assoc->sq,take_of_length_le->sy,all_eq_true->sA,take_append_drop->sC,length_pos_iff->sN,findSome?_cons->sO,head?_append->sP,filterMap_cons->vk,getElem?_set_self->vn,filter_cons->vE,drop_eq_getElem_cons->vI,mem_iff_getElem?->vJ,mem_of_mem_take->vM,take->vN,mem_append_left->yT,any_eq_false->y6,getElem?_replicate->zf,getElem?_take_of_lt->zg,length_filter_le->zq,drop_zero->zB,mem_iff_getElem->zC,pairwise_iff_getElem->zH,nodup_range->zK,mem_of_find?_eq_some->zM,find?_eq_none->zN,pairwise_map->zO,foldl_append->zQ,findIdx?->zZ,mergeSort_perm->z6,getElem?_of_mem->z7,filter_eq_nil_iff->z9,of_mem_zip->E3,take_sublist->E4,foldl->Fe,getElem?_eq_none->Fq,drop_length->Ft,find?_some->FC,nodup_iff_pairwise_ne->FF,flatMap_cons->FZ,take_add_one->F0,set_cons_succ->F1,map_take->F3,map_drop->F4,any_map->F5,map_id->F6,head?_map->F7,head?_filter->F8,exists_cons_of_length_pos->F9,getElem_inj->QJ,append_inj'->Rx,getElem?_mapIdx->Rz,getElem?_drop->RG,pairwise_cons->RH,filterMap_cons_some->RN,not_lt->Sa,perm_middle->Sf,pairwise_mergeSort->Su,map_inj_right->Sx,map_id'->Sy,drop_of_length_le->SB,getElem_range->SD,getElem_map->SE,find?_append->SF,filter_congr->SG,mem_flatMap->SH,findSome?_eq_none_iff->SI,le_refl->SK,getElem_of_mem->SL,mergeSort_nil->SM,mem_of_head?->SO,map_eq_nil_iff->SQ,Sublist->SS,filter_eq_self->SU
open Pure renaming pure->bG
open PySem.SetTable renaming below->cg,insertAt->cv,runEnd->dv,bits->fV,leap->jq,sizeAbove->kT,fresh->kW,tooFull->l9,turns->nE,fits->pr,grown->sF,has->zJ,Probe->zL,fill->Fz,slot->RE,layClean->RM,relaid->RO,laid->RP,orStandIn->Se
open PySem.Value renaming ref->cm,int->c4,bool->jV,type->lM,none->o5,str->rV,isInt->yS,float->EI,isStrOf->QH,bytes->QI
open Sum renaming inr->cG,inl->o4
open Or renaming inr->cH,inl->dc
open PySem.PassesOwn renaming never->cL
open Ne renaming symm->dI
open PySem.SeqAt renaming shaped->eA
open PyProof.Rows renaming envOfC->eX,IntsAre->j1,AllBare->kM,callWith_type1->yY,assignInOrder_cons->EQ,slot_tuple_getitem->E9,Subscript_->Fb,subscriptTail->Fc,assignInOrder_nil->QR,slicePart_none->Q0,subscriptTail_builtinR->Q7,callWith_builtin1->Tw,boot_enumerate->TJ,neg_int->TV
open PySem.PyData renaming str->fH,eqv->il,canLayAll0->j2,canLay0->kY,eqvAll->lc,depth->mf,depthAll->nD,tuple->RA,int->RB,strOk->Sw
open Array renaming length_toList->gf,getElem?_eq_some_iff->gX,getD_eq_getD_getElem?->zI,mem_toList_iff->EU,toList->QO,getElem_toList->RD,replicate->RI,filterMap->RQ,forIn_toList->RX,getElem?_eq_getElem->Sl
open PySem.Str renaming empty->gi,length->so,ofString->zj
open Sum.inr renaming inj->gF
open List.cons renaming inj->ij
open Nat renaming lt_or_ge->ik,zero_le->iK,zero_add->j4,lt_irrefl->kL,le_succ->lU,le_of_lt->rW,lt_succ_self->rZ,lt_trans->sr,lt_succ_of_lt->sH,succ_pos->vL,ne_of_gt->yX,le_of_eq->za,succ_mul->zp,mod_lt->zF,min_le_right->E5,not_lt->Fn,add_assoc->Fv,lt_succ_iff->Fw,le_add_right->Fx,not_lt_zero->Fy,mul_comm->Rh,le_of_not_lt->Rp,lt_trichotomy->RC,min_eq_left->RF,min_def->SA
open PySem.Heap renaming SameBut->iF,size_push->lS,dictOf_iff->zY,get?_update_self->FN
open False renaming elim->iG
open True renaming intro->iJ
open Int renaming toNat_natCast->me,le_refl->pH,le_trans->FY,mul_nonneg->F2,eq_ofNat_of_zero_le->SC,not_le->SJ,emod_two_eq->SW
open PySem.NameKind renaming free->nB,cell->zy
open PySem.F renaming called_set->nG,slot_dict_get->sv,entry_dict_get->zr,plainAttrs_dict->zt,slot_list_getattribute->zU,plainAttrs_list->Fu,slot_list_append->Re,slot_list_extend->Rf,slot_int_rmul->Rg,slot_dict_delitem->Ri,slot_dict_pop->Rj,args_dict_get_2->Rl,args_dict_get_3->Rm,type_dict_get->Rn,plain_set_new->RV,slot_list_index->R',slot_dict_values->Sd,slot_list_eq->Sv
open List.Pairwise renaming map->nK,nil->Rt,imp_of_mem->RJ,filterMap->TL
open PySem.Around renaming under_plainId->pA,under->EZ
open PySem.Heap.SameBut renaming update->pB,refl->Fp
open ForInStep renaming yield->sw
open PySem.SetTable.layClean renaming free->sD
open PySem.Obj renaming data_mapFields->sM,mapFields->vT,putSet->zS,mapSeq->Rc,isFreed_of_fields->Sn,cls_mapFields->So
open PySem.Calls renaming spliced_cons->vy,callWith_builtin->vB,spliced_nil->zb,evalArgs_plain->zm,Name_function_global->QK
open ForIn renaming forIn->vF
open PySem.Walks renaming list->vH,dictKeys->Sb
open PySem.Builtin.Slice renaming slicePlaces->zh,sliceAdjust->E6,sliceApplied->Q6,slicePartIndex->Tx,sliceFields->Tz
open PySem.Builtin.Tuple renaming tupleExact->zk,tupleItemsOf->TC
open PySem.Builtin.List renaming listTooLong->zo,listLengthHint->Ss,listFitsIndex->TH
open PySem.Builtin.Str renaming strSliceIndices->zA,tooLong->TK
open PySem.SetTable.below renaming go->zG
open PySem.Shared renaming TypeIs->zP
open PyProof.Rows.IsTup renaming new->ET
open PySem.Code renaming isFrame->E1,frames->QY
open LawfulBEq renaming eq_of_beq->Fa
open PySem.Txt renaming slice->Fs
open PySem.SetTable.probe renaming go->FB
open PyProof.Rows.F renaming plain_set_update_loop->FH,entry_set_update_loop->RS
open Prod.mk renaming inj->FM
open PySem.CmpOp renaming In->QL,NotIn->QM
open PySem.Flow renaming next->QS
open PySem.Heap.DictOf renaming new->Rk
open PySem.W.WData renaming int->Ro
open PySem.W.WShape renaming has->Rq
open PySem.W.Dflts renaming none->Rr,noKw->Rs
open PySem.Moved renaming trans->RT
open PySem.Builtin.Dict renaming updateFrom->R9,addKeywords->TQ,pairItems->TR,selfAndRest->TU
open Option.some renaming injEq->Sc,inj->S5
open PySem.Manifest renaming owners->Sh
open String renaming ofList->Si
open PySem.pickOrder renaming go->Sj
open List.Perm renaming append_left->Sk
open List.Sublist renaming nodup->Sz
open PySem.Builtin.Range renaming rangeSize->S6
open PySem.EqNone renaming eq_none_none->S7,eq_none_bool->S8,eq_none_int->S9,eq_none_str->S',eq_bool_none->Ta,eq_int_none->Td,eq_str_none->Tf,ne_none_none->Ti,ne_none_bool->Tj,ne_none_int->Tk,ne_none_str->Tl,ne_bool_none->Tn,ne_int_none->Tp,ne_str_none->Tr
open PySem.EqMixed renaming eq_bool_str->Tc,eq_int_str->Te,eq_str_bool->Tg,eq_str_int->Th,ne_bool_str->To,ne_int_str->Tq,ne_str_bool->Ts,ne_str_int->Tt
open PySem.W.Looks renaming here->Tu
open PySem.Within renaming cons->Tv
open PySem.Heap.IsSliceOf renaming new->TF
open PySem.Builtin.Frozenset renaming newClass->TM,updateFrom->TN,slot0->TW,sizeOf->TX
open PySem.Challenge renaming pw_shopbound_k82_serving_and_moved->TY,rw_shopbound_k82_serving_and_moved->TZ
set_option hygiene false
local macro_rules
|`(.(a))=>`(aF bs ss js us ls ks h)
|`(.(b))=>`(aG bs ss js us ls ks h)
|`(.(c))=>`(bn fun _ _ _ _ _ _ _=>rfl)
|`(.(d))=>`(vC (.int 1))
|`(.(e))=>`(vC (.int 0))
|`(.(f))=>`(by omega)
|`(.(g))=>`(dC (kI V) hr (ai (DO.de (cz rfl .(m) .(aw) (bH (af 0)) ⟨fun _ _ _ _ _=>⟨.(Q),cD,.(t)⟩⟩)) aw) ln1)
|`(.(h))=>`(by decide)
|`(.(i))=>`(vC (.int 3))
|`(.(j))=>`(vC (.int 2))
|`(.(k))=>`(ay rfl (ay rfl aL))
|`(.(l))=>`(vC (.int 4))
|`(.(m))=>`(CompScope.of rfl rfl)
|`(.(n))=>`(Gam C_Shop)
|`(.(o))=>`(aE (vC (.bl ao)))
|`(.(p))=>`(.tail _ (.tail _ (.tail _ (.tail _ (.tail _ (.tail _ (.head _)))))))
|`(.(q))=>`(b2 ixD (vSh 0) .(e))
|`(.(r))=>`(by decide +kernel)
|`(.(s))=>`(aR X.prog X.w)
|`(.(t))=>`(aB (af 0) aq)
|`(.(u))=>`(.lst (ds.map D.int))
|`(.(v))=>`(.str s.nm)
|`(.(w))=>`(ax (aJ 5 (cF dZ (ae (b2 dF (vSh 2) .(i)) (ae (vSh 4) (ae (aI (szF (ae (cF b9 (ae (b2 ixD (vSh 1) .(d)) ak)) (ae (vC (.int 5)) (ae .(l) ak))))) ak))))) (ax (eJ (b6 3 (aT (aA 6) (aT (aA 7) (aT (aA 8) bZ)))) (b2 ixD (b2 ixD (vSh 1) .(d)) (b2 ixD (vSh 5) .(e)))) (ax (eJ (b6 2 (aT (aA 9) (aT (aA 10) bZ))) (gQ 3 (vSh 6))) (ax (sIf (toB (b2 eqD (b2 ixD (vSh 5) .(j)) .(i))) (aJ 9 (b2 ixD (b2 ixD (vSh 8) (b2 bF (b2 ixD (vSh 5) .(d)) (cF b9 (ae (vSh 8) ak)))) .(e))) aK) (fm 3 (vSh 6) (bc (szF (ae (vSh 9) (ae (b2 ic (b2 aX (vSh 10) (b2 ixD (vSh 5) .(d))) .(j)) ak)))))))))
|`(.(x))=>`(ax (aJ 9 (cF io (ae (vSh 2) (ae (b2 cY (b2 ixD (vSh 7) .(d)) (cF kh (ae (b2 eqD (b2 ixD (vSh 7) .(j)) .(e)) ak))) ak)))) (ax (aJ 10 (cF iE (ae .(e) (ae (b2 ic (vSh 2) (b2 cY (b2 ixD (vSh 7) .(l)) (cF kh (ae (b2 eqD (b2 ixD (vSh 7) .(j)) .(d)) ak)))) ak)))) (ax (aJ 8 (b2 aX (slF (vSh 8) (pS (b2 bF (b2 ixD (vSh 7) (vC (.int 5))) .(j))) pN) (slF (vSh 8) pN (pS (b2 bF (b2 ixD (vSh 7) (vC (.int 5))) .(j)))))) (dj 3 (bc (szF (ae (cF ga (ae (b2 aX (vC (.int 70)) (vSh 5)) ak)) (ae (vSh 9) (ae (vSh 10) (ae (b2 eqD (b2 ixD (vSh 7) .(i)) .(d)) (ae (vSh 8) ak)))))))))))
|`(.(y))=>`(t.put (J t.mask Hk n0))
local macro_rules
|`(.(z))=>`(.lst ((ss.filter (cB P now)).map nmD))
|`(.(A))=>`(ax (aJ 6 (b2 ixD (b2 ixD (vSh 1) (b2 bF (b2 ixD (vSh 4) (b2 aX .(d) (b2 cY .(i) (vSh 5)))) (cF b9 .(K)))) .(e))) (ax (aJ 7 (b2 ixD (b2 ixD (vSh 1) (b2 bF (b2 ixD (vSh 4) (b2 aX .(j) (b2 cY .(i) (vSh 5)))) (cF b9 .(K)))) .(e))) (sIf (bwT 3 (cQ (toB (b2 neA (vSh 6) (vSh 7))) (toB (b2 dX (bc (szF (ae (vSh 6) (ae (vSh 7) ak)))) (aI (aZ (itF (vSh 3)) (aA 0) tT (slF (vSh 0) pN (pS .(j))) [ab])))))) (dj 3 (bc (szF (ae (vSh 6) (ae (vSh 7) (ae (cF io (ae (vSh 2) (ae (b2 ixD (vSh 4) (b2 aX .(i) (b2 cY .(i) (vSh 5)))) ak))) ak)))))) aK)))
|`(.(B))=>`(J t.mask (bR knd k) n0)
|`(.(C))=>`(ax (dU 8 (szF (ae (bc (szF (ae (b2 ixD (b2 ixD (vSh 1) (b2 ixD (vSh 7) .(d))) .(e)) (ae (b2 aX .(d) (b2 bF (b2 ixD (vSh 7) .(j)) (vSh 2))) ak)))) ak))) (ax (sIf (cQ (toB (b2 eqD (b2 ixD (vSh 7) .(e)) .(e))) (toB (b2 neA (b2 ixD (vSh 7) .(i)) (b2 ixD (vSh 7) .(d))))) (dj 8 (bc (szF (ae (b2 ixD (b2 ixD (vSh 1) (b2 ixD (vSh 7) .(i))) .(e)) (ae (b2 aX .(d) (b2 bF (b2 ixD (vSh 7) .(l)) (vSh 2))) ak))))) aK) (eQ 8 (dj 4 (bc (szF (ae (cF ga (ae (vSh 5) ak)) (ae (b2 ixD (vC (.str "pqr")) (b2 ixD (vSh 7) (vC (.int 5)))) (ae (vSh 8) ak)))))))))
|`(.(D))=>`(s.heap.push {cls:=.type "set",dict:=ab,data:=.set #[] 0 (.fresh 0 0 led)})
|`(.(E))=>`(ax (sIf (toB (cF jD (ae (aI (aZ (itF (vSh 5)) (aA 0) tT (b2 neA (b2 aO (vSh 1) (vSh 0)) (b2 aO (vSh 2) (vSh 0))) [ab,aa 4,aa 1])) ak))) .(o) aK) (ax (aJ 6 (aI (aZ (itF .(P)) (aA 0) (toB (b2 dX (vSh 0) (vSh 1))) (vSh 0) [ab,aa 5]))) (ax (sIf (toB (cF jD (ae (aI (aZ (itF (vSh 6)) (aA 0) tT (b2 ltD (b2 ixD (b2 aO (vSh 2) (vSh 0)) .(d)) (vSh 1)) [ab,aa 2,aa 4])) ak))) .(o) aK) (aE (b2 leD (b1 mM (cF mW (ae (vSh 0) (ae (vSh 4) ak)))) (vSh 3))))))
|`(.(F))=>`(ax (aJ 7 (aI (aZ (itE (vSh 1)) (b6 2 (aT (aA 0) (aT (aA 1) bZ))) (toB (b2 eqD (b2 bF (b2 dF (b2 aX (b2 ixD (vSh 2) .(l)) (vSh 3)) (b2 ixD (aI (szF (ae .(d) (ae .(j) (ae .(l) ak))))) (b2 bF (vSh 0) .(i)))) .(j)) .(d))) (bc (szF (ae (b2 ixD (vSh 1) .(e)) (ae (b2 aX .(d) (b2 ixD (vSh 2) (vC (.int 6)))) ak)))) [ab,ab,aa 2,aa 4]))) (dj 3 (bc (szF (ae (cF ga (ae (b2 aX (vC (.int 80)) (vSh 4)) ak)) (ae (b2 ixD (vSh 2) .(d)) (ae (vSh 5) (ae (vSh 6) (ae (vSh 7) ak)))))))))
|`(.(G))=>`(x==("__debug__":aj))
|`(.(H))=>`(ax (aJ 8 (cF uT (ae (vSh 6) (ae (vSh 2) (ae (vSh 7) ak))))) (ax (aJ 9 (b2 ixD (aI (szF (ae (vSh 1) (ae (b2 bF (b2 dF (vSh 7) .(j)) (b2 aX (vSh 1) .(d))) ak)))) (b2 bF (vSh 7) .(j)))) (ax (sIf (bD (toB (cF ox (ae (vSh 3) (ae (vSh 2) (ae (vSh 4) (ae (vSh 5) (ae (vSh 9) (ae (vSh 8) ak))))))))) .(o) aK) (sIf (bD (toB (cF ox (ae (vSh 3) (ae (vSh 2) (ae (vSh 6) (ae (b2 bF (b2 dF (vSh 7) .(i)) (b2 aX (vSh 1) .(d))) (ae (vSh 9) (ae (vSh 8) ak))))))))) .(o) aK))))
|`(.(I))=>`(ax (aJ 6 (b2 ixD (b2 ixD (vSh 1) (b2 bF (vSh 4) (cF b9 .(K)))) .(e))) (ax (aJ 7 (bc (szF (ae (vSh 6) (ae (b2 ixD (vC (.str "pqr")) (b2 bF (vSh 4) .(i))) (ae (b2 ixD (vC (.str "pqr")) (b2 bF (b2 aX (vSh 4) (vSh 5)) .(i))) (ae (cF io (ae (vSh 2) (ae (vSh 5) ak))) ak))))))) (sIf (bwT 3 (cQ (toB (b2 gtD (vSh 5) .(e))) (toB (b2 dX (slF (vSh 7) pN (pS .(i))) (aI (aZ (itF (vSh 3)) (aA 0) tT (slF (vSh 0) pN (pS .(i))) [ab])))))) (dj 3 (vSh 7)) aK)))
|`(.(J))=>`(.ListComp elt [⟨tg,iter,ifs,0⟩] scope pos)
|`(.(K))=>`(ae (vSh 1) ak)
|`(.(L))=>`(ax (aJ 5 (b2 aX (b2 ixD (vSh 2) .(d)) (b2 ixD (vSh 2) .(j)))) (ax (aJ 6 (aI (aZ (itE (vSh 1)) (b6 2 (aT (aA 0) (aT (aA 1) bZ))) (toB (b2 eqD (b2 bF (b2 dF (b2 aX (b2 ixD (vSh 2) .(i)) (vSh 3)) (b2 ixD (aI (szF (ae .(d) (ae .(j) (ae .(l) ak))))) (b2 bF (vSh 0) .(i)))) .(j)) .(d))) (bc (szF (ae (b2 ixD (vSh 1) .(e)) (ae (b2 aX .(d) (b2 ixD (vSh 2) (vC (.int 5)))) ak)))) [ab,ab,aa 2,aa 4]))) .(F)))
|`(.(M))=>`(cg t.place (J t.mask h n0))
|`(.(N))=>`(aR prog w)
|`(.(O))=>`(au rfl rfl rfl)
|`(.(P))=>`(cS "Shop" "step_names" gD (vSh 0) ak)
|`(.(Q))=>`(aP 0 (show(["row"]:ac aj).Nodup by decide +kernel))
|`(.(R))=>`(aD (aN cA))
|`(.(S))=>`(ae (vSh 2) ak)
|`(.(T))=>`(ax (aJ 7 (cF dZ (ae (vSh 6) (ae (b2 aX (vSh 5) (vC (.int 17))) (ae (aI (szF (ae .(l) (ae .(i) (ae .(i) (ae .(j) (ae (vC (.int 5)) (ae (vC (.int 7)) ak)))))))) ak))))) (ax (aJ 8 (slF (vSh 4) pN (pS (b2 ixD (vSh 7) .(e))))) (ax (aJ 4 (slF (vSh 4) (pS (b2 ixD (vSh 7) .(e))) pN)) (sIf (toB (b2 neA (vSh 8) (aI (szF ak)))) .(x) aK))))
|`(.(U))=>`(ax (aJ 6 (slF (aI (szF (ae (bc (szF (ae (b2 ixD (vSh 5) .(d)) (ae (b2 ixD (vSh 5) .(j)) ak)))) (ae (bc (szF (ae (b2 ixD (vSh 5) .(i)) (ae (b2 ixD (vSh 5) .(l)) ak)))) (ae (bc (szF (ae (b2 ixD (vSh 5) (vC (.int 5))) (ae (b2 ixD (vSh 5) (vC (.int 6))) ak)))) ak))))) pN (pS (b2 ixD (vSh 5) .(e))))) (dj 2 (bc (szF (ae (cF ga (ae (b2 aX (vC (.int 60)) (vSh 3)) ak)) (ae (cF tJ (ae (vSh 6) .(K))) ak))))))
|`(.(V))=>`(P.filter fun q=>decide (q.2.2<now))
|`(.(W))=>`(ax (aJ 3 (b2 aX (b2 bF (b2 aX (vSh 3) (vSh 0)) (vC (.int 2147483629))) (vC (.int 48271)))) (ax (aJ 3 (b2 aX (vSh 3) (b2 cY (b2 cY (vC (.int 7919)) (b2 aX (vSh 1) (vSh 5))) (b2 aX (vSh 1) (vSh 5))))) (ax (aJ 3 (b2 bF (b2 cY (vSh 3) (vSh 3)) (vC (.int 2147483587)))) (dj 4 (b2 bF (b2 dF (vSh 3) (vC (.int 16))) (vSh 6))))))
|`(.(X))=>`(ax (sIf (toB (b2 gtD (b2 aO (vSh 6) (vSh 7)) (vSh 4))) .(o) aK) (sIf (cQ (toB (b2 fR (vSh 7) (vSh 2))) (toB (b2 ltD (b2 ixD (b2 aO (vSh 2) (vSh 7)) .(d)) (vSh 3)))) (sIf (toB (b2 neA (b2 aO (vSh 5) (vSh 7)) (b2 aO (vSh 2) (vSh 7)))) .(o) aK) (sIf (toB (b2 ltD (b2 ixD (b2 aO (vSh 5) (vSh 7)) .(d)) (vSh 3))) .(o) aK)))
local macro_rules
|`(.(Y))=>`(lp M h r)
|`(.(Z))=>`(b2 ixD (b2 ixD (b2 ixD (vSh 2) .(e)) (b2 ixD (vSh 4) .(l))) .(e))
|`(.(aa))=>`(ai (af 1) aw)
|`(.(ab))=>`(b2 aO (vSh 1) (vSh 3))
|`(.(ac))=>`(dC (ko V) hr (ai (af 0) (ai aq aw)) ln2)
|`(.(ad))=>`(cT I q (by simp))
|`(.(ae))=>`(ae (vSh 6) (ae (b2 aX (vSh 5) (vC (.int 7))) (ae (aI (szF (ae .(i) (ae (cF b9 .(K)) (ae (vSh 3) (ae (cF b9 .(K)) (ae (vSh 3) (ae .(i) ak)))))))) ak)))
|`(.(af))=>`(.lst (js.map bA))
|`(.(ag))=>`(k==nB && env.scope.kind==.function && env.kindOf n==aa .cell)
|`(.(ah))=>`(b2 ixD (vSh 0) .(d))
|`(.(ai))=>`(ae (vSh 0) ak)
|`(.(aj))=>`(ae (aI (aZ (itF (vSh 0)) (aA 0) tT .(q) [ab])) ak)
|`(.(ak))=>`(gH CX0 P w K mg base N qual (aS st) f cdv A outer s H E)
|`(.(al))=>`(.lst (ss.map bJ))
|`(.(am))=>`(.lst (sn.map D.str))
|`(.(an))=>`(dC (iB V) hr (ai (af 0) (ai aq aw)) ln2)
|`(.(ao))=>`(ai (af 2) aw)
|`(.(ap))=>`(x==("__classdict__":aj))
|`(.(aq))=>`(sIf (cQ (toB (b2 ixD (vSh 7) .(i))) (toB (b2 fz (vSh 2) (b2 ixD (vSh 7) .(l))))) (bW (itF (slF (b2 ixD (vSh 7) .(l)) pN (pS (mF rK (b2 ixD (vSh 7) .(l)) .(S))))) (aA 8) (aJ 3 (cF iE (ae (vSh 3) (ae (b3 jd (vSh 1) (vSh 8) .(e)) ak))))) aK)
|`(.(ar))=>`(ax (aJ 7 (b2 geD (b2 ixD (b2 aO (vSh 1) (vSh 4)) .(d)) (b2 aO (vSh 2) (vSh 5)))) (sIf (cQ (bD (toB (vSh 6))) (orT (toB (b2 ixD (vSh 3) .(i))) (bD (toB (vSh 7))))) (aE (bc (szF (ae (vC (.str "apart")) (ae (vSh 4) (ae (vSh 5) ak)))))) aK))
|`(.(as))=>`(.Call (.Name x p) (e::es) [] pos)
|`(.(au))=>`(aT (aA 5) (aT (aA 6) bZ))
|`(.(av))=>`(aT (aA 4) (aT (aA 5) bZ))
|`(.(aw))=>`(FvOk.of (N':=["row"]) (fv:=[ab]) rfl)
|`(.(ax))=>`(A.deeper (eX qual (aS st) s.heap.objs.size f cdv))
local macro_rules
|`(.(ay))=>`(sIf (toB (b2 leD (vSh 7) (vSh 1))) (ax (dj 2 (bc (szF (ae (vSh 6) (ae (vSh 7) ak))))) (aJ 3 (b2 aX (vSh 7) .(d)))) aK)
|`(.(az))=>`(show(["_law_j","_law_step","_law_row","_law_k"]:ac aj).Nodup by decide +kernel)
|`(.(aA))=>`(s.heap.objs.size+1)
|`(.(aB))=>`(.lst (bs.map cx))
|`(.(aC))=>`(ae (vSh 3) ak)
set_option bootstrap.genMatcherCode false
theorem oBd {α:Type u} {β:Type v} {o:ar α} {f:α->ar β} {b:β} (h:o.bind f=aa b):∃a,o=aa a/\f a=aa b:=Option.bind_eq_some_iff.mp h
theorem oMd {α:Type u} {β:Type v} {o:ar α} {f:α->β} {b:β} (h:o.map f=aa b):∃a,o=aa a/\f a=b:=Option.map_eq_some_iff.mp h
noncomputable section
section
open PySem PySem.Spec PyProof.Rows
noncomputable def qc:=@Option.bind_some
noncomputable def qd:=@List.getElem?_cons_zero
noncomputable def qe:=@List.getElem?_cons_succ
noncomputable def qf:=@Option.map_some
noncomputable def qg:=@List.length_map
noncomputable def qh:=@List.mem_cons_self
noncomputable def qi:=@List.mem_cons_of_mem
noncomputable def qj:=@List.length_cons
noncomputable def qk:=@List.length_append
noncomputable def ql:=@List.getElem?_map
noncomputable def qm:=@List.length_nil
noncomputable def qo:=@List.map_cons
noncomputable def qp:=@List.map_map
noncomputable def qq:=@List.cons_append
noncomputable def qr:=@Bool.false_eq_true
noncomputable def qt:=@Bool.false_ne_true
noncomputable def qu:=@Heap.get?_push_of_some
noncomputable def qv:=@Heap.lt_size
noncomputable def qw:=@Nat.le_refl
noncomputable def qx:=@wpAny_bind
noncomputable def qy:=@List.getElem?_append_left
noncomputable def qz:=@wpAny_pure
noncomputable def qA:=@List.size_toArray
noncomputable def qB:=@Nat.ne_of_lt
noncomputable def qC:=@List.getElem?_eq_getElem
noncomputable def qD:=@List.length_take
noncomputable def qE:=@Nat.lt_of_lt_of_le
noncomputable def qF:=@Heap.get?_push_size
noncomputable def qG:=@S5
noncomputable def qH:=@Array.getElem?_toList
noncomputable def qI:=@List.not_mem_nil
noncomputable def qJ:=@List.getElem?_append_right
noncomputable def qK:=@c0
noncomputable def qL:=@Nat.le_trans
noncomputable def qM:=@decide_eq_false
noncomputable def qN:=@List.map_nil
noncomputable def qO:=@List.mem_of_getElem?
noncomputable def qP:=@List.mem_append_right
noncomputable def qQ:=@List.nil_append
noncomputable def qR:=@decide_eq_true
noncomputable def qS:=@wpAny_holding
noncomputable def qT:=@List.length_range
noncomputable def qU:=@Int.emod_lt_of_pos
noncomputable def qV:=@List.length_singleton
noncomputable def qW:=@List.mem_map_of_mem
noncomputable def qX:=@Int.emod_nonneg
noncomputable def qY:=@if_pos
noncomputable def qZ:=@if_neg
end
section
namespace L2
open PySem PySem.Spec PyProof.Rows
noncomputable abbrev Key:=Sum ag aj
noncomputable def oN:Key->Value->aQ
 |.inl k,v=>yS k v
 |.inr x,v=>QH x v
noncomputable def L0 (w:cR):Key->ag
 |.inl k=>hashInt k
 |.inr x=>hashStr w x
theorem i0:∀{k:Key} {v:Value},oN k v=ah->(∃i t,k=o4 i/\v=c4 i t)\/(∃x t,k=cG x/\v=rV x t)
 |.inl i,v,h=>by
  obtain⟨t,e⟩:=Value.isInt_shape (k:=i) (v:=v) h;exact .inl ⟨i,t,rfl,e⟩
 |.inr x,v,h=>by obtain⟨t,e⟩:=Value.isStrOf_shape (x:=x) (v:=v) h;exact .inr ⟨x,t,rfl,e⟩
theorem Ig (i:ag) (t:Tok):oN (.inl i) (.int i t)=ah:=by simp[oN,yS]
theorem HY (x:aj) (t:Tok):oN (.inr x) (.str x t)=ah:=by simp[oN,QH]
theorem Mn (a b:ag):decide ((o4 a:Key)=o4 b)=(a==b):=by
 by_cases e:a=b
 .subst e;simp
 .have h:¬(o4 a:Key)=o4 b:=fun q=>e (Sum.inl.inj q);rw[qM h];exact(ng.mpr e).symm
theorem Qo (a b:aj):decide ((cG a:Key)=cG b)=decide (a=b):=by
 by_cases e:a=b
 .subst e;simp
 .have h:¬(cG a:Key)=cG b:=fun q=>e (gF q);rw[qM h,qM e]
theorem Mu (a:ag) (b:aj):decide ((o4 a:Key)=cG b)=ao:=qM (fun q=>nomatch q)
theorem Qv (a:aj) (b:ag):decide ((cG a:Key)=o4 b)=ao:=qM (fun q=>nomatch q)
noncomputable def cP (prog:bV) (w:cR):PySem.KeyKind prog w Key where
 is:=oN
 hash:=L0 w
 inj:=fun v a b ha hb=>by
  rcases i0 ha with⟨i,t,rfl,rfl⟩|⟨x,t,rfl,rfl⟩
  .rcases i0 hb with⟨j,u,rfl,e⟩|⟨y,u,rfl,e⟩
   .injection e with e1 _;rw[e1]
   .exact nomatch e
  .rcases i0 hb with⟨j,u,rfl,e⟩|⟨y,u,rfl,e⟩
   .exact nomatch e
   .injection e with e1 _;rw[e1]
 byValue:=fun k v h=>by rcases i0 h with⟨i,t,rfl,rfl⟩|⟨x,t,rfl,rfl⟩<;>rfl
 pyHash:=fun hv h=>by
  rcases i0 hv with⟨i,t,rfl,rfl⟩|⟨x,t,rfl,rfl⟩
  .exact wpAny_pyHash_int h
  .exact wpAny_pyHash_str h
 eqBool:=fun hu hv h=>by
  rcases i0 hu with⟨i,t,rfl,rfl⟩|⟨x,t,rfl,rfl⟩
  .rcases i0 hv with⟨j,u,rfl,rfl⟩|⟨y,u,rfl,rfl⟩
   .rw[Mn] at h;exact wpAny_eqBool_int h
   .rw[Mu] at h;exact SeqAt.EqAt.int_str i t y u _ _ _ _ h
  .rcases i0 hv with⟨j,u,rfl,rfl⟩|⟨y,u,rfl,rfl⟩
   .rw[Qv] at h;exact SeqAt.EqAt.str_int x t j u _ _ _ _ h
   .rw[Qo] at h;exact wpAny_eqBool_str h
 «strs»:=fun k x t v h=>by
  rcases i0 h with⟨i,u,rfl,e⟩|⟨y,u,rfl,e⟩
  .exact nomatch e
  .injection e with e1 _;subst e1;cases v<;>rfl
theorem IK (prog:bV) (w:cR) (i:ag) (t:Tok):(cP prog w).is (.inl i) (.int i t)=ah:=Ig i t
theorem PY (prog:bV) (w:cR) (x:aj) (t:Tok):(cP prog w).is (.inr x) (.str x t)=ah:=HY x t
inductive V where
 |non|bl (b:aQ)|int (i:ag)|str (x:aj)|byt (b:bQ UInt8)|flt (b:UInt64)|ref (a:av)|ty (n:dq)
 deriving eV
noncomputable def bI:V->Value->Prop
 |.non,u=>u=o5
 |.bl b,u=>u=jV b
 |.int i,u=>∃t,u=c4 i t
 |.str x,u=>∃t,u=rV x t
 |.byt b,u=>∃t,u=QI b t
 |.flt b,u=>∃t,u=EI b t
 |.ref a,u=>u=cm a
 |.ty n,u=>u=lM n
noncomputable abbrev bO:ac V->ac Value->Prop:=Paired bI
theorem bO.length {xs:ac V} {us:ac Value} (r:bO xs us):xs.length=us.length:=Paired.length r
theorem bO.get:∀{xs:ac V} {us:ac Value} {i:al} {x:V},bO xs us->xs[i]?=aa x->∃u,us[i]?=aa u/\bI x u
 |_,_,_,_,.nil,e=>by simp at e
 |_,_,0,_,.cons r _,e=>by simp at e;subst e;exact⟨_,rfl,r⟩
 |_,_,i+1,x,.cons _ t,e=>by obtain⟨u,h1,h2⟩:=bO.get (i:=i) (x:=x) t (by simpa using e);exact⟨u,by simpa using h1,h2⟩
theorem bO.append:∀{xs ys:ac V} {us ws:ac Value},bO xs us->bO ys ws->bO (xs++ys) (us++ws)
 |_,_,_,_,.nil,s=>s
 |_,_,_,_,.cons r t,s=>.cons r (bO.append t s)
theorem bO.take:∀{xs:ac V} {us:ac Value} (n:al),bO xs us->bO (xs.take n) (us.take n)
 |_,_,0,_=>.nil
 |_,_,_+1,.nil=>.nil
 |_,_,n+1,.cons r t=>.cons r (bO.take n t)
theorem bO.drop:∀{xs:ac V} {us:ac Value} (n:al),bO xs us->bO (xs.drop n) (us.drop n)
 |_,_,0,r=>r
 |_,_,_+1,.nil=>.nil
 |_,_,n+1,.cons _ t=>bO.drop n t
noncomputable def eC:ar V->ar Value->Prop
 |some v,aa u=>bI v u
 |none,ab=>True
 |_,_=>False
variable {κ:Type}
noncomputable def KV :ac (κ×V)->ac (κ×Value)->Prop:=Paired fun(p:κ×V) (q:κ×Value)=>p.1=q.1/\bI p.2 q.2
noncomputable def kV:Key->V
 |.inl i=>.int i
 |.inr x=>.str x
inductive HO where
 |lst (xs:ac V)
 |tup (xs:ac V)
 |dK (kvs:ac (Key×V))|dT (kvs:ac (ac Key×V))
 |set (S:ag->aQ) (n:al)
 |ins (C dx:av) (fs:ac (aj×V))
 |own (x:av)
 |xd (fs:ac (aj×V))
 |met (f x:av)
 |rng (lo hi:ag)
 |frz (o:bf) (u:HO)
 |tbl (ps:bQ Value)
 |ext (φ:Heap->Prop)
noncomputable abbrev Hp:=av->ar HO
noncomputable def upd (H:Hp) (a:av) (o:HO):Hp:=fun b=>if b=a then aa o else H b
variable {H:Hp} {a:av}
theorem ca {o:HO} :upd H a o a=aa o:=by unfold upd;rw[qY rfl]
theorem a7 {b:av} {o:HO} (h:b≠a):upd H a o b=H b:=by unfold upd;rw[qZ h]
theorem CI {o u:HO} :upd (upd H a o) a u=upd H a u:=by
 funext b;unfold upd;split<;>rfl
theorem wv {b:av} {o u:HO} (h:H a=aa o) (h':H b=aa u) (d:o≠u):a≠b:=by intro e;subst e;rw[h] at h';exact d (qG h')
theorem ck {b:av} {o:HO} (h:H a=aa o) (h':H b=ab):a≠b:=by intro e;subst e;rw[h] at h';cases h'
section
variable (P:bV) (w:cR)
noncomputable def cX (H:Hp) (h:Heap) (a:av):HO->Prop
 |.lst xs=>xs.length<=aW/\∃(its:ac Value) (n:al),bO xs its/\h.get? a=aa {cls:=.type "list",data:=.seq its.toArray n}
 |.tup xs=>xs.length<=aW/\∃its:ac Value,bO xs its/\IsTup h a its.toArray
 |.dK kvs=>kvs.length<=aW/\(a==kJ)=ao/\∃vs,KV kvs vs/\h.DictOf (cP P w) a vs
 |.dT kvs=>kvs.length<=aW/\(a==kJ)=ao/\∃xs:ac (ac Key×av×Value),
   Paired (fun(p:ac Key×V) (q:ac Key×av×Value)=>p.1=q.1/\H q.2.1=aa (.tup (p.1.map kV))/\bI p.2 q.2.2) kvs xs /\
   ∃o es ep,h.get? a=aa o/\o.ExactDict/\o.data=.dict es ep/\es.toList=xs.map (entryOfKey (kK (cP P w)))/\(xs.map (·.1)).Nodup
 |.set S n=>h.SetOf (eK P w) a S n
 |.ins C dx fs=>H dx=aa (.own a)/\fs.length<=1000/\dx≠a/\h.get? a=aa (nh C dx) /\
   ∃mA,h.Ns1 dx mA/\(∀f,eC (fs.lookup f) (mA f))/\EJ mA (fs.map (·.1))
 |.own _=>∃o,h.get? a=aa o
 |.xd fs=>∃mA,h.Ns1 a mA/\∀f,eC (fs.lookup f) (mA f)
 |.rng lo hi=>∃t u v,h.get? a=aa {cls:=.type "range",data:=.fields #[.int lo t,.int hi u,.int 1 v]}
 |.frz o u=>h.get? a=aa o/\cX H h a u
 |.tbl ps=>h.get? a=aa {cls:=.none,data:=.fields ps}
 |.met f x=>h.get? a=aa (EK (.ref f) (.ref x))
 |.ext φ=>φ h/\(∃o,h.get? a=aa o)/\∀h1 h2:Heap,φ h1->(∀o,h1.get? a=aa o->h2.get? a=aa o)->φ h2
noncomputable def HOk (H:Hp) (h:Heap):Prop:=∀a o,H a=aa o->cX P w H h a o
end
variable {w:cR} {H':Hp} {h':Heap}
section
variable {P:bV} {h:Heap} {o:HO}
theorem cX.lt (x:cX P w H h a o):a<h.objs.size:=by
 cases o with
 |lst xs=>obtain⟨_,_,_,_,e⟩:=x;exact qv e
 |tup xs=>obtain⟨_,_,_,p⟩:=x;exact p.lt
 |dK kvs=>obtain⟨_,_,_,_,o,_,_,e,_⟩:=x;exact qv e
 |dT kvs=>obtain⟨_,_,_,_,o,_,_,e,_⟩:=x;exact qv e
 |set S n=>obtain⟨o,_,_,_,e,_⟩:=x;exact qv e
 |ins C dx fs=>obtain⟨_,_,_,e,_⟩:=x;exact qv e
 |own y=>obtain⟨_,e⟩:=x;exact qv e
 |xd fs=>obtain⟨_,⟨_,_,_,e,_⟩,_⟩:=x;exact qv e
 |rng lo hi=>obtain⟨_,_,_,e⟩:=x;exact qv e
 |frz ob u=>obtain⟨e,_⟩:=x;exact qv e
 |tbl ps=>exact qv (show h.get? a=aa _ from x)
 |met f y=>exact qv (show h.get? a=aa _ from x)
 |ext φ=>obtain⟨_,⟨_,e⟩,_⟩:=x;exact qv e
theorem Paired.mapP {α β:Type} {F G:α->β->Prop}:∀{l₁:ac α} {l₂:ac β},Paired F l₁ l₂->(∀a b,F a b->G a b)->Paired G l₁ l₂
 |_,_,.nil,_=>.nil
 |_,_,.cons r t,f=>.cons (f _ _ r) (Paired.mapP t f)
theorem cX.stay (x:cX P w H h a o) (k:∀b u,(b=a\/H b=aa (.own a))->h.get? b=aa u->h'.get? b=aa u)
  (ho:∀b,H b=aa (.own a)->H' b=aa (.own a)) (ht:∀b xs,H b=aa (.tup xs)->H' b=aa (.tup xs)):cX P w H' h' a o:=by
 induction o with
 |lst xs=>obtain⟨z,its,n,r,e⟩:=x;exact⟨z,its,n,r,k _ _ (.inl rfl) e⟩
 |tup xs=>obtain⟨z,its,r,ob,e,c⟩:=x;exact⟨z,its,r,ob,k _ _ (.inl rfl) e,c⟩
 |dK kvs=>obtain⟨z,y,vs,r,ob,es,ep,e,c⟩:=x;exact⟨z,y,vs,r,ob,es,ep,k _ _ (.inl rfl) e,c⟩
 |dT kvs=>
  obtain⟨z,y,xs,r,ob,es,ep,e,c⟩:=x;exact⟨z,y,xs,Paired.mapP r fun p q z=>⟨z.1,ht _ _ z.2.1,z.2.2⟩,ob,es,ep,k _ _ (.inl rfl) e,c⟩
 |set S n=>obtain⟨ob,es,ep,t,e,c⟩:=x;exact⟨ob,es,ep,t,k _ _ (.inl rfl) e,c⟩
 |ins C dx fs=>
  obtain⟨d,z,ne,e,mA,⟨od,es,ep,e2,c⟩,r⟩:=x;exact⟨ho _ d,z,ne,k _ _ (.inl rfl) e,mA,⟨od,es,ep,k _ _ (.inr d) e2,c⟩,r⟩
 |own y=>obtain⟨ob,e⟩:=x;exact⟨ob,k _ _ (.inl rfl) e⟩
 |xd fs=>obtain⟨mA,⟨od,es,ep,e,c⟩,r⟩:=x;exact⟨mA,⟨od,es,ep,k _ _ (.inl rfl) e,c⟩,r⟩
 |rng lo hi=>obtain⟨t,u,v,e⟩:=x;exact⟨t,u,v,k _ _ (.inl rfl) e⟩
 |frz ob u ih=>obtain⟨e,q⟩:=x;exact⟨k _ _ (.inl rfl) e,ih q⟩
 |tbl ps=>
  have e:h.get? a=aa {cls:=.none,data:=.fields ps}:=x;show h'.get? a=aa {cls:=.none,data:=.fields ps};exact k a _ (.inl rfl) e
 |met f y=>
  have e:h.get? a=aa (EK (.ref f) (.ref y)):=x;show h'.get? a=aa (EK (.ref f) (.ref y));exact k a _ (.inl rfl) e
 |ext φ=>obtain⟨p,⟨o,e⟩,st⟩:=x;exact⟨st _ _ p fun o q=>k _ _ (.inl rfl) q,⟨o,k _ _ (.inl rfl) e⟩,st⟩
theorem HOk.lt (x:HOk P w H h) (e:H a=aa o):a<h.objs.size:=(x a o e).lt
theorem HOk.fresh (x:HOk P w H h) (e:h.objs.size<=a):H a=ab:=by
 cases q:H a with
 |none=>rfl
 |some u=>exact bK (qE (x.lt q) e) (kL _)
theorem HOk.kept (x:HOk P w H h) (k:∀b u,h.get? b=aa u->h'.get? b=aa u):HOk P w H h':=fun a o e=>
 (x a o e).stay (fun b u _ q=>k b u q) (fun _ q=>q) fun _ _ q=>q
theorem HOk.laid (x:HOk P w H h) (k:∀b u,h.get? b=aa u->h'.get? b=aa u) (hp:h.objs.size<=a) (new:cX P w (upd H a o) h' a o):HOk P w (upd H a o) h':=fun b u e=>by
 have hn:=x.fresh hp;by_cases hb:b=a
 .subst hb;rw[ca] at e;cases e;exact new
 .rw[a7 hb] at e;exact(x b u e).stay (fun c v _ q=>k c v q) (fun c q=>by rw[a7 (ck q hn)];exact q) fun c xs q=>by rw[a7 (ck q hn)];exact q
end
noncomputable def Rd (H:Hp) (a:av) (u:HO):Prop:=H a=aa u\/∃o,H a=aa (.frz o u)
theorem Rd.ok {P:bV} {h:Heap} {u:HO} (r:Rd H a u) (x:HOk P w H h):cX P w H h a u:=by
 rcases r with r|⟨o,r⟩
 .exact x a u r
 .obtain⟨_,q⟩:=x a _ r;exact q
noncomputable def Mut:ar HO->Prop
 |some (.lst _)=>True
 |some (.dK _)=>True
 |some (.dT _)=>True
 |some (.set _ _)=>True
 |some (.ins _ _ _)=>True
 |some (.ext _)=>True
 |_=>False
section
variable {P:bV} {h:Heap} {x e:av} {o':HO}
theorem HOk.write (ok:HOk P w H h) (mu:Mut (H x)) (he:e=x\/H e=aa (.own x)) (k:∀b u,b≠e->h.get? b=aa u->h'.get? b=aa u) (heo:∃u,h'.get? e=aa u)
  (new:cX P w (upd H x o') h' x o'):HOk P w (upd H x o') h':=fun b u q=>by
 have nown:∀c y,H c=aa (.own y)->c≠x:=fun c y r z=>by subst z;rw[r] at mu;exact mu
 have ntup:∀c xs,H c=aa (.tup xs)->c≠x:=fun c xs r z=>by subst z;rw[r] at mu;exact mu
 by_cases hb:b=x
 .subst hb;rw[ca] at q;cases q;exact new
 .rw[a7 hb] at q;by_cases hbe:b=e
  .have q':H b=aa (.own x):=by
    rcases he with z|z
    .exact bK (hbe.trans z) hb
    .rw[hbe];exact z
   rw[q] at q';cases q';obtain⟨v,hv⟩:=heo;exact⟨v,by rw[hbe];exact hv⟩
  .refine(ok b u q).stay (fun c v hc r=>k c v ?_ r) (fun c r=>by rw[a7 (nown c b r)];exact r) fun c xs r=>by rw[a7 (ntup c xs r)];exact r
   rcases hc with rfl|hc
   .exact hbe
   .rintro rfl;rcases he with z|z
    .exact nown c b hc z
    .rw[hc] at z;cases z;exact hb rfl
end
structure Un (fs ex:ac av) (H H':Hp) (h h':Heap):Prop where
 keep:∀b o,h.get? b=aa o->H b=ab->b∉fs->b∉ex->h'.get? b=aa o
 slot:∀b o,h.get? b=aa o->H b=ab->b∈fs->b∉ex->∃sl,h'.get? b=aa {o with slots:=sl}
 free:∀b o,h.get? b=aa o->H b=ab->b∉ex->H' b=ab
 there:∀b o,h.get? b=aa o->b∉ex->∃o',h'.get? b=aa o'
 tups:∀b xs,H b=aa (.tup xs)->H' b=aa (.tup xs)
 frzs:∀b o u,H b=aa (.frz o u)->H' b=aa (.frz o u)
 tbls:∀b ps,H b=aa (.tbl ps)->∃more,H' b=aa (.tbl (ps++more))
variable {H1 H2:Hp}
section
variable {fs fs' ex ex':ac av} {h h1 h2:Heap} {x e:av} {o:HO}
theorem Un.any (u:Un fs ex H H1 h h1) {b:av} {ob:bf} (q:h.get? b=aa ob) (n:H b=ab) (hx:b∉ex):∃sl,h1.get? b=aa {ob with slots:=sl}:=by
 by_cases hb:b∈fs
 .exact u.slot b ob q n hb hx
 .exact⟨ob.slots,u.keep b ob q n hb hx⟩
theorem Un.kept (k:∀b u,h.get? b=aa u->h'.get? b=aa u):Un fs ex H H h h':=
 ⟨fun b ob q _ _ _=>k b ob q,fun b ob q _ _ _=>⟨ob.slots,k b ob q⟩,fun _ _ _ n _=>n,fun b ob q _=>⟨ob,k b ob q⟩,fun _ _ q=>q,fun _ _ _ q=>q,fun _ ps q=>⟨#[],by rw[q];simp⟩⟩
theorem Un.refl:Un fs ex H H h h:=Un.kept fun _ _ q=>q
theorem Un.laid (k:∀b u,h.get? b=aa u->h'.get? b=aa u) (hp:h.objs.size<=a) (hn:H a=ab):Un fs ex H (upd H a o) h h' where
 keep:=fun b u q _ _ _=>k b u q
 slot:=fun b u q _ _ _=>⟨u.slots,k b u q⟩
 free:=fun b u q n _=>by rw[a7 (qB (qE (qv q) hp))];exact n
 there:=fun b u q _=>⟨u,k b u q⟩
 tups:=fun b xs q=>by rw[a7 (ck q hn)];exact q
 frzs:=fun b u xs q=>by rw[a7 (ck q hn)];exact q
 tbls:=fun b ps q=>⟨#[],by rw[a7 (ck q hn),q];simp⟩
theorem Un.write (mu:Mut (H x)) (he:e=x\/H e=aa (.own x)) (k:∀b u,b≠e->h.get? b=aa u->h'.get? b=aa u) (heo:∃u,h'.get? e=aa u):Un fs ex H (upd H x o) h h':=by
 have hx:∀b,H b=ab->b≠x:=fun b n z=>by subst z;rw[n] at mu;exact mu
 have hb:∀b,H b=ab->b≠e:=fun b n z=>by
  subst z;rcases he with r|r
  .exact hx b n r
  .rw[n] at r;cases r
 have hm:∀b u,H b=aa u->¬Mut (aa u)->b≠x:=fun b u q nm z=>by subst z;rw[q] at mu;exact nm mu
 refine⟨fun b u q n _ _=>k b u (hb b n) q,fun b u q n _ _=>⟨u.slots,k b u (hb b n) q⟩,fun b u q n _=>by rw[a7 (hx b n)];exact n,fun b u q _=>?_,
  fun b xs q=>by rw[a7 (hm b _ q fun z=>z)];exact q,fun b u xs q=>by rw[a7 (hm b _ q fun z=>z)];exact q,fun b ps q=>⟨#[],by rw[a7 (hm b _ q fun z=>z),q];simp⟩⟩
 by_cases hbe:b=e
 .subst hbe;exact heo
 .exact⟨u,k b u hbe q⟩
end
noncomputable def trk (h:Heap) (H:Hp):ac av:=(cV h.objs.size).filter fun a=>(H a).isSome
noncomputable def kz (h:Heap) (H:Hp):Heap:=PySem.W.hideAll h (trk h H)
theorem MZ (h:Heap) (H:Hp):(kz h H).objs.size=h.objs.size:=PySem.W.hideAll_size _ _
theorem ON {h:Heap} {b:av} {o:bf} (e:h.get? b=aa o) (n:H b=ab):(kz h H).get? b=aa o:=
 PySem.W.hideAll_get _ e fun hm=>by have q:(H b).isSome=ah:=(c7.mp hm).2;rw[n] at q;simp at q
theorem N8 {h:Heap} {b:av} {o:bf} (e:(kz h H).get? b=aa o):h.get? b=aa o/\H b=ab:=by
 have e':h.get? b=aa o:=PySem.W.of_hideAll (trk h H) e;refine⟨e',?_⟩;cases q:H b with
 |none=>rfl
 |some x=>
  have hm:b∈trk h H:=c7.mpr ⟨fB.mpr (qv e'),by simp[q]⟩;have z:(kz h H).get? b=ab:=PySem.W.hideAll_none (trk h H) hm;rw[z] at e;cases e
noncomputable def Nr (g h:Heap) (L:av):ac (av×bf):=(cV h.objs.size).filterMap fun a=>if a=L\/(g.get? a).isSome=ah then ab else (h.get? a).map fun o=>(a,o)
noncomputable def cc (g h:Heap) (L d:av):ac (av×bf):=(Nr g h L).filter fun p=>decide (p.1≠d)
structure Mod (K:bu) (mg:aj->ar Value) (base:Heap):Prop where
 kin:K.In base
 glob:base.Ns gd mg
 blt:∃mb,base.Ns EL mb/\∀x:aj,x≠"__name__"->mb x=lN x
 nolimit:base.NoLimit
structure Cx where
 prog:bV
 w:cR
 K:bu
 mg:aj->ar Value
 base:Heap
 A:dB
 N:ac aj
 s₀:aH
 H₀:Hp
 env:c8
 outer:ac c8
 stack:ac c8
 ex:ac av
 fn:aj->aQ
 calm:aQ
 pn:ac (av×bf)
 xe:Value->aH->Prop
noncomputable def frs (l:ac c8):ac av:=l.filterMap (·.frame)
noncomputable abbrev Cx.fs (X:Cx):ac av:=frs X.outer
noncomputable def Vis (sc:Scope) (x:aj):Prop:=sc.names.lookup x=aa .local\/sc.names.lookup x=aa .cell\/sc.names.lookup x=aa .free
noncomputable def Loc (sc:Scope) (x:aj):Prop:=sc.names.lookup x=aa .local\/sc.names.lookup x=aa .cell
noncomputable def Ke (env:c8) (h:Heap) (m:aj->ar Value) (x:aj) (u:Value):Prop:=
 (env.kindOf x=aa .local/\m x=aa u)\/((env.kindOf x=aa .cell\/env.kindOf x=aa .free)/\∃c,env.cells.lookup x=aa c/\h.IsCell c (aa u))
structure Cx.Ok (X:Cx):Prop where
 mod:Mod X.K X.mg X.base
 kind:X.env.scope.kind=.function
 glob:X.env.globals=gd
 blt:X.env.builtins=EL
 above:X.s₀.heap.objs.size<=X.env.locals
 inj:∀x y c,X.env.cells.lookup x=aa c->X.env.cells.lookup y=aa c->x=y
 has:∀x,(X.env.kindOf x=aa .cell\/X.env.kindOf x=aa .free)->∃c,X.env.cells.lookup x=aa c
 cab:∀x c,X.fn x=ah->X.env.cells.lookup x=aa c->X.s₀.heap.objs.size<=c
 hd:X.calm=ah->X.A.handled=ab
 frames:X.A.frames=aa X.stack
 stk:X.stack=X.outer\/(X.stack=X.env::X.outer/\X.env.frame=aa X.env.locals)
 exf:∀b∈X.ex,b≠X.env.locals/\∀x c,X.env.cells.lookup x=aa c->c≠b
 bs:∀b o,X.base.get? b=aa o->X.s₀.heap.get? b=aa o/\X.H₀ b=ab
 bsz:X.base.objs.size<=X.s₀.heap.objs.size
 noex:∀b o,X.base.get? b=aa o->b∉X.ex
 exfs:∀b∈X.ex,b∉X.fs
 funs:X.s₀.heap.FunFrames X.base X.outer
 frf:∀b∈X.fs,X.H₀ b=ab
structure Inv (X:Cx) (pins:ac (av×bf)) (σ:ac (ar V)) (H:Hp) (s:aH):Prop where
 ok:X.Ok
 os:s.os=X.s₀.os
 bare:kM s.gens
 base:Un X.fs X.ex X.H₀ H X.s₀.heap s.heap
 loc:∃m,s.heap.Ns X.env.locals m/\∀(i:al) (x:aj) (v:V),X.N[i]?=aa x->σ[i]?=aa (aa v)->Vis X.env.scope x->∃u,bI v u/\Ke X.env s.heap m x u
 cell:∀x c,X.env.cells.lookup x=aa c->∃v,s.heap.IsCell c v
 free:H X.env.locals=ab
 freeC:∀x c,X.env.cells.lookup x=aa c->H c=ab
 pin:∀p∈X.pn++pins,s.heap.get? p.1=aa p.2/\H p.1=ab/\p.1≠X.env.locals/\p.1∉X.fs/\∀v,p.2.data≠.cell v
 hok:HOk X.prog X.w H s.heap
 len:σ.length=X.N.length
variable {X:Cx} {pins:ac (av×bf)} {s s':aH} {t' i j:al} {d':Drawn} {N:ac aj} {x:aj} {A:dB} {v:V} {u:Value}
section
variable {σ:ac (ar V)}
theorem Cx.Ok.nofr (ok:X.Ok) {b:av} {o:bf} (e:X.base.get? b=aa o):b∉X.fs:=fun hb=>by have:=(ok.funs.mem hb).1;rw[e] at this;cases this
theorem Inv.bs (I:Inv X pins σ H s):∀b o,X.base.get? b=aa o->s.heap.get? b=aa o/\H b=ab:=fun b o e=>
 ⟨I.base.keep b o (I.ok.bs b o e).1 (I.ok.bs b o e).2 (I.ok.nofr e) (I.ok.noex b o e),I.base.free b o (I.ok.bs b o e).1 (I.ok.bs b o e).2 (I.ok.noex b o e)⟩
theorem Inv.bk (I:Inv X pins σ H s):∀b o,X.base.get? b=aa o->s.heap.get? b=aa o:=fun b o e=>(I.bs b o e).1
theorem Inv.mod (I:Inv X pins σ H s):Mod X.K X.mg X.base:=I.ok.mod
theorem Inv.kIn (I:Inv X pins σ H s):X.K.In s.heap:=I.ok.mod.kin.keeps I.bk
theorem Inv.lt (I:Inv X pins σ H s):X.env.locals<s.heap.objs.size:=let ⟨_,hn,_⟩:=I.loc;hn.lt
theorem Inv.sz (I:Inv X pins σ H s):X.s₀.heap.objs.size<=s.heap.objs.size:=qL I.ok.above (rW I.lt)
theorem Inv.nofs (I:Inv X pins σ H s) (h:s.heap.objs.size<=a):a∉X.fs:=fun hb=>by obtain⟨_,o,ho,_⟩:=I.ok.funs.mem hb;exact bK (qE (qv ho) (qL I.sz h)) (kL _)
theorem Inv.cne (I:Inv X pins σ H s):∀x c,X.env.cells.lookup x=aa c->c≠X.env.locals:=fun x c e z=>by obtain⟨v,o,ho,hd⟩:=I.cell x c e;obtain⟨m,⟨o',es,ep,ho',hd',_⟩,_⟩:=I.loc;rw[z,ho'] at ho;cases ho;rw[hd'] at hd;cases hd
theorem Inv.funs (I:Inv X pins σ H s):s.heap.FunFrames X.base X.outer:=by
 have all:∀(l:ac c8),(∀b∈frs l,b∈X.fs)->X.s₀.heap.FunFrames X.base l->s.heap.FunFrames X.base l:=by
  intro l
  induction l with
  |nil=>intro _ _;trivial
  |cons env r ih=>
   intro hs hl;obtain⟨hk,⟨L,o,hf,hn,ho,hd⟩,hr⟩:=hl;have hL:L∈X.fs:=hs L (by unfold frs;rw[vk,hf];exact qh);obtain⟨sl,e⟩:=I.base.slot L o ho (I.ok.frf L hL) hL fun z=>I.ok.exfs L z hL;exact⟨hk,⟨L,_,hf,hn,e,hd⟩,ih (fun b hb=>hs b (by unfold frs;rw[vk,hf];exact qi _ hb)) hr⟩
 exact all X.outer (fun _ hb=>hb) I.ok.funs
theorem Inv.stack (I:Inv X pins σ H s):s.heap.FunFrames X.base X.stack:=by
 rcases I.ok.stk with e|⟨e,hf⟩
 .rw[e];exact I.funs
 .rw[e];obtain⟨m,hn,_⟩:=I.loc;refine .cons (by rw[I.ok.kind];decide) hf hn ?_ I.funs;exact Heap.get?_none_of_le (qL I.ok.bsz I.ok.above)
theorem Inv.stkSub (I:Inv X pins σ H s):∀b∈frs X.stack,b∈X.env.locals::X.fs:=fun b hb=>by
 rcases I.ok.stk with e|⟨e,hf⟩
 .rw[e] at hb;exact qi _ hb
 .rw[e] at hb;unfold frs at hb;rw[vk,hf] at hb;exact hb
theorem Inv.stkFree (I:Inv X pins σ H s):∀b∈frs X.stack,H b=ab:=fun b hb=>by
 rcases c0.mp (I.stkSub b hb) with e|hb
 .rw[e];exact I.free
 .obtain⟨_,o,ho,_⟩:=I.ok.funs.mem hb;exact I.base.free b o ho (I.ok.frf b hb) fun z=>I.ok.exfs b z hb
theorem Inv.step {g':bQ rY} {ch:ac av} (I:Inv X pins σ H s)
  (hch:∀b∈ch,(b∈X.ex\/X.s₀.heap.objs.size<=b)/\b≠X.env.locals/\(∀x c,X.env.cells.lookup x=aa c->c≠b)/\∀p∈X.pn++pins,p.1≠b)
  (keep:∀b o,b≠X.env.locals->b∉X.fs->b∉ch->s.heap.get? b=aa o->H b=ab->h'.get? b=aa o)
  (slot:∀b o,b≠X.env.locals->b∈X.fs->b∉ch->s.heap.get? b=aa o->H b=ab->∃sl,h'.get? b=aa {o with slots:=sl}) (free:∀b o,b∉ch->s.heap.get? b=aa o->H b=ab->H' b=ab)
  (there:∀b o,b∉ch->s.heap.get? b=aa o->∃o',h'.get? b=aa o')
  (tups:∀b xs,H b=aa (.tup xs)->H' b=aa (.tup xs)) (frzs:∀b o u,H b=aa (.frz o u)->H' b=aa (.frz o u)) (tbls:∀b ps,H b=aa (.tbl ps)->∃more,H' b=aa (.tbl (ps++more)))
  (ns:∀m,s.heap.Ns X.env.locals m->h'.Ns X.env.locals m) (hok:HOk X.prog X.w H' h') (hg:kM g') :
  Inv X pins σ H' {s with heap:=h',gens:=g',drawn:=d',toks:=t'}:=by
 have neL:∀b o,X.s₀.heap.get? b=aa o->b≠X.env.locals:=fun b o e=>qB (qE (qv e) I.ok.above);have neC:∀b o,X.s₀.heap.get? b=aa o->b∉X.ex->b∉ch:=fun b o e hx hb=>by
  rcases(hch b hb).1 with z|z
  .exact hx z
  .exact bK (qE (qv e) z) (kL _)
 have cellK:∀x c,X.env.cells.lookup x=aa c->∀v,s.heap.IsCell c v->h'.IsCell c v:=fun x c e v ⟨o,ho,hd⟩=>by
  have nch:c∉ch:=fun z=>(hch c z).2.2.1 x c e rfl;by_cases hc:c∈X.fs
  .obtain⟨sl,q⟩:=slot c o (I.cne x c e) hc nch ho (I.freeC x c e);exact⟨_,q,hd⟩
  .exact⟨o,keep c o (I.cne x c e) hc nch ho (I.freeC x c e),hd⟩
 refine⟨I.ok,I.os,hg,⟨fun b o e n hb hx=>?_,fun b o e n hb hx=>?_,fun b o e n hx=>?_,fun b o e hx=>?_,fun b xs e=>tups b xs (I.base.tups b xs e),fun b o xs e=>frzs b o xs (I.base.frzs b o xs e),fun b ps e=>?_⟩,?_,fun x c e=>?_,?_,fun x c e=>?_,fun p hp=>?_,hok,I.len⟩
 .exact keep b o (neL b o e) hb (neC b o e hx) (I.base.keep b o e n hb hx) (I.base.free b o e n hx)
 .obtain⟨sl,e1⟩:=I.base.slot b o e n hb hx;obtain⟨sl',e2⟩:=slot b _ (neL b o e) hb (neC b o e hx) e1 (I.base.free b o e n hx);exact⟨sl',e2⟩
 .obtain⟨o',e1⟩:=I.base.there b o e hx;exact free b o' (neC b o e hx) e1 (I.base.free b o e n hx)
 .obtain⟨o',e1⟩:=I.base.there b o e hx;exact there b o' (neC b o e hx) e1
 .obtain⟨m1,e1⟩:=I.base.tbls b ps e;obtain⟨m2,e2⟩:=tbls b _ e1;exact⟨m1++m2,by rw[e2,Array.append_assoc]⟩
 .obtain⟨m,hn,hl⟩:=I.loc;refine⟨m,ns m hn,fun i x v e1 e2 e3=>?_⟩;obtain⟨u,r,l⟩:=hl i x v e1 e2 e3;refine⟨u,r,?_⟩;rcases l with l|⟨k,c,e,z⟩
  .exact .inl l
  .exact .inr ⟨k,c,e,cellK x c e _ z⟩
 .obtain⟨v,z⟩:=I.cell x c e;exact⟨v,cellK x c e v z⟩
 .obtain⟨m,⟨o,_,_,ho,_⟩,_⟩:=I.loc;exact free _ o (fun z=>(hch _ z).2.1 rfl) ho I.free
 .obtain⟨v,o,ho,hd⟩:=I.cell x c e;exact free c o (fun z=>(hch c z).2.2.1 x c e rfl) ho (I.freeC x c e)
 .obtain⟨e,n,ne,nf,d⟩:=I.pin p hp;have nch:p.1∉ch:=fun z=>(hch p.1 z).2.2.2 p hp rfl;exact⟨keep p.1 p.2 ne nf nch e n,free p.1 p.2 nch e n,ne,nf,d⟩
theorem Inv.un (I:Inv X pins σ H s) (u:Un X.fs [] H H' s.heap h') (hok:HOk X.prog X.w H' h'):Inv X pins σ H' {s with heap:=h',toks:=t'}:=by
 obtain⟨m,⟨o,es,ep,ho,r⟩,_⟩:=id I.loc;obtain⟨sl,hL⟩:=u.any ho I.free (by simp);exact I.step (g':=s.gens) (d':=s.drawn) (ch:=[]) (fun _ z=>nomatch z) (fun b o _ hb _ e n=>u.keep b o e n hb (by simp)) (fun b o _ hb _ e n=>u.slot b o e n hb (by simp)) (fun b o _ e n=>u.free b o e n (by simp)) (fun b o _ e=>u.there b o e (by simp)) u.tups u.frzs u.tbls (fun m' hm=>by obtain⟨o',es',ep',ho',r'⟩:=hm;rw[ho] at ho';cases ho';exact⟨_,es',ep',hL,r'⟩) hok I.bare
theorem Inv.call {g':bQ rY} {ch:ac av} (I:Inv X pins σ H s) (u:Un (frs X.stack) ch H H' s.heap h') (hok:HOk X.prog X.w H' h') (hg:kM g')
  (hch:∀b∈ch,(b∈X.ex\/X.s₀.heap.objs.size<=b)/\b≠X.env.locals/\(∀x c,X.env.cells.lookup x=aa c->c≠b)/\∀p∈X.pn++pins,p.1≠b) :
  Inv X pins σ H' {s with heap:=h',gens:=g',drawn:=d',toks:=t'}:=by
 obtain⟨m,⟨o,es,ep,ho,r⟩,_⟩:=id I.loc;obtain⟨sl,hL⟩:=u.any ho I.free fun z=>(hch _ z).2.1 rfl;exact I.step (ch:=ch) hch (fun b o hL hb hc e n=>u.keep b o e n (fun z=>(c0.mp (I.stkSub b z)).elim hL hb) hc) (fun b o _ _ hc e n=>u.any e n hc) (fun b o hc e n=>u.free b o e n hc) (fun b o hc e=>u.there b o e hc) u.tups u.frzs u.tbls (fun m' hm=>by obtain⟨o',es',ep',ho',r'⟩:=hm;rw[ho] at ho';cases ho';exact⟨_,es',ep',hL,r'⟩) hok hg
theorem Inv.turned {it:av} (I:Inv X pins σ H s) (k:∀b o,b≠it->s.heap.get? b=aa o->h'.get? b=aa o) (hn:H it=ab) (hL:it≠X.env.locals)
  (h1:it∈X.ex\/X.s₀.heap.objs.size<=it) (h2:∀x c,X.env.cells.lookup x=aa c->c≠it) (h3:∀p∈X.pn++pins,p.1≠it):Inv X pins σ H {s with heap:=h',toks:=t'}:=by
 have nit:∀b u,H b=aa u->b≠it:=fun b u e z=>by rw[z,hn] at e;cases e
 refine I.step (g':=s.gens) (d':=s.drawn) (ch:=[it]) (fun b hb=>?_) (fun b o _ _ hc e _=>k b o (fun z=>hc (by simp[z])) e) (fun b o _ _ hc e _=>⟨o.slots,k b o (fun z=>hc (by simp[z])) e⟩) (fun _ _ _ _ n=>n)
  (fun b o hc e=>⟨o,k b o (fun z=>hc (by simp[z])) e⟩) (fun _ _ e=>e) (fun _ _ _ e=>e) (fun b ps e=>⟨#[],by rw[e];simp⟩) (fun m hm=>?_) (fun b u e=>?_) I.bare
 .have e:b=it:=by simpa using hb
  subst e;exact⟨h1,hL,h2,h3⟩
 .obtain⟨o,es,ep,ho,r⟩:=hm;exact⟨o,es,ep,k _ o (dI hL) ho,r⟩
 .refine(I.hok b u e).stay (fun c v hc q=>k c v ?_ q) (fun _ q=>q) fun _ _ q=>q;rcases hc with z|z
  .rw[z];exact nit b u e
  .exact nit c _ z
theorem Inv.tok (I:Inv X pins σ H s) (t:al):Inv X pins σ H {s with toks:=t}:=I.un (h':=s.heap) (t':=t) Un.refl I.hok
theorem Inv.kept {t':al} (I:Inv X pins σ H s) (k:∀b u,s.heap.get? b=aa u->h'.get? b=aa u):Inv X pins σ H {s with heap:=h',toks:=t'}:=I.un (Un.kept k) (I.hok.kept k)
theorem Inv.laid {a:av} {o:HO} {t':al} (I:Inv X pins σ H s) (k:∀b u,s.heap.get? b=aa u->h'.get? b=aa u) (hp:s.heap.objs.size<=a) (new:cX X.prog X.w (upd H a o) h' a o) :
  Inv X pins σ (upd H a o) {s with heap:=h',toks:=t'}:=I.un (Un.laid k hp (I.hok.fresh hp)) (I.hok.laid k hp new)
theorem Inv.write {x e:av} {o:HO} {t':al} (I:Inv X pins σ H s) (mu:Mut (H x)) (he:e=x\/H e=aa (.own x)) (k:∀b u,b≠e->s.heap.get? b=aa u->h'.get? b=aa u) (heo:∃u,h'.get? e=aa u)
  (new:cX X.prog X.w (upd H x o) h' x o):Inv X pins σ (upd H x o) {s with heap:=h',toks:=t'}:=I.un (Un.write mu he k heo) (I.hok.write mu he k heo new)
theorem Inv.pins_of {pins':ac (av×bf)} (I:Inv X pins σ H s) (h:∀p∈pins',s.heap.get? p.1=aa p.2/\H p.1=ab/\p.1≠X.env.locals/\p.1∉X.fs/\∀v,p.2.data≠.cell v):Inv X pins' σ H s:=
 ⟨I.ok,I.os,I.bare,I.base,I.loc,I.cell,I.free,I.freeC,fun p hp=>(fS.mp hp).elim (fun z=>I.pin p (yT _ z)) (h p),I.hok,I.len⟩
theorem EH (hN:N.Nodup) (a:N[i]?=aa x) (b:N[j]?=aa x):i=j:=by obtain⟨h1,e1⟩:=di.mp a;obtain⟨h2,e2⟩:=di.mp b;exact(QJ hN).mp (e1.trans e2.symm)
theorem Cb {M:vm} {E:Value->aH->Prop} {Q:lO->aH->Prop} (I:Inv X pins σ H s) (hN:X.N.Nodup) (hi:X.N[i]?=aa x) (hx:Loc X.env.scope x) (r:bI v u)
  (h:∀s',Inv X pins (σ.set i (aa v)) H s'->(∃a,iF a s.heap s'.heap/\(a=X.env.locals\/X.env.cells.lookup x=aa a))->Q () s') (hf:X.fn x=ah\/X.env.scope.names.lookup x=aa .local:=by first|exact .inl rfl|exact .inr rfl|assumption):aM M A (storeName X.env x u) Q E s:=by
 obtain⟨m,hn,hl⟩:=id I.loc;have hcls:(X.env.scope.kind==.class || (X.env.scope.kind==.module && X.env.locals != X.env.globals))=ao:=by rw[I.ok.kind];rfl
 have hiσ:i < σ.length:=by rw[I.len];exact(di.mp hi).1
 have cne:=I.cne;have tracked:∀{a:av} {h':Heap},(∃o,s.heap.get? a=aa o/\H a=ab)->iF a s.heap h'->HOk X.prog X.w H h':=fun {a h'} ha hs b ob e=>by
  obtain⟨_,_,hfree⟩:=ha;refine(I.hok b ob e).stay (fun c w' hc q=>(hs.2 c ?_).trans q) (fun _ q=>q) fun _ _ q=>q;rintro rfl;rcases hc with rfl|hc
  .rw[hfree] at e;cases e
  .rw[hfree] at hc;cases hc
 rcases hx with hk|hk
 .refine wpAny_storeName_local hk hn (fun h' hn' hs=>?_) hcls;obtain⟨oL,_,_,hoL,_⟩:=id hn;refine h _ ⟨I.ok,I.os,I.bare,⟨fun b o e n hb hx=>?_,fun b o e n hb hx=>?_,I.base.free,fun b o e hx=>?_,I.base.tups,I.base.frzs,I.base.tbls⟩,⟨_,hn',fun j y v' e1 e2 e3=>?_⟩,fun y c e=>?_,I.free,I.freeC,fun p hp=>?_,tracked ⟨oL,hoL,I.free⟩ hs,by simpa using I.len⟩ ⟨_,hs,.inl rfl⟩
  .exact(hs.2 b (qB (qE (qv e) I.ok.above))).trans (I.base.keep b o e n hb hx)
  .obtain⟨sl,e1⟩:=I.base.slot b o e n hb hx;exact⟨sl,(hs.2 b (qB (qE (qv e) I.ok.above))).trans e1⟩
  .obtain⟨o',e1⟩:=I.base.there b o e hx;exact⟨o',(hs.2 b (qB (qE (qv e) I.ok.above))).trans e1⟩
  .by_cases hj:j=i
   .subst hj;rw[hi] at e1;cases e1;rw[vn hiσ] at e2;cases e2;exact⟨u,r,.inl ⟨hk,by simp⟩⟩
   .rw[ni (dI hj)] at e2;obtain⟨u',r',q⟩:=hl j y v' e1 e2 e3;refine⟨u',r',?_⟩;rcases q with⟨k,e⟩|⟨k,c,e,z⟩
    .refine .inl ⟨k,?_⟩;have:y≠x:=fun e=>hj (EH hN e1 (e▸hi));simp[this,e]
    .exact .inr ⟨k,c,e,z.sameBut hs (cne y c e)⟩
  .obtain⟨w',z⟩:=I.cell y c e;exact⟨w',z.sameBut hs (cne y c e)⟩
  .obtain⟨e,n,ne,nf,d⟩:=I.pin p hp;exact⟨(hs.2 p.1 ne).trans e,n,ne,nf,d⟩
 .have hfn:X.fn x=ah:=by
   rcases hf with z|z
   .exact z
   .rw[z] at hk;cases hk
  obtain⟨c,hc⟩:=I.ok.has x (.inl hk);obtain⟨w',z⟩:=I.cell x c hc;refine wpAny_storeName_cell I.ok.kind hk hc z (fun h' hc' hs=>?_);obtain⟨oc,hoc,hocd⟩:=id z;refine h {s with heap:=h'} ⟨I.ok,I.os,I.bare,⟨fun b o e n hb hx=>?_,fun b o e n hb hx=>?_,I.base.free,fun b o e hx=>?_,I.base.tups,I.base.frzs,I.base.tbls⟩,⟨m,hn.sameBut hs (dI (cne x c hc)),fun j y v' e1 e2 e3=>?_⟩,fun y c' e=>?_,I.free,I.freeC,fun p hp=>?_,tracked ⟨oc,hoc,I.freeC x c hc⟩ hs,by simpa using I.len⟩ ⟨c,hs,.inr hc⟩
  .exact(hs.2 b (qB (qE (qv e) (I.ok.cab x c hfn hc)))).trans (I.base.keep b o e n hb hx)
  .obtain⟨sl,e1⟩:=I.base.slot b o e n hb hx;exact⟨sl,(hs.2 b (qB (qE (qv e) (I.ok.cab x c hfn hc)))).trans e1⟩
  .obtain⟨o',e1⟩:=I.base.there b o e hx;exact⟨o',(hs.2 b (qB (qE (qv e) (I.ok.cab x c hfn hc)))).trans e1⟩
  .by_cases hj:j=i
   .subst hj;rw[hi] at e1;cases e1;rw[vn hiσ] at e2;cases e2;exact⟨u,r,.inr ⟨.inl hk,c,hc,hc'⟩⟩
   .rw[ni (dI hj)] at e2;obtain⟨u',r',q⟩:=hl j y v' e1 e2 e3;refine⟨u',r',?_⟩;rcases q with q|⟨k,c',e,z'⟩
    .exact .inl q
    .refine .inr ⟨k,c',e,z'.sameBut hs ?_⟩;rintro rfl;exact hj (EH hN e1 (I.ok.inj _ _ _ e hc▸hi))
  .by_cases hcc:c'=c
   .subst hcc;exact⟨_,hc'⟩
   .obtain⟨w2,z2⟩:=I.cell y c' e;exact⟨w2,z2.sameBut hs hcc⟩
  .obtain⟨e,n,ne,nf,d⟩:=I.pin p hp;refine⟨(hs.2 p.1 ?_).trans e,n,ne,nf,d⟩;intro q;rw[q,hoc] at e;have q':oc=p.2:=qG e;exact d w' (by rw[←q'];exact hocd)
theorem tV {M:vm} {E:Value->aH->Prop} {Q:lO->aH->Prop} (I:Inv X pins σ H s) (hN:X.N.Nodup) (hi:X.N[i]?=aa x) (hx:Loc X.env.scope x) (r:bI v u)
  (h:∀s',Inv X pins (σ.set i (aa v)) H s'->Q () s') (hf:X.fn x=ah\/X.env.scope.names.lookup x=aa .local:=by first|exact .inl rfl|exact .inr rfl|assumption):aM M A (storeName X.env x u) Q E s:=
 Cb I hN hi hx r (fun s' I' _=>h s' I') hf
theorem Inv.call' {ch:ac av} (I:Inv X pins σ H s) (ho:s'.os=s.os) (u:Un (frs X.stack) ch H H' s.heap s'.heap) (hok:HOk X.prog X.w H' s'.heap) (hg:kM s'.gens)
  (hch:∀b∈ch,(b∈X.ex\/X.s₀.heap.objs.size<=b)/\b≠X.env.locals/\(∀x c,X.env.cells.lookup x=aa c->c≠b)/\∀p∈X.pn++pins,p.1≠b):Inv X pins σ H' s':=by
 obtain⟨h',g',d',t',o'⟩:=s';have e:o'=s.os:=ho;subst e;exact I.call (g':=g') (t':=t') (d':=d') u hok hg hch
end
noncomputable abbrev XK:=Value->ar av->Hp->Prop
noncomputable abbrev St:=ac (ar V)
noncomputable abbrev VK:=V->Hp->Prop
noncomputable abbrev TE:=St->Hp->VK->Prop
noncomputable abbrev TT:=St->Hp->(aQ->Hp->Prop)->Prop
noncomputable abbrev TA:=St->Hp->(ac V->Hp->Prop)->Prop
structure Ends where
 nx:St->Hp->Prop
 rt:VK
 bk:St->Hp->Prop:=fun _ _=>False
 ct:St->Hp->Prop:=fun _ _=>False
noncomputable abbrev TS:=Ends->St->Hp->Prop
noncomputable def EP (X:Cx) (pins:ac (av×bf)) (σ:St) (Q:VK) (u:Value) (s':aH):Prop:=∃v H',Inv X pins σ H' s'/\bI v u/\Q v H'
noncomputable def TP (X:Cx) (pins:ac (av×bf)) (σ:St) (Q:aQ->Hp->Prop) (b:aQ) (s':aH):Prop:=∃H',Inv X pins σ H' s'/\Q b H'
noncomputable def AP (X:Cx) (pins:ac (av×bf)) (σ:St) (Q:ac V->Hp->Prop) (us:ac Value) (s':aH):Prop:=∃vs H',Inv X pins σ H' s'/\bO vs us/\Q vs H'
noncomputable def SP (X:Cx) (pins:ac (av×bf)) (D:Ends) (f:Flow) (s':aH):Prop:=
 match f with
 |.next=>∃σ' H',Inv X pins σ' H' s'/\D.nx σ' H'
 |.brk=>∃σ' H',Inv X pins σ' H' s'/\D.bk σ' H'
 |.cont=>∃σ' H',Inv X pins σ' H' s'/\D.ct σ' H'
 |.ret u=>∃v σ' H',Inv X pins σ' H' s'/\bI v u/\D.rt v H'
noncomputable def PE (X:Cx) (e:Expr) (t:TE):Prop:=
 ∀(pins:ac (av×bf)) (s:aH) (σ:St) (H:Hp) (Q:VK),Inv X pins σ H s->t σ H Q->aM .(s) X.A (eval e X.env) (EP X pins σ Q) X.xe s
noncomputable def PT (X:Cx) (e:Expr) (t:TT):Prop:=
 ∀(pins:ac (av×bf)) (s:aH) (σ:St) (H:Hp) (Q:aQ->Hp->Prop),Inv X pins σ H s->t σ H Q->aM .(s) X.A (isTrue e X.env (eval e X.env)) (TP X pins σ Q) X.xe s
noncomputable def PW (X:Cx) (e:Expr) (t:TT):Prop:=
 ∀(whole:Sem Value) (pins:ac (av×bf)) (s:aH) (σ:St) (H:Hp) (Q:aQ->Hp->Prop),Inv X pins σ H s->t σ H Q->aM .(s) X.A (isTrue e X.env whole) (TP X pins σ Q) X.xe s
variable {e:Expr}
theorem PW.pt {t:TT} (h:PW X e t):PT X e t:=h _
noncomputable def PA (X:Cx) (es:ac Expr) (t:TA):Prop:=
 ∀(pos:dD) (pins:ac (av×bf)) (s:aH) (σ:St) (H:Hp) (Q:ac V->Hp->Prop),Inv X pins σ H s->t σ H Q->aM .(s) X.A (spliced (cN pos (a8 es X.env))) (AP X pins σ Q) X.xe s
noncomputable def PS (X:Cx) (st:Stmt) (t:TS):Prop:=
 ∀(pins:ac (av×bf)) (s:aH) (σ:St) (H:Hp) (D:Ends),Inv X pins σ H s->t D σ H->aM .(s) X.A (exec st X.env) (SP X pins D) X.xe s
noncomputable def PSs (X:Cx) (st:ac Stmt) (t:TS):Prop:=
 ∀(pins:ac (av×bf)) (s:aH) (σ:St) (H:Hp) (D:Ends),Inv X pins σ H s->t D σ H->aM .(s) X.A (execs st X.env) (SP X pins D) X.xe s
variable {α:Type}
theorem thn {t:Sem α} {Q Q':α->aH->Prop} {M:vm} {E:Value->aH->Prop} (h:aM M A t Q E s) (hQ:∀a s,Q a s->Q' a s):aM M A t Q' E s:=ie h hQ fun _ _ x=>x
variable {b:Expr} {ta:TE} {σ:St} {pos:dD} {Q:Value->aH->Prop} {op:CmpOp}
section
theorem bin {a:Expr} {tb:TE} (ha:PE X a ta) (hb:PE X b tb) {R:V->V->Hp->Prop} (I:Inv X pins σ H s) (h:ta σ H fun x H1=>tb σ H1 fun y H2=>R x y H2)
  {Q:α->aH->Prop} {f:Value->Value->Sem α} 
  (hf:∀v u s2 x y H2,Inv X pins σ H2 s2->bI x v->bI y u->R x y H2->aM .(s) X.A (f v u) Q X.xe s2) :
  aM .(s) X.A (eval a X.env) (fun v s₁=>aM .(s) X.A (eval b X.env) (fun u s₂=>aM .(s) X.A (f v u) Q X.xe s₂) X.xe s₁) X.xe s:=by
 refine thn (ha pins s σ H _ I h) fun v s1 ⟨x,H1,I1,r1,q1⟩=>?_;refine thn (hb pins s1 σ H1 _ I1 q1) fun u s2 ⟨y,H2,I2,r2,q2⟩=>?_;exact hf v u s2 x y H2 I2 r1 r2 q2
noncomputable def AQ (i:al):TE:=fun σ H Q=>∃v,σ[i]?=aa (aa v)/\Q v H
noncomputable def tC (v:V):TE:=fun _ H Q=>Q v H
theorem iq (hN:X.N[i]?=aa x) (hv:Vis X.env.scope x) (hd:.(G)=ao:=by decide) (hcd:.(ap)=ao:=by decide):PE X (.Name x pos) (AQ i):=by
 intro pins s σ H Q I h;obtain⟨v,e,h⟩:=h;obtain⟨m,hn,hl⟩:=I.loc;obtain⟨u,r,l⟩:=hl i x v hN e hv;have fin:EP X pins σ Q u s:=⟨v,H,I,r,h⟩;rcases l with⟨hk,hm⟩|⟨hk,c,hc,hcell⟩
 .exact EM (wpAny_loadName_local I.ok.kind hk hn hm fin) hd
 .rcases hk with hk|hk
  .exact EM (wpAny_loadName_cell I.ok.kind hk hc hcell fin) hd
  .exact EM (wpAny_loadName_free I.ok.kind hk hc hcell fin hcd) hd
theorem NP {i j pos}:PE X (.Constant (.int i) j pos) (tC (.int i)):=fun _ _ _ H _ I h=>wpAny_Constant_int ⟨.int i,H,I.tok _,⟨_,rfl⟩,h⟩
theorem Jw {b j pos}:PE X (.Constant (.bool b) j pos) (tC (.bl b)):=fun _ _ _ H _ I h=>Constant_bool ⟨.bl b,H,I,rfl,h⟩
theorem Kf {j pos}:PE X (.Constant .none j pos) (tC .non):=fun _ _ _ H _ I h=>Constant_none ⟨.non,H,I,rfl,h⟩
theorem HW {x j pos}:PE X (.Constant (.str x) j pos) (tC (.str x)):=fun _ _ _ H _ I h=>Calls.Constant_str ⟨.str x,H,I.tok _,⟨_,rfl⟩,h⟩
noncomputable def Gl (X:Cx) (x:aj):Prop:=X.env.kindOf x=aa .globalImplicit
theorem yz {E:Value->aH->Prop} (I:Inv X pins σ H s) (hg:Gl X x) (hm:X.mg x=aa u) (h:Q u s)
  (hd:.(G)=ao:=by decide):aM .(s) X.A (eval (.Name x pos) X.env) Q E s:=
 QK I.ok.kind hg (Calls.loadGlobal_global (by rw[I.ok.glob];exact I.mod.glob.keeps I.bk) hm h) hd
theorem oI {E:Value->aH->Prop} (I:Inv X pins σ H s) (hg:Gl X x) (hm:X.mg x=ab) (hv:lN x=aa u) (h:Q u s)
  (hn:x≠"__name__":=by decide) (hd:.(G)=ao:=by decide):aM .(s) X.A (eval (.Name x pos) X.env) Q E s:=by
 obtain⟨mb,h1,h2⟩:=I.mod.blt;exact QK I.ok.kind hg (Calls.loadGlobal_builtin (by rw[I.ok.glob];exact I.mod.glob.keeps I.bk) hm (by rw[I.ok.blt];exact h1.keeps I.bk) ((h2 x hn).trans hv) h) hd
theorem GV (hg:Gl X x) (hm:X.mg x=aa u) (r:bI v u) (hd:.(G)=ao:=by decide):PE X (.Name x pos) (tC v):=
 fun _ _ _ H _ I h=>yz I hg hm ⟨v,H,I,r,h⟩ hd
theorem HJ (hg:Gl X x) (hm:X.mg x=ab) (hv:lN x=aa u) (r:bI v u) (hn:x≠"__name__":=by decide) (hd:.(G)=ao:=by decide):PE X (.Name x pos) (tC v):=
 fun _ _ _ H _ I h=>oI I hg hm hv ⟨v,H,I,r,h⟩ hn hd
variable {a:Expr} {tb:TE}
noncomputable def PC (X:Cx) (op:CmpOp) (a b:Expr) (t:TE):Prop:=
 ∀(pins:ac (av×bf)) (s:aH) (σ:St) (H:Hp) (Q:VK),Inv X pins σ H s->t σ H Q->
  aM .(s) X.A (eval a X.env) (fun v s₁=>aM .(s) X.A (eval b X.env) (fun u s₂=>aM .(s) X.A (dz op v u) (EP X pins σ Q) X.xe s₂) X.xe s₁) X.xe s
theorem O6 (b:Expr) (h:op≠.In) (h2:op≠.NotIn):lP op b=ao:=by
 have e1:(op==QL)=ao:=by cases op<;>first|rfl|exact bK rfl h
 have e2:(op==QM)=ao:=by cases op<;>first|rfl|exact bK rfl h2
 cases b<;>simp[lP,e1,e2]
noncomputable def tB (t:TE):TT:=fun σ H Q=>t σ H fun x H1=>∃c,x=.bl c/\Q c H1
theorem S3 {t:TE} (h:PC X op a b t) (h1:lP op b=ao:=by first|exact O6 _ .(h) .(h)|rfl):PT X (.Compare a [op] [b] pos) (tB t):=by intro pins s σ H Q I hw;refine QN (thn (h pins s σ H _ I hw) fun v s1 h1=>thn h1 fun u s2 h2=>thn h2 fun c s3 ⟨x,H1,I1,r1,q1⟩=>?_) h1;obtain⟨d,rfl,q⟩:=q1;cases r1;exact jW ⟨H1,I1,q⟩
theorem IR {t:TE} (h:PE X e t) (he:∀whole,isTrue e X.env whole=(do let v ←whole;o6 e.pos;jX [v] (truthy v)):=by intro _;rfl):PT X e (tB t):=by intro pins s σ H Q I hw;refine isTrue_plain (thn (h pins s σ H _ I hw) fun v s1 ⟨x,H1,I1,r1,q1⟩=>?_) (he _);obtain⟨d,rfl,q⟩:=q1;cases r1;exact jW ⟨H1,I1,q⟩
variable {tA tB':TT} {cc:ac Expr}
noncomputable def Nc (t u:TT):TT:=fun σ H Q=>t σ H fun c H1=>if c=ah then u σ H1 Q else Q ao H1
noncomputable def tOr (t u:TT):TT:=fun σ H Q=>t σ H fun c H1=>if c=ah then Q ah H1 else u σ H1 Q
noncomputable def Py (t:TT):TT:=fun σ H Q=>t σ H fun c H1=>Q (!c) H1
theorem JN (ha:PT X a tA):PW X (.BoolOp .And [a] pos) tA:=by
 intro wh pins s σ H Q I h;refine isTrue_and (thn (ha pins s σ H Q I h) fun c s1 e=>?_);cases c with
 |true=>exact isTrue_and_nil e
 |false=>exact e
theorem GW (ha:PT X a tA):PW X (.BoolOp .Or [a] pos) tA:=by
 intro wh pins s σ H Q I h;refine isTrue_or (thn (ha pins s σ H Q I h) fun c s1 e=>?_);cases c with
 |false=>exact isTrue_or_nil e
 |true=>exact e
theorem OW (ha:PT X a tA) (hb:PW X (.BoolOp .And (b::cc) pos) tB'):PW X (.BoolOp .And (a::b::cc) pos) (Nc tA tB'):=by
 intro wh pins s σ H Q I h;refine isTrue_and (thn (ha pins s σ H _ I h) fun c s1 ⟨H1,I1,q1⟩=>?_);cases c with
 |true=>exact hb wh pins s1 σ H1 Q I1 q1
 |false=>exact⟨H1,I1,q1⟩
theorem M8 (ha:PT X a tA) (hb:PW X (.BoolOp .Or (b::cc) pos) tB'):PW X (.BoolOp .Or (a::b::cc) pos) (tOr tA tB'):=by
 intro wh pins s σ H Q I h;refine isTrue_or (thn (ha pins s σ H _ I h) fun c s1 ⟨H1,I1,q1⟩=>?_);cases c with
 |true=>exact⟨H1,I1,q1⟩
 |false=>exact hb wh pins s1 σ H1 Q I1 q1
theorem K5 (ha:PT X a tA):PT X (.UnaryOp .Not a pos) (Py tA):=by intro pins s σ H Q I h;exact isTrue_not (ha pins s σ H (fun c H1=>Q (!c) H1) I h)
noncomputable def Qs (ta tb:TE):TE:=fun σ H Q=>ta σ H fun x H1=>∃c,x=.bl c/\if c=ah then tb σ H1 Q else Q (.bl ao) H1
noncomputable def NT (ta tb:TE):TE:=fun σ H Q=>ta σ H fun x H1=>∃c,x=.bl c/\if c=ah then Q (.bl ah) H1 else tb σ H1 Q
noncomputable def JU (ta:TE):TE:=fun σ H Q=>ta σ H fun x H1=>∃c,x=.bl c/\Q (.bl (!c)) H1
theorem LH {op} {t:TE} (h:PE X a t):PE X (.BoolOp op [a] pos) t:=fun pins s σ H Q I hw=>BoolOp_one (h pins s σ H Q I hw)
theorem Go (ha:PE X a ta) (hb:PE X (.BoolOp .And (b::cc) pos) tb):PE X (.BoolOp .And (a::b::cc) pos) (Qs ta tb):=by
 intro pins s σ H Q I h;refine BoolOp_and (thn (ha pins s σ H _ I h) fun v s1 ⟨x,H1,I1,r1,q1⟩=>?_);obtain⟨c,rfl,q1⟩:=q1;cases r1;refine jW ?_;cases c with
 |true=>exact hb pins s1 σ H1 Q I1 q1
 |false=>exact⟨.bl ao,H1,I1,rfl,q1⟩
theorem H0 (ha:PE X a ta) (hb:PE X (.BoolOp .Or (b::cc) pos) tb):PE X (.BoolOp .Or (a::b::cc) pos) (NT ta tb):=by
 intro pins s σ H Q I h;refine BoolOp_or (thn (ha pins s σ H _ I h) fun v s1 ⟨x,H1,I1,r1,q1⟩=>?_);obtain⟨c,rfl,q1⟩:=q1;cases r1;refine jW ?_;cases c with
 |false=>exact hb pins s1 σ H1 Q I1 q1
 |true=>exact⟨.bl ah,H1,I1,rfl,q1⟩
theorem Lj (ha:PE X a ta):PE X (.UnaryOp .Not a pos) (JU ta):=by intro pins s σ H Q I h;refine UnaryOp_ (thn (ha pins s σ H _ I h) fun v s1 ⟨x,H1,I1,r1,q1⟩=>?_);obtain⟨c,rfl,q1⟩:=q1;cases r1;exact not_of (jW ⟨.bl (!c),H1,I1,rfl,q1⟩)
end
noncomputable def SqL (K:bu) (H:Hp) (a:av) (xs:ac V):Prop:=
 Rd H a (.lst xs) \/
  ∃(o:bf) (its:bQ Value) (n:al),K.lookup a=aa o/\o.cls=.type "list"/\o.dict=ab/\o.data=.seq its n/\its.size<=aW/\bO xs its.toList
noncomputable def SqT (K:bu) (H:Hp) (a:av) (xs:ac V):Prop:=
 Rd H a (.tup xs) \/
  ∃(o:bf) (its:bQ Value) (n:al),K.lookup a=aa o/\o.cls=.type "tuple"/\o.data=.seq its n/\its.size<=aW/\bO xs its.toList
noncomputable def Ma:Value->ar V
 |.none=>aa .non
 |.bool b=>aa (.bl b)
 |.int i _=>aa (.int i)
 |.str x _=>aa (.str x)
 |.bytes b _=>aa (.byt b)
 |.float b _=>aa (.flt b)
 |.ref a=>aa (.ref a)
 |.type n=>aa (.ty n)
 |_=>ab
theorem bI.abs {x:V} (r:bI x u):Ma u=aa x:=by
 cases x with
 |non=>cases r;rfl
 |bl _=>cases r;rfl
 |int _=>obtain⟨t,rfl⟩:=r;rfl
 |str _=>obtain⟨t,rfl⟩:=r;rfl
 |byt _=>obtain⟨t,rfl⟩:=r;rfl
 |flt _=>obtain⟨t,rfl⟩:=r;rfl
 |ref _=>cases r;rfl
 |ty _=>cases r;rfl
theorem bI.inj {x y:V} (r:bI x u) (q:bI y u):x=y:=qG (r.abs.symm.trans q.abs)
theorem bO.inj:∀{xs ys:ac V} {us:ac Value},bO xs us->bO ys us->xs=ys
 |_,_,_,.nil,.nil=>rfl
 |_,_,_,.cons r t,.cons r' t'=>by rw[r.inj r',bO.inj t t']
variable {ys:ac V}
section
variable {xs:ac V}
theorem Inv.list (I:Inv X pins σ H s) (h:SqL X.K H a xs):∃its:ac Value,bO xs its/\PlainL s.heap a its.toArray/\xs.length<=aW:=by
 rcases h with h|⟨o,its,n,hk,hc,hd,hs,hz,r⟩
 .obtain⟨z,its,n,r,e⟩:=h.ok I.hok;exact⟨its,r,⟨_,n,e,rfl,rfl,rfl⟩,z⟩
 .refine⟨its.toList,r,⟨o,n,I.kIn a o hk,hc,hd,by simpa using hs⟩,?_⟩;have e:=r.length;simp only[gf] at e;omega
theorem Inv.tuple (I:Inv X pins σ H s) (h:SqT X.K H a xs):∃its:ac Value,bO xs its/\IsTup s.heap a its.toArray/\xs.length<=aW:=by
 rcases h with h|⟨o,its,n,hk,hc,hs,hz,r⟩
 .obtain⟨z,its,r,p⟩:=h.ok I.hok;exact⟨its,r,p,z⟩
 .refine⟨its.toList,r,⟨o,I.kIn a o hk,hc,n,by simpa using hs⟩,?_⟩;have e:=r.length;simp only[gf] at e;omega
theorem Inv.list_inj (I:Inv X pins σ H s) (h:SqL X.K H a xs) (h':SqL X.K H a ys):xs=ys:=by
 obtain⟨its,r,⟨o,n,e,_,_,d⟩,_⟩:=I.list h;obtain⟨its',r',⟨o',n',e',_,_,d'⟩,_⟩:=I.list h';rw[e] at e';cases e';rw[d] at d';injection d' with d1 _;have:its=its':=by simpa using cJ QO d1
 subst this;exact r.inj r'
theorem Inv.tuple_inj (I:Inv X pins σ H s) (h:SqT X.K H a xs) (h':SqT X.K H a ys):xs=ys:=by
 obtain⟨its,r,⟨o,e,_,n,d⟩,_⟩:=I.tuple h;obtain⟨its',r',⟨o',e',_,n',d'⟩,_⟩:=I.tuple h';rw[e] at e';cases e';rw[d] at d';injection d' with d1 _;have:its=its':=by simpa using cJ QO d1
 subst this;exact r.inj r'
end
noncomputable abbrev Cx.wish (X:Cx) (E:Value->aH->Prop):Cx:={X with xe:=E}
noncomputable abbrev Cx.nox (X:Cx):Cx:=X.wish fun _ _=>False
theorem Cx.Ok.wish (ok:X.Ok) (E:Value->aH->Prop):(X.wish E).Ok:=
 ⟨ok.mod,ok.kind,ok.glob,ok.blt,ok.above,ok.inj,ok.has,ok.cab,ok.hd,ok.frames,ok.stk,ok.exf,ok.bs,ok.bsz,ok.noex,ok.exfs,ok.funs,ok.frf⟩
theorem Cx.Ok.unwish {E:Value->aH->Prop} (ok:(X.wish E).Ok):X.Ok:=
 ⟨ok.mod,ok.kind,ok.glob,ok.blt,ok.above,ok.inj,ok.has,ok.cab,ok.hd,ok.frames,ok.stk,ok.exf,ok.bs,ok.bsz,ok.noex,ok.exfs,ok.funs,ok.frf⟩
section
variable {E:Value->aH->Prop}
theorem Inv.wish (I:Inv X pins σ H s) (E:Value->aH->Prop):Inv (X.wish E) pins σ H s:=⟨I.ok.wish E,I.os,I.bare,I.base,I.loc,I.cell,I.free,I.freeC,I.pin,I.hok,I.len⟩
theorem Inv.unwish (I:Inv (X.wish E) pins σ H s):Inv X pins σ H s:=⟨I.ok.unwish,I.os,I.bare,I.base,I.loc,I.cell,I.free,I.freeC,I.pin,I.hok,I.len⟩
theorem SP.unwish {D:Ends} {f:Flow} {s':aH} (h:SP (X.wish E) pins D f s'):SP X pins D f s':=by
 cases f with
 |next=>obtain⟨σ',H',I,q⟩:=h;exact⟨σ',H',I.unwish,q⟩
 |brk=>obtain⟨σ',H',I,q⟩:=h;exact⟨σ',H',I.unwish,q⟩
 |cont=>obtain⟨σ',H',I,q⟩:=h;exact⟨σ',H',I.unwish,q⟩
 |ret u=>obtain⟨v,σ',H',I,r,q⟩:=h;exact⟨v,σ',H',I.unwish,r,q⟩
theorem PSs.nox {st:ac Stmt} {t:TS} (h:PSs X.nox st t):PSs X st t:=fun pins s σ H D I hw=>
 ie (h pins s σ H D (I.wish _) hw) (fun _ _ q=>q.unwish) fun _ _ z=>iG z
end
variable {st:Stmt} {te:TE} {c:Expr} {tc:TT}
section
variable {cc:ac Stmt} {t u:TS}
noncomputable def KJ:TS:=fun D σ H=>D.nx σ H
noncomputable def Lg (t u:TS):TS:=fun D σ H=>t {D with nx:=u D} σ H
theorem K1:PSs X [] KJ:=fun _ _ σ H _ I h=>EN ⟨σ,H,I,h⟩
theorem OZ (h1:PS X st t) (h2:PSs X cc u):PSs X (st::cc) (Lg t u):=by
 intro pins s σ H D I h;refine QP (thn (h1 pins s σ H {D with nx:=u D} I h) fun f s1 q=>?_);cases f with
 |next=>
  obtain⟨σ',H',I',q⟩:=q;exact h2 pins s1 σ' H' D I' q
 |ret v=>exact q
 |brk=>exact q
 |cont=>exact q
theorem Jf (h1:PS X st t):PSs X [st] t:=by
 intro pins s σ H D I h;refine QP (thn (h1 pins s σ H D I h) fun f s1 q=>?_);cases f with
 |next=>exact EN q
 |ret v=>exact q
 |brk=>exact q
 |cont=>exact q
theorem Inv.quiet (I:Inv X pins σ H s):interactive X.env=ao:=by simp[interactive,I.ok.kind]
noncomputable def Je (te:TE):TS:=fun D σ H=>te σ H fun _ H1=>D.nx σ H1
theorem x6 (he:PE X e te) (hs:fG e ab pos.line X.env=bG ao:=by rfl):PS X (.Expr e pos) (Je te):=by intro pins s σ H D I h;exact wpAny_Expr_any (thn (he pins s σ H _ I h) fun v s1 ⟨x,H1,I1,r1,q1⟩=>⟨σ,H1,I1,q1⟩) I.quiet hs
noncomputable def PU (te:TE):TS:=fun D σ H=>te σ H D.rt
theorem Ah (he:PE X e te):PS X (.Return (aa e) pos) (PU te):=by intro pins s σ H D I h;exact wpAny_Return_some (thn (he pins s σ H _ I h) fun v s1 ⟨x,H1,I1,r1,q1⟩=>⟨x,σ,H1,I1,r1,q1⟩)
noncomputable def Gj (c:TT) (t u:TS):TS:=fun D σ H=>c σ H fun b H1=>if b=ah then t D σ H1 else u D σ H1
theorem KU {a b:ac Stmt} (hc:PT X c tc) (ha:PSs X a t) (hb:PSs X b u):PS X (.If c a b pos) (Gj tc t u):=by
 intro pins s σ H D I h;refine wpAny_If (thn (hc pins s σ H _ I h) fun d s1 ⟨H1,I1,q1⟩=>?_);cases d with
 |true=>exact ha pins s1 σ H1 D I1 q1
 |false=>exact hb pins s1 σ H1 D I1 q1
end
noncomputable abbrev TG:=V->St->Hp->(St->Hp->Prop)->Prop
noncomputable abbrev TGs:=ac V->St->Hp->(St->Hp->Prop)->Prop
noncomputable def PG (X:Cx) (target:Expr) (t:TG):Prop:=
 ∀(pins:ac (av×bf)) (s:aH) (σ:St) (H:Hp) (v:V) (u:Value) (Q:St->Hp->Prop),Inv X pins σ H s->bI v u->t v σ H Q->
  aM .(s) X.A (kN target X.env u) (fun _ s'=>∃σ' H',Inv X pins σ' H' s'/\Q σ' H') X.xe s
noncomputable def PGs (X:Cx) (ts:ac Expr) (t:TGs):Prop:=
 ∀(pins:ac (av×bf)) (s:aH) (σ:St) (H:Hp) (vs:ac V) (us:ac Value) (Q:St->Hp->Prop),Inv X pins σ H s->bO vs us->t vs σ H Q->
  aM .(s) X.A (EO ((jY ts X.env).map (·.2)) us) (fun _ s'=>∃σ' H',Inv X pins σ' H' s'/\Q σ' H') X.xe s
variable {es:ac Expr} {n:al} {tg:Expr} {pos' px py:dD}
noncomputable def rR (i:al):TG:=fun v σ H Q=>Q (σ.set i (aa v)) H
theorem Oe (hN:X.N.Nodup) (hi:X.N[i]?=aa x) (hx:Loc X.env.scope x) (hf:X.fn x=ah\/X.env.scope.names.lookup x=aa .local:=by first|exact .inl rfl|exact .inr rfl|assumption):PG X (.Name x pos) (rR i):=by intro pins s σ H v u Q I r h;exact QQ (tV I hN hi hx r (fun s' I'=>⟨_,H,I',h⟩) hf)
noncomputable def L8:TGs:=fun vs σ H Q=>vs=[]/\Q σ H
noncomputable def Ol (t:TG) (u:TGs):TGs:=fun vs σ H Q=>∃v r,vs=v::r/\t v σ H fun σ' H'=>u r σ' H' Q
theorem NB:PGs X [] L8:=by intro pins s σ H vs us Q I r h;obtain⟨e,h⟩:=h;subst e;cases r;exact QR ⟨σ,H,I,h⟩
theorem KW {t:TG} {u:TGs} (h1:PG X e t) (h2:PGs X es u)
  (hs:(jY (e::es) X.env).map (·.2)=kN e X.env::(jY es X.env).map (·.2):=by rfl):PGs X (e::es) (Ol t u):=by
 intro pins s σ H vs us Q I r h;obtain⟨v,vr,e1,h⟩:=h;subst e1;cases r with
 |cons r rr=>
  rw[hs];refine EQ (thn (h1 pins s σ H _ _ _ I r h) fun _ s1 ⟨σ1,H1,I1,q1⟩=>?_);exact h2 pins s1 σ1 H1 _ _ Q I1 rr q1
noncomputable def GR (K:bu) (n:al) (t:TGs):TG:=fun v σ H Q=>∃a xs,v=.ref a/\SqT K H a xs/\xs.length=n/\t xs σ H Q
theorem Pw {k:al} {t:TGs} (hc:X.calm=ah) (h:PGs X es t)
  (hn:(jY es X.env).length=n:=by rfl) (hst:(jY es X.env).findIdx? (·.1)=ab:=by rfl):PG X (.Tuple es k pos) (GR X.K n t):=by
 intro pins s σ H v u Q I r hw;obtain⟨a,xs,e1,hq,hl,hw⟩:=hw;subst e1;cases r;obtain⟨its,rv,ht,hz⟩:=I.tuple hq;refine assign_Tuple_tuple (I.ok.hd hc) ht (by simp[hn,←hl,rv.length]) hst fun h' hx=>?_;have I1:Inv X pins σ H {s with heap:=h'}:=I.kept (t':=s.toks) fun b o e=>hx b o (qB (qv e)) e;exact h pins _ σ H xs _ Q I1 (by simpa using rv) hw
noncomputable def rq (te:TE) (g:TG):TS:=fun D σ H=>te σ H fun x H1=>g x σ H1 D.nx
theorem NE {g:TG} (he:PE X e te) (hg:PG X tg g) (hs:yU [tg] e pos.line X.env=bG ao:=by rfl) (hw:yV [tg] e X.env=bG ab:=by rfl)
  (h1:(jY [tg] X.env).map (·.2)=[kN tg X.env]:=by rfl):PS X (.Assign [tg] e pos) (rq te g):=by
 intro pins s σ H D I h;refine wpAny_Assign_stores (thn (he pins s σ H _ I h) fun v s1 ⟨x,H1,I1,r1,q1⟩=>?_) hs hw;rw[h1];exact thn (hg pins s1 σ H1 x v _ I1 r1 q1) fun _ s2 q=>q
theorem p8 (hN:X.N.Nodup) (hi:X.N[i]?=aa x) (hx:Loc X.env.scope x) (he:PE X e te) (hs:fG e (aa (.Name x pos')) pos.line X.env=bG ao:=by rfl) (hf:X.fn x=ah\/X.env.scope.names.lookup x=aa .local:=by first|exact .inl rfl|exact .inr rfl|assumption) :
  PS X (.Assign [.Name x pos'] e pos) (rq te (rR i)):=by
 intro pins s σ H D I h;refine wpAny_Assign_Name (thn (he pins s σ H _ I h) fun v s1 ⟨y,H1,I1,r1,q1⟩=>?_) hs;exact tV I1 hN hi hx r1 (fun s2 I2=>⟨_,H1,I2,q1⟩) hf
noncomputable def Nw (i j:al) (ta:TA):TS:=fun D σ H=>ta σ H fun vs H1=>∃v w,vs=[v,w]/\D.nx ((σ.set i (aa v)).set j (aa w)) H1
theorem Nu {y:aj} {a:Expr} {ta:TA} {pt:dD} {kt k2 pt2} (hc:X.calm=ah) (hN:X.N.Nodup) (hi:X.N[i]?=aa x) (hj:X.N[j]?=aa y) (hij:i≠j)
  (hx:X.env.scope.names.lookup x=aa .local) (hy:X.env.scope.names.lookup y=aa .local) (ha:PA X [a,b] ta)
  (hw:yV [.Tuple [.Name x px,.Name y py] kt pt] (.Tuple [a,b] k2 pt2) X.env=bG (aa [x,y]))
  (hs:yU [.Tuple [.Name x px,.Name y py] kt pt] (.Tuple [a,b] k2 pt2) pos.line X.env=bG ao:=by rfl) :
  PS X (.Assign [.Tuple [.Name x px,.Name y py] kt pt] (.Tuple [a,b] k2 pt2) pos) (Nw i j ta):=by
 intro pins s σ H D I h;rw[exec_Assign_arm];refine qx (ER ?_);rw[hs];refine qx (qz ?_);rw[qZ .(h)];refine qx (Tuple_ (thn (ha _ pins s σ H _ I h) fun us s1 ⟨vs,H1,I1,r1,q1⟩=>?_));obtain⟨v,w,e1,q1⟩:=q1;subst e1;obtain⟨u1,u2,rfl,rv,rw'⟩:∃u1 u2,us=[u1,u2]/\bI v u1/\bI w u2:=by
  cases r1 with
  |cons p q=>
   cases q with
   |cons p' q'=>
    cases q';exact⟨_,_,rfl,p,p'⟩
 refine lQ ?_ (by show 2<=aW;decide);have I2:Inv X pins σ H1 {s1 with heap:=s1.heap.push {cls:=.type "tuple",data:=.seq [u1,u2].toArray} }:=I1.kept (t':=s1.toks) fun b o e=>qu _ e;rw[hw];refine qx (qz ?_);show aM .(s) X.A (do rule "assign.swapped-stores";let items ←unpackItems (.ref s1.heap.objs.size) 2 ab;EO [fun v=>yW X.env y v,fun v=>yW X.env x v] items.reverse;bG QS) _ _ _;refine qx (ES (qx (unpackItems_tuple (items:=#[u1,u2]) (I.ok.hd hc) (ET s1.heap _) fun h' hx'=>?_)));have I3:=I2.kept (h':=h') (t':=s1.toks) fun b o e=>hx' b o (qB (qv e)) e;show aM _ _ (EO [fun v=>yW X.env y v,fun v=>yW X.env x v] [u2,u1] >>= fun _=>bG QS) _ _ _;refine qx (EQ (QT (tV I3 hN hj (.inl hy) rw' (fun s2 I4=>?_) (.inr hy))));refine EQ (QT (tV I4 hN hi (.inl hx) rv (fun s3 I5=>QR (qz ?_)) (.inr hx)));rw[List.set_comm _ _ (dI hij)] at I5;exact⟨_,H1,I5,q1⟩
structure It where
 go:al->Hp->Prop
 yld:al->Hp->V->Hp->Prop
 stop:al->Hp->Prop
noncomputable def gY (X:Cx) (pins:ac (av×bf)) (H:Hp) (b:av):Prop:=
 H b=ab/\b≠X.env.locals/\b∉X.fs/\(b∈X.ex\/X.s₀.heap.objs.size<=b)/\(∀x c,X.env.cells.lookup x=aa c->c≠b)/\∀p∈X.pn++pins,p.1≠b
theorem Inv.fpOk {b:av} (I:Inv X pins σ H s) (hb:s.heap.objs.size<=b) (hn:H' b=ab):gY X pins H' b:=by
 refine⟨hn,yX (qE I.lt hb),I.nofs hb,.inr (qL I.sz hb),fun x c e z=>?_,fun p hp z=>?_⟩
 .obtain⟨v,q⟩:=I.cell x c e;exact bK (qE q.lt (by rw[z];exact hb)) (kL _)
 .exact bK (qE (qv (I.pin p hp).1) (by rw[z];exact hb)) (kL _)
structure Turn (P:bV) (w:cR) (K:bu) (tg:Expr) (J:It) (fp:ac av) (it:av) (tn:al->Heap->Prop):Prop where
 mem:it∈fp
 obj:∀i h,tn i h->∀b∈fp,∃o,h.get? b=aa o/\∀v,o.data≠.cell v
 keep:∀i h h',tn i h->(∀b∈fp,∀o,h.get? b=aa o->h'.get? b=aa o)->tn i h'
 item:∀(X:Cx),X.prog=P->X.w=w->X.K=K->X.calm=ah->∀(i:al) (pins:ac (av×bf)) (s:aH) (σ:St) (H:Hp) (E:Value->aH->Prop),Inv X pins σ H s->(∀b∈fp,gY X pins H b)->tn i s.heap->J.go i H->
  aM (aR P w) X.A (jZ (.ref it)) (fun r s1=>∃u,r=aa u /\
   aM (aR P w) X.A (vo tg (.ref it) u) (fun _ s2=>∃x H',Inv X pins σ H' s2/\bI x u/\J.yld i H x H'/\tn (i+1) s2.heap/\∀b∈fp,H' b=ab) E s1) E s
 done:∀(X:Cx),X.prog=P->X.w=w->X.K=K->X.calm=ah->∀(i:al) (pins:ac (av×bf)) (s:aH) (σ:St) (H:Hp) (E:Value->aH->Prop),Inv X pins σ H s->(∀b∈fp,gY X pins H b)->tn i s.heap->J.stop i H->
  aM (aR P w) X.A (jZ (.ref it)) (fun r s1=>r=ab/\Inv X pins σ H s1) E s
 self:∀(A:dB) (i:al) (s:aH) (Q:Value->aH->Prop) (E:Value->aH->Prop),tn i s.heap->Q (.ref it) s->aM (aR P w) A (o7 (.ref it)) Q E s
noncomputable abbrev TI:=St->Hp->(It->Hp->Prop)->Prop
noncomputable def PIE (X:Cx) (pins:ac (av×bf)) (σ:St) (tg:Expr) (R:It->Hp->Prop) (itv:Value) (s2:aH):Prop:=
 ∃(it:av) (fp:ac av) (tn:al->Heap->Prop) (J:It) (H':Hp),itv=.ref it/\Inv X pins σ H' s2/\Turn X.prog X.w X.K tg J fp it tn/\tn 0 s2.heap/\(∀b∈fp,gY X pins H' b)/\R J H'
noncomputable def PI (X:Cx) (tg iter:Expr) (wi:TI):Prop:=
 ∀(pins:ac (av×bf)) (s:aH) (σ:St) (H:Hp) (R:It->Hp->Prop),Inv X pins σ H s->wi σ H R->
  aM .(s) X.A (eval iter X.env) (fun v s1=>aM .(s) X.A (o7 v) (PIE X pins σ tg R) X.xe s1) X.xe s
theorem uc {M:vm} {E:Value->aH->Prop} {it:av} {o:bf} {n:dq} {vs:bQ Value} {Q:lO->aH->Prop} (ho:s.heap.get? it=aa o) (hc:o.cls=.type n) (hd:o.data=.fields vs)
  (hn:["enumerate","zip","dict_itemiterator","dict_reverseitemiterator","odict_iterator","itertools.zip_longest","itertools.pairwise"].contains n=ao) (hQ:Q () s):aM M A (vo tg (.ref it) u) Q E s:=by
 unfold vo;cases tg<;>first
  |exact qz hQ
  |(cases u<;>first
    |exact qz hQ
    |(refine qx (wpAny_load ho ?_);rw[hc,hd];show aM M A (if (["enumerate","zip","dict_itemiterator","dict_reverseitemiterator","odict_iterator","itertools.zip_longest","itertools.pairwise"].contains n && vs[0]?==aa (jf _))=ah then _ else _) Q E s;rw[qZ (by intro h;rw[hn,Bool.false_and] at h;cases h)];exact qz hQ))
noncomputable def Itl (K:bu) (a:av):It:=
 ⟨fun i H=>∃xs x,SqL K H a xs/\xs[i]?=aa x,fun i H x H'=>H'=H/\∀xs,SqL K H a xs->xs[i]?=aa x,fun i H=>∃xs,SqL K H a xs/\xs.length<=i⟩
noncomputable def Itt (K:bu) (a:av):It:=
 ⟨fun i H=>∃xs x,SqT K H a xs/\xs[i]?=aa x,fun i H x H'=>H'=H/\∀xs,SqT K H a xs->xs[i]?=aa x,fun i H=>∃xs,SqT K H a xs/\xs.length<=i⟩
noncomputable def Itr (lo:ag) (n:al):It:=⟨fun i _=>i<n,fun i H x H'=>H'=H/\x=.int (lo+i),fun i _=>n<=i⟩
variable {K:bu}
theorem NI {P:bV} (a it:av):Turn P w K tg (Itl K a) [it] it (fun i h=>h.IsListIter it a i) where
 mem:=by simp
 obj:=fun i h st b hb=>by
  have e:b=it:=by simpa using hb
  subst e;obtain⟨o,e,c,d⟩:=st;exact⟨o,e,fun v z=>by rw[d] at z;cases z⟩
 keep:=fun i h h' st k=>st.at fun o e=>k it (by simp) o e
 item:=by intro X hP hw hK hc i pins s σ H E I hf st hg;subst hP hw hK;obtain⟨xs,x,hq,hx⟩:=hg;obtain⟨its,rv,p,hz⟩:=I.list hq;obtain⟨u,hu,ru⟩:=rv.get hx;obtain⟨f0,f1,f2,f3,f4,f5⟩:=hf it (by simp);refine wpAny_pyNext_list_item st p.isList (x:=u) (by simpa using hu) fun h' st' sb=>?_;have I1:Inv X pins σ H {s with heap:=h'}:=I.turned (t':=s.toks) (fun b o hb e=>(sb.2 b hb).trans e) f0 f1 f3 f4 f5;obtain⟨o,e,c,d⟩:=id st';exact⟨u,rfl,uc (s:={s with heap:=h'}) e c d .(h) ⟨x,H,I1,ru,⟨rfl,fun ys hy=>by rw[I.list_inj hy hq];exact hx⟩,st',fun b hb=>(hf b hb).1⟩⟩
 done:=by intro X hP hw hK hc i pins s σ H E I hf st hg;subst hP hw hK;obtain⟨xs,hq,hx⟩:=hg;obtain⟨its,rv,p,hz⟩:=I.list hq;obtain⟨f0,f1,f2,f3,f4,f5⟩:=hf it (by simp);have hl:=rv.length;exact wpAny_pyNext_list_end (I.ok.hd hc) st p.isList (by simp;omega) fun h' eb=>⟨rfl,I.turned (t':=s.toks) (fun b o hb e=>eb b o hb e) f0 f1 f3 f4 f5⟩
 self:=fun _ _ _ _ _ st h=>wpAny_pyIter_listiter st h
theorem JA {P:bV} (a it:av):Turn P w K tg (Itt K a) [it] it (fun i h=>h.IsTupleIter it a i) where
 mem:=by simp
 obj:=fun i h st b hb=>by
  have e:b=it:=by simpa using hb
  subst e;obtain⟨o,e,c,d⟩:=st;exact⟨o,e,fun v z=>by rw[d] at z;cases z⟩
 keep:=fun i h h' st k=>st.at fun o e=>k it (by simp) o e
 item:=by intro X hP hw hK hc i pins s σ H E I hf st hg;subst hP hw hK;obtain⟨xs,x,hq,hx⟩:=hg;obtain⟨its,rv,p,hz⟩:=I.tuple hq;obtain⟨u,hu,ru⟩:=rv.get hx;obtain⟨f0,f1,f2,f3,f4,f5⟩:=hf it (by simp);refine wpAny_pyNext_tuple_item st (show s.heap.IsTuple a its.toArray from p) (x:=u) (by simpa using hu) fun h' st' sb=>?_;have I1:Inv X pins σ H {s with heap:=h'}:=I.turned (t':=s.toks) (fun b o hb e=>(sb.2 b hb).trans e) f0 f1 f3 f4 f5;obtain⟨o,e,c,d⟩:=id st';exact⟨u,rfl,uc (s:={s with heap:=h'}) e c d .(h) ⟨x,H,I1,ru,⟨rfl,fun ys hy=>by rw[I.tuple_inj hy hq];exact hx⟩,st',fun b hb=>(hf b hb).1⟩⟩
 done:=by intro X hP hw hK hc i pins s σ H E I hf st hg;subst hP hw hK;obtain⟨xs,hq,hx⟩:=hg;obtain⟨its,rv,p,hz⟩:=I.tuple hq;obtain⟨f0,f1,f2,f3,f4,f5⟩:=hf it (by simp);have hl:=rv.length;exact wpAny_pyNext_tuple_end (I.ok.hd hc) st (show s.heap.IsTuple a its.toArray from p) (by simp;omega) fun h' eb=>⟨rfl,I.turned (t':=s.toks) (fun b o hb e=>eb b o hb e) f0 f1 f3 f4 f5⟩
 self:=fun _ _ _ _ _ st h=>wpAny_pyIter_tupleiter st h
theorem GM {P:bV} (it:av) (lo:ag) (n:al):Turn P w K tg (Itr lo n) [it] it (fun i h=>IsRangeIter h it (lo+(i:al)*1) ((n:ag)-(i:al)) 1) where
 mem:=by simp
 obj:=fun i h st b hb=>by
  have e:b=it:=by simpa using hb
  subst e;exact⟨_,st,fun v z=>by have z':Data.fields _=Data.cell v:=z;cases z'⟩
 keep:=fun i h h' st k=>k it (by simp) _ st
 item:=by intro X hP hw hK hc i pins s σ H E I hf st hg;subst hP hw hK;obtain⟨f0,f1,f2,f3,f4,f5⟩:=hf it (by simp);have W:=Walks.range (prog:=X.prog) (w:=X.w) (I.ok.hd hc) it lo 1 n;refine W.item i s _ _ hg st fun v h' tk hv st' kk=>?_;obtain⟨t,rfl⟩:=hv;have I1:Inv X pins σ H {s with heap:=h',toks:=tk}:=I.turned (fun b o hb e=>kk b o (by simpa using hb) e) f0 f1 f3 f4 f5;refine⟨_,rfl,uc (s:={s with heap:=h',toks:=tk}) (n:="range_iterator") st' rfl rfl .(h) ⟨.int (lo+i),H,I1,⟨t,?_⟩,⟨rfl,rfl⟩,st',fun b hb=>(hf b hb).1⟩⟩;rw[Int.mul_one]
 done:=by intro X hP hw hK hc i pins s σ H E I hf st hg;subst hP hw hK;obtain⟨f0,f1,f2,f3,f4,f5⟩:=hf it (by simp);exact wpAny_pyNext_range_end (I.ok.hd hc) st (by have:n<=i:=hg;omega) fun h' eb=>⟨rfl,I.turned (t':=s.toks) (fun b o hb e=>eb b o hb e) f0 f1 f3 f4 f5⟩
 self:=fun _ _ _ _ _ st h=>wpAny_pyIter_rangeiter st h
variable {lo:ag} {p:dD} {fp:ac av} {iter:Expr} {wi:TI}
theorem An {R:It->Hp->Prop} {E:Value->aH->Prop} {hi:ag} {t u v:Tok} {tk:al} (I:Inv X pins σ H s) (h1 : -(2 ^ 62)<=lo) (h2:lo<2 ^ 62) (h3 : -(2 ^ 62)<=hi) (h4:hi<2 ^ 62)
  (q:R (Itr lo (hi-lo).toNat) H):aM .(s) X.A (o7 (.ref s.heap.objs.size)) (PIE X pins σ tg R) E {s with heap:=s.heap.push {cls:=.type "range",data:=.fields #[.int lo t,.int hi u,.int 1 v]},toks:=tk}:=by
 refine wpAny_pyIter_range (IsRange.new ..) (small_one h1 h2 h3 h4) ?_;have I1:Inv X pins σ H {s with heap:=s.heap.push {cls:=.type "range",data:=.fields #[.int lo t,.int hi u,.int 1 v]},toks:=tk}:=I.kept fun b o e=>qu _ e;refine⟨(s.heap.push {cls:=.type "range",data:=.fields #[.int lo t,.int hi u,.int 1 v]}).objs.size,[(s.heap.push {cls:=.type "range",data:=.fields #[.int lo t,.int hi u,.int 1 v]}).objs.size],_,_,H,rfl,
  I1.kept (t':=tk) fun b o e=>qu _ e,GM _ lo (hi-lo).toNat,?_,fun b hb=>?_,q⟩
 .have e1:lo+((0:al):ag)*1=lo:=by simp
  have e2:(((hi-lo).toNat:al):ag)-((0:al):ag)=S6 lo hi 1:=by rw[rangeSize_one];split<;>omega
  show IsRangeIter _ _ (lo+((0:al):ag)*1) ((((hi-lo).toNat:al):ag)-((0:al):ag)) 1;rw[e1,e2];exact qF _ rfl
 .have e:b=(s.heap.push {cls:=.type "range",data:=.fields #[.int lo t,.int hi u,.int 1 v]}).objs.size:=by simpa using hb
  subst e;exact I1.fpOk (qw _) (I1.hok.fresh (qw _))
noncomputable def P' (ta:TA):TI:=fun σ H R=>ta σ H fun vs H1=>∃j:ag,vs=[.int j] /\ -(2 ^ 62)<=j/\j<2 ^ 62/\R (Itr 0 j.toNat) H1
noncomputable def Gr (ta:TA):TI:=fun σ H R=>ta σ H fun vs H1=>∃i j:ag,vs=[.int i,.int j]/\(-(2 ^ 62)<=i/\i<2 ^ 62 /\ -(2 ^ 62)<=j/\j<2 ^ 62)/\R (Itr i (j-i).toNat) H1
theorem PP {a:Expr} {ta:TA} (hg:Gl X "range") (hm:X.mg "range"=ab) (ha:PA X [a] ta) (hs:a8 [a] X.env=[(ao,eval a X.env)]:=by rfl):PI X tg (.Call (.Name "range" p) [a] [] pos) (P' ta):=by
 intro pins s σ H R I h;refine Call_ (oI I hg hm boot_range (yY (thn (ha pos pins s σ H _ I h) fun us s1 ⟨vs,H1,I1,r1,q1⟩=>?_) hs rfl));obtain⟨j,e,q1,q2,q⟩:=q1;subst e;cases r1 with
 |cons r rr=>
  cases rr;obtain⟨t,rfl⟩:=r;exact call_range_1 (An I1 .(f) .(f) q1 q2 (by simpa using q))
theorem LK {a:Expr} {ta:TA} (hg:Gl X "range") (hm:X.mg "range"=ab) (ha:PA X [a,b] ta) (hs:a8 [a,b] X.env=[(ao,eval a X.env),(ao,eval b X.env)]:=by rfl) (hs2:a8 [b] X.env=[(ao,eval b X.env)]:=by rfl) :
  PI X tg (.Call (.Name "range" p) [a,b] [] pos) (Gr ta):=by
 intro pins s σ H R I h;refine Call_ (oI I hg hm boot_range (yY (thn (ha pos pins s σ H _ I h) fun us s1 ⟨vs,H1,I1,r1,q1⟩=>?_) (by rw[hs,hs2]) (by rw[hs2];rfl)));obtain⟨i,j,e,⟨q1,q2,q3,q4⟩,q⟩:=q1;subst e;cases r1 with
 |cons r rr=>
  cases rr with
  |cons r' rr=>
   cases rr;obtain⟨t,rfl⟩:=r;obtain⟨t',rfl⟩:=r';exact call_range_2 (An I1 q1 q2 q3 q4 q)
noncomputable def LS (wi:TI) (g:TG) (tb:TS):TS:=fun D σ H=>wi σ H fun J H1=>∃W:al->al->St->Hp->Prop,(∃m,W 0 m σ H1)/\∀i m σ H,W i m σ H->
 (J.stop i H/\D.nx σ H)\/(J.go i H/\∃N:St->Hp->Prop,(∀σ' H',N σ' H'->∃m',m'<m/\W (i+1) m' σ' H')/\∀x H',J.yld i H x H'->g x σ H' fun σ2 H2=>tb {D with nx:=N,ct:=N,bk:=D.nx} σ2 H2)
noncomputable def pI (fp:ac av) (h:Heap):ac (av×bf):=fp.filterMap fun b=>(h.get? b).map fun o=>(b,o)
theorem t5 {h:Heap} {b:av} {o:bf} (hb:b∈fp) (e:h.get? b=aa o):(b,o)∈pI fp h:=o8.mpr ⟨b,hb,by rw[e];rfl⟩
theorem Ka {h:Heap} {p:av×bf} (hp:p∈pI fp h):p.1∈fp/\h.get? p.1=aa p.2:=by
 obtain⟨b,hb,e⟩:=o8.mp hp;cases q:h.get? b with
 |none=>rw[q] at e;cases e
 |some o=>
  rw[q] at e;have e':(b,o)=p:=qG e;subst e';exact⟨hb,q⟩
theorem Inv.pinned (I:Inv X pins σ H s) (hf:∀b∈fp,gY X pins H b) (ho:∀b∈fp,∃o,s.heap.get? b=aa o/\∀v,o.data≠.cell v):Inv X (pins++pI fp s.heap) σ H s:=
 I.pins_of fun p hp=>(fS.mp hp).elim (fun z=>I.pin p (qP _ z)) fun z=>by obtain⟨hb,e⟩:=Ka z;obtain⟨f0,f1,f2,_⟩:=hf p.1 hb;obtain⟨o,e',d⟩:=ho p.1 hb;rw[e] at e';cases e';exact⟨e,f0,f1,f2,d⟩
theorem Inv.unpinned {pl:ac (av×bf)} (I:Inv X (pins++pl) σ H s):Inv X pins σ H s:=I.pins_of fun p hp=>I.pin p (qP _ (yT _ hp))
theorem HG {body:ac Stmt} {g:TG} {tb:TS} (hp:PassesOwn .(s) X.A X.env X.xe) (hc:X.calm=ah) (hi:PI X tg iter wi) (hg:PG X tg g) (hb:PSs X body tb)
  (hs:∀x,o9 iter X.env x=bG x:=by intro _;rfl):PS X (.For tg iter body [] pos) (LS wi g tb):=by
 intro pins s σ H D I h;refine wpAny_For (thn (hi pins s σ H _ I h) fun v s1 h1=>thn h1 fun itv s2 h2=>?_) hs;obtain⟨it,fp,tn,J,H2,e,I2,T,st2,f2,W,⟨m0,w0⟩,turn⟩:=h2;subst e;have stat:∀{H':Hp},(∀b∈fp,H' b=ab)->∀b∈fp,gY X pins H' b:=fun hn b hb=>⟨hn b hb,(f2 b hb).2⟩;refine codeAny_forLoop_any (fun n s'=>∃i σ' H',Inv X pins σ' H' s'/\tn i s'.heap/\(∀b∈fp,H' b=ab)/\W i n σ' H') ?_ m0 ⟨0,σ,H2,I2,st2,fun b hb=>(f2 b hb).1,w0⟩;rintro n s3 ⟨i,σ3,H3,I3,st3,fr3,w3⟩;rcases turn i n σ3 H3 w3 with⟨stop,qn⟩|⟨go,N,hN,step⟩
 .refine vq hp (thn (T.done X rfl rfl rfl hc i pins s3 σ3 H3 X.xe I3 (stat fr3) st3 stop) fun r s4 ⟨hr,I4⟩=>?_);subst hr;exact EN ⟨σ3,H3,I4,qn⟩
 .refine vq hp (thn (T.item X rfl rfl rfl hc i pins s3 σ3 H3 X.xe I3 (stat fr3) st3 go) fun r s4 ⟨u,hr,h4⟩=>?_);subst hr;refine vq hp (thn h4 fun _ s5 ⟨x,H5,I5,r5,y5,st5,fr5⟩=>?_);have I5':=I5.pinned (stat fr5) (T.obj _ _ st5);refine vq hp (thn (hg _ s5 σ3 H5 x u _ I5' r5 (step x H5 y5)) fun _ s6 ⟨σ6,H6,I6,q6⟩=>?_);refine vq hp (thn (hb _ s6 σ6 H6 _ I6 q6) fun f s7 q7=>?_);have again:∀{σ7:St} {H7:Hp},Inv X (pins++pI fp s5.heap) σ7 H7 s7->N σ7 H7->∃m,m<n/\∃i σ' H',Inv X pins σ' H' s7/\tn i s7.heap/\(∀b∈fp,H' b=ab)/\W i m σ' H':=fun {σ7 H7} I7 n7=>by obtain⟨m',hm,w7⟩:=hN σ7 H7 n7;refine⟨m',hm,i+1,σ7,H7,I7.unpinned,T.keep _ _ _ st5 fun b hb o e=>(I7.pin (b,o) (qP _ (qP _ (t5 hb e)))).1,fun b hb=>?_,w7⟩;obtain⟨o,e,d⟩:=T.obj _ _ st5 b hb;exact(I7.pin (b,o) (qP _ (qP _ (t5 hb e)))).2.1
  cases f with
  |next=>obtain⟨σ7,H7,I7,n7⟩:=q7;exact again I7 n7
  |cont=>obtain⟨σ7,H7,I7,n7⟩:=q7;exact again I7 n7
  |brk=>obtain⟨σ7,H7,I7,q7⟩:=q7;exact⟨σ7,H7,I7.unpinned,q7⟩
  |ret v=>obtain⟨x7,σ7,H7,I7,r7,q7⟩:=q7;exact⟨x7,σ7,H7,I7.unpinned,r7,q7⟩
noncomputable abbrev R2:=V->V->Hp->VK->Prop
noncomputable def OpR (X:Cx) (f:Value->Value->Sem Value) (r:R2):Prop:=
 ∀(pins:ac (av×bf)) (s:aH) (σ:St) (H:Hp) (x y:V) (v u:Value) (Q:VK),Inv X pins σ H s->bI x v->bI y u->r x y H Q->
  aM .(s) X.A (f v u) (EP X pins σ Q) X.xe s
noncomputable def eE (X:Cx) (f:Value) (r:ac V->Hp->VK->Prop):Prop:=
 ∀(pins:ac (av×bf)) (s:aH) (σ:St) (H:Hp) (xs:ac V) (us:ac Value) (Q:VK),Inv X pins σ H s->bO xs us->r xs H Q->
  aM .(s) X.A (call f us) (EP X pins σ Q) X.xe s
noncomputable def tOp (r:R2) (ta tb:TE):TE:=fun σ H Q=>ta σ H fun x H1=>tb σ H1 fun y H2=>r x y H2 Q
noncomputable def rI (C:ag->ag->Prop) (g:ag->ag->V):R2:=fun x y H Q=>∃i j,x=.int i/\y=.int j/\C i j/\Q (g i j) H
noncomputable def rI0 (g:ag->ag->V):R2:=fun x y H Q=>∃i j,x=.int i/\y=.int j/\Q (g i j) H
variable {r:R2}
section
variable {a:Expr} {tb tc:TE}
theorem wN (ha:PE X a ta) (hb:PE X b tb) {R:V->V->Hp->Prop} (I:Inv X pins σ H s)
  (h:ta σ H fun x H1=>tb σ H1 fun y H2=>R x y H2) {f:Value->Value->Sem Value} 
  (hf:∀v u s2 x y H2,Inv X pins σ H2 s2->bI x v->bI y u->R x y H2->aM .(s) X.A (f v u) Q X.xe s2) :
  aM .(s) X.A (eval a X.env) (fun v s₁=>aM .(s) X.A (eval b X.env) (fun u s₂=>aM .(s) X.A (f v u) Q X.xe s₂) X.xe s₁) X.xe s:=by
 refine thn (ha pins s σ H _ I h) fun v s1 ⟨x,H1,I1,r1,q1⟩=>?_;refine thn (hb pins s1 σ H1 _ I1 q1) fun u s2 ⟨y,H2,I2,r2,q2⟩=>?_;exact hf v u s2 x y H2 I2 r1 r2 q2
theorem M5 {op:Operator} (ho:OpR X (jg op) r) (ha:PE X a ta) (hb:PE X b tb):PE X (.BinOp a op b pos) (tOp r ta tb):=by intro pins s σ H Q I h;exact wpAny_BinOp (wN ha hb I h fun v u s2 x y H2 I2 rx ry q=>ho pins s2 σ H2 x y v u Q I2 rx ry q)
theorem opI {f:Value->Value->Sem Value} {C:ag->ag->Prop} {g:ag->ag->ag} 
  (rule:∀(i j:ag) (t u:Tok) (s:aH) (Q:Value->aH->Prop) (E:Value->aH->Prop),C i j->Q (.int (g i j) s.toks) {s with toks:=s.toks+1}->aM .(s) X.A (f (.int i t) (.int j u)) Q E s) :
  OpR X f (rI C fun i j=>.int (g i j)):=by
 intro pins s σ H x y v u Q I rx ry h;obtain⟨i,j,rfl,rfl,hc,q⟩:=h;obtain⟨t,rfl⟩:=rx;obtain⟨t',rfl⟩:=ry;exact rule i j t t' s _ _ hc ⟨.int (g i j),H,I.tok _,⟨_,rfl⟩,q⟩
theorem A7 {f:Value->Value->Sem Value} {g:ag->ag->ag} 
  (rule:∀(i j:ag) (t u:Tok) (s:aH) (Q:Value->aH->Prop) (E:Value->aH->Prop),Q (.int (g i j) s.toks) {s with toks:=s.toks+1}->aM .(s) X.A (f (.int i t) (.int j u)) Q E s) :
  OpR X f (rI0 fun i j=>.int (g i j)):=by
 intro pins s σ H x y v u Q I rx ry h;obtain⟨i,j,rfl,rfl,q⟩:=h;obtain⟨t,rfl⟩:=rx;obtain⟨t',rfl⟩:=ry;exact rule i j t t' s _ _ ⟨.int (g i j),H,I.tok _,⟨_,rfl⟩,q⟩
theorem uS {f:Value->Value->Sem Value} {g:ag->ag->aQ} 
  (rule:∀(i j:ag) (t u:Tok) (s:aH) (Q:Value->aH->Prop) (E:Value->aH->Prop),Q (.bool (g i j)) s->aM .(s) X.A (f (.int i t) (.int j u)) Q E s) :
  OpR X f (rI0 fun i j=>.bl (g i j)):=by
 intro pins s σ H x y v u Q I rx ry h;obtain⟨i,j,rfl,rfl,q⟩:=h;obtain⟨t,rfl⟩:=rx;obtain⟨t',rfl⟩:=ry;exact rule i j t t' s _ _ ⟨.bl (g i j),H,I,rfl,q⟩
noncomputable def Ji (i j:ag):Prop:=0<j/\j<1073741824
noncomputable def u5 (i j:ag):Prop:=(-(2 ^ 64)<i/\i<2 ^ 64)\/(-(2 ^ 64)<j/\j<2 ^ 64)
theorem u5.ok {i j:ag} (h:u5 i j):IntMulOk i j:=by
 rcases h with⟨h1,h2⟩|⟨h1,h2⟩
 .exact .of_left (intBits_le_64 h1 h2)
 .exact .of_right (intBits_le_64 h1 h2)
theorem Kz:OpR X (jg .Add) (rI0 fun i j=>.int (i+j)):=A7 fun _ _ _ _ _ _ _ q=>add_int q
theorem Gg:OpR X (jg .Sub) (rI0 fun i j=>.int (i-j)):=A7 fun _ _ _ _ _ _ _ q=>sub_int q
theorem KB:OpR X (jg .Mult) (rI u5 fun i j=>.int (i*j)):=opI fun _ _ _ _ _ _ _ hc q=>mul_int q hc.ok
theorem OE:OpR X (jg .FloorDiv) (rI Ji fun i j=>.int (i / j)):=opI fun i j _ _ _ _ _ hc q=>by have h1:(0:ag)<j:=hc.1;have h2:j<1073741824:=hc.2;exact floordiv_int .(f) (by rw[Int.fdiv_eq_ediv_of_nonneg i .(f)];exact q) (.inl (PyProof.noPylong_small .(f)))
theorem Ox:OpR X (jg .Mod) (rI (fun _ j=>0<j) fun i j=>.int (i%j)):=opI fun i j _ _ _ _ _ hc q=>by have h1:(0:ag)<j:=hc;exact mod_int' .(f) (by rw[Int.fmod_eq_emod_of_nonneg i .(f)];exact q)
end
noncomputable def w9:V->V->aQ
 |.non,.non=>ah|.non,.int _=>ah|.int _,.non=>ah|.non,.bl _=>ah|.bl _,.non=>ah|.non,.str _=>ah|.str _,.non=>ah
 |.int _,.int _=>ah|.bl _,.bl _=>ah|.str _,.str _=>ah|.byt _,.byt _=>ah
 |.int _,.str _=>ah|.str _,.int _=>ah|.bl _,.str _=>ah|.str _,.bl _=>ah
 |_,_=>ao
noncomputable def rEq:R2:=fun x y H Q=>w9 x y=ah/\Q (.bl (decide (x=y))) H
noncomputable def rNe:R2:=fun x y H Q=>w9 x y=ah/\Q (.bl (!decide (x=y))) H
theorem DV {i j:ag} :decide (V.int i=V.int j)=(i==j):=by rw[jh];simp
theorem CB {i j:aQ} :decide (V.bl i=V.bl j)=(i==j):=by rw[jh];simp
theorem BZ {i j:aj} :decide (V.str i=V.str j)=(i==j):=by rw[jh];simp
theorem B0 {i j:bQ UInt8} :decide (V.byt i=V.byt j)=(i.toList==j.toList):=by rw[jh];cases i;cases j;simp
variable {r':R2} {op':CmpOp}
section
variable {a:Expr} {tb tc:TE}
theorem cT {Q:VK} {k k':aQ} (I:Inv X pins σ H s) (q:Q (.bl k) H) (e:k=k'):EP X pins σ Q (.bool k') s:=by subst e;exact⟨.bl k,H,I,rfl,q⟩
theorem QC:OpR X (dz .Eq) rEq:=by
 intro pins s σ H x y v u Q I rx ry h;obtain⟨hs,q⟩:=h;cases x with
 |non=>
  cases rx;cases y with
  |non=>cases ry;exact S7 .(ad)
  |bl j=>cases ry;exact S8 .(ad)
  |int j=>obtain⟨t',rfl⟩:=ry;exact S9 .(ad)
  |str j=>obtain⟨t',rfl⟩:=ry;exact S' .(ad)
  |_=>exact bK (show ao=ah from hs) qt
 |bl i=>
  cases rx;cases y with
  |non=>cases ry;exact Ta .(ad)
  |bl j=>cases ry;exact eq_bool (cT I q CB)
  |str j=>obtain⟨t',rfl⟩:=ry;exact Tc .(ad)
  |_=>exact bK (show ao=ah from hs) qt
 |int i=>
  obtain⟨t,rfl⟩:=rx;cases y with
  |non=>cases ry;exact Td .(ad)
  |int j=>obtain⟨t',rfl⟩:=ry;exact eq_int (cT I q DV)
  |str j=>obtain⟨t',rfl⟩:=ry;exact Te .(ad)
  |_=>exact bK (show ao=ah from hs) qt
 |str i=>
  obtain⟨t,rfl⟩:=rx;cases y with
  |non=>cases ry;exact Tf .(ad)
  |bl j=>cases ry;exact Tg .(ad)
  |int j=>obtain⟨t',rfl⟩:=ry;exact Th .(ad)
  |str j=>obtain⟨t',rfl⟩:=ry;exact eq_str (cT I q BZ)
  |_=>exact bK (show ao=ah from hs) qt
 |byt i=>
  obtain⟨t,rfl⟩:=rx;cases y with
  |byt j=>obtain⟨t',rfl⟩:=ry;exact PySem.W.eq_bytes (cT I q B0)
  |_=>exact bK (show ao=ah from hs) qt
 |_=>cases y<;>exact bK (show ao=ah from hs) qt
theorem IB:OpR X (dz .NotEq) rNe:=by
 intro pins s σ H x y v u Q I rx ry h;obtain⟨hs,q⟩:=h;cases x with
 |non=>
  cases rx;cases y with
  |non=>cases ry;exact Ti .(ad)
  |bl j=>cases ry;exact Tj .(ad)
  |int j=>obtain⟨t',rfl⟩:=ry;exact Tk .(ad)
  |str j=>obtain⟨t',rfl⟩:=ry;exact Tl .(ad)
  |_=>exact bK (show ao=ah from hs) qt
 |bl i=>
  cases rx;cases y with
  |non=>cases ry;exact Tn .(ad)
  |bl j=>cases ry;exact ne_bool (cT I q (cJ not CB))
  |str j=>obtain⟨t',rfl⟩:=ry;exact To .(ad)
  |_=>exact bK (show ao=ah from hs) qt
 |int i=>
  obtain⟨t,rfl⟩:=rx;cases y with
  |non=>cases ry;exact Tp .(ad)
  |int j=>obtain⟨t',rfl⟩:=ry;exact ne_int (cT I q (cJ not DV))
  |str j=>obtain⟨t',rfl⟩:=ry;exact Tq .(ad)
  |_=>exact bK (show ao=ah from hs) qt
 |str i=>
  obtain⟨t,rfl⟩:=rx;cases y with
  |non=>cases ry;exact Tr .(ad)
  |bl j=>cases ry;exact Ts .(ad)
  |int j=>obtain⟨t',rfl⟩:=ry;exact Tt .(ad)
  |str j=>obtain⟨t',rfl⟩:=ry;exact ne_str (cT I q (cJ not BZ))
  |_=>exact bK (show ao=ah from hs) qt
 |byt i=>
  obtain⟨t,rfl⟩:=rx;cases y with
  |byt j=>obtain⟨t',rfl⟩:=ry;exact PySem.W.ne_bytes (cT I q (cJ not B0))
  |_=>exact bK (show ao=ah from hs) qt
 |_=>cases y<;>exact bK (show ao=ah from hs) qt
theorem ND:OpR X (dz .Lt) (rI0 fun i j=>.bl (decide (i<j))):=uS fun _ _ _ _ _ _ _ q=>lt_int q
theorem Mw:OpR X (dz .LtE) (rI0 fun i j=>.bl (decide (i<=j))):=uS fun _ _ _ _ _ _ _ q=>le_int q
theorem GB:OpR X (dz .Gt) (rI0 fun i j=>.bl (decide (j<i))):=uS fun _ _ _ _ _ _ _ q=>gt_int q
theorem QG:OpR X (dz .GtE) (rI0 fun i j=>.bl (decide (j<=i))):=uS fun _ _ _ _ _ _ _ q=>ge_int q
theorem J7:OpR X (dz .Lt) (fun x y H Q=>∃i j,x=.str i/\y=.str j/\Q (.bl (decide (i.cps.toList<j.cps.toList))) H):=by intro pins s σ H x y v u Q I rx ry h;obtain⟨i,j,rfl,rfl,q⟩:=h;obtain⟨t,rfl⟩:=rx;obtain⟨t',rfl⟩:=ry;exact lt_str (cT I q rfl)
theorem Qe:OpR X (dz .Is) (fun x y H Q=>y=.non/\Q (.bl (decide (x=.non))) H):=by
 intro pins s σ H x y v u Q I rx ry h;obtain⟨rfl,q⟩:=h;cases ry;refine is_none_gen (cT I q ?_);cases x<;>first
  |(cases rx;rfl)
  |(obtain⟨t,rfl⟩:=rx;rfl)
theorem QE:OpR X (dz .IsNot) (fun x y H Q=>y=.non/\Q (.bl (!decide (x=.non))) H):=by
 intro pins s σ H x y v u Q I rx ry h;obtain⟨rfl,q⟩:=h;cases ry;refine isnot_none_gen (cT I q ?_);cases x<;>first
  |(cases rx;rfl)
  |(obtain⟨t,rfl⟩:=rx;rfl)
theorem OpR.or {f:Value->Value->Sem Value} (h:OpR X f r) (h':OpR X f r'):OpR X f (fun x y H Q=>r x y H Q\/r' x y H Q):=by
 intro pins s σ H x y v u Q I rx ry q;rcases q with q|q
 .exact h pins s σ H x y v u Q I rx ry q
 .exact h' pins s σ H x y v u Q I rx ry q
theorem bj (b:Expr) (h:op≠.In:=by decide) (h2:op≠.NotIn:=by decide):lP op b=ao:=by
 have e1:(op==QL)=ao:=by cases op<;>first|rfl|exact bK rfl h
 have e2:(op==QM)=ao:=by cases op<;>first|rfl|exact bK rfl h2
 cases b<;>simp[lP,e1,e2]
theorem Qj (ho:OpR X (dz op) r) (ha:PE X a ta) (hb:PE X b tb) (hm:lP op b=ao):PE X (.Compare a [op] [b] pos) (tOp r ta tb):=by intro pins s σ H Q I h;exact wpAny_Compare1 (wN ha hb I h fun v u s2 x y H2 I2 rx ry q=>ho pins s2 σ H2 x y v u Q I2 rx ry q) hm
noncomputable def Cc (t:TE):TT:=fun σ H Q=>t σ H fun x H'=>∃k,x=.bl k/\Q k H'
theorem JI (ho:OpR X (dz op) r) (ha:PE X a ta) (hb:PE X b tb) (hm:lP op b=ao):PT X (.Compare a [op] [b] pos) (Cc (tOp r ta tb)):=by
 intro pins s σ H Q I h;refine QN (thn (ha pins s σ H _ I h) fun v s1 ⟨x,H1,I1,r1,q1⟩=>thn (hb pins s1 σ H1 _ I1 q1) fun u s2 ⟨y,H2,I2,r2,q2⟩=>
  thn (ho pins s2 σ H2 x y v u _ I2 r1 r2 q2) fun c s3 ⟨z,H3,I3,r3,k,e,q3⟩=>?_) hm
 subst e;cases r3;exact jW ⟨H3,I3,q3⟩
noncomputable def yn (r r':R2) (ta tb tc:TE):TE:=fun σ H Q=>ta σ H fun x H1=>tb σ H1 fun y H2=>r x y H2 fun z H3=>∃k,z=.bl k /\
 (if k=ah then tc σ H3 fun w' H4=>r' y w' H4 Q else Q (.bl ao) H3)
theorem Kb (ho:OpR X (dz op) r) (ho':OpR X (dz op') r') (ha:PE X a ta) (hb:PE X b tb) (hc:PE X c tc)
  (hm:yZ [op,op'] [b,c]=ao:=by with_unfolding_all rfl):PE X (.Compare a [op,op'] [b,c] pos) (yn r r' ta tb tc):=by
 intro pins s σ H Q I h;refine Compare_chain (thn (ha pins s σ H _ I h) fun v s1 ⟨x,H1,I1,r1,q1⟩=>chain_link (thn (hb pins s1 σ H1 _ I1 q1) fun u s2 ⟨y,H2,I2,r2,q2⟩=>
  thn (ho pins s2 σ H2 x y v u _ I2 r1 r2 q2) fun d s3 ⟨z,H3,I3,r3,k,e,q3⟩=>?_)) hm
 subst e;cases r3;refine jW ?_;cases k with
 |false=>exact ite_ff ⟨.bl ao,H3,I3,rfl,q3⟩
 |true=>exact ite_tt (chain_last (thn (hc pins s3 σ H3 _ I3 q3) fun w' s4 ⟨z',H4,I4,r4,q4⟩=>ho' pins s4 σ H4 y z' u w' Q I4 r2 r4 q4))
theorem N5 (ho:OpR X (dz op) r) (ho':OpR X (dz op') r') (ha:PE X a ta) (hb:PE X b tb) (hc:PE X c tc)
  (hm:yZ [op,op'] [b,c]=ao:=by with_unfolding_all rfl):PT X (.Compare a [op,op'] [b,c] pos) (Cc (yn r r' ta tb tc)):=by
 intro pins s σ H Q I h;refine isTrue_chain (thn (ha pins s σ H _ I h) fun v s1 ⟨x,H1,I1,r1,q1⟩=>test_link (thn (hb pins s1 σ H1 _ I1 q1) fun u s2 ⟨y,H2,I2,r2,q2⟩=>
  thn (ho pins s2 σ H2 x y v u _ I2 r1 r2 q2) fun d s3 ⟨z,H3,I3,r3,k,e,q3⟩=>?_)) hm
 subst e;cases r3;refine jW ?_;cases k with
 |false=>
  obtain⟨k',e',q'⟩:=q3;cases e';exact ite_ff ⟨H3,I3,q'⟩
 |true=>
  refine ite_tt (test_last (thn (hc pins s3 σ H3 _ I3 q3) fun w' s4 ⟨z',H4,I4,r4,q4⟩=>thn (ho' pins s4 σ H4 y z' u w' _ I4 r2 r4 q4) fun d' s5 ⟨z2,H5,I5,r5,k2,e2,q5⟩=>?_));subst e2;cases r5;exact jW ⟨H5,I5,q5⟩
theorem uh:(aW:al)<2 ^ 63:=by rw[fT];decide
theorem OF:OpR X (jg .Add) (fun x y H Q=>∃i j,x=.str i/\y=.str j/\i.length+j.length<=aW/\Q (.str (i++j)) H):=by intro pins s σ H x y v u Q I rx ry h;obtain⟨i,j,rfl,rfl,hz,q⟩:=h;obtain⟨t,rfl⟩:=rx;obtain⟨t',rfl⟩:=ry;exact add_str (fun t' tk=>⟨.str (i++j),H,I.tok _,⟨_,rfl⟩,q⟩) hz
theorem fu {x:V} {us:ac Value} (r:bO [x] us):∃u,us=[u]/\bI x u:=by
 cases r with
 |cons r1 r2=>cases r2;exact⟨_,rfl,r1⟩
theorem xh {x y:V} {us:ac Value} (r:bO [x,y] us):∃u w',us=[u,w']/\bI x u/\bI y w':=by
 cases r with
 |cons r1 r2=>
  cases r2 with
  |cons r3 r4=>cases r4;exact⟨_,_,rfl,r1,r3⟩
theorem Nl:eE X (.builtin "abs") (fun xs H Q=>∃i,xs=[.int i]/\Q (.int (if i<0 then -i else i)) H):=by intro pins s σ H xs us Q I r h;obtain⟨i,rfl,q⟩:=h;obtain⟨u,rfl,t,rfl⟩:=fu r;exact call_abs_int fun u tk=>⟨.int (if i<0 then -i else i),H,I.tok _,⟨_,rfl⟩,q⟩
theorem JX (hc:X.calm=ah):eE X (.builtin "max") (fun xs H Q=>∃i j,xs=[.int i,.int j]/\Q (.int (if j > i then j else i)) H):=by
 intro pins s σ H xs us Q I r h;obtain⟨i,j,rfl,q⟩:=h;obtain⟨u,w',rfl,⟨t,rfl⟩,⟨t',rfl⟩⟩:=xh r;refine max_two_ints (I.ok.hd hc) fun h' tk k=>⟨_,H,I.kept k,?_,q⟩;by_cases hj:j > i
 .rw[qY hj,qY hj];exact⟨_,rfl⟩
 .rw[qZ hj,qZ hj];exact⟨_,rfl⟩
theorem Oi (hc:X.calm=ah):eE X (.builtin "min") (fun xs H Q=>∃i j,xs=[.int i,.int j]/\Q (.int (if j<i then j else i)) H):=by
 intro pins s σ H xs us Q I r h;obtain⟨i,j,rfl,q⟩:=h;obtain⟨u,w',rfl,⟨t,rfl⟩,⟨t',rfl⟩⟩:=xh r;refine min_two_ints (I.ok.hd hc) fun h' tk k=>⟨_,H,I.kept k,?_,q⟩;by_cases hj:j<i
 .rw[qY hj,qY hj];exact⟨_,rfl⟩
 .rw[qZ hj,qZ hj];exact⟨_,rfl⟩
theorem Gc:eE X (.type "int") (fun xs H Q=>(∃i,xs=[.int i]/\Q (.int i) H)\/∃k,xs=[.bl k]/\Q (.int (if k then 1 else 0)) H):=by
 intro pins s σ H xs us Q I r h;rcases h with⟨i,rfl,q⟩|⟨k,rfl,q⟩
 .obtain⟨u,rfl,t,rfl⟩:=fu r;exact call_int_int ⟨.int i,H,I,⟨_,rfl⟩,q⟩
 .obtain⟨u,rfl,r1⟩:=fu r;cases r1;exact call_int_bool ⟨.int (if k then 1 else 0),H,I.tok _,⟨_,rfl⟩,q⟩
noncomputable def J0 (K:bu) (x:V) (H:Hp) (n:al):Prop:=
 match x with
 |.str y=>y.length<=aW/\n=y.length
 |.byt y=>y.size<=aW/\n=y.size
 |.ref p=>(∃xs,SqL K H p xs/\n=xs.length)\/∃xs,SqT K H p xs/\n=xs.length
 |_=>False
theorem Pn:eE X (.builtin "len") (fun xs H Q=>∃x n,xs=[x]/\J0 X.K x H n/\Q (.int n) H):=by
 intro pins s σ H xs us Q I r h;obtain⟨x,n,rfl,e,q⟩:=h;obtain⟨u,rfl,rx⟩:=fu r;have hl:=uh;have hs:aW=16777216:=fT;cases x with
 |str y=>
  obtain⟨t,rfl⟩:=rx;obtain⟨hy,e'⟩:y.length<=aW/\n=y.length:=e;subst e';exact len_str .(f) ⟨.int _,H,I.tok _,⟨_,rfl⟩,q⟩
 |byt y=>
  obtain⟨t,rfl⟩:=rx;obtain⟨hy,e'⟩:y.size<=aW/\n=y.size:=e;subst e';exact PySem.W.len_bytes .(f) ⟨.int _,H,I.tok _,⟨_,rfl⟩,q⟩
 |ref p=>
  cases rx;have e':(∃xs,SqL X.K H p xs/\n=xs.length)\/∃xs,SqT X.K H p xs/\n=xs.length:=e;rcases e' with⟨xs,hx,e'⟩|⟨xs,hx,e'⟩
  .subst e';obtain⟨its,r',pl,hz⟩:=I.list hx;have hlen:=r'.length;exact Calls.call_len_list pl.isList (by simp only[qA];omega) ⟨.int xs.length,H,I.tok _,⟨_,by simp only[qA];rw[hlen]⟩,q⟩
  .subst e';obtain⟨its,r',pl,hz⟩:=I.tuple hx;have hlen:=r'.length;exact len_tuple pl (by simp only[qA];omega) ⟨.int xs.length,H,I.tok _,⟨_,by simp only[qA];rw[hlen]⟩,q⟩
 |_=>exact(show False from e).elim
end
structure ObjM (h:Heap) (x dx C:av) (mA:aj->ar Value):Prop where
 obj:h.get? x=aa (nh C dx)
 ns:h.Ns1 dx mA
 ne:dx≠x
variable {dx:av} {mA:aj->ar Value}
theorem Ot {h:Heap} (n:h.Ns1 dx mA):∃od,h.get? dx=aa od/\∀name,y0 name od=aa (mA name):=by
 obtain⟨o,es,ep,ho,hd,hk,_,hm⟩:=n;refine⟨o,ho,fun name=>?_⟩;have e:=hm name;unfold nsFind findBy at e;rw[←Array.find?_toList] at e;unfold y0;rw[hd];dsimp only;split
 .rename_i y q;rw[q] at e;exact cJ aa e
 .rename_i q;rw[q] at e;have a:es.toList.any (·.refKey)=ao:=by rw[y6];intro y hy;obtain⟨z,t,hkey⟩:=hk y (EU.mp hy);simp[DictEntry.refKey,hkey]
  have a':¬es.toList.any (·.refKey)=ah:=by rw[a];exact qt
  rw[qZ a'];exact cJ aa e
variable {C:av}
theorem ObjM.look {h:Heap} {x:av} (I:ObjM h x dx C mA):∃od,PySem.W.InstAt h x (nh C dx) C (aa od)/\∀name,y0 name od=aa (mA name):=
 let ⟨od,ho,hl⟩:=Ot I.ns
 ⟨od,⟨I.obj,rfl,rfl,ho⟩,hl⟩
variable {prog:bV} {name:aj} {pl:Sem aQ} {ns:ac aj} {R:Result->aH->Prop} {kw:ac (aj×Value)}
section
variable {E:Value->aH->Prop} {x f:av} {v:Value}
theorem K7 {expr:aQ} (X:K.In s.heap) (I:ObjM s.heap x dx C mA) (hg:vt K C name=ah) (hh:y7 K C=ah)
  (ha:dN K (.ref C) name=aa ab) (hv:mA name=aa v) (hv':QU v=ah) (h:Q v {s with toks:=s.toks+1}) :
  aM .(N) A (getAttr (.ref x) name expr) Q E s:=by
 obtain⟨od,J,hl⟩:=I.look;exact PySem.W.get_value X J (EV hg).1 (PySem.W.findObj_own hh ha rfl (by rw[hl,hv])) hv' h
theorem IZ {Q:Value×ac Value->aH->Prop} (X:K.In s.heap) (I:ObjM s.heap x dx C mA) (hg:vt K C name=ah)
  (hf:dN K (.ref C) name=aa (aa (.ref f))) (ht:vx K (.ref f)=ah) (hv:mA name=ab) (h:Q (.ref f,[.ref x]) s) :
  aM .(N) A (pc (.ref x) name pl) Q E s:=by
 obtain⟨od,J,hl⟩:=I.look;exact PySem.W.method_fn X J (EV hg).1 (EV hg).2 hf (kO.mp ht) (by show(y0 name od).map (·.isSome)=aa ao;rw[hl,hv];rfl) h
theorem La {Q:lO->aH->Prop} (X:K.In s.heap) (I:ObjM s.heap x dx C mA)
  (hs:dN K (.ref C) "__setattr__"=aa (aa (.builtin "object.__setattr__"))) (hp:EW K C=ah) (ht:EX K C name=aa ab) (hh:y7 K C=ah)
  (hw:EJ mA ns) (hsz:ns.length<=aW)
  (h:∀h',ObjM h' x dx C (fun y=>if y=name then aa v else mA y)->iF dx s.heap h'->Q () {s with heap:=h',toks:=s.toks+2}) :
  aM .(N) A (setAttr (.ref x) name v) Q E s:=by
 obtain⟨od,J,hl⟩:=I.look;refine PySem.W.set_plain X J hs (PySem.W.osa_open (s:={s with toks:=s.toks+1}) (r:=ab) X J hp ht fun b=>?_);obtain⟨cd,hc,hd'⟩:=PySem.W.any_some hh;have hx:s.heap.get? x=aa ⟨.ref C,aa dx,.plain,#[]⟩:=I.obj;refine qx (qz (qx (qx (wpAny_loadPart hx (qx (Tu (s:={s with toks:=s.toks+1}) (PySem.W.looks_clsIn X hc) ?_))))));rw[hd'];refine qz (a:=aa dx) (qx (qz (qx ?_)));refine wpAny_nsSet1 (s:={s with toks:=s.toks+1}) I.ns fun h' hn2 hs2=>?_;obtain⟨oD,esD,epD,hoD,hdD,hcD⟩:=hn2.count (Tv name v hw);refine qx (wpAny_lookBehind hoD (by rw[hdD];exact pastItsLine_dict (qL hcD (by rw[qj];omega))) ?_);exact qz (h _ ⟨(hs2.2 _ (dI I.ne)).trans I.obj,hn2,I.ne⟩ hs2)
theorem Hw {vs:ac Value} (X:K.In s.heap) (hm:y9 K C=ah)
  (hi:dN K (.ref C) "__init__"=aa (aa (.ref f))) (hf:PySem.W.typeIn K (.ref f)=aa (.type "function"))
  (h:iH .(N) (A.under (.builtin "type.__call__" ⟨.ref C::vs,kw⟩)) (.call (.ref f) ⟨.ref .(aA)::vs,kw⟩) (PySem.W.InitBack .(aA) R)
   {s with heap:=(s.heap.push lR).push (nh C s.heap.objs.size)}) :
  iH .(N) A (.call (.ref C) ⟨vs,kw⟩) R s:=by
 obtain⟨hh,g,d,t,os⟩:=s;exact PySem.W.make_core (PySem.W.makes_of X hm) (PySem.W.looks_findIn X hi) (fun self=>PySem.W.bind_fn X self hf) (.inl rfl) h
end
noncomputable def fE (f:aj) (v:V):ac (aj×V)->ac (aj×V)
 |[]=>[(f,v)]
 |(g,x)::r=>if g=f then (g,v)::r else (g,x)::fE f v r
theorem BU (f g:aj) (v:V):∀fs:ac (aj×V),(fE f v fs).lookup g=if g=f then aa v else fs.lookup g
 |[]=>by
  show dJ g [(f,v)]=_;by_cases h:g=f
  .have hb:(g==f)=ah:=kO.mpr h;simp only[dJ,hb,qY h]
  .have hb:(g==f)=ao:=ng.mpr h;simp only[dJ,hb,qZ h]
 |(k,x)::r=>by
  have ih:=BU f g v r;rw[show fE f v ((k,x)::r)=(if k=f then (k,v)::r else (k,x)::fE f v r) from rfl];by_cases hk:k=f
  .rw[qY hk];by_cases h:g=k
   .have hb:(g==k)=ah:=kO.mpr h;simp only[dJ,hb,qY (h.trans hk)]
   .have hb:(g==k)=ao:=ng.mpr h;simp only[dJ,hb,qZ (fun e:g=f=>h (e.trans hk.symm))]
  .rw[qZ hk];by_cases h:g=k
   .have hb:(g==k)=ah:=kO.mpr h;simp only[dJ,hb,qZ (fun e:g=f=>hk (h.symm.trans e))]
   .have hb:(g==k)=ao:=ng.mpr h;simp only[dJ,hb];exact ih
theorem xb (f:aj) (v:V):∀fs:ac (aj×V),f∈(fE f v fs).map (·.1)/\∀g,g∈fs.map (·.1)->g∈(fE f v fs).map (·.1)
 |[]=>⟨by simp[fE],fun g h=>by simp at h⟩
 |(k,x)::r=>by
  obtain⟨i1,i2⟩:=xb f v r;rw[show fE f v ((k,x)::r)=(if k=f then (k,v)::r else (k,x)::fE f v r) from rfl];by_cases hk:k=f
  .rw[qY hk];subst hk;exact⟨by simp,fun g h=>by simpa using h⟩
  .rw[qZ hk];refine⟨?_,fun g h=>?_⟩
   .rw[qo];exact qi _ i1
   .rw[qo] at h ⊢;rcases c0.mp h with e|e
    .exact c0.mpr (.inl e)
    .exact qi _ (i2 g e)
theorem DX (f:aj) (v:V):∀fs:ac (aj×V),(fE f v fs).length<=fs.length+1
 |[]=>by simp[fE]
 |(k,x)::r=>by
  have ih:=DX f v r;rw[show fE f v ((k,x)::r)=(if k=f then (k,v)::r else (k,x)::fE f v r) from rfl];by_cases hk:k=f
  .rw[qY hk,qj,qj];omega
  .rw[qZ hk,qj,qj];omega
theorem eC.some_of {o:ar Value} (r:eC (aa v) o):∃u,o=aa u/\bI v u:=by
 cases o with
 |none=>exact(show False from r).elim
 |some u=>exact⟨u,rfl,r⟩
theorem eC.none_of {o:ar Value} (r:eC ab o):o=ab:=by
 cases o with
 |none=>rfl
 |some u=>exact(show False from r).elim
theorem G6 (r:bI v u):QU u=ah:=by
 cases v with
 |non=>cases(show u=o5 from r);rfl
 |bl b=>cases(show u=jV b from r);rfl
 |int i=>obtain⟨t,e⟩:=(show ∃t,u=c4 i t from r);cases e;rfl
 |str x=>obtain⟨t,e⟩:=(show ∃t,u=rV x t from r);cases e;rfl
 |byt b=>obtain⟨t,e⟩:=(show ∃t,u=QI b t from r);cases e;rfl
 |flt b=>obtain⟨t,e⟩:=(show ∃t,u=EI b t from r);cases e;rfl
 |ref a=>cases(show u=cm a from r);rfl
 |ty n=>cases(show u=lM n from r);rfl
section
variable {P:bV} {h:Heap} {fs fs':ac (aj×V)}
theorem uK (hok:HOk P w H h) (e:H a=aa (.ins C dx fs)):∃mA,ObjM h a dx C mA/\(∀f,eC (fs.lookup f) (mA f))/\EJ mA (fs.map (·.1))/\fs.length<=1000/\H dx=aa (.own a):=by obtain⟨d,z,ne,ob,mA,n,r,q⟩:=(show cX P w H h a (.ins C dx fs) from hok a _ e);exact⟨mA,⟨ob,n,ne⟩,r,q,z,d⟩
end
structure Cls (K:bu) (C:av):Prop where
 pg:vt K C gi=ah
 hd:y7 K C=ah
 po:EW K C=ah
 sa:dN K (.ref C) "__setattr__"=aa (aa (.builtin "object.__setattr__"))
theorem Cls.get (c:Cls K C) (f:aj):vt K C f=ah:=c.pg
noncomputable def lg (K:bu) (C:av) (f:aj):Prop:=dN K (.ref C) f=aa ab
theorem lg.taker {K:bu} {C:av} {f:aj} (n:lg K C f):EX K C f=aa ab:=by unfold EX;rw[show dN K (.ref C) f=aa ab from n];rfl
structure Meth (K:bu) (C:av) (m:aj) (f:av):Prop where
 at_:dN K (.ref C) m=aa (aa (.ref f))
 fn:vx K (.ref f)=ah
 kp:iI K (.ref f)=ah
variable {m:aj} {env:c8}
section
variable {fs:ac (aj×V)} {f:aj} {E:Value->aH->Prop}
theorem Lo {b:aQ} (I:Inv X pins σ H s) (e:H a=aa (.ins C dx fs)) (c:Cls X.K C) (n:lg X.K C f) (l:fs.lookup f=aa v)
  (h:∀u s',Inv X pins σ H s'->bI v u->Q u s'):aM .(s) A (getAttr (.ref a) f b) Q E s:=by
 obtain⟨mA,O,r,_,_,_⟩:=uK I.hok e;obtain⟨u,hu,ru⟩:=eC.some_of (v:=v) (o:=mA f) (by rw[←l];exact r f);exact K7 I.kIn O (c.get f) c.hd n hu (G6 ru) (h u _ (I.tok _) ru)
theorem xV {g:av} {Q:Value×ac Value->aH->Prop} (I:Inv X pins σ H s) (e:H a=aa (.ins C dx fs)) (c:Cls X.K C) (k:Meth X.K C m g) (l:fs.lookup m=ab)
  (h:Q (.ref g,[.ref a]) s):aM .(s) A (pc (.ref a) m pl) Q E s:=by
 obtain⟨mA,O,r,_,_,_⟩:=uK I.hok e;have hn:mA m=ab:=eC.none_of (by rw[←l];exact r m);exact IZ I.kIn O (c.get m) k.at_ k.fn hn h
theorem Qg {y:V} {Q:lO->aH->Prop} (I:Inv X pins σ H s) (e:H a=aa (.ins C dx fs)) (c:Cls X.K C) (n:lg X.K C f) (hl:fs.length<1000) (ry:bI y u)
  (h:∀s',Inv X pins σ (upd H a (.ins C dx (fE f y fs))) s'->Q () s'):aM .(s) A (setAttr (.ref a) f u) Q E s:=by
 obtain⟨mA,O,r,wi,_,ho⟩:=uK I.hok e;have hz:(fs.map (·.1)).length<=aW:=by rw[qg,fT];omega
 refine La I.kIn O c.sa c.po n.taker c.hd wi hz fun h' O' sb=>h _ ?_;have hd:∃o,h'.get? dx=aa o:=let ⟨o,_,_,e',_⟩:=O'.ns;⟨o,e'⟩
 refine I.write (x:=a) (e:=dx) (by rw[e];exact iJ) (.inr ho) (fun b q hb z=>(sb.2 b hb).trans z) hd ?_;refine⟨by rw[a7 O.ne];exact ho,?_,O.ne,O'.obj,_,O'.ns,fun g=>?_,fun g hg=>?_⟩
 .have:=DX f y fs;omega
 .show eC ((fE f y fs).lookup g) (if g=f then aa u else mA g);rw[BU];by_cases q:g=f
  .rw[qY q,qY q];exact ry
  .rw[qZ q,qZ q];exact r g
 .by_cases q:g=f
  .rw[q];exact(xb f y fs).1
  .refine(xb f y fs).2 g (wi g fun z=>hg ?_);show(if g=f then aa u else mA g)=ab;rw[qZ q];exact z
theorem Inv.made (I:Inv X pins σ H s):Inv X pins σ (upd (upd H s.heap.objs.size (.own .(aA))) .(aA) (.ins C s.heap.objs.size []))
  {s with heap:=(s.heap.push lR).push (nh C s.heap.objs.size)}:=by
 have e1:(s.heap.push lR).get? s.heap.objs.size=aa lR:=qF s.heap rfl;have e2:((s.heap.push lR).push (nh C s.heap.objs.size)).get? .(aA)=aa (nh C s.heap.objs.size):=by
  have:=qF (s.heap.push lR) (o:=nh C s.heap.objs.size) rfl
  rwa [lS] at this
 have e3:(s.heap.push lR).Ns s.heap.objs.size (fun _=>ab):=⟨lR,#[],_,e1,rfl,(fun e he=>bK he (by simp)),fun _=>rfl⟩;have I1:=I.laid (a:=s.heap.objs.size) (o:=.own .(aA)) (h':=s.heap.push lR) (t':=s.toks) (fun b u q=>qu _ q) (qw _) ⟨_,e1⟩;refine I1.laid (a:=s.heap.objs.size+1) (o:=.ins C s.heap.objs.size []) (t':=s.toks) (fun b u q=>qu _ q) (za (lS _ _)) ?_;have ne:s.heap.objs.size≠s.heap.objs.size+1:=qB (rZ _);refine⟨by rw[a7 ne,ca],iK _,ne,e2,fun _=>ab,(Heap.Ns1.of_empty e3).at fun o q=>qu _ q,fun _=>iJ,fun y hy=>bK rfl hy⟩
theorem OD (hb:ig e f env (eval e env)=eval e env)
  (h:aM .(N) A (eval e env) (fun o s₁=>aM .(N) A (getAttr o f ah) Q E s₁) E s):aM .(N) A (eval (.Attribute e f pos) env) Q E s:=
 Attribute_any_ h (by rw[arm_eval_Attribute,hb])
end
noncomputable def JZ (K:bu) (ta:TE) (f:aj):TE:=fun σ H Q=>ta σ H fun x H1=>∃a C dx fs v,x=.ref a/\H1 a=aa (.ins C dx fs)/\Cls K C/\lg K C f/\fs.lookup f=aa v/\Q v H1
noncomputable def PL (K:bu) (ta tv:TE) (f:aj):TS:=fun D σ H=>tv σ H fun y H1=>ta σ H1 fun x H2=>∃a C dx fs,x=.ref a/\H2 a=aa (.ins C dx fs)/\Cls K C/\lg K C f/\fs.length<1000 /\
 D.nx σ (upd H2 a (.ins C dx (fE f y fs)))
variable {o value:Expr} {tpos apos:dD} {tv:TE}
section
variable {f:aj}
theorem xl (he:PE X e ta) (hb:ig e f X.env (eval e X.env)=eval e X.env):PE X (.Attribute e f pos) (JZ X.K ta f):=by intro pins s σ H Q I h;refine OD hb (thn (he pins s σ H _ I h) fun u s1 ⟨x,H1,I1,rx,a,C,dx,fs,v,ex,ea,c,n,l,q⟩=>?_);subst ex;obtain rfl:u=cm a:=rx;exact Lo I1 ea c n l fun u' s2 I2 ru=>⟨v,H1,I2,ru,q⟩
theorem BJ (ha:PE X o ta) (hv:PE X value tv) (hs:fG value (aa (.Attribute o f pos')) pos.line X.env=bG ao):PS X (.Assign [.Attribute o f pos'] value pos) (PL X.K ta tv f):=by intro pins s σ H D I h;refine plainObj_wpAny_Assign_Attribute (thn (hv pins s σ H _ I h) fun u s1 ⟨y,H1,I1,ry,q⟩=>thn (ha pins s1 σ H1 _ I1 q) fun ov s2 ⟨x,H2,I2,rx,a,C,dx,fs,ex,ea,c,n,l,q2⟩=>?_) hs;subst ex;obtain rfl:ov=cm a:=rx;exact Qg I2 ea c n l ry fun s3 I3=>⟨σ,_,I3,q2⟩
theorem S0 {args:ac Expr} (he:PE X e te) (I:Inv X pins σ H s)
  (h:te σ H fun x H1=>∃a C dx fs g,x=.ref a/\H1 a=aa (.ins C dx fs)/\Cls X.K C/\Meth X.K C m g/\fs.lookup m=ab /\
   ∀s1,Inv X pins σ H1 s1->aM .(s) X.A (sd pos (.ref g) [.ref a] (cN pos (a8 args X.env)) (ji pos (jj [] X.env))) Q X.xe s1)
  (ht:eval (.Call (.Attribute e m apos) args [] pos) X.env=(do
   let ov ←eval e X.env
   o6 apos.atName
   let (f,first) ←jX [ov] (pc ov m pl)
   sd pos f first (cN pos (a8 args X.env)) (ji pos (jj [] X.env)))) :
  aM .(s) X.A (eval (.Call (.Attribute e m apos) args [] pos) X.env) Q X.xe s:=by
 refine EY (pl:=pl) (thn (he pins s σ H _ I h) fun u s1 ⟨x,H1,I1,rx,a,C,dx,fs,g,ex,ea,c,k,l,q⟩=>?_) ht;subst ex;obtain rfl:u=cm a:=rx;exact xV I1 ea c k l (q s1 I1)
end
section
variable {E:Value->aH->Prop} {c:Value} {b:aQ}
inductive TyOf (K:bu) (H:Hp):V->Value->Prop where
 |non:TyOf K H .non (.type "NoneType")
 |bl (x:aQ):TyOf K H (.bl x) (.type "bool")
 |int (i:ag):TyOf K H (.int i) (.type "int")
 |str (x:aj):TyOf K H (.str x) (.type "str")
 |flt (x:UInt64):TyOf K H (.flt x) (.type "float")
 |lst {a:av} {xs:ac V} (e:H a=aa (.lst xs)):TyOf K H (.ref a) (.type "list")
 |frz {a:av} {o:bf} {xs:ac V} (e:H a=aa (.frz o (.lst xs))):TyOf K H (.ref a) (.type "list")
 |tup {a:av} {xs:ac V} (e:H a=aa (.tup xs)):TyOf K H (.ref a) (.type "tuple")
 |dK {a:av} {kvs:ac (Key×V)} (e:H a=aa (.dK kvs)):TyOf K H (.ref a) (.type "dict")
 |dT {a:av} {kvs:ac (ac Key×V)} (e:H a=aa (.dT kvs)):TyOf K H (.ref a) (.type "dict")
 |ins {a C dx:av} {fs:ac (aj×V)} (e:H a=aa (.ins C dx fs)) (cl:Cls K C) (ha:dN K (.ref C) "__class__"=aa (aa (.builtin "object.__class__")))
   (hn:PySem.W.specialIn K (.builtin "object.__class__") "__get__"=aa (aa (.builtin "getset_descriptor.__get__"))) (htk:PySem.W.takesIn K (.builtin "object.__class__")=aa ah)
   (hm:PySem.W.mroIn K C (.type "object")=aa ah):TyOf K H (.ref a) (.ref C)
theorem MG {x:V} {t:Value} (I:Inv X pins σ H s) (rx:bI x u) (ty:TyOf X.K H x t) (e:QV X.K t c=aa b) (h:∀tk,Q (.bool b) {s with toks:=tk}) :
  aM .(s) A (call (.builtin "isinstance") [u,c]) Q E s:=by
 cases ty with
 |non=>cases(show u=o5 from rx);exact j0 PySem.W.kitx_none I.kIn iJ e (fun z=>nomatch z) h
 |bl y=>cases(show u=jV y from rx);exact j0 PySem.W.kitx_bool I.kIn iJ e (fun z=>nomatch z) h
 |int i=>obtain⟨t,q⟩:=(show ∃t,u=c4 i t from rx);cases q;exact j0 PySem.W.kitx_int I.kIn iJ e (fun z=>nomatch z) h
 |str y=>obtain⟨t,q⟩:=(show ∃t,u=rV y t from rx);cases q;exact j0 PySem.W.kitx_str I.kIn iJ e (fun z=>nomatch z) h
 |flt y=>obtain⟨t,q⟩:=(show ∃t,u=EI y t from rx);cases q;exact j0 PySem.W.kitx_float I.kIn iJ e (fun z=>nomatch z) h
 | @lst a xs ea=>
  cases(show u=cm a from rx);obtain⟨_,_,n,_,h1⟩:=(show cX X.prog X.w H s.heap a (.lst xs) from I.hok a _ ea);exact j0 QW I.kIn ⟨_,h1,rfl⟩ e (fun z=>nomatch z) h
 | @frz a ob xs ea=>
  cases(show u=cm a from rx);obtain⟨_,_,_,n,_,h1⟩:=(show cX X.prog X.w H s.heap a (.frz ob (.lst xs)) from I.hok a _ ea);exact j0 QW I.kIn ⟨_,h1,rfl⟩ e (fun z=>nomatch z) h
 | @tup a xs ea=>
  cases(show u=cm a from rx);obtain⟨_,_,_,p⟩:=(show cX X.prog X.w H s.heap a (.tup xs) from I.hok a _ ea);obtain⟨o,h1,h2,_⟩:=p;exact j0 PySem.W.kitx_tuple I.kIn ⟨o,h1,h2⟩ e (fun z=>nomatch z) h
 | @dK a kvs ea=>
  cases(show u=cm a from rx);obtain⟨_,_,vs,_,p⟩:=(show cX X.prog X.w H s.heap a (.dK kvs) from I.hok a _ ea);obtain⟨o,es,ep,h1,h2,_⟩:=p;exact j0 QX I.kIn ⟨o,h1,h2.1⟩ e (fun z=>nomatch z) h
 | @dT a kvs ea=>
  cases(show u=cm a from rx);obtain⟨_,_,xs,_,o,es,ep,h1,h2,_⟩:=(show cX X.prog X.w H s.heap a (.dT kvs) from I.hok a _ ea);exact j0 QX I.kIn ⟨o,h1,h2.1⟩ e (fun z=>nomatch z) h
 | @ins a C dx fs ea cl ha hn htk hm=>
  cases(show u=cm a from rx);obtain⟨mA,O,_⟩:=uK I.hok ea;obtain⟨od,J,_⟩:=O.look;exact j0 (PySem.W.kitx_own (cl.get _) cl.hd ha hn htk hm) I.kIn J e (fun z=>nomatch z) h
end
structure Room (k:al) (A:dB):Prop where
 hd:A.handled=ab
 dp:A.depth+3*k+5<recursionLimit
 un:A.units+16*k+200<cy
theorem Room.mono {k:al} (r:Room k A) (h:j<=k):Room j A:=⟨r.hd,by have:=r.dp;omega,by have:=r.un;omega⟩
theorem Room.deeper {k:al} (r:Room (k+1) A) (env:c8):Room k (A.deeper env):=
 ⟨r.hd,by have:=r.dp;show A.depth+1+3*k+5 < _;omega,by have:=r.un;show A.units+3+16*k+200 < _;omega⟩
theorem GD {us:ac Value} :(A.under (.builtin "type.__call__" ⟨.ref C::us,kw⟩)).depth=A.depth+1:=by
 first|rfl|simp[EZ,Code.weight,Code.isCreation,Code.isGuard,Code.isCaller,QY,E1,guardIds]
theorem Mm {us:ac Value} :(A.under (.builtin "type.__call__" ⟨.ref C::us,kw⟩)).units=A.units+1:=by
 first|rfl|simp[EZ,Code.cUnits,QY,E1]
theorem Room.make {k:al} (r:Room (k+1) A) (C:av) (us:ac Value) (kw:ac (aj×Value)):Room k (A.under (.builtin "type.__call__" ⟨.ref C::us,kw⟩)):=
 ⟨r.hd,by have:=r.dp;rw[GD];omega,by have:=r.un;rw[Mm];omega⟩
theorem Room.depth {k:al} (r:Room k A):A.depth<recursionLimit:=by have:=r.dp;omega
noncomputable def Do:TA:=fun _ H Q=>Q [] H
noncomputable def O8 (ta:TE) (tr:TA):TA:=fun σ H Q=>ta σ H fun x H1=>tr σ H1 fun xs H2=>Q (x::xs) H2
section
variable {t:TA}
theorem jw:PA X [] Do:=fun _ _ _ _ H Q I h=>zb ⟨[],H,I,.nil,h⟩
theorem jx (ha:PE X e te) (hr:PA X es t) (hs:a8 (e::es) X.env=(ao,eval e X.env)::a8 es X.env:=by rfl):PA X (e::es) (O8 te t):=by intro pos pins s σ H Q I h;rw[hs];show aM _ _ (spliced ((ao,eval e X.env)::cN pos (a8 es X.env))) _ _ s;refine vy (thn (ha pins s σ H _ I h) fun u s1 ⟨x,H1,I1,r1,q1⟩=>?_);exact thn (hr pos pins s1 σ H1 _ I1 q1) fun us s2 ⟨xs,H2,I2,r2,q2⟩=>⟨x::xs,H2,I2,.cons r1 r2,q2⟩
noncomputable def Gs (t:TA):TE:=fun σ H Q=>t σ H fun xs H1=>xs.length<=aW/\∀p,H1 p=ab->Q (.ref p) (upd H1 p (.tup xs))
noncomputable def JO (t:TA):TE:=fun σ H Q=>t σ H fun xs H1=>xs.length<=aW/\∀p,H1 p=ab->Q (.ref p) (upd H1 p (.lst xs))
theorem OU {x1} (h:PA X es t):PE X (.Tuple es x1 pos) (Gs t):=by intro pins s σ H Q I hq;refine wpAny_Tuple_spliced (thn (h pos pins s σ H _ I hq) fun us s1 ⟨xs,H1,I1,r,z,q⟩=>⟨by rw[←r.length];exact z,?_⟩);have hf:H1 s1.heap.objs.size=ab:=I1.hok.fresh (qw _);refine⟨.ref s1.heap.objs.size,upd H1 s1.heap.objs.size (.tup xs),I1.laid (t':=s1.toks) (fun b u e=>qu _ e) (qw _) ?_,rfl,q _ hf⟩;exact⟨z,us,r,⟨_,qF _ rfl,rfl,_,rfl⟩⟩
theorem M0 (h:PA X es t):PE X (.List es pos) (JO t):=by intro pins s σ H Q I hq;refine wpAny_List_spliced (thn (h pos pins s σ H _ I hq) fun us s1 ⟨xs,H1,I1,r,z,q⟩=>⟨by rw[←r.length];exact z,?_⟩);have hf:H1 s1.heap.objs.size=ab:=I1.hok.fresh (qw _);refine⟨.ref s1.heap.objs.size,upd H1 s1.heap.objs.size (.lst xs),I1.laid (t':=s1.toks) (fun b u e=>qu _ e) (qw _) ?_,rfl,q _ hf⟩;exact⟨z,us,0,r,qF _ rfl⟩
end
noncomputable abbrev Sp:=ac V->Hp->VK->XK->Prop
noncomputable abbrev CXT:=ac c8->Hp->aH->XK->Value->aH->Prop
structure Env0 (P:bV) (w:cR) (K:bu) (mg:aj->ar Value) (base:Heap) (A:dB) (outer:ac c8) (s:aH) (H:Hp):Prop where
 frames:A.frames=aa outer
 mod:Mod K mg base
 bs:∀b o,base.get? b=aa o->s.heap.get? b=aa o/\H b=ab
 bsz:base.objs.size<=s.heap.objs.size
 funs:s.heap.FunFrames base outer
 frf:∀b∈frs outer,H b=ab
 hok:HOk P w H s.heap
 bare:kM s.gens
noncomputable def CE (outer:ac c8) (P:bV) (w:cR) (H:Hp) (s:aH) (Q:VK) (u:Value) (s':aH):Prop:=
 ∃v H',s'.os=s.os/\kM s'.gens/\Un (frs outer) [] H H' s.heap s'.heap/\HOk P w H' s'.heap/\bI v u/\Q v H'
noncomputable def CR (CX:CXT) (outer:ac c8) (P:bV) (w:cR) (H:Hp) (s:aH) (Q:VK) (E:XK) (r:Result) (s':aH):Prop:=
 match r with
 |.ok (.ret u)=>CE outer P w H s Q u s'
 |.ok _=>False
 |.error e=>CX outer H s E e s'
structure FnOk (P:bV) (w:cR) (K:bu) (mg:aj->ar Value) (base:Heap) (CX:CXT) (k:al) (f:av) (fd:nj) (ps:ac aj) (sp:Sp):Prop where
 len:∀vs H Q E,sp vs H Q E->vs.length=ps.length
 run:∀(A:dB) (outer:ac c8) (s:aH) (H:Hp) (args:Args) (us:ac Value) (vs:ac V) (Q:VK) (E:XK),Room k A->Env0 P w K mg base A outer s H->se s fd args (ps.zip us)->bO vs us->sp vs H Q E->
  iH (aR P w) A (.call (.ref f) args) (CR CX outer P w H s Q E) s
variable {mg:aj->ar Value} {base:Heap} {CX:CXT} {fd:nj} {ps:ac aj} {sp:Sp}
theorem FnOk.imp {P:bV} {k:al} {f:av} {sp':Sp} (F:FnOk P w K mg base CX k f fd ps sp)
  (h:∀vs H Q E,sp' vs H Q E->sp vs H Q E):FnOk P w K mg base CX k f fd ps sp':=
 ⟨fun vs H Q E q=>F.len vs H Q E (h _ _ _ _ q),fun A outer s H args us vs Q E hr he hb hv hs=>F.run A outer s H args us vs Q E hr he hb hv (h _ _ _ _ hs)⟩
variable {outer:ac c8}
theorem Env0.make {P:bV} (e:Env0 P w K mg base A outer s H) (C:av) (us:ac Value) (kw:ac (aj×Value)) :
  Env0 P w K mg base (A.under (.builtin "type.__call__" ⟨.ref C::us,kw⟩)) outer s H:=⟨by first|exact e.frames|(simpa[EZ,Code.envs,E1,pushEnvs] using e.frames),e.mod,e.bs,e.bsz,e.funs,e.frf,e.hok,e.bare⟩
theorem Inv.env0 (I:Inv X pins σ H s):Env0 X.prog X.w X.K X.mg X.base X.A X.stack s H:=
 ⟨I.ok.frames,I.ok.mod,I.bs,qL I.ok.bsz I.sz,I.stack,I.stkFree,I.hok,I.bare⟩
theorem Inv.after {Q:VK} (I:Inv X pins σ H s) (h:CE X.stack X.prog X.w H s Q u s'):EP X pins σ Q u s':=by obtain⟨v,H',os,bare,un,hok,r,q⟩:=h;obtain⟨hh,g,d,t,os'⟩:=s';obtain rfl:os'=s.os:=os;exact⟨v,H',I.call (h':=hh) (g':=g) (d':=d) (t':=t) (ch:=[]) un hok bare (fun b z=>bK z (by simp)),r,q⟩
noncomputable def Pg (sp:Sp) (dvs:ac V) (E:XK) (t:TA):TE:=fun σ H Q=>t σ H fun vs H1=>sp (vs++dvs) H1 Q E
noncomputable def BI (C:av) (m:aj) (sp:Sp) (dvs:ac V) (E:XK) (ta:TE) (t:TA):TE:=fun σ H Q=>ta σ H fun x H1=>∃a dx fs,x=.ref a/\H1 a=aa (.ins C dx fs)/\fs.lookup m=ab /\
 t σ H1 fun vs H2=>sp (x::(vs++dvs)) H2 Q E
noncomputable def Mz (C:av) (sp:Sp) (dvs:ac V) (E:XK) (t:TA):TE:=fun σ H Q=>t σ H fun vs H1=>∀x dx,H1 x=ab->H1 dx=ab->dx≠x->
 sp (.ref x::(vs++dvs)) (upd (upd H1 dx (.own x)) x (.ins C dx [])) (fun v H2=>v=.non/\Q (.ref x) H2) E
noncomputable def gG (K:bu) (fd:nj) (ps:ac aj) (ds:ac Value):Prop:=
 ∀(s:aH) (us:ac Value),K.In s.heap->(us++ds).length=ps.length->se s fd ⟨us,[]⟩ (ps.zip (us++ds))
theorem gG.all (h:∀us:ac Value,us.length=ps.length->kP fd ⟨us,[]⟩=bG (ps.zip us)):gG K fd ps []:=fun s us _ hl=>by rw[lT] at hl ⊢;exact .of_eq (h us hl)
noncomputable def my (CX:CXT) (X:Cx) (E:XK):Prop:=∀(pins:ac (av×bf)) (σ:St) (H:Hp) (s:aH) (e:Value) (s':aH),Inv X pins σ H s->CX X.stack H s E e s'->X.xe e s'
variable {vs:ac V}
section
variable {k:al} {f:av} {dvs:ac V} {ds:ac Value} {E:XK} {t:TA}
theorem yg {Q:VK} {us:ac Value} (F:FnOk X.prog X.w X.K X.mg X.base CX k f fd ps sp) (hr:Room k X.A) (hb:gG X.K fd ps ds) (hd:bO dvs ds) (hx:my CX X E)
  (I:Inv X pins σ H s) (r:bO vs us) (h:sp (vs++dvs) H Q E):aM .(s) X.A (call (.ref f) us) (EP X pins σ Q) X.xe s:=by
 have r2:bO (vs++dvs) (us++ds):=r.append hd;have hl:(us++ds).length=ps.length:=by rw[←r2.length];exact F.len _ _ _ _ h
 refine zc (sg (F.run X.A X.stack s H ⟨us,[]⟩ (us++ds) (vs++dvs) Q E hr I.env0 (hb s us I.kIn hl) r2 h) fun r s' hq=>?_);cases r with
 |error e=>exact hx pins σ H s e s' I hq
 |ok fl=>
  cases fl with
  |ret u=>exact I.after hq
  |next=>exact iG hq
  |brk=>exact iG hq
  |cont=>exact iG hq
theorem D1 (F:FnOk X.prog X.w X.K X.mg X.base CX k f fd ps sp) (hr:Room k X.A) (hg:Gl X x) (hm:X.mg x=aa (.ref f)) (hk:iI X.K (.ref f)=ah) (hb:gG X.K fd ps ds) (hd:bO dvs ds) (hx:my CX X E)
  (ha:PA X (e::es) t) (hdb:.(G)=ao:=by decide) (he:a8 (e::es) X.env=(ao,eval e X.env)::a8 es X.env:=by rfl) (hpl:(cN pos (a8 es X.env)).any (·.1)=ao:=by rfl) :
  PE X .(as) (Pg sp dvs E t):=by
 intro pins s σ H Q I h;refine zd (yz I hg hm ?_ hdb);refine E2 (h₀:=X.base) I.ok.mod.kin hk (thn (ha pos pins s σ H _ I h) fun us s1 ⟨vs,H1,I1,r,q⟩=>⟨I1.kIn,?_⟩) he hpl;exact yg F hr hb hd hx I1 r q
theorem OG (he:PE X o ta) (c:Cls X.K C) (hm:Meth X.K C m f) (F:FnOk X.prog X.w X.K X.mg X.base CX k f fd ps sp) (hr:Room k X.A) (hb:gG X.K fd ps ds) (hd:bO dvs ds) (hx:my CX X E) (ha:PA X (e::es) t)
  (hst:a8 (e::es) X.env=(ao,eval e X.env)::a8 es X.env:=by rfl) (hpl:(cN pos (a8 es X.env)).any (·.1)=ao:=by rfl)
  (ht:eval (.Call (.Attribute o m apos) (e::es) [] pos) X.env=(do
   let ov ←eval o X.env
   o6 apos.atName
   let (f,first) ←jX [ov] (pc ov m pl)
   sd pos f first (cN pos (a8 (e::es) X.env)) (ji pos (jj [] X.env))):=by rfl) :
  PE X (.Call (.Attribute o m apos) (e::es) [] pos) (BI C m sp dvs E ta t):=by
 intro pins s σ H Q I h;refine EY (pl:=pl) (thn (he pins s σ H _ I h) fun u s1 ⟨x,H1,I1,rx,a,dx,fs,ex,ea,l,q⟩=>?_) ht;subst ex;obtain rfl:u=cm a:=rx;refine xV I1 ea c hm l ?_;refine E2 (first:=[.ref a]) (h₀:=X.base) I.ok.mod.kin hm.kp (thn (ha pos pins s1 σ H1 _ I1 q) fun us s2 ⟨vs,H2,I2,r,q2⟩=>⟨I2.kIn,?_⟩) hst hpl;exact yg (us:=.ref a::us) (vs:=.ref a::vs) F hr hb hd hx I2 (.cons rfl r) q2
theorem Oh (he:PE X o ta) (c:Cls X.K C) (hm:Meth X.K C m f) (F:FnOk X.prog X.w X.K X.mg X.base CX k f fd ps sp) (hr:Room k X.A) (hb:gG X.K fd ps ds) (hd:bO dvs ds) (hx:my CX X E)
  (ht:eval (.Call (.Attribute o m apos) [] [] pos) X.env=(do
   let ov ←eval o X.env
   o6 apos.atName
   let (f,first) ←jX [ov] (pc ov m pl)
   sd pos f first (cN pos (a8 [] X.env)) (ji pos (jj [] X.env))):=by rfl) :
  PE X (.Call (.Attribute o m apos) [] [] pos) (BI C m sp dvs E ta Do):=by
 intro pins s σ H Q I h;refine EY (pl:=pl) (thn (he pins s σ H _ I h) fun u s1 ⟨x,H1,I1,rx,a,dx,fs,ex,ea,l,q⟩=>?_) ht;subst ex;obtain rfl:u=cm a:=rx;refine xV I1 ea c hm l ?_;exact PySem.W.callWith_K0 (first:=[.ref a]) I1.kIn hm.kp (yg (us:=[.ref a]) (vs:=[.ref a]) F hr hb hd hx I1 (.cons rfl .nil) q)
structure Mk (K:bu) (C f:av):Prop where
 makes:y9 K C=ah
 init:dN K (.ref C) "__init__"=aa (aa (.ref f))
 fn:vx K (.ref f)=ah
 kp:iI K (.ref C)=ah
theorem L' {Q:VK} {us:ac Value} (M:Mk X.K C f) (F:FnOk X.prog X.w X.K X.mg X.base CX k f fd ps sp) (hr:Room (k+1) X.A) (hb:gG X.K fd ps ds) (hd:bO dvs ds)
  (hx:my CX X E) (I:Inv X pins σ H s) (r:bO vs us)
  (h:∀x dx,H x=ab->H dx=ab->dx≠x->sp (.ref x::(vs++dvs)) (upd (upd H dx (.own x)) x (.ins C dx [])) (fun v H2=>v=.non/\Q (.ref x) H2) E) :
  aM .(s) X.A (call (.ref C) us) (EP X pins σ Q) X.xe s:=by
 have hq:=h .(aA) s.heap.objs.size (I.hok.fresh (lU _)) (I.hok.fresh (qw _)) (qB (rZ _));have I2:=Inv.made (C:=C) I;have r2:bO (V.ref .(aA)::(vs++dvs)) (cm .(aA)::(us++ds)):=.cons rfl (r.append hd);have hl:(cm .(aA)::us++ds).length=ps.length:=by have e:=r2.length;rw[F.len _ _ _ _ hq] at e;exact e.symm
 refine zc (Hw (f:=f) I.kIn M.makes M.init (kO.mp M.fn) (sg (F.run _ X.stack _ _ ⟨cm .(aA)::us,[]⟩ (cm .(aA)::(us++ds)) _ _ E (hr.make C us [])
  (I2.env0.make C us []) (hb _ (cm .(aA)::us) I2.kIn hl) r2 hq) fun r s' hq'=>?_))
 cases r with
 |error e=>exact hx pins σ _ _ e s' I2 hq'
 |ok fl=>
  cases fl with
  |ret u=>
   obtain⟨v,H',I3,rv,ev,q3⟩:=I2.after hq';subst ev;exact⟨rv,⟨V.ref .(aA),H',I3,rfl,q3⟩⟩
  |next=>exact iG hq'
  |brk=>exact iG hq'
  |cont=>exact iG hq'
theorem OS (M:Mk X.K C f) (F:FnOk X.prog X.w X.K X.mg X.base CX k f fd ps sp) (hr:Room (k+1) X.A) (hg:Gl X x) (hm:X.mg x=aa (.ref C)) (hb:gG X.K fd ps ds) (hd:bO dvs ds) (hx:my CX X E)
  (ha:PA X (e::es) t) (hdb:.(G)=ao:=by decide) (he:a8 (e::es) X.env=(ao,eval e X.env)::a8 es X.env:=by rfl) (hpl:(cN pos (a8 es X.env)).any (·.1)=ao:=by rfl) :
  PE X .(as) (Mz C sp dvs E t):=by
 intro pins s σ H Q I h;refine zd (yz I hg hm ?_ hdb);refine E2 (h₀:=X.base) I.ok.mod.kin M.kp (thn (ha pos pins s σ H _ I h) fun us s1 ⟨vs,H1,I1,r,q⟩=>⟨I1.kIn,?_⟩) he hpl;exact L' M F hr hb hd hx I1 r q
end
structure FnScope (N P:ac aj) (sc:Scope):Prop where
 kind:sc.kind=.function
 co:sc.isCoroutine=ao
 gen:sc.isGenerator=ao
 nd:N.Nodup
 pre:N.take P.length=P
 par:∀x∈P,sc.names.lookup x=aa .local\/sc.names.lookup x=aa .cell
 nofree:∀y∈sc.names,y.2≠.free
theorem Dd {kindOf:aj->ar ii} {x:aj}:∀{binds:ac (aj×Value)} {m:aj->ar Value},(∀v,(x,v)∉binds)->lV kindOf binds m x=m x
 |[],_,_=>rfl
 |(n,v)::r,m,h=>by
  unfold lV;rw[Dd fun w hw=>h w (qi _ hw)];split
  .have:x≠n:=by rintro rfl;exact h v qh
   simp[this]
  .rfl
theorem Af {kindOf:aj->ar ii} {x:aj}:∀{binds:ac (aj×Value)} {m:aj->ar Value},(∀v,(x,v)∉binds)->lW kindOf binds m x=m x
 |[],_,_=>rfl
 |(n,v)::r,m,h=>by
  unfold lW;rw[Af fun w hw=>h w (qi _ hw)];split
  .rfl
  .have:x≠n:=by rintro rfl;exact h v qh
   simp[this]
theorem Bc {kindOf:aj->ar ii} {x:aj} {v:Value}:∀{P:ac aj} {vs:ac Value} {i:al} {m:aj->ar Value},P.Nodup->P[i]?=aa x->vs[i]?=aa v->kindOf x=aa .local->
  lV kindOf (P.zip vs) m x=aa v
 |[],_,_,_,_,h,_,_=>by simp at h
 |_::_,[],_,_,_,_,h,_=>by simp at h
 |p::P,w::vs,0,m,nd,h1,h2,hk=>by
  simp at h1 h2;subst h1;subst h2;show lV kindOf ((p,w)::P.zip vs) m p=_;unfold lV;rw[Dd fun v hv=>(kQ.mp nd).1 (E3 hv).1,qY hk];simp
 |p::P,w::vs,i+1,m,nd,h1,h2,hk=>by show lV kindOf ((p,w)::P.zip vs) m x=_;unfold lV;exact Bc (i:=i) (kQ.mp nd).2 (by simpa using h1) (by simpa using h2) hk
theorem Bj {kindOf:aj->ar ii} {x:aj} {v:Value}:∀{P:ac aj} {vs:ac Value} {i:al} {m:aj->ar Value},P.Nodup->P[i]?=aa x->vs[i]?=aa v->kindOf x≠aa .local->
  lW kindOf (P.zip vs) m x=aa v
 |[],_,_,_,_,h,_,_=>by simp at h
 |_::_,[],_,_,_,_,h,_=>by simp at h
 |p::P,w::vs,0,m,nd,h1,h2,hk=>by
  simp at h1 h2;subst h1;subst h2;show lW kindOf ((p,w)::P.zip vs) m p=_;unfold lW;rw[Af fun v hv=>(kQ.mp nd).1 (E3 hv).1,qZ hk];simp
 |p::P,w::vs,i+1,m,nd,h1,h2,hk=>by show lW kindOf ((p,w)::P.zip vs) m x=_;unfold lW;exact Bj (i:=i) (kQ.mp nd).2 (by simpa using h1) (by simpa using h2) hk
noncomputable def gR (N:ac aj) (vs:ac V):St:=vs.map aa++cq (N.length-vs.length) ab
noncomputable def gH (CX:CXT) (P:bV) (w:cR) (K:bu) (mg:aj->ar Value) (base:Heap) (N:ac aj) (qual:aj) (scope:Scope) (f:av) (cd:Value) (A:dB) (outer:ac c8) (s:aH) (H:Hp) (E:XK):Cx where
 prog:=P
 w:=w
 K:=K
 mg:=mg
 base:=base
 A:=A.deeper (eX qual scope s.heap.objs.size f cd)
 N:=N
 s₀:=s
 H₀:=H
 env:=eX qual scope s.heap.objs.size f cd
 outer:=outer
 stack:=eX qual scope s.heap.objs.size f cd::outer
 ex:=[]
 calm:=ah
 fn:=fun _=>ah
 pn:=[]
 xe:=fun e s'=>aM (aR P w) (A.deeper (eX qual scope s.heap.objs.size f cd)) (leaving (eX qual scope s.heap.objs.size f cd) e) (fun _ s''=>CX outer H s E e s'') (fun e' s''=>CX outer H s E e' s'') s'
variable {sc:Scope}
theorem Ap (h:sc.names.lookup x=aa .cell):∃c,(ze n sc.names []).lookup x=aa c:=by have q:=QZ sc.names n [] (.inl h);exact eN.mp q
variable {qual:aj} {scope:Scope} {cd:Value}
theorem G9 {P:bV} {f:av} {s1:aH} {E:XK} {us:ac Value} 
  (S:FnScope N ps scope) (hd:A.handled=ab) (e0:Env0 P w K mg base A outer s H) (hl:vs.length=ps.length) (r:bO vs us)
  (x:InCallC s s.heap.objs.size (lV (eX qual scope s.heap.objs.size f cd).kindOf (ps.zip us) fun _=>ab) (ze .(aA) scope.names []) (lW (eX qual scope s.heap.objs.size f cd).kindOf (ps.zip us) fun _=>ab) s1) :
  Inv (gH CX P w K mg base N qual scope f cd A outer s H E) [] (gR N vs) H s1:=by
 have hpl:ps.length<=N.length:=by have:=cJ gm S.pre;rw[qD] at this;omega
 obtain⟨h1,tk,rfl,hk⟩:=x.done;have noA:∀b:av,b∉(gH CX P w K mg base N qual scope f cd A outer s H E).ex:=fun b z=>bK (show b∈([]:ac av) from z) (by simp);refine⟨⟨e0.mod,S.kind,rfl,rfl,qw _,fun y z c h1 h2=>?_,fun y hy=>?_,fun y c _ h=>?_,fun _=>hd,Around.frames_deeper e0.frames,.inr ⟨rfl,rfl⟩,fun b z=>bK z (noA b),e0.bs,e0.bsz,fun b _ _=>noA b,fun b z=>bK z (noA b),e0.funs,e0.frf⟩,
  rfl,e0.bare,Un.kept hk,⟨_,x.toInCall.ns,fun i y v h1 h2 h3=>?_⟩,fun y c h=>⟨_,x.cell y c h⟩,e0.hok.fresh (qw _),fun y c h=>?_,fun p hp=>bK (show p∈([]:ac (av×bf)) from hp) (by simp),e0.hok.kept hk,?_⟩
 .exact name_of_addr x.apart (nk h1) (nk h2)
 .have hy:scope.names.lookup y=aa .cell\/scope.names.lookup y=aa .free:=hy;rcases hy with hy|hy
  .exact Ap hy
  .exact bK rfl (S.nofree _ (nk hy))
 .exact rW (x.above y c (nk h))
 .have hi:i<vs.length:=by
   unfold gR at h2;by_cases hi:i<vs.length
   .exact hi
   .rw[qJ (by simpa using hi)] at h2;rw[zf] at h2;split at h2<;>cases h2
  have ha:vs[i]?=aa v:=by
   unfold gR at h2;rw[qy (by simpa using hi),ql] at h2;cases e:vs[i]? with
   |none=>rw[e] at h2;cases h2
   |some a=>rw[e] at h2;cases h2;rfl
  obtain⟨u,hu,rv⟩:=r.get ha;have hp:ps[i]?=aa y:=by rw[←S.pre,zg .(f)];exact h1
  have ndP:ps.Nodup:=by rw[←S.pre];exact S.nd.sublist (E4 _ _)
  refine⟨u,rv,?_⟩;rcases S.par y (qO hp) with k|k
  .exact .inl ⟨k,Bc ndP hp hu k⟩
  .obtain⟨c,e⟩:=Ap (n:=s.heap.objs.size+1) k;refine .inr ⟨.inl k,c,e,?_⟩;have q:=x.cell y c e;rw[Bj ndP hp hu (by show scope.names.lookup y≠_;rw[k];decide)] at q;exact q
 .exact e0.hok.fresh (rW (x.above y c (nk h)))
 .unfold gR;show _=N.length;rw[qk,qg,List.length_replicate];omega
variable {doc pm cdv ct oc:Value} {an od:ar av} {osl:bQ (ar Value)}
theorem LD {P:bV} {k:al} {f:av} {params:Arguments} {body:ac Stmt} {dV kV:Value} 
  (lk:K.lookup f=aa ⟨oc,od,.func (gW name qual params body scope dV kV doc pm an cdv ct),osl⟩) (hcd:si K cdv qual=ah) (S:FnScope N ps scope)
  (len:∀vs H Q E,sp vs H Q E->vs.length=ps.length)
  (hbody:∀(A:dB) (outer:ac c8) (s:aH) (H:Hp) (vs:ac V) (Q:VK) (E:XK),Room k (A.deeper (eX qual scope s.heap.objs.size f cdv))->sp vs H Q E->
   ∃t,PSs (gH CX P w K mg base N qual scope f cdv A outer s H E) body t/\t {nx:=fun _ H'=>Q .non H',rt:=Q} (gR N vs) H) :
  FnOk P w K mg base CX (k+1) f (gW name qual params body scope dV kV doc pm an cdv ct) ps sp:=by
 refine⟨len,fun A outer s H args us vs Q E hr e0 hb r hsp=>?_⟩;have hl:=len _ _ _ _ hsp;have KX:K.In s.heap:=e0.mod.kin.keeps fun b o e=>(e0.bs b o e).1;have lim:s.heap.NoLimit:=e0.mod.nolimit.keeps fun b o e=>(e0.bs b o e).1;have hkind:∀y∈ps.zip us,scope.names.lookup y.1=aa .local\/(scope.names.lookup y.1=aa .cell/\((ze .(aA) scope.names []).lookup y.1).isSome=ah):=fun⟨n,v⟩ hy=>by
  rcases S.par n (E3 hy).1 with q|q
  .exact .inl q
  .exact .inr ⟨q,QZ _ _ _ (.inl q)⟩
 refine codeAny_call_function hr.depth (KX _ _ lk) rfl S.co S.gen rfl (PySem.W.codeRec_of KX hcd) (hb _ _ _ _ ?_);refine wpAny_newFunctionEnv_cells S.kind hkind fun env he s1 x=>?_;subst he;refine⟨lim.keeps x.toInCall.keep,codeAny_func ?_⟩;obtain⟨t,ht,hq⟩:=hbody A outer s H vs Q E (hr.deeper _) hsp;have I:Inv (gH CX P w K mg base N qual scope f cdv A outer s H E) [] (gR N vs) H s1:=G9 S hr.hd e0 hl r x;refine ie (ht [] s1 (gR N vs) H _ I hq) (fun fl s' hs=>?_) fun e s' hs=>hs;have fin:∀{σ':St} {H':Hp} {v:V} {u:Value},Inv (gH CX P w K mg base N qual scope f cdv A outer s H E) [] σ' H' s'->bI v u->Q v H'->CE outer P w H s Q u s':=
  fun {σ' H' v u} J rv q=>⟨v,H',J.os,J.bare,J.base,J.hok,rv,q⟩
 cases fl with
 |ret u=>
  obtain⟨v,σ',H',J,rv,q⟩:=hs;exact fin J rv q
 |next=>
  obtain⟨σ',H',J,q⟩:=hs;exact fin (v:=V.non) (u:=o5) J rfl q
 |brk=>
  obtain⟨_,_,_,q⟩:=hs;exact iG q
 |cont=>
  obtain⟨_,_,_,q⟩:=hs;exact iG q
variable {T:dq}
section
variable {t:TA} {id:dq} {r:ac V->Hp->VK->Prop}
noncomputable def tCB (r:ac V->Hp->VK->Prop) (t:TA):TE:=fun σ H Q=>t σ H fun vs H1=>r vs H1 Q
theorem tF (hc:eE X (.builtin id) r) (hg:Gl X x) (hm:X.mg x=ab) (hv:lN x=aa (.builtin id)) (ha:PA X (e::es) t) (hn:x≠"__name__":=by decide) (hdb:.(G)=ao:=by decide)
  (he:a8 (e::es) X.env=(ao,eval e X.env)::a8 es X.env:=by rfl) (hpl:(cN pos (a8 es X.env)).any (·.1)=ao:=by rfl):PE X .(as) (tCB r t):=by
 intro pins s σ H Q I h;refine zd (oI I hg hm hv ?_ hn hdb);exact Tw (thn (ha pos pins s σ H _ I h) fun us s1 ⟨vs,H1,I1,r1,q1⟩=>hc pins s1 σ H1 vs us Q I1 r1 q1) he hpl
theorem sV (hc:eE X (.type T) r) (hg:Gl X x) (hm:X.mg x=ab) (hv:lN x=aa (.type T)) (ha:PA X (e::es) t) (hn:x≠"__name__":=by decide) (hdb:.(G)=ao:=by decide)
  (he:a8 (e::es) X.env=(ao,eval e X.env)::a8 es X.env:=by rfl) (hpl:(cN pos (a8 es X.env)).any (·.1)=ao:=by rfl):PE X .(as) (tCB r t):=by
 intro pins s σ H Q I h;refine zd (oI I hg hm hv ?_ hn hdb);exact yY (thn (ha pos pins s σ H _ I h) fun us s1 ⟨vs,H1,I1,r1,q1⟩=>hc pins s1 σ H1 vs us Q I1 r1 q1) he hpl
end
variable {sl:av} {vl vu:Value} {hi:ar ag} {items:bQ Value}
namespace HT
section
variable {E:Value->aH->Prop}
noncomputable def sIx (n d:al):ar ag->al
 |none=>d
 |some v=>if v<0 then (v+(n:ag)).toNat else min v.toNat n
theorem QF (n d:al) (hd:d<=n) (o:ar ag):sIx n d o<=n:=by
 cases o with
 |none=>exact hd
 |some v=>
  show(if v<0 then (v+(n:ag)).toNat else min v.toNat n)<=n;by_cases hv:v<0
  .rw[qY hv];omega
  .rw[qZ hv];exact E5 _ _
theorem Ce (v:ag) (n d:al):(if v<0 then max (v+(n:ag)) 0 else min v (n:ag))=((sIx n d (aa v):al):ag):=by
 show(if v<0 then max (v+(n:ag)) 0 else min v (n:ag))=(((if v<0 then (v+(n:ag)).toNat else min v.toNat n):al):ag);by_cases hv:v<0
 .simp only[qY hv];omega
 .simp only[qZ hv];omega
theorem MQ (lo hi:ar ag) (n:al):E6 lo hi 1 (n:ag)=(((sIx n 0 lo:al):ag),((sIx n n hi:al):ag)):=by
 have h1:¬((1:ag)<0):=by omega
 unfold E6;simp only[h1,c9];refine Prod.ext ?_ ?_
 .cases lo with
  |none=>rfl
  |some v=>exact Ce v n 0
 .cases hi with
  |none=>rfl
  |some v=>exact Ce v n n
theorem Pz (i j:al):zh (i:ag) (j:ag) 1=j-i:=by
 unfold zh;have h1:(1:ag) > 0:=by omega
 simp only[h1,cK,Int.ediv_one];split<;>omega
theorem By {v:Value} {o:ar ag} {Q:ar ag->aH->Prop} (p:nq v o) (h:Q o s):aM .(N) A (Tx v) Q E s:=by
 cases p with
 |none=>exact Q0 h
 |int i t=>exact slicePart_int h
theorem Gd {lo:ar ag} {Q:ag×ag×al->aH->Prop} (hs:s.heap.IsSliceOf sl vl vu .none) (pl:nq vl lo) (pu:nq vu hi)
  (h:Q (((sIx n 0 lo:al):ag),1,sIx n n hi-sIx n 0 lo) s):aM .(N) A (Q6 (.ref sl) (bG (n:ag))) Q E s:=by
 obtain⟨os,hos,hcs,hds⟩:=id hs;unfold Q6 Tz;refine qx (qx (E7 hos hds (x:=vl) rfl (qx (E7 hos hds (x:=vu) rfl (qx (E7 hos hds (x:=.none) rfl (qz ?_)))))));refine qx (Q0 ?_);show aM _ _ (if ((1:ag)==0)=ah then _ else _) _ _ s;rw[qZ .(h)];refine qx (By pl (qx (By pu (qx (qz ?_)))));show aM _ _ (match E6 lo hi 1 (n:ag) with|(lo,hi)=>bG (lo,(1:ag),zh lo hi 1)) _ _ s;rw[MQ lo hi n];show aM _ _ (bG (((sIx n 0 lo:al):ag),(1:ag),zh ((sIx n 0 lo:al):ag) ((sIx n n hi:al):ag) 1)) _ _ s;rw[Pz];exact qz h
theorem GF (xs:bQ Value) (i k:al):((cV k).filterMap fun(m:al)=>xs[((i:ag)+(m:ag)*1).toNat]?).toArray=((xs.toList.drop i).take k).toArray:=by
 have e:(fun(m:al)=>xs[((i:ag)+(m:ag)*1).toNat]?)=fun m=>xs[i+m]?:=by
  funext m
  have:((i:ag)+(m:ag)*1).toNat=i+m:=by omega
  rw[this]
 rw[e];have:=zi xs i k;rw[List.filterMap_map] at this;have e2:((fun x=>xs[x]?) ∘ fun x=>i+x)=fun m=>xs[i+m]?:=rfl;rw[e2] at this;rw[this]
theorem getItem_tuple_cut {t:av} {lo:ar ag} (ht:IsTup s.heap t items) (hs:s.heap.IsSliceOf sl vl vu .none) (pl:nq vl lo) (pu:nq vu hi)
  (hw:¬(sIx items.size 0 lo=0/\sIx items.size items.size hi=items.size))
  (h:Q (.ref s.heap.objs.size) {s with heap:=s.heap.push {cls:=.type "tuple",data:=.seq ((items.toList.drop (sIx items.size 0 lo)).take (sIx items.size items.size hi-sIx items.size 0 lo)).toArray} })
  (hsz:items.size<=aW):aM .(N) A (nr (.ref t) (.ref sl)) Q E s:=by
 have htake:sizeOk (.seq ((items.toList.drop (sIx items.size 0 lo)).take (sIx items.size items.size hi-sIx items.size 0 lo)).toArray):=by show((items.toList.drop (sIx items.size 0 lo)).take (sIx items.size items.size hi-sIx items.size 0 lo)).toArray.size<=aW;rw[qA,qD,jk,gf];omega
 have hj:sIx items.size items.size hi<=items.size:=QF _ _ (qw _) hi;obtain⟨os,hos,hcs,hds⟩:=id hs;have hTs:s.TypeIs (.ref sl) "slice":=⟨os,hos,hcs⟩;unfold nr
 try with_reducible refine qS ?_
 first|refine qx (qz ?_)|skip
 refine qx (wpAny_sequenceKey ht.typeIs .(h) ?_);refine qx (E8 (name:=zj "__getitem__") ht.typeIs E9
  (sj E9 ht.typeIs entry_tuple_getitem ?_ (args_tuple_getitem _ _)))
 show aM _ _ (TC (.ref t) >>= _) _ _ s;refine qx (tupleItemsOf_ ht ?_);refine qx (sk hTs ?_);rw[qY .(h)];refine qx (Gd hs pl pu ?_);have hno:¬((((sIx items.size 0 lo:al):ag)==0 && (1:ag)==1 && (sIx items.size items.size hi-sIx items.size 0 lo)==items.size)=ah):=by intro q;rw[fU,fU] at q;have q1:((sIx items.size 0 lo:al):ag)=0:=Fa q.1.1;have q2:sIx items.size items.size hi-sIx items.size 0 lo=items.size:=Fa q.2;exact hw ⟨by omega,by omega⟩
 show aM _ _ (if (((sIx items.size 0 lo:al):ag)==0 && (1:ag)==1 && (sIx items.size items.size hi-sIx items.size 0 lo)==items.size)=ah then _ else _) _ _ s;rw[qZ hno,GF]
 first
  |exact qx (m:=zk _) (lQ (qz ⟨_,rfl,qz h⟩) htake)
  |exact qx (m:=zk _) (lQ (qx (qz (qz ⟨_,rfl,qz h⟩))) htake)
  |exact qx (qx (m:=zk _) (lQ (qz (qz ⟨_,rfl,qz h⟩)) htake))
  |exact qx (qx (m:=zk _) (lQ (qz ⟨_,rfl,qz h⟩) htake))
end
end HT
noncomputable abbrev TO:=St->Hp->(ar ag->Hp->Prop)->Prop
noncomputable def PO (X:Cx) (e:ar Expr) (t:TO):Prop:=
 ∀(pins:ac (av×bf)) (s:aH) (σ:St) (H:Hp) (Q:ar ag->Hp->Prop),Inv X pins σ H s->t σ H Q->
  aM .(s) X.A (evalPart e X.env) (fun u s'=>∃o H',Inv X pins σ H' s'/\nq u o/\Q o H') X.xe s
noncomputable def KL:TO:=fun _ H Q=>Q ab H
noncomputable def Oa (t:TE):TO:=fun σ H Q=>t σ H fun x H1=>∃i,x=.int i/\Q (aa i) H1
theorem G8 {ns:ac ag} :∀{us:ac Value},bO (ns.map V.int) us->j1 us ns:=by
 induction ns with
 |nil=>intro us r;rw[qN] at r;cases r;exact .nil
 |cons n ns ih=>
  intro us r;rw[qo] at r;cases r with
  |cons r1 r2=>
   obtain⟨t,e⟩:=r1;subst e;exact .cons n t (ih r2)
variable {p2:dD}
section
variable {lo hi:ar Expr} {tl th:TO}
theorem MH:PO X ab KL:=by intro pins s σ H Q I h;rw[evalPart_none];exact qz ⟨ab,H,I,.none,h⟩
theorem P4 (h:PE X e te):PO X (aa e) (Oa te):=by intro pins s σ H Q I hw;rw[evalPart_some];refine thn (h pins s σ H _ I hw) fun u s1 ⟨x,H1,I1,r1,q1⟩=>?_;obtain⟨i,rfl,q⟩:=q1;obtain⟨t,rfl⟩:=r1;exact⟨aa i,H1,I1,.int i t,q⟩
noncomputable def SlR (X:Cx) (r:V->ar ag->ar ag->Hp->VK->Prop):Prop:=
 ∀(pins:ac (av×bf)) (s:aH) (σ:St) (H:Hp) (x:V) (v vl vu:Value) (lo hi:ar ag) (sl:av) (Q:VK),Inv X pins σ H s->bI x v->s.heap.IsSliceOf sl vl vu .none->nq vl lo->nq vu hi->r x lo hi H Q->
  ∃T id,vz (.type T) "__getitem__"=bG (aa (.builtin id))/\s.TypeIs v T/\aM .(s) X.A (nr v (.ref sl)) (EP X pins σ Q) X.xe s
theorem SlR.or {r r':V->ar ag->ar ag->Hp->VK->Prop} (h:SlR X r) (h':SlR X r'):SlR X (fun x lo hi H Q=>r x lo hi H Q\/r' x lo hi H Q):=by
 intro pins s σ H x v vl vu lo hi sl Q I rx hs pl pu q;rcases q with q|q
 .exact h pins s σ H x v vl vu lo hi sl Q I rx hs pl pu q
 .exact h' pins s σ H x v vl vu lo hi sl Q I rx hs pl pu q
noncomputable def tSl (r:V->ar ag->ar ag->Hp->VK->Prop) (te:TE) (tl th:TO):TE:=fun σ H Q=>te σ H fun x H1=>tl σ H1 fun l H2=>th σ H2 fun u H3=>r x l u H3 Q
theorem Nz {r:V->ar ag->ar ag->Hp->VK->Prop} (hr:SlR X r) (he:PE X e te) (hl:PO X lo tl) (hu:PO X hi th):PE X (.Subscript e (.Slice lo hi ab p2) pos) (tSl r te tl th):=by intro pins s σ H Q I h;refine Fb (thn (he pins s σ H _ I h) fun v s1 ⟨x,H1,I1,r1,q1⟩=>?_);refine wpAny_Slice (thn (hl pins s1 σ H1 _ I1 q1) fun vl s2 ⟨l,H2,I2,pl,q2⟩=>thn (hu pins s2 σ H2 _ I2 q2) fun vu s3 ⟨u,H3,I3,pu,q3⟩=>?_);rw[evalPart_none];refine qz ?_;have I4:Inv X pins σ H3 {s3 with heap:=s3.heap.push {cls:=.type "slice",data:=.fields #[vl,vu,.none]} }:=I3.kept (t':=s3.toks) fun b ob q=>qu _ q;obtain⟨T,id,hT,ht,hg⟩:=hr pins {s3 with heap:=s3.heap.push {cls:=.type "slice",data:=.fields #[vl,vu,.none]} } σ H3 x v vl vu l u s3.heap.objs.size Q I4 r1 (TF ..) pl pu q3;show aM .(s) X.A (Fc e (.Slice lo hi ab p2) v (.ref s3.heap.objs.size)) (EP X pins σ Q) X.xe {s3 with heap:=s3.heap.push {cls:=.type "slice",data:=.fields #[vl,vu,.none]} };exact tail_any (ops:=[.ref s3.heap.objs.size,v]) ht hT hg (by with_unfolding_all rfl)
noncomputable def lC (xs:ac V) (lo hi:ar ag):ac V:=(xs.drop (HT.sIx xs.length 0 lo)).take (HT.sIx xs.length xs.length hi-HT.sIx xs.length 0 lo)
theorem Ac (xs:ac V) (lo hi:ar ag):(lC xs lo hi).length<=xs.length:=by unfold lC;rw[qD,jk];omega
noncomputable def J6 (K:bu):V->ar ag->ar ag->Hp->VK->Prop:=fun x lo hi H Q=>∃a xs,x=.ref a/\SqT K H a xs /\
 ¬(HT.sIx xs.length 0 lo=0/\HT.sIx xs.length xs.length hi=xs.length)/\∀p,H p=ab->Q (.ref p) (upd H p (.tup (lC xs lo hi)))
theorem Hf:SlR X (J6 X.K):=by
 intro pins s σ H x v vl vu lo hi sl Q I rx hs pl pu h;obtain⟨a,xs,rfl,hx,hw,q⟩:=h;cases rx;obtain⟨its,r,ht,hz⟩:=I.tuple hx;have hlen:its.toArray.size=xs.length:=by rw[qA];exact r.length.symm
 refine⟨"tuple",_,E9.lookup,ht.typeIs,?_⟩;refine HT.getItem_tuple_cut ht hs pl pu (by rw[hlen];exact hw) ?_ (by rw[hlen];exact hz);rw[hlen];refine⟨.ref s.heap.objs.size,_,I.laid (t':=s.toks) (o:=.tup (lC xs lo hi)) (fun b ob q=>qu _ q) (qw _) ?_,rfl,q _ (I.hok.fresh (qw _))⟩;exact⟨qL (Ac xs lo hi) hz,_,(r.drop (HT.sIx xs.length 0 lo)).take (HT.sIx xs.length xs.length hi-HT.sIx xs.length 0 lo),ET _ _⟩
end
noncomputable def ixN (n:al) (i:ag):ar al:=if 0<=i then (if i<n then aa i.toNat else ab) else if -(n:ag)<=i then aa (i+n).toNat else ab
noncomputable def atI (xs:ac α) (i:ag):ar α:=(ixN xs.length i).bind fun j=>xs[j]?
theorem N7 {i:ag} (h:ixN n i=aa j):seqIndex? i n=aa j/\j<n /\ -(n:ag)<=i/\i<n:=by
 unfold ixN at h;by_cases h0:0<=i
 .rw[qY h0] at h;by_cases h1:i<n
  .rw[qY h1] at h;have e:i.toNat=j:=qG h;exact⟨by rw[seqIndex_of h0 h1,e],by omega,by omega,h1⟩
  .rw[qZ h1] at h;cases h
 .rw[qZ h0] at h;by_cases h1 : -(n:ag)<=i
  .rw[qY h1] at h;have e:(i+n).toNat=j:=qG h;exact⟨by rw[seqIndex_neg .(f) h1,e],by omega,h1,by omega⟩
  .rw[qZ h1] at h;cases h
theorem xM {xs:ac α} {i:ag} {v:α} (h:atI xs i=aa v):∃j,seqIndex? i xs.length=aa j/\xs[j]?=aa v/\j<xs.length /\ -(xs.length:ag)<=i/\i<xs.length:=by
 unfold atI at h;cases e:ixN xs.length i with
 |none=>rw[e] at h;cases h
 |some j=>
  rw[e] at h;obtain⟨h1,h2,h3,h4⟩:=N7 e;exact⟨j,h1,h,h2,h3,h4⟩
theorem lA {xs:ac α} {v:α} (h:xs[j]?=aa v):atI xs (j:ag)=aa v:=by
 have hj:j<xs.length:=(di.mp h).1;have e:ixN xs.length (j:ag)=aa j:=by unfold ixN;rw[qY .(f),qY .(f)];simp
 unfold atI;rw[e];exact h
noncomputable def AF (b:Expr):Prop:=∀o i,zl b ao o i=operate [o,i] (nr o i)
noncomputable def IxR (X:Cx) (r:R2):Prop:=
 ∀(value slice:Expr) (pins:ac (av×bf)) (s:aH) (σ:St) (H:Hp) (x y:V) (v u:Value) (Q:VK),Inv X pins σ H s->bI x v->bI y u->r x y H Q->
  zl slice ao v u=operate [v,u] (nr v u)->aM .(s) X.A (Fc value slice v u) (EP X pins σ Q) X.xe s
noncomputable def MtR (X:Cx) (id:dq) (r:V->ac V->Hp->VK->Prop):Prop:=
 ∀(pins:ac (av×bf)) (s:aH) (σ:St) (H:Hp) (x:V) (xs:ac V) (v:Value) (us:ac Value) (Q:VK),Inv X pins σ H s->bI x v->bO xs us->r x xs H Q->
  aM .(s) X.A (call (.builtin id) (v::us)) (EP X pins σ Q) X.xe s
variable {to:TE} {cpos:dD}
section
variable {a:Expr} {tb:TE}
theorem IxR.or (h:IxR X r) (h':IxR X r'):IxR X (fun x y H Q=>r x y H Q\/r' x y H Q):=by
 intro value slice pins s σ H x y v u Q I rx ry q hs;rcases q with q|q
 .exact h value slice pins s σ H x y v u Q I rx ry q hs
 .exact h' value slice pins s σ H x y v u Q I rx ry q hs
theorem No (hr:IxR X r) (ha:PE X a ta) (hb:PE X b tb) (hs:AF b):PE X (.Subscript a b pos) (tOp r ta tb):=by intro pins s σ H Q I h;exact Fb (wN ha hb I h fun v u s2 x y H2 I2 rx ry q=>hr a b pins s2 σ H2 x y v u Q I2 rx ry q (hs _ _))
noncomputable def DR (K:bu):R2:=fun x y H Q=>∃p xs i v,x=.ref p/\y=.int i/\SqL K H p xs/\atI xs i=aa v/\Q v H
noncomputable def A6 (K:bu):R2:=fun x y H Q=>∃p xs i v,x=.ref p/\y=.int i/\SqT K H p xs/\atI xs i=aa v/\Q v H
noncomputable def Aq:R2:=fun x y H Q=>∃z i c,x=.str z/\y=.int i/\z.length<=aW/\atI z.cps.toList i=aa c/\Q (.str ⟨#[c]⟩) H
theorem OQ:IxR X (DR X.K):=by
 intro value slice pins s σ H x y v u Q I rx ry h hs;obtain⟨p,xs,i,z,rfl,rfl,hq,he,q⟩:=h;cases rx;obtain⟨t,rfl⟩:=ry;obtain⟨its,r,pl,hz⟩:=I.list hq;obtain⟨j,h1,h2,h3,h4,h5⟩:=xM he;obtain⟨w,ew,rw'⟩:=r.get h2;have hl:=r.length;have hn:=uh;have fin:EP X pins σ Q w s:=⟨z,H,I,rw',q⟩;by_cases h0:0<=i
 .have hj:i.toNat=j:=by rw[seqIndex_of h0 h5] at h1;exact qG h1
  exact item_listR pl.isList h0 .(f) (by rw[hj];simpa using ew) fin hs
 .have hj:(i+(its.toArray.size:ag)).toNat=j:=by rw[seqIndex_neg .(f) h4] at h1;rw[qA,←hl];exact qG h1
  exact Q7 (x:=w) pl.isList.typeIs Q8.lookup
   (wpAny_getItem_list_neg (Q:=fun r s'=>r=w/\EP X pins σ Q r s') pl.isList .(f) (by rw[qA]<;>omega) .(f) (by rw[hj];simpa using ew) ⟨rfl,fin⟩) hs
theorem Ii:IxR X (A6 X.K):=by
 intro value slice pins s σ H x y v u Q I rx ry h hs;obtain⟨p,xs,i,z,rfl,rfl,hq,he,q⟩:=h;cases rx;obtain⟨t,rfl⟩:=ry;obtain⟨its,r,pl,hz⟩:=I.tuple hq;obtain⟨j,h1,h2,h3,h4,h5⟩:=xM he;obtain⟨w,ew,rw'⟩:=r.get h2;have hl:=r.length;have hn:=uh;have fin:EP X pins σ Q w s:=⟨z,H,I,rw',q⟩;exact Q7 (x:=w) pl.typeIs slot_tuple_getitem.lookup
  (getItem_tuple (j:=j) (Q:=fun r s'=>r=w/\EP X pins σ Q r s') pl .(f) .(f) (by rw[qA,←hl];exact h1) (by simpa using ew) ⟨rfl,fin⟩) hs
theorem Kl:IxR X Aq:=by
 intro value slice pins s σ H x y v u Q I rx ry h hs;obtain⟨z,i,c,rfl,rfl,hz,he,q⟩:=h;obtain⟨t,rfl⟩:=rx;obtain⟨t',rfl⟩:=ry;obtain⟨j,h1,h2,h3,h4,h5⟩:=xM he;have hl:z.cps.toList.length=z.length:=by simp[so]
 rw[hl] at h1 h4 h5;have hn:=uh;exact tail_any (vA s z t) slot_str_getitem.lookup (getItem_str (c:=c) (by have e1:decide (i < -(2 ^ 63:ag))=ao:=qM .(f);have e2:decide (i ≥ 2 ^ 63)=ao:=qM .(f);rw[e1,e2,Q9]) (by rw[h1];simpa using h2) ⟨.str ⟨#[c]⟩,H,I.tok _,⟨_,rfl⟩,q⟩) hs
noncomputable def rIx (K:bu):R2:=fun x y H Q=>DR K x y H Q\/A6 K x y H Q\/Aq x y H Q
theorem Mq:IxR X (rIx X.K):=OQ.or (Ii.or Kl)
theorem Inv.lst {p:av} {xs:ac V} (I:Inv X pins σ H s) (h:H p=aa (.lst xs)) :
  ∃(its:ac Value) (n:al),bO xs its/\s.heap.get? p=aa {cls:=.type "list",data:=.seq its.toArray n}/\xs.length<=aW:=by
 obtain⟨z,its,n,r,e⟩:=I.hok p _ h;exact⟨its,n,r,e,z⟩
theorem G0 (lo hi:ar ag) (n:al):(pd lo hi ab n).1=((HT.sIx n 0 lo:al):ag)/\(pd lo hi ab n).2.1=((HT.sIx n n hi:al):ag)/\(pd lo hi ab n).2.2=1:=by
 refine⟨?_,?_,rfl⟩
 .cases lo with
  |none=>simp[pd,HT.sIx]
  |some i=>
   simp only[pd,HT.sIx,Ra,show(1:ag) > 0 by decide,cK];by_cases h:i<0
   .simp only[h,cK]<;>omega
   .simp only[h,c9]<;>omega
 .cases hi with
  |none=>simp[pd,HT.sIx]
  |some i=>
   simp only[pd,HT.sIx,Ra,show(1:ag) > 0 by decide,cK];by_cases h:i<0
   .simp only[h,cK]<;>omega
   .simp only[h,c9]<;>omega
theorem Ik (its:ac Value) (lo hi:ar ag):slicePick its.toArray lo hi ab=((its.drop (HT.sIx its.length 0 lo)).take (HT.sIx its.length its.length hi-HT.sIx its.length 0 lo)).toArray:=by obtain⟨h1,h2,h3⟩:=G0 lo hi its.toArray.size;unfold slicePick;rw[h1,h2,h3];simp only[Rb,zi,qA]<;>rfl
noncomputable def ML (K:bu):V->ar ag->ar ag->Hp->VK->Prop:=fun x lo hi H Q=>∃a xs,x=.ref a/\SqL K H a xs/\∀p,H p=ab->Q (.ref p) (upd H p (.lst (lC xs lo hi)))
theorem Hh:SlR X (ML X.K):=by intro pins s σ H x v vl vu lo hi sl Q I rx hs pl pu h;obtain⟨a,xs,rfl,hx,q⟩:=h;cases rx;obtain⟨its,r,ht,hz⟩:=I.list hx;have hlen:=r.length;refine⟨"list",_,Q8.lookup,ht.isList.typeIs,?_⟩;refine wpAny_getItem_list_slice ht.isList hs pl pu .none (by simp) ?_ (by rw[qA]<;>omega);rw[Ik,←hlen];refine⟨.ref s.heap.objs.size,_,I.laid (t':=s.toks) (o:=.lst (lC xs lo hi)) (fun b ob q=>qu _ q) (qw _) ?_,rfl,q _ (I.hok.fresh (qw _))⟩;exact⟨qL (Ac xs lo hi) hz,_,0,(r.drop (HT.sIx xs.length 0 lo)).take (HT.sIx xs.length xs.length hi-HT.sIx xs.length 0 lo),qF _ rfl⟩
theorem HF:eE X (.type "tuple") (fun xs H Q=>∃p ys,xs=[.ref p]/\((SqL X.K H p ys/\∀l,H l=ab->Q (.ref l) (upd H l (.tup ys)))\/(SqT X.K H p ys/\Q (.ref p) H))):=by
 intro pins s σ H xs us Q I r h;obtain⟨p,ys,rfl,h⟩:=h;obtain⟨u,rfl,rx⟩:=fu r;cases rx;rcases h with⟨hq,q⟩|⟨hq,q⟩
 .obtain⟨its,r',pl,hz⟩:=I.list hq;have hlen:=r'.length;refine call_tuple_list pl.isList (fun h' kp=>?_) (by simp only[qA]<;>omega);have I1:Inv X pins σ H {s with heap:=h'}:=I.kept (t':=s.toks) kp;have I2:Inv X pins σ (upd H h'.objs.size (.tup ys)) {s with heap:=h'.push {cls:=.type "tuple",data:=.seq its.toArray} } :=
   I1.laid (t':=s.toks) (fun b o e=>qu _ e) (qw _) (show cX X.prog X.w _ _ _ (.tup ys) from⟨hz,its,r',ET _ _⟩)
  exact⟨.ref h'.objs.size,_,I2,rfl,q _ (I1.hok.fresh (qw _))⟩
 .obtain⟨its,r',pl,hz⟩:=I.tuple hq;exact call_tuple_same pl ⟨.ref p,H,I,rfl,q⟩
noncomputable def tyV (K:bu) (T:dq) (x:V) (H:Hp):Prop:=match x with
 |.str _=>T="str"
 |.int _=>T="int"
 |.ref p=>(T="list"/\∃xs,SqL K H p xs)\/(T="tuple"/\∃o,K.lookup p=aa o/\o.cls=.type "tuple"/\o.dict=ab) \/
   (T="dict"/\((∃kvs,H p=aa (.dK kvs))\/∃kvs,H p=aa (.dT kvs)))\/(T="set"/\∃S n,H p=aa (.set S n))
 |_=>False
theorem KI {x:V} {v:Value} (I:Inv X pins σ H s) (r:bI x v) (ty:tyV X.K T x H) :
  s.TypeIs v T/\∀a,v=.ref a->∃ob,s.heap.get? a=aa ob/\ob.dict=ab:=by
 cases x with
 |str z=>
  obtain⟨t,rfl⟩:=r;cases(show T="str" from ty);exact⟨vA s z t,fun _ e=>nomatch e⟩
 |int i=>
  obtain⟨t,rfl⟩:=r;cases(show T="int" from ty);exact⟨Fd s i t,fun _ e=>nomatch e⟩
 |ref p=>
  cases r;rcases ty with⟨rfl,xs,hq⟩|⟨rfl,o,hk,hc,hd⟩|⟨rfl,hk⟩|⟨rfl,S,n,hk⟩
  .obtain⟨its,_,pl,_⟩:=I.list hq;refine⟨pl.isList.typeIs,fun a e=>?_⟩;cases e;obtain⟨o,n,e,c,hd,_⟩:=pl;exact⟨o,e,hd⟩
  .refine⟨⟨o,I.kIn p o hk,hc⟩,fun a e=>?_⟩;cases e;exact⟨o,I.kIn _ o hk,hd⟩
  .have z:∃o,s.heap.get? p=aa o/\o.ExactDict:=by
    rcases hk with⟨kvs,hk⟩|⟨kvs,hk⟩
    .obtain⟨_,_,_,_,o,_,_,e,ex,_⟩:=I.hok p _ hk;exact⟨o,e,ex⟩
    .obtain⟨_,_,_,_,o,_,_,e,ex,_⟩:=I.hok p _ hk;exact⟨o,e,ex⟩
   obtain⟨o,e,ex⟩:=z;refine⟨⟨o,e,ex.1⟩,fun a e2=>?_⟩;cases e2;exact⟨o,e,ex.2.1⟩
  .obtain⟨o,_,_,_,e,ex,_⟩:=I.hok p _ hk;refine⟨⟨o,e,ex.1⟩,fun a e2=>?_⟩;cases e2;exact⟨o,e,ex.2.1⟩
 |_=>exact iG ty
noncomputable def tBM (K:bu) (T:dq) (r:V->ac V->Hp->VK->Prop) (to:TE) (t:TA):TE:=fun σ H Q=>to σ H fun x H1=>tyV K T x H1/\t σ H1 fun xs H2=>r x xs H2 Q
variable {t:TA} {id:dq} {r:V->ac V->Hp->VK->Prop}
theorem wQ (pa:PlainAttrs T) (slot:Slot T name id) (hty:typeOf (.builtin id)=bG (.type "method_descriptor")) (hm:MtR X id r) (ho:PE X o to) (ha:PA X (e::es) t)
  (hbase:ig o name X.env (eval o X.env)=eval o X.env:=by rfl)
  (hfew:((cN cpos (a8 (e::es) X.env)).all (fun x=>!x.1) && (ji cpos (jj [] X.env)).all (fun x=>x.1.isSome)
   && decide ((e::es).length+([]:ac jo).length+(if ([]:ac jo).isEmpty then 0 else 1)<30))=ah:=by rfl)
  (hline:(apos.endLine==cpos.line)=ah:=by rfl) (hs:a8 (e::es) X.env=(ao,eval e X.env)::a8 es X.env:=by rfl) (hplain:(cN cpos (a8 es X.env)).any (·.1)=ao:=by rfl) :
  PE X (.Call (.Attribute o name apos) (e::es) [] cpos) (tBM X.K T r to t):=by
 intro pins s σ H Q I h;refine wpAny_Call_method_late hbase hfew hline rfl (thn (ho pins s σ H _ I h) fun v s1 ⟨x,H1,I1,r1,ty,q1⟩=>?_);obtain⟨h1,h2⟩:=KI I1 r1 ty;refine⟨T,id,pa,slot,hty,h1,h2,?_⟩;have hA:=ha cpos pins s1 σ H1 _ I1 q1;rw[hs] at hA ⊢;refine vB (by show(ao || (cN cpos (a8 es X.env)).any (·.1))=ao;rw[hplain]<;>rfl) (zm ?_);exact thn hA fun us s2 ⟨vs,H2,I2,r2,q2⟩=>hm pins s2 σ H2 x vs v us Q I2 r1 r2 q2
end
noncomputable def MtM (X:Cx) (id:dq) (r:V->ac V->Hp->VK->Prop):Prop:=
 ∀(pins:ac (av×bf)) (s:aH) (σ:St) (H:Hp) (x:V) (xs:ac V) (v:Value) (us:ac Value) (Q:VK),Inv X pins σ H s->bI x v->bO xs us->r x xs H Q->
  aM .(s) X.A (call (.builtin id) (v::us)) (EP X pins σ Q) X.xe s
theorem bO.one:∀{x:V} {us:ac Value},bO [x] us->∃u,us=[u]/\bI x u
 |_,_,.cons r .nil=>⟨_,rfl,r⟩
theorem bO.rep {xs:ac V} {us:ac Value} (h:bO xs us):∀k:al,bO (cq k xs).flatten (cq k us).flatten
 |0=>.nil
 |k+1=>by rw[lX,lX,pf,pf];exact bO.append h (bO.rep h k)
theorem BM (its:ac Value):∀(k:al) (acc:ac Value),
  Fe (fun x1 x2=>x1++x2) acc.toArray (cq k its.toArray)=(acc++(cq k its).flatten).toArray
 |0,acc=>by simp
 |k+1,acc=>by
  have e:acc.toArray++its.toArray=(acc++its).toArray:=by simp
  have e2:(acc++its)++(cq k its).flatten=acc++(cq (k+1) its).flatten:=by rw[lX,pf,sq]
  rw[←e2,←BM its k (acc++its),←e,lX,kR]
variable {its:ac Value}
section
variable {l b:av} {xs zs:ac V}
theorem Inv.lset {its':ac Value} {f:bQ Value->bQ Value} (I:Inv X pins σ H s) (hH:H l=aa (.lst xs))
  (e:s.heap.get? l=aa {cls:=.type "list",data:=.seq its.toArray n}) (hf:f its.toArray=its'.toArray) (hv:bO ys its') (hz:ys.length<=aW) :
  Inv X pins σ (upd H l (.lst ys)) {s with heap:=s.heap.update l (Rc f),toks:=t'}:=by
 have q:=PySem.IsL.update e f;rw[hf] at q;refine I.write (x:=l) (e:=l) (by rw[hH];exact trivial) (.inl rfl) (fun b' u hb hu=>(Heap.get?_update_other s.heap (Rc f) (dI hb)).trans hu) ⟨_,q⟩ ?_;exact⟨hz,its',_,hv,q⟩
theorem Inv.lnew (I:Inv X pins σ H s) (hv:bO ys its) (hz:ys.length<=aW) :
  Inv X pins σ (upd H s.heap.objs.size (.lst ys)) {s with heap:=s.heap.push {cls:=.type "list",data:=.seq its.toArray},toks:=t'} :=
 I.laid (fun _ _ q=>qu _ q) (qw _) ⟨hz,its,0,hv,qF _ rfl⟩
theorem Inv.fresh (I:Inv X pins σ H s):H s.heap.objs.size=ab:=I.hok.fresh (qw _)
theorem Inv.lstM (I:Inv X pins σ H s) (hH:H l=aa (.lst xs)):xs.length<=aW/\∃(its:ac Value) (n:al),bO xs its/\xs.length=its.length/\s.heap.get? l=aa {cls:=.type "list",data:=.seq its.toArray n}:=by obtain⟨z,its,n,r,e⟩:=I.hok l _ hH;exact⟨z,its,n,r,r.length,e⟩
theorem AM (h:n<=aW):zo n=ao:=by unfold zo;exact qM .(f)
end
noncomputable def Oy:V->ac V->Hp->VK->Prop:=fun x vs H Q=>∃l xs y,x=.ref l/\vs=[y]/\H l=aa (.lst xs)/\xs.length<aW/\Q .non (upd H l (.lst (xs++[y])))
theorem Cj:MtM X "list.append" Oy:=by intro pins s σ H x vs v us Q I rx rv h;obtain⟨l,xs,y,rfl,rfl,hH,hz,q⟩:=h;cases rx;obtain⟨u,rfl,ru⟩:=rv.one;obtain⟨z,its,n,r,hl,e⟩:=I.lstM hH;refine vD Re ⟨_,e,rfl⟩ F.entry_list_append (F.args_list_append_2 _ _) (PySem.list_append l its.toArray n u (by rw[qA];omega)) ⟨e,?_⟩;refine⟨.non,_,I.lset (its':=its++[u]) hH e (by simp) (r.append (.cons ru .nil)) ?_,rfl,q⟩;rw[qk,qV];omega
noncomputable def Os:V->ac V->Hp->VK->Prop:=fun x vs H Q=>∃l b xs zs,x=.ref l/\vs=[.ref b]/\H l=aa (.lst xs)/\H b=aa (.lst zs)/\xs.length+zs.length<=aW/\Q .non (upd H l (.lst (xs++zs)))
theorem Jn:MtM X "list.extend" Os:=by
 intro pins s σ H x vs v us Q I rx rv h;obtain⟨l,b,xs,zs,rfl,rfl,hH,hB,hz,q⟩:=h;cases rx;obtain⟨u,rfl,ru⟩:=rv.one;cases ru;obtain⟨z,its,n,r,hl,e⟩:=I.lstM hH;obtain⟨z2,its2,n2,r2,hl2,e2⟩:=I.lstM hB;have hsz:its.toArray.size+its2.toArray.size<=aW:=by rw[qA,qA];omega
 have hlong:¬(!its.toArray.isEmpty && zo (its.toArray.size+its2.toArray.size))=ah:=by rw[AM hsz,Ff];exact qt
 refine vD Rf ⟨_,e,rfl⟩ F.entry_list_extend (F.args_list_extend_2 _ _)
  (AutoSeq1.list_extend_list_list_0 l its.toArray n b its2.toArray n2 hlong (by rw[qA];omega) .(f)) ⟨e,e2,?_⟩
 refine⟨.non,_,I.lset (its':=its++its2) hH e (by simp) (r.append r2) ?_,rfl,q⟩;rw[qk];omega
noncomputable def yf:R2:=fun x y H Q=>∃l b xs zs,x=.ref l/\y=.ref b/\H l=aa (.lst xs)/\H b=aa (.lst zs)/\xs.length+zs.length<=aW/\∀p,H p=ab->Q (.ref p) (upd H p (.lst (xs++zs)))
theorem OM:OpR X (jg .Add) yf:=by
 intro pins s σ H x y v u Q I rx ry h;obtain⟨l,b,xs,zs,rfl,rfl,hH,hB,hz,q⟩:=h;cases rx;cases ry;obtain⟨z,its,n,r,hl,e⟩:=I.lstM hH;obtain⟨z2,its2,n2,r2,hl2,e2⟩:=I.lstM hB;refine PySem.P.add_list e e2 ?_ (by rw[qA,qA];omega);have ea:its.toArray++its2.toArray=(its++its2).toArray:=by simp
 rw[ea];exact⟨.ref _,_,I.lnew (t':=s.toks) (r.append r2) (by rw[qk];omega),rfl,q _ I.fresh⟩
noncomputable def CW:R2:=fun x y H Q=>∃l k xs,x=.ref l/\y=.int k/\H l=aa (.lst xs) /\ -(2 ^ 63)<=k/\k<2 ^ 63/\xs.length*k.toNat<=aW /\
 ∀p,H p=ab->Q (.ref p) (upd H p (.lst (cq k.toNat xs).flatten))
theorem Eu (xs:ac α) (k:al):(cq k xs).flatten.length=k*xs.length:=by
 induction k with
 |zero=>simp
 |succ k ih=>rw[lX,pf,qk,ih,zp,Nat.add_comm]
theorem Jr:OpR X (jg .Mult) CW:=by
 intro pins s σ H x y v u Q I rx ry h;obtain⟨l,k,xs,rfl,rfl,hH,h1,h2,hz,q⟩:=h;cases rx;obtain⟨t,rfl⟩:=ry;obtain⟨z,its,n,r,hl,e⟩:=I.lstM hH;have hlen:its.toArray.size*k.toNat<=aW:=by rw[qA,←hl];exact hz
 have hcap:¬its.toArray.size*k.toNat > (2 ^ 63-1) / 8:=by
  have:(aW:al)<=(2 ^ 63-1) / 8:=by decide
  omega
 have hfit:¬(!TH k)=ah:=by rw[fitsIndex_both h1 h2];exact qt
 have hlong:¬zo (its.toArray.size*k.toNat)=ah:=by rw[AM hlen];exact qt
 have hnew:Fe (fun x1 x2=>x1++x2) #[] (cq (if its.toArray.isEmpty=ah then 0 else k.toNat) its.toArray)=(cq k.toNat its).flatten.toArray:=by
  have f0:∀m:al,Fe (fun x1 x2=>x1++x2) #[] (cq m its.toArray)=(cq m its).flatten.toArray:=fun m=>by have:=BM its m [];rw[qQ] at this;exact this
  rw[f0];cases its with
  |nil=>simp
  |cons a r'=>rw[qZ (by simp)]
 refine wpAny_binaryOp_repeat_ref (T:="list") (U:="int") .(h) ⟨_,e,rfl⟩ (fun s'=>Fd s' k t) noFill_list_mul F.fills_int_mul Rg repeat_list F.slot_int_index.lookup
  (vD Rg (Fd s k t) F.entry_int_rmul (F.args_int_rmul_2 _ _) (int___rmul___int_list k t l its.toArray n)
   ⟨e,rfl,⟨_,e,rfl⟩,vD F.slot_list_mul ⟨_,e,rfl⟩ F.entry_list_mul (F.args_list_mul_2 _ _) (AutoListH.list___mul___list_int_3 l its.toArray n k t hfit hcap hlong) ⟨e,?_⟩⟩)
 rw[hnew];exact⟨.ref _,_,I.lnew (t':=s.toks) (r.rep k.toNat) (by rw[Eu,Rh];exact hz),rfl,q _ I.fresh⟩
section
variable [eV κ]
noncomputable def fP (kvs:ac (κ×V)) (k:κ):ar V:=(kvs.find? fun kv=>decide (kv.1=k)).map (·.2)
noncomputable def eG (kvs:ac (κ×V)) (k:κ) (v:V):ac (κ×V):=
 if (kvs.any fun kv=>decide (kv.1=k))=ah then kvs.map (fun kv=>if kv.1=k then (kv.1,v) else kv) else kvs++[(k,v)]
noncomputable def kg (kvs:ac (κ×V)) (k:κ):ac (κ×V):=kvs.filter fun kv=>decide (kv.1≠k)
theorem vd {p:κ×V} {r:ac (κ×V)} {k:κ} (e:p.1=k):fP (p::r) k=aa p.2:=by simp[fP,eY,e]
theorem uV {p:κ×V} {r:ac (κ×V)} {k:κ} (e:¬p.1=k):fP (p::r) k=fP r k:=by simp[fP,eY,e]
theorem BK (k:κ):∀kvs:ac (κ×V),(kvs.any fun kv=>decide (kv.1=k))=(fP kvs k).isSome
 |[]=>rfl
 |p::r=>by
  rw[kS];by_cases e:p.1=k
  .simp only[vd e,qR e,Bool.true_or,Option.isSome_some]
  .rw[uV e,qM e,Fg];exact BK k r
theorem Co (kvs:ac (κ×V)) (k:κ) (v:V):(eG kvs k v).length<=kvs.length+1:=by
 unfold eG;split
 .rw[qg];omega
 .rw[qk,qj,qm];omega
theorem eC.isSome_eq {o:ar V} {u:ar Value} (r:eC o u):o.isSome=u.isSome:=by
 cases o with
 |none=>cases u with
  |none=>rfl
  |some _=>exact(show False from r).elim
 |some _=>cases u with
  |none=>exact(show False from r).elim
  |some _=>rfl
theorem eC.getD {o:ar V} {u:ar Value} {d:V} {d':Value} (r:eC o u) (rd:bI d d'):bI (o.getD d) (u.getD d'):=by
 cases o with
 |none=>cases u with
  |none=>exact rd
  |some _=>exact(show False from r).elim
 |some _=>cases u with
  |none=>exact(show False from r).elim
  |some _=>exact r
theorem KV.val {kvs:ac (κ×V)} {vs:ac (κ×Value)} (r:KV kvs vs) (k:κ):eC (fP kvs k) (nu vs k):=by
 unfold KV at r
 induction r with
 |nil=>exact iJ
 | @cons p q ps qs h t ih=>
  obtain⟨h1,h2⟩:=h;by_cases e:p.1=k
  .have e':q.1=k:=h1.symm.trans e;have b:nu (q::qs) k=aa q.2:=by simp[nu,eY,e']
   rw[vd e,b];exact h2
  .have e':¬q.1=k:=fun z=>e (h1.trans z);have b:nu (q::qs) k=nu qs k:=by simp[nu,eY,e']
   rw[uV e,b];exact ih
theorem KV.any {kvs:ac (κ×V)} {vs:ac (κ×Value)} (r:KV kvs vs) (k:κ):(kvs.any fun kv=>decide (kv.1=k))=vs.any fun kv=>decide (kv.1=k):=by
 unfold KV at r
 induction r with
 |nil=>rfl
 |cons h t ih=>rw[kS,kS,ih,h.1]
theorem KV.repl {kvs:ac (κ×V)} {vs:ac (κ×Value)} (r:KV kvs vs) (k:κ) {y:V} (ry:bI y u) :
  KV (kvs.map fun kv=>if kv.1=k then (kv.1,y) else kv) (vs.map fun kv=>if kv.1=k then (kv.1,u) else kv):=by
 unfold KV at r ⊢
 induction r with
 |nil=>exact .nil
 | @cons p q ps qs h t ih=>
  rw[qo,qo];refine .cons ?_ ih;obtain⟨h1,h2⟩:=h;by_cases e:p.1=k
  .rw[qY e,qY (h1.symm.trans e)];exact⟨h1,ry⟩
  .rw[qZ e,qZ (fun z=>e (h1.trans z))];exact⟨h1,h2⟩
theorem KV.put {kvs:ac (κ×V)} {vs:ac (κ×Value)} (r:KV kvs vs) (k:κ) {y:V} (ry:bI y u):KV (eG kvs k y) (stored vs k u):=by
 unfold eG stored;rw[r.any k];by_cases e:(vs.any fun kv=>decide (kv.1=k))=ah
 .rw[qY e,qY e];exact r.repl k ry
 .rw[qZ e,qZ e];exact Paired.snoc r ⟨rfl,ry⟩
theorem KV.drop {kvs:ac (κ×V)} {vs:ac (κ×Value)} (r:KV kvs vs) (k:κ):KV (kg kvs k) (without vs k):=by
 unfold KV at r ⊢;unfold kg without
 induction r with
 |nil=>exact .nil
 | @cons p q ps qs h t ih=>
  obtain⟨h1,h2⟩:=h;rw[vE,vE];by_cases e:p.1=k
  .have a:¬decide (p.1≠k)=ah:=by simp[e]
   have b:¬decide (q.1≠k)=ah:=by simp[h1.symm.trans e]
   rw[qZ a,qZ b];exact ih
  .have e':¬q.1=k:=fun z=>e (h1.trans z);have a:decide (p.1≠k)=ah:=by simp[e]
   have b:decide (q.1≠k)=ah:=by simp[e']
   rw[qY a,qY b];exact .cons ⟨h1,h2⟩ ih
theorem KV.keys {kvs:ac (κ×V)} {vs:ac (κ×Value)} (r:KV kvs vs):kvs.map (·.1)=vs.map (·.1):=by
 unfold KV at r
 induction r with
 |nil=>rfl
 |cons h t ih=>rw[qo,qo,ih,h.1]
theorem KV.length {kvs:ac (κ×V)} {vs:ac (κ×Value)} (r:KV kvs vs):kvs.length=vs.length:=Paired.length r
theorem B7 (kvs:ac (κ×V)) (k:κ):(kg kvs k).length<=kvs.length:=zq _ _
end
theorem jb {P:bV} {k:Key} (r:bI (kV k) u):(cP P w).is k u=ah:=by
 cases k with
 |inl i=>obtain⟨t,e⟩:=(show ∃t,u=c4 i t from r);subst e;exact IK P w i t
 |inr x=>obtain⟨t,e⟩:=(show ∃t,u=rV x t from r);subst e;exact PY P w x t
theorem D5 {P:bV} {w:cR}:∀{ks:ac Key} {us:ac Value},bO (ks.map kV) us->ItemsAre (cP P w) ks us
 |[],_,r=>by rw[qN] at r;cases r;exact .nil
 |k::ks,_,r=>by
  rw[qo] at r;cases r with
  |cons h t=>exact .cons (jb h) (D5 t)
noncomputable abbrev KT (H:Hp):ac (ac Key×V)->ac (ac Key×av×Value)->Prop:=Paired fun p q=>p.1=q.1/\H q.2.1=aa (.tup (p.1.map kV))/\bI p.2 q.2.2
variable {kvs:ac (ac Key×V)}
theorem KT.val {xs:ac (ac Key×av×Value)} (r:KT H kvs xs) (k:ac Key):eC (fP kvs k) ((lY xs k).map (·.2)):=by
 induction r with
 |nil=>exact iJ
 | @cons p q ps qs h t ih=>
  obtain⟨h1,_,h2⟩:=h;by_cases e:p.1=k
  .have e':q.1=k:=h1.symm.trans e;have b:lY (q::qs) k=aa q.2:=by simp[lY,eY,e']
   rw[vd e,b];exact h2
  .have e':¬q.1=k:=fun z=>e (h1.trans z);have b:lY (q::qs) k=lY qs k:=by simp[lY,eY,e']
   rw[uV e,b];exact ih
theorem KT.repl {xs:ac (ac Key×av×Value)} (r:KT H kvs xs) (k:ac Key) {y:V} (ry:bI y u) :
  KT H (kvs.map fun kv=>if kv.1=k then (kv.1,y) else kv) (xs.map (putAt k u)):=by
 induction r with
 |nil=>exact .nil
 | @cons p q ps qs h t ih=>
  rw[qo,qo];refine .cons ?_ ih;obtain⟨h1,h2,h3⟩:=h;unfold putAt;by_cases e:p.1=k
  .rw[qY e,qY (h1.symm.trans e)];exact⟨h1,h2,ry⟩
  .rw[qZ e,qZ (fun z=>e (h1.trans z))];exact⟨h1,h2,h3⟩
theorem KT.put {xs:ac (ac Key×av×Value)} (r:KT H kvs xs) (k:ac Key) {b:av} {y:V} (hb:H b=aa (.tup (k.map kV))) (ry:bI y u) :
  KT H (eG kvs k y) (storedH xs k b u):=by
 have e:(kvs.any fun kv=>decide (kv.1=k))=(lY xs k).isSome:=by rw[BK,(r.val k).isSome_eq,nv]
 unfold eG storedH;rw[e];by_cases q:(lY xs k).isSome=ah
 .rw[qY q,qY q];exact r.repl k ry
 .rw[qZ q,qZ q];exact Paired.snoc r ⟨rfl,hb,ry⟩
theorem KT.keeps {xs:ac (ac Key×av×Value)} (r:KT H kvs xs) (ht:∀b ys,H b=aa (.tup ys)->H' b=aa (.tup ys)):KT H' kvs xs:=
 Paired.mapP r fun _ _ z=>⟨z.1,ht _ _ z.2.1,z.2.2⟩
section
variable {P:bV} {h:Heap}
theorem Df {u:HO} (ok:HOk P w H h) (e:Rd H a u):cX P w H h a u:=e.ok ok
theorem gO {kvs:ac (Key×V)} (ok:HOk P w H h) (e:Rd H a (.dK kvs)):kvs.length<=aW/\(a==kJ)=ao/\∃vs,KV kvs vs/\h.DictOf (cP P w) a vs:=
 show cX P w H h a (.dK kvs) from Df ok e
theorem wg {kvs:ac (Key×V)} (ok:HOk P w H h) (e:H a=aa (.dK kvs)):kvs.length<=aW/\(a==kJ)=ao/\∃vs,KV kvs vs/\h.DictOf (cP P w) a vs:=gO ok (.inl e)
theorem j6 {ks:ac Key} (ok:HOk P w H h) (e:H a=aa (.tup (ks.map kV))):(kK (cP P w)).is h ks a:=by obtain⟨_,its,r,o,h1,h2,n,h3⟩:=(show cX P w H h a (.tup (ks.map kV)) from ok a _ e);exact⟨o,its.toArray,n,h1,h2,h3,by simpa using D5 r⟩
theorem lB (ok:HOk P w H h) (e:Rd H a (.dT kvs)):kvs.length<=aW/\(a==kJ)=ao /\
  ∃xs,KT H kvs xs/\h.DictOfH (kK (cP P w)) a xs:=by
 obtain⟨z,y,xs,r,o,es,ep,h1,h2,h3,h4,h5⟩:=(show cX P w H h a (.dT kvs) from Df ok e);refine⟨z,y,xs,r,o,es,ep,h1,h2,h3,h4,fun x hx=>?_,h5⟩;have all:∀{l:ac (ac Key×V)} {m:ac (ac Key×av×Value)},KT H l m->∀x∈m,(kK (cP P w)).is h x.1 x.2.1:=by
  intro l m q
  induction q with
  |nil=>intro x hx;exact nomatch hx
  | @cons p q ps qs hq t ih=>
   intro x hx;rcases c0.mp hx with e|hx
   .subst e;exact j6 ok (by rw[←hq.1];exact hq.2.1)
   .exact ih x hx
 exact all r x hx
theorem OP (ok:HOk P w H h) (e:H a=aa (.dT kvs)):kvs.length<=aW/\(a==kJ)=ao /\
  ∃xs,KT H kvs xs/\h.DictOfH (kK (cP P w)) a xs:=lB ok (.inl e)
end
noncomputable def fZ (H:Hp) (a:av) (y:V) (r:ar V):Prop:=
 (∃kvs k,Rd H a (.dK kvs)/\y=kV k/\r=fP kvs k)\/∃kvs k b,Rd H a (.dT kvs)/\y=.ref b/\H b=aa (.tup (k.map kV))/\r=fP kvs k
noncomputable def kH (H:Hp) (a:av) (y v:V) (H':Hp):Prop:=
 (∃kvs k,H a=aa (.dK kvs)/\y=kV k/\kvs.length<aW/\H'=upd H a (.dK (eG kvs k v))) \/
 ∃kvs k b,H a=aa (.dT kvs)/\y=.ref b/\H b=aa (.tup (k.map kV))/\kvs.length<aW/\H'=upd H a (.dT (eG kvs k v))
theorem fZ.k {kvs:ac (Key×V)} {k:Key} (e:H a=aa (.dK kvs)):fZ H a (kV k) (fP kvs k):=.inl ⟨kvs,k,.inl e,rfl,rfl⟩
theorem fZ.t {b:av} {k:ac Key} (e:H a=aa (.dT kvs)) (eb:H b=aa (.tup (k.map kV))):fZ H a (.ref b) (fP kvs k):=.inr ⟨kvs,k,b,.inl e,rfl,eb,rfl⟩
theorem kH.k {kvs:ac (Key×V)} {k:Key} (e:H a=aa (.dK kvs)) (hl:kvs.length<aW):kH H a (kV k) v (upd H a (.dK (eG kvs k v))):=.inl ⟨kvs,k,e,rfl,hl,rfl⟩
theorem kH.t {b:av} {k:ac Key} (e:H a=aa (.dT kvs)) (eb:H b=aa (.tup (k.map kV))) (hl:kvs.length<aW) :
  kH H a (.ref b) v (upd H a (.dT (eG kvs k v))):=.inr ⟨kvs,k,b,e,rfl,eb,hl,rfl⟩
section
variable {y:V} {r:Value} {o:ar V} {E:Value->aH->Prop}
theorem Inv.big (I:Inv X pins σ H s):kJ<s.heap.objs.size:=by have h:gd<s.heap.objs.size:=(I.mod.glob.keeps I.bk).lt;exact sr .(h) h
theorem Ic (hu:A.units+1<cy) (I:Inv X pins σ H s) (g:fZ H a y (aa v)) (ry:bI y u) (h:∀w' s',Inv X pins σ H s'->bI v w'->Q w' s') :
  aM .(s) A (nr (.ref a) u) Q E s:=by
 rcases g with⟨kvs,k,e,ey,l⟩|⟨kvs,k,b,e,ey,eb,l⟩
 .subst ey;obtain⟨z,hd,vs,rel,dd⟩:=gO I.hok e;obtain⟨w',hw,rw'⟩:=eC.some_of (v:=v) (o:=nu vs k) (by rw[l];exact rel.val k);exact wpAny_getItem_of (jb ry) dd.mapOf hw (h w' _ (I.tok _) rw')
 .subst ey;cases(show u=cm b from ry);obtain⟨z,hd,xs,rel,dd⟩:=lB I.hok e;obtain⟨w',hw,rw'⟩:=eC.some_of (v:=v) (o:=(lY xs k).map (·.2)) (by rw[l];exact rel.val k);obtain⟨p,hp,hp2⟩:=oMd hw;refine wpAny_getItem_heap (su hu) (j6 I.hok eb) dd hp ?_;rw[hp2];exact h w' _ (I.tok _) rw'
theorem Nb (hu:A.units+1<cy) (I:Inv X pins σ H s) (g:fZ H a y o) (ry:bI y u) (h:∀s',Inv X pins σ H s'->Q (.bool o.isSome) s') :
  aM .(s) A (dz .In u (.ref a)) Q E s:=by
 rcases g with⟨kvs,k,e,ey,l⟩|⟨kvs,k,b,e,ey,eb,l⟩
 .subst ey;obtain⟨z,hd,vs,rel,dd⟩:=gO I.hok e;refine wpAny_in_of (jb ry) hd dd.mapOf ?_;rw[←(rel.val k).isSome_eq,←l];exact h _ (I.tok _)
 .subst ey;cases(show u=cm b from ry);obtain⟨z,hd,xs,rel,dd⟩:=lB I.hok e;refine wpAny_in_heap (su hu) (j6 I.hok eb) hd dd ?_;have q:=(rel.val k).isSome_eq;rw[nv] at q;rw[←q,←l];exact h _ (I.tok _)
theorem Ld (hu:A.units+1<cy) (I:Inv X pins σ H s) (g:fZ H a y o) (ry:bI y u) (h:∀s',Inv X pins σ H s'->Q (.bool (!o.isSome)) s') :
  aM .(s) A (dz .NotIn u (.ref a)) Q E s:=by
 rcases g with⟨kvs,k,e,ey,l⟩|⟨kvs,k,b,e,ey,eb,l⟩
 .subst ey;obtain⟨z,hd,vs,rel,dd⟩:=gO I.hok e;refine wpAny_notIn_of (jb ry) hd dd.mapOf ?_;rw[←(rel.val k).isSome_eq,←l];exact h _ (I.tok _)
 .subst ey;cases(show u=cm b from ry);obtain⟨z,hd,xs,rel,dd⟩:=lB I.hok e;refine wpAny_notIn_heap (su hu) (j6 I.hok eb) hd dd ?_;have q:=(rel.val k).isSome_eq;rw[nv] at q;rw[←q,←l];exact h _ (I.tok _)
theorem uJ {ob:HO} (I:Inv X pins σ H s) (mu:Mut (H a)) (hs:iF a s.heap h') (he:∃q,h'.get? a=aa q) (new:cX X.prog X.w (upd H a ob) h' a ob) :
  Inv X pins σ (upd H a ob) {s with heap:=h',toks:=t'} :=
 I.write (x:=a) (e:=a) mu (.inl rfl) (fun b q hb z=>(hs.2 b hb).trans z) he new
theorem xG {P:bV} {kvs:ac (Key×V)} {vs:ac (Key×Value)} (z:kvs.length<=aW) (hd:(a==kJ)=ao) (rel:KV kvs vs) (dd:h'.DictOf (cP P w) a vs) :
  cX P w H' h' a (.dK kvs):=⟨z,hd,vs,rel,dd⟩
theorem NF {Q:lO->aH->Prop} (hu:A.units+1<cy) (I:Inv X pins σ H s) (g:kH H a y v H') (ry:bI y u) (rv:bI v r) (h:∀s',Inv X pins σ H' s'->Q () s') :
  aM .(s) A (setItem (.ref a) u r) Q E s:=by
 rcases g with⟨kvs,k,e,ey,l,eH⟩|⟨kvs,k,b,e,ey,eb,l,eH⟩
 .subst ey eH;obtain⟨z,hd,vs,rel,dd⟩:=wg I.hok e;have hz:vs.length<=aW:=by rw[←rel.length];exact z
  have hl:(eG kvs k v).length<=aW:=by have:=Co kvs k v;omega
  refine wpAny_setItem_pairs (hsz:=hz) (jb ry) dd fun h' dd' hs=>h _ ?_;have he:∃q,h'.get? a=aa q:=let ⟨q,_,_,hq,_⟩:=dd';⟨q,hq⟩
  exact uJ I (by rw[e];exact iJ) hs he (xG hl hd (rel.put k rv) dd')
 .subst ey eH;cases(show u=cm b from ry);obtain⟨z,hd,xs,rel,dd⟩:=OP I.hok e;have hz:xs.length<=aW:=by rw[←Paired.length rel];exact z
  have hl:(eG kvs k v).length<=aW:=by have:=Co kvs k v;omega
  refine wpAny_setItem_heap (hsz:=hz) (su hu) (j6 I.hok eb) dd fun h' dd' hs=>h _ ?_;obtain⟨q,es,ep,hq,h2,h3,h4,_,h5⟩:=dd';refine uJ I (by rw[e];exact iJ) hs ⟨q,hq⟩ ⟨hl,hd,_,(rel.put k eb rv).keeps fun c ys ec=>?_,q,es,ep,hq,h2,h3,h4,h5⟩;rw[a7 (wv ec e (fun z=>nomatch z))];exact ec
end
section
variable {kvs:ac (Key×V)} {k:Key} {E:Value->aH->Prop}
theorem SX {Q:lO->aH->Prop} (I:Inv X pins σ H s) (e:H a=aa (.dK kvs)) (ry:bI (kV k) u) (l:(fP kvs k).isSome=ah) (h:∀s',Inv X pins σ (upd H a (.dK (kg kvs k))) s'->Q () s') :
  aM .(s) A (delItem (.ref a) u) Q E s:=by
 obtain⟨z,hd,vs,rel,dd⟩:=wg I.hok e;refine wpAny_delItem_slot dd.typeIs .(h) Ri
  (ny Ri dd.typeIs PySem.F.entry_dict_delitem (PySem.F.args_dict_delitem_2 _ _) (meets_dict_delitem_pairs (cP X.prog X.w) a (jb ry)) ⟨vs,dd,by rw[←rel.length];exact z,by rw[←(rel.val k).isSome_eq];exact l,fun h' dd' hs=>h _ ?_⟩)
 have he:∃q,h'.get? a=aa q:=let ⟨q,_,_,hq,_⟩:=dd';⟨q,hq⟩
 exact uJ I (by rw[e];exact iJ) hs he (xG (qL (B7 kvs k) z) hd (rel.drop k) dd')
theorem Pc {more:ac Value} (I:Inv X pins σ H s) (e:H a=aa (.dK kvs)) (ry:bI (kV k) u) (l:fP kvs k=aa v) (hm:more=[]\/∃x,more=[x])
  (h:∀w' s',Inv X pins σ (upd H a (.dK (kg kvs k))) s'->bI v w'->Q w' s'):aM .(s) A (call (.builtin "dict.pop") (.ref a::u::more)) Q E s:=by
 obtain⟨z,hd,vs,rel,dd⟩:=wg I.hok e;obtain⟨w',hw,rw'⟩:=eC.some_of (v:=v) (o:=nu vs k) (by rw[←l];exact rel.val k);have hp:(keyPart u).isSome=ah:=by
  cases k with
  |inl i=>obtain⟨t,q⟩:=(show ∃t,u=c4 i t from ry);subst q;rfl
  |inr x=>obtain⟨t,q⟩:=(show ∃t,u=rV x t from ry);subst q;rfl
 have ha:ph "dict.pop" ⟨.ref a::u::more,[]⟩:=by
  rcases hm with q|⟨x,q⟩
  .subst q;exact PySem.F.args_dict_pop_2 _ _
  .subst q;exact PySem.F.args_dict_pop_3 _ _ _
 refine ny Rj dd.typeIs PySem.F.entry_dict_pop ha (meets_dict_pop_there (cP X.prog X.w) a (jb ry) more hm hp)
  ⟨vs,w',dd,by rw[←rel.length];exact z,hw,fun h' dd' hs=>h w' _ ?_ rw'⟩
 have he:∃q,h'.get? a=aa q:=let ⟨q,_,_,hq,_⟩:=dd';⟨q,hq⟩
 exact uJ I (by rw[e];exact iJ) hs he (xG (qL (B7 kvs k) z) hd (rel.drop k) dd')
end
noncomputable def tD (i:Expr):Prop:=∀ov iv,zl i ao ov iv=operate [ov,iv] (nr ov iv)
theorem PN {E:Value->aH->Prop} {slice:Expr} {id:dq} 
  (hl:vz (.type T) "__getitem__"=bG (aa (.builtin id))) (hs:tD slice)
  (h:aM .(N) A (eval value env) (fun o s₁=>aM .(N) A (eval slice env) (fun i s₂=>s₂.TypeIs o T/\aM .(N) A (nr o i) Q E s₂) E s₁) E s) :
  aM .(N) A (eval (.Subscript value slice pos) env) Q E s:=by
 refine Fb (ie h (fun o s₁ h₁=>ie h₁ (fun i s₂ h₂=>?_) fun _ _ x=>x) fun _ _ x=>x);obtain⟨hT,h₂⟩:=h₂;unfold Fc;refine qx ?_;rw[getitemInPython_of_ne hT.not_modules];refine qx (Fh hT hl ?_);have fin:aM .(N) A (zl slice ao o i) (fun r s₃=>aM .(N) A (letTemporaryGo value o r >>= fun _=>bG r) Q E s₃) E s₂:=by rw[hs o i];exact wpAny_operating (ie h₂ (fun r s₃ h₃=>qx (wpAny_letTemporaryGo (qz h₃))) fun _ _ x=>x)
 first
  |exact qz (qx fin)
  |exact qx (qz (qx fin))
  |exact qx fin
theorem Hg {y:V} {o:ar V} (I:Inv X pins σ H s) (g:fZ H a y o):s.TypeIs (.ref a) "dict":=by
 rcases g with⟨kvs,k,e,_,_⟩|⟨kvs,k,b,e,_,_,_⟩
 .obtain⟨_,_,vs,_,dd⟩:=gO I.hok e;exact dd.typeIs
 .obtain⟨_,_,xs,_,dd⟩:=lB I.hok e;exact dd.typeIs
noncomputable def Qf (td ty:TE):TE:=fun σ H Q=>td σ H fun x H1=>ty σ H1 fun y H2=>∃a v,x=.ref a/\fZ H2 a y (aa v)/\Q v H2
noncomputable def NA (td ty tv:TE):TS:=fun D σ H=>tv σ H fun v H1=>td σ H1 fun x H2=>ty σ H2 fun y H3=>∃a H4,x=.ref a/\kH H3 a y v H4/\D.nx σ H4
variable {td ty:TE}
section
variable {i:Expr}
theorem Bs (hu:X.A.units+1<cy) (ho:PE X o td) (hi:PE X i ty) (hs:tD i):PE X (.Subscript o i pos) (Qf td ty):=by intro pins s σ H Q I h;refine PN PySem.F.slot_dict_getitem.lookup hs (thn (ho pins s σ H _ I h) fun u s1 ⟨x,H1,I1,rx,q1⟩=>thn (hi pins s1 σ H1 _ I1 q1) fun iv s2 ⟨y,H2,I2,ry,a,v,ex,g,q2⟩=>?_);subst ex;obtain rfl:u=cm a:=rx;exact⟨Hg I2 g,Ic hu I2 g ry fun w' s3 I3 rw'=>⟨v,H2,I3,rw',q2⟩⟩
theorem Bv (hu:X.A.units+1<cy) (ho:PE X o td) (hi:PE X i ty) (hv:PE X value tv) (hs:fG value (aa (.Subscript o i pos')) pos.line X.env=bG ao) :
  PS X (.Assign [.Subscript o i pos'] value pos) (NA td ty tv):=by
 intro pins s σ H D I h;refine wpAny_Assign_Subscript (thn (hv pins s σ H _ I h) fun r s1 ⟨v,H1,I1,rv,q1⟩=>thn (ho pins s1 σ H1 _ I1 q1) fun u s2 ⟨x,H2,I2,rx,q2⟩=>thn (hi pins s2 σ H2 _ I2 q2) fun iv s3 ⟨y,H3,I3,ry,a,H4,ex,g,q3⟩=>?_) hs;subst ex;obtain rfl:u=cm a:=rx;exact NF hu I3 g ry rv fun s4 I4=>⟨σ,H4,I4,q3⟩
end
theorem Jm {P:bV} (h:Heap) (hb:kJ<h.objs.size):cX P w H (h.push {cls:=.type "dict",data:=.dict #[]}) h.objs.size (.dK []):=
 ⟨iK _,ng.mpr (dI (qB hb)),[],.nil,Rk h⟩
noncomputable def KO:TE:=fun _ H Q=>∀p,H p=ab->Q (.ref p) (upd H p (.dK []))
theorem xE:PE X (.Dict [] [] pos) KO:=fun pins s σ H Q I h=>
 wpAny_Dict_empty ⟨.ref s.heap.objs.size,_,I.laid (a:=s.heap.objs.size) (o:=.dK []) (t':=s.toks) (fun _ _ q=>qu _ q) (qw _) (Jm s.heap I.big),rfl,h _ (I.hok.fresh (qw _))⟩
structure M1 (X:Cx) (o:Expr) (m:aj) (apos:dD) (e:Expr) (cpos:dD):Prop where
 base:ig o m X.env (eval o X.env)=eval o X.env
 few:((cN cpos (a8 [e] X.env)).all (fun x=>!x.1) && (ji cpos (jj [] X.env)).all (fun x=>x.1.isSome)
  && decide (([e]:ac Expr).length+([]:ac jo).length+(if ([]:ac jo).isEmpty then 0 else 1)<30))=ah
 line:(apos.endLine==cpos.line)=ah
 trees:cN cpos (a8 [e] X.env)=[(ao,eval e X.env)]
structure M2 (X:Cx) (o:Expr) (m:aj) (apos:dD) (e f:Expr) (cpos:dD):Prop where
 base:ig o m X.env (eval o X.env)=eval o X.env
 few:((cN cpos (a8 [e,f] X.env)).all (fun x=>!x.1) && (ji cpos (jj [] X.env)).all (fun x=>x.1.isSome)
  && decide (([e,f]:ac Expr).length+([]:ac jo).length+(if ([]:ac jo).isEmpty then 0 else 1)<30))=ah
 line:(apos.endLine==cpos.line)=ah
 trees:cN cpos (a8 [e,f] X.env)=[(ao,eval e X.env),(ao,eval f X.env)]
noncomputable def IsD (H:Hp) (a:av):Prop:=(∃kvs,Rd H a (.dK kvs))\/∃kvs,Rd H a (.dT kvs)
theorem uY (I:Inv X pins σ H s) (d:IsD H a) :
  s.TypeIs (.ref a) "dict"/\(∀b,cm a=.ref b->∃ob,s.heap.get? b=aa ob/\ob.dict=ab)/\(a==kJ)=ao:=by
 rcases d with⟨kvs,e⟩|⟨kvs,e⟩
 .obtain⟨_,hd,vs,_,dd⟩:=gO I.hok e;refine⟨dd.typeIs,fun b q=>?_,hd⟩;cases q;obtain⟨ob,_,_,h1,h2,_⟩:=dd;exact⟨ob,h1,h2.2.1⟩
 .obtain⟨_,hd,xs,_,dd⟩:=lB I.hok e;refine⟨dd.typeIs,fun b q=>?_,hd⟩;cases q;obtain⟨ob,_,_,h1,h2,_⟩:=dd;exact⟨ob,h1,h2.2.1⟩
section
variable {y d:V} {r:Value} {o:ar V} {E:Value->aH->Prop}
theorem O5 (hu:A.units+1<cy) (I:Inv X pins σ H s) (g:fZ H a y o) (ry:bI y u) (h:∀w' s',Inv X pins σ H s'->bI (o.getD .non) w'->Q w' s') :
  aM .(s) A (call (.builtin "dict.get") [.ref a,u]) Q E s:=by
 rcases g with⟨kvs,k,e,ey,l⟩|⟨kvs,k,b,e,ey,eb,l⟩
 .subst ey;obtain⟨z,hd,vs,rel,dd⟩:=gO I.hok e;refine ny sv dd.typeIs zr (Rl _ _) (meets_dict_get (cP X.prog X.w) a (jb ry) hd) ⟨_,dd.mapOf,h _ _ (I.tok _) ?_⟩;rw[l];exact(rel.val k).getD rfl
 .subst ey;cases(show u=cm b from ry);obtain⟨z,hd,xs,rel,dd⟩:=lB I.hok e;refine ny sv dd.typeIs zr (Rl _ _) (meetsH_dict_get (kK (cP X.prog X.w)) a b hd) ⟨su hu,k,xs,j6 I.hok eb,dd,h _ _ (I.tok _) ?_⟩;rw[l];exact(rel.val k).getD rfl
theorem HK (hu:A.units+1<cy) (I:Inv X pins σ H s) (g:fZ H a y o) (ry:bI y u) (rd:bI d r) (h:∀w' s',Inv X pins σ H s'->bI (o.getD d) w'->Q w' s') :
  aM .(s) A (call (.builtin "dict.get") [.ref a,u,r]) Q E s:=by
 rcases g with⟨kvs,k,e,ey,l⟩|⟨kvs,k,b,e,ey,eb,l⟩
 .subst ey;obtain⟨z,hd,vs,rel,dd⟩:=gO I.hok e;refine ny sv dd.typeIs zr (Rm _ _ _) (meets_dict_get_default (cP X.prog X.w) a (jb ry) hd r) ⟨_,dd.mapOf,h _ _ (I.tok _) ?_⟩;rw[l];exact(rel.val k).getD rd
 .subst ey;cases(show u=cm b from ry);obtain⟨z,hd,xs,rel,dd⟩:=lB I.hok e;refine ny sv dd.typeIs zr (Rm _ _ _) (meetsH_dict_get_default (kK (cP X.prog X.w)) a b hd r) ⟨su hu,k,xs,j6 I.hok eb,dd,h _ _ (I.tok _) ?_⟩;rw[l];exact(rel.val k).getD rd
end
noncomputable def Oj (td ty:TE):TE:=fun σ H Q=>td σ H fun x H1=>∃a,x=.ref a/\IsD H1 a/\ty σ H1 fun y H2=>∃o,fZ H2 a y o/\Q (o.getD .non) H2
noncomputable def Gv (td ty tx:TE):TE:=fun σ H Q=>td σ H fun x H1=>∃a,x=.ref a/\IsD H1 a/\ty σ H1 fun y H2=>tx σ H2 fun z H3=>∃o,fZ H3 a y o/\Q (o.getD z) H3
noncomputable def Ms (td ty:TE):TE:=fun σ H Q=>td σ H fun x H1=>∃a,x=.ref a/\IsD H1 a/\ty σ H1 fun y H2=>∃kvs k v,H2 a=aa (.dK kvs)/\y=kV k/\fP kvs k=aa v/\Q v (upd H2 a (.dK (kg kvs k)))
section
variable {f:Expr} {tx:TE}
theorem Me (hu:X.A.units+1<cy) (ho:PE X o td) (he:PE X e ty) (m:M1 X o "get" apos e cpos):PE X (.Call (.Attribute o "get" apos) [e] [] cpos) (Oj td ty):=by intro pins s σ H Q I h;refine Fi m.base m.few m.line zt sv Rn (thn (ho pins s σ H _ I h) fun u s1 ⟨x,H1,I1,rx,a,ex,d,q1⟩=>?_);subst ex;obtain rfl:u=cm a:=rx;obtain⟨t1,t2,_⟩:=uY I1 d;refine⟨t1,t2,?_⟩;rw[m.trees];refine vB rfl (zm (vy (thn (he pins s1 σ H1 _ I1 q1) fun iv s2 ⟨y,H2,I2,ry,ov,g,q2⟩=>zb ?_)));exact O5 hu I2 g ry fun w' s3 I3 rw'=>⟨_,H2,I3,rw',q2⟩
theorem Hq (hu:X.A.units+1<cy) (ho:PE X o td) (he:PE X e ty) (hf:PE X f tx) (m:M2 X o "get" apos e f cpos):PE X (.Call (.Attribute o "get" apos) [e,f] [] cpos) (Gv td ty tx):=by
 intro pins s σ H Q I h;refine Fi m.base m.few m.line zt sv Rn (thn (ho pins s σ H _ I h) fun u s1 ⟨x,H1,I1,rx,a,ex,d,q1⟩=>?_);subst ex;obtain rfl:u=cm a:=rx;obtain⟨t1,t2,_⟩:=uY I1 d;refine⟨t1,t2,?_⟩;rw[m.trees];refine vB rfl (zm (vy (thn (he pins s1 σ H1 _ I1 q1) fun iv s2 ⟨y,H2,I2,ry,q2⟩=>
  vy (thn (hf pins s2 σ H2 _ I2 q2) fun fv s3 ⟨z,H3,I3,rz,ov,g,q3⟩=>zb ?_))))
 exact HK hu I3 g ry rz fun w' s4 I4 rw'=>⟨_,H3,I4,rw',q3⟩
theorem K0 (ho:PE X o td) (he:PE X e ty) (m:M1 X o "pop" apos e cpos):PE X (.Call (.Attribute o "pop" apos) [e] [] cpos) (Ms td ty):=by intro pins s σ H Q I h;refine Fi m.base m.few m.line zt Rj PySem.F.type_dict_pop (thn (ho pins s σ H _ I h) fun u s1 ⟨x,H1,I1,rx,a,ex,d,q1⟩=>?_);subst ex;obtain rfl:u=cm a:=rx;obtain⟨t1,t2,_⟩:=uY I1 d;refine⟨t1,t2,?_⟩;rw[m.trees];refine vB rfl (zm (vy (thn (he pins s1 σ H1 _ I1 q1) fun iv s2 ⟨y,H2,I2,ry,kvs,k,v,ea,ey,l,q2⟩=>zb ?_)));subst ey;exact Pc I2 ea ry l (.inl rfl) fun w' s3 I3 rw'=>⟨v,_,I3,rw',q2⟩
end
variable {loose:ac aj} {XP:(aj->ar Value)->Heap->Prop} {YP:cR->Heap->Prop}
namespace Att
open PySem PySem.W PySem.Calls PyProof.Rows
theorem OK {P:zu} {h:Heap} :∀(ns:ac ag) (vs:ac Value),WellAll P h vs (ns.map Ro)->j1 vs ns:=by
 intro ns
 induction ns with
 |nil=>
  intro vs w;rw[qN] at w;cases w;exact .nil
 |cons n ns ih=>
  intro vs w;rw[qo] at w;cases w with
  |cons a b=>
   cases a;exact .cons _ _ (ih _ b)
theorem D8 {l:OpenLaw} (hn:l.most=aa n) {P:zu} {h:Heap} {args:ac WData} {vals:ac Value} 
  (hpre:l.row.toRowW.claim.pre args=ah) (hwl:WellAll P h vals args) :
  ∃a vs ns,vals=[cm a]/\args=[WData.list (ns.map Ro)]/\h.get? a=aa {cls:=.type "list",data:=.seq vs.toArray}/\j1 vs ns/\ns.length<=n:=by
 have hsh:WShape.hasAll [] args [.list .int]=ah:=(pre_splitW hpre).1;have hc:l.pre.holds [] {args:=args}=ah:=(pre_splitW hpre).2;obtain⟨d,r,rfl,h1,h2⟩:=hasAllW_cons hsh;obtain rfl:=hasAllW_nil h2;obtain⟨xs,rfl,h3⟩:=hasW_list h1;obtain⟨ns,rfl⟩:=items_int h3;have hlen:ns.length<=n:=by
  unfold OpenLaw.pre at hc;have h4:(WTm.not (.lt (.lit (.int (n:ag))) (.len (.arg 0)))).holds [] {args:=[.list (ns.map .int)]}=ah:=by have h4:=(holds_andW hc).1;rw[hn] at h4;exact h4
  have h5:=condW_of h4 (w_not (w_lt w_lit (w_len_list (w_arg rfl))));rw[qg] at h5;refine Rp fun q=>?_;have q':(n:ag)<((ns.length:al):ag):=by omega
  first
   |(rw[qR q'] at h5;exact bK h5 .(h))
   |(simp at h5;omega)
 cases hwl with
 |cons w1 w2=>
  cases w2;cases w1 with
  |list ho hall=>exact⟨_,_,ns,rfl,rfl,ho,OK ns _ hall,hlen⟩
theorem EC (l:OpenLaw) (args:ac WData):l.row.toRowW.claim.post args (.bool ah) args=ah:=
 postW_of (r:=l.row.toRowW) (X:=(ah==ah))
  (show Rq [] (.bool ah) .bool=ah by first|rfl|decide|simp[Rq,WShape.arms,WShape.armsAll])
  (show(WTm.eq .res (.lit (.bool ah))).value [] {args:=args,res:=aa (.bool ah),after:=args}=aa (.bool (ah==ah)) from w_eq_bool (w_res rfl) w_lit) rfl
theorem SZ {l:OpenLaw} {q:bV} {d:zv} 
  (hn:l.most=aa n) (hdf:d.params.defaults=[])
  (hbind:∀pm cd doc v:Value,kP (docDef d.name d.params d.body d.scope pm cd doc) ⟨[v],[]⟩=bG [(x,v)])
  (hx:d.scope.names.lookup x=aa .local\/d.scope.names.lookup x=aa .cell)
  (hk:d.scope.kind=.function) (hco:d.scope.isCoroutine=ao) (hgen:d.scope.isGenerator=ao)
  (body:∀(w:cR) (s₀ s₁ s:aH) (mg mb:aj->ar Value) (fa:av) (o:bf) (pm cd doc:Value) (a:av) (vs:ac Value) (ns:ac ag),
   Ground q loose [] XP w s₀ mg mb s₁.heap->YP w s₁.heap->
   s₁.heap.get? fa=aa o->o.data=.func (docDef d.name d.params d.body d.scope pm cd doc)->s₁.heap.CodeRec cd d.name->mg d.name=aa (.ref fa)->
   s₁.heap.get? a=aa {cls:=.type "list",data:=.seq vs.toArray}->j1 vs ns->ns.length<=n->
   s.gens=#[]->s.os=s₁.os->
   Fr s₁.heap s₁.heap.objs.size s.heap (lV (eX d.name d.scope s₁.heap.objs.size fa cd).kindOf [(x,.ref a)] fun _=>ab)->
   Cl s₁.heap.objs.size (ze (s₁.heap.objs.size+1) d.scope.names []) s.heap (lW (eX d.name d.scope s₁.heap.objs.size fa cd).kindOf [(x,.ref a)] fun _=>ab)->
   aM (aR l.prog w) (nz.deeper (eX d.name d.scope s₁.heap.objs.size fa cd)) (execs d.body (eX d.name d.scope s₁.heap.objs.size fa cd))
    (fun f s'=>f=.ret (.bool ah)/\OldK s₁.heap s'.heap/\s'.os=s₁.os/\kM s'.gens) (fun _ _=>False) s) :
  WalkO q loose XP YP l.row.toRowW d [] (fun f vs=>zx f vs):=by
 intro w s₀ s₁ mg mb G Y fa o pm cd doc dV kV ho hd hcd hD hmg hg args vals as hpre hlay hrd hwl hlo;obtain rfl:dV=.none:=Rr hD hdf;obtain rfl:kV=.none:=Rs hD;obtain⟨a,vs,ns,rfl,rfl,hobj,hints,hlen⟩:=D8 hn hpre hwl;refine enter_call ?_;refine call_cells_ret (o:=o) (by rw[depth_caller];decide) ho (Fj hd) G.T.nolimit hcd (hbind pm cd doc (.ref a)) (fun y hy=>?_) (fun h₁ tk F X=>?_) hco hgen hk
 .obtain rfl:y=(x,cm a):=ce.mp hy;rcases hx with e|e
  .exact .inl e
  .exact .inr ⟨e,cellsFrom_some _ _ _ (.inl e)⟩
 .refine ie (body w s₀ s₁ {s₁ with heap:=h₁,toks:=tk} mg mb fa o pm cd doc a vs ns G Y ho (Fj hd) hcd hmg hobj hints hlen hg rfl F X) (fun f s' hq=>?_) (fun _ _ hq=>hq);obtain⟨rfl,h2,h3,h4⟩:=hq;exact⟨.inl ⟨.bool ah,.bool ah,[],rfl,fun _=>rfl,.bool ah,EC l _,fun _=>⟨Rt,fun _ hm=>(nomatch hm)⟩⟩,h2,h3,h4⟩
theorem attach_call {l:OpenLaw} {q:bV} {d:zv} 
  (hn:l.most=aa n) (hdf:d.params.defaults=[])
  (call:∀(w:cR) (s₀ s₁:aH) (mg mb:aj->ar Value) (fa:av) (o:bf) (pm cd doc:Value) (a:av) (vs:ac Value) (ns:ac ag),
   Ground q loose [] XP w s₀ mg mb s₁.heap->YP w s₁.heap->
   s₁.heap.get? fa=aa o->o.data=.func (docDef d.name d.params d.body d.scope pm cd doc)->s₁.heap.CodeRec cd d.name->mg d.name=aa (.ref fa)->
   s₁.heap.get? a=aa {cls:=.type "list",data:=.seq vs.toArray}->j1 vs ns->ns.length<=n->s₁.gens=#[]->
   iH (aR l.prog w) nz (.call (.ref fa) ⟨[.ref a],[]⟩) (fun r s'=>r=.ok (.ret (.bool ah))/\OldK s₁.heap s'.heap/\s'.os=s₁.os/\kM s'.gens) s₁) :
  WalkO q loose XP YP l.row.toRowW d [] (fun f vs=>zx f vs):=by
 intro w s₀ s₁ mg mb G Y fa o pm cd doc dV kV ho hd hcd hD hmg hg args vals as hpre hlay hrd hwl hlo;obtain rfl:dV=.none:=Rr hD hdf;obtain rfl:kV=.none:=Rs hD;obtain⟨a,vs,ns,rfl,rfl,hobj,hints,hlen⟩:=D8 hn hpre hwl;refine enter_call (sg (call w s₀ s₁ mg mb fa o pm cd doc a vs ns G Y ho (Fj hd) hcd hmg hobj hints hlen hg) fun r s' hq=>?_);obtain⟨rfl,h2,h3,h4⟩:=hq;exact⟨.inl ⟨.bool ah,.bool ah,[],rfl,fun _=>rfl,.bool ah,EC l _,fun _=>⟨Rt,fun _ hm=>(nomatch hm)⟩⟩,h2,h3,h4⟩
section
variable {E:Value->aH->Prop} {K:bu}
noncomputable def SY (h:Heap) (L d:av):ac (av×bf):=(cV h.objs.size).filterMap fun a=>if a=L\/a=d then ab else (h.get? a).map fun o=>(a,o)
end
end Att
theorem Cq:∀{vs:ac Value} {ns:ac ag},j1 vs ns->bO (ns.map V.int) vs
 |_,_,.nil=>.nil
 |_,_,.cons n t h=>.cons ⟨t,rfl⟩ (Cq h)
noncomputable def yK (H:Hp):Prop:=∀b,H b=ab\/∃o xs,H b=aa (.frz o (.lst xs))
theorem Ow {P:bV} {mb:aj->ar Value} {k:al} {fa:av} {s₁:aH} {vs:ac Value} {ns:ac ag} 
  (KX:K.In s₁.heap) (hns:s₁.heap.Ns gd mg) (hb:s₁.heap.Ns EL mb) (hbb:∀x:aj,x≠"__name__"->mb x=lN x) (hlim:s₁.heap.NoLimit) (hg:s₁.gens=#[])
  (ha:s₁.heap.get? a=aa {cls:=.type "list",data:=.seq vs.toArray}) (hi:j1 vs ns) (hl:ns.length<=aW) (hr:Room k nz)
  (F:∀base:Heap,K.In base->base.Ns gd mg->FnOk P w K mg base CX k fa fd [x] sp) (hbind:∀(s:aH) (u:Value),se s fd ⟨[u],[]⟩ [(x,u)])
  (hsp:∀H:Hp,yK H->SqL K H a (ns.map V.int)->sp [.ref a] H (fun v _=>v=.bl ah) fun _ _ _=>False)
  (hCX:∀H e s',CX [] H s₁ (fun _ _ _=>False) e s'->False) :
  iH (aR P w) nz (.call (.ref fa) ⟨[.ref a],[]⟩) (fun r s'=>r=.ok (.ret (.bool ah))/\OldK s₁.heap s'.heap/\s'.os=s₁.os/\kM s'.gens) s₁:=by
 have rv:=Cq hi;have lenV:=hi.length;have core:∀H:Hp,yK H->SqL K H a (ns.map V.int)->HOk P w H s₁.heap->(∀b,H b≠ab->b=a)->(H a≠ab->K.lookup a=ab)->
   iH (aR P w) nz (.call (.ref fa) ⟨[.ref a],[]⟩) (fun r s'=>r=.ok (.ret (.bool ah))/\OldK s₁.heap s'.heap/\s'.os=s₁.os/\kM s'.gens) s₁:=by
  intro H hO hS hok hA hK;have base_of:∀{b:av} {o:bf},s₁.heap.get? b=aa o->H b=ab->(kz s₁.heap H).get? b=aa o:=fun e n=>ON e n;have noA:∀{b:av} {o:bf} {es:bQ DictEntry} {ep:al},s₁.heap.get? b=aa o->o.data=.dict es ep->H b=ab:=fun {b o es ep} e d=>by
   cases q:H b with
   |none=>rfl
   |some u=>
    have e':b=a:=hA b (by rw[q];simp);subst e';rw[ha] at e;cases e;have d':Data.seq vs.toArray _=Data.dict es ep:=d;cases d'
  have nsK:∀{b:av} {m:aj->ar Value},s₁.heap.Ns b m->(kz s₁.heap H).Ns b m:=fun {b m} ⟨o,es,ep,e,d,r⟩=>⟨o,es,ep,base_of e (noA e d),d,r⟩;have hKb:K.In (kz s₁.heap H):=fun b o e=>base_of (KX b o e) (by
   cases q:H b with
   |none=>rfl
   |some u=>
    have e':b=a:=hA b (by rw[q];simp);subst e';rw[hK (by rw[q];simp)] at e;cases e)
  have hM:Mod K mg (kz s₁.heap H):=⟨hKb,nsK hns,⟨mb,nsK hb,hbb⟩,let ⟨mc,h1,h2⟩:=hlim;⟨mc,nsK h1,h2⟩⟩;have e0:Env0 P w K mg (kz s₁.heap H) nz [] s₁ H:=⟨rfl,hM,fun b o e=>N8 e,za (MZ _ _),trivial,fun b hb=>bK (show b∈([]:ac av) from hb) (by simp),hok,.of_eq hg⟩;refine sg ((F _ hKb (nsK hns)).run nz [] s₁ H ⟨[.ref a],[]⟩ [.ref a] [.ref a] _ _ hr e0 (hbind s₁ (.ref a)) (.cons rfl .nil) (hsp H hO hS)) fun r s' h=>?_;cases r with
  |error e=>exact(hCX H e s' h).elim
  |ok fl=>
   cases fl with
   |next=>exact iG h
   |brk=>exact iG h
   |cont=>exact iG h
   |ret u=>
    obtain⟨v,H',os,bare,un,hok',r',q⟩:=h;have q':v=.bl ah:=q;subst q';obtain rfl:u=jV ah:=r';refine⟨rfl,OldK.of_keep fun b o e=>?_,os,bare⟩;cases q:H b with
    |none=>exact un.keep b o e q (by intro z;exact bK (show b∈([]:ac av) from z) (by simp)) (by simp)
    |some u=>
     rcases hO b with z|⟨ob,xs,z⟩
     .rw[q] at z;cases z
     .have z2:=un.frzs b ob _ z;obtain⟨e1,_⟩:=hok b _ z;obtain⟨e2,_⟩:=hok' b _ z2;rw[e] at e1;cases e1;exact e2
 cases hk:K.lookup a with
 |some o=>
  have e:=KX a o hk;rw[ha] at e;cases e;refine core (fun _=>ab) (fun _=>.inl rfl) (.inr ⟨_,vs.toArray,_,hk,rfl,rfl,rfl,by rw[qA,lenV];exact hl,by simpa using rv⟩) (fun b u z=>by have z':(ab:ar HO)=aa u:=z;cases z') (fun b z=>bK rfl z) fun z=>bK rfl z
 |none=>
  refine core (fun b=>if b=a then aa (.frz {cls:=.type "list",data:=.seq vs.toArray} (.lst (ns.map V.int))) else ab) (fun b=>?_) (.inl (.inr ⟨{cls:=.type "list",data:=.seq vs.toArray},qY rfl⟩)) (fun b u z=>?_) (fun b z=>?_) fun _=>hk
  .by_cases hb:b=a
   .exact .inr ⟨_,_,qY hb⟩
   .exact .inl (qZ hb)
  .by_cases hb:b=a
   .have z':=(qY hb).symm.trans z;cases z';subst hb;exact⟨ha,by rw[qg];exact hl,vs,_,rv,ha⟩
   .have z':=(qZ hb).symm.trans z;cases z'
  .by_cases hb:b=a
   .exact hb
   .exact bK (qZ hb) z
noncomputable abbrev KOf {h:Heap} (_:K.In h):bu:=K
theorem walk_of {l:Fk} {k:al} {q:bV} {d:zv} {K:zu->bu} {CX:cR->CXT} {sp:cR->Sp} 
  (hn:l.most=aa n) (hn2:n<=aW) (hdf:d.params.defaults=[]) (hr:Room k nz)
  (hY:∀(w:cR) (h:Heap),YP w h->(K w.params).In h)
  (F:∀(w:cR) (mg:aj->ar Value) (fa:av) (h:Heap),(K w.params).In h->h.Ns gd mg->mg d.name=aa (.ref fa)->
   ∃fd:nj,(∀(s:aH) (u:Value),se s fd ⟨[u],[]⟩ [(x,u)]) /\
    ∀base:Heap,(K w.params).In base->base.Ns gd mg->FnOk l.prog w (K w.params) mg base (CX w) k fa fd [x] (sp w))
  (hsp:∀(w:cR) (H:Hp) (a:av) (ns:ac ag),ns.length<=n->yK H->SqL (K w.params) H a (ns.map V.int)->sp w [.ref a] H (fun v _=>v=.bl ah) fun _ _ _=>False)
  (hCX:∀(w:cR) (H:Hp) (s:aH) (e:Value) (s':aH),CX w [] H s (fun _ _ _=>False) e s'->False) :
  Ru q loose XP YP l.row.toRowW d [] (fun f vs=>zx f vs):=by
 refine Att.attach_call hn hdf fun w s₀ s₁ mg mb fa o pm cd doc a vs ns G Y ho hd hcd hmg hobj hints hlen hg=>?_;have KX:=hY w _ Y;obtain⟨fd,hb,hF⟩:=F w mg fa _ KX G.T.g hmg;exact Ow KX G.T.g G.T.b G.T.builtins G.T.nolimit hg hobj hints (qL hlen hn2) hr hF hb (fun H hO hS=>hsp w H a ns hlen hO hS) fun H e s'=>hCX w H s₁ e s'
noncomputable def eh (s:Stmt) (j:al):Stmt:=match s with
 |.ClassDef _ _ _ body _ _ _ _ _ _ _=>body.getD j (.Pass ⟨0,0,0,0⟩)
 |_=>.Pass ⟨0,0,0,0⟩
noncomputable def hZ (s:Stmt):Arguments:=match s with
 |.FunctionDef _ a _ _ _ _ _ _ _ _=>a
 |_=>{posonlyargs:=[],args:=[],vararg:=ab,kwonlyargs:=[],kw_defaults:=[],kwarg:=ab,defaults:=[]}
noncomputable def dS (s:Stmt):ac Stmt:=match s with
 |.FunctionDef _ _ b _ _ _ _ _ _ _=>b
 |_=>[]
noncomputable def aS (s:Stmt):Scope:=match s with
 |.FunctionDef _ _ _ _ _ _ sc _ _ _=>sc
 |_=>{kind:=.function,names:=[],isGenerator:=ao,isCoroutine:=ao}
noncomputable abbrev CX0:CXT:=fun _ _ _ _ _ _=>False
noncomputable abbrev E0:XK:=fun _ _ _=>False
theorem rC :my CX0 X E0:=fun _ _ _ _ _ _ _ h=>h.elim
structure Fun (K:bu) (x qual:aj) (st:Stmt) (f:av) (fd:nj):Prop where
 ex:∃(oc:Value) (od:ar av) (kV doc pm:Value) (an:ar av) (cdv ct:Value) (osl:bQ (ar Value)),
  fd=gW x qual (hZ st) (dS st) (aS st) .none kV doc pm an cdv ct/\K.lookup f=aa ⟨oc,od,.func fd,osl⟩/\si K cdv qual=ah
 kp:iI K (.ref f)=ah
section
variable {P:bV}
theorem Fun.ok {f:av} {k:al} (F:Fun K x qual st f fd) (S:FnScope N ps (aS st)) (len:∀vs H Q E,sp vs H Q E->vs.length=ps.length)
  (hbody:∀(cdv:Value) (A:dB) (outer:ac c8) (s:aH) (H:Hp) (vs:ac V) (Q:VK) (E:XK),Room k .(ax)->sp vs H Q E->
   ∃t,PSs .(ak).nox (dS st) t/\t {nx:=fun _ H'=>Q .non H',rt:=Q} (gR N vs) H):FnOk P w K mg base CX0 (k+1) f fd ps sp:=by
 obtain⟨oc,od,kV,doc,pm,an,cdv,ct,osl,rfl,lk,hcd⟩:=F.ex;refine LD lk hcd S len fun A outer s H vs Q E hr hsp=>?_;obtain⟨t,h,q⟩:=hbody cdv A outer s H vs Q E hr hsp;exact⟨t,h.nox,q⟩
theorem Fun.binds {f:av} (F:Fun K x qual st f fd)
  (h:∀(kV doc pm:Value) (an:ar av) (cdv ct:Value) (us:ac Value),us.length=ps.length->kP (gW x qual (hZ st) (dS st) (aS st) .none kV doc pm an cdv ct) ⟨us,[]⟩=bG (ps.zip us)):gG K fd ps []:=by
 obtain⟨oc,od,kV,doc,pm,an,cdv,ct,osl,rfl,lk,hcd⟩:=F.ex;exact .all (h kV doc pm an cdv ct)
theorem wf {f:av} {kV:Value} (l:K.lookup f=aa ⟨oc,od,.func (gW x qual (hZ st) (dS st) (aS st) .none kV doc pm an cdv ct),osl⟩)
  (c:si K cdv qual=ah) (k:iI K (.ref f)=ah):Fun K x qual st f (gW x qual (hZ st) (dS st) (aS st) .none kV doc pm an cdv ct):=⟨⟨oc,od,kV,doc,pm,an,cdv,ct,osl,rfl,l,c⟩,k⟩
end
theorem pv (i:al) (hN:X.N[i]?=aa x:=by rfl) (hv:Vis X.env.scope x:=by first|exact dc rfl|exact cH (dc rfl)|exact cH (cH rfl)) (hd:.(G)=ao:=by decide)
  (hcd:.(ap)=ao:=by decide):PE X (.Name x pos) (AQ i):=iq hN hv hd hcd
theorem m6 {A B:Prop} (h:B):if ao=ah then A else B:=by rw[qZ qt];exact h
theorem mr {A B:Prop} (h:A):if ah=ah then A else B:=by rw[qY rfl];exact h
noncomputable def bT (H H':Hp):Prop:=∀b o,H b=aa o->H' b=aa o
theorem bT.refl (H:Hp):bT H H:=fun _ _ h=>h
theorem bT.trans (a:bT H H1) (b:bT H1 H2):bT H H2:=fun c o h=>b c o (a c o h)
theorem bT.free (e:bT H H') {l:av} (h:H' l=ab):H l=ab:=by
 cases q:H l with
 |none=>rfl
 |some o=>
  rw[e l o q] at h;cases h
theorem bT.seq {xs:ac V} (e:bT H H') (h:SqL K H a xs):SqL K H' a xs:=by
 rcases h with(h|⟨o,h⟩)|h
 .exact .inl (.inl (e _ _ h))
 .exact .inl (.inr ⟨o,e _ _ h⟩)
 .exact .inr h
variable {elt:Expr} {ifs:ac Expr}
theorem LC {target:Expr} {it acc:Value} (I:al->aH->Prop)
  (turn:∀n s,I n s->aM .(N) A (jZ it) (fun r s₁=>match r with
   |none=>R (.ok .next) s₁
   |some v=>aM .(N) A (vo target it v) (fun _ s₁'=>aM .(N) A (kN target env v) (fun _ s₂ =>
     aM .(N) A (vF ifs ah fun c r=>if r=ah then do let ok ←isTrue c env (eval c env);bG (sw ok) else bG (sw r)) (fun ok s₃ =>
      if ok=ah then aM .(N) A (eval elt env) (fun x s₄ =>
       aM .(N) A (call (.builtin "list.append") [acc,x]) (fun _ s₅=>∃m,m<n/\I m s₅) (fun _ _=>False) s₄) (fun _ _=>False) s₃
      else ∃m,m<n/\I m s₃) (fun _ _=>False) s₂) (fun _ _=>False) s₁') (fun _ _=>False) s₁) (fun _ _=>False) s)
  (n:al) (h:I n s) :
  iH .(N) A (.compLoop (.ListComp elt [⟨target,iter,ifs,0⟩] scope pos) 0 it acc env) R s:=by
 refine codeAny_loop rfl I (fun n s hI=>?_) n h;show aM _ A ((compTurn (.ListComp elt [⟨target,iter,ifs,0⟩] scope pos) 0 it acc env).onRaise (fun x=>do noteFrame x env;theTreesLotGoes x)) _ _ s;refine wpAny_noted ?_;rw[compTurn_list];refine qx (ER (qx (ie (turn n s hI) (fun r s₁ h₁=>?_) fun _ _ h'=>h'.elim)));cases r with
 |none=>exact qz h₁
 |some v=>
  refine qx (ie h₁ (fun _ s₁' h₁'=>?_) fun _ _ h'=>h'.elim);refine qx (ie h₁' (fun _ s₂ h₂=>qx (ie h₂ (fun ok s₃ h₃=>?_) fun _ _ h'=>h'.elim)) fun _ _ h'=>h'.elim);cases ok with
  |false=>exact qz ⟨rfl,h₃⟩
  |true=>
   exact qx (qx (ie h₃ (fun x s₄ h₄=>qx (ie h₄ (fun _ s₅ h₅=>qz (qz ⟨rfl,h₅⟩)) fun _ _ h'=>h'.elim)) fun _ _ h'=>h'.elim))
noncomputable def iS (X:Cx) (N':ac aj) (scope:Scope) (cl:ac (aj×av)) (C:av) (s₀:aH) (H₀:Hp) (fp:ac av):Cx:=
 {X with N:=N',s₀:=s₀,H₀:=H₀,env:=Fm scope cl C X.env,outer:=X.stack,stack:=X.stack,ex:=fp,fn:=fun _=>ao,pn:=[],xe:=fun _ _=>False}
noncomputable def fF (env:c8):ac (aj×ii)->ac (aj×av)->ac (aj×av)
 |[],acc=>acc
 |(n,k)::r,acc=>fF env r (if k==.free then (match env.cells.lookup n with|some c=>(n,c)::acc|none=>acc) else acc)
theorem JK (h:∀y∈scope.names,y.2=.free->∃c,env.cells.lookup y.1=aa c):closureFor scope env=bG (fF env scope.names []):=by
 have all:∀(l:ac (aj×ii)) (acc:ac (aj×av)),(∀y∈l,y.2=.free->∃c,env.cells.lookup y.1=aa c)->
   (vF l acc fun x r=>match x with
    |(name,kind)=>if kind==.free then do let c ←cellOf env name;bG (sw ((name,c)::r)) else bG (sw r):Sem (ac (aj×av)))=bG (fF env l acc):=by
  intro l
  induction l with
  |nil=>intro acc _;rfl
  |cons y r ih=>
   intro acc hl;obtain⟨n,k⟩:=y;rw[List.forIn_cons];have hr:∀y∈r,y.2=.free->∃c,env.cells.lookup y.1=aa c:=fun y hy=>hl y (qi _ hy);unfold fF;cases hk:(k==nB) with
   |false=>
    simp only[hk,qr,c9,pure_bind];exact ih acc hr
   |true=>
    obtain⟨c,hc⟩:=hl (n,k) qh (by simpa using hk);have hc':env.cells.lookup n=aa c:=hc;simp only[hk,cK,cellOf,hc',pure_bind];exact ih _ hr
 have e:=all scope.names [] h;exact Eq.trans (bind_pure _) e
theorem wV {env:c8}:∀(l:ac (aj×ii)) (acc:ac (aj×av)),(∀x c,acc.lookup x=aa c->env.cells.lookup x=aa c)->∀x c,(fF env l acc).lookup x=aa c->env.cells.lookup x=aa c
 |[],_,h=>h
 |(n,k)::r,acc,h=>by
  unfold fF;refine wV r _ ?_;split
  .split
   .rename_i c hc;intro x d hx;rw[pi] at hx;cases e:x==n with
    |true=>
     rw[e] at hx;have e':x=n:=by simpa using e
     have e2:c=d:=qG hx;rw[e',←e2];exact hc
    |false=>rw[e] at hx;exact h x d hx
   .exact h
  .exact h
theorem Dz {env:c8}:∀(l:ac (aj×ii)) (acc:ac (aj×av)) (x:aj),(acc.lookup x).isSome=ah->((fF env l acc).lookup x).isSome=ah
 |[],_,_,h=>h
 |(n,k)::r,acc,x,h=>by
  unfold fF;refine Dz r _ x ?_;split
  .split
   .rw[pi];split
    .rfl
    .exact h
   .exact h
  .exact h
theorem wU {env:c8}:∀(l:ac (aj×ii)) (acc:ac (aj×av)) (x:aj) (c:av),(x,nB)∈l->env.cells.lookup x=aa c->((fF env l acc).lookup x).isSome=ah
 |[],_,_,_,h,_=>nomatch h
 |(n,k)::r,acc,x,c,h,hc=>by
  unfold fF;rcases c0.mp h with e|h
  .injection e with e1 e2;subst e1;subst e2;refine Dz r _ _ ?_;rw[qY (by rfl),hc];simp
  .exact wU r _ x c h hc
theorem ue {env:c8}:∀(names:ac (aj×ii)) (x:aj) (k':ii),
  (names.map fun(n,k)=>if .(ag) then (n,zy) else (n,k)).lookup x=aa k'->
  names.lookup x=aa k'\/(k'=.cell/\names.lookup x=aa .free)
 |[],_,_,h=>by simp at h
 |(n,k)::r,x,k',h=>by
  have ih:=@ue env r x k';have h':dJ x ((if .(ag)=ah then (n,zy) else (n,k))::(r.map fun(n,k)=>if .(ag) then (n,zy) else (n,k)))=aa k':=h;cases hx:x==n with
  |true=>
   by_cases hc:.(ag)=ah
   .rw[qY hc] at h';simp only[pi,hx] at h' ⊢;have hk:k=.free:=by simp only[fU,kO] at hc;exact hc.1.1
    right
    exact⟨(qG h').symm,by rw[hk]⟩
   .rw[qZ hc] at h';simp only[pi,hx] at h' ⊢;exact .inl h'
  |false=>
   have h2:dJ x (r.map fun(n,k)=>if .(ag) then (n,zy) else (n,k))=aa k':=by
    by_cases hc:.(ag)=ah
    .rw[qY hc] at h';simpa only[pi,hx] using h'
    .rw[qZ hc] at h';simpa only[pi,hx] using h'
   simp only[pi,hx];exact ih h2
structure CompScope (X:Cx) (scope:Scope):Prop where
 kind:scope.kind=.function
 nocell:∀y∈scope.names,y.2≠.cell
 names:∀y∈scope.names,y.2=.local->scope.names.lookup y.1=aa .local
 free:∀y∈scope.names,y.2=.free->X.env.kindOf y.1=aa .cell\/X.env.kindOf y.1=aa .free
noncomputable def iT (fv:ac (ar al)) (σ:St):St:=fv.map fun o=>o.bind fun j=>(σ[j]?).join
variable {N':ac aj} {fv:ac (ar al)}
theorem Ar (I:Inv X pins σ H s) (S:CompScope X scope):closureFor scope X.env=bG (fF X.env scope.names []):=
 JK fun y hy hf=>I.ok.has y.1 (S.free y hy hf)
theorem Kk (I:Inv X pins σ H s) (S:CompScope X scope) (hf:∀b∈fp,gY X pins H b) (hlt:∀b∈fp,b<s.heap.objs.size) (hC:s.heap.objs.size<=C) :
  (iS X N' scope (fF X.env scope.names []) C s H fp).Ok:=by
 have sub:=wV (env:=X.env) scope.names [] (fun x c h=>by simp at h);refine⟨I.ok.mod,S.kind,I.ok.glob,I.ok.blt,hC,fun x y c h1 h2=>I.ok.inj x y c (sub x c h1) (sub y c h2),fun x hx=>?_,fun x c h _=>by simp[iS] at h,I.ok.hd,I.ok.frames,.inl rfl,fun b hb=>⟨?_,fun x c e=>?_⟩,I.bs,qL I.ok.bsz I.sz,
  fun b o e hb=>?_,fun b hb=>?_,I.stack,I.stkFree⟩
 .have hx':((zz scope X.env).names.lookup x=aa .cell\/(zz scope X.env).names.lookup x=aa .free):=hx;have hfr:scope.names.lookup x=aa .free:=by
   rcases hx' with h|h
   .rcases ue _ _ _ h with h|⟨_,h⟩
    .exact bK rfl (S.nocell _ (nk h))
    .exact h
   .rcases ue _ _ _ h with h|⟨h,_⟩
    .exact h
    .cases h
  have hm:=nk hfr;obtain⟨c,hc⟩:=I.ok.has x (S.free _ hm rfl);exact eN.mp (wU _ _ x c hm hc)
 .exact qB (qE (hlt b hb) hC)
 .exact(hf b hb).2.2.2.2.1 x c (sub x c e)
 .rcases(hf b hb).2.2.2.1 with z|z
  .exact I.ok.noex b o e z
  .exact bK (qE (qv e) I.ok.bsz) (Fn.mpr z)
 .intro z;rcases c0.mp (I.stkSub b z) with e|e
  .exact(hf b hb).2.1 e
  .exact(hf b hb).2.2.1 e
theorem Jv (I:Inv X pins σ H s) (S:CompScope X scope) (hf:∀b∈fp,gY X pins H b) (hlt:∀b∈fp,b<s.heap.objs.size) (hC:C=s.heap.objs.size) (hlen:fv.length=N'.length)
  (hfv:∀(i j:al) x,N'[i]?=aa x->fv[i]?=aa (aa j)->X.N[j]?=aa x/\(X.env.kindOf x=aa .cell\/X.env.kindOf x=aa .free)/\scope.names.lookup x=aa .free) {m:aj->ar Value} (hn:h'.Ns C m) (hk:∀b o,s.heap.get? b=aa o->h'.get? b=aa o) :
  Inv (iS X N' scope (fF X.env scope.names []) C s H fp) [] (iT fv σ) H {s with heap:=h',toks:=t'}:=by
 have ok:=Kk (N':=N') I S hf hlt (C:=C) (za hC.symm);have sub:=wV (env:=X.env) scope.names [] (fun x c h=>by simp at h);refine⟨ok,rfl,I.bare,Un.kept hk,⟨m,hn,fun i x v e1 e2 e3=>?_⟩,fun x c e=>?_,?_,fun x c e=>I.freeC x c (sub x c e),fun p hp=>?_,I.hok.kept hk,?_⟩
 .have e1':N'[i]?=aa x:=e1;have e2':(iT fv σ)[i]?=aa (aa v):=e2;unfold iT at e2';rw[ql] at e2';cases q:fv[i]? with
  |none=>rw[q] at e2';cases e2'
  |some o=>
   rw[q] at e2';cases o with
   |none=>cases e2'
   |some j=>
    have e2'':(σ[j]?).join=aa v:=by simpa using e2'
    obtain⟨hN,hkk,hfree⟩:=hfv i j x e1' q;have hσ:σ[j]?=aa (aa v):=by
     cases z:σ[j]? with
     |none=>rw[z] at e2'';cases e2''
     |some w=>rw[z] at e2'';cases w with
      |none=>cases e2''
      |some w'=>simp at e2'';rw[e2'']
    obtain⟨m0,hn0,hl⟩:=I.loc;obtain⟨u,r,l⟩:=hl j x v hN hσ (.inr hkk);refine⟨u,r,.inr ⟨?_,?_⟩⟩
    .rcases e3 with z|z|z
     .have z':(zz scope X.env).names.lookup x=aa .local:=z;rcases ue _ _ _ z' with y|⟨y,_⟩
      .rw[hfree] at y;cases y
      .cases y
     .exact .inl z
     .exact .inr z
    .rcases l with⟨k,_⟩|⟨_,c,hc,hcell⟩
     .rcases hkk with y|y
      .rw[k] at y;cases y
      .rw[k] at y;cases y
     .obtain⟨c',hc'⟩:=eN.mp (wU scope.names [] x c (nk hfree) hc);have e:=sub x c' hc';rw[hc] at e;cases e;obtain⟨oc,ho,hd⟩:=hcell;exact⟨c,hc',oc,hk _ _ ho,hd⟩
 .obtain⟨v,oc,ho,hd⟩:=I.cell x c (sub x c e);exact⟨v,oc,hk _ _ ho,hd⟩
 .exact I.hok.fresh (za hC.symm)
 .exact bK (show p∈([]:ac (av×bf)) from hp) (by simp)
 .show(iT fv σ).length=N'.length;unfold iT;rw[qg,hlen]
theorem HI (I:Inv X pins σ H s) {cl:ac (aj×av)} (hf:∀b∈fp,gY X pins H b) (hC:s.heap.objs.size<=C) {σ':St} {pl:ac (av×bf)} 
  (J:Inv (iS X N' scope cl C s H fp) pl σ' H' s') (hs:iF C s'.heap h'):Inv X pins σ H' {s' with heap:=h'}:=by
 have hCn:H' C=ab:=J.free;refine I.call' (ch:=fp) (s':={s' with heap:=h'}) J.os ?_ ?_ J.bare fun b hb=>⟨(hf b hb).2.2.2.1,(hf b hb).2.1,(hf b hb).2.2.2.2.1,(hf b hb).2.2.2.2.2⟩
 .have U:Un (frs X.stack) fp H H' s.heap s'.heap:=J.base;have neC:∀b o,s.heap.get? b=aa o->b≠C:=fun b o e=>qB (qE (qv e) hC);refine⟨fun b o e n h1 h2=>?_,fun b o e n h1 h2=>?_,U.free,fun b o e h2=>?_,U.tups,U.frzs,U.tbls⟩
  .exact(hs.2 b (neC b o e)).trans (U.keep b o e n h1 h2)
  .obtain⟨sl,q⟩:=U.slot b o e n h1 h2;exact⟨sl,(hs.2 b (neC b o e)).trans q⟩
  .obtain⟨o',q⟩:=U.there b o e h2;exact⟨o',(hs.2 b (neC b o e)).trans q⟩
 .intro b u e;refine(J.hok b u e).stay (fun c v hc q=>(hs.2 c ?_).trans q) (fun _ q=>q) fun _ _ q=>q;rintro rfl;rcases hc with z|z
  .rw[←z,hCn] at e;cases e
  .rw[hCn] at z;cases z
noncomputable def PTs (X:Cx) (es:ac Expr) (t:TT):Prop:=
 ∀(pins:ac (av×bf)) (s:aH) (σ:St) (H:Hp) (Q:aQ->Hp->Prop),Inv X pins σ H s->t σ H Q->
  aM .(s) X.A (vF es ah fun c r=>if r=ah then do let ok ←isTrue c X.env (eval c X.env);bG (sw ok) else bG (sw r)) (TP X pins σ Q) X.xe s
noncomputable def P7:TT:=fun _ H Q=>Q ah H
theorem NO :PTs X [] P7:=fun _ _ _ H _ I h=>wpAny_tests_nil ⟨H,I,h⟩
theorem K9 {t:TT} (hc:PT X c t):PTs X [c] t:=fun pins s σ H Q I h=>wpAny_tests_one (hc pins s σ H Q I h)
noncomputable def LcW (J:It) (g:TG) (tc:TT) (te:TE) (acc:av) (Q:V->Hp->Prop) (σ0:St) (H1:Hp):Prop:=
 ∃W:al->al->ac V->St->Hp->Prop,(∃m,W 0 m [] σ0 (upd H1 acc (.lst [])))/\∀i m ys σ' H',W i m ys σ' H'->H' acc=aa (.lst ys) /\
  ((J.stop i H'/\Q (.ref acc) H')\/(J.go i H'/\∀x H2,J.yld i H' x H2->g x σ' H2 fun σ2 H3=>tc σ2 H3 fun b H4=>
   if b=ah then te σ2 H4 fun v H5=>H5 acc=aa (.lst ys)/\ys.length<aW/\∃m',m'<m/\W (i+1) m' (ys++[v]) σ2 (upd H5 acc (.lst (ys++[v])))
   else ∃m',m'<m/\W (i+1) m' ys σ2 H4))
noncomputable def tLC (wi:TI) (g:TG) (tc:TT) (te:TE) (fv:ac (ar al)):TE:=fun σ H Q=>wi σ H fun J H1=>∀acc,H1 acc=ab->LcW J g tc te acc Q (iT fv σ) H1
noncomputable def PB (X:Cx) (N':ac aj) (scope:Scope) (tg:Expr) (ifs:ac Expr) (elt:Expr) (g:TG) (tc:TT) (te:TE):Prop:=
 ∀(cl:ac (aj×av)) (C:av) (s₀:aH) (H₀:Hp) (fp:ac av),PG (iS X N' scope cl C s₀ H₀ fp) tg g/\PTs (iS X N' scope cl C s₀ H₀ fp) ifs tc/\PE (iS X N' scope cl C s₀ H₀ fp) elt te
structure FvOk (X:Cx) (N':ac aj) (scope:Scope) (fv:ac (ar al)):Prop where
 len:fv.length=N'.length
 at':∀(i j:al) x,N'[i]?=aa x->fv[i]?=aa (aa j)->X.N[j]?=aa x/\(X.env.kindOf x=aa .cell\/X.env.kindOf x=aa .free)/\scope.names.lookup x=aa .free
variable {spos:dD}
section
variable {g:TG}
theorem Bh {s2:aH} {it:av} {tn:al->Heap->Prop} {J:It} {Q:VK} {RR:Value->av->Result->aH->Prop} (hc:X.calm=ah) (S:CompScope X scope) (F:FvOk X N' scope fv) (hb:PB X N' scope tg ifs elt g tc te)
  (I2:Inv X pins σ H1 s2) (T:Turn X.prog X.w X.K tg J fp it tn) (st2:tn 0 s2.heap) (f2:∀b∈fp,gY X pins H1 b) (q:∀acc,H1 acc=ab->LcW J g tc te acc Q (iT fv σ) H1)
  (hRR:∀(a C:av) (H':Hp) (s':aH) (m:aj->ar Value),s'.heap.Ns C m->(∀h',iF C s'.heap h'->Inv X pins σ H' {s' with heap:=h'})->gY X pins H' C->Q (.ref a) H'->RR (.ref a) C (.ok .next) s') :
  aM .(s) X.A (newList []) (fun acc s₃=>aM .(s) X.A (newFunctionEnv scope X.env.globals (fF X.env scope.names []) [] X.env.qual ab .none (aa X.env)) (fun cenv s₄ =>
   iH .(s) X.A (.compStart .(J) 0 (.ref it) acc {cenv with scope:=zz scope X.env}) (RR acc cenv.locals) s₄) X.xe s₃) X.xe s2:=by
 refine lQ ?_;have hacc:H1 s2.heap.objs.size=ab:=I2.fresh;have I3:Inv X pins σ (upd H1 s2.heap.objs.size (.lst [])) {s2 with heap:=s2.heap.push {cls:=.type "list",data:=.seq ([]:ac Value).toArray} }:=I2.lnew (t':=s2.toks) .nil (iK _);generalize hs3:({s2 with heap:=s2.heap.push {cls:=.type "list",data:=.seq ([]:ac Value).toArray} }:aH)=s3 at I3 ⊢;have up:∀b o,s2.heap.get? b=aa o->s3.heap.get? b=aa o:=fun b o e=>by rw[←hs3];exact qu _ e
 have lt2:∀b∈fp,b<s2.heap.objs.size:=fun b hb=>by obtain⟨o,e,_⟩:=T.obj 0 _ st2 b hb;exact qv e
 have sz3:s2.heap.objs.size<s3.heap.objs.size:=by rw[←hs3];show _<(s2.heap.push _).objs.size;rw[lS];exact rZ _
 have lt3:∀b∈fp,b<s3.heap.objs.size:=fun b hb=>sr (lt2 b hb) sz3;have f3:∀b∈fp,gY X pins (upd H1 s2.heap.objs.size (.lst [])) b:=fun b hb=>⟨by rw[a7 (qB (lt2 b hb))];exact(f2 b hb).1,(f2 b hb).2⟩;have st3:tn 0 s3.heap:=T.keep _ _ _ st2 fun b _ o e=>up b o e;refine wpAny_newFunctionEnv S.nocell (by intro y hy;simp at hy) (fun h4 hn4 sb4=>?_) S.kind;have k4:∀b o,s3.heap.get? b=aa o->h4.get? b=aa o:=fun b o e=>(sb4.2 b (qB (qv e))).trans (qu _ e);have st4:tn 0 h4:=T.keep _ _ _ st3 fun b _ o e=>k4 b o e;have I4:=Jv I3 S f3 lt3 (C:=s3.heap.objs.size) rfl F.len F.at' hn4 k4 (t':=s3.toks+([]:ac (aj×Value)).length);generalize hX:iS X N' scope (fF X.env scope.names []) s3.heap.objs.size s3 (upd H1 s2.heap.objs.size (.lst [])) fp=X' at I4;obtain⟨bg,bt,be⟩:=hb (fF X.env scope.names []) s3.heap.objs.size s3 (upd H1 s2.heap.objs.size (.lst [])) fp;rw[hX] at bg bt be;have hprog:X'.prog=X.prog:=by rw[←hX];rfl
 have hw:X'.w=X.w:=by rw[←hX];rfl
 have hK:X'.K=X.K:=by rw[←hX];rfl
 have hA:X'.A=X.A:=by rw[←hX];rfl
 have hcalm:X'.calm=ah:=by rw[←hX];exact hc
 have hxe:X'.xe=fun _ _=>False:=by rw[←hX];rfl
 have henv:X'.env=Fm scope (fF X.env scope.names []) s3.heap.objs.size X.env:=by rw[←hX];rfl
 have stat:∀{H':Hp},(∀b∈fp,H' b=ab)->∀b∈fp,gY X' [] H' b:=fun {H'} hn b hb=>by have f:=f3 b hb;have ok:=I4.ok;refine⟨hn b hb,(ok.exf b (by rw[←hX];exact hb)).1,ok.exfs b (by rw[←hX];exact hb),.inl (by rw[←hX];exact hb),fun x c e=>(ok.exf b (by rw[←hX];exact hb)).2 x c e,fun p hp=>?_⟩;rw[←hX] at hp;exact bK (show p∈([]:ac (av×bf)) from hp) (by simp)
 obtain⟨W,⟨m0,w0⟩,turn⟩:=q s2.heap.objs.size hacc;have loop:∀s5:aH,s5={s3 with heap:=h4,toks:=s3.toks+([]:ac (aj×Value)).length} ->
   iH .(s) X.A (.compLoop .(J) 0 (.ref it) (.ref s2.heap.objs.size) (Fm scope (fF X.env scope.names []) s3.heap.objs.size X.env))
    (RR (.ref s2.heap.objs.size) s3.heap.objs.size) s5:=by
  intro s5 hs5;refine LC (fun n s'=>∃i ys σ' H',Inv X' [] σ' H' s'/\tn i s'.heap/\(∀b∈fp,H' b=ab)/\W i n ys σ' H') ?_ m0 ⟨0,[],iT fv σ,_,hs5▸I4,hs5▸st4,fun b hb=>(f3 b hb).1,w0⟩;rintro n s6 ⟨i,ys,σ6,H6,I6,st6,fr6,w6⟩;obtain⟨ha6,turn6⟩:=turn i n ys σ6 H6 w6;rw[←henv];rcases turn6 with⟨stop,qn⟩|⟨go,step⟩
  .have d:=T.done X' hprog hw hK hcalm i [] s6 σ6 H6 (fun _ _=>False) I6 (stat fr6) st6 stop;rw[hA] at d;refine thn d fun r s7 ⟨hr,I7⟩=>?_;subst hr;obtain⟨m7,hn7,_⟩:=I7.loc;have hl:X'.env.locals=s3.heap.objs.size:=by rw[henv];rfl
   refine hRR _ _ H6 s7 m7 (hl▸hn7) (fun h' hs'=>?_) ?_ qn
   .rw[←hX] at I7;exact HI I3 f3 (qw _) I7 hs'
   .exact I3.fpOk (qw _) (by have:=I7.free;rw[hl] at this;exact this)
  .have d:=T.item X' hprog hw hK hcalm i [] s6 σ6 H6 (fun _ _=>False) I6 (stat fr6) st6 go;rw[hA] at d;refine thn d fun r s7 ⟨u,hr,h7⟩=>?_;subst hr;refine thn h7 fun _ s8 ⟨x,H8,I8,r8,y8,st8,fr8⟩=>?_;have I8':=I8.pinned (stat fr8) (T.obj _ _ st8);have dg:=bg _ s8 σ6 H8 x u _ I8' r8 (step x H8 y8);rw[hprog,hw,hA,hxe] at dg;refine thn dg fun _ s9 ⟨σ9,H9,I9,q9⟩=>?_;have dt:=bt _ s9 σ9 H9 _ I9 q9;rw[hprog,hw,hA,hxe] at dt;refine thn dt fun b s10 ⟨H10,I10,q10⟩=>?_;have again:∀{σ7:St} {H7:Hp} {s7:aH} {ys':ac V},Inv X' ([]++pI fp s8.heap) σ7 H7 s7->(∃m',m'<n/\W (i+1) m' ys' σ7 H7)->∃m,m<n/\∃i ys σ' H',Inv X' [] σ' H' s7/\tn i s7.heap/\(∀b∈fp,H' b=ab)/\W i m ys σ' H':=fun {σ7 H7 s7 ys'} I7 n7=>by obtain⟨m',hm,w7⟩:=n7;refine⟨m',hm,i+1,ys',σ7,H7,I7.unpinned,T.keep _ _ _ st8 fun b hb o e=>(I7.pin (b,o) (qP _ (qP _ (t5 hb e)))).1,fun b hb=>?_,w7⟩;obtain⟨o,e,_⟩:=T.obj _ _ st8 b hb;exact(I7.pin (b,o) (qP _ (qP _ (t5 hb e)))).2.1
   cases b with
   |false=>
    rw[qZ qt] at q10 ⊢;exact again I10 q10
   |true=>
    rw[qY rfl] at q10 ⊢;have de:=be _ s10 σ9 H10 _ I10 q10;rw[hprog,hw,hA,hxe] at de;refine thn de fun v s11 ⟨y,H11,I11,r11,ha11,hz11,n11⟩=>?_;have da:=Cj _ s11 σ9 H11 (.ref s2.heap.objs.size) [y] (.ref s2.heap.objs.size) [v] (fun _ H'=>H'=upd H11 s2.heap.objs.size (.lst (ys++[y]))) I11 rfl (.cons r11 .nil) ⟨_,ys,y,rfl,rfl,ha11,hz11,rfl⟩;rw[hprog,hw,hA,hxe] at da;refine thn da fun _ s12 ⟨_,H12,I12,_,e12⟩=>?_;subst e12;exact again I12 n11
 exact codeAny_compStart_list (loop _ rfl) (T.self _ 0 _ _ _ st4 (loop _ rfl))
theorem IL (hc:X.calm=ah) (S:CompScope X scope) (F:FvOk X N' scope fv) (hi:PI X tg iter wi) (hb:PB X N' scope tg ifs elt g tc te) (hs:∀x,o9 iter X.env x=bG x:=by intro _;rfl) :
  PE X .(J) (tLC wi g tc te fv):=by
 intro pins s σ H Q I h;rw[eval_ListComp];refine Rv (use:=ab) rfl hs (Ar I S) S.kind S.names (thn (hi pins s σ H _ I h) fun x s1 h1=>thn h1 fun itv s2 h2=>?_);obtain⟨it,fp,tn,J,H1,e,I2,T,st2,f2,q⟩:=h2;subst e;refine Bh (RR:=fun acc C=>compPost .(s) X.A X.xe ab (EP X pins σ Q) acc C) hc S F hb I2 T st2 f2 q ?_;intro a C H' s' m hn hI hCL hq;exact⟨m,hn,fun h' hs'=>⟨.ref a,H',hI h' hs',rfl,hq⟩⟩
theorem Et {y:aj} (hN:X.N.Nodup) (hy:X.N[i]?=aa y) (hyl:X.env.scope.names.lookup y=aa .local) (hc:X.calm=ah) (S:CompScope X scope) (F:FvOk X N' scope fv) (hi:PI X tg iter wi) (hb:PB X N' scope tg ifs elt g tc te)
  (hsw:fG .(J) (aa (.Name y py)) spos.line X.env=bG ah)
  (hs:∀x,o9 iter X.env x=bG x:=by intro _;rfl) :
  PS X (.Assign [.Name y py] .(J) spos) (rq (tLC wi g tc te fv) (rR i)):=by
 intro pins s σ H D I h;rw[exec_Assign_Name_used _ _ _ _ hsw];refine qx (ER (qx ?_));show aM _ _ (do let _ ←comprehension .(J) scope X.env _ (newList []) ao (eval iter X.env) (aa (kN (.Name y py) X.env))) _ _ s;refine qx (ie (Rv (use:=aa (kN (.Name y py) X.env)) (Q:=fun _ s'=>SP X pins D .next s') rfl hs (Ar I S) S.kind S.names
  (thn (hi pins s σ H _ I h) fun x s1 h1=>thn h1 fun itv s2 h2=>?_)) (fun _ s' hq=>qz (qz hq)) fun _ _ e=>e)
 obtain⟨it,fp,tn,J,H1,e,I2,T,st2,f2,q⟩:=h2;subst e;refine Bh (RR:=fun acc C=>compPost .(s) X.A X.xe (aa (kN (.Name y py) X.env)) (fun _ s'=>SP X pins D .next s') acc C) hc S F hb I2 T st2 f2 q ?_;intro a C H' s' m hn hI hCL hq;show aM _ _ (kN (.Name y py) X.env (.ref a)) _ _ _;have I':Inv X pins σ H' s':=hI s'.heap (Fp _ _);refine QQ ?_;refine Cb (v:=.ref a) I' hN hy (.inl hyl) rfl (fun s'' I'' hch=>?_) (.inr hyl);obtain⟨ad,hsb,had⟩:=hch;obtain⟨f0,f1,f2',f3,f4,f5⟩:=hCL;have hne:C≠ad:=by
  rcases had with z|z
  .rw[z];exact f1
  .exact fun e=>f4 y ad z e.symm
 refine⟨m,hn.sameBut hsb hne,fun h' hs'=>?_⟩;exact⟨_,H',I''.turned (t':=s''.toks) (fun b o hb e=>(hs'.2 b hb).trans e) f0 f1 f3 f4 f5,hq⟩
end
noncomputable def Its (x:aj):It:=⟨fun i _=>i<x.cps.size,fun i H v H'=>H'=H/\∃c,x.cps[i]?=aa c/\v=.str ⟨#[c]⟩,fun i _=>i=x.cps.size⟩
theorem NQ {M:vm} {E:Value->aH->Prop} {n:aj} {it:Value} {Q:lO->aH->Prop} (hQ:Q () s):aM M A (vo (.Name n p) it u) Q E s:=qz hQ
theorem DQ {P:bV} {n:aj} {ty:dq} (it:av) (x:aj) (t:Tok)
  (W:∀A:dB,A.handled=ab->Walks P w A it [it] [it] x.cps.size (SignAt x) (fun i h=>h.IsStrIter it ty x t i))
  (sf:∀(A:dB) (i:al) (s:aH) (Q:Value->aH->Prop) (E:Value->aH->Prop),s.heap.IsStrIter it ty x t i->Q (.ref it) s->aM (aR P w) A (o7 (.ref it)) Q E s):Turn P w K (.Name n p) (Its x) [it] it (fun i h=>h.IsStrIter it ty x t i) where
 mem:=by simp
 obj:=fun i h st b hb=>by
  have e:b=it:=by simpa using hb
  subst e;obtain⟨o,e,c,d⟩:=st;exact⟨o,e,fun v z=>by rw[d] at z;cases z⟩
 keep:=fun i h h' st k=>by obtain⟨o,e,r⟩:=st;exact⟨o,k it (by simp) o e,r⟩
 item:=by intro X hP hw hK hc i pins s σ H E I hf st hg;subst hP hw hK;obtain⟨f0,f1,f2,f3,f4,f5⟩:=hf it (by simp);refine(W X.A (I.ok.hd hc)).item i s _ _ hg st fun v h' tk hv st' kk=>?_;obtain⟨c,u,hcc,rfl⟩:=hv;have I1:Inv X pins σ H {s with heap:=h',toks:=tk}:=I.turned (fun b o hb e=>kk b o (by simpa using hb) e) f0 f1 f3 f4 f5;exact⟨_,rfl,NQ ⟨.str ⟨#[c]⟩,H,I1,⟨_,rfl⟩,⟨rfl,c,hcc,rfl⟩,st',fun b hb=>(hf b hb).1⟩⟩
 done:=by intro X hP hw hK hc i pins s σ H E I hf st hg;subst hP hw hK;obtain⟨f0,f1,f2,f3,f4,f5⟩:=hf it (by simp);have hi:i=x.cps.size:=hg;subst hi;exact(W X.A (I.ok.hd hc)).done s _ _ st fun h' tk kk=>⟨rfl,I.turned (fun b o hb e=>kk b o (by simpa using hb) e) f0 f1 f3 f4 f5⟩
 self:=sf
noncomputable def Pa (te:TE):TI:=fun σ H R=>te σ H fun v H1=>∃x,v=.str x/\R (Its x) H1
theorem Il {n:aj} (he:PE X e te):PI X (.Name n p) e (Pa te):=by
 intro pins s σ H R I h;refine thn (he pins s σ H _ I h) fun v s1 ⟨y,H1,I1,r1,q1⟩=>?_;obtain⟨x,e,q⟩:=q1;subst e;obtain⟨t,rfl⟩:=r1;have fin:∀(ty:dq) (o:bf),(s1.heap.push o).IsStrIter s1.heap.objs.size ty x t 0->Turn X.prog X.w X.K (.Name n p) (Its x) [s1.heap.objs.size] s1.heap.objs.size (fun i h=>h.IsStrIter s1.heap.objs.size ty x t i)->
   PIE X pins σ (.Name n p) R (.ref s1.heap.objs.size) {s1 with heap:=s1.heap.push o}:=fun ty o st T=>by
  refine⟨s1.heap.objs.size,[s1.heap.objs.size],_,_,H1,rfl,I1.kept (t':=s1.toks) fun b o e=>qu _ e,T,st,fun b hb=>?_,q⟩;have e:b=s1.heap.objs.size:=by simpa using hb
  subst e;exact I1.fpOk (qw _) (I1.hok.fresh (qw _))
 cases ha:x.cps.all (· < 128)
 .exact wpAny_pyIter_wide ha (fin _ _ ⟨_,qF _ rfl,rfl,rfl⟩ (DQ _ x t (fun A' hA=>Walks.strWide hA _ x t) fun _ _ _ _ _ st h=>wpAny_pyIter_striter_wide st h))
 .exact wpAny_pyIter_ascii ha (fin _ _ ⟨_,qF _ rfl,rfl,rfl⟩ (DQ _ x t (fun A' hA=>Walks.strAscii hA _ x t) fun _ _ _ _ _ st h=>wpAny_pyIter_striter_ascii st h))
noncomputable def Ite (K:bu) (a:av):It:=
 ⟨fun i H=>∃xs x,SqL K H a xs/\xs[i]?=aa x,fun i H v H'=>∃T x,v=.ref T/\H T=ab/\H'=upd H T (.tup [.int i,x])/\∀xs,SqL K H a xs->xs[i]?=aa x,fun i H=>∃xs,SqL K H a xs/\xs.length<=i⟩
variable {elts:ac Expr}
theorem Ny {P:bV} {k1:al} (e it a:av) (hei:e≠it) :
  Turn P w K (.Tuple elts k1 pos) (Ite K a) [e,it] e (fun i h=>(∃old,IsEnum h e it i old)/\h.IsListIter it a i) where
 mem:=by simp
 obj:=fun i h st b hb=>by
  obtain⟨⟨old,he⟩,o,ho,c,d⟩:=st;rcases c0.mp hb with z|z
  .subst z;exact⟨_,he,fun v z=>by cases z⟩
  .have z':b=it:=by simpa using z
   subst z';exact⟨o,ho,fun v z=>by rw[d] at z;cases z⟩
 keep:=fun i h h' st k=>by obtain⟨⟨old,he⟩,hi⟩:=st;exact⟨⟨old,k e (by simp) _ he⟩,hi.at fun o x=>k it (by simp) o x⟩
 item:=by
  intro X hP hw hK hc i pins s σ H E I hf st hg;subst hP hw hK;obtain⟨xs,x,hq,hx⟩:=hg;obtain⟨its,rv,p,hz⟩:=I.list hq;obtain⟨u,hu,ru⟩:=rv.get hx;obtain⟨⟨old,he⟩,hit⟩:=st;obtain⟨e0,e1,e2,e3,e4,e5⟩:=hf e (by simp);obtain⟨f0,f1,f2,f3,f4,f5⟩:=hf it (by simp);have helt:e<s.heap.objs.size:=qv he;have hilt:it<s.heap.objs.size:=by obtain⟨_,x,_⟩:=hit;exact qv x
  refine wpAny_pyNext_enum_item he hit p.isList (x:=u) (by simpa using hu) hei fun h' ho hit' hT hsz hk=>?_;refine⟨_,rfl,wpAny_letOwnedTupleGo_enum ho fun h2 he2 hs2=>?_⟩;have hs2':iF e h' h2:=hs2;have kk:∀b o,b≠e->b≠it->s.heap.get? b=aa o->h2.get? b=aa o:=fun b o h1 h3 q=>(hs2'.2 b h1).trans (hk b o h1 h3 q);have hT2:h2.get? s.heap.objs.size=aa {cls:=.type "tuple",data:=.seq #[.int i s.toks,u]}:=(hs2'.2 _ (yX helt)).trans hT;have nH:H s.heap.objs.size=ab:=I.fresh;have I1:Inv X pins σ (upd H s.heap.objs.size (.tup [.int i,x])) {s with heap:=h2,toks:=s.toks+1}:=by
   have ne:∀b o,H b=aa o->b≠e/\b≠it:=fun b o q=>⟨fun z=>(by rw[z,e0] at q;cases q),fun z=>(by rw[z,f0] at q;cases q)⟩;refine I.step (g':=s.gens) (d':=s.drawn) (ch:=[e,it]) (fun b hb=>?_) (fun b o _ _ hc q _=>kk b o (fun z=>hc (by simp[z])) (fun z=>hc (by simp[z])) q) (fun b o _ _ hc q _=>⟨o.slots,kk b o (fun z=>hc (by simp[z])) (fun z=>hc (by simp[z])) q⟩) (fun b o _ q n=>?_)
    (fun b o hc q=>⟨o,kk b o (fun z=>hc (by simp[z])) (fun z=>hc (by simp[z])) q⟩) (fun b ys q=>?_) (fun b o y q=>?_) (fun b ps q=>⟨#[],?_⟩) (fun m hm=>?_) (fun b v q=>?_) I.bare
   .rcases c0.mp hb with z|z
    .subst z;exact⟨e3,e1,e4,e5⟩
    .have z':b=it:=by simpa using z
     subst z';exact⟨f3,f1,f4,f5⟩
   .rw[a7 (qB (qv q))];exact n
   .rw[a7 (ck q nH)];exact q
   .rw[a7 (ck q nH)];exact q
   .rw[a7 (ck q nH),q];simp
   .obtain⟨o,es,ep,q,r⟩:=hm;exact⟨o,es,ep,kk _ o (dI e1) (dI f1) q,r⟩
   .by_cases hb:b=s.heap.objs.size
    .subst hb;rw[ca] at q;cases q;exact⟨by show 2<=aW;decide,[.int i s.toks,u],.cons ⟨_,rfl⟩ (.cons ru .nil),⟨_,hT2,rfl,_,rfl⟩⟩
    .rw[a7 hb] at q;refine(I.hok b v q).stay (fun c v hc r=>?_) (fun c r=>by rw[a7 (ck r nH)];exact r) fun c ys r=>by rw[a7 (ck r nH)];exact r
     rcases hc with z|z
     .rw[z] at r ⊢;exact kk b v (ne b _ q).1 (ne b _ q).2 r
     .exact kk c v (ne c _ z).1 (ne c _ z).2 r
  refine⟨.ref s.heap.objs.size,_,I1,rfl,⟨_,x,rfl,nH,rfl,fun ys hy=>by rw[I.list_inj hy hq];exact hx⟩,⟨⟨_,by simpa using he2⟩,hit'.at fun o y=>(hs2'.2 it hei.symm).trans y⟩,fun b hb=>?_⟩;rcases c0.mp hb with z|z
  .subst z;rw[a7 (qB helt)];exact e0
  .have z':b=it:=by simpa using z
   subst z';rw[a7 (qB hilt)];exact f0
 done:=by intro X hP hw hK hc i pins s σ H E I hf st hg;subst hP hw hK;obtain⟨xs,hq,hx⟩:=hg;obtain⟨its,rv,p,hz⟩:=I.list hq;obtain⟨⟨old,he⟩,hit⟩:=st;obtain⟨f0,f1,f2,f3,f4,f5⟩:=hf it (by simp);have hl:=rv.length;exact wpAny_pyNext_enum_end (I.ok.hd hc) he hit p.isList (by simp;omega) fun h' eb=>⟨rfl,I.turned (t':=s.toks) (fun b o hb e=>eb b o hb e) f0 f1 f3 f4 f5⟩
 self:=fun A i s Q E st h=>by obtain⟨⟨old,he⟩,_⟩:=st;exact Rw he h
noncomputable def Hz (K:bu) (ta:TA):TI:=fun σ H R=>ta σ H fun vs H1=>∃a,vs=[.ref a]/\(∃xs,SqL K H1 a xs)/\R (Ite K a) H1
theorem JD {a:Expr} {ta:TA} {k1:al} (hg:Gl X "enumerate") (hm:X.mg "enumerate"=ab) (ha:PA X [a] ta) (hs:a8 [a] X.env=[(ao,eval a X.env)]:=by rfl) :
  PI X (.Tuple elts k1 tpos) (.Call (.Name "enumerate" p) [a] [] pos) (Hz X.K ta):=by
 intro pins s σ H R I h;refine Call_ (oI I hg hm TJ (yY (thn (ha pos pins s σ H _ I h) fun us s1 ⟨vs,H1,I1,r1,q1⟩=>?_) hs rfl));obtain⟨l,e,⟨xs,hq⟩,q⟩:=q1;subst e;obtain⟨u,rfl,r2⟩:=fu r1;cases r2;obtain⟨its,rv,pl,hz⟩:=I1.list hq;refine call_enumerate_list pl.isList fun h' he hit hsz hk=>?_;have I2:Inv X pins σ H1 {s1 with heap:=h'}:=I1.kept (t':=s1.toks) hk;refine Rw he ?_;refine⟨s1.heap.objs.size+1,[s1.heap.objs.size+1,s1.heap.objs.size],_,_,H1,rfl,I2,Ny _ _ l (Nat.succ_ne_self _),⟨⟨_,he⟩,hit⟩,fun b hb=>?_,q⟩;rcases c0.mp hb with z|z
 .subst z;exact I1.fpOk (lU _) (I1.hok.fresh (lU _))
 .have z':b=s1.heap.objs.size:=by simpa using z
  subst z';exact I1.fpOk (qw _) (I1.hok.fresh (qw _))
inductive D where
 |non|bl (b:aQ)|int (i:ag)|str (x:aj)|tup (l:ac D)|lst (l:ac D)|scr (ns:ac ag)
 |dk (l:ac (Key×D))|fdk (l:ac (Key×D))|dt (l:ac (ac Key×D))|ins (c:aj) (fs:ac (aj×D))|ty (n:dq)
noncomputable def yq:Key->D
 |.inl i=>.int i
 |.inr x=>.str x
structure Cn where
 cls:aj->ar av
 self:ar av:=ab
mutual
inductive Rep (Γ:Cn) (K:bu) (G:Hp):V->D->Prop where
 |non:Rep Γ K G .non .non
 |bl (b:aQ):Rep Γ K G (.bl b) (.bl b)
 |int (i:ag):Rep Γ K G (.int i) (.int i)
 |str (x:aj):Rep Γ K G (.str x) (.str x)
 |ty (n:dq):Rep Γ K G (.ty n) (.ty n)
 |tup {a:av} {vs:ac V} {ds:ac D}:G a=aa (.tup vs)->Reps Γ K G vs ds->Rep Γ K G (.ref a) (.tup ds)
 |lst {a:av} {vs:ac V} {ds:ac D}:G a=aa (.lst vs)->Reps Γ K G vs ds->Rep Γ K G (.ref a) (.lst ds)
 |scr {a:av} {ns:ac ag}:SqL K G a (ns.map V.int)->Rep Γ K G (.ref a) (.scr ns)
 |dk {a:av} {us:ac (Key×V)} {kvs:ac (Key×D)}:G a=aa (.dK us)->us.map (·.1)=kvs.map (·.1)->Reps Γ K G (us.map (·.2)) (kvs.map (·.2))->Rep Γ K G (.ref a) (.dk kvs)
 |fdk {a:av} {o:bf} {us:ac (Key×V)} {kvs:ac (Key×D)}:G a=aa (.frz o (.dK us))->us.map (·.1)=kvs.map (·.1)->Reps Γ K G (us.map (·.2)) (kvs.map (·.2))->Rep Γ K G (.ref a) (.fdk kvs)
 |dt {a:av} {us:ac (ac Key×V)} {kvs:ac (ac Key×D)}:G a=aa (.dT us)->us.map (·.1)=kvs.map (·.1)->Reps Γ K G (us.map (·.2)) (kvs.map (·.2))->Rep Γ K G (.ref a) (.dt kvs)
 |ins {a C dx:av} {c:aj} {us:ac (aj×V)} {fs:ac (aj×D)}:G a=aa (.ins C dx us)->Γ.cls c=aa C->us.map (·.1)=fs.map (·.1)->Reps Γ K G (us.map (·.2)) (fs.map (·.2))->Rep Γ K G (.ref a) (.ins c fs)
inductive Reps (Γ:Cn) (K:bu) (G:Hp):ac V->ac D->Prop where
 |nil:Reps Γ K G [] []
 |cons {v:V} {d:D} {vs:ac V} {ds:ac D}:Rep Γ K G v d->Reps Γ K G vs ds->Reps Γ K G (v::vs) (d::ds)
end
variable {Γ:Cn} {G G' G1:Hp}
section
variable {G2:Hp}
mutual
theorem Rep.mono:∀{v:V} {d:D},Rep Γ K G v d->bT G G'->Rep Γ K G' v d
 |_,_,.non,_=>.non
 |_,_,.bl b,_=>.bl b
 |_,_,.int i,_=>.int i
 |_,_,.str x,_=>.str x
 |_,_,.ty x,_=>.ty x
 |_,_,.tup h r,s=>.tup (s _ _ h) (r.mono s)
 |_,_,.lst h r,s=>.lst (s _ _ h) (r.mono s)
 |_,_,.scr h,s=>.scr (s.seq h)
 |_,_,.dk h e r,s=>.dk (s _ _ h) e (r.mono s)
 |_,_,.fdk h e r,s=>.fdk (s _ _ h) e (r.mono s)
 |_,_,.dt h e r,s=>.dt (s _ _ h) e (r.mono s)
 |_,_,.ins h c e r,s=>.ins (s _ _ h) c e (r.mono s)
theorem Reps.mono:∀{vs:ac V} {ds:ac D},Reps Γ K G vs ds->bT G G'->Reps Γ K G' vs ds
 |_,_,.nil,_=>.nil
 |_,_,.cons h r,s=>.cons (h.mono s) (r.mono s)
end
mutual
theorem Rep.re {Γ':Cn} (hc:Γ'.cls=Γ.cls):∀{v:V} {d:D},Rep Γ K G v d->Rep Γ' K G v d
 |_,_,.non=>.non
 |_,_,.bl b=>.bl b
 |_,_,.int i=>.int i
 |_,_,.str x=>.str x
 |_,_,.ty x=>.ty x
 |_,_,.tup h r=>.tup h (r.re hc)
 |_,_,.lst h r=>.lst h (r.re hc)
 |_,_,.scr h=>.scr h
 |_,_,.dk h e r=>.dk h e (r.re hc)
 |_,_,.fdk h e r=>.fdk h e (r.re hc)
 |_,_,.dt h e r=>.dt h e (r.re hc)
 |_,_,.ins h c e r=>.ins h (by rw[hc];exact c) e (r.re hc)
theorem Reps.re {Γ':Cn} (hc:Γ'.cls=Γ.cls):∀{vs:ac V} {ds:ac D},Reps Γ K G vs ds->Reps Γ' K G vs ds
 |_,_,.nil=>.nil
 |_,_,.cons h r=>.cons (h.re hc) (r.re hc)
end
theorem Reps.length:∀{vs:ac V} {ds:ac D},Reps Γ K G vs ds->vs.length=ds.length
 |_,_,.nil=>rfl
 |_,_,.cons _ r=>by rw[qj,qj,r.length]
theorem Reps.get:∀{vs:ac V} {ds:ac D} {i:al} {d:D},Reps Γ K G vs ds->ds[i]?=aa d->∃v,vs[i]?=aa v/\Rep Γ K G v d
 |_,_,_,_,.nil,e=>by simp at e
 |_,_,0,_,.cons r _,e=>by simp at e;subst e;exact⟨_,rfl,r⟩
 |_,_,i+1,d,.cons _ t,e=>by obtain⟨u,h1,h2⟩:=Reps.get (i:=i) (d:=d) t (by simpa using e);exact⟨u,by simpa using h1,h2⟩
theorem Reps.append:∀{vs ws:ac V} {ds es:ac D},Reps Γ K G vs ds->Reps Γ K G ws es->Reps Γ K G (vs++ws) (ds++es)
 |_,_,_,_,.nil,s=>s
 |_,_,_,_,.cons r t,s=>.cons r (t.append s)
theorem Reps.take:∀{vs:ac V} {ds:ac D} (n:al),Reps Γ K G vs ds->Reps Γ K G (vs.take n) (ds.take n)
 |_,_,0,_=>.nil
 |_,_,_+1,.nil=>.nil
 |_,_,n+1,.cons r t=>.cons r (t.take n)
theorem Reps.drop:∀{vs:ac V} {ds:ac D} (n:al),Reps Γ K G vs ds->Reps Γ K G (vs.drop n) (ds.drop n)
 |_,_,0,r=>r
 |_,_,_+1,.nil=>.nil
 |_,_,n+1,.cons _ t=>t.drop n
theorem Reps.ints:∀(ns:ac ag),Reps Γ K G (ns.map V.int) (ns.map D.int)
 |[]=>.nil
 |n::r=>.cons (.int n) (Reps.ints r)
theorem Reps.rep {vs:ac V} {ds:ac D} (h:Reps Γ K G vs ds):∀k:al,Reps Γ K G (cq k vs).flatten (cq k ds).flatten
 |0=>.nil
 |k+1=>by rw[lX,lX,pf,pf];exact h.append (Reps.rep h k)
structure Step (G H G' H':Hp):Prop where
 hh:bT H H'
 gg:bT G G'
 gh:bT G' H'
 out:∀a o,H a=aa o->G' a=G a
theorem Step.refl (gh:bT G H):Step G H G H:=⟨.refl _,.refl _,gh,fun _ _ _=>rfl⟩
theorem Step.trans (a:Step G H G1 H1) (b:Step G1 H1 G2 H2):Step G H G2 H2:=
 ⟨a.hh.trans b.hh,a.gg.trans b.gg,b.gh,fun c o e=>(b.out c o (a.hh c o e)).trans (a.out c o e)⟩
theorem Step.new {p:av} {o:HO} (gh:bT G H) (hp:H p=ab):Step G H (upd G p o) (upd H p o):=by
 have gp:G p=ab:=gh.free hp;refine⟨fun b u e=>?_,fun b u e=>?_,fun b u e=>?_,fun b u e=>?_⟩
 .rw[a7 (ck e hp)];exact e
 .rw[a7 (ck e gp)];exact e
 .by_cases hb:b=p
  .subst hb;rw[ca] at e ⊢;exact e
  .rw[a7 hb] at e ⊢;exact gh b u e
 .rw[a7 (ck e hp)]
theorem Step.newOwn {p:av} {o:HO} (gh:bT G H) (hp:H p=ab):Step G H G (upd H p o):=by
 refine⟨fun b u e=>?_,.refl _,fun b u e=>?_,fun _ _ _=>rfl⟩
 .rw[a7 (ck e hp)];exact e
 .rw[a7 (ck (gh b u e) hp)];exact gh b u e
end
inductive Slot where
 |sh (d:D)
 |own (ds:ac D)
 |obj (c:aj) (fs:ac (aj×D))
 |objd (c:aj) (fs:ac (aj×D)) (n:aj) (kvs:ac (Key×D))
 |odk (kvs:ac (Key×D))
 |odt (kvs:ac (ac Key×D))
 |tlo (ds es:ac D)
 |pin (a:av)
 |oll (dss:ac (ac D))
noncomputable abbrev bi:=ac (ar Slot)
noncomputable def Ph:D->aQ
 |.non=>ah
 |.bl _=>ah
 |.int _=>ah
 |.str _=>ah
 |_=>ao
noncomputable def mX (H:Hp):ac av->ac (ac V)->Prop
 |[],[]=>True
 |p::ps,vs::vss=>H p=aa (.lst vs)/\mX H ps vss
 |_,_=>False
noncomputable def pZ (Γ:Cn) (K:bu) (G:Hp):ac (ac V)->ac (ac D)->Prop
 |[],[]=>True
 |vs::vss,ds::dss=>Reps Γ K G vs ds/\pZ Γ K G vss dss
 |_,_=>False
theorem mX.mem {H:Hp}:∀{ps:ac av} {vss:ac (ac V)},mX H ps vss->∀b∈ps,∃o,H b=aa o
 |[],_,_,b,hb=>by cases hb
 |p::ps,[],h,b,hb=>h.elim
 |p::ps,vs::vss,h,b,hb=>by
  rcases c0.mp hb with rfl|hb
  .exact⟨_,h.1⟩
  .exact h.2.mem b hb
theorem mX.stay {H H':Hp}:∀{ps:ac av} {vss:ac (ac V)},mX H ps vss->(∀b∈ps,H' b=H b)->mX H' ps vss
 |[],[],_,_=>trivial
 |[],_::_,h,_=>h.elim
 |p::ps,[],h,_=>h.elim
 |p::ps,vs::vss,h,e=>⟨(e p qh).trans h.1,h.2.stay fun b hb=>e b (qi _ hb)⟩
theorem pZ.map {Γ:Cn} {K:bu} {G G':Hp} (f:∀{vs:ac V} {ds:ac D},Reps Γ K G vs ds->Reps Γ K G' vs ds):∀{vss:ac (ac V)} {dss:ac (ac D)},pZ Γ K G vss dss->pZ Γ K G' vss dss
 |[],[],_=>trivial
 |[],_::_,h=>h.elim
 |_::_,[],h=>h.elim
 |_::_,_::_,h=>⟨f h.1,h.2.map f⟩
theorem B6:∀{ps qs:ac av},ps.map V.ref=qs.map V.ref->ps=qs
 |[],[],_=>rfl
 |[],_::_,h=>by cases h
 |_::_,[],h=>by cases h
 |p::ps,q::qs,h=>by have h1:=ij h;rw[V.ref.inj h1.1,B6 h1.2]
inductive SR (Γ:Cn) (K:bu) (H₀ G H:Hp):Slot->V->ac av->Prop where
 |sh {d:D} {v:V}:Rep Γ K G v d->SR Γ K H₀ G H (.sh d) v []
 |own {a:av} {vs:ac V} {ds:ac D}:H₀ a=ab->G a=ab->H a=aa (.lst vs)->Reps Γ K G vs ds->SR Γ K H₀ G H (.own ds) (.ref a) [a]
 |obj {c:aj} {a C dx:av} {vs:ac (aj×V)} {fs:ac (aj×D)}:Γ.cls c=aa C->H₀ a=ab->G a=ab->H a=aa (.ins C dx vs)->vs.map (·.1)=fs.map (·.1)->Reps Γ K G (vs.map (·.2)) (fs.map (·.2))->Γ.self=aa a->SR Γ K H₀ G H (.obj c fs) (.ref a) [a]
 |objd {c n:aj} {a C dx p:av} {vs:ac (aj×V)} {fs:ac (aj×D)} {us:ac (Key×V)} {kvs:ac (Key×D)}:Γ.cls c=aa C->H₀ a=ab->G a=ab->H a=aa (.ins C dx (vs++[(n,.ref p)]))->vs.map (·.1)=fs.map (·.1)->Reps Γ K G (vs.map (·.2)) (fs.map (·.2))->
   H₀ p=ab->G p=ab->H p=aa (.dK us)->us.map (·.1)=kvs.map (·.1)->Reps Γ K G (us.map (·.2)) (kvs.map (·.2))->Γ.self=aa a->SR Γ K H₀ G H (.objd c fs n kvs) (.ref a) [a,p]
 |odk {a:av} {us:ac (Key×V)} {kvs:ac (Key×D)}:H₀ a=ab->G a=ab->H a=aa (.dK us)->us.map (·.1)=kvs.map (·.1)->Reps Γ K G (us.map (·.2)) (kvs.map (·.2))->SR Γ K H₀ G H (.odk kvs) (.ref a) [a]
 |odt {a:av} {us:ac (ac Key×V)} {kvs:ac (ac Key×D)}:H₀ a=ab->G a=ab->H a=aa (.dT us)->us.map (·.1)=kvs.map (·.1)->Reps Γ K G (us.map (·.2)) (kvs.map (·.2))->SR Γ K H₀ G H (.odt kvs) (.ref a) [a]
 |tlo {t p:av} {vs ws:ac V} {ds es:ac D}:H₀ p=ab->G p=ab->H p=aa (.lst ws)->G t=aa (.tup (vs++[.ref p]))->Reps Γ K G vs ds->Reps Γ K G ws es->SR Γ K H₀ G H (.tlo ds es) (.ref t) [p]
 |pin (a:av):SR Γ K H₀ G H (.pin a) (.ref a) []
 |oll {a:av} {ps:ac av} {vss:ac (ac V)} {dss:ac (ac D)}:(∀b∈a::ps,H₀ b=ab/\G b=ab)->(a::ps).Nodup->H a=aa (.lst (ps.map V.ref))->mX H ps vss->pZ Γ K G vss dss->SR Γ K H₀ G H (.oll dss) (.ref a) (a::ps)
variable {H₀:Hp}
section
variable {s:Slot}
theorem SR.fpt (r:SR Γ K H₀ G H s v fp):∀b∈fp,H₀ b=ab/\G b=ab/\∃o,H b=aa o:=by
 cases r with
 |sh r=>intro b hb;cases hb
 |own h1 h2 h3 _=>intro b hb;rw[ce.mp hb];exact⟨h1,h2,_,h3⟩
 |obj _ h1 h2 h3 _ _ _=>intro b hb;rw[ce.mp hb];exact⟨h1,h2,_,h3⟩
 |objd _ h1 h2 h3 _ _ q1 q2 q3 _ _ _=>
  intro b hb;rcases c0.mp hb with rfl|hb
  .exact⟨h1,h2,_,h3⟩
  .rw[ce.mp hb];exact⟨q1,q2,_,q3⟩
 |odk h1 h2 h3 _ _=>intro b hb;rw[ce.mp hb];exact⟨h1,h2,_,h3⟩
 |odt h1 h2 h3 _ _=>intro b hb;rw[ce.mp hb];exact⟨h1,h2,_,h3⟩
 |tlo h1 h2 h3 _ _ _=>intro b hb;rw[ce.mp hb];exact⟨h1,h2,_,h3⟩
 |pin a=>intro b hb;cases hb
 |oll h1 h2 h3 h4 _=>
  intro b hb;refine⟨(h1 b hb).1,(h1 b hb).2,?_⟩;rcases c0.mp hb with rfl|hb
  .exact⟨_,h3⟩
  .exact h4.mem b hb
theorem SR.stay (r:SR Γ K H₀ G H s v fp) (gg:bT G G') (hg:∀b∈fp,G' b=ab) (hh:∀b∈fp,H' b=H b):SR Γ K H₀ G' H' s v fp:=by
 cases r with
 |sh r=>exact .sh (r.mono gg)
 |own h1 h2 h3 h4=>exact .own h1 (hg _ (ce.mpr rfl)) ((hh _ (ce.mpr rfl)).trans h3) (h4.mono gg)
 |obj c h1 h2 h3 h4 h5 hs=>exact .obj c h1 (hg _ (ce.mpr rfl)) ((hh _ (ce.mpr rfl)).trans h3) h4 (h5.mono gg) hs
 |objd c h1 h2 h3 h4 h5 q1 q2 q3 q4 q5 hs=>
  exact .objd c h1 (hg _ qh) ((hh _ qh).trans h3) h4 (h5.mono gg) q1 (hg _ (qi _ qh)) ((hh _ (qi _ qh)).trans q3) q4 (q5.mono gg) hs
 |odk h1 h2 h3 h4 h5=>exact .odk h1 (hg _ (ce.mpr rfl)) ((hh _ (ce.mpr rfl)).trans h3) h4 (h5.mono gg)
 |odt h1 h2 h3 h4 h5=>exact .odt h1 (hg _ (ce.mpr rfl)) ((hh _ (ce.mpr rfl)).trans h3) h4 (h5.mono gg)
 |pin a=>exact .pin a
 |oll h1 h2 h3 h4 h5=>exact .oll (fun b hb=>⟨(h1 b hb).1,hg b hb⟩) h2 ((hh _ qh).trans h3) (h4.stay fun b hb=>hh b (qi _ hb)) (h5.map fun r=>r.mono gg)
 |tlo h1 h2 h3 h4 h5 h6=>exact .tlo h1 (hg _ (ce.mpr rfl)) ((hh _ (ce.mpr rfl)).trans h3) (gg _ _ h4) (h5.mono gg) (h6.mono gg)
theorem SR.stepS (r:SR Γ K H₀ G H s v fp) (t:Step G H G' H'):SR Γ K H₀ G' H' s v fp:=r.stay t.gg (fun b hb=>by
 obtain⟨_,h2,o,h3⟩:=r.fpt b hb;exact(t.out b o h3).trans h2) (fun b hb=>by
 obtain⟨_,_,o,h3⟩:=r.fpt b hb;rw[h3];exact t.hh b o h3)
end
theorem SR.uniq {s:Slot} {fq:ac av} (r:SR Γ K H₀ G H s v fp) (q:SR Γ K H₀ G H s v fq):fp=fq:=by
 cases r with
 |sh r=>cases q;rfl
 |own h1 h2 h3 _=>cases q;rfl
 |obj _ h1 h2 h3 _ _ _=>cases q;rfl
 |objd _ h1 h2 h3 _ _ q1 q2 q3 _ _ _=>
  cases q with
  |objd _ _ _ k3 _ _ _ _ _ _ _ _=>
   rw[h3] at k3;have z:=(HO.ins.inj (qG k3)).2.2;have z2:=(Rx z rfl).2;cases z2;rfl
 |odk h1 h2 h3 _ _=>cases q;rfl
 |odt h1 h2 h3 _ _=>cases q;rfl
 |pin a=>cases q;rfl
 |oll _ _ h3 _ _=>
  cases q with
  |oll _ _ k3 _ _=>
   rw[h3] at k3;rw[B6 (HO.lst.inj (qG k3))]
 |tlo _ _ _ h4 _ _=>
  cases q with
  |tlo _ _ _ k4 _ _=>
   rw[h4] at k4;have z:=HO.tup.inj (qG k4);have z2:=(Rx z rfl).2;cases z2;rfl
structure EnvRel (Γ:Cn) (K:bu) (H₀ G H:Hp) (ρ:bi) (σ:St):Prop where
 len:ρ.length=σ.length
 sl:∃fps:al->ac av,(∀(i:al) s,ρ[i]?=aa (aa s)->∃v,σ[i]?=aa (aa v)/\SR Γ K H₀ G H s v (fps i)) /\
  ∀(i j:al) s t,i≠j->ρ[i]?=aa (aa s)->ρ[j]?=aa (aa t)->∀b∈fps i,b∉fps j
structure At (Γ:Cn) (K:bu) (G₀ H₀ G H:Hp) (ρ:bi) (σ:St):Prop where
 st:Step G₀ H₀ G H
 env:EnvRel Γ K H₀ G H ρ σ
noncomputable def gZ (ρ:bi):Prop:=∀(i:al) s,ρ[i]?=aa (aa s)->∃d,s=.sh d
variable {G₀:Hp} {ρ:bi} {fp':ac av} {d:D} {ds:ac D}
theorem EnvRel.ofSh (len:ρ.length=σ.length) (no:gZ ρ) (sh:∀(i:al) d,ρ[i]?=aa (aa (.sh d))->∃v,σ[i]?=aa (aa v)/\Rep Γ K G v d):EnvRel Γ K H₀ G H ρ σ :=
 ⟨len,fun _=>[],fun i s e=>by obtain⟨d,rfl⟩:=no i s e;obtain⟨v,h1,h2⟩:=sh i d e;exact⟨v,h1,.sh h2⟩,fun _ _ _ _ _ _ _ b hb=>by cases hb⟩
theorem EnvRel.sh (E:EnvRel Γ K H₀ G H ρ σ) (i:al) (d:D) (e:ρ[i]?=aa (aa (.sh d))):∃v,σ[i]?=aa (aa v)/\Rep Γ K G v d:=by
 obtain⟨fps,h,_⟩:=E.sl;obtain⟨v,h1,h2⟩:=h i _ e;generalize fps i=fp at h2;cases h2 with
 |sh r=>exact⟨v,h1,r⟩
theorem EnvRel.own (E:EnvRel Γ K H₀ G H ρ σ) (i:al) (ds:ac D) (e:ρ[i]?=aa (aa (.own ds))):∃a vs,σ[i]?=aa (aa (.ref a))/\H₀ a=ab/\G a=ab/\H a=aa (.lst vs)/\Reps Γ K G vs ds:=by
 obtain⟨fps,h,_⟩:=E.sl;obtain⟨v,h1,h2⟩:=h i _ e;generalize fps i=fp at h2;cases h2 with
 |own q1 q2 q3 q4=>exact⟨_,_,h1,q1,q2,q3,q4⟩
theorem At.gh (A:At Γ K G₀ H₀ G H ρ σ):bT G H:=A.st.gh
theorem At.step (A:At Γ K G₀ H₀ G H ρ σ) (s:Step G H G' H'):At Γ K G₀ H₀ G' H' ρ σ:=by
 obtain⟨fps,h,ap⟩:=A.env.sl;exact⟨A.st.trans s,A.env.len,fps,fun i t e=>by obtain⟨v,h1,h2⟩:=h i t e;exact⟨v,h1,h2.stepS s⟩,ap⟩
theorem At.put (A:At Γ K G₀ H₀ G H ρ σ) {s':Slot} {v':V} 
  (hfp:fp=[]\/∃s v,ρ[i]?=aa (aa s)/\σ[i]?=aa (aa v)/\SR Γ K H₀ G H s v fp)
  (hH:∀b o,H b=aa o->b∉fp->H' b=aa o) (hS:SR Γ K H₀ G' H' s' v' fp') (hn:∀b∈fp',b∈fp\/H b=ab)
  (gg:bT G G') (gh:bT G' H') (out:∀b o,H b=aa o->b∉fp->G' b=G b) (out2:∀b∈fp,H₀ b=ab):At Γ K G₀ H₀ G' H' (ρ.set i (aa s')) (σ.set i (aa v')):=by
 obtain⟨fps,h,ap⟩:=A.env.sl;have hl:=A.env.len;have old:∀b∈fp,∀j t,j≠i->ρ[j]?=aa (aa t)->b∉fps j:=fun b hb j t hj e=>by
  rcases hfp with rfl|⟨s,v,h1,h2,h3⟩
  .cases hb
  .obtain⟨v2,h4,h5⟩:=h i s h1;rw[h2] at h4;cases h4;have efp:fp=fps i:=h3.uniq h5;subst efp;exact ap i j s t (dI hj) h1 e b hb
 have slj:∀(j:al) t,j≠i->ρ[j]?=aa (aa t)->∃v,σ[j]?=aa (aa v)/\SR Γ K H₀ G' H' t v (fps j):=fun j t hj e=>by
  obtain⟨v,h1,h2⟩:=h j t e;refine⟨v,h1,h2.stay gg (fun b hb=>?_) (fun b hb=>?_)⟩
  .obtain⟨_,q2,o,q3⟩:=h2.fpt b hb;exact(out b o q3 fun z=>old b z j t hj e hb).trans q2
  .obtain⟨_,_,o,q3⟩:=h2.fpt b hb;rw[q3];exact hH b o q3 fun z=>old b z j t hj e hb
 have no2:∀b o,H₀ b=aa o->b∉fp:=fun b o e z=>by rw[out2 b z] at e;cases e
 have hst:Step G₀ H₀ G' H':=⟨fun b o e=>hH b o (A.st.hh b o e) (no2 b o e),A.st.gg.trans gg,gh,fun b o e=>(out b o (A.st.hh b o e) (no2 b o e)).trans (A.st.out b o e)⟩;refine⟨hst,by simp[hl],fun j=>if j=i then fp' else fps j,fun j t e=>?_,fun j k t u hjk e1 e2 b hb=>?_⟩
 .by_cases hj:j=i
  .subst hj;have hlt:j < ρ.length:=by
    rcases ik j ρ.length with q|q
    .exact q
    .rw[Fq (by simp;omega)] at e;cases e
   rw[vn hlt] at e;cases e;show ∃v,_/\SR _ _ _ _ _ _ v (if j=j then fp' else fps j);rw[qY rfl];exact⟨v',by rw[vn .(f)],hS⟩
  .rw[ni (dI hj)] at e ⊢;show ∃v,_/\SR _ _ _ _ _ _ v (if j=i then fp' else fps j);rw[qZ hj];exact slj j t hj e
 .have cross:∀{k:al} {u:Slot},k≠i->ρ[k]?=aa (aa u)->∀b∈fp',b∉fps k:=fun {k u} hk e b hb hb2=>by
   rcases hn b hb with z|z
   .exact old b z k u hk e hb2
   .obtain⟨v,_,q⟩:=h k u e;obtain⟨_,_,o,q3⟩:=q.fpt b hb2;rw[z] at q3;cases q3
  replace hb:b∈(if j=i then fp' else fps j):=hb
  show b∉(if k=i then fp' else fps k);by_cases hj:j=i
  .subst hj;have hk:k≠j:=dI hjk;rw[qY rfl] at hb;rw[qZ hk];rw[ni hjk] at e2;exact cross hk e2 b hb
  .rw[qZ hj] at hb;rw[ni (dI hj)] at e1;by_cases hk:k=i
   .subst hk;rw[qY rfl];exact fun z=>cross hj e1 b z hb
   .rw[qZ hk];rw[ni (dI hk)] at e2;exact ap j k t u hjk e1 e2 b hb
theorem At.setSh (A:At Γ K G₀ H₀ G H ρ σ) (r:Rep Γ K G v d):At Γ K G₀ H₀ G H (ρ.set i (aa (.sh d))) (σ.set i (aa v)):=
 A.put (fp:=[]) (fp':=[]) (.inl rfl) (fun b o e _=>e) (.sh r) (fun b hb=>by cases hb) (.refl _) A.gh (fun _ _ _ _=>rfl) (fun b hb=>by cases hb)
theorem At.setOwn (A:At Γ K G₀ H₀ G H ρ σ) (ha:H a=ab) (r:Reps Γ K G vs ds):At Γ K G₀ H₀ G (upd H a (.lst vs)) (ρ.set i (aa (.own ds))) (σ.set i (aa (.ref a))):=by have h0:H₀ a=ab:=A.st.hh.free ha;have hg:G a=ab:=A.gh.free ha;refine A.put (fp:=[]) (fp':=[a]) (.inl rfl) (fun b o e _=>by rw[a7 (ck e ha)];exact e) (.own h0 hg ca r) (fun b hb=>.inr (by rw[ce.mp hb];exact ha)) (.refl _) (fun b o e=>?_) (fun _ _ _ _=>rfl) (fun b hb=>by cases hb);rw[a7 (ck e hg)];exact A.gh b o e
theorem Ku {l:ac α} {x:α} (h:l[i]?=aa x):l.set i x=l:=by
 apply List.ext_getElem?;intro j;by_cases hj:j=i
 .subst hj;rw[vn (di.mp h).1,h]
 .rw[ni (dI hj)]
theorem At.ch (A:At Γ K G₀ H₀ G H ρ σ) {s s':Slot} (hi:ρ[i]?=aa (aa s)) (hv:σ[i]?=aa (aa v)) (hs:SR Γ K H₀ G H s v fp)
  (hH:∀b o,H b=aa o->b∉fp->H' b=aa o) (hS:SR Γ K H₀ G' H' s' v fp') (hn:∀b∈fp',b∈fp\/H b=ab)
  (gg:bT G G') (gh:bT G' H') (out:∀b o,H b=aa o->b∉fp->G' b=G b):At Γ K G₀ H₀ G' H' (ρ.set i (aa s')) σ:=by
 have:=A.put (i:=i) (.inr ⟨s,v,hi,hv,hs⟩) hH hS hn gg gh out fun b hb=>(hs.fpt b hb).1
 rwa [Ku hv] at this
theorem At.get (A:At Γ K G₀ H₀ G H ρ σ) {s:Slot} (hi:ρ[i]?=aa (aa s)):∃v fp,σ[i]?=aa (aa v)/\SR Γ K H₀ G H s v fp:=by obtain⟨fps,h,_⟩:=A.env.sl;obtain⟨v,h1,h2⟩:=h i s hi;exact⟨v,_,h1,h2⟩
theorem At.chOwn (A:At Γ K G₀ H₀ G H ρ σ) {es:ac D} {ws:ac V} (hi:ρ[i]?=aa (aa (.own ds))) (ha:σ[i]?=aa (aa (.ref a))) (r:Reps Γ K G ws es):At Γ K G₀ H₀ G (upd H a (.lst ws)) (ρ.set i (aa (.own es))) σ:=by
 obtain⟨v,fp,h1,h2⟩:=A.get hi;rw[ha] at h1;cases h1;cases h2 with
 |own q1 q2 q3 q4=>
  refine A.ch hi ha (.own q1 q2 q3 q4) (fun b o e hb=>?_) (.own q1 q2 ca r) (fun b hb=>.inl hb) (.refl _) (fun b o e=>?_) (fun _ _ _ _=>rfl)
  .rw[a7 (fun z=>hb (ce.mpr z))];exact e
  .rw[a7 (ck e q2)];exact A.gh b o e
theorem At.freeze (A:At Γ K G₀ H₀ G H ρ σ) (hi:ρ[i]?=aa (aa (.own ds))):∃G',bT G G'/\At Γ K G₀ H₀ G' H (ρ.set i (aa (.sh (.lst ds)))) σ:=by
 obtain⟨v,fp,h1,h2⟩:=A.get hi;cases h2 with
 |own q1 q2 q3 q4=>
  rename_i a vs;have sm:bT G (upd G a (.lst vs)):=fun b o e=>by rw[a7 (ck e q2)];exact e
  refine⟨upd G a (.lst vs),sm,A.ch hi h1 (.own q1 q2 q3 q4) (fun b o e hb=>e) (.sh (.lst ca (q4.mono sm))) (fun b hb=>by cases hb) sm (fun b o e=>?_) (fun b o e hb=>?_)⟩
  .by_cases hb:b=a
   .subst hb;rw[ca] at e;cases e;exact q3
   .rw[a7 hb] at e;exact A.gh b o e
  .rw[a7 (fun z=>hb (ce.mpr z))]
mutual
inductive NewL (H G:Hp):V->D->Prop where
 |flat {v:V} {d:D}:Ph d=ah->NewL H G v d
 |tup {a:av} {vs:ac V} {ds:ac D}:G a=aa (.tup vs)->NewLs H G vs ds->NewL H G (.ref a) (.tup ds)
 |lst {a:av} {vs:ac V} {ds:ac D}:G a=aa (.lst vs)->H a=ab->NewLs H G vs ds->NewL H G (.ref a) (.lst ds)
inductive NewLs (H G:Hp):ac V->ac D->Prop where
 |nil:NewLs H G [] []
 |cons {v:V} {d:D} {vs:ac V} {ds:ac D}:NewL H G v d->NewLs H G vs ds->NewLs H G (v::vs) (d::ds)
end
inductive Fl where
 |nx|bk|ct|rt (d:D)|ow (ds:ac D)|nw (d:D)|od (kvs:ac (Key×D))
noncomputable abbrev FE:=bi->ar D
noncomputable abbrev FT:=bi->ar aQ
noncomputable abbrev FA:=bi->ar (ac D)
noncomputable abbrev FS:=bi->ar (Fl×bi)
inductive TD (Γ:Cn) (K:bu) (f:FE) (σ:St) (H:Hp) (Q:VK):Prop where
 |mk:∀G₀ H₀ G ρ d,At Γ K G₀ H₀ G H ρ σ->f ρ=aa d->(∀v G' H',Step G H G' H'->Rep Γ K G' v d->Q v H')->TD Γ K f σ H Q
inductive TDt (Γ:Cn) (K:bu) (f:FT) (σ:St) (H:Hp) (Q:aQ->Hp->Prop):Prop where
 |mk:∀G₀ H₀ G ρ b,At Γ K G₀ H₀ G H ρ σ->f ρ=aa b->(∀G' H',Step G H G' H'->Q b H')->TDt Γ K f σ H Q
inductive TDa (Γ:Cn) (K:bu) (f:FA) (σ:St) (H:Hp) (Q:ac V->Hp->Prop):Prop where
 |mk:∀G₀ H₀ G ρ ds,At Γ K G₀ H₀ G H ρ σ->f ρ=aa ds->(∀vs G' H',Step G H G' H'->Reps Γ K G' vs ds->Q vs H')->TDa Γ K f σ H Q
noncomputable def KP (Γ:Cn) (K:bu) (E:Ends) (H₀ G' H':Hp) (σ':St):Fl->Prop
 |.nx=>E.nx σ' H'
 |.bk=>E.bk σ' H'
 |.ct=>E.ct σ' H'
 |.rt d=>∀v,Rep Γ K G' v d->E.rt v H'
 |.ow ds=>∀p vs,H₀ p=ab->G' p=ab->H' p=aa (.lst vs)->Reps Γ K G' vs ds->E.rt (.ref p) H'
 |.nw d=>∀v,Rep Γ K G' v d->NewL H₀ G' v d->E.rt v H'
 |.od kvs=>∀p us,H₀ p=ab->G' p=ab->H' p=aa (.dK us)->us.map (·.1)=kvs.map (·.1)->Reps Γ K G' (us.map (·.2)) (kvs.map (·.2))->E.rt (.ref p) H'
inductive TDs (Γ:Cn) (K:bu) (g:FS) (E:Ends) (σ:St) (H:Hp):Prop where
 |mk:∀G₀ H₀ G ρ fl ρ',At Γ K G₀ H₀ G H ρ σ->g ρ=aa (fl,ρ')->(∀σ' G' H',bT G G'->At Γ K G₀ H₀ G' H' ρ' σ'->KP Γ K E H₀ G' H' σ' fl)->TDs Γ K g E σ H
inductive TDo (Γ:Cn) (K:bu) (f:FA) (σ:St) (H:Hp) (Q:VK):Prop where
 |mk:∀G₀ H₀ G ρ ds,At Γ K G₀ H₀ G H ρ σ->f ρ=aa ds->(∀p vs G' H',Step G H G' H'->H' p=ab->Reps Γ K G' vs ds->Q (.ref p) (upd H' p (.lst vs)))->TDo Γ K f σ H Q
structure DE (Γ:Cn) (X:Cx) (e:Expr) (f:FE):Prop where
 out:PE X e (TD Γ X.K f)
structure DT (Γ:Cn) (X:Cx) (e:Expr) (f:FT):Prop where
 out:PT X e (TDt Γ X.K f)
structure DW (Γ:Cn) (X:Cx) (e:Expr) (f:FT):Prop where
 out:PW X e (TDt Γ X.K f)
structure DA (Γ:Cn) (X:Cx) (es:ac Expr) (f:FA):Prop where
 out:PA X es (TDa Γ X.K f)
structure DS (Γ:Cn) (X:Cx) (st:Stmt) (g:FS):Prop where
 out:PS X st (TDs Γ X.K g)
structure DSs (Γ:Cn) (X:Cx) (st:ac Stmt) (g:FS):Prop where
 out:PSs X st (TDs Γ X.K g)
structure DO (Γ:Cn) (X:Cx) (e:Expr) (f:FA):Prop where
 out:PE X e (TDo Γ X.K f)
variable {fa fb fc f:FE}
section
variable {a:Expr}
theorem PE.imp {t t':TE} (h:PE X e t) (i:∀σ H Q,t' σ H Q->t σ H Q):PE X e t':=fun pins s σ H Q I q=>h pins s σ H Q I (i _ _ _ q)
theorem PT.imp {t t':TT} (h:PT X e t) (i:∀σ H Q,t' σ H Q->t σ H Q):PT X e t':=fun pins s σ H Q I q=>h pins s σ H Q I (i _ _ _ q)
theorem PW.imp {t t':TT} (h:PW X e t) (i:∀σ H Q,t' σ H Q->t σ H Q):PW X e t':=fun wh pins s σ H Q I q=>h wh pins s σ H Q I (i _ _ _ q)
theorem PA.imp {t t':TA} (h:PA X es t) (i:∀σ H Q,t' σ H Q->t σ H Q):PA X es t':=fun p pins s σ H Q I q=>h p pins s σ H Q I (i _ _ _ q)
theorem PS.imp {t t':TS} (h:PS X st t) (i:∀E σ H,t' E σ H->t E σ H):PS X st t':=fun pins s σ H E I q=>h pins s σ H E I (i _ _ _ q)
theorem PSs.imp {st:ac Stmt} {t t':TS} (h:PSs X st t) (i:∀E σ H,t' E σ H->t E σ H):PSs X st t':=fun pins s σ H E I q=>h pins s σ H E I (i _ _ _ q)
noncomputable def vSh (i:al):FE:=fun ρ=>match ρ[i]? with
 |some (aa (.sh d))=>aa d
 |_=>ab
theorem J9 (h:vSh i ρ=aa d):ρ[i]?=aa (aa (.sh d)):=by
 unfold vSh at h;split at h
 .rename_i e;cases h;exact e
 .cases h
theorem af (i:al) (hN:X.N[i]?=aa x:=by rfl) (hv:Vis X.env.scope x:=by first|exact dc rfl|exact cH (dc rfl)|exact cH (cH rfl)) (hd:.(G)=ao:=by decide)
  (hcd:.(ap)=ao:=by decide):DE Γ X (.Name x pos) (vSh i):=⟨(iq hN hv hd hcd).imp fun σ H Q ⟨G₀,H₀,G,ρ,d,A,h,k⟩=>by
 obtain⟨v,h1,h2⟩:=A.env.sh i d (J9 h);exact⟨v,h1,k v G H (.refl A.gh) h2⟩⟩
noncomputable def vC (d:D):FE:=fun _=>aa d
theorem TD.const (r:∀G,Rep Γ X.K G v d) (h:PE X e (tC v)):DE Γ X e (vC d):=⟨h.imp fun σ H Q ⟨G₀,H₀,G,ρ,d',A,h,k⟩=>by cases h;exact k v G H (.refl A.gh) (r G)⟩
theorem aq {i j}:DE Γ X (.Constant (.int i) j pos) (vC (.int i)):=TD.const (fun _=>.int i) NP
theorem cA {i j}:DE Γ X (.Constant (.bool i) j pos) (vC (.bl i)):=TD.const (fun _=>.bl i) Jw
theorem dL {j}:DE Γ X (.Constant .none j pos) (vC .non):=TD.const (fun _=>.non) Kf
theorem dA {i j}:DE Γ X (.Constant (.str i) j pos) (vC (.str i)):=TD.const (fun _=>.str i) HW
theorem iD {i:ag} {t:Tok} (hg:Gl X x) (hm:X.mg x=aa (.int i t)) (hd:.(G)=ao:=by decide):DE Γ X (.Name x pos) (vC (.int i)):=TD.const (fun _=>.int i) (GV hg hm ⟨t,rfl⟩ hd)
noncomputable def b2 (g:D->D->ar D) (fa fb:FE):FE:=fun ρ=>(fa ρ).bind fun x=>(fb ρ).bind fun y=>g x y
noncomputable def b1 (g:D->ar D) (fa:FE):FE:=fun ρ=>(fa ρ).bind g
noncomputable def gC (Γ:Cn) (K:bu) (g:D->D->ar D) (r:R2):Prop:=
 ∀{G H v u x y z},bT G H->Rep Γ K G v x->Rep Γ K G u y->g x y=aa z->∀Q:VK,(∀w G' H',Step G H G' H'->Rep Γ K G' w z->Q w H')->r v u H Q
theorem TD.two {g:D->D->ar D} (hr:gC Γ X.K g r):∀σ H Q,TD Γ X.K (b2 g fa fb) σ H Q->tOp r (TD Γ X.K fa) (TD Γ X.K fb) σ H Q:=by
 rintro σ H Q ⟨G₀,H₀,G,ρ,d,A,h,k⟩;unfold b2 at h;cases ha:fa ρ with
 |none=>rw[ha] at h;cases h
 |some x=>
  cases hb:fb ρ with
  |none=>rw[ha] at h;simp only[qc,hb,Ry] at h;cases h
  |some y=>
   simp only[ha,hb,qc] at h;refine⟨G₀,H₀,G,ρ,x,A,ha,fun v G1 H1 s1 r1=>⟨G₀,H₀,G1,ρ,y,A.step s1,hb,fun u G2 H2 s2 r2=>?_⟩⟩;exact hr s2.gh (r1.mono s2.gg) r2 h Q fun w G' H' s r=>k w G' H' ((s1.trans s2).trans s) r
theorem rA {op:Operator} {g:D->D->ar D} (ho:OpR X (jg op) r) (hr:gC Γ X.K g r) (ha:DE Γ X a fa) (hb:DE Γ X b fb):DE Γ X (.BinOp a op b pos) (b2 g fa fb):=⟨(M5 ho ha.1 hb.1).imp (TD.two hr)⟩
noncomputable def aX:D->D->ar D
 |.int i,.int j=>aa (.int (i+j))
 |.str x,.str y=>if x.length+y.length<=aW then aa (.str (x++y)) else ab
 |.lst x,.lst y=>if x.length+y.length<=aW then aa (.lst (x++y)) else ab
 |_,_=>ab
noncomputable def ic:D->D->ar D
 |.int i,.int j=>aa (.int (i-j))
 |_,_=>ab
noncomputable def jL (x:aj) (n:al):aj:=⟨(cq n x.cps.toList).flatten.toArray⟩
noncomputable def cY:D->D->ar D
 |.int i,.int j=>if (-(2 ^ 64)<i/\i<2 ^ 64)\/(-(2 ^ 64)<j/\j<2 ^ 64) then aa (.int (i*j)) else ab
 |.lst x,.int j=>if -(2 ^ 63)<=j/\j<2 ^ 63/\x.length*j.toNat<=aW then aa (.lst (cq j.toNat x).flatten) else ab
 |.str x,.int j=>if 0<=j/\j<1000/\x.length<1000 then aa (.str (jL x j.toNat)) else ab
 |_,_=>ab
noncomputable def dF:D->D->ar D
 |.int i,.int j=>if 0<j/\j<1073741824 then aa (.int (i / j)) else ab
 |_,_=>ab
noncomputable def bF:D->D->ar D
 |.int i,.int j=>if 0<j then aa (.int (i%j)) else ab
 |_,_=>ab
theorem Rep.int_inv {i:ag} (r:Rep Γ K G v (.int i)):v=.int i:=by cases r;rfl
theorem Rep.str_inv {i:aj} (r:Rep Γ K G v (.str i)):v=.str i:=by cases r;rfl
theorem Rep.bl_inv {i:aQ} (r:Rep Γ K G v (.bl i)):v=.bl i:=by cases r;rfl
theorem Rep.lst_inv (r:Rep Γ K G v (.lst ds)):∃a vs,v=.ref a/\G a=aa (.lst vs)/\Reps Γ K G vs ds:=by cases r;exact⟨_,_,rfl,by assumption,by assumption⟩
theorem Rep.tup_inv (r:Rep Γ K G v (.tup ds)):∃a vs,v=.ref a/\G a=aa (.tup vs)/\Reps Γ K G vs ds:=by cases r;exact⟨_,_,rfl,by assumption,by assumption⟩
theorem Rep.scr_inv {ns:ac ag} (r:Rep Γ K G v (.scr ns)):∃a,v=.ref a/\SqL K G a (ns.map V.int):=by cases r;exact⟨_,rfl,by assumption⟩
theorem oG {Q:VK} (gh:bT G H) (r:Reps Γ K G vs ds) (k:∀w G' H',Step G H G' H'->Rep Γ K G' w (.lst ds)->Q w H'):∀p,H p=ab->Q (.ref p) (upd H p (.lst vs)):=fun p hp=>by have s:=Step.new (o:=.lst vs) gh hp;exact k _ _ _ s (.lst ca (r.mono s.gg))
theorem wZ {Q:VK} (gh:bT G H) (r:Reps Γ K G vs ds) (k:∀w G' H',Step G H G' H'->Rep Γ K G' w (.tup ds)->Q w H'):∀p,H p=ab->Q (.ref p) (upd H p (.tup vs)):=fun p hp=>by have s:=Step.new (o:=.tup vs) gh hp;exact k _ _ _ s (.tup ca (r.mono s.gg))
theorem LI :gC Γ K aX (fun x y H Q=>(rI0 (fun i j=>V.int (i+j)) x y H Q\/(∃i j,x=.str i/\y=.str j/\i.length+j.length<=aW/\Q (.str (i++j)) H))\/yf x y H Q):=by
 intro G H v u x y z gh r1 r2 h Q k;unfold aX at h;split at h
 .cases h;cases r1.int_inv;cases r2.int_inv;exact .inl (.inl ⟨_,_,rfl,rfl,k _ G H (.refl gh) (.int _)⟩)
 .split at h
  .cases h;cases r1.str_inv;cases r2.str_inv;exact .inl (.inr ⟨_,_,rfl,rfl,by assumption,k _ G H (.refl gh) (.str _)⟩)
  .cases h
 .split at h
  .rename_i hz;cases h;obtain⟨a,vs,rfl,ha,ra⟩:=r1.lst_inv;obtain⟨b,us,rfl,hb,rb⟩:=r2.lst_inv;exact .inr ⟨a,b,vs,us,rfl,rfl,gh _ _ ha,gh _ _ hb,by rw[ra.length,rb.length];exact hz,oG gh (ra.append rb) k⟩
  .cases h
 .cases h
theorem J':OpR X (jg .Add) (fun x y H Q=>(rI0 (fun i j=>V.int (i+j)) x y H Q\/(∃i j,x=.str i/\y=.str j/\i.length+j.length<=aW/\Q (.str (i++j)) H))\/yf x y H Q):=(Kz.or OF).or OM
theorem ci (ha:DE Γ X a fa) (hb:DE Γ X b fb):DE Γ X (.BinOp a .Add b pos) (b2 aX fa fb):=rA J' LI ha hb
theorem O9 {g:D->D->ar D} {o:ag->ag->ag} (hg:∀x y z,g x y=aa z->∃i j,x=.int i/\y=.int j/\z=.int (o i j)):gC Γ K g (rI0 fun i j=>V.int (o i j)):=by intro G H v u x y z gh r1 r2 h Q k;obtain⟨i,j,rfl,rfl,rfl⟩:=hg x y z h;cases r1.int_inv;cases r2.int_inv;exact⟨_,_,rfl,rfl,k _ G H (.refl gh) (.int _)⟩
theorem CL {g:D->D->ar D} {C:ag->ag->Prop} {o:ag->ag->ag} (hg:∀x y z,g x y=aa z->∃i j,x=.int i/\y=.int j/\C i j/\z=.int (o i j)):gC Γ K g (rI C fun i j=>V.int (o i j)):=by intro G H v u x y z gh r1 r2 h Q k;obtain⟨i,j,rfl,rfl,hc,rfl⟩:=hg x y z h;cases r1.int_inv;cases r2.int_inv;exact⟨_,_,rfl,rfl,hc,k _ G H (.refl gh) (.int _)⟩
theorem rf (ha:DE Γ X a fa) (hb:DE Γ X b fb):DE Γ X (.BinOp a .Sub b pos) (b2 ic fa fb):=rA Gg (O9 fun x y z h=>by unfold ic at h;split at h<;>cases h;exact⟨_,_,rfl,rfl,rfl⟩) ha hb
theorem kx (ha:DE Γ X a fa) (hb:DE Γ X b fb):DE Γ X (.BinOp a .FloorDiv b pos) (b2 dF fa fb):=rA OE (CL fun x y z h=>by
 unfold dF at h;split at h
 .split at h<;>cases h;exact⟨_,_,rfl,rfl,by assumption,rfl⟩
 .cases h) ha hb
theorem c3 (ha:DE Γ X a fa) (hb:DE Γ X b fb):DE Γ X (.BinOp a .Mod b pos) (b2 bF fa fb):=rA Ox (CL fun x y z h=>by
 unfold bF at h;split at h
 .split at h<;>cases h;exact⟨_,_,rfl,rfl,by assumption,rfl⟩
 .cases h) ha hb
theorem EG (a:bQ al):∀(k:al) (acc:ac al),(cq k a).foldl (·++·) acc.toArray=(acc++(cq k a.toList).flatten).toArray
 |0,acc=>by simp
 |k+1,acc=>by
  rw[lX,kR,lX,pf,←sq,←EG a k (acc++a.toList)]
  congr 1
  simp
noncomputable def BC:R2:=fun x y H Q=>∃z n,x=.str z/\y=.int n/\0<=n/\n<1000/\z.length<1000/\Q (.str (jL z n.toNat)) H
theorem Gm:OpR X (jg .Mult) BC:=by
 intro pins s σ H x y v u Q I rx ry h;obtain⟨z,n,rfl,rfl,h0,h1,h2,q⟩:=h;obtain⟨t,rfl⟩:=rx;obtain⟨t',rfl⟩:=ry;have hl:z.length*n.toNat<=1000000:=qL (Nat.mul_le_mul (rW h2) (show n.toNat<=1000 by omega)) .(h);have e0:(cq n.toNat z.cps).foldl (·++·) #[]=(jL z n.toNat).cps:=by have:=EG z.cps n.toNat [];simpa[jL] using this
 refine PySem.P.mul_str ?_ (fun h _=>?_) (fun _ _=>?_) ?_
 .rw[qM .(f),qM .(f)];rfl
 .have e:(z.length:ag)*n=((z.length*n.toNat:al):ag):=by rw[Int.natCast_mul];congr 1;omega
  have:(z.length:ag)<=(2 ^ 63-1:ag) / n:=Int.le_ediv_of_mul_le .(f) (by rw[e];omega);omega
 .unfold TK;exact qM (by have:=fT;omega)
 .split
  .have:n=0:=by omega
   subst this;exact⟨by decide,⟨.str _,H,I.tok _,⟨_,rfl⟩,by simpa[jL,gi] using q⟩⟩
  .split
   .rename_i hc;have ez:jL z n.toNat=z:=by
     rcases pj _ _▸hc with e|e
     .have:n=1:=by simpa using e
      subst this;simp[jL]
     .have hz:z.cps=#[]:=by
       have:z.cps.size=0:=by simpa[so] using e
       exact Array.eq_empty_of_size_eq_zero this
      cases z;simp only at hz;subst hz;simp[jL]
    exact⟨.str _,H,I,⟨_,rfl⟩,by rw[←ez];exact q⟩
   .rw[e0];refine⟨?_,⟨.str _,H,I.tok _,⟨_,rfl⟩,q⟩⟩;have e1:(jL z n.toNat).length=n.toNat*z.length:=by show(cq n.toNat z.cps.toList).flatten.toArray.size=_;rw[qA,Eu];simp[so]
    show(jL z n.toNat).length<=aW;rw[e1,Rh];have:=fT;omega
theorem QB :gC Γ K cY (fun x y H Q=>(rI u5 (fun i j=>V.int (i*j)) x y H Q\/CW x y H Q)\/BC x y H Q):=by
 intro G H v u x y z gh r1 r2 h Q k;unfold cY at h;split at h
 .split at h
  .cases h;cases r1.int_inv;cases r2.int_inv;exact .inl (.inl ⟨_,_,rfl,rfl,by assumption,k _ G H (.refl gh) (.int _)⟩)
  .cases h
 .split at h
  .rename_i hz;cases h;obtain⟨a,vs,rfl,ha,ra⟩:=r1.lst_inv;cases r2.int_inv;exact .inl (.inr ⟨a,_,vs,rfl,rfl,gh _ _ ha,hz.1,hz.2.1,by rw[ra.length];exact hz.2.2,oG gh (ra.rep _) k⟩)
  .cases h
 .split at h
  .rename_i hz;cases h;cases r1.str_inv;cases r2.int_inv;exact .inr ⟨_,_,rfl,rfl,hz.1,hz.2.1,hz.2.2,k _ G H (.refl gh) (.str _)⟩
  .cases h
 .cases h
theorem jK (ha:DE Γ X a fa) (hb:DE Γ X b fb):DE Γ X (.BinOp a .Mult b pos) (b2 cY fa fb):=rA ((KB.or Jr).or Gm) QB ha hb
end
variable {y:D} {ft gt:FT} {fr:FA}
section
variable {a:Expr}
theorem Rep.non_inv (r:Rep Γ K G v .non):v=.non:=by cases r;rfl
noncomputable def ltS (x y:aj):aQ:=decide (x.cps.toList<y.cps.toList)
noncomputable def ltD:D->D->ar D
 |.int i,.int j=>aa (.bl (decide (i<j)))
 |.str x,.str y=>aa (.bl (ltS x y))
 |_,_=>ab
noncomputable def leD:D->D->ar D
 |.int i,.int j=>aa (.bl (decide (i<=j)))
 |.str x,.str y=>aa (.bl (!ltS y x))
 |_,_=>ab
noncomputable def gtD:D->D->ar D
 |.int i,.int j=>aa (.bl (decide (j<i)))
 |_,_=>ab
noncomputable def geD:D->D->ar D
 |.int i,.int j=>aa (.bl (decide (j<=i)))
 |_,_=>ab
noncomputable def eqS:D->D->ar aQ
 |.int i,.int j=>aa (decide (i=j))
 |.bl i,.bl j=>aa (decide (i=j))
 |.str i,.str j=>aa (decide (i=j))
 |.non,.non=>aa ah
 |.non,.int _=>aa ao|.int _,.non=>aa ao|.non,.bl _=>aa ao|.bl _,.non=>aa ao|.non,.str _=>aa ao|.str _,.non=>aa ao
 |.int _,.str _=>aa ao|.str _,.int _=>aa ao|.bl _,.str _=>aa ao|.str _,.bl _=>aa ao
 |_,_=>ab
noncomputable def eqD (x y:D):ar D:=(eqS x y).map D.bl
noncomputable def neD (x y:D):ar D:=(eqS x y).map fun b=>D.bl (!b)
theorem AV {u:V} {x:D} {k:aQ} (r1:Rep Γ K G v x) (r2:Rep Γ K G u y) (h:eqS x y=aa k):w9 v u=ah/\decide (v=u)=k:=by
 unfold eqS at h;split at h<;>cases h
 .cases r1.int_inv;cases r2.int_inv;exact⟨rfl,by simp⟩
 .cases r1.bl_inv;cases r2.bl_inv;exact⟨rfl,by simp⟩
 .cases r1.str_inv;cases r2.str_inv;exact⟨rfl,by simp⟩
 .cases r1.non_inv;cases r2.non_inv;exact⟨rfl,by simp⟩
 .cases r1.non_inv;cases r2.int_inv;exact⟨rfl,by simp⟩
 .cases r1.int_inv;cases r2.non_inv;exact⟨rfl,by simp⟩
 .cases r1.non_inv;cases r2.bl_inv;exact⟨rfl,by simp⟩
 .cases r1.bl_inv;cases r2.non_inv;exact⟨rfl,by simp⟩
 .cases r1.non_inv;cases r2.str_inv;exact⟨rfl,by simp⟩
 .cases r1.str_inv;cases r2.non_inv;exact⟨rfl,by simp⟩
 .cases r1.int_inv;cases r2.str_inv;exact⟨rfl,by simp⟩
 .cases r1.str_inv;cases r2.int_inv;exact⟨rfl,by simp⟩
 .cases r1.bl_inv;cases r2.str_inv;exact⟨rfl,by simp⟩
 .cases r1.str_inv;cases r2.bl_inv;exact⟨rfl,by simp⟩
theorem PR :gC Γ K eqD rEq:=by
 intro G H v u x y z gh r1 r2 h Q k;unfold eqD at h;cases e:eqS x y with
 |none=>rw[e] at h;cases h
 |some b=>
  rw[e] at h;cases h;obtain⟨h1,h2⟩:=AV r1 r2 e;exact⟨h1,by rw[h2];exact k _ G H (.refl gh) (.bl _)⟩
theorem LP :gC Γ K neD rNe:=by
 intro G H v u x y z gh r1 r2 h Q k;unfold neD at h;cases e:eqS x y with
 |none=>rw[e] at h;cases h
 |some b=>
  rw[e] at h;cases h;obtain⟨h1,h2⟩:=AV r1 r2 e;exact⟨h1,by rw[h2];exact k _ G H (.refl gh) (.bl _)⟩
theorem Bt {g:D->D->ar D} {o:ag->ag->aQ} (hg:∀x y z,g x y=aa z->∃i j,x=.int i/\y=.int j/\z=.bl (o i j)):gC Γ K g (rI0 fun i j=>V.bl (o i j)):=by intro G H v u x y z gh r1 r2 h Q k;obtain⟨i,j,rfl,rfl,rfl⟩:=hg x y z h;cases r1.int_inv;cases r2.int_inv;exact⟨_,_,rfl,rfl,k _ G H (.refl gh) (.bl _)⟩
theorem KQ:OpR X (dz .LtE) (fun x y H Q=>∃i j,x=.str i/\y=.str j/\Q (.bl (!ltS j i)) H):=by intro pins s σ H x y v u Q I rx ry h;obtain⟨i,j,rfl,rfl,q⟩:=h;obtain⟨t,rfl⟩:=rx;obtain⟨t',rfl⟩:=ry;exact PySem.P.le_str (cT I q (by simp[ltS]))
theorem L3 :gC Γ K ltD (fun x y H Q=>rI0 (fun i j=>V.bl (decide (i<j))) x y H Q\/∃i j,x=.str i/\y=.str j/\Q (.bl (decide (i.cps.toList<j.cps.toList))) H):=by
 intro G H v u x y z gh r1 r2 h Q k;unfold ltD at h;split at h<;>cases h
 .cases r1.int_inv;cases r2.int_inv;exact .inl ⟨_,_,rfl,rfl,k _ G H (.refl gh) (.bl _)⟩
 .cases r1.str_inv;cases r2.str_inv;exact .inr ⟨_,_,rfl,rfl,k _ G H (.refl gh) (.bl _)⟩
theorem QA :gC Γ K leD (fun x y H Q=>rI0 (fun i j=>V.bl (decide (i<=j))) x y H Q\/∃i j,x=.str i/\y=.str j/\Q (.bl (!ltS j i)) H):=by
 intro G H v u x y z gh r1 r2 h Q k;unfold leD at h;split at h<;>cases h
 .cases r1.int_inv;cases r2.int_inv;exact .inl ⟨_,_,rfl,rfl,k _ G H (.refl gh) (.bl _)⟩
 .cases r1.str_inv;cases r2.str_inv;exact .inr ⟨_,_,rfl,rfl,k _ G H (.refl gh) (.bl _)⟩
structure CmpD (Γ:Cn) (X:Cx) (op:CmpOp) (g:D->D->ar D):Prop where
 ex:∃r,OpR X (dz op) r/\gC Γ X.K g r
theorem dG:CmpD Γ X .Lt ltD:=⟨_,ND.or J7,L3⟩
theorem gL:CmpD Γ X .LtE leD:=⟨_,Mw.or KQ,QA⟩
theorem lu:CmpD Γ X .Gt gtD:=⟨_,GB,Bt fun x y z h=>by unfold gtD at h;split at h<;>cases h;exact⟨_,_,rfl,rfl,rfl⟩⟩
theorem v5:CmpD Γ X .GtE geD:=⟨_,QG,Bt fun x y z h=>by unfold geD at h;split at h<;>cases h;exact⟨_,_,rfl,rfl,rfl⟩⟩
theorem fO:CmpD Γ X .Eq eqD:=⟨_,QC,PR⟩
theorem K4:CmpD Γ X .NotEq neD:=⟨_,IB,LP⟩
theorem dM {g:D->D->ar D} (h:CmpD Γ X op g) (ha:DE Γ X a fa) (hb:DE Γ X b fb) (hm:lP op b=ao):DE Γ X (.Compare a [op] [b] pos) (b2 g fa fb):=⟨by obtain⟨r,ho,hr⟩:=h.ex;exact(Qj ho ha.1 hb.1 hm).imp (TD.two hr)⟩
noncomputable def chD (g g':D->D->ar D) (fa fb fc:FE):FE:=fun ρ=>(fa ρ).bind fun x=>(fb ρ).bind fun y=>(g x y).bind fun z=>match z with
 |.bl ah=>(fc ρ).bind fun w=>g' y w
 |.bl ao=>aa (.bl ao)
 |_=>ab
theorem TD.chain {g g':D->D->ar D} (hr:gC Γ X.K g r) (hr':gC Γ X.K g' r'):∀σ H Q,TD Γ X.K (chD g g' fa fb fc) σ H Q->yn r r' (TD Γ X.K fa) (TD Γ X.K fb) (TD Γ X.K fc) σ H Q:=by
 rintro σ H Q ⟨G₀,H₀,G,ρ,d,A,h,k⟩;unfold chD at h;obtain⟨x,ha,h⟩:=oBd h;obtain⟨y,hb,h⟩:=oBd h;obtain⟨z,hz,h⟩:=oBd h;refine⟨G₀,H₀,G,ρ,x,A,ha,fun v G1 H1 s1 r1=>⟨G₀,H₀,G1,ρ,y,A.step s1,hb,fun u G2 H2 s2 r2=>?_⟩⟩;refine hr s2.gh (r1.mono s2.gg) r2 hz _ fun w G3 H3 s3 r3=>?_;split at h
 .cases r3.bl_inv;obtain⟨w,hc,h⟩:=oBd h;refine⟨ah,rfl,mr ⟨G₀,H₀,G3,ρ,w,((A.step s1).step s2).step s3,hc,fun q G4 H4 s4 r4=>?_⟩⟩;exact hr' s4.gh ((r2.mono s3.gg).mono s4.gg) r4 h Q fun w' G' H' s r=>k w' G' H' ((((s1.trans s2).trans s3).trans s4).trans s) r
 .cases r3.bl_inv;cases h;exact⟨ao,rfl,m6 (k _ G3 H3 ((s1.trans s2).trans s3) (.bl _))⟩
 .cases h
theorem wy {g g':D->D->ar D} (h:CmpD Γ X op g) (h':CmpD Γ X op' g') (ha:DE Γ X a fa) (hb:DE Γ X b fb) (hc:DE Γ X c fc) (hm:yZ [op,op'] [b,c]=ao:=by with_unfolding_all rfl) :
  DE Γ X (.Compare a [op,op'] [b,c] pos) (chD g g' fa fb fc):=⟨by
 obtain⟨r,ho,hr⟩:=h.ex;obtain⟨r',ho',hr'⟩:=h'.ex;exact(Kb ho ho' ha.1 hb.1 hc.1 hm).imp (TD.chain hr hr')⟩
noncomputable def toB (f:FE):FT:=fun ρ=>(f ρ).bind fun d=>match d with
 |.bl b=>aa b
 |_=>ab
theorem TDt.val :∀σ H Q,TDt Γ X.K (toB f) σ H Q->TD Γ X.K f σ H fun x H'=>∃k,x=.bl k/\Q k H':=by rintro σ H Q ⟨G₀,H₀,G,ρ,b,A,h,k⟩;unfold toB at h;obtain⟨d,hd,h⟩:=oBd h;split at h<;>cases h;exact⟨G₀,H₀,G,ρ,_,A,hd,fun v G' H' s r=>⟨b,r.bl_inv,k G' H' s⟩⟩
theorem bB {g:D->D->ar D} (h:CmpD Γ X op g) (ha:DE Γ X a fa) (hb:DE Γ X b fb) (hm:lP op b=ao):DT Γ X (.Compare a [op] [b] pos) (toB (b2 g fa fb)):=⟨by obtain⟨r,ho,hr⟩:=h.ex;exact(JI ho ha.1 hb.1 hm).imp fun σ H Q q=>TD.two hr σ H _ (TDt.val σ H Q q)⟩
theorem Ez {g g':D->D->ar D} (h:CmpD Γ X op g) (h':CmpD Γ X op' g') (ha:DE Γ X a fa) (hb:DE Γ X b fb) (hc:DE Γ X c fc) (hm:yZ [op,op'] [b,c]=ao:=by with_unfolding_all rfl) :
  DT Γ X (.Compare a [op,op'] [b,c] pos) (toB (chD g g' fa fb fc)):=⟨by
 obtain⟨r,ho,hr⟩:=h.ex;obtain⟨r',ho',hr'⟩:=h'.ex;exact(N5 ho ho' ha.1 hb.1 hc.1 hm).imp fun σ H Q q=>TD.chain hr hr' σ H _ (TDt.val σ H Q q)⟩
theorem bS (h:DE Γ X e f) (he:∀whole,isTrue e X.env whole=(do let v ←whole;o6 e.pos;jX [v] (truthy v)):=by intro _;rfl):DT Γ X e (toB f):=⟨(IR h.1 he).imp TDt.val⟩
noncomputable def bD (f:FT):FT:=fun ρ=>(f ρ).map (!·)
noncomputable def cQ (f g:FT):FT:=fun ρ=>(f ρ).bind fun b=>if b=ah then g ρ else aa ao
noncomputable def orT (f g:FT):FT:=fun ρ=>(f ρ).bind fun b=>if b=ah then aa ah else g ρ
variable {cc:ac Expr}
theorem DW.dt (h:DW Γ X e ft):DT Γ X e ft:=⟨h.1.pt⟩
theorem b7 (h:DT Γ X a ft):DT Γ X (.UnaryOp .Not a pos) (bD ft):=⟨(K5 h.1).imp fun σ H Q=>by rintro⟨G₀,H₀,G,ρ,b,A,h,k⟩;unfold bD at h;obtain⟨c,hc,h⟩:=oMd h;exact⟨G₀,H₀,G,ρ,c,A,hc,fun G' H' s=>by show Q (!c) H';rw[h];exact k G' H' s⟩⟩
theorem ia (h:DT Γ X a ft):DW Γ X (.BoolOp .And [a] pos) ft:=⟨JN h.1⟩
theorem dn (h:DT Γ X a ft):DW Γ X (.BoolOp .Or [a] pos) ft:=⟨GW h.1⟩
theorem hU (h:DT Γ X a ft) (h':DW Γ X (.BoolOp .And (b::cc) pos) gt):DW Γ X (.BoolOp .And (a::b::cc) pos) (cQ ft gt):=⟨(OW h.1 h'.1).imp fun σ H Q=>by
 rintro⟨G₀,H₀,G,ρ,r,A,h,k⟩;unfold cQ at h;obtain⟨c,hc,h⟩:=oBd h;refine⟨G₀,H₀,G,ρ,c,A,hc,fun G1 H1 s1=>?_⟩;cases c with
 |true=>exact mr ⟨G₀,H₀,G1,ρ,r,A.step s1,by simpa using h,fun G' H' s=>k G' H' (s1.trans s)⟩
 |false=>
  rw[qZ qt] at h;cases h;exact m6 (k _ _ s1)⟩
theorem cW (h:DT Γ X a ft) (h':DW Γ X (.BoolOp .Or (b::cc) pos) gt):DW Γ X (.BoolOp .Or (a::b::cc) pos) (orT ft gt):=⟨(M8 h.1 h'.1).imp fun σ H Q=>by
 rintro⟨G₀,H₀,G,ρ,r,A,h,k⟩;unfold orT at h;obtain⟨c,hc,h⟩:=oBd h;refine⟨G₀,H₀,G,ρ,c,A,hc,fun G1 H1 s1=>?_⟩;cases c with
 |false=>exact m6 ⟨G₀,H₀,G1,ρ,r,A.step s1,by simpa using h,fun G' H' s=>k G' H' (s1.trans s)⟩
 |true=>
  rw[qY rfl] at h;cases h;exact mr (k _ _ s1)⟩
noncomputable def cO (fa fb:FE):FE:=fun ρ=>(fa ρ).bind fun d=>match d with
 |.bl ah=>fb ρ
 |.bl ao=>aa (.bl ao)
 |_=>ab
noncomputable def orD (fa fb:FE):FE:=fun ρ=>(fa ρ).bind fun d=>match d with
 |.bl ah=>aa (.bl ah)
 |.bl ao=>fb ρ
 |_=>ab
noncomputable def tp (fa:FE):FE:=fun ρ=>(fa ρ).bind fun d=>match d with
 |.bl b=>aa (.bl (!b))
 |_=>ab
theorem fJ {op} (h:DE Γ X a fa):DE Γ X (.BoolOp op [a] pos) fa:=⟨LH h.1⟩
theorem eO (ha:DE Γ X a fa) (hb:DE Γ X (.BoolOp .And (b::cc) pos) fb):DE Γ X (.BoolOp .And (a::b::cc) pos) (cO fa fb):=⟨(Go ha.1 hb.1).imp fun σ H Q=>by
 rintro⟨G₀,H₀,G,ρ,d,A,h,k⟩;unfold cO at h;obtain⟨x,hx,h⟩:=oBd h;refine⟨G₀,H₀,G,ρ,x,A,hx,fun v G1 H1 s1 r1=>?_⟩;split at h
 .cases r1.bl_inv;exact⟨ah,rfl,mr ⟨G₀,H₀,G1,ρ,d,A.step s1,h,fun w G' H' s r=>k w G' H' (s1.trans s) r⟩⟩
 .cases r1.bl_inv;cases h;exact⟨ao,rfl,m6 (k _ G1 H1 s1 (.bl _))⟩
 .cases h⟩
theorem Kd (ha:DE Γ X a fa) (hb:DE Γ X (.BoolOp .Or (b::cc) pos) fb):DE Γ X (.BoolOp .Or (a::b::cc) pos) (orD fa fb):=⟨(H0 ha.1 hb.1).imp fun σ H Q=>by
 rintro⟨G₀,H₀,G,ρ,d,A,h,k⟩;unfold orD at h;obtain⟨x,hx,h⟩:=oBd h;refine⟨G₀,H₀,G,ρ,x,A,hx,fun v G1 H1 s1 r1=>?_⟩;split at h
 .cases r1.bl_inv;cases h;exact⟨ah,rfl,mr (k _ G1 H1 s1 (.bl _))⟩
 .cases r1.bl_inv;exact⟨ao,rfl,m6 ⟨G₀,H₀,G1,ρ,d,A.step s1,h,fun w G' H' s r=>k w G' H' (s1.trans s) r⟩⟩
 .cases h⟩
theorem MF (ha:DE Γ X a fa):DE Γ X (.UnaryOp .Not a pos) (tp fa):=⟨(Lj ha.1).imp fun σ H Q=>by
 rintro⟨G₀,H₀,G,ρ,d,A,h,k⟩;unfold tp at h;obtain⟨x,hx,h⟩:=oBd h;refine⟨G₀,H₀,G,ρ,x,A,hx,fun v G1 H1 s1 r1=>?_⟩;split at h
 .cases r1.bl_inv;cases h;exact⟨_,rfl,k _ G1 H1 s1 (.bl _)⟩
 .cases h⟩
noncomputable def ak:FA:=fun _=>aa []
noncomputable def ae (fa:FE) (fr:FA):FA:=fun ρ=>(fa ρ).bind fun x=>(fr ρ).map (x::·)
theorem aw:DA Γ X [] ak:=⟨jw.imp fun σ H Q=>by rintro⟨G₀,H₀,G,ρ,d,A,h,k⟩;cases h;exact k _ G H (.refl A.gh) .nil⟩
theorem ai (ha:DE Γ X e fa) (hr:DA Γ X es fr) (hs:a8 (e::es) X.env=(ao,eval e X.env)::a8 es X.env:=by rfl):DA Γ X (e::es) (ae fa fr):=⟨(jx ha.1 hr.1 hs).imp fun σ H Q=>by rintro⟨G₀,H₀,G,ρ,d,A,h,k⟩;unfold ae at h;obtain⟨x,hx,h⟩:=oBd h;obtain⟨xs,hxs,h⟩:=oMd h;subst h;exact⟨G₀,H₀,G,ρ,x,A,hx,fun v G1 H1 s1 r1=>⟨G₀,H₀,G1,ρ,xs,A.step s1,hxs,fun vs G2 H2 s2 r2=>k _ G2 H2 (s1.trans s2) (.cons (r1.mono s2.gg) r2)⟩⟩⟩
noncomputable def szF (fr:FA):FA:=fun ρ=>(fr ρ).bind fun l=>if l.length<=aW then aa l else ab
noncomputable def aI (fr:FA):FE:=fun ρ=>(fr ρ).map D.lst
noncomputable def bc (fr:FA):FE:=fun ρ=>(fr ρ).map D.tup
theorem DO.de (h:DO Γ X e fr):DE Γ X e (aI fr):=⟨h.1.imp fun σ H Q=>by rintro⟨G₀,H₀,G,ρ,d,A,h,k⟩;unfold aI at h;obtain⟨ds,hd,rfl⟩:=oMd h;exact⟨G₀,H₀,G,ρ,ds,A,hd,fun p vs G' H' s hp r=>oG s.gh r (fun w G2 H2 s2 r2=>k w G2 H2 (s.trans s2) r2) p hp⟩⟩
theorem c6 (h:DA Γ X es fr):DO Γ X (.List es pos) (szF fr):=⟨(M0 h.1).imp fun σ H Q=>by
 rintro⟨G₀,H₀,G,ρ,d,A,h,k⟩;unfold szF at h;obtain⟨ds,hd,h⟩:=oBd h;split at h
 .rename_i hz;cases h;exact⟨G₀,H₀,G,ρ,d,A,hd,fun vs G' H' s r=>⟨by rw[r.length];exact hz,fun p hp=>k p vs G' H' s hp r⟩⟩
 .cases h⟩
theorem cM {x1} (h:DA Γ X es fr):DE Γ X (.Tuple es x1 pos) (bc (szF fr)):=⟨(OU h.1).imp fun σ H Q=>by
 rintro⟨G₀,H₀,G,ρ,d,A,h,k⟩;unfold bc szF at h;obtain⟨ds',hd',rfl⟩:=oMd h;obtain⟨ds,hd,h⟩:=oBd hd';split at h
 .rename_i hz;cases h;exact⟨G₀,H₀,G,ρ,ds',A,hd,fun vs G' H' s r=>⟨by rw[r.length];exact hz,wZ s.gh r fun w G2 H2 s2 r2=>k w G2 H2 (s.trans s2) r2⟩⟩
 .cases h⟩
noncomputable def xY (Γ:Cn) (K:bu) (g:ac D->ar D) (r:ac V->Hp->VK->Prop):Prop:=
 ∀{G H vs ds z},bT G H->Reps Γ K G vs ds->g ds=aa z->∀Q:VK,(∀w G' H',Step G H G' H'->Rep Γ K G' w z->Q w H')->r vs H Q
noncomputable def cF (g:ac D->ar D) (fr:FA):FE:=fun ρ=>(fr ρ).bind g
theorem TD.call {g:ac D->ar D} {r:ac V->Hp->VK->Prop} (hr:xY Γ X.K g r):∀σ H Q,TD Γ X.K (cF g fr) σ H Q->tCB r (TDa Γ X.K fr) σ H Q:=by rintro σ H Q ⟨G₀,H₀,G,ρ,d,A,h,k⟩;unfold cF at h;obtain⟨ds,hd,h⟩:=oBd h;exact⟨G₀,H₀,G,ρ,ds,A,hd,fun vs G1 H1 s1 r1=>hr s1.gh r1 h Q fun w G' H' s r=>k w G' H' (s1.trans s) r⟩
structure BltD (Γ:Cn) (X:Cx) (id:dq) (g:ac D->ar D):Prop where
 ex:∃r,eE X (.builtin id) r/\xY Γ X.K g r
structure TyD (Γ:Cn) (X:Cx) (id:dq) (g:ac D->ar D):Prop where
 ex:∃r,eE X (.type id) r/\xY Γ X.K g r
theorem b8 {id:dq} {g:ac D->ar D} (hc:BltD Γ X id g) (hg:Gl X x) (hm:X.mg x=ab) (hv:lN x=aa (.builtin id)) (ha:DA Γ X (e::es) fr) (hn:x≠"__name__":=by decide) (hdb:.(G)=ao:=by decide)
  (he:a8 (e::es) X.env=(ao,eval e X.env)::a8 es X.env:=by rfl) (hpl:(cN pos (a8 es X.env)).any (·.1)=ao:=by rfl):DE Γ X .(as) (cF g fr):=⟨by
 obtain⟨r,h1,h2⟩:=hc.ex;exact(tF h1 hg hm hv ha.1 hn hdb he hpl).imp (TD.call h2)⟩
theorem hG {id:dq} {g:ac D->ar D} (hc:TyD Γ X id g) (hg:Gl X x) (hm:X.mg x=ab) (hv:lN x=aa (.type id)) (ha:DA Γ X (e::es) fr) (hn:x≠"__name__":=by decide) (hdb:.(G)=ao:=by decide)
  (he:a8 (e::es) X.env=(ao,eval e X.env)::a8 es X.env:=by rfl) (hpl:(cN pos (a8 es X.env)).any (·.1)=ao:=by rfl):DE Γ X .(as) (cF g fr):=⟨by
 obtain⟨r,h1,h2⟩:=hc.ex;exact(sV h1 hg hm hv ha.1 hn hdb he hpl).imp (TD.call h2)⟩
theorem kF {n:dq} (hg:Gl X x) (hm:X.mg x=ab) (hv:lN x=aa (.type n)) (hn:x≠"__name__":=by decide) (hd:.(G)=ao:=by decide):DE Γ X (.Name x pos) (vC (.ty n)):=TD.const (fun _=>.ty n) (HJ hg hm hv rfl hn hd)
theorem Reps.one (r:Reps Γ K G vs [d]):∃v,vs=[v]/\Rep Γ K G v d:=by
 cases r with
 |cons h t=>cases t;exact⟨_,rfl,h⟩
theorem Reps.two {d':D} (r:Reps Γ K G vs [d,d']):∃v u,vs=[v,u]/\Rep Γ K G v d/\Rep Γ K G u d':=by
 cases r with
 |cons h t=>cases t with
  |cons h2 t2=>cases t2;exact⟨_,_,rfl,h,h2⟩
noncomputable def tN:ac D->ar D
 |[.int i]=>aa (.int (if i<0 then -i else i))
 |_=>ab
theorem KR:BltD Γ X "abs" tN:=⟨_,Nl,fun {G H vs ds z} gh r h Q k=>by unfold tN at h;split at h<;>cases h;obtain⟨v,rfl,r1⟩:=r.one;cases r1.int_inv;exact⟨_,rfl,k _ G H (.refl gh) (.int _)⟩⟩
noncomputable def iE:ac D->ar D
 |[.int i,.int j]=>aa (.int (if j > i then j else i))
 |_=>ab
theorem xm (hc:X.calm=ah):BltD Γ X "max" iE:=⟨_,JX hc,fun {G H vs ds z} gh r h Q k=>by unfold iE at h;split at h<;>cases h;obtain⟨v,u,rfl,r1,r2⟩:=r.two;cases r1.int_inv;cases r2.int_inv;exact⟨_,_,rfl,k _ G H (.refl gh) (.int _)⟩⟩
noncomputable def io:ac D->ar D
 |[.int i,.int j]=>aa (.int (if j<i then j else i))
 |_=>ab
theorem uA (hc:X.calm=ah):BltD Γ X "min" io:=⟨_,Oi hc,fun {G H vs ds z} gh r h Q k=>by unfold io at h;split at h<;>cases h;obtain⟨v,u,rfl,r1,r2⟩:=r.two;cases r1.int_inv;cases r2.int_inv;exact⟨_,_,rfl,k _ G H (.refl gh) (.int _)⟩⟩
noncomputable def b9:ac D->ar D
 |[.str x]=>if x.length<=aW then aa (.int (x.length:al)) else ab
 |[.lst l]=>aa (.int (l.length:al))
 |[.tup l]=>aa (.int (l.length:al))
 |[.scr l]=>aa (.int (l.length:al))
 |_=>ab
theorem fA:BltD Γ X "len" b9:=⟨_,Pn,fun {G H vs ds z} gh r h Q k=>by
 unfold b9 at h;split at h
 .split at h
  .cases h;obtain⟨v,rfl,r1⟩:=r.one;cases r1.str_inv;exact⟨_,_,rfl,⟨by assumption,rfl⟩,k _ G H (.refl gh) (.int _)⟩
  .cases h
 .cases h;obtain⟨v,rfl,r1⟩:=r.one;obtain⟨a,vs,rfl,ha,rv⟩:=r1.lst_inv;exact⟨_,_,rfl,.inl ⟨vs,.inl (.inl (gh _ _ ha)),rfl⟩,k _ G H (.refl gh) (by rw[rv.length];exact .int _)⟩
 .cases h;obtain⟨v,rfl,r1⟩:=r.one;obtain⟨a,vs,rfl,ha,rv⟩:=r1.tup_inv;exact⟨_,_,rfl,.inr ⟨vs,.inl (.inl (gh _ _ ha)),rfl⟩,k _ G H (.refl gh) (by rw[rv.length];exact .int _)⟩
 .cases h;obtain⟨v,rfl,r1⟩:=r.one;obtain⟨a,rfl,ha⟩:=r1.scr_inv;exact⟨_,_,rfl,.inl ⟨_,gh.seq ha,rfl⟩,k _ G H (.refl gh) (by rw[qg];exact .int _)⟩
 .cases h⟩
noncomputable def tyD:D->ar dq
 |.non=>aa "NoneType"
 |.bl _=>aa "bool"
 |.int _=>aa "int"
 |.str _=>aa "str"
 |.lst _=>aa "list"
 |.tup _=>aa "tuple"
 |.dk _=>aa "dict"
 |.dt _=>aa "dict"
 |_=>ab
noncomputable def gw (t c:dq):ar aQ:=if (lM t==lM c)=ah then aa ah else if PySem.W.kitMeta c=ah then sx (fun x=>x.contains (lM c)) (PySem.fastBuiltinMro t) else ab
noncomputable def dO:ac D->ar D
 |[d,.ty c]=>(tyD d).bind fun t=>(gw t c).map D.bl
 |_=>ab
theorem HD {t:dq} (gh:bT G H) (r:Rep Γ K G v d) (h:tyD d=aa t):TyOf K H v (.type t):=by
 unfold tyD at h;split at h<;>cases h
 .cases r.non_inv;exact .non
 .cases r.bl_inv;exact .bl _
 .cases r.int_inv;exact .int _
 .cases r.str_inv;exact .str _
 .obtain⟨a,vs,rfl,ha,_⟩:=r.lst_inv;exact .lst (gh _ _ ha)
 .obtain⟨a,vs,rfl,ha,_⟩:=r.tup_inv;exact .tup (gh _ _ ha)
 .cases r with
  |dk h _ _=>exact .dK (gh _ _ h)
 .cases r with
  |dt h _ _=>exact .dT (gh _ _ h)
theorem ki:BltD Γ X "isinstance" dO:=by
 refine⟨fun vs H Q=>∃v t c b,vs=[v,.ty c]/\TyOf X.K H v (.type t)/\QV X.K (.type t) (.type c)=aa b/\Q (.bl b) H,?_,?_⟩
 .intro pins s σ H xs us Q I r h;obtain⟨v,t,c,b,rfl,ty,hk,q⟩:=h;obtain⟨u,w',rfl,r1,r2⟩:=xh r;cases r2;exact MG I r1 ty hk fun tk=>⟨.bl b,H,I.tok tk,rfl,q⟩
 .intro G H vs ds z gh r h Q k;unfold dO at h;split at h
  .obtain⟨t,ht,h⟩:=oBd h;obtain⟨b,hb,rfl⟩:=oMd h;obtain⟨v,u,rfl,r1,r2⟩:=r.two;cases r2;exact⟨v,t,_,b,rfl,HD gh r1 ht,hb,k _ G H (.refl gh) (.bl _)⟩
  .cases h
end
variable {β:Type} {fo:FE}
section
variable {a:Expr}
theorem Reps.atI {K:bu} {G:Hp} {vs:ac V} {ds:ac D} {i:ag} {d:D} (r:Reps Γ K G vs ds) (h:L2.atI ds i=aa d):∃v,L2.atI vs i=aa v/\Rep Γ K G v d:=by
 unfold L2.atI at h ⊢;rw[r.length];cases e:ixN ds.length i with
 |none=>rw[e] at h;cases h
 |some j=>
  rw[e] at h;obtain⟨v,h1,h2⟩:=r.get (i:=j) (d:=d) h;exact⟨v,h1,h2⟩
theorem Qw (g:α->β) (xs:ac α) (i:ag):L2.atI (xs.map g) i=(L2.atI xs i).map g:=by
 unfold L2.atI;rw[qg];cases ixN xs.length i with
 |none=>rfl
 |some j=>simp
noncomputable def ixD:D->D->ar D
 |.lst l,.int i=>atI l i
 |.tup l,.int i=>atI l i
 |.scr l,.int i=>(atI l i).map D.int
 |.str x,.int i=>if x.length<=aW then (atI x.cps.toList i).map fun c=>D.str ⟨#[c]⟩ else ab
 |_,_=>ab
theorem JF :gC Γ K ixD (rIx K):=by
 intro G H v u x y z gh r1 r2 h Q k;unfold ixD at h;split at h
 .obtain⟨a,vs,rfl,ha,rv⟩:=r1.lst_inv;cases r2.int_inv;obtain⟨w,hw,rw'⟩:=rv.atI h;exact .inl ⟨a,vs,_,w,rfl,rfl,.inl (.inl (gh _ _ ha)),hw,k w G H (.refl gh) rw'⟩
 .obtain⟨a,vs,rfl,ha,rv⟩:=r1.tup_inv;cases r2.int_inv;obtain⟨w,hw,rw'⟩:=rv.atI h;exact .inr (.inl ⟨a,vs,_,w,rfl,rfl,.inl (.inl (gh _ _ ha)),hw,k w G H (.refl gh) rw'⟩)
 .obtain⟨a,rfl,ha⟩:=r1.scr_inv;cases r2.int_inv;obtain⟨n,hn,rfl⟩:=oMd h;exact .inl ⟨a,_,_,.int n,rfl,rfl,gh.seq ha,by rw[Qw,hn];rfl,k _ G H (.refl gh) (.int _)⟩
 .split at h
  .cases r1.str_inv;cases r2.int_inv;obtain⟨n,hn,rfl⟩:=oMd h;exact .inr (.inr ⟨_,_,n,rfl,rfl,by assumption,hn,k _ G H (.refl gh) (.str _)⟩)
  .cases h
 .cases h
theorem aB (ha:DE Γ X a fa) (hb:DE Γ X b fb) (hs:AF b:=by intro _ _;rfl):DE Γ X (.Subscript a b pos) (b2 ixD fa fb):=⟨(No Mq ha.1 hb.1 hs).imp (TD.two JF)⟩
noncomputable def eB (xs:ac α) (lo hi:ar ag):ac α:=(xs.drop (HT.sIx xs.length 0 lo)).take (HT.sIx xs.length xs.length hi-HT.sIx xs.length 0 lo)
theorem Nd (g:α->β) (xs:ac α) (lo hi:ar ag):eB (xs.map g) lo hi=(eB xs lo hi).map g:=by unfold eB;simp
theorem Reps.cut (r:Reps Γ K G vs ds) (lo hi:ar ag):Reps Γ K G (lC vs lo hi) (eB ds lo hi):=by unfold lC eB;rw[r.length];exact(r.drop _).take _
noncomputable def nM (x:aj) (lo hi:ar ag):aj:=⟨(eB x.cps.toList lo hi).toArray⟩
theorem DJ (lo hi:ar ag) (n:al):zA lo hi 1 n=(cV (HT.sIx n n hi-HT.sIx n 0 lo)).map (HT.sIx n 0 lo+·):=by
 rw[←Rb];unfold zA;have h1:∀(o:ar ag) (d:al),d<=n->(match o with|none=>(d:ag)|some i=>if (1:ag) > 0 then max 0 (min (if i<0 then i+(n:ag) else i) n) else max (-1) (min (if i<0 then i+(n:ag) else i) ((n:ag)-1)))=((HT.sIx n d o:al):ag):=fun o d hd=>by
  cases o with
  |none=>simp[HT.sIx]
  |some i=>
   simp only[HT.sIx,show(1:ag) > 0 by decide,cK];by_cases h:i<0
   .simp only[h,cK];omega
   .simp only[h,c9];omega
 have e0:=h1 lo 0 (iK _);have e1:=h1 hi n (qw _);rw[←e0,←e1];rfl
theorem Dx (x:aj) (lo hi:ar ag):Fs x lo hi=nM x lo hi:=by
 have key:(zA lo hi 1 x.length).filterMap (x.cps[·]?)=eB x.cps.toList lo hi:=by rw[DJ,zi];unfold eB;rw[show x.cps.toList.length=x.length by simp[so]]
 unfold Fs nM;split
 .rename_i h;rw[←key];have hl:(zA lo hi 1 x.length).length=x.length:=by simpa using h
  rw[DJ] at hl ⊢;rw[zi];rw[qg,qT] at hl;have hb:HT.sIx x.length x.length hi<=x.length:=by
   cases hi with
   |none=>simp[HT.sIx]
   |some i=>simp only[HT.sIx];split<;>omega
  have h0:HT.sIx x.length 0 lo=0\/x.length=0:=by omega
  have hx:x.cps.toList.length=x.length:=by simp[so]
  have e:(x.cps.toList.drop (HT.sIx x.length 0 lo)).take (HT.sIx x.length x.length hi-HT.sIx x.length 0 lo)=x.cps.toList:=by
   rcases h0 with h0|h0
   .rw[h0,zB];rw[h0] at hl;exact sy .(f)
   .have:x.cps.toList=[]:=List.length_eq_zero_iff.mp .(f);rw[this];simp
  rw[e]
 .rw[key]
noncomputable def pN:bi->ar (ar ag):=fun _=>aa ab
noncomputable def pS (f:FE):bi->ar (ar ag):=fun ρ=>(f ρ).bind fun d=>match d with
 |.int i=>aa (aa i)
 |_=>ab
inductive TDp (Γ:Cn) (K:bu) (f:bi->ar (ar ag)) (σ:St) (H:Hp) (Q:ar ag->Hp->Prop):Prop where
 |mk:∀G₀ H₀ G ρ o,At Γ K G₀ H₀ G H ρ σ->f ρ=aa o->(∀G' H',Step G H G' H'->Q o H')->TDp Γ K f σ H Q
structure DP (Γ:Cn) (X:Cx) (e:ar Expr) (f:bi->ar (ar ag)):Prop where
 out:PO X e (TDp Γ X.K f)
theorem gK:DP Γ X ab pN:=⟨fun pins s σ H Q I ⟨G₀,H₀,G,ρ,o,A,h,k⟩=>by cases h;exact MH pins s σ H Q I (k G H (.refl A.gh))⟩
theorem fX (h:DE Γ X e f):DP Γ X (aa e) (pS f):=⟨fun pins s σ H Q I ⟨G₀,H₀,G,ρ,o,A,q,k⟩=>by unfold pS at q;obtain⟨d,hd,q⟩:=oBd q;split at q<;>cases q;exact P4 h.1 pins s σ H Q I ⟨G₀,H₀,G,ρ,_,A,hd,fun v G' H' s r=>⟨_,r.int_inv,k G' H' s⟩⟩⟩
theorem Iz:SlR X (fun x lo hi H Q=>∃z,x=.str z/\z.length<=aW/\Q (.str (nM z lo hi)) H):=by
 intro pins s σ H x v vl vu lo hi sl Q I rx hs pl pu h;obtain⟨z,rfl,hz,q⟩:=h;obtain⟨t,rfl⟩:=rx;refine⟨"str",_,PySem.F.slot_str_getitem.lookup,vA _ _ _,?_⟩;obtain⟨l,rfl,el⟩:∃l:ar (ag×Tok),vl=partValue l/\l.map (·.1)=lo:=by
  cases pl with
  |none=>exact⟨ab,rfl,rfl⟩
  |int i t=>exact⟨aa (i,t),rfl,rfl⟩
 obtain⟨u,rfl,eu⟩:∃l:ar (ag×Tok),vu=partValue l/\l.map (·.1)=hi:=by
  cases pu with
  |none=>exact⟨ab,rfl,rfl⟩
  |int i t=>exact⟨aa (i,t),rfl,rfl⟩
 refine wpAny_getItem_str_slice (l:=l) (u:=u) (st:=ab) hs rfl ?_;have e:(if ((sx (fun x=>x.fst) (ab:ar (ag×Tok))).getD 1==1 && (slicePicked z l u ab).length==z.length)=ah then z else {cps:=(List.filterMap (fun x=>z.cps[x]?) (slicePicked z l u ab)).toArray})=nM z lo hi:=by
  have e0:Fs z (l.map (·.1)) (u.map (·.1))=nM z lo hi:=by rw[el,eu];exact Dx z lo hi
  exact e0
 refine post_val_or_str ⟨?_,fun t' k=>?_⟩
 .rw[e,←Dx];exact qL (Txt.slice_le z _ _) hz
 .rw[e];exact⟨.str _,H,I.tok k,⟨_,rfl⟩,q⟩
noncomputable def oY (lo hi:ar ag):D->ar D
 |.lst l=>aa (.lst (eB l lo hi))
 |.scr l=>aa (.lst ((eB l lo hi).map D.int))
 |.tup l=>if HT.sIx l.length 0 lo=0/\HT.sIx l.length l.length hi=l.length then ab else aa (.tup (eB l lo hi))
 |.str x=>if x.length<=aW then aa (.str (nM x lo hi)) else ab
 |_=>ab
noncomputable def slF (f:FE) (fl fh:bi->ar (ar ag)):FE:=fun ρ=>(f ρ).bind fun d=>(fl ρ).bind fun l=>(fh ρ).bind fun h=>oY l h d
variable {fl fh:bi->ar (ar ag)} {lo hi:ar Expr}
theorem gz (he:DE Γ X e f) (hl:DP Γ X lo fl) (hh:DP Γ X hi fh):DE Γ X (.Subscript e (.Slice lo hi ab p2) pos) (slF f fl fh):=⟨(Nz (Hh.or (Hf.or Iz)) he.1 hl.1 hh.1).imp fun σ H Q=>by
 rintro⟨G₀,H₀,G,ρ,d,A,h,k⟩;unfold slF at h;obtain⟨x,hx,h⟩:=oBd h;obtain⟨l,hl,h⟩:=oBd h;obtain⟨u,hu,h⟩:=oBd h;refine⟨G₀,H₀,G,ρ,x,A,hx,fun v G1 H1 s1 r1=>⟨G₀,H₀,G1,ρ,l,A.step s1,hl,fun G2 H2 s2=>⟨G₀,H₀,G2,ρ,u,(A.step s1).step s2,hu,fun G3 H3 s3=>?_⟩⟩⟩;have s:=(s1.trans s2).trans s3;have r:=r1.mono (s2.gg.trans s3.gg);have gh:=s3.gh;unfold oY at h;split at h
 .cases h;obtain⟨a,vs,rfl,ha,rv⟩:=r.lst_inv;exact .inl ⟨a,vs,rfl,.inl (.inl (gh _ _ ha)),oG gh (rv.cut l u) fun w G4 H4 s4 r4=>k w G4 H4 (s.trans s4) r4⟩
 .cases h;obtain⟨a,rfl,ha⟩:=r.scr_inv;refine .inl ⟨a,_,rfl,gh.seq ha,oG gh ?_ fun w G4 H4 s4 r4=>k w G4 H4 (s.trans s4) r4⟩;show Reps Γ X.K G3 (eB _ l u) _;rw[Nd];exact Reps.ints _
 .split at h
  .cases h
  .rename_i hw;cases h;obtain⟨a,vs,rfl,ha,rv⟩:=r.tup_inv;exact .inr (.inl ⟨a,vs,rfl,.inl (.inl (gh _ _ ha)),by rw[rv.length];exact hw,wZ gh (rv.cut l u) fun w G4 H4 s4 r4=>k w G4 H4 (s.trans s4) r4⟩)
 .split at h
  .cases h;cases r.str_inv;exact .inr (.inr ⟨_,rfl,by assumption,k _ _ _ s (.str _)⟩)
  .cases h
 .cases h⟩
structure MtD (Γ:Cn) (X:Cx) (T id:dq) (g:D->ac D->ar D):Prop where
 ex:∃r,MtR X id r/\∀{G H v x vs ds z},bT G H->Rep Γ X.K G v x->Reps Γ X.K G vs ds->g x ds=aa z->∀Q:VK,(∀w G' H',Step G H G' H'->Rep Γ X.K G' w z->Q w H')->r v vs H Q
 ty:∀{G H v x ds z},bT G H->Rep Γ X.K G v x->g x ds=aa z->tyV X.K T v H
noncomputable def mF (g:D->ac D->ar D) (f:FE) (fr:FA):FE:=fun ρ=>(f ρ).bind fun d=>(fr ρ).bind fun ds=>g d ds
theorem HB {id:dq} {g:D->ac D->ar D} (pa:PlainAttrs T) (slot:vG T name id) (hty:typeOf (.builtin id)=bG (.type "method_descriptor")) (hm:MtD Γ X T id g) (ho:DE Γ X o fo) (ha:DA Γ X (e::es) fr)
  (hbase:ig o name X.env (eval o X.env)=eval o X.env:=by rfl)
  (hfew:((cN cpos (a8 (e::es) X.env)).all (fun x=>!x.1) && (ji cpos (jj [] X.env)).all (fun x=>x.1.isSome)
   && decide ((e::es).length+([]:ac jo).length+(if ([]:ac jo).isEmpty then 0 else 1)<30))=ah:=by rfl)
  (hline:(apos.endLine==cpos.line)=ah:=by rfl) (hs:a8 (e::es) X.env=(ao,eval e X.env)::a8 es X.env:=by rfl) (hplain:(cN cpos (a8 es X.env)).any (·.1)=ao:=by rfl) :
  DE Γ X (.Call (.Attribute o name apos) (e::es) [] cpos) (mF g fo fr):=⟨by
 obtain⟨r,h1,h2⟩:=hm.ex;refine(wQ pa slot hty h1 ho.1 ha.1 hbase hfew hline hs hplain).imp fun σ H Q=>?_;rintro⟨G₀,H₀,G,ρ,d,A,h,k⟩;unfold mF at h;obtain⟨x,hx,h⟩:=oBd h;obtain⟨ds,hd,h⟩:=oBd h;exact⟨G₀,H₀,G,ρ,x,A,hx,fun v G1 H1 s1 r1=>⟨hm.ty s1.gh r1 h,G₀,H₀,G1,ρ,ds,A.step s1,hd,fun vs G2 H2 s2 r2=>h2 s2.gh (r1.mono s2.gg) r2 h Q fun w G3 H3 s3 r3=>k w G3 H3 ((s1.trans s2).trans s3) r3⟩⟩⟩
noncomputable def jS:ac D->ar (ac aj)
 |[]=>aa []
 |.str x::r=>(jS r).map (x::·)
 |_::_=>ab
noncomputable def S1:D->ac D->ar D
 |.str sep,[.lst l]=>(jS l).bind fun ys=>if (ys.map (·.length)).sum+ys.length*sep.length<=16777216 then aa (.str (Txt.join sep ys)) else ab
 |_,_=>ab
theorem wO {K:bu} {G:Hp}:∀{vs:ac V} {ds:ac D} {ys:ac aj},Reps Γ K G vs ds->jS ds=aa ys->vs=ys.map V.str
 |_,[],ys,r,h=>by cases r;cases h;rfl
 |_,d::ds,ys,.cons h1 h2,h=>by
  cases d with
  |str x=>
   obtain⟨zs,hz,rfl⟩:=oMd (show(jS ds).map (x::·)=aa ys from h);rw[h1.str_inv,wO h2 hz];rfl
  |_=>cases h
theorem Ed:∀{ys:ac aj} {us:ac Value},bO (ys.map V.str) us->StrsAre us ys
 |[],_,r=>by rw[qN] at r;cases r;exact .nil
 |y::ys,_,r=>by
  rw[qo] at r;cases r with
  |cons r1 r2=>
   obtain⟨t,e⟩:=r1;subst e;exact .cons y t (Ed r2)
noncomputable def iO:ac D->ar (ac aQ)
 |[]=>aa []
 |.bl x::r=>(iO r).map (x::·)
 |_::_=>ab
theorem xi {K:bu} {G:Hp}:∀{vs:ac V} {ds:ac D} {ys:ac aQ},Reps Γ K G vs ds->iO ds=aa ys->vs=ys.map V.bl
 |_,[],ys,r,h=>by cases r;cases h;rfl
 |_,d::ds,ys,.cons h1 h2,h=>by
  cases d with
  |bl x=>
   obtain⟨zs,hz,rfl⟩:=oMd (show(iO ds).map (x::·)=aa ys from h);rw[h1.bl_inv,xi h2 hz];rfl
  |_=>cases h
noncomputable def fK:ac D->ar D
 |[.lst l]=>(iO l).map fun bs=>D.bl (bs.all id)
 |_=>ab
noncomputable def jD:ac D->ar D
 |[.lst l]=>(iO l).map fun bs=>D.bl (bs.any id)
 |_=>ab
theorem ym:∀{bs:ac aQ} {us:ac Value},bO (bs.map V.bl) us->us=bs.map jV
 |[],_,r=>by rw[qN] at r;cases r;rfl
 |y::ys,_,r=>by
  rw[qo] at r;cases r with
  |cons r1 r2=>cases r1;rw[ym r2];rfl
theorem Ip (bs:ac aQ):(cV bs.length).all (fun i=>bs.getD i ao)=bs.all id:=by
 rw[jh,sA,sA];constructor
 .intro h x hx;obtain⟨i,hi,e⟩:=zC.mp hx;have:=h i (fB.mpr hi);simp[pk,hi] at this;rw[←e];exact this
 .intro h i hi;have hi':=fB.mp hi;have:=h (bs[i]) (pp hi');simp[pk,hi'];exact this
theorem LA (bs:ac aQ):(cV bs.length).any (fun i=>bs.getD i ao)=bs.any id:=by
 rw[jh,lZ,lZ];constructor
 .rintro⟨i,hi,h⟩;have hi':=fB.mp hi;refine⟨bs[i],pp hi',?_⟩;simpa[pk,hi'] using h
 .rintro⟨x,hx,h⟩;obtain⟨i,hi,e⟩:=zC.mp hx;refine⟨i,fB.mpr hi,?_⟩;simp[pk,hi,e];exact h
theorem Cm {bs:ac aQ} :TruthOf prog w A (fun i v=>(bs.map jV).toArray[i]?=aa v) (fun i=>bs.getD i ao):=fun i v s Q E hP hQ=>by
 have hP':(bs.map jV)[i]?=aa v:=by simpa using hP
 rw[ql] at hP';obtain⟨b,hb,rfl⟩:=oMd hP';have:bs.getD i ao=b:=by simp[pk,hb]
 have hQ':Q (bs.getD i ao) s:=hQ;rw[this] at hQ';exact jW hQ'
theorem ip (hc:X.calm=ah):BltD Γ X "all" fK:=by
 refine⟨fun vs H Q=>∃(a:av) (bs:ac aQ),vs=[.ref a]/\H a=aa (.lst (bs.map V.bl))/\Q (.bl (bs.all id)) H,?_,?_⟩
 .intro pins s σ H xs us Q I r h;obtain⟨a,bs,rfl,ha,q⟩:=h;obtain⟨u,rfl,ru⟩:=fu r;cases ru;obtain⟨its,rv,pl,_⟩:=I.list (.inl (.inl ha));have e:=ym rv;subst e;refine call_all_walk (sB pl.isList ?_);have ne:a≠s.heap.objs.size:=by obtain⟨o,_,h1,_⟩:=pl;exact qB (qv h1)
  refine⟨s.heap.objs.size,_,_,_,_,_,fun i=>bs.getD i ao,rfl,vH (A:=X.A.in1) (show X.A.in1.handled=ab from I.ok.hd hc) s.heap.objs.size a ne (bs.map jV).toArray,⟨⟨_,qF _ rfl,rfl,rfl⟩,pl.isList.at fun o q=>qu _ q⟩,Cm,fun h' tk hk=>?_⟩;have e2:(bs.map jV).toArray.size=bs.length:=by simp
  rw[e2,Ip];refine⟨.bl _,H,I.kept fun b o z=>hk b o ?_ (qu _ z),rfl,q⟩;intro z';have:b=s.heap.objs.size:=by simpa using z'
  exact bK (qv z) (by rw[this];exact kL _)
 .intro G H vs ds z gh r h Q k;unfold fK at h;split at h
  .obtain⟨bs,hb,rfl⟩:=oMd h;obtain⟨v,rfl,r1⟩:=r.one;obtain⟨a,ws,rfl,ha,rw'⟩:=r1.lst_inv;refine⟨a,bs,rfl,?_,k _ G H (.refl gh) (.bl _)⟩;rw[←xi rw' hb];exact gh _ _ ha
  .cases h
theorem vZ (hc:X.calm=ah):BltD Γ X "any" jD:=by
 refine⟨fun vs H Q=>∃(a:av) (bs:ac aQ),vs=[.ref a]/\H a=aa (.lst (bs.map V.bl))/\Q (.bl (bs.any id)) H,?_,?_⟩
 .intro pins s σ H xs us Q I r h;obtain⟨a,bs,rfl,ha,q⟩:=h;obtain⟨u,rfl,ru⟩:=fu r;cases ru;obtain⟨its,rv,pl,_⟩:=I.list (.inl (.inl ha));have e:=ym rv;subst e;refine call_any_walk (sB pl.isList ?_);have ne:a≠s.heap.objs.size:=by obtain⟨o,_,h1,_⟩:=pl;exact qB (qv h1)
  refine⟨s.heap.objs.size,_,_,_,_,_,fun i=>bs.getD i ao,rfl,vH (A:=X.A.in1) (show X.A.in1.handled=ab from I.ok.hd hc) s.heap.objs.size a ne (bs.map jV).toArray,⟨⟨_,qF _ rfl,rfl,rfl⟩,pl.isList.at fun o q=>qu _ q⟩,Cm,fun h' tk hk=>?_⟩;have e2:(bs.map jV).toArray.size=bs.length:=by simp
  rw[e2,LA];refine⟨.bl _,H,I.kept fun b o z=>hk b o ?_ (qu _ z),rfl,q⟩;intro z';have:b=s.heap.objs.size:=by simpa using z'
  exact bK (qv z) (by rw[this];exact kL _)
 .intro G H vs ds z gh r h Q k;unfold jD at h;split at h
  .obtain⟨bs,hb,rfl⟩:=oMd h;obtain⟨v,rfl,r1⟩:=r.one;obtain⟨a,ws,rfl,ha,rw'⟩:=r1.lst_inv;refine⟨a,bs,rfl,?_,k _ G H (.refl gh) (.bl _)⟩;rw[←xi rw' hb];exact gh _ _ ha
  .cases h
end
structure Yd (Γ:Cn) (K:bu) (J:It) (G:Hp) (ds:ac D):Prop where
 go:∀(i:al) d G2 H2,ds[i]?=aa d->bT G G2->bT G2 H2->J.go i H2/\∀x H3,J.yld i H2 x H3->∃G3,Step G2 H2 G3 H3/\Rep Γ K G3 x d
 stop:∀G2 H2,bT G G2->bT G2 H2->J.stop ds.length H2
inductive TDi (Γ:Cn) (K:bu) (f:FA) (σ:St) (H:Hp) (R:It->Hp->Prop):Prop where
 |mk:∀G₀ H₀ G ρ ds,At Γ K G₀ H₀ G H ρ σ->f ρ=aa ds->(∀J G' H',Step G H G' H'->Yd Γ K J G' ds->R J H')->TDi Γ K f σ H R
structure DI (Γ:Cn) (X:Cx) (tg e:Expr) (f:FA):Prop where
 out:PI X tg e (TDi Γ X.K f)
theorem PI.imp {t t':TI} (h:PI X tg e t) (i:∀σ H R,t' σ H R->t σ H R):PI X tg e t':=fun pins s σ H R I q=>h pins s σ H R I (i _ _ _ q)
variable {fi:FA} {ts:ac Expr} {gs:FGs} {fe:FE}
section
variable {a:Expr}
theorem MC {a:av} (h:G a=aa (.tup vs)) (r:Reps Γ K G vs ds):Yd Γ K (Itt K a) G ds:=by refine⟨fun i d G2 H2 hd g1 g2=>?_,fun G2 H2 g1 g2=>⟨vs,.inl (.inl (g2 _ _ (g1 _ _ h))),by rw[r.length];exact qw _⟩⟩;obtain⟨v,hv,rv⟩:=r.get hd;refine⟨⟨vs,v,.inl (.inl (g2 _ _ (g1 _ _ h))),hv⟩,fun x H3 ⟨e1,e2⟩=>?_⟩;subst e1;have:=e2 vs (.inl (.inl (g2 _ _ (g1 _ _ h))));rw[hv] at this;cases this;exact⟨G2,.refl g2,rv.mono g1⟩
theorem AB {a:av} (h:SqL K G a vs) (r:Reps Γ K G vs ds):Yd Γ K (Ite K a) G (ds.mapIdx fun i d=>D.tup [.int i,d]):=by refine⟨fun i d G2 H2 hd g1 g2=>?_,fun G2 H2 g1 g2=>⟨vs,g2.seq (g1.seq h),by rw[nC,r.length];exact qw _⟩⟩;rw[Rz] at hd;obtain⟨d',hd',rfl⟩:=oMd hd;obtain⟨v,hv,rv⟩:=r.get hd';refine⟨⟨vs,v,g2.seq (g1.seq h),hv⟩,fun x H3 ⟨T,y,e0,hT,e1,e2⟩=>?_⟩;subst e0;have:=e2 vs (g2.seq (g1.seq h));rw[hv] at this;cases this;subst e1;have s:=Step.new (o:=.tup [.int i,v]) g2 hT;exact⟨_,s,.tup ca (.cons (.int _) (.cons ((rv.mono g1).mono s.gg) .nil))⟩
noncomputable def rS:D->ar (ac D)
 |.lst l=>aa l
 |.tup l=>aa l
 |.scr l=>aa (l.map D.int)
 |_=>ab
noncomputable def itF (f:FE):FA:=fun ρ=>(f ρ).bind rS
theorem JR {l:Expr} {tl:TE} (hl:PE X l tl):PI X tg l (fun σ H R=>tl σ H fun x H1=>(∃a,x=.ref a/\(∃xs,SqL X.K H1 a xs)/\R (Itl X.K a) H1)\/(∃a,x=.ref a/\(∃xs,SqT X.K H1 a xs)/\R (Itt X.K a) H1)):=by
 intro pins s σ H R I h;refine thn (hl pins s σ H _ I h) fun v s1 ⟨x,H1,I1,r1,q1⟩=>?_;rcases q1 with⟨a,e,⟨xs,hq⟩,q⟩|⟨a,e,⟨xs,hq⟩,q⟩
 .subst e;cases r1;obtain⟨its,rv,p,hz⟩:=I1.list hq;refine sB p.isList ?_;refine⟨s1.heap.objs.size,[s1.heap.objs.size],_,_,H1,rfl,I1.kept (t':=s1.toks) fun b o e=>qu _ e,NI a _,⟨_,qF _ rfl,rfl,rfl⟩,fun b hb=>?_,q⟩;have e:b=s1.heap.objs.size:=by simpa using hb
  subst e;exact I1.fpOk (qw _) (I1.hok.fresh (qw _))
 .subst e;cases r1;obtain⟨its,rv,p,hz⟩:=I1.tuple hq;refine wpAny_pyIter_tuple (show s1.heap.IsTuple a its.toArray from p) ?_;refine⟨s1.heap.objs.size,[s1.heap.objs.size],_,_,H1,rfl,I1.kept (t':=s1.toks) fun b o e=>qu _ e,JA a _,⟨_,qF _ rfl,rfl,rfl⟩,fun b hb=>?_,q⟩;have e:b=s1.heap.objs.size:=by simpa using hb
  subst e;exact I1.fpOk (qw _) (I1.hok.fresh (qw _))
theorem bH (h:DE Γ X iter f):DI Γ X tg iter (itF f):=⟨(JR h.1).imp fun σ H R=>by
 rintro⟨G₀,H₀,G,ρ,ds,A,h,k⟩;unfold itF at h;obtain⟨d,hd,h⟩:=oBd h;refine⟨G₀,H₀,G,ρ,d,A,hd,fun v G' H' s r=>?_⟩;unfold rS at h;split at h
 .cases h;obtain⟨a,vs,rfl,ha,rv⟩:=r.lst_inv;refine .inl ⟨a,rfl,⟨vs,.inl (.inl (s.gh _ _ ha))⟩,k _ G' H' s ?_⟩;refine⟨fun i d G2 H2 hd g1 g2=>?_,fun G2 H2 g1 g2=>⟨vs,.inl (.inl (g2 _ _ (g1 _ _ ha))),by rw[rv.length];exact qw _⟩⟩;obtain⟨v,hv,rv'⟩:=rv.get hd;refine⟨⟨vs,v,.inl (.inl (g2 _ _ (g1 _ _ ha))),hv⟩,fun x H3 ⟨e1,e2⟩=>?_⟩;subst e1;have:=e2 vs (.inl (.inl (g2 _ _ (g1 _ _ ha))));rw[hv] at this;cases this;exact⟨G2,.refl g2,rv'.mono g1⟩
 .cases h;obtain⟨a,vs,rfl,ha,rv⟩:=r.tup_inv;exact .inr ⟨a,rfl,⟨vs,.inl (.inl (s.gh _ _ ha))⟩,k _ G' H' s (MC ha rv)⟩
 .rename_i l;cases h;obtain⟨a,rfl,ha⟩:=r.scr_inv;refine .inl ⟨a,rfl,⟨_,s.gh.seq ha⟩,k _ G' H' s ?_⟩;refine⟨fun i d G2 H2 hd g1 g2=>?_,fun G2 H2 g1 g2=>⟨_,g2.seq (g1.seq ha),by simp⟩⟩;rw[ql] at hd;obtain⟨n,hn,rfl⟩:=oMd hd;have hv:(List.map V.int l)[i]?=aa (V.int n):=by rw[ql,hn];rfl
  refine⟨⟨_,_,g2.seq (g1.seq ha),hv⟩,fun x H3 ⟨e1,e2⟩=>?_⟩;subst e1;have:=e2 _ (g2.seq (g1.seq ha));rw[hv] at this;cases this;exact⟨G2,.refl g2,.int _⟩
 .cases h⟩
noncomputable def xg:D->ar (ac D)
 |.str x=>aa (x.cps.toList.map fun c=>D.str ⟨#[c]⟩)
 |_=>ab
noncomputable def itS (f:FE):FA:=fun ρ=>(f ρ).bind xg
theorem MT {n:aj} {q:dD} (h:DE Γ X iter f):DI Γ X (.Name n q) iter (itS f):=⟨(Il h.1).imp fun σ H R=>by
 rintro⟨G₀,H₀,G,ρ,ds,A,h,k⟩;unfold itS at h;obtain⟨d,hd,h⟩:=oBd h;refine⟨G₀,H₀,G,ρ,d,A,hd,fun v G' H' s r=>?_⟩;unfold xg at h;split at h<;>cases h;cases r.str_inv;rename_i x;refine⟨x,rfl,k _ G' H' s ⟨fun i d G2 H2 hd g1 g2=>?_,fun G2 H2 g1 g2=>?_⟩⟩
 .rw[ql] at hd;obtain⟨c,hc,rfl⟩:=oMd hd;have hc':x.cps[i]?=aa c:=by simpa using hc
  refine⟨(gX.mp hc').1,fun y H3 ⟨e1,c2,h2,e2⟩=>?_⟩;subst e1;subst e2;rw[hc'] at h2;cases h2;exact⟨G2,.refl g2,.str _⟩
 .show _=x.cps.size;simp⟩
noncomputable def Be:D->ar (ac D)
 |.lst l=>aa (l.mapIdx fun i d=>D.tup [.int i,d])
 |.scr l=>aa ((l.map D.int).mapIdx fun i d=>D.tup [.int i,d])
 |_=>ab
noncomputable def itE (f:FE):FA:=fun ρ=>(f ρ).bind Be
theorem lF {k1:al} (hg:Gl X "enumerate") (hm:X.mg "enumerate"=ab) (h:DE Γ X a f) (hs:a8 [a] X.env=[(ao,eval a X.env)]:=by rfl) (hs0:a8 ([a]:ac Expr) X.env=(ao,eval a X.env)::a8 [] X.env:=by rfl) :
  DI Γ X (.Tuple elts k1 tpos) (.Call (.Name "enumerate" p) [a] [] pos) (itE f):=⟨(JD hg hm (jx h.1 jw hs0) hs).imp fun σ H R=>by
 rintro⟨G₀,H₀,G,ρ,ds,A,h,k⟩;unfold itE at h;obtain⟨d,hd,h⟩:=oBd h;refine⟨G₀,H₀,G,ρ,d,A,hd,fun v G' H' s r=>?_⟩;unfold Be at h;split at h
 .cases h;obtain⟨a,vs,rfl,ha,rv⟩:=r.lst_inv;exact⟨a,rfl,⟨vs,.inl (.inl (s.gh _ _ ha))⟩,k _ G' H' s (AB (.inl (.inl ha)) rv)⟩
 .cases h;obtain⟨a,rfl,ha⟩:=r.scr_inv;exact⟨a,rfl,⟨_,s.gh.seq ha⟩,k _ G' H' s (AB ha (Reps.ints _))⟩
 .cases h⟩
theorem Em :Yd Γ K (Itr lo n) G ((cV n).map fun i:al=>D.int (lo+i)):=by
 refine⟨fun i d G2 H2 hd g1 g2=>?_,fun G2 H2 g1 g2=>?_⟩
 .rw[ql] at hd;obtain⟨j,hj,rfl⟩:=oMd hd;have hi:i<n:=by have:=(di.mp hj).1;simpa using this
  have e:j=i:=by simpa[hi] using hj.symm
  subst e;refine⟨hi,fun x H3 ⟨e1,e2⟩=>?_⟩;subst e1;subst e2;exact⟨G2,.refl g2,.int _⟩
 .show n<=_;simp
noncomputable def gq:ac D->ar (ac D)
 |[.int j]=>if -(2 ^ 62)<=j/\j<2 ^ 62 then aa ((cV j.toNat).map fun i:al=>D.int (0+i)) else ab
 |_=>ab
noncomputable def ly:ac D->ar (ac D)
 |[.int i,.int j]=>if -(2 ^ 62)<=i/\i<2 ^ 62 /\ -(2 ^ 62)<=j/\j<2 ^ 62 then aa ((cV (j-i).toNat).map fun k:al=>D.int (i+k)) else ab
 |_=>ab
noncomputable def itR (g:ac D->ar (ac D)) (fr:FA):FA:=fun ρ=>(fr ρ).bind g
theorem oE (hg:Gl X "range") (hm:X.mg "range"=ab) (h:DA Γ X [a] fr) (hs:a8 [a] X.env=[(ao,eval a X.env)]:=by rfl):DI Γ X tg (.Call (.Name "range" p) [a] [] pos) (itR gq fr):=⟨(PP hg hm h.1 hs).imp fun σ H R=>by
 rintro⟨G₀,H₀,G,ρ,ds,A,h,k⟩;unfold itR at h;obtain⟨d,hd,h⟩:=oBd h;refine⟨G₀,H₀,G,ρ,d,A,hd,fun v G' H' s r=>?_⟩;unfold gq at h;split at h
 .split at h
  .rename_i hz;cases h;obtain⟨v,rfl,r1⟩:=r.one;cases r1.int_inv;exact⟨_,rfl,hz.1,hz.2,k _ G' H' s Em⟩
  .cases h
 .cases h⟩
theorem Ay (hg:Gl X "range") (hm:X.mg "range"=ab) (h:DA Γ X [a,b] fr) (hs:a8 [a,b] X.env=[(ao,eval a X.env),(ao,eval b X.env)]:=by rfl) (hs2:a8 [b] X.env=[(ao,eval b X.env)]:=by rfl):DI Γ X tg (.Call (.Name "range" p) [a,b] [] pos) (itR ly fr):=⟨(LK hg hm h.1 hs hs2).imp fun σ H R=>by
 rintro⟨G₀,H₀,G,ρ,ds,A,h,k⟩;unfold itR at h;obtain⟨d,hd,h⟩:=oBd h;refine⟨G₀,H₀,G,ρ,d,A,hd,fun v G' H' s r=>?_⟩;unfold ly at h;split at h
 .split at h
  .rename_i hz;cases h;obtain⟨v,u,rfl,r1,r2⟩:=r.two;cases r1.int_inv;cases r2.int_inv;exact⟨_,_,rfl,hz,k _ G' H' s Em⟩
  .cases h
 .cases h⟩
noncomputable abbrev FG:=D->bi->ar bi
noncomputable abbrev FGs:=ac D->bi->ar bi
inductive TDg (Γ:Cn) (K:bu) (g:FG) (v:V) (σ:St) (H:Hp) (Q:St->Hp->Prop):Prop where
 |mk:∀G₀ H₀ G ρ d ρ',At Γ K G₀ H₀ G H ρ σ->Rep Γ K G v d->g d ρ=aa ρ'->(∀σ',At Γ K G₀ H₀ G H ρ' σ'->Q σ' H)->TDg Γ K g v σ H Q
inductive TDgs (Γ:Cn) (K:bu) (g:FGs) (vs:ac V) (σ:St) (H:Hp) (Q:St->Hp->Prop):Prop where
 |mk:∀G₀ H₀ G ρ ds ρ',At Γ K G₀ H₀ G H ρ σ->Reps Γ K G vs ds->g ds ρ=aa ρ'->(∀σ',At Γ K G₀ H₀ G H ρ' σ'->Q σ' H)->TDgs Γ K g vs σ H Q
structure DG (Γ:Cn) (X:Cx) (tg:Expr) (g:FG):Prop where
 pg:PG X tg (TDg Γ X.K g)
 no:∀d ρ ρ',g d ρ=aa ρ'->gZ ρ->gZ ρ'
structure DGs (Γ:Cn) (X:Cx) (ts:ac Expr) (g:FGs):Prop where
 pg:PGs X ts (TDgs Γ X.K g)
 no:∀d ρ ρ',g d ρ=aa ρ'->gZ ρ->gZ ρ'
theorem PG.imp {t t':TG} (h:PG X tg t) (i:∀v σ H Q,t' v σ H Q->t v σ H Q):PG X tg t':=fun pins s σ H v u Q I r q=>h pins s σ H v u Q I r (i _ _ _ _ q)
theorem PGs.imp {t t':TGs} (h:PGs X ts t) (i:∀v σ H Q,t' v σ H Q->t v σ H Q):PGs X ts t':=fun pins s σ H v u Q I r q=>h pins s σ H v u Q I r (i _ _ _ _ q)
noncomputable def aA (i:al):FG:=fun d ρ=>aa (ρ.set i (aa (.sh d)))
theorem PQ (h:gZ ρ):gZ (ρ.set i (aa (.sh d))):=fun j ds e=>by
 by_cases hj:j=i
 .subst hj;rw[List.getElem?_set,qY rfl] at e;split at e<;>cases e;exact⟨_,rfl⟩
 .rw[ni (dI hj)] at e;exact h j ds e
theorem aP (i:al) (hN:X.N.Nodup) (hi:X.N[i]?=aa x:=by rfl) (hx:Loc X.env.scope x:=by first|exact dc rfl|exact cH rfl) (hf:X.fn x=ah\/X.env.scope.names.lookup x=aa .local:=by first|exact .inl rfl|exact .inr rfl|assumption):DG Γ X (.Name x pos) (aA i):=by
 refine⟨(Oe hN hi hx hf).imp fun v σ H Q=>?_,fun d ρ ρ' e h=>?_⟩
 .rintro⟨G₀,H₀,G,ρ,d,ρ',A,r,h,k⟩;cases h;exact k _ (A.setSh r)
 .cases e;exact PQ h
noncomputable def bZ:FGs:=fun ds ρ=>match ds with
 |[]=>aa ρ
 |_=>ab
noncomputable def aT (g:FG) (gs:FGs):FGs:=fun ds ρ=>match ds with
 |d::r=>(g d ρ).bind fun ρ'=>gs r ρ'
 |_=>ab
theorem dw:DGs Γ X [] bZ:=by
 refine⟨NB.imp fun vs σ H Q=>?_,fun d ρ ρ' e h=>?_⟩
 .rintro⟨G₀,H₀,G,ρ,ds,ρ',A,r,h,k⟩;unfold bZ at h;split at h<;>cases h;cases r;exact⟨rfl,k σ A⟩
 .unfold bZ at e;split at e<;>cases e;exact h
theorem bY {g:FG} (h1:DG Γ X e g) (h2:DGs Γ X ts gs) (hs:(jY (e::ts) X.env).map (·.2)=kN e X.env::(jY ts X.env).map (·.2):=by rfl):DGs Γ X (e::ts) (aT g gs):=by
 refine⟨(KW h1.pg h2.pg hs).imp fun vs σ H Q=>?_,fun ds ρ ρ' e h=>?_⟩
 .rintro⟨G₀,H₀,G,ρ,ds,ρ',A,r,h,k⟩;unfold aT at h;split at h
  .obtain⟨ρ1,h1,h⟩:=oBd h;cases r with
   |cons r1 r2=>exact⟨_,_,rfl,G₀,H₀,G,ρ,_,ρ1,A,r1,h1,fun σ1 A1=>⟨G₀,H₀,G,ρ1,_,ρ',A1,r2,h,k⟩⟩
  .cases h
 .unfold aT at e;split at e
  .obtain⟨ρ1,e1,e⟩:=oBd e;exact h2.no _ _ _ e (h1.no _ _ _ e1 h)
  .cases e
noncomputable def b6 (n:al) (gs:FGs):FG:=fun d ρ=>match d with
 |.tup ds=>if ds.length=n then gs ds ρ else ab
 |_=>ab
theorem dy {k:al} (hc:X.calm=ah) (h:DGs Γ X ts gs) (hn:(jY ts X.env).length=n:=by rfl) (hst:(jY ts X.env).findIdx? (·.1)=ab:=by rfl):DG Γ X (.Tuple ts k pos) (b6 n gs):=by
 refine⟨(Pw hc h.pg hn hst).imp fun v σ H Q=>?_,fun ds ρ ρ' e q=>?_⟩
 .rintro⟨G₀,H₀,G,ρ,d,ρ',A,r,h,k⟩;unfold b6 at h;split at h
  .split at h
   .rename_i hl;obtain⟨a,vs,rfl,ha,rv⟩:=r.tup_inv;exact⟨a,vs,rfl,.inl (.inl (A.gh _ _ ha)),by rw[rv.length];exact hl,G₀,H₀,G,ρ,_,ρ',A,rv,h,k⟩
   .cases h
  .cases h
 .unfold b6 at e;split at e
  .split at e
   .exact h.no _ _ _ e q
   .cases e
  .cases e
noncomputable def gv (g:FG) (ft:FT) (fe:FE):ac D->bi->ar (ac D)
 |[],_=>aa []
 |x::xs,ρ=>(g x ρ).bind fun ρ1=>(ft ρ1).bind fun b=>if b=ah then (fe ρ1).bind fun d=>(gv g ft fe xs ρ1).map (d::·) else gv g ft fe xs ρ1
noncomputable def fy (fv:ac (ar al)) (ρ:bi):bi:=fv.map fun o=>o.bind fun j=>match ρ[j]? with
 |some (aa (.sh d))=>aa (.sh d)
 |_=>ab
noncomputable def aZ (fi:FA) (g:FG) (ft:FT) (fe:FE) (fv:ac (ar al)):FA:=fun ρ=>(fi ρ).bind fun xs=>if xs.length<=aW then gv g ft fe xs (fy fv ρ) else ab
structure DTs (Γ:Cn) (X:Cx) (es:ac Expr) (f:FT):Prop where
 out:PTs X es (TDt Γ X.K f)
theorem PTs.imp {t t':TT} (h:PTs X es t) (i:∀σ H Q,t' σ H Q->t σ H Q):PTs X es t':=fun pins s σ H Q I q=>h pins s σ H Q I (i _ _ _ q)
noncomputable def tT:FT:=fun _=>aa ah
theorem cD:DTs Γ X [] tT:=⟨NO.imp fun σ H Q=>by rintro⟨G₀,H₀,G,ρ,b,A,h,k⟩;cases h;exact k G H (.refl A.gh)⟩
theorem gM (h:DT Γ X c ft):DTs Γ X [c] ft:=⟨K9 h.1⟩
variable {g:FG}
structure DB (Γ:Cn) (X:Cx) (N':ac aj) (scope:Scope) (tg:Expr) (ifs:ac Expr) (elt:Expr) (g:FG) (ft:FT) (fe:FE):Prop where
 out:∀(cl:ac (aj×av)) (C:av) (s₀:aH) (H₀:Hp) (fp:ac av),DG Γ (iS X N' scope cl C s₀ H₀ fp) tg g/\DTs Γ (iS X N' scope cl C s₀ H₀ fp) ifs ft/\DE Γ (iS X N' scope cl C s₀ H₀ fp) elt fe
theorem DB.pb (h:DB Γ X N' scope tg ifs elt g ft fe):PB X N' scope tg ifs elt (TDg Γ X.K g) (TDt Γ X.K ft) (TD Γ X.K fe):=fun cl C s₀ H₀ fp=>⟨(h.1 cl C s₀ H₀ fp).1.pg,(h.1 cl C s₀ H₀ fp).2.1.1,(h.1 cl C s₀ H₀ fp).2.2.1⟩
theorem Lu (A:At Γ K G₀ H₀ G H ρ σ):At Γ K G H G H (fy fv ρ) (iT fv σ)/\gZ (fy fv ρ):=by
 have no:gZ (fy fv ρ):=fun i ds e=>by
  unfold fy at e;rw[ql] at e;obtain⟨o,ho,e⟩:=oMd e;cases o with
  |none=>cases e
  |some j=>
   simp only[qc] at e;split at e<;>cases e;exact⟨_,rfl⟩
 refine⟨⟨.refl A.gh,.ofSh (by simp[fy,iT]) no fun i d e=>?_⟩,no⟩;unfold fy at e;unfold iT;rw[ql] at e ⊢;obtain⟨o,ho,e⟩:=oMd e;rw[ho];cases o with
 |none=>cases e
 |some j=>
  simp only[qc] at e;split at e
  .rename_i d' hd';cases e;obtain⟨v,h1,h2⟩:=A.env.sh j d hd';exact⟨v,by simp[h1],h2⟩
  .cases e
theorem v9 (no:∀d ρ ρ',g d ρ=aa ρ'->gZ ρ->gZ ρ'):∀σ H Q,TDo Γ X.K (aZ fi g ft fe fv) σ H Q->tLC (TDi Γ X.K fi) (TDg Γ X.K g) (TDt Γ X.K ft) (TD Γ X.K fe) fv σ H Q:=by
 rintro σ H Q ⟨G₀,H₀,G,ρ,ds,A,h,k⟩;unfold aZ at h;obtain⟨xs,hx,h⟩:=oBd h;split at h
 case isFalse=>cases h
 rename_i hz;refine⟨G₀,H₀,G,ρ,xs,A,hx,fun J G1 H1 s1 Y acc hacc=>?_⟩;have gacc:G1 acc=ab:=s1.gh.free hacc;obtain⟨A0,no0⟩:=Lu (fv:=fv) (A.step s1);refine⟨fun i m ys σ' H'=>m=xs.length-i/\i<=xs.length/\ys.length<=i/\∃G' ρ' done cc,At Γ X.K G1 H1 G' H' ρ' σ'/\gZ ρ'/\H' acc=aa (.lst ys)/\G' acc=ab/\Reps Γ X.K G' ys done/\gv g ft fe (xs.drop i) ρ'=aa cc/\done++cc=ds,?_,?_⟩
 .refine⟨xs.length,rfl,iK _,qw _,G1,fy fv ρ,[],ds,?_,no0,ca,gacc,.nil,by rw[zB];exact h,rfl⟩;have sn:=Step.newOwn (o:=.lst []) s1.gh hacc;exact⟨sn,.ofSh A0.env.len no0 A0.env.sh⟩
 .rintro i m ys σ' H' ⟨hm,hi,hyi,G',ρ',done,cc,A',no',hacc',gacc',ry,hr,hd⟩;subst hm;refine⟨hacc',?_⟩;by_cases hlt:i<xs.length
  .right
   have hxi:xs[i]?=aa xs[i]:=by simp[hlt]
   obtain⟨go,yl⟩:=Y.go i _ G' H' hxi A'.st.gg A'.gh;refine⟨go,fun x H2 hy=>?_⟩;obtain⟨G2,s2,r2⟩:=yl x H2 hy;have A2:=A'.step s2;have hdr:xs.drop i=xs[i]::xs.drop (i+1):=vI hlt;rw[hdr] at hr;unfold gv at hr;obtain⟨ρ1,h1,hr⟩:=oBd hr;obtain⟨b,h2,hr⟩:=oBd hr;refine⟨G1,H1,G2,ρ',_,ρ1,A2,r2,h1,fun σ2 A3=>⟨G1,H1,G2,ρ1,b,A3,h2,fun G4 H4 s4=>?_⟩⟩;have no1:=no _ _ _ h1 no';have hH4:H4 acc=aa (.lst ys):=s4.hh _ _ (s2.hh _ _ hacc');have hG4:G4 acc=ab:=(s4.out _ _ (s2.hh _ _ hacc')).trans ((s2.out _ _ hacc').trans gacc');cases b with
   |false=>
    rw[qZ qt] at hr;refine m6 ⟨xs.length-(i+1),by omega,rfl,hlt,by omega,G4,ρ1,done,cc,A3.step s4,no1,hH4,hG4,(ry.mono s2.gg).mono s4.gg,hr,hd⟩
   |true=>
    rw[qY rfl] at hr;obtain⟨d,h3,hr⟩:=oBd hr;obtain⟨zs,h5,rfl⟩:=oMd hr;refine mr ⟨G1,H1,G4,ρ1,d,A3.step s4,h3,fun v G5 H5 s5 r5=>?_⟩;have A5:=(A3.step s4).step s5;have hH5:H5 acc=aa (.lst ys):=s5.hh _ _ hH4;have hG5:G5 acc=ab:=(s5.out _ _ hH4).trans hG4;refine⟨hH5,by omega,xs.length-(i+1),by omega,rfl,hlt,by rw[qk,qV];omega,G5,ρ1,done++[d],zs,?_,no1,ca,hG5,((((ry.mono s2.gg).mono s4.gg).mono s5.gg).append (.cons r5 .nil)),h5,by rw[sq];exact hd⟩;refine⟨⟨fun b o e=>?_,A5.st.gg,fun b o e=>?_,A5.st.out⟩,.ofSh A5.env.len no1 A5.env.sh⟩
    .rw[a7 (ck e hacc)];exact A5.st.hh b o e
    .rw[a7 (ck e hG5)];exact A5.st.gh b o e
  .left
   have e:i=xs.length:=by omega
   subst e;rw[Ft] at hr;cases hr;rw[lT] at hd;subst hd;refine⟨Y.stop G' H' A'.st.gg A'.gh,?_⟩;have hf:H'=upd (fun b=>if b=acc then ab else H' b) acc (.lst ys):=by
    funext b
    by_cases hb:b=acc
    .subst hb;rw[ca];exact hacc'
    .rw[a7 hb,qZ hb]
   rw[hf];refine k acc ys G' (fun b=>if b=acc then ab else H' b) (s1.trans ⟨fun b o e=>?_,A'.st.gg,fun b o e=>?_,A'.st.out⟩) (qY rfl) ry
   .show(if b=acc then ab else H' b)=aa o;rw[qZ (ck e hacc)];exact A'.st.hh b o e
   .show(if b=acc then ab else H' b)=aa o;rw[qZ (ck e gacc')];exact A'.st.gh b o e
theorem cz (hc:X.calm=ah) (S:CompScope X scope) (F:FvOk X N' scope fv) (hi:DI Γ X tg iter fi) (hb:DB Γ X N' scope tg ifs elt g ft fe) (hs:∀x,o9 iter X.env x=bG x:=by intro _;rfl) :
  DO Γ X .(J) (aZ fi g ft fe fv):=⟨(IL hc S F hi.1 hb.pb hs).imp (v9 (hb.1 [] 0 X.s₀ X.H₀ []).1.no)⟩
end
variable {g g':FS} {sts:ac Stmt} {gg:FG} {vp:dD}
section
variable {a:Expr}
noncomputable def aK:FS:=fun ρ=>aa (.nx,ρ)
noncomputable def ax (g g':FS):FS:=fun ρ=>(g ρ).bind fun r=>match r.1 with
 |.nx=>g' r.2
 |fl=>aa (fl,r.2)
theorem bh:DSs Γ X [] aK:=⟨K1.imp fun E σ H=>by rintro⟨G₀,H₀,G,ρ,fl,ρ',A,h,k⟩;cases h;exact k σ G H (.refl _) A⟩
theorem aD (h:DS Γ X st g):DSs Γ X [st] g:=⟨Jf h.1⟩
theorem aC (h1:DS Γ X st g) (h2:DSs Γ X sts g'):DSs Γ X (st::sts) (ax g g'):=⟨(OZ h1.1 h2.1).imp fun E σ H=>by
 rintro⟨G₀,H₀,G,ρ,fl,ρ',A,h,k⟩;unfold ax at h;obtain⟨⟨fl1,ρ1⟩,h1,h⟩:=oBd h;refine⟨G₀,H₀,G,ρ,fl1,ρ1,A,h1,fun σ1 G1 H1 sm A1=>?_⟩;cases fl1 with
 |nx=>exact⟨G₀,H₀,G1,ρ1,fl,ρ',A1,h,fun σ' G' H' sm' A'=>k σ' G' H' (sm.trans sm') A'⟩
 |bk=>cases h;exact k σ1 G1 H1 sm A1
 |ct=>cases h;exact k σ1 G1 H1 sm A1
 |rt d=>cases h;exact k σ1 G1 H1 sm A1
 |ow d=>cases h;exact k σ1 G1 H1 sm A1
 |nw d=>cases h;exact k σ1 G1 H1 sm A1
 |od d=>cases h;exact k σ1 G1 H1 sm A1⟩
noncomputable def aE (f:FE):FS:=fun ρ=>(f ρ).map fun d=>(.rt d,ρ)
theorem aN (h:DE Γ X e f):DS Γ X (.Return (aa e) pos) (aE f):=⟨(Ah h.1).imp fun E σ H=>by rintro⟨G₀,H₀,G,ρ,fl,ρ',A,h,k⟩;unfold aE at h;obtain⟨d,hd,h⟩:=oMd h;cases h;exact⟨G₀,H₀,G,ρ,d,A,hd,fun v G' H' s r=>k σ G' H' s.gg (A.step s) v r⟩⟩
noncomputable def aJ (i:al) (f:FE):FS:=fun ρ=>(f ρ).map fun d=>(.nx,ρ.set i (aa (.sh d)))
theorem bz (i:al) (hN:X.N.Nodup) (h:DE Γ X e f) (hi:X.N[i]?=aa x:=by rfl) (hx:Loc X.env.scope x:=by first|exact dc rfl|exact cH rfl) (hs:fG e (aa (.Name x pos')) pos.line X.env=bG ao:=by rfl) (hf:X.fn x=ah\/X.env.scope.names.lookup x=aa .local:=by first|exact .inl rfl|exact .inr rfl|assumption) :
  DS Γ X (.Assign [.Name x pos'] e pos) (aJ i f):=⟨(p8 hN hi hx h.1 hs hf).imp fun E σ H=>by
 rintro⟨G₀,H₀,G,ρ,fl,ρ',A,h,k⟩;unfold aJ at h;obtain⟨d,hd,h⟩:=oMd h;cases h;exact⟨G₀,H₀,G,ρ,d,A,hd,fun v G' H' s r=>k _ G' H' s.gg ((A.step s).setSh r)⟩⟩
noncomputable def dU (i:al) (f:FA):FS:=fun ρ=>(f ρ).map fun d=>(.nx,ρ.set i (aa (.own d)))
theorem DC :∀E σ H,TDs Γ X.K (dU i fr) E σ H->rq (TDo Γ X.K fr) (rR i) E σ H:=by rintro E σ H ⟨G₀,H₀,G,ρ,fl,ρ',A,h,k⟩;unfold dU at h;obtain⟨d,hd,h⟩:=oMd h;cases h;exact⟨G₀,H₀,G,ρ,d,A,hd,fun p vs G' H' s hp r=>k _ G' _ s.gg ((A.step s).setOwn hp r)⟩
theorem iU (i:al) (hN:X.N.Nodup) (h:DO Γ X e fr) (hi:X.N[i]?=aa x:=by rfl) (hx:Loc X.env.scope x:=by first|exact dc rfl|exact cH rfl) (hs:fG e (aa (.Name x pos')) pos.line X.env=bG ao:=by rfl) (hf:X.fn x=ah\/X.env.scope.names.lookup x=aa .local:=by first|exact .inl rfl|exact .inr rfl|assumption) :
  DS Γ X (.Assign [.Name x pos'] e pos) (dU i fr):=⟨(p8 hN hi hx h.1 hs hf).imp DC⟩
theorem PH :∀E σ H,TDs Γ X.K (aJ i (aI fr)) E σ H->rq (TDo Γ X.K fr) (rR i) E σ H:=by rintro E σ H ⟨G₀,H₀,G,ρ,fl,ρ',A,h,k⟩;unfold aJ aI at h;obtain⟨d,hd,h⟩:=oMd h;obtain⟨ds,hd',rfl⟩:=oMd hd;cases h;refine⟨G₀,H₀,G,ρ,ds,A,hd',fun p vs G' H' s hp r=>?_⟩;have s2:=Step.new (o:=.lst vs) s.gh hp;exact k _ _ _ (s.gg.trans s2.gg) (((A.step s).step s2).setSh (.lst ca (r.mono s2.gg)))
theorem iA (i:al) {y:aj} (hN:X.N.Nodup) (hc:X.calm=ah) (S:CompScope X scope) (F:FvOk X N' scope fv) (hi:DI Γ X tg iter fi) (hb:DB Γ X N' scope tg ifs elt gg ft fe)
  (hy:X.N[i]?=aa y:=by rfl) (hyl:X.env.scope.names.lookup y=aa .local:=by rfl) (hsw:fG .(J) (aa (.Name y py)) spos.line X.env=bG ah:=by rfl) (hs:∀x,o9 iter X.env x=bG x:=by intro _;rfl) :
  DS Γ X (.Assign [.Name y py] .(J) spos) (aJ i (aI (aZ fi gg ft fe fv))):=⟨(Et hN hy hyl hc S F hi.1 hb.pb hsw hs).imp fun E σ H q=>v9 (hb.1 [] 0 X.s₀ X.H₀ []).1.no σ H _ (PH E σ H q)⟩
theorem GJ (i:al) {y:aj} (hN:X.N.Nodup) (hc:X.calm=ah) (S:CompScope X scope) (F:FvOk X N' scope fv) (hi:DI Γ X tg iter fi) (hb:DB Γ X N' scope tg ifs elt gg ft fe)
  (hy:X.N[i]?=aa y:=by rfl) (hyl:X.env.scope.names.lookup y=aa .local:=by rfl) (hsw:fG .(J) (aa (.Name y py)) spos.line X.env=bG ah:=by rfl) (hs:∀x,o9 iter X.env x=bG x:=by intro _;rfl) :
  DS Γ X (.Assign [.Name y py] .(J) spos) (dU i (aZ fi gg ft fe fv)):=⟨(Et hN hy hyl hc S F hi.1 hb.pb hsw hs).imp fun E σ H q=>v9 (hb.1 [] 0 X.s₀ X.H₀ []).1.no σ H _ (DC E σ H q)⟩
noncomputable def dj (i:al) (f:FE):FS:=fun ρ=>match ρ[i]? with
 |some (aa (.own ds))=>(f ρ).bind fun d=>if ds.length<aW then aa (.nx,ρ.set i (aa (.own (ds++[d])))) else ab
 |_=>ab
theorem jT (i:al) (h:DE Γ X e f) (hN:X.N[i]?=aa x:=by rfl) (hv:Vis X.env.scope x:=by first|exact dc rfl|exact cH (dc rfl)|exact cH (cH rfl)) (hd:.(G)=ao:=by decide)
  (hcd:.(ap)=ao:=by decide)
  (hbase:ig (.Name x vp) "append" X.env (eval (.Name x vp) X.env)=eval (.Name x vp) X.env:=by rfl)
  (hfew:((cN cpos (a8 [e] X.env)).all (fun x=>!x.1) && (ji cpos (jj [] X.env)).all (fun x=>x.1.isSome)
   && decide ([e].length+([]:ac jo).length+(if ([]:ac jo).isEmpty then 0 else 1)<30))=ah:=by rfl)
  (hline:(apos.endLine==cpos.line)=ah:=by rfl) (hs:a8 [e] X.env=(ao,eval e X.env)::a8 [] X.env:=by rfl) (hplain:(cN cpos (a8 [] X.env)).any (·.1)=ao:=by rfl)
  (hsw:fG (.Call (.Attribute (.Name x vp) "append" apos) [e] [] cpos) ab pos.line X.env=bG ao:=by rfl) :
  DS Γ X (.Expr (.Call (.Attribute (.Name x vp) "append" apos) [e] [] cpos) pos) (dj i f):=⟨(x6 (wQ Fu Re PySem.F.type_list_append Cj (iq hN hv hd hcd) (jx h.1 jw hs) hbase hfew hline hs hplain) hsw).imp fun E σ H=>by
  rintro⟨G₀,H₀,G,ρ,fl,ρ',A,h,k⟩;unfold dj at h;split at h
  .rename_i ds hi;obtain⟨d,hd,h⟩:=oBd h;split at h
   .rename_i hz;cases h;obtain⟨a,vs,h1,h2,h3,h4,h5⟩:=A.env.own i ds hi;refine⟨.ref a,h1,.inl ⟨rfl,vs,.inl (.inl h4)⟩,G₀,H₀,G,ρ,d,A,hd,fun v G1 H1 s1 r1=>?_⟩;have A1:=A.step s1;refine⟨a,vs,v,rfl,rfl,s1.hh _ _ h4,by rw[h5.length];exact hz,?_⟩;exact k σ G1 _ s1.gg (A1.chOwn hi h1 ((h5.mono s1.gg).append (.cons r1 .nil)))
   .cases h
  .cases h⟩
noncomputable def eQ (i:al) (g:FS):FS:=fun ρ=>match ρ[i]? with
 |some (aa (.own ds))=>g (ρ.set i (aa (.sh (.lst ds))))
 |_=>ab
theorem TDs.frz (i:al):∀E σ H,TDs Γ X.K (eQ i g) E σ H->TDs Γ X.K g E σ H:=by
 rintro E σ H ⟨G₀,H₀,G,ρ,fl,ρ',A,h,k⟩;unfold eQ at h;split at h
 .rename_i ds hi;obtain⟨G',sm,A'⟩:=A.freeze hi;exact⟨G₀,H₀,G',_,fl,ρ',A',h,fun σ1 G1 H1 sm1 A1=>k σ1 G1 H1 (sm.trans sm1) A1⟩
 .cases h
theorem ir (i:al) (h:DSs Γ X sts g):DSs Γ X sts (eQ i g):=⟨h.1.imp (TDs.frz i)⟩
noncomputable def sIf (ft:FT) (g g':FS):FS:=fun ρ=>(ft ρ).bind fun c=>if c=ah then g ρ else g' ρ
theorem bd {sa sb:ac Stmt} (hc:DT Γ X c ft) (ha:DSs Γ X sa g) (hb:DSs Γ X sb g'):DS Γ X (.If c sa sb pos) (sIf ft g g'):=⟨(KU hc.1 ha.1 hb.1).imp fun E σ H=>by
 rintro⟨G₀,H₀,G,ρ,fl,ρ',A,h,k⟩;unfold sIf at h;obtain⟨x,hx,h⟩:=oBd h;refine⟨G₀,H₀,G,ρ,x,A,hx,fun G1 H1 s1=>?_⟩;cases x with
 |true=>exact mr ⟨G₀,H₀,G1,ρ,fl,ρ',A.step s1,by simpa using h,fun σ2 G2 H2 sm2 A2=>k σ2 G2 H2 (s1.gg.trans sm2) A2⟩
 |false=>exact m6 ⟨G₀,H₀,G1,ρ,fl,ρ',A.step s1,by simpa using h,fun σ2 G2 H2 sm2 A2=>k σ2 G2 H2 (s1.gg.trans sm2) A2⟩⟩
noncomputable def eJ (gg:FG) (f:FE):FS:=fun ρ=>(f ρ).bind fun d=>(gg d ρ).map fun ρ'=>(.nx,ρ')
theorem n8 (h:DE Γ X e f) (hg:DG Γ X tg gg) (hs:yU [tg] e pos.line X.env=bG ao:=by rfl) (hw:yV [tg] e X.env=bG ab:=by rfl)
  (h1:(jY [tg] X.env).map (·.2)=[kN tg X.env]:=by rfl):DS Γ X (.Assign [tg] e pos) (eJ gg f):=⟨(NE h.1 hg.pg hs hw h1).imp fun E σ H=>by
 rintro⟨G₀,H₀,G,ρ,fl,ρ',A,h,k⟩;unfold eJ at h;obtain⟨d,hd,h⟩:=oBd h;obtain⟨ρ1,h1,h⟩:=oMd h;cases h;exact⟨G₀,H₀,G,ρ,d,A,hd,fun v G' H' s r=>⟨G₀,H₀,G',ρ,d,ρ',A.step s,r,h1,fun σ' A'=>k σ' G' H' s.gg A'⟩⟩⟩
noncomputable def gB (gg:FG) (body:FS):ac D->FS
 |[],ρ=>aa (.nx,ρ)
 |x::xs,ρ=>(gg x ρ).bind fun ρ1=>(body ρ1).bind fun r=>match r.1 with
  |.nx=>gB gg body xs r.2
  |.ct=>gB gg body xs r.2
  |.bk=>aa (.nx,r.2)
  |.rt d=>aa (.rt d,r.2)
  |.ow d=>aa (.ow d,r.2)
  |.nw d=>aa (.nw d,r.2)
  |.od d=>aa (.od d,r.2)
noncomputable def bW (fi:FA) (gg:FG) (body:FS):FS:=fun ρ=>(fi ρ).bind fun xs=>gB gg body xs ρ
theorem cE {body:ac Stmt} (hp:PassesOwn .(s) X.A X.env X.xe) (hc:X.calm=ah) (hi:DI Γ X tg iter fi) (hg:DG Γ X tg gg) (hb:DSs Γ X body g) (hs:∀x,o9 iter X.env x=bG x:=by intro _;rfl) :
  DS Γ X (.For tg iter body [] pos) (bW fi gg g):=⟨(HG hp hc hi.1 hg.pg hb.1 hs).imp fun E σ H=>by
 rintro⟨G₀,H₀,G,ρ,fl,ρ',A,h,k⟩;unfold bW at h;obtain⟨xs,hx,h⟩:=oBd h;refine⟨G₀,H₀,G,ρ,xs,A,hx,fun J G1 H1 s1 Y=>?_⟩;refine⟨fun i m σ' H'=>m=xs.length-i/\i<=xs.length/\∃G' ρ1,bT G1 G'/\At Γ X.K G₀ H₀ G' H' ρ1 σ'/\gB gg g (xs.drop i) ρ1=aa (fl,ρ'),⟨xs.length,rfl,iK _,G1,ρ,.refl _,A.step s1,by rw[zB];exact h⟩,?_⟩;rintro i m σ' H' ⟨rfl,hi,G',ρ1,sm,A',hr⟩;by_cases hlt:i<xs.length
 .right
  have hxi:xs[i]?=aa xs[i]:=by simp[hlt]
  obtain⟨go,yl⟩:=Y.go i _ G' H' hxi sm A'.gh;have hdr:xs.drop i=xs[i]::xs.drop (i+1):=vI hlt;rw[hdr] at hr;unfold gB at hr;obtain⟨ρ2,h2,hr⟩:=oBd hr;obtain⟨⟨fl3,ρ3⟩,h3,hr⟩:=oBd hr;refine⟨go,fun σ3 H3=>(fl3=.nx\/fl3=.ct)/\∃G3,bT G1 G3/\At Γ X.K G₀ H₀ G3 H3 ρ3 σ3,fun σ3 H3 ⟨hfl,G3,sm3,A3⟩=>?_,fun x H2 hy=>?_⟩
  .refine⟨xs.length-(i+1),by omega,rfl,hlt,G3,ρ3,sm3,A3,?_⟩;rcases hfl with e|e<;>subst e<;>exact hr
  .obtain⟨G2,s2,r2⟩:=yl x H2 hy;refine⟨G₀,H₀,G2,ρ1,_,ρ2,A'.step s2,r2,h2,fun σ2 A2=>⟨G₀,H₀,G2,ρ2,fl3,ρ3,A2,h3,fun σ3 G3 H3 sm3 A3=>?_⟩⟩;have smm:bT G1 G3:=(sm.trans s2.gg).trans sm3;cases fl3 with
   |nx=>exact⟨.inl rfl,G3,smm,A3⟩
   |ct=>exact⟨.inr rfl,G3,smm,A3⟩
   |bk=>cases hr;exact k σ3 G3 H3 (s1.gg.trans smm) A3
   |rt d=>cases hr;exact k σ3 G3 H3 (s1.gg.trans smm) A3
   |ow d=>cases hr;exact k σ3 G3 H3 (s1.gg.trans smm) A3
   |nw d=>cases hr;exact k σ3 G3 H3 (s1.gg.trans smm) A3
   |od d=>cases hr;exact k σ3 G3 H3 (s1.gg.trans smm) A3
 .left
  have e:i=xs.length:=by omega
  subst e;rw[Ft] at hr;cases hr;exact⟨Y.stop G' H' sm A'.gh,k σ' G' H' (s1.gg.trans sm) A'⟩⟩
end
variable {fk:FE} {F:ac D->ar D}
section
variable {a:Expr} {fw:FE}
inductive spF (Γ:Cn) (K:bu) (n:al) (F:ac D->ar D) (vs:ac V) (H:Hp) (Q:VK) (_e3:XK):Prop where
 |mk:∀G ds d,bT G H->Reps Γ K G vs ds->ds.length=n->F ds=aa d->(∀v G' H',Step G H G' H'->Rep Γ K G' v d->Q v H')->spF Γ K n F vs H Q _e3
noncomputable def a6 (n:al) (g:FS):ac D->ar D:=fun ds=>(g (ds.map (fun d=>aa (Slot.sh d))++cq n ab)).bind fun r=>match r.1 with
 |.rt d=>aa d
 |.nx=>aa .non
 |_=>ab
theorem C9 {m:al} (gh:bT G H) (r:Reps Γ K G vs ds) (hm:m=N.length-vs.length):At Γ K G H G H (ds.map (fun d=>aa (Slot.sh d))++cq m ab) (gR N vs):=by
 have no:gZ (ds.map (fun d=>aa (Slot.sh d))++cq m ab):=fun i es e=>by
  by_cases hi:i<ds.length
  .rw[qy (by simpa using hi),ql] at e;obtain⟨d,_,e⟩:=oMd e;cases e;exact⟨_,rfl⟩
  .rw[qJ (by simpa using hi),zf] at e;split at e<;>cases e
 refine⟨.refl gh,.ofSh (by simp[gR,r.length,hm]) no fun i d e=>?_⟩;by_cases hi:i<ds.length
 .rw[qy (by simpa using hi),ql] at e;obtain⟨d',hd,e⟩:=oMd e;cases e;obtain⟨v,hv,rv⟩:=r.get hd;refine⟨v,?_,rv⟩;unfold gR;rw[qy (by rw[qg,r.length];exact hi),ql,hv];rfl
 .rw[qJ (by simpa using hi),zf] at e;split at e<;>cases e
theorem Fun.okD {P:bV} {f:av} {k:al} (F:Fun K x qual st f fd) (S:FnScope N ps (aS st))
  (hbody:∀(cdv:Value) (A:dB) (outer:ac c8) (s:aH) (H:Hp) (E:XK),Room k .(ax)->
   DSs Γ .(ak).nox (dS st) g):FnOk P w K mg base CX0 (k+1) f fd ps (spF Γ K ps.length (a6 (N.length-ps.length) g)):=by
 refine F.ok S (fun vs H Q E h=>?_) (fun cdv A outer s H vs Q E hr h=>?_)
 .obtain⟨G,ds,d,_,r,hl,_⟩:=h;rw[r.length,hl]
 .obtain⟨G,ds,d,gh,r,hl,hd,k⟩:=h;refine⟨_,(hbody cdv A outer s H E hr).1,?_⟩;unfold a6 at hd;obtain⟨⟨fl,ρ'⟩,hg,hd⟩:=oBd hd;refine⟨G,H,G,_,fl,ρ',C9 gh r (by rw[r.length,hl]),hg,fun σ' G' H' sm A'=>?_⟩;cases fl with
  |rt d'=>cases hd;exact fun v rv=>k v G' H' A'.st rv
  |nx=>cases hd;exact k .non G' H' A'.st .non
  |bk=>cases hd
  |ct=>cases hd
  |ow d=>cases hd
  |nw d=>cases hd
  |od d=>cases hd
theorem Qc {k:al} {fx:av} (Fo:FnOk X.prog X.w X.K X.mg X.base CX0 k fx fd ps (spF Γ X.K n F)) (hr:Room k X.A) (hg:Gl X x) (hm:X.mg x=aa (.ref fx)) (hk:iI X.K (.ref fx)=ah) (hb:gG X.K fd ps [])
  (ha:DA Γ X (e::es) fr) (hn:∀ρ ds,fr ρ=aa ds->ds.length=n) (hdb:.(G)=ao:=by decide) (he:a8 (e::es) X.env=(ao,eval e X.env)::a8 es X.env:=by rfl) (hpl:(cN pos (a8 es X.env)).any (·.1)=ao:=by rfl) :
  DE Γ X .(as) (cF F fr):=⟨(D1 Fo hr hg hm hk hb .nil rC ha.1 hdb he hpl).imp fun σ H Q=>by
 rintro⟨G₀,H₀,G,ρ,d,A,h,k⟩;unfold cF at h;obtain⟨ds,hd,h⟩:=oBd h;refine⟨G₀,H₀,G,ρ,ds,A,hd,fun vs G1 H1 s1 r1=>?_⟩;show spF Γ X.K n F (vs++[]) H1 Q E0;rw[lT];exact⟨G1,ds,d,s1.gh,r1,hn ρ ds hd,h,fun v G' H' s r=>k v G' H' (s1.trans s) r⟩⟩
theorem P6 (h:ak ρ=aa ds):ds.length=0:=by cases h;rfl
theorem mD (hn:∀ρ ds,fr ρ=aa ds->ds.length=n):∀ρ ds,ae fa fr ρ=aa ds->ds.length=n+1:=fun ρ ds h=>by unfold ae at h;obtain⟨x,hx,h⟩:=oBd h;obtain⟨xs,hxs,rfl⟩:=oMd h;rw[qj,hn ρ xs hxs]
end
structure Cal (Γ:Cn) (P:bV) (w:cR) (K:bu) (mg:aj->ar Value) (base:Heap) (x:aj) (n k:al) (F:ac D->ar D):Prop where
 ex:∃f fd ps,FnOk P w K mg base CX0 k f fd ps (spF Γ K n F)/\mg x=aa (.ref f)/\iI K (.ref f)=ah/\gG K fd ps []
structure Dfn (K:bu) (mg:aj->ar Value) (x:aj) (st:Stmt):Prop where
 ex:∃f fd,Fun K x x st f fd/\mg x=aa (.ref f)
theorem jC {k:al} (C:Cal Γ X.prog X.w X.K X.mg X.base x n k F) (hr:Room j X.A) (hk:k<=j) (hg:Gl X x) (ha:DA Γ X (e::es) fr) (hn:∀ρ ds,fr ρ=aa ds->ds.length=n)
  (hdb:.(G)=ao:=by decide) (he:a8 (e::es) X.env=(ao,eval e X.env)::a8 es X.env:=by rfl) (hpl:(cN pos (a8 es X.env)).any (·.1)=ao:=by rfl) :
  DE Γ X .(as) (cF F fr):=by
 obtain⟨f,fd,ps,h1,h2,h3,h4⟩:=C.ex;exact Qc h1 (hr.mono hk) hg h2 h3 h4 ha hn hdb he hpl
theorem Dfn.cal {P:bV} {k:al} (F:Dfn K mg x st) (S:FnScope N ps (aS st))
  (hb:∀(kV doc pm:Value) (an:ar av) (cdv ct:Value) (us:ac Value),us.length=ps.length->kP (gW x x (hZ st) (dS st) (aS st) .none kV doc pm an cdv ct) ⟨us,[]⟩=bG (ps.zip us))
  (hbody:∀(f:av) (cdv:Value) (A:dB) (outer:ac c8) (s:aH) (H:Hp) (E:XK),Room k (A.deeper (eX x (aS st) s.heap.objs.size f cdv))->
   DSs Γ (gH CX0 P w K mg base N x (aS st) f cdv A outer s H E).nox (dS st) g):Cal Γ P w K mg base x ps.length (k+1) (a6 (N.length-ps.length) g):=by
 obtain⟨f,fd,h1,h2⟩:=F.ex;exact⟨f,fd,ps,h1.okD S (hbody f),h2,h1.kp,h1.binds hb⟩
theorem Dfn.mk' {h:Heap} {f:av} {kV:Value} (X:K.In h) (G:h.Ns gd mg) (a:zD K gd x=aa (aa (.ref f)))
  (l:K.lookup f=aa ⟨oc,od,.func (gW x x (hZ st) (dS st) (aS st) .none kV doc pm an cdv ct),osl⟩) (c:si K cdv x=ah) (k:iI K (.ref f)=ah):Dfn K mg x st:=
 ⟨f,_,wf l c k,zE X G a⟩
noncomputable def CU (names:ac (aj×ii)) (outer:ac (aj×ii)):aQ:=
 names.all fun y=>y.2 != .cell && (y.2 != .local || names.lookup y.1==aa .local) && (y.2 != .free || outer.lookup y.1==aa .cell || outer.lookup y.1==aa .free)
theorem CompScope.of (hk:scope.kind=.function) (h:CU scope.names X.env.scope.names=ah):CompScope X scope:=by
 unfold CU at h;rw[sA] at h;refine⟨hk,fun y hy e=>?_,fun y hy e=>?_,fun y hy e=>?_⟩
 .have:=h y hy;rw[e] at this;simp at this
 .have:=h y hy;rw[e] at this;simpa using this
 .have:=h y hy;rw[e] at this;simpa[Env.kindOf] using this
noncomputable def Bd (N':ac aj) (fv:ac (ar al)) (N:ac aj) (outer names:ac (aj×ii)):aQ:=
 fv.length==N'.length && (N'.zip fv).all fun y=>match y.2 with
  |none=>ah
  |some j=>N[j]?==aa y.1 && (outer.lookup y.1==aa .cell || outer.lookup y.1==aa .free) && names.lookup y.1==aa .free
theorem FvOk.of (h:Bd N' fv X.N X.env.scope.names scope.names=ah):FvOk X N' scope fv:=by
 unfold Bd at h;rw[fU,sA] at h;obtain⟨h1,h2⟩:=h;refine⟨by simpa using h1,fun i j x e1 e2=>?_⟩;have hm:(x,aa j)∈N'.zip fv:=by refine vJ.mpr ⟨i,?_⟩;rw[List.getElem?_zip_eq_some];exact⟨e1,e2⟩
 have:=h2 _ hm;simp only[fU,pj,kO] at this;exact⟨this.1.1,this.1.2,this.2⟩
mutual
def pdD:D->ar vK
 |.non=>aa .none
 |.bl b=>aa (.bool b)
 |.int i=>aa (.int i)
 |.str x=>aa (.str x)
 |.tup l=>(gA l).map RA
 |.lst l=>(gA l).map PyData.list
 |.scr ns=>aa (.list (ns.map RB))
 |_=>ab
def gA:ac D->ar (ac vK)
 |[]=>aa []
 |d::r=>(pdD d).bind fun p=>(gA r).map (p::·)
end
theorem CV {h:Heap}:∀{ns:ac ag} {us:ac Value},bO (ns.map V.int) us->∃as,ReadsAll h us (ns.map RB) as
 |[],_,r=>by rw[qN] at r;cases r;exact⟨_,.nil⟩
 |n::ns,_,r=>by
  rw[qo] at r;cases r with
  |cons r1 r2=>
   obtain⟨t,e⟩:=r1;subst e;obtain⟨as,q⟩:=CV r2;exact⟨_,.cons (.int n t) q⟩
mutual
theorem Rep.reads (I:Inv X pins σ H s) (gh:bT G H):∀{v:V} {d:D} {u:Value} {p:vK},Rep Γ X.K G v d->bI v u->pdD d=aa p->∃as,Reads s.heap u p as
 |_,_,u,p,.non,r,h=>by cases r;rw[pdD] at h;cases h;exact⟨_,.none⟩
 |_,_,u,p,.bl b,r,h=>by cases r;rw[pdD] at h;cases h;exact⟨_,.bool b⟩
 |_,_,u,p,.int i,r,h=>by obtain⟨t,rfl⟩:=r;rw[pdD] at h;cases h;exact⟨_,.int i t⟩
 |_,_,u,p,.str x,r,h=>by obtain⟨t,rfl⟩:=r;rw[pdD] at h;cases h;exact⟨_,.str x t⟩
 |_,_,u,p,.ty n,r,h=>by rw[pdD] at h;cases h;all_goals (intros;contradiction)
 |_,_,u,p,.tup ha rs,r,h=>by
  cases r;rw[pdD] at h;obtain⟨ps,hp,rfl⟩:=oMd h;obtain⟨its,rv,⟨o,e1,e2,n,e3⟩,_⟩:=I.tuple (.inl (.inl (gh _ _ ha)));obtain⟨as,q⟩:=Reps.reads I gh rs rv hp;exact⟨_,.tuple e1 e2 e3 (by simpa using q)⟩
 |_,_,u,p,.lst ha rs,r,h=>by
  cases r;rw[pdD] at h;obtain⟨ps,hp,rfl⟩:=oMd h;obtain⟨its,rv,⟨o,n,e1,e2,_,e3⟩,_⟩:=I.list (.inl (.inl (gh _ _ ha)));obtain⟨as,q⟩:=Reps.reads I gh rs rv hp;exact⟨_,.list e1 e2 e3 (by simpa using q)⟩
 |_,_,u,p,.scr hs,r,h=>by
  cases r;rw[pdD] at h;cases h;obtain⟨its,rv,⟨o,n,e1,e2,_,e3⟩,_⟩:=I.list (gh.seq hs);obtain⟨as,q⟩:=CV (h:=s.heap) rv;exact⟨_,.list e1 e2 e3 (by simpa using q)⟩
 |_,_,u,p,.dk ha _ _,r,h=>by rw[pdD] at h;cases h;all_goals (intros;contradiction)
 |_,_,u,p,.fdk ha _ _,r,h=>by rw[pdD] at h;cases h;all_goals (intros;contradiction)
 |_,_,u,p,.dt ha _ _,r,h=>by rw[pdD] at h;cases h;all_goals (intros;contradiction)
 |_,_,u,p,.ins ha _ _ _,r,h=>by rw[pdD] at h;cases h;all_goals (intros;contradiction)
theorem Reps.reads (I:Inv X pins σ H s) (gh:bT G H):∀{vs:ac V} {ds:ac D} {us:ac Value} {ps:ac vK},Reps Γ X.K G vs ds->bO vs us->gA ds=aa ps->∃as,ReadsAll s.heap us ps as
 |_,_,_,_,.nil,r,h=>by cases r;rw[gA] at h;cases h;exact⟨_,.nil⟩
 |_,_,_,_,.cons r1 r2,r,h=>by
  cases r with
  |cons q1 q2=>
   rw[gA] at h;obtain⟨p,hp,h⟩:=oBd h;obtain⟨ps,hps,rfl⟩:=oMd h;obtain⟨as,a1⟩:=Rep.reads I gh r1 q1 hp;obtain⟨bs,a2⟩:=Reps.reads I gh r2 q2 hps;exact⟨_,.cons a1 a2⟩
end
section
variable {a:Expr}
noncomputable def eqX (x y:D):ar aQ:=(pdD x).bind fun p=>(pdD y).bind fun q=>if eA p=ah/\eA q=ah then aa (il p q) else ab
noncomputable def mU (x y:D):ar D:=(eqX x y).map D.bl
noncomputable def mv (x y:D):ar D:=(eqX x y).map fun b=>D.bl (!b)
noncomputable def rX (Γ:Cn) (K:bu) (neg:aQ):R2:=fun x y H Q=>∃G d e b,bT G H/\Rep Γ K G x d/\Rep Γ K G y e/\eqX d e=aa b/\Q (.bl (if neg then !b else b)) H
theorem wG {x:D} {b:aQ} (h:eqX x y=aa b):∃p q,pdD x=aa p/\pdD y=aa q/\eA p=ah/\eA q=ah/\b=il p q:=by
 unfold eqX at h;obtain⟨p,hp,h⟩:=oBd h;obtain⟨q,hq,h⟩:=oBd h;split at h
 .rename_i hz;cases h;exact⟨p,q,hp,hq,hz.1,hz.2,rfl⟩
 .cases h
theorem L7 (hu:X.A.units+64<cy):OpR X (dz .Eq) (rX Γ X.K ao):=by intro pins s σ H x y v u Q I rx ry h;obtain⟨G,d,e,b,gh,r1,r2,hb,q⟩:=h;obtain⟨p,q',hp,hq,s1,s2,rfl⟩:=wG hb;obtain⟨as,a1⟩:=r1.reads I gh rx hp;obtain⟨bs,a2⟩:=r2.reads I gh ry hq;exact eq_dataH a1 a2 s1 s2 hu ⟨.bl _,H,I,rfl,q⟩
theorem PF (hu:X.A.units+64<cy):OpR X (dz .NotEq) (rX Γ X.K ah):=by intro pins s σ H x y v u Q I rx ry h;obtain⟨G,d,e,b,gh,r1,r2,hb,q⟩:=h;obtain⟨p,q',hp,hq,s1,s2,rfl⟩:=wG hb;obtain⟨as,a1⟩:=r1.reads I gh rx hp;obtain⟨bs,a2⟩:=r2.reads I gh ry hq;exact ne_dataH a1 a2 s1 s2 hu ⟨.bl _,H,I,rfl,q⟩
theorem N6 (hu:X.A.units+64<cy):CmpD Γ X .Eq mU:=⟨_,L7 (Γ:=Γ) hu,fun {G H v u x y z} gh r1 r2 h Q k=>by unfold mU at h;obtain⟨b,hb,rfl⟩:=oMd h;exact⟨G,x,y,b,gh,r1,r2,hb,k _ G H (.refl gh) (.bl _)⟩⟩
theorem Na (hu:X.A.units+64<cy):CmpD Γ X .NotEq mv:=⟨_,PF (Γ:=Γ) hu,fun {G H v u x y z} gh r1 r2 h Q k=>by unfold mv at h;obtain⟨b,hb,rfl⟩:=oMd h;exact⟨G,x,y,b,gh,r1,r2,hb,k _ G H (.refl gh) (.bl _)⟩⟩
noncomputable def inX (x y:D):ar aQ:=(pdD x).bind fun p=>(pdD y).bind fun q=>match q with
 |.list l=>if eA p=ah/\j2 l=ah then aa (l.any fun z=>il z p) else ab
 |_=>ab
noncomputable def fz (x y:D):ar D:=(inX x y).map D.bl
noncomputable def dX (x y:D):ar D:=(inX x y).map fun b=>D.bl (!b)
noncomputable def Ej (Γ:Cn) (K:bu) (neg:aQ):R2:=fun x y H Q=>∃G d e b,bT G H/\Rep Γ K G x d/\Rep Γ K G y e/\inX d e=aa b/\Q (.bl (if neg then !b else b)) H
theorem Bw {x:D} {b:aQ} (h:inX x y=aa b):∃p l,pdD x=aa p/\pdD y=aa (.list l)/\eA p=ah/\j2 l=ah/\b=l.any fun z=>il z p:=by
 unfold inX at h;obtain⟨p,hp,h⟩:=oBd h;obtain⟨q,hq,h⟩:=oBd h;split at h
 .split at h
  .rename_i hz;cases h;exact⟨p,_,hp,hq,hz.1,hz.2,rfl⟩
  .cases h
 .cases h
theorem BO {p:vK} (h:eA p=ah):p.canLay0=ah/\p.depth<=64:=by unfold eA at h;rw[fU] at h;exact⟨h.1,fC h.2⟩
theorem MJ (hu:X.A.units+66<cy):OpR X (dz .In) (Ej Γ X.K ao):=by intro pins s σ H x y v u Q I rx ry h;obtain⟨G,d,e,b,gh,r1,r2,hb,q⟩:=h;obtain⟨p,l,hp,hq,s1,s2,rfl⟩:=Bw hb;obtain⟨as,a1⟩:=r1.reads I gh rx hp;obtain⟨bs,a2⟩:=r2.reads I gh ry hq;obtain⟨c1,c2⟩:=BO s1;have:=E5 (nD l) p.depth;exact SeqAt.in_list_reads a2 a1 s2 c1 .(f) ⟨.bl _,H,I,rfl,q⟩
theorem HH (hu:X.A.units+66<cy):OpR X (dz .NotIn) (Ej Γ X.K ah):=by intro pins s σ H x y v u Q I rx ry h;obtain⟨G,d,e,b,gh,r1,r2,hb,q⟩:=h;obtain⟨p,l,hp,hq,s1,s2,rfl⟩:=Bw hb;obtain⟨as,a1⟩:=r1.reads I gh rx hp;obtain⟨bs,a2⟩:=r2.reads I gh ry hq;obtain⟨c1,c2⟩:=BO s1;have:=E5 (nD l) p.depth;exact SeqAt.notIn_list_reads a2 a1 s2 c1 .(f) ⟨.bl _,H,I,rfl,q⟩
theorem oT (hu:X.A.units+66<cy):CmpD Γ X .In fz:=⟨_,MJ (Γ:=Γ) hu,fun {G H v u x y z} gh r1 r2 h Q k=>by unfold fz at h;obtain⟨b,hb,rfl⟩:=oMd h;exact⟨G,x,y,b,gh,r1,r2,hb,k _ G H (.refl gh) (.bl _)⟩⟩
theorem oZ (hu:X.A.units+66<cy):CmpD Γ X .NotIn dX:=⟨_,HH (Γ:=Γ) hu,fun {G H v u x y z} gh r1 r2 h Q k=>by unfold dX at h;obtain⟨b,hb,rfl⟩:=oMd h;exact⟨G,x,y,b,gh,r1,r2,hb,k _ G H (.refl gh) (.bl _)⟩⟩
theorem aV {k:al} (hr:Room k X.A):X.A.units+66<cy:=by have:=hr.un;omega
theorem fM {k:al} (hr:Room k X.A):X.A.units+64<cy:=by have:=hr.un;omega
noncomputable def mI (d:D):aQ:=match d with
 |.non=>ah
 |_=>ao
noncomputable def isD (x y:D):ar D:=match y with
 |.non=>aa (.bl (mI x))
 |_=>ab
noncomputable def jM (x y:D):ar D:=match y with
 |.non=>aa (.bl (!mI x))
 |_=>ab
theorem Bk (r:Rep Γ K G v d):decide (v=.non)=mI d:=by cases r<;>simp[mI]
theorem lL:CmpD Γ X .Is isD:=⟨_,Qe,fun {G H v u x y z} gh r1 r2 h Q k=>by unfold isD at h;split at h<;>cases h;exact⟨r2.non_inv,by rw[Bk r1];exact k _ G H (.refl gh) (.bl _)⟩⟩
theorem rP:CmpD Γ X .IsNot jM:=⟨_,QE,fun {G H v u x y z} gh r1 r2 h Q k=>by unfold jM at h;split at h<;>cases h;exact⟨r2.non_inv,by rw[Bk r1];exact k _ G H (.refl gh) (.bl _)⟩⟩
end
variable {fx:FE}
section
variable {a i:Expr}
noncomputable def bwT (i:al) (ft:FT):FT:=fun ρ=>match ρ[i]? with
 |some (aa (.own ds))=>ft (ρ.set i (aa (.sh (.lst ds))))
 |_=>ab
theorem Step.back (gh:bT G H) (s1:bT G G1) (s:Step G1 H G' H'):Step G H G H':=⟨s.hh,.refl _,(s1.trans s.gg).trans s.gh,fun _ _ _=>rfl⟩
theorem Ev (i:al) (h:DT Γ X c ft):DT Γ X c (bwT i ft):=⟨h.1.imp fun σ H Q=>by
 rintro⟨G₀,H₀,G,ρ,b,A,h,k⟩;unfold bwT at h;split at h
 .rename_i ds hi;obtain⟨G1,sm,A1⟩:=A.freeze hi;exact⟨G₀,H₀,G1,_,b,A1,h,fun G' H' s=>k G H' (s.back A.gh sm)⟩
 .cases h⟩
noncomputable def i4 (i:al) (f:FE):FS:=fun ρ=>match ρ[i]? with
 |some (aa (.own ds))=>(f ρ).bind fun d=>match d with
  |.lst l=>if ds.length+l.length<=aW then aa (.nx,ρ.set i (aa (.own (ds++l)))) else ab
  |_=>ab
 |_=>ab
theorem x8 (i:al) (h:DE Γ X e f) (hN:X.N[i]?=aa x:=by rfl) (hv:Vis X.env.scope x:=by first|exact dc rfl|exact cH (dc rfl)|exact cH (cH rfl)) (hd:.(G)=ao:=by decide)
  (hcd:.(ap)=ao:=by decide)
  (hbase:ig (.Name x vp) "extend" X.env (eval (.Name x vp) X.env)=eval (.Name x vp) X.env:=by rfl)
  (hfew:((cN cpos (a8 [e] X.env)).all (fun x=>!x.1) && (ji cpos (jj [] X.env)).all (fun x=>x.1.isSome)
   && decide ([e].length+([]:ac jo).length+(if ([]:ac jo).isEmpty then 0 else 1)<30))=ah:=by rfl)
  (hline:(apos.endLine==cpos.line)=ah:=by rfl) (hs:a8 [e] X.env=(ao,eval e X.env)::a8 [] X.env:=by rfl) (hplain:(cN cpos (a8 [] X.env)).any (·.1)=ao:=by rfl)
  (hsw:fG (.Call (.Attribute (.Name x vp) "extend" apos) [e] [] cpos) ab pos.line X.env=bG ao:=by rfl) :
  DS Γ X (.Expr (.Call (.Attribute (.Name x vp) "extend" apos) [e] [] cpos) pos) (i4 i f):=⟨(x6 (wQ Fu Rf PySem.F.type_list_extend Jn (iq hN hv hd hcd) (jx h.1 jw hs) hbase hfew hline hs hplain) hsw).imp fun E σ H=>by
  rintro⟨G₀,H₀,G,ρ,fl,ρ',A,h,k⟩;unfold i4 at h;split at h
  .rename_i ds hi;obtain⟨d,hd,h⟩:=oBd h;split at h
   .rename_i l;split at h
    .rename_i hz;cases h;obtain⟨a,vs,h1,h2,h3,h4,h5⟩:=A.env.own i ds hi;refine⟨.ref a,h1,.inl ⟨rfl,vs,.inl (.inl h4)⟩,G₀,H₀,G,ρ,_,A,hd,fun v G1 H1 s1 r1=>?_⟩;have A1:=A.step s1;obtain⟨b,us,rfl,hb,rb⟩:=r1.lst_inv;refine⟨a,b,vs,us,rfl,rfl,s1.hh _ _ h4,s1.gh _ _ hb,by rw[h5.length,rb.length];exact hz,?_⟩;exact k σ G1 _ s1.gg (A1.chOwn hi h1 ((h5.mono s1.gg).append rb))
    .cases h
   .cases h
  .cases h⟩
noncomputable def kh:ac D->ar D
 |[.int i]=>aa (.int i)
 |[.bl k]=>aa (.int (if k then 1 else 0))
 |_=>ab
theorem C4:TyD Γ X "int" kh:=⟨_,Gc,fun {G H vs ds z} gh r h Q k=>by
 unfold kh at h;split at h<;>cases h
 .obtain⟨v,rfl,r1⟩:=r.one;cases r1.int_inv;exact .inl ⟨_,rfl,k _ G H (.refl gh) (.int _)⟩
 .obtain⟨v,rfl,r1⟩:=r.one;cases r1.bl_inv;exact .inr ⟨_,rfl,k _ G H (.refl gh) (.int _)⟩⟩
noncomputable def yD:ac D->ar D
 |[.lst l]=>aa (.tup l)
 |[.tup l]=>aa (.tup l)
 |_=>ab
theorem Im:TyD Γ X "tuple" yD:=⟨_,HF,fun {G H vs ds z} gh r h Q k=>by
 unfold yD at h;split at h<;>cases h
 .obtain⟨v,rfl,r1⟩:=r.one;obtain⟨a,us,rfl,ha,ra⟩:=r1.lst_inv;exact⟨a,us,rfl,.inl ⟨.inl (.inl (gh _ _ ha)),wZ gh ra k⟩⟩
 .obtain⟨v,rfl,r1⟩:=r.one;obtain⟨a,us,rfl,ha,ra⟩:=r1.tup_inv;exact⟨a,us,rfl,.inr ⟨.inl (.inl (gh _ _ ha)),k _ G H (.refl gh) (.tup ha ra)⟩⟩⟩
noncomputable def cr [eV κ] (kvs:ac (κ×α)) (k:κ):ar α:=(kvs.find? fun kv=>decide (kv.1=k)).map (·.2)
noncomputable def eU [eV κ] (kvs:ac (κ×α)) (k:κ) (v:α):ac (κ×α):=
 if (kvs.any fun kv=>decide (kv.1=k))=ah then kvs.map (fun kv=>if kv.1=k then (kv.1,v) else kv) else kvs++[(k,v)]
theorem mz {κ:Type} [eV κ] {K:bu} {G:Hp} {k:κ}:∀{us:ac (κ×V)} {kvs:ac (κ×D)},us.map (·.1)=kvs.map (·.1)->Reps Γ K G (us.map (·.2)) (kvs.map (·.2))->
  (cr kvs k=ab/\fP us k=ab)\/∃d v,cr kvs k=aa d/\fP us k=aa v/\Rep Γ K G v d
 |[],[],_,_=>.inl ⟨rfl,rfl⟩
 |[],_::_,e,_=>by cases e
 |_::_,[],e,_=>by cases e
 |(k1,v)::us,(k2,d)::kvs,e,r=>by
  have e1:k1=k2:=(ij e).1;have e2:us.map (·.1)=kvs.map (·.1):=(ij e).2;subst e1;have r:Reps Γ K G (v::us.map (·.2)) (d::kvs.map (·.2)):=r;cases r with
  |cons r1 r2=>
   by_cases h:k1=k
   .exact .inr ⟨d,v,by simp[cr,eY,h],vd h,r1⟩
   .have:=mz (k:=k) e2 r2;rw[uV (p:=(k1,v)) h];simpa[cr,eY,h] using this
theorem Dl {κ:Type} [eV κ] {k:κ} {α β:Type}:∀{us:ac (κ×α)} {kvs:ac (κ×β)},us.map (·.1)=kvs.map (·.1)->(us.any fun kv=>decide (kv.1=k))=(kvs.any fun kv=>decide (kv.1=k))
 |[],[],_=>rfl
 |[],_::_,e=>by cases e
 |_::_,[],e=>by cases e
 |(k1,v)::us,(k2,d)::kvs,e=>by have e1:k1=k2:=(ij e).1;subst e1;rw[kS,kS,Dl (us:=us) (kvs:=kvs) (ij e).2]
theorem BQ {κ:Type} [eV κ] {K:bu} {G:Hp} {k:κ} {v:V} {d:D} (rv:Rep Γ K G v d):∀{us:ac (κ×V)} {kvs:ac (κ×D)},us.map (·.1)=kvs.map (·.1)->Reps Γ K G (us.map (·.2)) (kvs.map (·.2))->
  (us.map fun kv=>if kv.1=k then (kv.1,v) else kv).map (·.1)=(kvs.map fun kv=>if kv.1=k then (kv.1,d) else kv).map (·.1)/\Reps Γ K G ((us.map fun kv=>if kv.1=k then (kv.1,v) else kv).map (·.2)) ((kvs.map fun kv=>if kv.1=k then (kv.1,d) else kv).map (·.2))
 |[],[],_,_=>⟨rfl,.nil⟩
 |[],_::_,e,_=>by cases e
 |_::_,[],e,_=>by cases e
 |(k1,u)::us,(k2,x)::kvs,e,r=>by
  have e1:k1=k2:=(ij e).1;have e2:us.map (·.1)=kvs.map (·.1):=(ij e).2;subst e1;have r:Reps Γ K G (u::us.map (·.2)) (x::kvs.map (·.2)):=r;cases r with
  |cons r1 r2=>
   obtain⟨h1,h2⟩:=BQ (k:=k) rv e2 r2;by_cases h:k1=k
   .subst h;simp only[qo,cK];exact⟨by rw[h1],.cons rv h2⟩
   .simp only[qo,qZ h];exact⟨by rw[h1],.cons r1 h2⟩
theorem tQ [eV κ] {k:κ} (rv:Rep Γ K G v d) {us:ac (κ×V)} {kvs:ac (κ×D)} (e:us.map (·.1)=kvs.map (·.1)) (r:Reps Γ K G (us.map (·.2)) (kvs.map (·.2))) :
  (eG us k v).map (·.1)=(eU kvs k d).map (·.1)/\Reps Γ K G ((eG us k v).map (·.2)) ((eU kvs k d).map (·.2)):=by
 unfold eG eU;rw[Dl (k:=k) e];split
 .exact BQ rv e r
 .simp only[jp,qo,qN];exact⟨by rw[e],r.append (.cons rv .nil)⟩
noncomputable def gJ:D->ar Key
 |.int i=>aa (.inl i)
 |.str x=>aa (.inr x)
 |_=>ab
noncomputable def gT:ac D->ar (ac Key)
 |[]=>aa []
 |d::r=>(gJ d).bind fun k=>(gT r).map (k::·)
theorem lD {k:Key} (r:Rep Γ K G v d) (h:gJ d=aa k):v=kV k:=by
 unfold gJ at h;split at h<;>cases h
 .exact r.int_inv
 .exact r.str_inv
theorem mP {K:bu} {G:Hp}:∀{vs:ac V} {ds:ac D} {ks:ac Key},Reps Γ K G vs ds->gT ds=aa ks->vs=ks.map kV
 |_,[],ks,r,h=>by cases r;cases h;rfl
 |_,d::ds,ks,.cons h1 h2,h=>by unfold gT at h;obtain⟨k,hk,h⟩:=oBd h;obtain⟨zs,hz,rfl⟩:=oMd h;rw[lD h1 hk,mP h2 hz];rfl
noncomputable def jv (d k:D):ar (ar D):=match d,k with
 |.dk l,k=>(gJ k).map (cr l)
 |.fdk l,k=>(gJ k).map (cr l)
 |.dt l,.tup t=>(gT t).map (cr l)
 |_,_=>ab
theorem ED {k:D} {r:ar D} (gh:bT G H) (rv:Rep Γ K G v d) (h:jv d k=aa r):∃a,v=.ref a/\IsD H a:=by
 unfold jv at h;split at h
 .cases rv with
  |dk h _ _=>exact⟨_,rfl,.inl ⟨_,.inl (gh _ _ h)⟩⟩
 .cases rv with
  |fdk h _ _=>exact⟨_,rfl,.inl ⟨_,.inr ⟨_,gh _ _ h⟩⟩⟩
 .cases rv with
  |dt h _ _=>exact⟨_,rfl,.inr ⟨_,.inl (gh _ _ h)⟩⟩
 .cases h
theorem rF {y:V} {k:D} {r:ar D} (gh:bT G H) (rv:Rep Γ K G v d) (ry:Rep Γ K G y k) (h:jv d k=aa r) :
  ∃a o,v=.ref a/\fZ H a y o/\((r=ab/\o=ab)\/∃w z,r=aa z/\o=aa w/\Rep Γ K G w z):=by
 unfold jv at h;split at h
 .obtain⟨kk,hk,rfl⟩:=oMd h;cases rv with
  |dk h1 h2 h3=>
   have ey:=lD ry hk;subst ey;refine⟨_,_,rfl,fZ.k (gh _ _ h1),?_⟩;rcases mz (k:=kk) h2 h3 with⟨q1,q2⟩|⟨z,w,q1,q2,q3⟩
   .exact .inl ⟨q1,q2⟩
   .exact .inr ⟨w,z,q1,q2,q3⟩
 .obtain⟨kk,hk,rfl⟩:=oMd h;cases rv with
  |fdk h1 h2 h3=>
   have ey:=lD ry hk;subst ey;refine⟨_,_,rfl,.inl ⟨_,kk,.inr ⟨_,gh _ _ h1⟩,rfl,rfl⟩,?_⟩;rcases mz (k:=kk) h2 h3 with⟨q1,q2⟩|⟨z,w,q1,q2,q3⟩
   .exact .inl ⟨q1,q2⟩
   .exact .inr ⟨w,z,q1,q2,q3⟩
 .obtain⟨kk,hk,rfl⟩:=oMd h;cases rv with
  |dt h1 h2 h3=>
   obtain⟨b,ys,rfl,hb,rb⟩:=ry.tup_inv;have ey:=mP rb hk;subst ey;refine⟨_,_,rfl,fZ.t (gh _ _ h1) (gh _ _ hb),?_⟩;rcases mz (k:=kk) h2 h3 with⟨q1,q2⟩|⟨z,w,q1,q2,q3⟩
   .exact .inl ⟨q1,q2⟩
   .exact .inr ⟨w,z,q1,q2,q3⟩
 .cases h
noncomputable def aO (d k:D):ar D:=(jv d k).bind id
theorem bL (hu:X.A.units+66<cy) (ho:DE Γ X o fo) (hi:DE Γ X i fi') (hs:tD i:=by intro _ _;rfl):DE Γ X (.Subscript o i pos) (b2 aO fo fi'):=⟨(Bs .(f) ho.1 hi.1 hs).imp fun σ H Q=>by
 rintro⟨G₀,H₀,G,ρ,d,A,h,k⟩;unfold b2 at h;obtain⟨x,hx,h⟩:=oBd h;obtain⟨y,hy,h⟩:=oBd h;refine⟨G₀,H₀,G,ρ,x,A,hx,fun v G1 H1 s1 r1=>⟨G₀,H₀,G1,ρ,y,A.step s1,hy,fun u G2 H2 s2 r2=>?_⟩⟩;unfold aO at h;obtain⟨r,hr,h⟩:=oBd h;obtain⟨a,ov,rfl,hg,hc⟩:=rF s2.gh (r1.mono s2.gg) r2 hr;rcases hc with⟨rfl,_⟩|⟨w,z,rfl,rfl,rw'⟩
 .cases h
 .cases h;exact⟨a,w,rfl,hg,k w G2 H2 (s1.trans s2) rw'⟩⟩
noncomputable def yt (d k:D):ar D:=(jv d k).map fun r=>r.getD .non
theorem LY (hu:X.A.units+66<cy) (ho:DE Γ X o fo) (he:DE Γ X e f) (m:M1 X o "get" apos e cpos:=by exact⟨rfl,rfl,rfl,rfl⟩):DE Γ X (.Call (.Attribute o "get" apos) [e] [] cpos) (b2 yt fo f):=⟨(Me .(f) ho.1 he.1 m).imp fun σ H Q=>by
 rintro⟨G₀,H₀,G,ρ,d,A,h,k⟩;unfold b2 at h;obtain⟨x,hx,h⟩:=oBd h;obtain⟨y,hy,h⟩:=oBd h;unfold yt at h;obtain⟨r,hr,rfl⟩:=oMd h;refine⟨G₀,H₀,G,ρ,x,A,hx,fun v G1 H1 s1 r1=>?_⟩;obtain⟨a0,e0,d0⟩:=ED s1.gh r1 hr;refine⟨a0,e0,d0,G₀,H₀,G1,ρ,y,A.step s1,hy,fun u G2 H2 s2 r2=>?_⟩;obtain⟨a,ov,e1,hg,hc⟩:=rF s2.gh (r1.mono s2.gg) r2 hr;subst e0;cases e1;rcases hc with⟨rfl,rfl⟩|⟨w,z,rfl,rfl,rw'⟩
 .exact⟨ab,hg,k _ G2 H2 (s1.trans s2) .non⟩
 .exact⟨aa w,hg,k w G2 H2 (s1.trans s2) rw'⟩⟩
noncomputable def jd (d k x:D):ar D:=(jv d k).map fun r=>r.getD x
noncomputable def b3 (g:D->D->D->ar D) (fa fb fc:FE):FE:=fun ρ=>(fa ρ).bind fun x=>(fb ρ).bind fun y=>(fc ρ).bind fun z=>g x y z
theorem xI (hu:X.A.units+66<cy) (ho:DE Γ X o fo) (he:DE Γ X e f) (hf:DE Γ X c fc) (m:M2 X o "get" apos e c cpos:=by exact⟨rfl,rfl,rfl,rfl⟩):DE Γ X (.Call (.Attribute o "get" apos) [e,c] [] cpos) (b3 jd fo f fc):=⟨(Hq .(f) ho.1 he.1 hf.1 m).imp fun σ H Q=>by
 rintro⟨G₀,H₀,G,ρ,d,A,h,k⟩;unfold b3 at h;obtain⟨x,hx,h⟩:=oBd h;obtain⟨y,hy,h⟩:=oBd h;obtain⟨z,hz,h⟩:=oBd h;unfold jd at h;obtain⟨r,hr,rfl⟩:=oMd h;refine⟨G₀,H₀,G,ρ,x,A,hx,fun v G1 H1 s1 r1=>?_⟩;obtain⟨a0,e0,d0⟩:=ED s1.gh r1 hr;refine⟨a0,e0,d0,G₀,H₀,G1,ρ,y,A.step s1,hy,fun u G2 H2 s2 r2=>⟨G₀,H₀,G2,ρ,z,(A.step s1).step s2,hz,fun w3 G3 H3 s3 r3=>?_⟩⟩;obtain⟨a,ov,e1,hg,hc⟩:=rF s3.gh (r1.mono (s2.gg.trans s3.gg)) (r2.mono s3.gg) hr;subst e0;cases e1;rcases hc with⟨rfl,rfl⟩|⟨w,z,rfl,rfl,rw'⟩
 .exact⟨ab,hg,k _ G3 H3 ((s1.trans s2).trans s3) r3⟩
 .exact⟨aa w,hg,k w G3 H3 ((s1.trans s2).trans s3) rw'⟩⟩
noncomputable def fR (k d:D):ar D:=(jv d k).map fun r=>.bl r.isSome
noncomputable def mB (k d:D):ar D:=(jv d k).map fun r=>.bl (!r.isSome)
noncomputable def Bm (Γ:Cn) (K:bu) (neg:aQ):R2:=fun y x H Q=>∃G k d r,bT G H/\Rep Γ K G y k/\Rep Γ K G x d/\jv d k=aa r/\Q (.bl (if neg then !r.isSome else r.isSome)) H
theorem Pd (hu:X.A.units+66<cy):OpR X (dz .In) (Bm Γ X.K ao):=by
 intro pins s σ H x y v u Q I rx ry h;obtain⟨G,kd,d,r,gh,r1,r2,hr,q⟩:=h;obtain⟨a,ov,rfl,hg,hc⟩:=rF gh r2 r1 hr;cases ry;have e:ov.isSome=r.isSome:=by rcases hc with⟨rfl,rfl⟩|⟨w,z,rfl,rfl,_⟩<;>rfl
 exact Nb .(f) I hg rx fun s3 I3=>⟨.bl _,H,I3,rfl,by rw[e];exact q⟩
theorem Jb (hu:X.A.units+66<cy):OpR X (dz .NotIn) (Bm Γ X.K ah):=by
 intro pins s σ H x y v u Q I rx ry h;obtain⟨G,kd,d,r,gh,r1,r2,hr,q⟩:=h;obtain⟨a,ov,rfl,hg,hc⟩:=rF gh r2 r1 hr;cases ry;have e:ov.isSome=r.isSome:=by rcases hc with⟨rfl,rfl⟩|⟨w,z,rfl,rfl,_⟩<;>rfl
 exact Ld .(f) I hg rx fun s3 I3=>⟨.bl _,H,I3,rfl,by rw[e];exact q⟩
theorem rE (hu:X.A.units+66<cy):CmpD Γ X .In fR:=⟨_,Pd (Γ:=Γ) hu,fun {G H v u x y z} gh r1 r2 h Q k=>by unfold fR at h;obtain⟨r,hr,rfl⟩:=oMd h;exact⟨G,x,y,r,gh,r1,r2,hr,k _ G H (.refl gh) (.bl _)⟩⟩
theorem B9 (hu:X.A.units+66<cy):CmpD Γ X .NotIn mB:=⟨_,Jb (Γ:=Γ) hu,fun {G H v u x y z} gh r1 r2 h Q k=>by unfold mB at h;obtain⟨r,hr,rfl⟩:=oMd h;exact⟨G,x,y,r,gh,r1,r2,hr,k _ G H (.refl gh) (.bl _)⟩⟩
noncomputable def sNo:FS:=fun _=>ab
theorem xJ :DS Γ X st sNo:=⟨fun pins s σ H E I q=>by obtain⟨G₀,H₀,G,ρ,fl,ρ',A,h,k⟩:=q;cases h⟩
end
structure CF (Γ:Cn) (K:bu) (c:aj) (attrs:ac aj):Prop where
 ex:∃C,Γ.cls c=aa C/\Cls K C/\∀f∈attrs,lg K C f
variable {attrs:ac aj} {ke:Expr}
section
variable {a i:Expr} {fv:FE} {cl fl n:aj}
theorem j8 {K:bu} {G:Hp} {k:aj}:∀{us:ac (aj×V)} {fs:ac (aj×D)},us.map (·.1)=fs.map (·.1)->Reps Γ K G (us.map (·.2)) (fs.map (·.2))->
  (fs.lookup k=ab/\us.lookup k=ab)\/∃d v,fs.lookup k=aa d/\us.lookup k=aa v/\Rep Γ K G v d
 |[],[],_,_=>.inl ⟨rfl,rfl⟩
 |[],_::_,e,_=>by cases e
 |_::_,[],e,_=>by cases e
 |(k1,v)::us,(k2,d)::fs,e,r=>by
  have e1:k1=k2:=(ij e).1;have e2:us.map (·.1)=fs.map (·.1):=(ij e).2;subst e1;have r:Reps Γ K G (v::us.map (·.2)) (d::fs.map (·.2)):=r;cases r with
  |cons r1 r2=>
   by_cases h:k=k1
   .subst h;exact .inr ⟨d,v,by simp[dJ],by simp[dJ],r1⟩
   .have hb:(k==k1)=ao:=by simpa using h
    have:=j8 (k:=k) e2 r2;simpa[dJ,hb] using this
theorem yA {f:aj} {v:V}:∀{fs:ac (aj×V)},fs.lookup f=ab->fE f v fs=fs++[(f,v)]
 |[],_=>rfl
 |(g,x)::r,h=>by
  by_cases e:f=g
  .subst e;simp[dJ] at h
  .have hb:(f==g)=ao:=by simpa using e
   rw[fE,qZ (fun z=>e z.symm),yA (by simpa[dJ,hb] using h)];rfl
noncomputable def AU (c f:aj):D->ar D
 |.ins c' fs=>if c'=c then fs.lookup f else ab
 |_=>ab
noncomputable def gn (c f:aj) (fo:FE):FE:=fun ρ=>(fo ρ).bind (AU c f)
theorem jr (hc:CF Γ X.K cl attrs) (hf:fl∈attrs) (ho:DE Γ X o fo) (hb:ig o fl X.env (eval o X.env)=eval o X.env:=by rfl):DE Γ X (.Attribute o fl pos) (gn cl fl fo):=⟨(xl ho.1 hb).imp fun σ H Q=>by
 rintro⟨G₀,H₀,G,ρ,d,A,h,k⟩;unfold gn at h;obtain⟨x,hx,hq⟩:=oBd h;clear h;refine⟨G₀,H₀,G,ρ,x,A,hx,fun v G1 H1 s1 r1=>?_⟩;unfold AU at hq;split at hq
 .split at hq
  .rename_i ec;subst ec;obtain⟨C,q1,q2,q3⟩:=hc.ex;cases r1 with
   |ins h1 h2 h3 h4=>
    rw[q1] at h2;cases h2;rcases j8 (k:=fl) h3 h4 with⟨z1,_⟩|⟨d',v',z1,z2,z3⟩
    .rw[z1] at hq;cases hq
    .rw[z1] at hq;cases hq;exact⟨_,C,_,_,v',rfl,s1.gh _ _ h1,q2,q3 fl hf,z2,k v' G1 H1 s1 z3⟩
  .cases hq
 .cases hq⟩
noncomputable def Cw (f:aj):Slot->ar D
 |.obj _ fs=>fs.lookup f
 |.objd _ fs n _=>if f=n then ab else fs.lookup f
 |_=>ab
noncomputable def Kq:Slot->ar aj
 |.obj c _=>aa c
 |.objd c _ _ _=>aa c
 |_=>ab
noncomputable def jO (c f:aj) (i:al):FE:=fun ρ=>match ρ[i]? with
 |some (aa s)=>if Kq s=aa c then Cw f s else ab
 |_=>ab
theorem Ng {vs:ac (aj×V)} {f:aj} {w:V} (h:vs.lookup f=aa v):(vs++[(n,w)]).lookup f=aa v:=by
 induction vs with
 |nil=>cases h
 |cons p r ih=>
  obtain⟨g,x⟩:=p;by_cases e:f=g
  .subst e;simpa[dJ] using h
  .have hb:(f==g)=ao:=by simpa using e
   simp only[qq,dJ,hb] at h ⊢;exact ih h
theorem uv (i:al) (hc:CF Γ X.K cl attrs) (hf:fl∈attrs) (hN:X.N[i]?=aa x:=by rfl) (hv:Vis X.env.scope x:=by first|exact dc rfl|exact cH (dc rfl)|exact cH (cH rfl)) (hd:.(G)=ao:=by decide)
  (hcd:.(ap)=ao:=by decide) (hb:ig (.Name x vp) fl X.env (eval (.Name x vp) X.env)=eval (.Name x vp) X.env:=by rfl):DE Γ X (.Attribute (.Name x vp) fl pos) (jO cl fl i):=⟨(xl (iq hN hv hd hcd) hb).imp fun σ H Q=>by
 rintro⟨G₀,H₀,G,ρ,d,A,h,k⟩;unfold jO at h;split at h
 .rename_i s hi;split at h
  .rename_i hcl;obtain⟨C,q1,q2,q3⟩:=hc.ex;obtain⟨v,fp,h1,h2⟩:=A.get hi;cases h2 with
   |sh _=>cases h
   |own _ _ _ _=>cases h
   |odk _ _ _ _ _=>cases h
   |odt _ _ _ _ _=>cases h
   |tlo _ _ _ _ _ _=>cases h
   |oll _ _ _ _ _=>cases h
   |pin _=>cases h
   |obj g1 g2 g3 g4 g5 g6 g7=>
    cases hcl;rw[q1] at g1;cases g1;have h:dJ fl _=aa d:=h;rcases j8 (k:=fl) g5 g6 with⟨z1,_⟩|⟨d',v',z1,z2,z3⟩
    .rw[z1] at h;cases h
    .rw[z1] at h;cases h;exact⟨_,h1,_,C,_,_,v',rfl,g4,q2,q3 fl hf,z2,k v' G H (.refl A.gh) z3⟩
   |objd g1 g2 g3 g4 g5 g6 _ _ _ _ _ g7=>
    cases hcl;rw[q1] at g1;cases g1;unfold Cw at h;simp only at h;split at h
    .cases h
    .rcases j8 (k:=fl) g5 g6 with⟨z1,_⟩|⟨d',v',z1,z2,z3⟩
     .rw[z1] at h;cases h
     .rw[z1] at h;cases h;exact⟨_,h1,_,C,_,_,v',rfl,g4,q2,q3 fl hf,Ng z2,k v' G H (.refl A.gh) z3⟩
  .cases h
 .cases h⟩
noncomputable def gP (c f:aj) (i:al) (fv:FE):FS:=fun ρ=>(fv ρ).bind fun d=>match ρ[i]? with
 |some (aa (.obj c' fs))=>if c'=c/\fs.lookup f=ab/\fs.length<100 then aa (.nx,ρ.set i (aa (.obj c (fs++[(f,d)])))) else ab
 |_=>ab
theorem ju (i:al) (hc:CF Γ X.K cl attrs) (hf:fl∈attrs) (hv':DE Γ X value fv) (hN:X.N[i]?=aa x:=by rfl) (hv:Vis X.env.scope x:=by first|exact dc rfl|exact cH (dc rfl)|exact cH (cH rfl)) (hd:.(G)=ao:=by decide)
  (hcd:.(ap)=ao:=by decide) (hs:fG value (aa (.Attribute (.Name x vp) fl pos')) pos.line X.env=bG ao:=by rfl):DS Γ X (.Assign [.Attribute (.Name x vp) fl pos'] value pos) (gP cl fl i fv):=⟨(BJ (iq hN hv hd hcd) hv'.1 hs).imp fun E σ H=>by
 rintro⟨G₀,H₀,G,ρ,flw,ρ',A,h,k⟩;unfold gP at h;obtain⟨d,hd,h⟩:=oBd h;split at h
 .rename_i c' fs hi;split at h
  .rename_i hz;obtain⟨rfl,hz2,hz3⟩:=hz;cases h;obtain⟨C,q1,q2,q3⟩:=hc.ex;refine⟨G₀,H₀,G,ρ,d,A,hd,fun v G1 H1 s1 r1=>?_⟩;have A1:=A.step s1;obtain⟨w,fp,h1,h2⟩:=A1.get hi;cases h2 with
   |obj g1 g2 g3 g4 g5 g6 g7=>
    rename_i a C' dx vs;have g1':=g1;rw[q1] at g1;cases g1;have hl:vs.lookup fl=ab:=by
     rcases j8 (k:=fl) g5 g6 with⟨_,z2⟩|⟨d',v',z1,_,_⟩
     .exact z2
     .rw[z1] at hz2;cases hz2
    have hlen:vs.length=fs.length:=by simpa using cJ gm g5
    refine⟨_,h1,a,C,dx,vs,rfl,g4,q2,q3 fl hf,by omega,?_⟩;rw[yA hl];refine k σ G1 _ s1.gg (A1.ch hi h1 (.obj g1' g2 g3 g4 g5 g6 g7) (fun b o e hb=>?_) (.obj (vs:=vs++[(fl,v)]) g1' g2 g3 ca (by simp[g5]) (by simpa using g6.append (.cons r1 .nil)) g7) (fun b hb=>.inl hb) (.refl _) (fun b o e=>?_) (fun _ _ _ _=>rfl))
    .rw[a7 (fun z=>hb (ce.mpr z))];exact e
    .rw[a7 (ck e g3)];exact A1.gh b o e
  .cases h
 .cases h⟩
noncomputable def nX (c f:aj) (i:al):FS:=fun ρ=>match ρ[i]? with
 |some (aa (.obj c' fs))=>if c'=c/\fs.lookup f=ab/\fs.length<100 then aa (.nx,ρ.set i (aa (.objd c fs f []))) else ab
 |_=>ab
theorem MV (i:al) (hc:CF Γ X.K cl attrs) (hf:fl∈attrs) {dp:dD} (hN:X.N[i]?=aa x:=by rfl) (hv:Vis X.env.scope x:=by first|exact dc rfl|exact cH (dc rfl)|exact cH (cH rfl)) (hd:.(G)=ao:=by decide)
  (hcd:.(ap)=ao:=by decide) (hs:fG (.Dict [] [] dp) (aa (.Attribute (.Name x vp) fl pos')) pos.line X.env=bG ao:=by rfl):DS Γ X (.Assign [.Attribute (.Name x vp) fl pos'] (.Dict [] [] dp) pos) (nX cl fl i):=⟨(BJ (iq hN hv hd hcd) xE hs).imp fun E σ H=>by
 rintro⟨G₀,H₀,G,ρ,flw,ρ',A,h,k⟩ p hp;unfold nX at h;split at h
 .rename_i c' fs hi;split at h
  .rename_i hz;obtain⟨rfl,hz2,hz3⟩:=hz;cases h;obtain⟨C,q1,q2,q3⟩:=hc.ex;obtain⟨w,fp,h1,h2⟩:=A.get hi;cases h2 with
   |obj g1 g2 g3 g4 g5 g6 g7=>
    rename_i a C' dx vs;have g1':=g1;rw[q1] at g1;cases g1;have hl:vs.lookup fl=ab:=by
     rcases j8 (k:=fl) g5 g6 with⟨_,z2⟩|⟨d',v',z1,_,_⟩
     .exact z2
     .rw[z1] at hz2;cases hz2
    have hlen:vs.length=fs.length:=by simpa using cJ gm g5
    have npa:a≠p:=ck g4 hp;refine⟨_,h1,a,C,dx,vs,rfl,by rw[a7 npa];exact g4,q2,q3 fl hf,by omega,?_⟩;rw[yA hl];have hp0:H₀ p=ab:=A.st.hh.free hp;have hpg:G p=ab:=A.gh.free hp;refine k σ G _ (.refl _) (A.ch hi h1 (.obj g1' g2 g3 g4 g5 g6 g7) (fun b o e hb=>?_) (.objd (vs:=vs) (p:=p) (us:=[]) (kvs:=[]) g1' g2 g3 ca g5 g6 hp0 hpg (by rw[a7 npa.symm,ca]) rfl .nil g7) (fun b hb=>?_) (.refl _) (fun b o e=>?_) (fun _ _ _ _=>rfl))
    .rw[a7 (fun z=>hb (ce.mpr z)),a7 (ck e hp)];exact e
    .rcases c0.mp hb with rfl|hb
     .exact .inl (ce.mpr rfl)
     .rw[ce.mp hb];exact .inr hp
    .rw[a7 (ck e g3),a7 (ck e hpg)];exact A.gh b o e
  .cases h
 .cases h⟩
noncomputable def jB (c f:aj) (i:al) (fk fv:FE):FS:=fun ρ=>(fv ρ).bind fun d=>(fk ρ).bind fun kd=>(gJ kd).bind fun k=>match ρ[i]? with
 |some (aa (.objd c' fs n kvs))=>if c'=c/\n=f/\fs.lookup f=ab/\kvs.length<100000 then aa (.nx,ρ.set i (aa (.objd c fs n (eU kvs k d)))) else ab
 |_=>ab
theorem HU {vs:ac (aj×V)} {f:aj} {w:V} (h:vs.lookup f=ab):(vs++[(f,w)]).lookup f=aa w:=by
 induction vs with
 |nil=>simp[dJ]
 |cons p r ih=>
  obtain⟨g,x⟩:=p;by_cases e:f=g
  .subst e;simp[dJ] at h
  .have hb:(f==g)=ao:=by simpa using e
   simp only[qq,dJ,hb] at h ⊢;exact ih h
theorem Lp (i:al) (hu:X.A.units+66<cy) (hc:CF Γ X.K cl attrs) (hf:fl∈attrs) {ap:dD} (hk:DE Γ X ke fk) (hv':DE Γ X value fv) (hN:X.N[i]?=aa x:=by rfl) (hv:Vis X.env.scope x:=by first|exact dc rfl|exact cH (dc rfl)|exact cH (cH rfl)) (hd:.(G)=ao:=by decide)
  (hcd:.(ap)=ao:=by decide) (hb:ig (.Name x vp) fl X.env (eval (.Name x vp) X.env)=eval (.Name x vp) X.env:=by rfl) (hs:fG value (aa (.Subscript (.Attribute (.Name x vp) fl ap) ke pos')) pos.line X.env=bG ao:=by rfl) :
  DS Γ X (.Assign [.Subscript (.Attribute (.Name x vp) fl ap) ke pos'] value pos) (jB cl fl i fk fv):=⟨(Bv .(f) (xl (iq hN hv hd hcd) hb) hk.1 hv'.1 hs).imp fun E σ H=>by
 rintro⟨G₀,H₀,G,ρ,flw,ρ',A,h,k⟩;unfold jB at h;obtain⟨d,hd,ha⟩:=oBd h;clear h;obtain⟨kd,hkd,hb1⟩:=oBd ha;clear ha;obtain⟨kk,hkk,hq⟩:=oBd hb1;clear hb1;split at hq
 .rename_i c' fs n kvs hi;split at hq
  .rename_i hz;obtain⟨rfl,rfl,hz2,hz3⟩:=hz;cases hq;obtain⟨C,q1,q2,q3⟩:=hc.ex;refine⟨G₀,H₀,G,ρ,d,A,hd,fun v G1 H1 s1 r1=>?_⟩;have A1:=A.step s1;obtain⟨w,fp,h1,h2⟩:=A1.get hi;cases h2 with
   |objd g1 g2 g3 g4 g5 g6 y1 y2 y3 y4 y5 g7=>
    rename_i a C' dx p vs us;have g1':=g1;rw[q1] at g1;cases g1;have hl:vs.lookup n=ab:=by
     rcases j8 (k:=n) g5 g6 with⟨_,z2⟩|⟨d',v',z1,_,_⟩
     .exact z2
     .rw[z1] at hz2;cases hz2
    refine⟨_,h1,a,C,dx,_,.ref p,rfl,g4,q2,q3 n hf,HU hl,G₀,H₀,G1,ρ,kd,A1,hkd,fun u G2 H2 s2 r2=>?_⟩;have A2:=A1.step s2;have eu:=lD r2 hkk;subst eu;have hp2:H2 p=aa (.dK us):=s2.hh _ _ y3;have ha2:H2 a=aa (.ins C dx (vs++[(n,.ref p)])):=s2.hh _ _ g4;have ga2:G2 a=ab:=(s2.out _ _ g4).trans g3;have gp2:G2 p=ab:=(s2.out _ _ y3).trans y2;have npa:a≠p:=wv ha2 hp2 (by intro z;cases z);have hlen:us.length=kvs.length:=by simpa using cJ gm y4
    obtain⟨w1,w2⟩:=tQ (k:=kk) (r1.mono s2.gg) y4 (y5.mono s2.gg);refine⟨p,_,rfl,kH.k hp2 (by have:=fT;omega),?_⟩;refine k σ G2 _ (s1.gg.trans s2.gg) (A2.ch hi h1 (.objd g1' g2 ga2 ha2 g5 (g6.mono s2.gg) y1 gp2 hp2 y4 (y5.mono s2.gg) g7) (fun b o e hb=>?_) (.objd (p:=p) g1' g2 ga2 (by rw[a7 npa];exact ha2) g5 (g6.mono s2.gg) y1 gp2 ca w1 w2 g7) (fun b hb=>.inl hb) (.refl _) (fun b o e=>?_) (fun _ _ _ _=>rfl))
    .rw[a7 (fun z=>hb (by rw[z];exact qi _ qh))];exact e
    .rw[a7 (ck e gp2)];exact A2.gh b o e
  .cases hq
 .cases hq⟩
noncomputable def Di:Slot->ar D
 |.obj c fs=>aa (.ins c fs)
 |.objd c fs n kvs=>aa (.ins c (fs++[(n,.dk kvs)]))
 |_=>ab
theorem At.done (A:At Γ K G₀ H₀ G H ρ σ) {i:al} {s:Slot} (hi:ρ[i]?=aa (aa s)) (hd:Di s=aa d):∃a G',Γ.self=aa a/\Step G₀ H₀ G' H/\Rep Γ K G' (.ref a) d:=by
 obtain⟨v,fp,h1,h2⟩:=A.get hi;cases h2 with
 |sh _=>cases hd
 |own _ _ _ _=>cases hd
 |odk _ _ _ _ _=>cases hd
 |odt _ _ _ _ _=>cases hd
 |tlo _ _ _ _ _ _=>cases hd
 |oll _ _ _ _ _=>cases hd
 |pin _=>cases hd
 |obj g1 g2 g3 g4 g5 g6 g7=>
  cases hd;rename_i a C dx vs fs;have sm:bT G (upd G a (.ins C dx vs)):=fun b o e=>by rw[a7 (ck e g3)];exact e
  refine⟨a,upd G a (.ins C dx vs),g7,⟨A.st.hh,A.st.gg.trans sm,fun b o e=>?_,fun b o e=>?_⟩,.ins ca g1 g5 (g6.mono sm)⟩
  .by_cases hb:b=a
   .subst hb;rw[ca] at e;cases e;exact g4
   .rw[a7 hb] at e;exact A.gh b o e
  .rw[a7 (ck e g2)];exact A.st.out b o e
 |objd g1 g2 g3 g4 g5 g6 y1 y2 y3 y4 y5 g7=>
  cases hd;rename_i n a C dx p vs fs us kvs;have npa:a≠p:=wv g4 y3 (by intro z;cases z);have sm:bT G (upd (upd G p (.dK us)) a (.ins C dx (vs++[(n,.ref p)]))):=fun b o e=>by rw[a7 (ck e g3),a7 (ck e y2)];exact e
  refine⟨a,_,g7,⟨A.st.hh,A.st.gg.trans sm,fun b o e=>?_,fun b o e=>?_⟩,.ins (us:=vs++[(n,.ref p)]) (fs:=fs++[(n,.dk kvs)]) ca g1 (by simp[g5]) ?_⟩
  .by_cases hb:b=a
   .subst hb;rw[ca] at e;cases e;exact g4
   .rw[a7 hb] at e;by_cases hb':b=p
    .subst hb';rw[ca] at e;cases e;exact y3
    .rw[a7 hb'] at e;exact A.gh b o e
  .rw[a7 (ck e g2),a7 (ck e y1)];exact A.st.out b o e
  .have r2:Rep Γ K (upd (upd G p (.dK us)) a (.ins C dx (vs++[(n,.ref p)]))) (.ref p) (.dk kvs):=.dk (us:=us) (by rw[a7 npa.symm,ca]) y4 (y5.mono sm);simpa using(g6.mono sm).append (.cons r2 .nil)
end
noncomputable def Cn.mk1 (Γ:Cn) (x:av):Cn:=⟨Γ.cls,aa x⟩
section
variable {P:bV} {c:aj} {x:av}
theorem Rep.to1 (x:av) (r:Rep Γ K G v d):Rep (Γ.mk1 x) K G v d:=Rep.re (Γ:=Γ) (Γ':=Γ.mk1 x) rfl r
theorem Rep.of1 (r:Rep (Γ.mk1 x) K G v d):Rep Γ K G v d:=Rep.re (Γ:=Γ.mk1 x) (Γ':=Γ) rfl r
theorem Reps.of1 {v:ac V} {d:ac D} (r:Reps (Γ.mk1 x) K G v d):Reps Γ K G v d:=Reps.re (Γ:=Γ.mk1 x) (Γ':=Γ) rfl r
theorem CF.re (h:CF Γ K c attrs) (x:av):CF (Γ.mk1 x) K c attrs:=⟨h.ex⟩
theorem Ob {Q:VK} {E:XK} (x:av) (h:spF (Γ.mk1 x) K n F vs H Q E):spF Γ K n F vs H Q E:=by obtain⟨G,ds,d,h1,h2,h3,h4,k⟩:=h;exact⟨G,ds,d,h1,h2.of1,h3,h4,fun v G' H' s r=>k v G' H' s (r.to1 x)⟩
theorem Cal.re {y:aj} {k:al} (C:Cal Γ P w K mg base y n k F) (x:av):Cal (Γ.mk1 x) P w K mg base y n k F:=by obtain⟨f,fd,ps,h1,h2,h3,h4⟩:=C.ex;exact⟨f,fd,ps,h1.imp fun vs H Q E q=>Ob x q,h2,h3,h4⟩
structure CalM (Γ:Cn) (P:bV) (w:cR) (K:bu) (mg:aj->ar Value) (base:Heap) (c m:aj) (n k:al) (F:ac D->ar D):Prop where
 ex:∃C f fd ps,Γ.cls c=aa C/\Cls K C/\Meth K C m f/\FnOk P w K mg base CX0 k f fd ps (spF Γ K n F)/\gG K fd ps []
inductive spI (Γ:Cn) (K:bu) (C:av) (n:al) (F:ac D->ar D) (vs:ac V) (H:Hp) (Q:VK) (_e3:XK):Prop where
 |mk:∀x dx H1 G ds d us,vs=.ref x::us->H=upd (upd H1 dx (.own x)) x (.ins C dx [])->H1 x=ab->H1 dx=ab->dx≠x->bT G H1->Reps Γ K G us ds->ds.length=n->F ds=aa d->(∀G' H',Step G H1 G' H'->Rep Γ K G' (.ref x) d->Q .non H')->spI Γ K C n F vs H Q _e3
structure CalI (Γ:Cn) (P:bV) (w:cR) (K:bu) (mg:aj->ar Value) (base:Heap) (c:aj) (n k:al) (F:ac D->ar D):Prop where
 ex:∃C f fd ps,Γ.cls c=aa C/\Mk K C f/\mg c=aa (.ref C)/\FnOk P w K mg base CX0 k f fd ps (spI Γ K C n F)/\gG K fd ps []
end
section
variable {c:aj}
noncomputable def cS (c m:aj) (F:ac D->ar D) (fo:FE) (fr:FA):FE:=fun ρ=>(fo ρ).bind fun d=>match d with
 |.ins c' fs=>if c'=c/\fs.lookup m=ab then (fr ρ).bind fun ds=>F (d::ds) else ab
 |_=>ab
theorem oB {k:al} (C:CalM Γ X.prog X.w X.K X.mg X.base c m (n+1) k F) (hr:Room j X.A) (hk:k<=j) (ho:DE Γ X o fo) (ha:DA Γ X (e::es) fr) (hn:∀ρ ds,fr ρ=aa ds->ds.length=n)
  (hst:a8 (e::es) X.env=(ao,eval e X.env)::a8 es X.env:=by rfl) (hpl:(cN pos (a8 es X.env)).any (·.1)=ao:=by rfl)
  (ht:eval (.Call (.Attribute o m apos) (e::es) [] pos) X.env=(do
   let ov ←eval o X.env
   o6 apos.atName
   let (f,first) ←jX [ov] (pc ov m pl)
   sd pos f first (cN pos (a8 (e::es) X.env)) (ji pos (jj [] X.env))):=by rfl) :
  DE Γ X (.Call (.Attribute o m apos) (e::es) [] pos) (cS c m F fo fr):=⟨by
 obtain⟨Ca,f,fd,ps,h0,h1,h2,h3,h4⟩:=C.ex;refine(OG ho.1 h1 h2 h3 (hr.mono hk) h4 .nil rC ha.1 hst hpl ht).imp fun σ H Q=>?_;rintro⟨G₀,H₀,G,ρ,d,A,h,k⟩;unfold cS at h;obtain⟨x,hx,hq⟩:=oBd h;clear h;refine⟨G₀,H₀,G,ρ,x,A,hx,fun v G1 H1 s1 r1=>?_⟩;split at hq
 .rename_i c' fs;split at hq
  .rename_i hz;obtain⟨rfl,hz2⟩:=hz;obtain⟨ds,hds,hF⟩:=oBd hq;have r1':=r1;cases r1 with
   |ins g1 g2 g3 g4=>
    rw[h0] at g2;cases g2;rename_i _ _ us0;have hl:dJ m us0=ab:=by
     rcases j8 (k:=m) g3 g4 with⟨_,z2⟩|⟨d',v',z1,_,_⟩
     .exact z2
     .rw[z1] at hz2;cases hz2
    refine⟨_,_,_,rfl,s1.gh _ _ g1,hl,G₀,H₀,G1,ρ,ds,A.step s1,hds,fun vs G2 H2 s2 r2=>?_⟩;show spF Γ X.K (n+1) F (_::(vs++[])) H2 Q E0;rw[lT];exact⟨G2,_,d,s2.gh,.cons (r1'.mono s2.gg) r2,by rw[qj,hn ρ ds hds],hF,fun v G' H' s r=>k v G' H' ((s1.trans s2).trans s) r⟩
  .cases hq
 .cases hq⟩
theorem ib {k:al} (C:CalM Γ X.prog X.w X.K X.mg X.base c m 1 k F) (hr:Room j X.A) (hk:k<=j) (ho:DE Γ X o fo)
  (ht:eval (.Call (.Attribute o m apos) [] [] pos) X.env=(do
   let ov ←eval o X.env
   o6 apos.atName
   let (f,first) ←jX [ov] (pc ov m pl)
   sd pos f first (cN pos (a8 [] X.env)) (ji pos (jj [] X.env))):=by rfl) :
  DE Γ X (.Call (.Attribute o m apos) [] [] pos) (cS c m F fo ak):=⟨by
 obtain⟨Ca,f,fd,ps,h0,h1,h2,h3,h4⟩:=C.ex;refine(Oh ho.1 h1 h2 h3 (hr.mono hk) h4 .nil rC ht).imp fun σ H Q=>?_;rintro⟨G₀,H₀,G,ρ,d,A,h,k⟩;unfold cS at h;obtain⟨x,hx,hq⟩:=oBd h;clear h;refine⟨G₀,H₀,G,ρ,x,A,hx,fun v G1 H1 s1 r1=>?_⟩;split at hq
 .rename_i c' fs;split at hq
  .rename_i hz;obtain⟨rfl,hz2⟩:=hz;obtain⟨ds,hds,hF⟩:=oBd hq;cases hds;have r1':=r1;cases r1 with
   |ins g1 g2 g3 g4=>
    rw[h0] at g2;cases g2;rename_i _ _ us0;have hl:dJ m us0=ab:=by
     rcases j8 (k:=m) g3 g4 with⟨_,z2⟩|⟨d',v',z1,_,_⟩
     .exact z2
     .rw[z1] at hz2;cases hz2
    refine⟨_,_,_,rfl,s1.gh _ _ g1,hl,?_⟩;exact⟨G1,_,d,s1.gh,.cons r1' .nil,rfl,hF,fun v G' H' s r=>k v G' H' (s1.trans s) r⟩
  .cases hq
 .cases hq⟩
theorem Mc {k:al} (C:CalI Γ X.prog X.w X.K X.mg X.base c n k F) (hr:Room j X.A) (hk:k+1<=j) (hg:Gl X c) (ha:DA Γ X (e::es) fr) (hn:∀ρ ds,fr ρ=aa ds->ds.length=n)
  (hdb:(c==("__debug__":aj))=ao:=by decide) (he:a8 (e::es) X.env=(ao,eval e X.env)::a8 es X.env:=by rfl) (hpl:(cN pos (a8 es X.env)).any (·.1)=ao:=by rfl) :
  DE Γ X (.Call (.Name c p) (e::es) [] pos) (cF F fr):=⟨by
 obtain⟨Ca,f,fd,ps,h0,h1,h2,h3,h4⟩:=C.ex;refine(OS h1 h3 (hr.mono hk) hg h2 h4 .nil rC ha.1 hdb he hpl).imp fun σ H Q=>?_;rintro⟨G₀,H₀,G,ρ,d,A,h,k⟩;unfold cF at h;obtain⟨ds,hd,hq⟩:=oBd h;refine⟨G₀,H₀,G,ρ,ds,A,hd,fun vs G1 H1 s1 r1 x dx hx hdx hne=>?_⟩;rw[lT];exact⟨x,dx,H1,G1,ds,d,vs,rfl,rfl,hx,hdx,hne,s1.gh,r1,hn ρ ds hd,hq,fun G' H' s r=>⟨rfl,k _ G' H' (s1.trans s) r⟩⟩⟩
end
noncomputable def nL (n:al) (c:aj) (g:FS):ac D->ar D:=fun ds=>(g (aa (.obj c [])::ds.map (fun d=>aa (Slot.sh d))++cq n ab)).bind fun r=>match r.1 with
 |.nx=>match r.2[0]? with
  |some (aa s)=>Di s
  |_=>ab
 |_=>ab
variable {s0:aj}
section
variable {P:bV} {c:aj}
theorem Fun.okI {f:av} {k:al} (F:Fun K x qual st f fd) (S:FnScope N (s0::ps) (aS st)) (hC:Γ.cls c=aa C)
  (hbody:∀(y:av) (cdv:Value) (A:dB) (outer:ac c8) (s:aH) (H:Hp) (E:XK),Room k .(ax)->
   DSs (Γ.mk1 y) .(ak).nox (dS st) g):FnOk P w K mg base CX0 (k+1) f fd (s0::ps) (spI Γ K C ps.length (nL (N.length-(ps.length+1)) c g)):=by
 refine F.ok S (fun vs H Q E h=>?_) (fun cdv A outer s H vs Q E hr h=>?_)
 .obtain⟨y,dx,H1,G,ds,d,us,rfl,_,_,_,_,_,r,hl,_⟩:=h;rw[qj,r.length,hl,qj]
 .obtain⟨y,dx,H1,G,ds,d,us,rfl,rfl,hx,hdx,hne,gh,r,hl,hd,k⟩:=h;refine⟨_,(hbody y cdv A outer s _ E hr).1,?_⟩;unfold nL at hd;obtain⟨⟨fl,ρ'⟩,hg,hd⟩:=oBd hd;have s1:=Step.newOwn (o:=.own y) gh hdx;have hx1:(upd H1 dx (.own y)) y=ab:=by rw[a7 (dI hne)];exact hx
  have s2:=s1.trans (Step.newOwn (o:=.ins C dx []) s1.gh hx1);have hlen:us.length=ds.length:=r.length;have A0:At (Γ.mk1 y) K G H1 G (upd (upd H1 dx (.own y)) y (.ins C dx [])) (aa (.obj c [])::ds.map (fun d=>aa (Slot.sh d))++cq (N.length-(ps.length+1)) ab) (gR N (.ref y::us)):=by
   refine⟨s2,by simp[gR,hlen,hl],fun i=>if i=0 then [y] else [],fun i t e=>?_,fun i j t u hij e1 e2 b hb=>?_⟩
   .cases i with
    |zero=>
     cases e;exact⟨.ref y,rfl,.obj (vs:=[]) (fs:=[]) hC hx (gh.free hx) ca rfl .nil rfl⟩
    |succ i=>
     have e:(ds.map (fun d=>aa (Slot.sh d))++cq (N.length-(ps.length+1)) ab)[i]?=aa (aa t):=e;by_cases hi:i<ds.length
     .rw[qy (by simpa using hi),ql] at e;obtain⟨d',hd',e⟩:=oMd e;cases e;obtain⟨v,hv,rv⟩:=r.get hd';refine⟨v,?_,.sh (rv.to1 y)⟩;unfold gR;show((us.map aa)++_)[i]?=aa (aa v);rw[qy (by rw[qg,hlen];exact hi),ql,hv];rfl
     .rw[qJ (by simpa using hi),zf] at e;split at e<;>cases e
   .have hb:b∈(if i=0 then [y] else []):=hb;show b∉(if j=0 then [y] else []);by_cases hi:i=0
    .subst hi;rw[qZ (dI hij)];exact fun z=>by cases z
    .rw[qZ hi] at hb;cases hb
  refine⟨G,H1,G,_,fl,ρ',A0,hg,fun σ' G' H' sm A'=>?_⟩;cases fl with
  |nx=>
   simp only at hd;split at hd
   .rename_i sl hs;obtain⟨a,G2,e1,st2,rp⟩:=A'.done hs hd;cases e1;exact k G2 H' st2 rp.of1
   .cases hd
  |rt d'=>cases hd
  |ow d'=>cases hd
  |nw d'=>cases hd
  |od d'=>cases hd
  |bk=>cases hd
  |ct=>cases hd
structure DfnM (K:bu) (C:av) (c m qual:aj) (st:Stmt):Prop where
 ex:∃f fd,Fun K m qual st f fd/\dN K (.ref C) m=aa (aa (.ref f))/\vx K (.ref f)=ah
structure ClsOk (Γ:Cn) (K:bu) (mg:aj->ar Value) (c:aj) (C:av):Prop where
 cn:Γ.cls c=aa C
 cl:Cls K C
 mgC:mg c=aa (.ref C)
 makes:y9 K C=ah
 kp:iI K (.ref C)=ah
theorem DfnM.cal {k:al} (O:ClsOk Γ K mg c C) (F:DfnM K C c m qual st) (S:FnScope N ps (aS st))
  (hb:∀(kV doc pm:Value) (an:ar av) (cdv ct:Value) (us:ac Value),us.length=ps.length->kP (gW m qual (hZ st) (dS st) (aS st) .none kV doc pm an cdv ct) ⟨us,[]⟩=bG (ps.zip us))
  (hbody:∀(f:av) (cdv:Value) (A:dB) (outer:ac c8) (s:aH) (H:Hp) (E:XK),Room k .(ax)->
   DSs Γ .(ak).nox (dS st) g):CalM Γ P w K mg base c m ps.length (k+1) (a6 (N.length-ps.length) g):=by
 obtain⟨f,fd,h1,h2,h3⟩:=F.ex;exact⟨C,f,fd,ps,O.cn,O.cl,⟨h2,h3,h1.kp⟩,h1.okD S (hbody f),h1.binds hb⟩
theorem DfnM.calI {k:al} (O:ClsOk Γ K mg c C) (F:DfnM K C c "__init__" qual st) (S:FnScope N (s0::ps) (aS st))
  (hb:∀(kV doc pm:Value) (an:ar av) (cdv ct:Value) (us:ac Value),us.length=(s0::ps).length->kP (gW "__init__" qual (hZ st) (dS st) (aS st) .none kV doc pm an cdv ct) ⟨us,[]⟩=bG ((s0::ps).zip us))
  (hbody:∀(f y:av) (cdv:Value) (A:dB) (outer:ac c8) (s:aH) (H:Hp) (E:XK),Room k .(ax)->
   DSs (Γ.mk1 y) .(ak).nox (dS st) g):CalI Γ P w K mg base c ps.length (k+1) (nL (N.length-(ps.length+1)) c g):=by
 obtain⟨f,fd,h1,h2,h3⟩:=F.ex;exact⟨C,f,fd,s0::ps,O.cn,⟨O.makes,h2,h3,O.kp⟩,O.mgC,h1.okI S O.cn (hbody f),h1.binds hb⟩
theorem ClsOk.cf (O:ClsOk Γ K mg c C) (h:∀f∈attrs,lg K C f):CF Γ K c attrs:=⟨C,O.cn,O.cl,h⟩
end
variable {M n0 ep:al} {h:ag} {owner:bQ (ar al)} {hs:ac ag} {I S:av} {wr:ac av} {hashAt:al->ag} {h0:Heap} {es':bQ (ag×Value)}
namespace ST
structure Pr where
 j:al
 more:al
 i:al
 pt:al
noncomputable def adv (M:al) (p:Pr):Pr:=if p.more > 0 then {p with j:=p.j+1,more:=p.more-1} else
 {j:=(jq M p.i p.pt).1,more:=dv M (jq M p.i p.pt).1-(jq M p.i p.pt).1,i:=(jq M p.i p.pt).1,pt:=(jq M p.i p.pt).2}
noncomputable def st0 (M:al) (h:ag):Pr:={j:=fV h%(M+1),more:=dv M (fV h%(M+1))-fV h%(M+1),i:=fV h%(M+1),pt:=fV h}
noncomputable def it (M:al) (h:ag):al->Pr
 |0=>st0 M h
 |n+1=>adv M (it M h n)
noncomputable def J (M:al) (h:ag) (n:al):al:=(it M h n).j
noncomputable def lp (M:al) (h:ag):al->al×al
 |0=>(fV h%(M+1),fV h)
 |r+1=>jq M .(Y).1 .(Y).2
noncomputable def m8 (M:al) (x:al×al):Pr:={j:=x.1,more:=dv M x.1-x.1,i:=x.1,pt:=x.2}
theorem uU (M:al) (h:ag) (n:al):∀k,it M h (n+k)=(Nat.repeat (adv M) k (it M h n))
 |0=>rfl
 |k+1=>by rw[←Fv,it,uU M h n k];rfl
theorem KM (M i:al):dv M i-i<=9:=by unfold dv;split<;>omega
theorem tP (M:al):∀(k:al) (p:Pr),k<=p.more->Nat.repeat (adv M) k p={p with j:=p.j+k,more:=p.more-k}
 |0,p,_=>rfl
 |k+1,p,h=>by rw[Nat.repeat,tP M k p .(f)];unfold adv;rw[qY (by show p.more-k > 0;omega)];simp only[Nat.sub_sub,Fv]
theorem CJ (M:al) (h:ag):∀r,∃n,n<=10*r/\it M h n=m8 M .(Y)
 |0=>⟨0,qw _,rfl⟩
 |r+1=>by obtain⟨n,hn,e⟩:=CJ M h r;have hl:=KM M .(Y).1;refine⟨n+(dv M .(Y).1-.(Y).1)+1,by omega,?_⟩;have e2:=tP M (dv M .(Y).1-.(Y).1) (m8 M .(Y)) (qw _);rw[it,uU,e,e2];unfold adv;rw[qZ (by show ¬((dv M .(Y).1-.(Y).1)-(dv M .(Y).1-.(Y).1) > 0);omega)];rfl
theorem J4 (h:ag):fV h<2 ^ 64:=by unfold fV;have h1:=qX h (show(2 ^ 64:ag)≠0 by decide);have h2:=qU h (show(0:ag)<2 ^ 64 by decide);omega
theorem Cy (M:al) (h:ag):∀r,.(Y).2=fV h / 32 ^ r
 |0=>by simp[lp]
 |r+1=>by show.(Y).2 / 32=_;rw[Cy M h r,Nat.div_div_eq_div_mul,Nat.pow_succ]
theorem Nh (M:al) (h:ag) {r:al} (hr:13<=r):.(Y).2=0:=by rw[Cy];refine Nat.div_eq_of_lt (qE (J4 h) ?_);exact qL (show 2 ^ 64<=32 ^ 13 by decide) (Nat.pow_le_pow_right .(h) hr)
noncomputable def fl (M i:al):al:=(i*5+1)%(M+1)
noncomputable def orb (M:al):al->al->al
 |0,i=>i
 |m+1,i=>fl M (orb M m i)
theorem yJ (M:al) (h:ag):∀m,(lp M h (13+m)).1=orb M m (lp M h 13).1
 |0=>rfl
 |m+1=>by show(jq M (lp M h (13+m)).1 (lp M h (13+m)).2).1=_;rw[Nh M h .(f),yJ M h m];simp[jq,orb,fl]
theorem uC (M i:al) (a:al):∀b,orb M (a+b) i=orb M b (orb M a i)
 |0=>rfl
 |b+1=>by rw[←Fv,orb,uC M i a b];rfl
noncomputable def wp (M:al):al->al->ac al
 |0,_=>[]
 |n+1,i=>i::wp M n (fl M i)
theorem Cz (M:al):∀m i,orb M (m+1) i=orb M m (fl M i)
 |0,_=>rfl
 |m+1,i=>by rw[orb,Cz M m i];rfl
theorem Dy (M:al):∀(n i j:al),j∈wp M n i->∃m,m<n/\orb M m i=j
 |0,_,_,h=>nomatch h
 |n+1,i,j,h=>by
  rcases c0.mp h with e|h
  .exact⟨0,vL _,e.symm⟩
  .obtain⟨m,hm,e⟩:=Dy M n (fl M i) j h;exact⟨m+1,by omega,by rw[Cz];exact e⟩
structure Full (M:al):Prop where
 all:∀j,j<=M->∃m,m<M+1/\orb M m 0=j
 back:orb M (M+1) 0=0
noncomputable def chk (M:al):aQ:=(cV (M+1)).all (fun j=>(wp M (M+1) 0).contains j) && orb M (M+1) 0==0
theorem tf (h:chk M=ah):Full M:=by unfold chk at h;rw[fU,sA] at h;refine⟨fun j hj=>?_,by simpa using h.2⟩;have:=h.1 j (fB.mpr .(f));exact Dy M (M+1) 0 j (by simpa using this)
theorem yN:Full 7:=tf .(r)
theorem Ov:Full 31:=tf .(r)
theorem Ih:Full 127:=tf .(r)
theorem Gb:Full 511:=tf .(r)
theorem Full.reach (F:Full M) (hi:i<=M) (hj:j<=M):∃m,m<=M/\orb M m i=j:=by
 obtain⟨a,ha,ea⟩:=F.all i hi;obtain⟨b,hb,eb⟩:=F.all j hj;by_cases h:a<=b
 .refine⟨b-a,by omega,?_⟩;rw[←ea,←uC,show a+(b-a)=b by omega,eb]
 .refine⟨M+1-a+b,by omega,?_⟩;rw[←ea,←uC,show a+(M+1-a+b)=(M+1)+b by omega,uC,F.back,eb]
theorem xn (M:al) (h:ag):∀r,.(Y).1<=M
 |0=>Fw.mp (zF _ (vL _))
 |r+1=>Fw.mp (zF _ (vL _))
theorem Full.covers (F:Full M) (h:ag) (hj:j<=M):∃n,n<10*(M+15)/\J M h n=j:=by obtain⟨m,hm,e⟩:=F.reach (xn M h 13) hj;obtain⟨n,hn,en⟩:=CJ M h (13+m);refine⟨n,by omega,?_⟩;unfold J;rw[en];show(lp M h (13+m)).1=j;rw[yJ,e]
theorem Cs (M:al) (h:ag):∀n,(it M h n).j+(it M h n).more<=M
 |0=>by
  have:=xn M h 0;show(lp M h 0).1+(dv M (lp M h 0).1-(lp M h 0).1)<=M;unfold dv;split<;>omega
 |n+1=>by
  have ih:=Cs M h n;rw[it];unfold adv;split
  .show(it M h n).j+1+((it M h n).more-1)<=M;omega
  .show(jq M (it M h n).i (it M h n).pt).1+(dv M (jq M (it M h n).i (it M h n).pt).1-(jq M (it M h n).i (it M h n).pt).1)<=M;have:(jq M (it M h n).i (it M h n).pt).1<=M:=Fw.mp (zF _ (vL _));unfold dv;split<;>omega
theorem yL (M:al) (h:ag) (n:al):J M h n<=M:=qL (Fx _ _) (Cs M h n)
theorem Full.first (F:Full M) (h:ag) (occ:al->aQ) (hf:∃j,j<=M/\occ j=ao):∃n,n<10*(M+15)/\occ (J M h n)=ao/\∀m,m<n->occ (J M h m)=ah:=by
 obtain⟨j,hj,hof⟩:=hf;obtain⟨n,hn,e⟩:=F.covers h hj;have key:∀n,n<10*(M+15)->occ (J M h n)=ao->∃n,n<10*(M+15)/\occ (J M h n)=ao/\∀m,m<n->occ (J M h m)=ah:=by
  intro n
  induction n using Nat.strongRecOn with
  |ind n ih=>
   intro hn ho;by_cases hx:∃m,m<n/\occ (J M h m)=ao
   .obtain⟨m,hm,hm2⟩:=hx;exact ih m hm .(f) hm2
   .refine⟨n,hn,ho,fun m hm=>?_⟩;cases q:occ (J M h m) with
    |true=>rfl
    |false=>exact bK ⟨m,hm,q⟩ hx
 exact key n hn (by rw[e];exact hof)
theorem wt (xs:bQ al) (j:al) (hs:xs.toList.Pairwise (· < ·)):∀(fuel lo hi:al),hi-lo<=fuel->lo<=hi->hi<=xs.size->(∀i,i<lo->∀v,xs[i]?=aa v->v<j)->(∀i,hi<=i->∀v,xs[i]?=aa v->j<=v)->
  (zG xs j fuel lo hi<=xs.size)/\(∀i,i<zG xs j fuel lo hi->∀v,xs[i]?=aa v->v<j)/\∀i,zG xs j fuel lo hi<=i->∀v,xs[i]?=aa v->j<=v
 |0,lo,hi,hf,hl,hh,h1,h2=>by
  have e:lo=hi:=by omega
  subst e;exact⟨hh,h1,h2⟩
 |fuel+1,lo,hi,hf,hl,hh,h1,h2=>by
  have mono:∀a b va vb,a<b->xs[a]?=aa va->xs[b]?=aa vb->va<vb:=fun a b va vb hab ha hb=>by have:=zH.mp hs a b;obtain⟨a1,a2⟩:=gX.mp ha;obtain⟨b1,b2⟩:=gX.mp hb;have q:=this (by simpa using a1) (by simpa using b1) hab;simpa[a2,b2] using q
  unfold zG;by_cases hlt:lo<hi
  .rw[qY hlt];have hm1:lo<=(lo+hi) / 2:=by omega
   have hm2:(lo+hi) / 2<hi:=by omega
   have hget:∃v,xs[(lo+hi) / 2]?=aa v:=⟨xs[(lo+hi) / 2]'.(f),by simp[show(lo+hi) / 2<xs.size by omega]⟩;obtain⟨v,hv⟩:=hget;have hd:xs.getD ((lo+hi) / 2) j=v:=by simp[zI,hv]
   dsimp only;rw[hd];by_cases hvj:v<j
   .rw[qY hvj];refine wt xs j hs fuel _ _ .(f) .(f) hh (fun i hi' w hw=>?_) h2;rcases ik i ((lo+hi) / 2) with hi2|hi2
    .exact sr (mono i _ w v hi2 hw hv) hvj
    .have e:i=(lo+hi) / 2:=by omega
     subst e;rw[hv] at hw;cases hw;exact hvj
   .rw[qZ hvj];refine wt xs j hs fuel _ _ .(f) .(f) .(f) h1 fun i hi' w hw=>?_;rcases ik ((lo+hi) / 2) i with hi2|hi2
    .exact qL .(f) (rW (mono _ i v w hi2 hv hw))
    .have e:i=(lo+hi) / 2:=by omega
     subst e;rw[hv] at hw;cases hw;omega
  .rw[qZ hlt];have e:lo=hi:=by omega
   subst e;exact⟨hh,h1,h2⟩
theorem oO (xs:bQ al) (j:al) (hs:xs.toList.Pairwise (· < ·)):cg xs j<=xs.size/\(∀i,i<cg xs j->∀v,xs[i]?=aa v->v<j)/\∀i,cg xs j<=i->∀v,xs[i]?=aa v->j<=v:=
 wt xs j hs xs.size 0 xs.size (qw _) (iK _) (qw _) (fun i h=>bK h (Fy _)) fun i h v hv=>by have:=(gX.mp hv).1;omega
theorem wL (xs:bQ al) (j i:al) (hs:xs.toList.Pairwise (· < ·)) (h:xs[i]?=aa j):cg xs j=i:=by
 obtain⟨h0,h1,h2⟩:=oO xs j hs;rcases RC (cg xs j) i with hl|hl|hl
 .have hi:=(gX.mp h).1;have hg:xs[cg xs j]?=aa (xs[cg xs j]'.(f)):=by simp[show cg xs j<xs.size by omega]
  have q1:=h2 _ (qw _) _ hg;have:=zH.mp hs (cg xs j) i (by simp;omega) (by simpa using hi) hl;obtain⟨_,e⟩:=gX.mp h;simp only[RD] at this;omega
 .exact hl
 .have:=h1 i hl j h;omega
structure Tb (t:im) (es:bQ (ag×Value)):Prop where
 full:Full t.mask
 sz:t.place.size=es.size
 dm:t.dummies=#[]
 ri:t.place.toList.Pairwise (· < ·)
 le:∀j∈t.place.toList,j<=t.mask
 few:es.size*5<t.mask*3
 rc:∀(i j:al) (h:ag) (x:Value),t.place[i]?=aa j->es[i]?=aa (h,x)->∃n,J t.mask h n=j/\∀m,m<n->J t.mask h m∈t.place.toList
section
variable {t:im} {es:bQ (ag×Value)}
theorem Tb.live (T:Tb t es) (h:t.place[i]?=aa j):t.slot j=.live i:=by unfold RE;rw[wL _ _ _ T.ri h];simp[h]
theorem Tb.empty (T:Tb t es) (h:j∉t.place.toList):t.slot j=.empty:=by
 unfold RE;have h1:t.place[cg t.place j]?≠aa j:=fun e=>h (by rw[←qH] at e;exact qO e)
 have h2:zJ t.dummies j=ao:=by rw[T.dm];rfl
 simp[h1,h2]
theorem Tb.occ (T:Tb t es) (h:j∈t.place.toList):∃i:al,t.place[i]?=aa j:=by obtain⟨i,hi⟩:=vJ.mp h;exact⟨i,by rw[←qH];exact hi⟩
theorem Tb.fits (T:Tb t es):t.fits es.size=ah:=by have h1:=T.sz;have h2:=T.few;simp only[pr,Fz,T.dm,Array.size_empty,fU,kO,l0];omega
theorem ro:∀(a b:ac al),a.Nodup->(∀x∈a,x∈b)->a.length<=b.length
 |[],_,_,_=>iK _
 |x::r,b,nd,h=>by have hx:=h x qh;have nd':=kQ.mp nd;have:=ro r (b.erase x) nd'.2 fun y hy=>(List.mem_erase_of_ne (show y≠x from fun e=>nd'.1 (by rw[←e];exact hy))).mpr (h y (qi _ hy));have hl:=List.length_erase_of_mem hx;have hp:0<b.length:=List.length_pos_of_mem hx;rw[qj];omega
theorem Tb.free (T:Tb t es):∃j,j<=t.mask/\decide (j∈t.place.toList)=ao:=by
 by_cases hx:∃j,j<=t.mask/\j∉t.place.toList
 .obtain⟨j,h1,h2⟩:=hx;exact⟨j,h1,qM h2⟩
 .exfalso;have all:∀j,j<=t.mask->j∈t.place.toList:=fun j hj=>Classical.byContradiction fun hn=>hx ⟨j,hj,hn⟩;have h1:=ro (cV (t.mask+1)) t.place.toList zK fun j hj=>all j (by have:=fB.mp hj;omega);have h2:=T.sz;have h3:=T.few;simp only[qT,gf] at h1;omega
theorem Tb.first (T:Tb t es) (h:ag):∃n,n<10*(t.mask+15)/\J t.mask h n∉t.place.toList/\∀m,m<n->J t.mask h m∈t.place.toList:=by obtain⟨n,h1,h2,h3⟩:=T.full.first h (fun j=>decide (j∈t.place.toList)) T.free;exact⟨n,h1,of_decide_eq_false h2,fun m hm=>fC (h3 m hm)⟩
noncomputable def gU (p:Pr):zL:={j:=p.j,more:=p.more,i:=p.i,perturb:=p.pt,dummy:=ab}
theorem NX (t:im) (h:ag):t.probeStart h=gU (it t.mask h 0):=rfl
theorem Dt (t:im) (p:Pr):t.advance (gU p)=gU (adv t.mask p):=by
 unfold SetTable.advance adv gU;by_cases h:p.more > 0
 .simp only[h,cK]
 .simp only[h,c9]
theorem Tb.probe_go (T:Tb t es) (hashAt:al->ag) (h:ag) {n0:al} (hf:J t.mask h n0∉t.place.toList) (ho:∀m,m<n0->J t.mask h m∈t.place.toList):∀(fuel n:al),n<=n0->n0<n+fuel->
  (∃n' i,n<=n'/\n'<n0/\t.place[i]?=aa (J t.mask h n')/\hashAt i=h/\(∀m i,n<=m->m<n'->t.place[i]?=aa (J t.mask h m)->hashAt i≠h)/\FB t hashAt h fuel (gU (it t.mask h n))=aa (.candidate (J t.mask h n') i (gU (it t.mask h (n'+1))))) \/
  ((∀m i,n<=m->m<n0->t.place[i]?=aa (J t.mask h m)->hashAt i≠h)/\FB t hashAt h fuel (gU (it t.mask h n))=aa (.empty (J t.mask h n0) ab))
 |0,n,h1,h2=>by omega
 |fuel+1,n,h1,h2=>by
  unfold FB;by_cases hn:n=n0
  .subst hn
   right
   refine⟨fun m i a b=>by omega,?_⟩;have hs:t.slot (gU (it t.mask h n)).j=.empty:=T.empty hf;rw[hs];rfl
  .obtain⟨i,hi⟩:=T.occ (ho n .(f));have hs:t.slot (gU (it t.mask h n)).j=.live i:=T.live hi;rw[hs];dsimp only;by_cases hh:hashAt i=h
   .left
    refine⟨n,i,qw _,by omega,hi,hh,fun m i a b=>by omega,?_⟩;rw[qY (by simpa using hh),Dt];rfl
   .rw[qZ (by simpa using hh),Dt];have inj:∀i',t.place[i']?=aa (J t.mask h n)->i'=i:=fun i' h'=>by rw[←wL _ _ _ T.ri h',←wL _ _ _ T.ri hi]
    have ext:∀{b:al},(∀m i,n+1<=m->m<b->t.place[i]?=aa (J t.mask h m)->hashAt i≠h)->∀m i,n<=m->m<b->t.place[i]?=aa (J t.mask h m)->hashAt i≠h:=fun {b} q m i' a c d=>by
     by_cases e:m=n
     .subst e;rw[inj i' d];exact hh
     .exact q m i' .(f) c d
    rcases T.probe_go hashAt h hf ho fuel (n+1) .(f) .(f) with⟨n',i',a,b,c,d,e,f⟩|⟨e,f⟩
    .exact .inl ⟨n',i',by omega,b,c,d,ext e,f⟩
    .exact .inr ⟨ext e,f⟩
theorem lH (xs:bQ α) (p:al) (x:α) (hp:p<=xs.size):(cv xs p x).toList=xs.toList.take p++x::xs.toList.drop p:=by unfold cv;simp[Array.toList_extract,List.extract_eq_take_drop];exact sy (by simp)
theorem Dw (l:ac α) (p:al) (x:α) (hp:p<=l.length) (i:al):(l.take p++x::l.drop p)[i]?=if i<p then l[i]? else if i=p then aa x else l[i-1]?:=by
 by_cases h1:i<p
 .rw[qY h1,qy (by rw[qD];omega),zg h1]
 .rw[qZ h1,qJ (by rw[qD];omega),qD,RF hp];by_cases h2:i=p
  .rw[qY h2,h2];simp
  .rw[qZ h2];obtain⟨k,hk⟩:∃k,i-p=k+1:=⟨i-p-1,by omega⟩;rw[hk,qe,RG]
   congr 1
   omega
theorem wj (l:ac α) (p:al) (x y:α):y∈l.take p++x::l.drop p↔y=x\/y∈l:=by
 rw[fS,qK];constructor
 .rintro(h|h|h)
  .exact .inr (vM h)
  .exact .inl h
  .exact .inr (List.mem_of_mem_drop h)
 .rintro(h|h)
  .exact .inr (.inl h)
  .have:y∈l.take p++l.drop p:=by rw[sC];exact h
   rcases fS.mp this with h|h
   .exact .inl h
   .exact .inr (.inr h)
theorem Tb.put (T:Tb t es) {x:Value} (hf:J t.mask h n0∉t.place.toList) (ho:∀m,m<n0->J t.mask h m∈t.place.toList) (few:(es.size+1)*5<t.mask*3) (pl:aQ) :
  Tb { (t.put (J t.mask h n0)).1 with plain:=pl} (cv es (t.put (J t.mask h n0)).2 (h,x)):=by
 obtain⟨b0,b1,b2⟩:=oO t.place (J t.mask h n0) T.ri;have bes:cg t.place (J t.mask h n0)<=es.size:=by rw[←T.sz];exact b0
 have pl1:(cv t.place .(M) (J t.mask h n0)).toList=t.place.toList.take .(M)++J t.mask h n0::t.place.toList.drop .(M):=lH _ _ _ b0;have el1:(cv es .(M) (h,x)).toList=es.toList.take .(M)++(h,x)::es.toList.drop .(M):=lH _ _ _ bes;have szp:(cv t.place .(M) (J t.mask h n0)).size=t.place.size+1:=by rw[←gf,pl1];simp;omega
 have sze:(cv es .(M) (h,x)).size=es.size+1:=by rw[←gf,el1];simp;omega
 refine⟨T.full,?_,?_,?_,?_,?_,?_⟩
 .show(cv t.place _ _).size=_;rw[szp];show _=(cv es .(M) (h,x)).size;rw[sze,T.sz]
 .show(if zJ t.dummies (J t.mask h n0)=ah then _ else t.dummies)=#[];rw[T.dm];rfl
 .show(cv t.place .(M) (J t.mask h n0)).toList.Pairwise (· < ·);rw[pl1,List.pairwise_append,RH];have tk:∀a∈t.place.toList.take .(M),a<J t.mask h n0:=fun a ha=>by
   obtain⟨i,hi⟩:=vJ.mp ha;have hi':i<cg t.place (J t.mask h n0):=by have:=(di.mp hi).1;rw[qD] at this;omega
   rw[zg hi',qH] at hi;exact b1 i hi' a hi
  have dr:∀a∈t.place.toList.drop .(M),J t.mask h n0<a:=fun a ha=>by
   obtain⟨i,hi⟩:=vJ.mp ha;rw[RG,qH] at hi;have h1:=b2 _ (Fx _ i) a hi;rcases ik (J t.mask h n0) a with q|q
   .exact q
   .exact bK (by rw[←qH] at hi;have e:a=J t.mask h n0:=.(f);rw[e] at hi;exact qO hi) hf
  refine⟨T.ri.sublist (E4 _ _),⟨dr,T.ri.sublist (List.drop_sublist _ _)⟩,fun a ha b hb=>?_⟩;rcases c0.mp hb with e|hb
  .rw[e];exact tk a ha
  .exact sr (tk a ha) (dr b hb)
 .intro j hj;have hj':j∈(cv t.place .(M) (J t.mask h n0)).toList:=hj;rw[pl1,wj] at hj';rcases hj' with e|hj'
  .rw[e];exact yL _ _ _
  .exact T.le j hj'
 .show(cv es .(M) (h,x)).size*5<t.mask*3;rw[sze];exact few
 .intro i j h' x' e1 e2;have e1':(cv t.place .(M) (J t.mask h n0)).toList[i]?=aa j:=by rw[qH];exact e1
  have e2':(cv es .(M) (h,x)).toList[i]?=aa (h',x'):=by rw[qH];exact e2
  rw[pl1,Dw _ _ _ (by simpa using b0)] at e1';rw[el1,Dw _ _ _ (by simpa using bes)] at e2';have up:∀{n:al},(∀m,m<n->J t.mask h' m∈t.place.toList)->∀m,m<n->J t.mask h' m∈(cv t.place .(M) (J t.mask h n0)).toList:=fun q m hm=>by rw[pl1,wj];exact .inr (q m hm)
  by_cases c1:i<cg t.place (J t.mask h n0)
  .rw[qY c1] at e1' e2';rw[qH] at e1' e2';obtain⟨n,hn,q⟩:=T.rc i j h' x' e1' e2';exact⟨n,hn,up q⟩
  .rw[qZ c1] at e1' e2';by_cases c2:i=cg t.place (J t.mask h n0)
   .rw[qY c2] at e1' e2';cases e1';cases e2';exact⟨n0,rfl,up ho⟩
   .rw[qZ c2] at e1' e2';rw[qH] at e1' e2';obtain⟨n,hn,q⟩:=T.rc _ j h' x' e1' e2';exact⟨n,hn,up q⟩
end
noncomputable def fg (owner:bQ (ar al)) (j:al):aQ:=(owner.getD j (aa 0)).isNone
theorem rg {r:al} (e:it M h n=m8 M .(Y)) {k:al} (hk:k<dv M .(Y).1+1-.(Y).1):J M h (n+k)=.(Y).1+k:=by unfold J;rw[uU,e,tP M k _ (by show k<=dv M .(Y).1-.(Y).1;omega)];rfl
theorem G7 {r:al} (e:it M h n=m8 M .(Y)):it M h (n+(dv M .(Y).1+1-.(Y).1))=m8 M (lp M h (r+1)):=by
 have hge:.(Y).1<=dv M .(Y).1:=by unfold dv;split<;>omega
 have e2:=tP M (dv M .(Y).1-.(Y).1) (m8 M .(Y)) (qw _);rw[show n+(dv M .(Y).1+1-.(Y).1)=n+(dv M .(Y).1-.(Y).1)+1 by omega,it,uU,e,e2];unfold adv;rw[qZ (by show ¬((dv M .(Y).1-.(Y).1)-(dv M .(Y).1-.(Y).1) > 0);omega)];rfl
theorem Ec {M:al} {h:ag} (owner:bQ (ar al)) {rs:al} (hfr:fg owner (lp M h rs).1=ah):∀(fuel r n:al),it M h n=m8 M .(Y)->r<=rs->rs<r+fuel->(∀m,m<n->fg owner (J M h m)=ao)->
  ∃n',fg owner (J M h n')=ah/\(∀m,m<n'->fg owner (J M h m)=ao)/\sD M owner fuel .(Y).1 .(Y).2=aa (J M h n')
 |0,r,n,_,h1,h2,_=>by omega
 |fuel+1,r,n,e,h1,h2,h3=>by
  unfold sD;cases hf:(cV (dv M .(Y).1+1-.(Y).1)).find? (fun k=>(owner.getD (.(Y).1+k) (aa 0)).isNone) with
  |some k=>
   have hk:=fB.mp (zM hf);have hp:fg owner (.(Y).1+k)=ah:=by have:=FC hf;exact this
   refine⟨n+k,by rw[rg e hk];exact hp,fun m hm=>?_,?_⟩
   .rcases ik m n with c|c
    .exact h3 m c
    .obtain⟨d,rfl⟩:∃d,m=n+d:=⟨m-n,by omega⟩;rw[rg e .(f)];obtain⟨as,bs,hab,hno⟩:=(List.find?_eq_some_iff_append.mp hf).2;have hd:d∈as:=by
      have hl:as=cV k:=by
       have hlen:as.length=k:=by
        have:(cV (dv M .(Y).1+1-.(Y).1))[as.length]?=aa k:=by rw[hab];simp
        rw[List.getElem?_range] at this
        .exact qG this
        .have:=cJ gm hab;simp at this;omega
       have:=cJ (vN k) hab;rw[List.take_range,RF .(f),←hlen,List.take_left'] at this
       .rw[hlen] at this;exact this.symm
       .rfl
      rw[hl];exact fB.mpr .(f)
     have:=hno d hd;exact FD.mpr (fun z=>by rw[show(owner.getD (.(Y).1+d) (aa 0)).isNone=ah from z] at this;cases this)
   .rw[rg e hk]
  |none=>
   have hn:∀k,k<dv M .(Y).1+1-.(Y).1->fg owner (J M h (n+k))=ao:=fun k hk=>by rw[rg e hk];have:=zN.mp hf k (fB.mpr hk);exact FD.mpr this
   have hge:.(Y).1<=dv M .(Y).1:=by unfold dv;split<;>omega
   have hr:r≠rs:=fun z=>by subst z;have:=hn 0 .(f);rw[rg e .(f),Nat.add_zero,hfr] at this;cases this
   exact Ec owner hfr fuel (r+1) _ (G7 e) .(f) .(f) fun m hm=>by
    rcases ik m n with c|c
    .exact h3 m c
    .obtain⟨d,rfl⟩:∃d,m=n+d:=⟨m-n,by omega⟩;exact hn d .(f)
theorem Full.free (F:Full M) (h:ag) (owner:bQ (ar al)) (hf:∃j,j<=M/\fg owner j=ah) :
  ∃n,fg owner (J M h n)=ah/\(∀m,m<n->fg owner (J M h m)=ao)/\sD M owner (nE M) (fV h%(M+1)) (fV h)=aa (J M h n):=by
 obtain⟨j,hj,hjf⟩:=hf;obtain⟨m,hm,e⟩:=F.reach (xn M h 13) hj;have hl:(lp M h (13+m)).1=j:=by rw[yJ,e]
 exact Ec owner (rs:=13+m) (by rw[hl];exact hjf) (nE M) 0 0 rfl (iK _) (by unfold nE;omega) fun m hm=>bK hm (Fy _)
structure Own (M:al) (hs:ac ag) (owner:bQ (ar al)):Prop where
 sz:owner.size=M+1
 lt:∀(j k:al),owner[j]?=aa (aa k)->k<hs.length
 on:∀k,k<hs.length->∃j:al,owner[j]?=aa (aa k)
 inj:∀(j j' k:al),owner[j]?=aa (aa k)->owner[j']?=aa (aa k)->j=j'
 rc:∀(j k:al) h,owner[j]?=aa (aa k)->hs[k]?=aa h->∃n,J M h n=j/\∀m,m<n->fg owner (J M h m)=ao
theorem rN :fg owner j=ah↔owner[j]?=aa ab:=by
 unfold fg;rw[zI];cases e:owner[j]? with
 |none=>simp
 |some o=>cases o<;>simp
theorem Own.empty (M:al):Own M [] (RI (M+1) ab):=by
 have no:∀(j k:al),(RI (M+1) (ab:ar al))[j]?=aa (aa k)->False:=fun j k h=>by rw[Array.getElem?_replicate] at h;split at h<;>cases h
 exact⟨by simp,fun j k h=>(no j k h).elim,fun k h=>bK h (Fy _),fun j _ k h _=>(no j k h).elim,fun j k _ h _=>(no j k h).elim⟩
theorem Own.room (O:Own M hs owner) (hr:hs.length<=M):∃j,j<=M/\fg owner j=ah:=by
 by_cases hx:∃j,j<=M/\fg owner j=ah
 .exact hx
 .exfalso;have all:∀j,j<=M->∃k,owner[j]?=aa (aa k):=fun j hj=>by
   have h1:fg owner j≠ah:=fun z=>hx ⟨j,hj,z⟩;have h2:j<owner.size:=by rw[O.sz];omega
   cases q:owner[j] with
   |none=>exact bK (rN.mpr (by simp[h2,q])) h1
   |some k=>exact⟨k,by simp[h2,q]⟩
  have pig:=ro ((cV (M+1)).map fun j=>((owner[j]?).join).getD 0) (cV hs.length) ?_ ?_
  .rw[qg,qT,qT] at pig;omega
  .refine FF.mpr (zO.mpr (RJ ?_ zK));intro a b ha hb hab e;obtain⟨k,hk⟩:=all a (by have:=fB.mp ha;omega);obtain⟨k',hk'⟩:=all b (by have:=fB.mp hb;omega);simp only[hk,hk',RK,RL] at e;subst e;exact hab (O.inj a b k hk hk')
  .intro x hx';obtain⟨j,hj,rfl⟩:=bC.mp hx';obtain⟨k,hk⟩:=all j (by have:=fB.mp hj;omega);simp only[hk,RK,RL];exact fB.mpr (O.lt j k hk)
theorem Own.more (O:Own M hs owner) (hf:fg owner (J M h n)=ah) (ho:∀m,m<n->fg owner (J M h m)=ao) :
  Own M (hs++[h]) (owner.setIfInBounds (J M h n) (aa hs.length)):=by
 have hlt:J M h n<owner.size:=by rw[O.sz];have:=yL M h n;omega
 have hold:=rN.mp hf;have get:∀j:al,(owner.setIfInBounds (J M h n) (aa hs.length))[j]?=if j=J M h n then aa (aa hs.length) else owner[j]?:=fun j=>by
  rw[Array.getElem?_setIfInBounds];by_cases e:J M h n=j
  .subst e;simp[hlt]
  .rw[qZ e,qZ (dI e)]
 have stay:∀{j k:al},owner[j]?=aa (aa k)->(owner.setIfInBounds (J M h n) (aa hs.length))[j]?=aa (aa k):=fun {j k} q=>by
  rw[get,qZ]
  .exact q
  .intro e;rw[e,hold] at q;cases q
 have notfree:∀{j:al},fg owner j=ao->fg (owner.setIfInBounds (J M h n) (aa hs.length)) j=ao:=fun {j} q=>by
  refine FD.mpr fun z=>?_;have z':=rN.mp z;rw[get] at z';split at z'
  .cases z'
  .rw[rN.mpr z'] at q;cases q
 refine⟨by simp[O.sz],fun j k q=>?_,fun k hk=>?_,fun j j' k q q'=>?_,fun j k h' q q'=>?_⟩
 .rw[get] at q;rw[qk,qV];split at q
  .cases q;omega
  .have:=O.lt j k q;omega
 .rw[qk,qV] at hk;by_cases e:k=hs.length
  .exact⟨J M h n,by rw[get,qY rfl,e]⟩
  .obtain⟨j,hj⟩:=O.on k .(f);exact⟨j,stay hj⟩
 .rw[get] at q q';split at q
  .rename_i c;cases q;split at q'
   .rename_i c';rw[c,c']
   .have:=O.lt j' _ q';omega
  .split at q'
   .cases q';have:=O.lt j _ q;omega
   .exact O.inj j j' k q q'
 .rw[get] at q;split at q
  .rename_i c;cases q;rw[qJ (qw _)] at q';simp at q';subst q';exact⟨n,c.symm,fun m hm=>notfree (ho m hm)⟩
  .have hk:=O.lt j k q;rw[qy hk] at q';obtain⟨n',e,r⟩:=O.rc j k h' q q';exact⟨n',e,fun m hm=>notfree (r m hm)⟩
theorem Full.lays (F:Full M) (hs:bQ ag) (hr:hs.size<=M):∃owner,RM M hs=aa owner/\Own M hs.toList owner:=by
 have all:∀(cc done:ac ag) (owner:bQ (ar al)),Own M done owner->(done++cc).length<=M->∃owner',Own M (done++cc) owner' /\
   cc.foldl (fun(acc:ar (bQ (ar al)×al)) h=>do
    let (owner,k) ←acc
    let j ←sD M owner (nE M) (fV h%(M+1)) (fV h)
    bG (owner.setIfInBounds j (aa k),k+1)) (aa (owner,done.length))=aa (owner',(done++cc).length):=by
  intro cc
  induction cc with
  |nil=>intro done owner O _;exact⟨owner,by rw[lT];exact O,by simp⟩
  |cons h r ih=>
   intro done owner O hl;obtain⟨n,h1,h2,h3⟩:=F.free h owner (O.room (by simp at hl;omega));have O':=O.more h1 h2;obtain⟨owner',O2,e⟩:=ih (done++[h]) _ O' (by simpa using hl);refine⟨owner',by simpa using O2,?_⟩;rw[kR];have e1:(do
    let (owner,k) ←aa (owner,done.length)
    let j ←sD M owner (nE M) (fV h%(M+1)) (fV h)
    bG (owner.setIfInBounds j (aa k),k+1):ar (bQ (ar al)×al))=aa (owner.setIfInBounds (J M h n) (aa done.length),done.length+1):=by
    show(sD M owner (nE M) (fV h%(M+1)) (fV h) >>= fun j=>bG (owner.setIfInBounds j (aa done.length),done.length+1))=_;rw[h3];rfl
   rw[e1];rw[qk,qV] at e;rw[e];simp
 obtain⟨owner',O,e⟩:=all hs.toList [] _ (Own.empty M) (by simpa using hr);refine⟨owner',?_,by simpa using O⟩;unfold RM;rw[←Array.foldl_toList];have e':=cJ (sx (·.1)) e;exact e'
theorem AG {α β:Type} (f:α->ar β):∀(l:ac α),(∀k∈l,∃y,f k=aa y)->∀i:al,(l.filterMap f)[i]?=(l[i]?).bind f
 |[],_,i=>by simp
 |k::r,h,i=>by
  obtain⟨y,hy⟩:=h k qh;rw[RN hy];cases i with
  |zero=>simp[hy]
  |succ i=>simp only[qe];exact AG f r (fun k hk=>h k (qi _ hk)) i
theorem BG {α β:Type} (f:α->ar β):∀(l:ac α),(∀k∈l,∃y,f k=aa y)->(l.filterMap f).length=l.length
 |[],_=>rfl
 |k::r,h=>by obtain⟨y,hy⟩:=h k qh;rw[RN hy,qj,qj,BG f r fun k hk=>h k (qi _ hk)]
noncomputable def dQ (M:al) (owner:bQ (ar al)):ac (al×al):=(cV (M+1)).filterMap fun j=>(owner.getD j ab).map (j,·)
theorem iR (hsz:owner.size=M+1) {k:al} :(j,k)∈dQ M owner↔owner[j]?=aa (aa k):=by
 unfold dQ;rw[o8];constructor
 .rintro⟨j',hj',e⟩;rw[zI] at e;cases q:owner[j']? with
  |none=>rw[q] at e;cases e
  |some o=>
   rw[q] at e;cases o with
   |none=>cases e
   |some k'=>cases e;exact q
 .intro q;have hj:j<owner.size:=(gX.mp q).1;exact⟨j,fB.mpr .(f),by rw[zI,q];rfl⟩
theorem Ei (M:al) (owner:bQ (ar al)):((dQ M owner).map (·.1)).Pairwise (· < ·):=by unfold dQ;rw[zO];refine TL _ ?_ (List.pairwise_lt_range (n:=M+1));intro a a' haa b hb b' hb';obtain⟨k,_,rfl⟩:=oMd hb;obtain⟨k',_,rfl⟩:=oMd hb';exact haa
theorem BB (O:Own M hs owner):((dQ M owner).map (·.2)).Nodup:=by have h1:=zO.mp (Ei M owner);refine FF.mpr (zO.mpr (RJ ?_ h1));rintro⟨j,k⟩ ⟨j',k'⟩ ha hb hlt e;have e':k=k':=e;subst e';have:=O.inj j j' k ((iR O.sz).mp ha) ((iR O.sz).mp hb);have hlt':j<j':=hlt;omega
theorem AE (O:Own M hs owner):(dQ M owner).length=hs.length:=by
 have h1:=ro ((dQ M owner).map (·.2)) (cV hs.length) (BB O) fun k hk=>by obtain⟨⟨j,k'⟩,hm,rfl⟩:=bC.mp hk;exact fB.mpr (O.lt j k' ((iR O.sz).mp hm))
 have h2:=ro (cV hs.length) ((dQ M owner).map (·.2)) zK fun k hk=>by obtain⟨j,hj⟩:=O.on k (fB.mp hk);exact bC.mpr ⟨(j,k),(iR O.sz).mpr hj,rfl⟩
 rw[qg,qT] at h1 h2;omega
theorem Full.relaid {t:im} {es:bQ (ag×Value)} {wanted:al} (F:Full (kT wanted-1)) (few:es.size*5<(kT wanted-1)*3) :
  ∃t' order,t.relaid (es.map (·.1)) wanted=aa (t',order)/\(order.filterMap (es[·]?)).size=es.size/\Tb t' (order.filterMap (es[·]?))/\(∀e,e∈(order.filterMap (es[·]?)).toList↔e∈es.toList)/\t'.mask=kT wanted-1/\t'.led=t.led:=by
 generalize hM:kT wanted-1=M at F few;obtain⟨owner,hl,O⟩:=F.lays (es.map (·.1)) (by simp;omega);have hlen:(es.map (·.1)).toList.length=es.size:=by simp
 have llen:(dQ M owner).length=es.size:=by rw[AE O,hlen]
 refine⟨{mask:=M,place:=((dQ M owner).map (·.1)).toArray,dummies:=#[],finger:=t.finger,led:=t.led,moves:=t.movedTo M,plain:=t.plain},((dQ M owner).map (·.2)).toArray,?_,?_⟩
 .unfold RO;rw[hM];unfold RP;rw[hl];rfl
 .have hall:∀k∈(dQ M owner).map (·.2),∃y,es[k]?=aa y:=fun k hk=>by obtain⟨⟨j,k'⟩,hm,rfl⟩:=bC.mp hk;have:=O.lt j k' ((iR O.sz).mp hm);rw[hlen] at this;exact⟨es[k'],by simp[this]⟩
  have etl:(RQ (fun x=>es[x]?) ((dQ M owner).map (·.2)).toArray).toList=((dQ M owner).map (·.2)).filterMap (fun x=>es[x]?):=by simp
  have esz:(RQ (fun x=>es[x]?) ((dQ M owner).map (·.2)).toArray).size=es.size:=by rw[←gf,etl,BG _ _ hall,qg,llen]
  refine⟨esz,⟨F,?_,rfl,?_,?_,?_,?_⟩,fun e=>?_,rfl,rfl⟩
  .rw[esz];simp[llen]
  .show((dQ M owner).map (·.1)).toArray.toList.Pairwise (· < ·);exact Ei M owner
  .intro j hj;have hj':j∈(dQ M owner).map (·.1):=hj;obtain⟨⟨j',k⟩,hm,rfl⟩:=bC.mp hj';have:=(gX.mp ((iR O.sz).mp hm)).1;rw[O.sz] at this;show j'<=M;omega
  .rw[esz];exact few
  .intro i j h x e1 e2;have e1':((dQ M owner).map (·.1))[i]?=aa j:=by simpa using e1
   rw[←qH,etl,AG _ _ hall,ql] at e2;rw[ql] at e1';obtain⟨⟨j',k⟩,hm,rfl⟩:=oMd e1';rw[hm] at e2;have e2':es[k]?=aa (h,x):=e2;have ho:=(iR O.sz).mp (qO hm);obtain⟨n,hn,q⟩:=O.rc j' k h ho (by simp[e2']);refine⟨n,hn,fun m hm'=>?_⟩;have hnf:=q m hm';have hle:=yL M h m;have hlt:J M h m<owner.size:=by rw[O.sz];omega
   cases c:owner[J M h m] with
   |none=>
    rw[rN.mpr (by simp[hlt,c])] at hnf;cases hnf
   |some k'=>
    show J M h m∈(dQ M owner).map (·.1);exact bC.mpr ⟨(J M h m,k'),(iR O.sz).mpr (by simp[hlt,c]),rfl⟩
  .rw[etl,o8];constructor
   .rintro⟨k,_,hk⟩;rw[←qH] at hk;exact qO hk
   .intro he;obtain⟨k,hk⟩:=vJ.mp he;rw[qH] at hk;have hlt:=(gX.mp hk).1;obtain⟨j,hj⟩:=O.on k (by rw[hlen];exact hlt);exact⟨k,bC.mpr ⟨(j,k),(iR O.sz).mpr hj,rfl⟩,hk⟩
noncomputable def Mk (M:al):Prop:=M=7\/M=31\/M=127\/M=511
theorem Mk.full (h:Mk M):Full M:=by
 rcases h with h|h|h|h<;>subst h
 .exact yN
 .exact Ov
 .exact Ih
 .exact Gb
theorem Mk.grow (h:Mk M) (h1:n*5<M*3) (h2:¬(n+1)*5<M*3) (hn:n<=300):Mk (kT (sF (n+1))-1)/\(n+1)*5<(kT (sF (n+1))-1)*3/\kT (sF (n+1))<=512:=by
 rcases h with h|h|h|h<;>subst h
 .have:n=4:=by omega
  subst this;exact⟨.inr (.inl .(h)),by decide,by decide⟩
 .have:n=18:=by omega
  subst this;exact⟨.inr (.inr (.inl .(h))),by decide,by decide⟩
 .have:n=76:=by omega
  subst this;exact⟨.inr (.inr (.inr .(h))),by decide,by decide⟩
 .omega
section
variable {G:bQ rY->bQ rY->Prop} {P:al->Value->Prop} {St:al->aH->Prop}
noncomputable def Bf (prog:bV) (w:cR) (A:dB) (S:av) (Ba:Heap->Prop) (P:al->Value->Prop) (n:al) (J:al->bf->Prop):Prop:=
 ∀(i:al) (v:Value) (s:aH) (o:bf) (Q:aQ->aH->Prop) (E:Value->aH->Prop),i<n->P i v->s.heap.get? S=aa o->J i o->Ba s.heap->
  (∀b h' tk o',s.toks<=tk->iF S s.heap h'->h'.get? S=aa o'->J (i+1) o'->Q b {s with heap:=h',toks:=tk})->aM .(N) A (pz S v) Q E s
theorem Ln (W:WalksS prog w A.in1 I fp wr G n P St) (S:av) (hSf:S∉fp) (Ba:Heap->Prop) (hBa:∀h h',Ba h->(∀b o,b∉S::wr->h.get? b=aa o->h'.get? b=aa o)->Ba h') (J:al->bf->Prop) (hadd:Bf prog w A.in1 S Ba P n J) :
  ∀(k i:al) (s:aH) (o:bf),n-i=k->i<=n->St i s->s.heap.get? S=aa o->J i o->Ba s.heap->
   (∀s' o',Moved (S::wr) G s s'->s'.heap.get? S=aa o'->J n o'->R (.ok (.ret .none)) s')->
   iH .(N) A (.builtin "set.update.loop" ⟨[.ref S,.ref I],[]⟩) R s:=by
 have hSw:S∉wr:=fun h=>hSf (W.sub _ h);have hsub:∀b∈wr,b∈S::wr:=fun b hb=>qi _ hb;intro k
 induction k with
 |zero=>
  intro i s o hk hi hst hS hJ hB hR;have hin:i=n:=by omega
  subst hin;refine nF RS ?_;rw[pA FH _];show aM _ A.in1 (jZ (.ref I) >>= _) _ _ s;refine qx (W.done s _ _ hst fun s' hm=>?_);show aM _ A.in1 (ret o5) _ _ s';exact qz (hR s' o (hm.mono hsub) (hm.heap S _ hSw hS) hJ)
 |succ k ih=>
  intro i s o hk hi hst hS hJ hB hR;have hlt:i<n:=by omega
  refine nF RS ?_;rw[pA FH _];show aM _ A.in1 (jZ (.ref I) >>= _) _ _ s;refine qx (W.item i s _ _ hlt hst fun v s' hP hst' hm=>?_);show aM _ A.in1 (jX [v] (pz S v) >>= _) _ _ s';refine qx (qS ?_);refine hadd i v s' o _ _ hlt hP (hm.heap S _ hSw hS) hJ (hBa _ _ hB fun b o hb e=>hm.heap b o (fun z=>hb (hsub b z)) e) fun b h' tk o' htk hsb hS' hJ'=>?_;refine qz ⟨sG FH _,ih (i+1) _ o' .(f) hlt (W.frame _ s' _ _ hst' htk fun b hb o e=>?_) hS' hJ' ?_ fun s'' o'' hm'' hS'' hJ''=>?_⟩
  .rw[hsb.2 b (fun h:b=S=>hSf (by rw[←h];exact hb))];exact e
  .refine hBa _ _ (hBa _ _ hB fun b o hb e=>hm.heap b o (fun z=>hb (hsub b z)) e) fun b o hb e=>?_;show h'.get? b=aa o;rw[hsb.2 b (fun h:b=S=>hb (by rw[h];exact qh))];exact e
  .refine hR s'' o'' (RT W.gtrans ((hm.mono hsub).then_heap htk fun b o hb e=>?_) hm'') hS'' hJ'';rw[hsb.2 b (fun h:b=S=>hb (by rw[h];exact qh))];exact e
end
section
variable {E:Value->aH->Prop}
theorem O4 (a:Value) {Q₁:Value->aH->Prop} 
  (h:Q₁ (.ref s.heap.objs.size) {s with heap:=s.heap.push {cls:=.type "set",dict:=ab,data:=.set #[] 0 (.fresh 0 0 (!w.params.followText "set-order"))} }) :
  iH .(N) A (.call (.builtin "set.__new__") ⟨[.type "set",a],[]⟩) (wants Q₁ E) s:=by
 refine RU ?_;show aM _ A.in1 (do checkBuiltinCall "set.__new__" ⟨[.type "set",a],[]⟩;again (.builtin "set.__new__" ⟨[.type "set",a],[]⟩)) _ _ s;refine qx (vO (F.newCall_set_1 a) (qz ⟨sG RV _,nF F.entry_set_new ?_⟩));rw[pA RV _];unfold Builtin.«set.__new__» TM;have hsub:=sub_set_self;obtain⟨hp,g,d,tk,os⟩:=s;dsimp only
 wp_walk
 refine vP (qz ?_);dsimp only;simp only[newObj];exact qx (wpAny_alloc (qz (qz h)))
set_option maxRecDepth 100000 in
set_option maxHeartbeats 3200000 in
theorem we {l:av} (hh:A.handled=ab) (hl:s.heap.IsList l items) (J:al->bf->Prop)
  (hJ0:J 0 {cls:=.type "set",dict:=ab,data:=.set #[] 0 (.fresh 0 0 (!w.params.followText "set-order"))})
  (hadd:∀A':dB,A'.units<=A.units+16->Bf prog w A' s.heap.objs.size (fun h=>∀b o,b<s.heap.objs.size->s.heap.get? b=aa o->h.get? b=aa o) (fun i v=>items[i]?=aa v) items.size J)
  (h:∀(h':Heap) (tk:al) (o:bf),h'.get? s.heap.objs.size=aa o->J items.size o->
   (∀b o,b<s.heap.objs.size->s.heap.get? b=aa o->h'.get? b=aa o)->Q (.ref s.heap.objs.size) {s with heap:=h',toks:=tk}) :
  aM .(N) A (call (.type "set") [.ref l]) Q E s:=by
 obtain⟨c,tl,hmro⟩:=nG.mro;have hmade:=nG.made;have hsub:=nG.sub;refine zc (RU ?_);show aM _ _ (callAny (.type "set") _) _ _ _;refine qz ⟨Code.quiet_builtin _ .(r),nF F.entry_type_call ?_⟩;rw[Around.under_plain (weight_type_call_type "set" [.ref l] []) rfl];have h1:=nG.notType;have h2:=nG.canCreate;have hct:=F.typeCall_set_1 (.ref l)
 repeat (any_goals (first|assumption|wp_step))
 refine sg (O4 (.ref l) (E:=E) (Q₁:=fun obj s₁=>∃led:aQ,led=(!w.params.followText "set-order")/\obj=.ref s.heap.objs.size/\s₁={s with heap:=s.heap.push {cls:=.type "set",dict:=ab,data:=.set #[] 0 (.fresh 0 0 led)} }) ⟨_,rfl,rfl,rfl⟩) fun r s₁ hr=>?_;cases r with
 |error e=>exact hr
 |ok fl=>
  cases fl with
  |ret obj=>
   obtain⟨led,hled,rfl,rfl⟩:=hr;rw[←hled] at hJ0;have hS:.(D).get? s.heap.objs.size=aa {cls:=.type "set",dict:=ab,data:=.set #[] 0 (.fresh 0 0 led)}:=qF _ rfl;have hT:zP {s with heap:=s.heap.push {cls:=.type "set",dict:=ab,data:=.set #[] 0 (.fresh 0 0 led)} } (.ref s.heap.objs.size) "set":=⟨_,hS,rfl⟩;have hli:=nG.init.lookup;have hbi:=nG.init.bind (.ref s.heap.objs.size)
   repeat (any_goals (first|assumption|wp_step))
   refine sg (RW (R:=wants (fun r s₂=>r=.none/\∃h' tk o,s₂={s with heap:=h',toks:=tk}/\h'.get? s.heap.objs.size=aa o/\J items.size o /\
     (∀b o,b<s.heap.objs.size->s.heap.get? b=aa o->h'.get? b=aa o)) E) nG.init.plain F.entry_set_init (check_set_init_1 hT ?_)) fun r₂ s₂ hr₂=>?_
   .obtain⟨ol,hol,hcl,nl,hdl⟩:=hl;obtain⟨ocls,odict,odata,oslots⟩:=ol;simp only at hcl hdl;subst hcl;subst hdl;have hol':.(D).get? l=aa {cls:=.type "list",dict:=odict,data:=.seq items nl,slots:=oslots}:=qu _ hol;have hsls:=F.sub_list_set;have hslf:=F.sub_list_frozenset;have hne:(lM "list"==lM "dict")=ao:=by decide
    have hl1:.(D).IsList l items:=⟨_,hol',rfl,nl,rfl⟩;unfold Builtin.«set.__init__» noKeywords TN;generalize hPI:o7=PI
    wp_walk
    subst hPI;refine sB hl1 ?_;refine qx (wpAny_runValue ?_);have hlS:l<s.heap.objs.size:=qv hol;have hh3:A.in1.in1.in1.handled=ab:=by simp[hh]
    have hneI:l≠.(D).objs.size:=by rw[lS];exact qB (sH hlS)
    have hSf:s.heap.objs.size∉[.(D).objs.size,l]:=by rw[lS];simp only[qK,ce,qI,or_false,sI];exact⟨qB (rZ _),yX hlS⟩
    have hget:(.(D).push {cls:=.type "list_iterator",data:=.fields #[.ref l,.int 0 0]}).get? s.heap.objs.size
       = aa {cls:=.type "set",dict:=ab,data:=.set #[] 0 (.fresh 0 0 led)}:=qu _ hS
    refine Ln ((vH hh3 _ l hneI items).toS) s.heap.objs.size
     hSf (fun h=>∀b o,b<s.heap.objs.size->s.heap.get? b=aa o->h.get? b=aa o) (fun h h' hB hk b o hb e=>hk b o ?_ (hB b o hb e)) J (hadd _ (by show A.units+3<=_;omega)) (items.size-0) 0 _ _ .(f) (iK _)
     ⟨⟨_,qF _ rfl,rfl,rfl⟩,(hl1.push _)⟩ hget hJ0 (fun b o hb e=>qu _ (qu _ e)) ?hR
    .have hb1:b≠s.heap.objs.size:=qB hb;have hb2:b≠.(D).objs.size:=by rw[lS];exact qB (sH hb)
     simp only[qK,ce,qI,or_false,sI];exact⟨hb1,hb2⟩
    case hR=>
     intro s' o' hm hS' hJ';obtain⟨h',g',d',tk',os'⟩:=s';have eg:g'=s.gens:=hm.gens;have ed:d'=s.drawn:=hm.drawn;have eo:os'=s.os:=hm.os;subst eg;subst ed;subst eo;show aM _ _ _ _ _ _;refine qz ?_;show aM _ _ (ret o5) _ _ _;refine qz ⟨rfl,h',tk',o',rfl,hS',hJ',fun b o hb e=>?_⟩;have hb1:b≠s.heap.objs.size:=qB hb;have hb2:b≠.(D).objs.size:=by rw[lS];exact qB (sH hb)
     exact hm.heap b o (by simp only[qK,ce,qI,or_false,sI];exact⟨hb1,hb2⟩) (qu _ (qu _ e))
   .cases r₂ with
    |error e=>exact hr₂
    |ok fl₂ =>
     cases fl₂ with
     |ret r=>
      obtain⟨rfl,h',tk,o',rfl,hS',hJ',hk'⟩:=hr₂
      repeat (any_goals (first|assumption|wp_step))
      exact h _ _ _ hS' hJ' hk'
     |_=>exact hr₂.elim
  |_=>exact hr.elim
end
noncomputable def dd [eV κ] (l:ac κ):ac κ:=l.foldl (fun a k=>if k∈a then a else a++[k]) []
theorem rJ [eV κ] (l:ac κ) (k:κ):dd (l++[k])=if k∈dd l then dd l else dd l++[k]:=by unfold dd;rw[zQ];rfl
theorem mG [eV κ] (l:ac κ):(dd l).length<=l.length:=by
 have key:∀(l a:ac κ),(l.foldl (fun a k=>if k∈a then a else a++[k]) a).length<=a.length+l.length:=by
  intro l
  induction l with
  |nil=>intro a;exact qw _
  |cons k r ih=>
   intro a;rw[kR];refine qL (ih _) ?_;split
   .simp only[qj];omega
   .simp only[qk,qj,qm];omega
 have:=key l [];simpa[dd] using this
section
variable [eV κ] {knd:KeyKind prog w κ} {E:Value->aH->Prop}
theorem F' {ks:ac κ} {Q:aQ->aH->Prop} (hk:IsTupleKey knd s.heap ks a) (hsc:∀v k,knd.is k v=ah->v.scannable=ah) (h:∀b,Q b s):aM .(N) A (hashByValue 8 (.ref a)) Q E s:=by
 have hT:=hk.typeIs;obtain⟨o,items,n,ho,_,hd,hi⟩:=hk;unfold hashByValue;refine qx (Fh hT F.slot_tuple_hash.lookup ?_);refine qx (FI ho hd ?_);refine qx ?_;show aM _ _ (vF items _ _) _ _ s;rw[←RX];have hall:∀v∈items.toList,v.scannable=ah:=by
  have:∀{x:ac κ} {vs:ac Value},ItemsAre knd x vs->∀v∈vs,v.scannable=ah:=by
   intro x vs q
   induction q with
   |nil=>intro v hv;cases hv
   |cons h1 _ ih=>
    intro v hv;rcases c0.mp hv with rfl|hv
    .exact hsc _ _ h1
    .exact ih v hv
  exact this hi
 refine FJ _ (fun cc r s'=>s'=s/\∀v∈cc,v.scannable=ah) _ ?_ ?_ _ _ ⟨rfl,hall⟩
 .rintro v cc r s' ⟨rfl,hv⟩;rw[RY _ (hv v qh)];refine qx (qz ?_);cases hp:plainKind v with
  |true=>
   simp only[iL,qr,c9];exact qz ⟨rfl,fun u hu'=>hv u (qi _ hu')⟩
  |false=>
   simp only[l7,cK]
   first|exact qz (qz (h _))|exact qz (h _)|exact qx (qz (qz (qz (h _))))
 .rintro⟨r1,r2⟩ s' ⟨rfl,_⟩
  first|exact qz (h _)|(cases r1<;>exact qz (h _))
theorem Cr {ks:ac κ} {Q:aQ->aH->Prop} (hk:IsTupleKey knd s.heap ks a) (h:Q ao s):aM .(N) A (FK 8 (.ref a)) Q E s:=by
 have hT:=hk.typeIs;obtain⟨o,items,n,ho,_,hd,hi⟩:=hk;unfold FK;refine qx (sk hT ?_);dsimp only;rw[qY .(h)];refine qx (qz ?_);simp only[iL,qr,c9];refine qx (FI ho hd ?_);refine qx ?_;show aM _ _ (vF items _ _) _ _ s;rw[←RX];refine FJ _ (fun cc r s'=>r.1=ab/\s'=s/\∀v∈cc,RZ v=ah) _ ?_ ?_ _ _ ⟨rfl,rfl,hi.byValue⟩
 .rintro v cc r s' ⟨hr,rfl,hv⟩;have e:FK 7 v=bG ao:=by
   have:=hv v qh;cases v with
   |ref b=>simp[RZ] at this
   |_=>rfl
  rw[e];refine qx (qz ?_);simp only[qr,c9];exact qz ⟨rfl,rfl,fun u hu'=>hv u (qi _ hu')⟩
 .rintro⟨r1,r2⟩ s' ⟨hr,rfl,_⟩;simp only at hr;subst hr;exact qz h
theorem Pj {ks:ac κ} {Q:aQ->aH->Prop} (hk:IsTupleKey knd s.heap ks a) (st:ac Value) (hst:∀y∈st,∃k b,y=.ref b/\IsTupleKey knd s.heap k b) (h:Q ao s):aM .(N) A (R0 (.ref a) st) Q E s:=by
 unfold R0;refine qx ?_;refine FJ _ (fun cc r s'=>r.1=ab/\s'=s/\∀y∈cc,∃k b,y=.ref b/\IsTupleKey knd s.heap k b) _ ?_ ?_ _ _ ⟨rfl,rfl,hst⟩
 .rintro v cc r s' ⟨hr,rfl,hv⟩;obtain⟨k,b,rfl,hb⟩:=hv v qh;dsimp only;split
  .exact qz ⟨rfl,rfl,fun u hu'=>hv u (qi _ hu')⟩
  .refine qx (R1 hk ?_);simp only[iL,qr,c9];refine qx (R1 hb ?_);simp only[iL,qr,c9];refine qx (Cr hk ?_);simp only[qr,c9];refine qx (Cr hb ?_);simp only[qr,c9];exact qz ⟨rfl,rfl,fun u hu'=>hv u (qi _ hu')⟩
 .rintro⟨r1,r2⟩ s' ⟨hr,rfl,_⟩;simp only at hr;subst hr;exact qz h
end
theorem v6 {t:im} {es:bQ (ag×Value)} (T:Tb t es) {p:zL} {r:ar SetTable.Met} (hp:t.probe hashAt h p=r) (hpp:p=gU (it t.mask h n)) (hn:n<=n0) (hn0:n0<10*(t.mask+15))
  (hf:J t.mask h n0∉t.place.toList) (ho:∀m,m<n0->J t.mask h m∈t.place.toList) :
  (∃n' i,n<=n'/\n'<n0/\t.place[i]?=aa (J t.mask h n')/\hashAt i=h/\(∀m i,n<=m->m<n'->t.place[i]?=aa (J t.mask h m)->hashAt i≠h)/\r=aa (.candidate (J t.mask h n') i (gU (it t.mask h (n'+1))))) \/
  ((∀m i,n<=m->m<n0->t.place[i]?=aa (J t.mask h m)->hashAt i≠h)/\r=aa (.empty (J t.mask h n0) ab)):=by
 subst hpp;subst hp;unfold SetTable.probe;exact T.probe_go hashAt h hf ho (10*nE t.mask) n hn (by unfold nE;omega)
theorem O1 {t:im} {es:bQ (ag×Value)} (T:Tb t es) {p:zL} (hp:∀met,t.probe hashAt h p=aa met->False) (hpp:p=gU (it t.mask h n)) (hn:n<=n0) (hn0:n0<10*(t.mask+15))
  (hf:J t.mask h n0∉t.place.toList) (ho:∀m,m<n0->J t.mask h m∈t.place.toList):False:=by
 rcases v6 T (r:=t.probe hashAt h p) rfl hpp hn hn0 hf ho with⟨n',i,_,_,_,_,_,g6⟩|⟨_,g2⟩
 .exact hp _ g6
 .exact hp _ g2
section
variable [eV κ] {knd:KeyKind prog w κ} {E:Value->aH->Prop}
noncomputable def rL (knd:KeyKind prog w κ) (h:Heap) (es:bQ (ag×Value)):Prop:=∀(i:al) e,es[i]?=aa e->∃k b,e=(bR knd k,.ref b)/\IsTupleKey knd h k b
theorem Mk.odd (h:Mk M):(M%2==0)=ao:=by rcases h with rfl|rfl|rfl|rfl<;>rfl
theorem Mv {o:bf} {es:bQ (ag×Value)} {t:im} {k:ac κ} {Q:SetFound->aH->Prop} (hu:A.units<cy) (ho:s.heap.get? S=aa o) (hd:o.data=.set es ep t) (T:Tb t es) (hM:Mk t.mask)
  (hk:IsTupleKey knd s.heap k a) (he:rL knd s.heap es) (hf:J t.mask (bR knd k) n0∉t.place.toList) (hocc:∀m,m<n0->J t.mask (bR knd k) m∈t.place.toList) (hn0:n0<10*(t.mask+15))
  (hyes:∀(i:al) (b:av),es[i]?=aa (bR knd k,.ref b)->IsTupleKey knd s.heap k b->Q (.there ab) s)
  (hno:(∀(i:al) (b:av),es[i]?=aa (bR knd k,.ref b)->¬IsTupleKey knd s.heap k b)->Q (.free .(B) ao) s) :
  ∀(fuel n:al) (stand:ar zL),n0-n<fuel->n<=n0->(stand.getD (t.probeStart (bR knd k))=gU (it t.mask (bR knd k) n))->
   (∀(m i:al) (b:av),m<n->t.place[i]?=aa (J t.mask (bR knd k) m)->es[i]?=aa (bR knd k,.ref b)->¬IsTupleKey knd s.heap k b)->
   aM .(N) A (zR S (.ref a) (bR knd k) ah fuel stand) Q E s:=by
 intro fuel
 induction fuel with
 |zero=>intro n stand h1;omega
 |succ fuel ih=>
  intro n stand h1 h2 hs hw;unfold zR;refine qx (kU ho hd T.fits ?_);dsimp only;have hg:t.gaveWay=ao:=hM.odd;rw[hg];simp only[qr,c9];split
  .rename_i met hp;rcases v6 T hp hs h2 hn0 hf hocc with⟨n',i,g1,g2,g3,g4,g5,g6⟩|⟨g1,g2⟩
   .cases g6;have hi:i<es.size:=by have:=(gX.mp g3).1;rw[T.sz] at this;exact this
    have hei:es[i]?=aa es[i]:=by simp[hi]
    obtain⟨k',b,e1,hb⟩:=he i _ hei;rw[e1] at hei;have hh:bR knd k'=bR knd k:=by have g4':((es[i]?).map (·.1)).getD 0=bR knd k:=g4;rw[hei] at g4';exact g4'
    rw[hh] at hei;have cc:aM .(N) A (do
      let aa (_,y):=es[i]? | unsupported "internal:set-entry"
      let equal ←jX [y] (eqBool y (.ref a))
      let (es',_,t') ←setState S
      if ah && equal then return .there ab
      let aa same:=t'.sameMemory t.moves t.mask|unsupported "set.changed-during-lookup:is-the-new-block-at-the-old-address"
      let still ←match (if same then t'.slot (J t.mask (bR knd k) n') else .empty) with
       |.live i'=>match es'[i']? with
        |some (_,y')=>do bG (if ←isSame y' y then aa i' else ab)
        |none=>bG ab
       |_=>bG ab
      match still with
      |none=>rule "set.search.anew";zR S (.ref a) (bR knd k) ah fuel ab
      |some i'=>if equal then return .there (aa i') else zR S (.ref a) (bR knd k) ah fuel (aa (gU (it t.mask (bR knd k) (n'+1))))) Q E s:=by
     rw[hei];dsimp only;refine qx (qS (wpAny_eqBool_tuple hu hb hk ?_));refine qx (kU ho hd T.fits ?_);dsimp only;by_cases hkk:k'=k
     .subst hkk;rw[qR rfl];simp only[nI,cK];exact qz (hyes i b hei hb)
     .rw[qM hkk];simp only[nI,qr,c9];have hsm:t.sameMemory t.moves t.mask=aa ah:=by unfold SetTable.sameMemory;simp
      rw[hsm];dsimp only;simp only[cK];rw[T.live g3];dsimp only;rw[hei];dsimp only;refine qx (wpAny_isSame_ref_self ?_);simp only[cK];refine qx (qz ?_);dsimp only;refine ih (n'+1) _ .(f) .(f) rfl ?_;intro m i2 b2 hm hp2 he2;by_cases h3:m<n
      .exact hw m i2 b2 h3 hp2 he2
      .by_cases h4:m=n'
       .subst h4;have ei:i2=i:=by have q1:=T.live hp2;have q2:=T.live g3;rw[q1] at q2;injection q2
        subst ei;rw[hei] at he2;cases he2;exact fun z=>hkk (hb.inj z)
       .exfalso;refine g5 m i2 .(f) .(f) hp2 ?_;show((es[i2]?).map (·.1)).getD 0=_;rw[he2];rfl
    cases hled:t.led with
    |true=>
     simp only[iL,qr,c9];exact cc
    |false=>
     simp only[l7,cK];refine qx (Pj hk _ (fun y hy=>?_) ?_)
     .obtain⟨e,he1,rfl⟩:=bC.mp hy;have he2:e∈es.toList:=by have:=EU.mp he1;rw[Array.mem_filter] at this;exact EU.mpr this.1
      obtain⟨j,hj,ej⟩:=zC.mp he2;obtain⟨k2,b2,q1,q2⟩:=he j e (by rw[←qH,qC hj,ej]);exact⟨k2,b2,by rw[q1],q2⟩
     .simp only[qr,c9];exact cc
   .cases g2;dsimp only;refine qz (hno fun i b hei hb=>?_);have hi:i<es.size:=(gX.mp hei).1;have hpi:t.place[i]?=aa t.place[i]! := by
     have:i<t.place.size:=by rw[T.sz];exact hi
     simp[this]
    obtain⟨m,q1,q2⟩:=T.rc i _ _ _ hpi hei;have hmem:J t.mask (bR knd k) m∈t.place.toList:=by rw[q1];rw[←qH] at hpi;exact qO hpi
    have hm:m<n0:=by
     rcases RC m n0 with z|z|z
     .exact z
     .subst z;exact bK hmem hf
     .exact bK (q2 n0 z) hf
    by_cases h3:m<n
    .exact hw m i b h3 (by rw[q1];exact hpi) hei hb
    .refine g1 m i .(f) hm (by rw[q1];exact hpi) ?_;show((es[i]?).map (·.1)).getD 0=_;rw[hei];rfl
  .rename_i hp;exact(O1 T hp hs h2 hn0 hf hocc).elim
structure TS (knd:KeyKind prog w κ) (h:Heap) (ks:ac (ac κ)) (o:bf):Prop where
 cls:o.ExactSet
 ex:∃es ep t,o.data=.set es ep t/\Tb t es/\Mk t.mask/\rL knd h es/\es.size=(dd ks).length/\(∀k∈dd ks,∃(i:al) (b:av),es[i]?=aa (bR knd k,.ref b)/\IsTupleKey knd h k b)/\∀(i:al) (k:ac κ) (b:av),es[i]?=aa (bR knd k,.ref b)->IsTupleKey knd h k b->k∈dd ks
theorem IsTupleKey.mono {h:Heap} {k:ac κ} (x:IsTupleKey knd h k a) (q:∀o,h.get? a=aa o->h'.get? a=aa o):IsTupleKey knd h' k a:=by obtain⟨o,items,n,h1,h2⟩:=x;exact⟨o,items,n,q o h1,h2⟩
theorem mo {es:bQ (ag×Value)} {e:ag×Value} :e∈es.toList↔∃i:al,es[i]?=aa e:=by
 constructor
 .intro h;obtain⟨i,hi,q⟩:=zC.mp h;exact⟨i,by rw[←qH,qC hi,q]⟩
 .rintro⟨i,h⟩;rw[←qH] at h;exact qO h
theorem NS {ks:ac (ac κ)} {k:ac κ} {es:bQ (ag×Value)} (hk:IsTupleKey knd h0 k a) (hE:rL knd h0 es) (hsz:es.size=(dd ks).length) (hin:∀k∈dd ks,∃(i:al) (b:av),es[i]?=aa (bR knd k,.ref b)/\IsTupleKey knd h0 k b)
  (hout:∀(i:al) (k:ac κ) (b:av),es[i]?=aa (bR knd k,.ref b)->IsTupleKey knd h0 k b->k∈dd ks) (hnew:k∉dd ks) (mem:∀e,e∈es'.toList↔e=(bR knd k,.ref a)\/e∈es.toList) (size:es'.size=es.size+1) :
  rL knd h0 es'/\es'.size=(dd (ks++[k])).length/\(∀k'∈dd (ks++[k]),∃(i:al) (b:av),es'[i]?=aa (bR knd k',.ref b)/\IsTupleKey knd h0 k' b)/\∀(i:al) (k':ac κ) (b:av),es'[i]?=aa (bR knd k',.ref b)->IsTupleKey knd h0 k' b->k'∈dd (ks++[k]):=by
 rw[rJ,qZ hnew];refine⟨fun i e he=>?_,by rw[size,hsz,qk,qV],fun k' hk'=>?_,fun i k' b he hb=>?_⟩
 .rcases(mem e).mp (mo.mpr ⟨i,he⟩) with rfl|q
  .exact⟨k,a,rfl,hk⟩
  .obtain⟨j,q⟩:=mo.mp q;exact hE j e q
 .rcases fS.mp hk' with q|q
  .obtain⟨i,b,q1,q2⟩:=hin k' q;obtain⟨j,q3⟩:=mo.mp ((mem _).mpr (.inr (mo.mpr ⟨i,q1⟩)));exact⟨j,b,q3,q2⟩
  .rw[ce.mp q];obtain⟨j,q3⟩:=mo.mp ((mem _).mpr (.inl rfl));exact⟨j,a,q3,hk⟩
 .rcases(mem _).mp (mo.mpr ⟨i,he⟩) with q|q
  .have e:b=a:=by have:=(FM q).2;injection this
   subst e;exact fS.mpr (.inr (ce.mpr (hb.inj hk)))
  .obtain⟨j,q⟩:=mo.mp q;exact fS.mpr (.inl (hout j k' b q hb))
theorem u6 {h:Heap} {o:bf} {es:bQ (ag×Value)} {t t':im} (ho:h.get? S=aa o) (hd:o.data=.set es ep t):(h.update S (zS es' t')).get? S=aa {o with data:=.set es' (ep+1) t'}:=by
 have q:=FN (zS es' t') ho (by rw[putSet_of es' t' hd];rfl)
 rwa [putSet_of es' t' hd] at q
set_option maxHeartbeats 1000000 in
theorem MX {o:bf} {ks:ac (ac κ)} {k:ac κ} {Q:aQ->aH->Prop} (hsc:∀v k,knd.is k v=ah->v.scannable=ah) (hu:A.units<cy) (ho:s.heap.get? S=aa o) (T:TS knd h0 ks o) (hk:IsTupleKey knd h0 k a)
  (hB:∀b o,h0.get? b=aa o->s.heap.get? b=aa o) (hlen:ks.length<=300)
  (h:∀b h' tk o',s.toks<=tk->iF S s.heap h'->h'.get? S=aa o'->TS knd h0 (ks++[k]) o'->Q b {s with heap:=h',toks:=tk}):aM .(N) A (pz S (.ref a)) Q E s:=by
 obtain⟨hc,es,ep,t,hd,TB,hM,hE,hsz,hin,hout⟩:=T;have up:∀{k:ac κ} {b:av},IsTupleKey knd h0 k b->IsTupleKey knd s.heap k b:=fun q=>IsTupleKey.mono q fun o e=>hB _ _ e;have down:∀{k k':ac κ} {b:av},IsTupleKey knd h0 k' b->IsTupleKey knd s.heap k b->k=k':=fun q1 q2=>q2.inj (up q1);have hE':rL knd s.heap es:=fun i e he=>by obtain⟨k,b,q1,q2⟩:=hE i e he;exact⟨k,b,q1,up q2⟩
 have hddl:=mG ks;obtain⟨n0,f1,f2,f3⟩:=TB.first (bR knd k);unfold pz;refine qS (qx (wpAny_pyHash_tuple hu (up hk) ?_));unfold setAddHashed R3;refine qS (qx (kU (s:={s with toks:=s.toks+(k.length+1)}) ho hd TB.fits ?_));dsimp only;rw[show byScan (.ref a) es=ao from rfl];simp only[qr,c9];unfold setSearch;refine qx (Mv (s:={s with toks:=s.toks+(k.length+1)}) hu ho hd TB hM (up hk) hE' f2 f3 f1 (fun i b hei hb=>?_) (fun hall=>?_) 100000 0 ab ?_ (iK _) rfl (fun m i b hm=>by omega))
 ·
  dsimp only;obtain⟨k',b',q1,q2⟩:=hE i _ hei;have:b'=b:=by have:=(FM q1).2;injection this with e;exact e.symm
  subst this;have ek:=down q2 hb;subst ek;have hmem:=hout i k _ hei q2;refine qz (h ao s.heap _ o (by show s.toks<=s.toks+(k.length+1);omega) (Fp S s.heap) ho ⟨hc,es,ep,t,hd,TB,hM,hE,?_⟩);rw[rJ,qY hmem];exact⟨hsz,hin,hout⟩
 ·
  dsimp only;have hnew:k∉dd ks:=fun hm=>by obtain⟨i,b,q1,q2⟩:=hin k hm;exact hall i b q1 (up q2)
  have hpl:cg t.place .(B)<=es.size:=by have:=(oO t.place .(B) TB.ri).1;rw[TB.sz] at this;exact this
  have hmaskle:t.mask<=511:=by rcases hM with e|e|e|e<;>omega
  have hmem:∀e,e∈(cv es (cg t.place .(B)) (bR knd k,cm a)).toList↔e=(bR knd k,cm a)\/e∈es.toList:=fun e=>by rw[lH _ _ _ hpl];exact wj _ _ _ _
  have hsize:(cv es (cg t.place .(B)) (bR knd k,cm a)).size=es.size+1:=by have:=cJ gm (lH es _ (bR knd k,cm a) hpl);simp only[gf,qk,qj,qD,jk] at this;omega
  have hpsz:(cv t.place (cg t.place .(B)) .(B)).size=es.size+1:=by have:=cJ gm (lH t.place _ .(B) (by rw[TB.sz];exact hpl));have h3:=TB.sz;simp only[gf,qk,qj,qD,jk] at this;omega
  refine qx (kU (s:={s with toks:=s.toks+(k.length+1)}) ho hd TB.fits ?_);dsimp only;have fin:∀(es':bQ (ag×Value)) (t':im) (h':Heap) (o':bf),Tb t' es'->Mk t'.mask->(∀e,e∈es'.toList↔e=(bR knd k,cm a)\/e∈es.toList)->es'.size=es.size+1->iF S s.heap h'->h'.get? S=aa o'->o'.ExactSet->(∃ep',o'.data=.set es' ep' t')->Q ah {s with heap:=h',toks:=s.toks+(k.length+1)}:=fun es' t' h' o' q1 q2 q3 q4 q5 q6 q7 q8=>by obtain⟨ep',q8⟩:=q8;obtain⟨w1,w2,w3,w4⟩:=NS hk hE hsz hin hout hnew q3 q4;exact h ah h' _ o' .(f) q5 q6 ⟨q7,es',ep',t',q8,q1,q2,w1,w2,w3,w4⟩
  have cc:∀pl:aQ,aM .(N) A (do
    storeSet S (cv es (t.put .(B)).2 (bR knd k,cm a)) { (t.put .(B)).1 with plain:=pl}
    if (!ao && l9 { (t.put .(B)).1 with plain:=pl})=ah then do
     setRelay S (sF (es.size+1))
     bG ah
    else bG ah) Q E {s with toks:=s.toks+(k.length+1)}:=fun pl=>by
   refine qx (zT (s:={s with toks:=s.toks+(k.length+1)}) ho hd ?_ (by show(cv es (cg t.place .(B)) (bR knd k,cm a)).size<=aW;rw[hsize,fT];omega));have hg1:=u6 (es':=cv es (t.put .(B)).2 (bR knd k,cm a)) (t':={ (t.put .(B)).1 with plain:=pl}) ho hd;have hsb1:=pB s.heap S (zS (cv es (t.put .(B)).2 (bR knd k,cm a)) { (t.put .(B)).1 with plain:=pl});have hdum:(t.put .(B)).1.dummies=#[]:=by show(if zJ t.dummies _ then _ else t.dummies)=#[];rw[TB.dm];rfl
   have hfill:Fz { (t.put .(B)).1 with plain:=pl}=es.size+1:=by show(cv t.place _ _).size+(t.put .(B)).1.dummies.size=_;rw[hdum];exact hpsz
   by_cases few:(es.size+1)*5<t.mask*3
   .have hfull:l9 { (t.put .(B)).1 with plain:=pl}=ao:=by unfold l9;rw[hfill];exact qM (by show ¬((es.size+1)*5 ≥ t.mask*3);omega)
    rw[hfull];simp only[l7,Ff,qr,c9];refine qz (fin _ _ _ _ (TB.put (x:=.ref a) f2 f3 few pl) hM hmem hsize hsb1 hg1 hc ⟨_,rfl⟩)
   .have hfull:l9 { (t.put .(B)).1 with plain:=pl}=ah:=by unfold l9;rw[hfill];exact qR (by show((es.size+1)*5 ≥ t.mask*3);omega)
    rw[hfull];simp only[l7,vQ,cK];obtain⟨m1,m2,m3⟩:=hM.grow TB.few few .(f);have hes1:(cv es (t.put .(B)).2 (bR knd k,cm a)).size=es.size+1:=hsize;obtain⟨t',order,r1,r2,r3,r4,r5,r6⟩:=Full.relaid (t:={ (t.put .(B)).1 with plain:=pl}) (es:=cv es (t.put .(B)).2 (bR knd k,cm a)) m1.full (by rw[hes1];exact m2);unfold setRelay;have hfits:pr { (t.put .(B)).1 with plain:=pl} (cv es (t.put .(B)).2 (bR knd k,cm a)).size=ah:=by unfold pr;rw[hfill,hes1,fU];have:=TB.few;exact⟨by rw[kO];exact hpsz,qR (by show es.size+1<=t.mask;omega)⟩
    refine qx ?_;refine qx (kU (s:={s with heap:=_,toks:=s.toks+(k.length+1)}) hg1 rfl hfits ?_);dsimp only;rw[qZ (by rw[fT];omega),r1];refine qx ?_;show aM _ _ (if ((order.filterMap ((cv es (t.put .(B)).2 (bR knd k,cm a))[·]?)).size != (cv es (t.put .(B)).2 (bR knd k,cm a)).size)=ah then _ else _) _ _ _;rw[qZ (by rw[r2];simp)];refine qz ?_;dsimp only;refine zT (s:={s with heap:=_,toks:=s.toks+(k.length+1)}) hg1 rfl ?_ (by rw[r2,hes1,fT];omega);refine qz (fin _ t' _ _ r3 (by rw[r5];exact m1) (fun e=>(r4 e).trans (hmem e)) (by rw[r2,hes1]) (hsb1.trans (pB _ S _)) (u6 hg1 rfl) hc ⟨_,rfl⟩)
  split
  .refine qx (F' (s:={s with toks:=s.toks+(k.length+1)}) (up hk) hsc fun bv=>?_);cases bv
   .exact cc ao
   .exact cc _
  .refine qx (qz ?_);exact cc _
 .show n0-0<100000;have:t.mask<=511:=by rcases hM with e|e|e|e<;>omega
  omega
end
end ST
section
open ST
instance (priority:=high) keyBEq:BEq Key:=R4
instance (priority:=high) keyLaw:LawfulBEq Key:=inferInstanceAs (@LawfulBEq Key R4)
noncomputable def AW (n:al) (o:bf):Prop:=o.ExactSet/\∃es ep t,o.data=.set es ep t/\t.fits es.size=ah/\es.size=n
noncomputable def lv (p:av) (n:al):HO:=.ext fun h=>∃o,h.get? p=aa o/\AW n o
theorem C6 {P:bV} (v:Value) (k:Key) (h:(cP P w).is k v=ah):v.scannable=ah:=by rcases i0 h with⟨i,t,rfl,rfl⟩|⟨x,t,rfl,rfl⟩<;>rfl
noncomputable def Pe:ac V->Hp->VK->Prop:=fun xs H Q=>∃a vs,xs=[.ref a]/\H a=aa (.lst vs)/\vs.length<=300 /\
 ((∃ks:ac Key,vs=ks.map kV/\∀p,H p=ab->Q (.ref p) (upd H p (lv p (dd ks).length))) \/
 (∃ts:ac (ac Key),vs.length=ts.length/\(∀(i:al) t,ts[i]?=aa t->∃b,vs[i]?=aa (.ref b)/\H b=aa (.tup (t.map kV)))/\∀p,H p=ab->Q (.ref p) (upd H p (lv p (dd ts).length))))
theorem J5 (hc:X.calm=ah) (hu:X.A.units+66<cy):eE X (.type "set") Pe:=by
 intro pins s σ H xs us Q I r h;obtain⟨a,vs,rfl,ha,hl,h⟩:=h;obtain⟨u,rfl,ru⟩:=fu r;cases ru;obtain⟨its,rv,pl,hz⟩:=I.list (.inl (.inl ha));have hlen:=rv.length;have hsz:its.toArray.size=vs.length:=by rw[qA,hlen]
 have fin:∀(n:al) (h':Heap) (tk:al) (o:bf),h'.get? s.heap.objs.size=aa o->AW n o->(∀b o,b<s.heap.objs.size->s.heap.get? b=aa o->h'.get? b=aa o)->
   (∀p,H p=ab->Q (.ref p) (upd H p (lv p n)))->EP X pins σ Q (.ref s.heap.objs.size) {s with heap:=h',toks:=tk}:=fun n h' tk o ho hn hk q=>by
  refine⟨.ref s.heap.objs.size,_,I.laid (a:=s.heap.objs.size) (o:=lv s.heap.objs.size n) (fun b u e=>hk b u (qv e) e) (qw _) ?_,rfl,q _ I.fresh⟩;refine⟨⟨o,ho,hn⟩,⟨o,ho⟩,fun h1 h2 hp hk2=>?_⟩;obtain⟨o1,q1,q2⟩:=hp;exact⟨o1,hk2 o1 q1,q2⟩
 rcases h with⟨ks,rfl,q⟩|⟨ts,ht,hts,q⟩
 ·
  have hkl:ks.length=its.length:=by rw[←hlen,qg]
  refine we (I.ok.hd hc) pl.isList (fun i o=>o.SetObjOf (cP X.prog X.w) (fun k=>decide (k∈dd (ks.take i))) (dd (ks.take i)).length) ?_ (fun A' hA' i v sh o Q' E' hi hv ho hJ hB hQ=>?_) fun h' tk o ho hJ hk=>?_
  .have:=setObjOf_fresh (knd:=cP X.prog X.w) (!X.w.params.followText "set-order");simpa[dd] using this
  .have hi':i<ks.length:=by rw[qA] at hi;omega
   obtain⟨u2,hu2,ru2⟩:=rv.get (i:=i) (x:=kV ks[i]) (by simp[hi']);have ev:v=u2:=by
    have hv':its[i]?=aa v:=by simpa using hv
    rw[hu2] at hv';exact(qG hv').symm
   subst ev;have hkey:=jb (P:=X.prog) (w:=X.w) ru2;have hle:(dd (ks.take i)).length<=300:=by have h1:=mG (ks.take i);rw[qD] at h1;rw[qg] at hl;omega
   unfold pz;refine qS (qx ((cP X.prog X.w).pyHash hkey ?_));refine wpAny_setAddHashed_of (knd:=cP X.prog X.w) (s:={sh with toks:=sh.toks+1}) hkey (C6 _ _ hkey) (hJ.setOf ho (by unfold scanBound;omega)) (by unfold scanBound;omega) fun h' hsb hS2=>?_;obtain⟨o',ho',hso⟩:=hS2.objOf;refine hQ _ h' _ o' (lU _) hsb ho' ?_;have htk:ks.take (i+1)=ks.take i++[ks[i]]:=by rw[pC,qC hi'];rfl
   show Obj.SetObjOf (cP X.prog X.w) o' (fun k=>decide (k∈dd (vN (i+1) ks))) (dd (vN (i+1) ks)).length;rw[htk,rJ];by_cases hm:ks[i]∈dd (ks.take i)
   .rw[qY hm];rw[qY (by simpa using hm)] at hso;have e:(fun k'=>decide (k'∈dd (ks.take i)) || decide (k'=ks[i]))=fun k'=>decide (k'∈dd (ks.take i)):=by
     funext k'
     by_cases hk':k'=ks[i]
     .subst hk';simp[hm]
     .simp[hk']
    rw[e] at hso;exact hso
   .rw[qZ hm];rw[qZ (by simpa using hm)] at hso;have e:(fun k'=>decide (k'∈dd (ks.take i)) || decide (k'=ks[i]))=fun k'=>decide (k'∈dd (ks.take i)++[ks[i]]):=by
     funext k'
     rw[jh];simp
    rw[e] at hso;simpa using hso
  .have e:ks.take its.toArray.size=ks:=by rw[qA,←hkl];exact j3
   rw[e] at hJ;have hS:=hJ.setOf ho (by have:=mG ks;rw[qg] at hl;unfold scanBound;omega);obtain⟨o1,es,ep,t,v0,v1,v2,_,_,_,v3,v4⟩:=hS;rw[ho] at v0;cases v0;exact fin _ h' tk o ho ⟨v1,es,ep,t,v2,v3,v4⟩ hk q
 ·
  have hkl:ts.length=its.length:=by rw[←hlen,ht]
  refine we (I.ok.hd hc) pl.isList (fun i o=>ST.TS (cP X.prog X.w) s.heap (ts.take i) o) ?_ (fun A' hA' i v sh o Q' E' hi hv ho hJ hB hQ=>?_) fun h' tk o ho hJ hk=>?_
  .refine⟨⟨rfl,rfl,rfl⟩,#[],0,kW 0 0 (!X.w.params.followText "set-order"),rfl,?_,.inl rfl,fun i e he=>by simp at he,rfl,fun k hk=>by simp[dd] at hk,fun i k b he=>by simp at he⟩;exact⟨yN,rfl,rfl,by simp[kW],by simp[kW],by simp[kW],fun i j h x hp=>by simp[kW] at hp⟩
  .have hi':i<ts.length:=by rw[qA] at hi;omega
   obtain⟨b,hb1,hb2⟩:=hts i ts[i] (by simp[hi']);obtain⟨u2,hu2,ru2⟩:=rv.get hb1;have ev:v=u2:=by
    have hv':its[i]?=aa v:=by simpa using hv
    rw[hu2] at hv';exact(qG hv').symm
   subst ev;cases ru2;have hkey:=j6 I.hok hb2;have htk:ts.take (i+1)=ts.take i++[ts[i]]:=by rw[pC,qC hi'];rfl
   refine MX (fun v k=>C6 v k) .(f) ho hJ hkey (fun b' o' e=>hB b' o' (qv e) e) (by rw[qD];have:=hl;omega) fun bb h' tk o' h1 h2 h3 h4=>hQ bb h' tk o' h1 h2 h3 (by show ST.TS _ _ (vN (i+1) ts) o';rw[htk];exact h4)
  .have e:ts.take its.toArray.size=ts:=by rw[qA,←hkl];exact j3
   rw[e] at hJ;obtain⟨hc',es,ep,t,w1,w2,w3,w4,w5,w6,w7⟩:=hJ;exact fin _ h' tk o ho ⟨hc',es,ep,t,w1,w2.fits,w5⟩ hk q
theorem NJ:eE X (.builtin "len") (fun xs H Q=>∃p n,xs=[.ref p]/\H p=aa (lv p n)/\n<=300/\Q (.int n) H):=by intro pins s σ H xs us Q I r h;obtain⟨p,n,rfl,hp,hn,q⟩:=h;obtain⟨u,rfl,ru⟩:=fu r;cases ru;obtain⟨⟨o,ho,hex,es,ep,t,w1,w2,w3⟩,_,_⟩:=I.hok p _ hp;exact call_len_set ho hex w1 w2 .(f) ⟨.int n,H,I.tok _,⟨_,by rw[w3]⟩,q⟩
end
variable {pos2:dD}
section
open ST
noncomputable def mi:ac D->ar (ac (ac Key))
 |[]=>aa []
 |.tup t::r=>(gT t).bind fun k=>(mi r).map (k::·)
 |_::_=>ab
theorem Ct {Γ:Cn} {K:bu} {G H:Hp} (gh:bT G H):∀{vs:ac V} {ds:ac D} {ts:ac (ac Key)},Reps Γ K G vs ds->mi ds=aa ts->vs.length=ts.length/\∀(i:al) t,ts[i]?=aa t->∃b,vs[i]?=aa (.ref b)/\H b=aa (.tup (t.map kV))
 |_,[],ts,r,h=>by cases r;cases h;exact⟨rfl,fun i t e=>by simp at e⟩
 |_,d::ds,ts,.cons h1 h2,h=>by
  cases d with
  |tup t=>
   unfold mi at h;obtain⟨k,hk,h⟩:=oBd h;obtain⟨zs,hz,rfl⟩:=oMd h;obtain⟨a,us,rfl,ha,ra⟩:=h1.tup_inv;have e:=mP ra hk;subst e;obtain⟨q1,q2⟩:=Ct gh h2 hz;refine⟨by rw[qj,qj,q1],fun i t' e=>?_⟩;cases i with
   |zero=>cases e;exact⟨a,rfl,gh _ _ ha⟩
   |succ i=>exact q2 i t' e
  |_=>cases h
noncomputable def n9:D->ar D
 |.lst l=>if l.length<=300 then match gT l with
  |some ks=>aa (.int (dd ks).length)
  |none=>(mi l).map fun ts=>.int (dd ts).length
  else ab
 |_=>ab
theorem JV (hc:X.calm=ah) (hu:X.A.units+66<cy) (hgl:Gl X "len") (hml:X.mg "len"=ab) (hgs:Gl X "set") (hms:X.mg "set"=ab) (h:DE Γ X e f)
  (h1:a8 ([.Call (.Name "set" p2) [e] [] pos2]:ac Expr) X.env=(ao,eval (.Call (.Name "set" p2) [e] [] pos2) X.env)::a8 [] X.env:=by rfl) (h2:(cN pos (a8 [] X.env)).any (·.1)=ao:=by rfl)
  (h3:a8 ([e]:ac Expr) X.env=(ao,eval e X.env)::a8 [] X.env:=by rfl) (h4:(cN pos2 (a8 [] X.env)).any (·.1)=ao:=by rfl) :
  DE Γ X (.Call (.Name "len" p) [.Call (.Name "set" p2) [e] [] pos2] [] pos) (b1 n9 f):=⟨by
 refine(tF NJ hgl hml (by rfl) (jx (sV (J5 hc hu) hgs hms (by rfl) (jx h.1 jw h3) .(h) .(h) h3 h4) jw h1) .(h) .(h) h1 h2).imp fun σ H Q=>?_;rintro⟨G₀,H₀,G,ρ,d,A,hq,k⟩;unfold b1 at hq;obtain⟨x,hx,hl⟩:=oBd hq;clear hq;refine⟨G₀,H₀,G,ρ,x,A,hx,fun v G1 H1 s1 r1=>?_⟩;unfold n9 at hl;split at hl
 .rename_i l;split at hl
  .rename_i hz;obtain⟨a,vs,rfl,ha,ra⟩:=r1.lst_inv;have go:∀(n:al),n<=300->d=.int n->∀p,H1 p=ab->∃p' n',[V.ref p]=[V.ref p']/\(upd H1 p (lv p n)) p'=aa (lv p' n')/\n'<=300/\Q (.int n') (upd H1 p (lv p n)):=fun n hn ed p hp=>by subst ed;refine⟨p,n,rfl,ca,hn,k _ G1 _ (s1.trans (Step.newOwn s1.gh hp)) (.int _)⟩
   refine⟨a,vs,rfl,s1.gh _ _ ha,by rw[ra.length];exact hz,?_⟩;split at hl
   .rename_i ks hk;refine .inl ⟨ks,mP ra hk,go _ ?_ (qG hl).symm⟩;have h5:=mG ks;have h6:ks.length=l.length:=by have:=mP ra hk;rw[←ra.length,this,qg]
    omega
   .obtain⟨ts,ht,e1⟩:=oMd hl;obtain⟨q1,q2⟩:=Ct s1.gh ra ht;refine .inr ⟨ts,q1,q2,go _ ?_ e1.symm⟩;have h5:=mG ts;have h6:=ra.length;omega
  .cases hl
 .cases hl⟩
end
namespace DT
theorem IP:vz (.type "list") "keys"=bG ab:=by rw[sJ,sK];kernel_rfl
theorem LL:vz (.type "list") "__getattr__"=bG ab:=by rw[sJ,sK];kernel_rfl
theorem JH {l:av} {u:Tok} {xs:bQ Value} (hx:s.heap.get? l=aa {cls:=.type "list",data:=.seq xs n}) (hA:A.handled=ab)
  (h:∀h' tk e,Heap.NewAttrErr s.heap h' e (.ref l) "keys"->R (.error (.ref e)) {s with heap:=h',toks:=tk}) :
  iH .(N) A (.call (.builtin "list.__getattribute__") ⟨[.ref l,.str "keys" u],[]⟩) R s:=by
 obtain⟨hp,g,d,tk,os⟩:=s;have hT:(⟨hp,g,d,tk,os⟩:aH).TypeIs (.ref l) "list":=⟨_,hx,rfl⟩;have f1:=IP;refine RW zU.plain F.entry_list_ga (zU.check _ _ _ _ _ _ _ _ hT (F.args_list_getattribute_2 _ _) ?_);unfold Builtin.«object.__getattribute__»
 repeat (any_goals (first|assumption|wp_step))
 have hsz:(zj "keys").length+100<=aW:=by rw[PySem.ofString_length];decide
 refine wpAny_raiseAttrError (A:=A.in1) hA h ?_;exact attrMsg_fits .(r) hsz
set_option maxHeartbeats 4000000 in
theorem Ib {l:av} {Q:ar Value->aH->Prop} {E:Value->aH->Prop} {xs:bQ Value} (hx:s.heap.get? l=aa {cls:=.type "list",data:=.seq xs n}) (hA:A.handled=ab)
  (h:∀h' tk,(∀b ob,s.heap.get? b=aa ob->h'.get? b=aa ob)->Q ab {s with heap:=h',toks:=tk}) :
  aM .(N) A (getAttr? (.ref l) "keys") Q E s:=by
 obtain⟨hp,g,d,tk,os⟩:=s;have hT:∀tk',(⟨hp,g,d,tk',os⟩:aH).TypeIs (.ref l) "list":=fun _=>⟨_,hx,rfl⟩;have f1:=sub_AttributeError;have f2:=zU.lookup;have f3:=zU.bind (.ref l);have f5:=LL;unfold getAttr? getAttrBy?;refine qx (wpAny_mkText ?_);refine qx (zV ?_);unfold getAttrBy;refine qS (qx (sk (hT _) (qx (vO f2 ?_))));show aM _ _ (R5 _ _ _ _ _ _) _ _ _;unfold R5;refine qx (m:=hookBefore (lM "list")) (qz ?_);refine qx (zV (qS ?_));show aM _ _ (R6 _ _ _) _ _ _;unfold R6;refine qx (vO f3 ?_);refine zc (JH (s:=⟨hp,g,d,tk+1,os⟩) hx hA fun h' tk' e hn=>?_);obtain⟨t',u',he⟩:=hn.there;have hE:zP ⟨h',g,d,tk',os⟩ (.ref e) "AttributeError":=⟨_,he,rfl⟩;show aM _ _ (R7 _ _ _ _ _ _ _) _ _ _;unfold R7;refine qx (zW hE f1 ?_);simp only[cK];refine qx (m:=hookBehind (lM "list") ab) (vO f5 ?_);unfold hookOrError attributeErrorLeaves;simp only[l7,cK];refine qx (wpAny_throw ?_);refine qx (zW hE f1 ?_);simp only[cK];exact qz (h h' tk' hn.keeps)
theorem Dq:zX table "dict.update.loop"=aa Builtin.«dict.update.loop»:=R8 (by kernel_rfl)
theorem tR:plainId "dict.update.loop"=ah:=by decide +kernel
section
variable {G:bQ rY->bQ rY->Prop} {P:al->Value->Prop} {St:al->aH->Prop}
noncomputable def Ae (prog:bV) (w:cR) (A:dB) (S:av) (h0:Heap) (P:al->Value->Prop) (n:al) (J:al->bf->Prop):Prop:=
 ∀(i:al) (b:av) (kv vv:Value) (s:aH) (o:bf) (Q:lO->aH->Prop) (E:Value->aH->Prop),i<n->P i (.ref b)->h0.IsTuple b #[kv,vv]->s.heap.get? S=aa o->J i o->(∀b o,b<h0.objs.size->h0.get? b=aa o->s.heap.get? b=aa o)->
  (∀h' tk o',s.toks<=tk->iF S s.heap h'->h'.get? S=aa o'->J (i+1) o'->Q () {s with heap:=h',toks:=tk})->aM .(N) A (dictSet S kv vv) Q E s
theorem Jo (W:WalksS prog w A.in1 I fp wr G n P St) (S:av) (hSf:S∉fp) (h0:Heap) (hS0:h0.objs.size<=S) (hw0:∀b∈wr,h0.objs.size<=b) (J:al->bf->Prop) (hadd:Ae prog w A.in1 S h0 P n J) (hP:∀i v,P i v->∃b kv vv,v=.ref b/\h0.IsTuple b #[kv,vv]) :
  ∀(k i:al) (c:ag) (s:aH) (o:bf),n-i=k->i<=n->St i s->s.heap.get? S=aa o->J i o->(∀b o,b<h0.objs.size->h0.get? b=aa o->s.heap.get? b=aa o)->
   (∀s' o',Moved (S::wr) G s s'->s'.heap.get? S=aa o'->J n o'->R (.ok (.ret .none)) s')->
   iH .(N) A (.builtin "dict.update.loop" ⟨[.ref S,.ref I,jf c,.none],[]⟩) R s:=by
 have hSw:S∉wr:=fun h=>hSf (W.sub _ h);have hsub:∀b∈wr,b∈S::wr:=fun b hb=>qi _ hb;have keep:∀{h h':Heap},(∀b o,b<h0.objs.size->h0.get? b=aa o->h.get? b=aa o)->(∀b o,b∉S::wr->h.get? b=aa o->h'.get? b=aa o)->∀b o,b<h0.objs.size->h0.get? b=aa o->h'.get? b=aa o:=fun q1 q2 b o hb e=>q2 b o (fun z=>by
  rcases c0.mp z with z|z
  .rw[z] at hb;exact bK hb (Fn.mpr hS0)
  .exact bK hb (Fn.mpr (hw0 b z))) (q1 b o hb e)
 intro k
 induction k with
 |zero=>
  intro i c s o hk hi hst hS hJ hB hR;have hin:i=n:=by omega
  subst hin;refine nF Dq ?_;rw[pA tR _];show aM _ A.in1 (jZ (.ref I) >>= _) _ _ s;refine qx (W.done s _ _ hst fun s' hm=>?_);show aM _ A.in1 (TQ S [] >>= _) _ _ s';exact qx (qz (qz (hR s' o (hm.mono hsub) (hm.heap S _ hSw hS) hJ)))
 |succ k ih=>
  intro i c s o hk hi hst hS hJ hB hR;have hlt:i<n:=by omega
  refine nF Dq ?_;rw[pA tR _];show aM _ A.in1 (jZ (.ref I) >>= _) _ _ s;refine qx (W.item i s _ _ hlt hst fun v s' hPv hst' hm=>?_);obtain⟨b,kv,vv,rfl,hb⟩:=hP i v hPv;have hB':=keep hB fun b o hb e=>hm.heap b o (fun z=>hb (hsub b z)) e;obtain⟨ob,hob,hoc,nn,hod⟩:=hb;have hob':s'.heap.get? b=aa ob:=hB' b ob (qv hob) hob;have hTb:s'.TypeIs (.ref b) "tuple":=⟨_,hob',hoc⟩;show aM _ A.in1 (jX [cm b] _ >>= _) _ _ s';refine qx (qS ?_);refine qx ?_;refine wpAny_tryCatch ?_;unfold TR;refine qx (sk hTb ?_);rw[qY .(h)];refine qx (FI hob' hod (qz ?_));show aM _ A.in1 (jX [kv,vv] (dictSet S kv vv)) _ _ s';refine qS (hadd i b kv vv s' o _ _ hlt hPv ⟨ob,hob,hoc,nn,hod⟩ (hm.heap S _ hSw hS) hJ hB' fun h' tk o' htk hsb hS' hJ'=>?_);refine qz ⟨sG tR _,ih (i+1) (c+1) _ o' .(f) hlt (W.frame _ s' _ _ hst' htk fun b hb o e=>?_) hS' hJ' ?_ fun s'' o'' hm'' hS'' hJ''=>?_⟩
  .rw[hsb.2 b (fun h:b=S=>hSf (by rw[←h];exact hb))];exact e
  .refine keep hB' fun b o hb e=>?_;show h'.get? b=aa o;rw[hsb.2 b (fun h:b=S=>hb (by rw[h];exact qh))];exact e
  .refine hR s'' o'' (RT W.gtrans ((hm.mono hsub).then_heap htk fun b o hb e=>?_) hm'') hS'' hJ'';rw[hsb.2 b (fun h:b=S=>hb (by rw[h];exact qh))];exact e
end
section
variable {E:Value->aH->Prop}
theorem call_dict_gen {l:av} {c:al} (hh:A.handled=ab) (hl:s.heap.get? l=aa {cls:=.type "list",data:=.seq items c}) (J:al->bf->Prop)
  (hJ0:J 0 {cls:=.type "dict",data:=.dict #[]})
  (hadd:∀A':dB,A'.units<=A.units+16->Ae prog w A' s.heap.objs.size s.heap (fun i v=>items[i]?=aa v) items.size J)
  (hP:∀(i:al) (v:Value),items[i]?=aa v->∃b kv vv,v=.ref b/\s.heap.IsTuple b #[kv,vv])
  (h:∀(h':Heap) (tk:al) (o:bf),h'.get? s.heap.objs.size=aa o->J items.size o->
   (∀b o,b<s.heap.objs.size->s.heap.get? b=aa o->h'.get? b=aa o)->Q (.ref s.heap.objs.size) {s with heap:=h',toks:=tk}) :
  aM .(N) A (call (.type "dict") [.ref l]) Q E s:=by
 refine callType_codes (Q₁:=fun obj s₁=>obj=.ref s.heap.objs.size/\s₁={s with heap:=s.heap.push {cls:=.type "dict",data:=.dict #[]} }) F.kt_called_dict (F.kt_typeCall_dict_1 _) F.entry_dict_init (kt_code_dict_new _ ⟨rfl,rfl⟩) ?_;rintro obj s₁ ⟨rfl,rfl⟩;have hnew:(s.heap.push {cls:=.type "dict",data:=.dict #[]}).get? s.heap.objs.size=aa {cls:=.type "dict",data:=.dict #[]}:=qF _ rfl;have hl1:(s.heap.push {cls:=.type "dict",data:=.dict #[]}).get? l=aa {cls:=.type "list",data:=.seq items c}:=qu _ hl;have hT:zP {s with heap:=s.heap.push {cls:=.type "dict",data:=.dict #[]} } (.ref s.heap.objs.size) "dict":=⟨_,hnew,rfl⟩;have hTl:zP {s with heap:=s.heap.push {cls:=.type "dict",data:=.dict #[]} } (.ref l) "list":=⟨_,hl1,rfl⟩;refine⟨hT,F.args_dict_init_2 _ _,?_⟩;unfold Builtin.«dict.__init__»;refine qx ?_;unfold TU;refine qx (wpAny_notOrdered_dict hT ?_);show aM _ _ (bG (s.heap.objs.size,[cm l])) _ _ _;refine qz ?_;show aM _ _ (R9 "dict.__init__" s.heap.objs.size (.ref l) [] .none) _ _ _;unfold R9;refine qx (sk hTl ?_);rw[qY .(h)];refine qx (Ib (s:={s with heap:=s.heap.push {cls:=.type "dict",data:=.dict #[]} }) (A:=A.in1.in1) hl1 hh fun h1 tk1 hk1=>?_);simp only[Option.isNone_none,cK];refine qx (ES ?_);have hl2:h1.IsList l items:=⟨_,hk1 _ _ hl1,rfl,_,rfl⟩;refine qx (sB (s:={s with heap:=h1,toks:=tk1}) hl2 ?_);refine qz ⟨sG tR _,?_⟩;have hlS:l<s.heap.objs.size:=qv hl;have hsz1:s.heap.objs.size<h1.objs.size:=qv (hk1 _ _ hnew);have hneI:l≠h1.objs.size:=qB (sr hlS hsz1);have hSf:s.heap.objs.size∉[h1.objs.size,l]:=by simp only[qK,ce,qI,or_false,sI];exact⟨qB hsz1,yX hlS⟩
 have old:∀b o,b<s.heap.objs.size->s.heap.get? b=aa o->h1.get? b=aa o:=fun b o _ e=>hk1 _ _ (qu _ e);refine Jo ((vH (A:=A.in1.in1) (by simpa using hh) _ l hneI items).toS) s.heap.objs.size hSf s.heap (qw _) (fun b hb=>?_) J (hadd _ (by show A.units+2<=_;omega)) hP (items.size-0) 0 0 _ _ .(f) (iK _)
  ⟨⟨_,qF _ rfl,rfl,rfl⟩,hl2.push _⟩ (qu _ (hk1 _ _ hnew)) hJ0 (fun b o hb e=>qu _ (old b o hb e)) fun s' o' hm hS' hJ'=>?_
 .have:b=h1.objs.size:=by simpa using hb
  rw[this];exact rW hsz1
 .obtain⟨h',g',d',tk',os'⟩:=s';have eg:g'=s.gens:=hm.gens;have ed:d'=s.drawn:=hm.drawn;have eo:os'=s.os:=hm.os;subst eg;subst ed;subst eo;refine⟨rfl,h h' tk' o' hS' hJ' fun b o hb e=>hm.heap b o ?_ (qu _ (old b o hb e))⟩;simp only[qK,ce,qI,or_false,sI];exact⟨qB hb,qB (sr hb hsz1)⟩
end
end DT
section
variable [eV κ]
noncomputable def mrg (kvs ps:ac (κ×V)):ac (κ×V):=ps.foldl (fun acc kv=>eG acc kv.1 kv.2) kvs
theorem C8 (kvs ps:ac (κ×V)) (p:κ×V):mrg kvs (ps++[p])=eG (mrg kvs ps) p.1 p.2:=by unfold mrg;rw[zQ];rfl
theorem Jh (kvs:ac (κ×V)) (k:κ) (v:V):(eG kvs k v).length<=kvs.length+1:=by
 unfold eG;split
 .rw[qg];omega
 .rw[qk,qV];omega
theorem pR:∀(ps kvs:ac (κ×V)),(mrg kvs ps).length<=kvs.length+ps.length
 |[],kvs=>qw _
 |p::ps,kvs=>by have h1:=pR ps (eG kvs p.1 p.2);have h2:=Jh kvs p.1 p.2;show(mrg (eG kvs p.1 p.2) ps).length<=_;rw[qj];omega
end
noncomputable def JQ:ac V->Hp->VK->Prop:=fun xs H Q=>∃(a:av) (vs:ac V) (ps:ac (Key×V)),xs=[.ref a]/\H a=aa (.lst vs)/\vs.length=ps.length/\ps.length<=1000/\(∀(i:al) p,ps[i]?=aa p->∃b,vs[i]?=aa (.ref b)/\H b=aa (.tup [kV p.1,p.2])) /\
 ∀q,H q=ab->Q (.ref q) (upd H q (.dK (mrg [] ps)))
theorem AL {b:av} {x y:V} (I:Inv X pins σ H s) (hb:H b=aa (.tup [x,y])):∃u v,bI x u/\bI y v/\s.heap.IsTuple b #[u,v]:=by
 obtain⟨its,r,p,_⟩:=I.tuple (.inl (.inl hb));cases r with
 |cons r1 r2=>
  cases r2 with
  |cons r2 r3=>
   cases r3;exact⟨_,_,r1,r2,p⟩
theorem tuple_inj {h:Heap} {b:av} {x y:bQ Value} (p:h.IsTuple b x) (q:h.IsTuple b y):x=y:=by obtain⟨o,h1,_,n,h2⟩:=p;obtain⟨o',g1,_,m,g2⟩:=q;rw[h1] at g1;cases g1;rw[h2] at g2;cases g2;rfl
theorem K2 (hc:X.calm=ah) (hu:X.A.units+66<cy):eE X (.type "dict") JQ:=by
 intro pins s σ H xs us Q I r h;obtain⟨a,vs,ps,rfl,ha,hl,hz,hp,q⟩:=h;obtain⟨u,rfl,ru⟩:=fu r;cases ru;obtain⟨z,its,n,rv,hlen,e⟩:=I.lstM ha;have hsz:its.toArray.size=ps.length:=by rw[qA,←hlen,hl]
 have hit:∀(i:al) (v:Value),its.toArray[i]?=aa v->∃p b u w,ps[i]?=aa p/\v=.ref b/\bI (kV p.1) u/\bI p.2 w/\s.heap.IsTuple b #[u,w]:=fun i v hv=>by
  have hi:i<ps.length:=by rw[←hsz];exact(gX.mp hv).1
  obtain⟨b,hb1,hb2⟩:=hp i ps[i] (by simp[hi]);obtain⟨u2,hu2,ru2⟩:=rv.get hb1;have hv':its[i]?=aa v:=by simpa using hv
  rw[hu2] at hv';cases hv';cases ru2;obtain⟨u,w,r1,r2,r3⟩:=AL I hb2;exact⟨ps[i],b,u,w,by simp[hi],rfl,r1,r2,r3⟩
 refine DT.call_dict_gen (I.ok.hd hc) e (fun i o=>∃vs',KV (mrg [] (ps.take i)) vs'/\o.IsDictOf (cP X.prog X.w) vs') ?_ (fun A' hA' i b kv vv sh o Q' E' hi hv hb ho hJ hB hQ=>?_) (fun i v hv=>?_) fun h' tk o ho hJ hk=>?_
 .obtain⟨o,ho,hd⟩:=zY.mp (Rk (knd:=cP X.prog X.w) s.heap);have:o={cls:=.type "dict",data:=.dict #[]}:=by have:=qF s.heap (o:={cls:=.type "dict",data:=.dict #[]}) rfl;rw[this] at ho;exact(qG ho).symm
  subst this;exact⟨[],.nil,hd⟩
 .obtain⟨p,b',u,w,h1,h2,h3,h4,h5⟩:=hit i _ hv;cases h2;have e2:=tuple_inj hb h5;have e3:kv=u/\vv=w:=by simpa using e2
  obtain⟨rfl,rfl⟩:=e3;obtain⟨vs',k1,k2⟩:=hJ;have hle:vs'.length<=1000:=by have q1:=k1.length;have q2:=pR (ps.take i) ([]:ac (Key×V));rw[qD,qm] at q2;omega
  refine wpAny_dictSet_pairs (jb h3) (zY.mpr ⟨o,ho,k2⟩) (fun h' hd' hsb=>?_) (by rw[fT];omega);obtain⟨o',ho',hd''⟩:=zY.mp hd';refine hQ h' _ o' (lU _) hsb ho' ⟨_,?_,hd''⟩;have htk:ps.take (i+1)=ps.take i++[p]:=by rw[pC,h1];rfl
  rw[htk,C8];exact k1.put p.1 h4
 .obtain⟨p,b,u,w,h1,h2,h3,h4,h5⟩:=hit i v hv;exact⟨b,u,w,h2,h5⟩
 .obtain⟨vs',k1,k2⟩:=hJ;rw[hsz,j3] at k1;refine⟨.ref s.heap.objs.size,_,I.laid (a:=s.heap.objs.size) (o:=.dK (mrg [] ps)) (fun b u e=>hk b u (qv e) e) (qw _) ⟨?_,?_,vs',k1,zY.mpr ⟨o,ho,k2⟩⟩,rfl,q _ I.fresh⟩
  .have:=pR ps ([]:ac (Key×V));rw[qm] at this;rw[fT];omega
  .exact ng.mpr (dI (qB I.big))
noncomputable def Qq:ac V->Hp->VK->Prop:=fun xs H Q=>∃(a:av) (vs:ac V) (ps:ac (ac Key×V)),xs=[.ref a]/\H a=aa (.lst vs)/\vs.length=ps.length/\ps.length<=1000/\(∀(i:al) p,ps[i]?=aa p->∃b kb,vs[i]?=aa (.ref b)/\H b=aa (.tup [.ref kb,p.2])/\H kb=aa (.tup (p.1.map kV))) /\
 ∀q,H q=ab->Q (.ref q) (upd H q (.dT (mrg [] ps)))
theorem M9 {P:ac Key->av->Prop} (hP:∀k b,H b=aa (.tup (k.map kV))->P k b):∀{kvs:ac (ac Key×V)} {xs:ac (ac Key×av×Value)},KT H kvs xs->∀x∈xs,P x.1 x.2.1:=by
 intro kvs xs q
 induction q with
 |nil=>intro x hx;cases hx
 | @cons p y ps ys hq t ih=>
  intro x hx;rcases c0.mp hx with rfl|hx
  .exact hP _ _ (by rw[←hq.1];exact hq.2.1)
  .exact ih x hx
theorem MY (hc:X.calm=ah) (hu:X.A.units+66<cy):eE X (.type "dict") Qq:=by
 intro pins s σ H xs us Q I r h;obtain⟨a,vs,ps,rfl,ha,hl,hz,hp,q⟩:=h;obtain⟨u,rfl,ru⟩:=fu r;cases ru;obtain⟨z,its,n,rv,hlen,e⟩:=I.lstM ha;have hsz:its.toArray.size=ps.length:=by rw[qA,←hlen,hl]
 have hit:∀(i:al) (v:Value),its.toArray[i]?=aa v->∃p b kb w,ps[i]?=aa p/\v=.ref b/\H kb=aa (.tup (p.1.map kV))/\bI p.2 w/\s.heap.IsTuple b #[.ref kb,w]:=fun i v hv=>by
  have hi:i<ps.length:=by rw[←hsz];exact(gX.mp hv).1
  obtain⟨b,kb,hb1,hb2,hb3⟩:=hp i ps[i] (by simp[hi]);obtain⟨u2,hu2,ru2⟩:=rv.get hb1;have hv':its[i]?=aa v:=by simpa using hv
  rw[hu2] at hv';cases hv';cases ru2;obtain⟨u,w,r1,r2,r3⟩:=AL I hb2;cases r1;exact⟨ps[i],b,kb,w,by simp[hi],rfl,hb3,r2,r3⟩
 have isk:∀{h':Heap},(∀b o,b<s.heap.objs.size->s.heap.get? b=aa o->h'.get? b=aa o)->∀k b,H b=aa (.tup (k.map kV))->(kK (cP X.prog X.w)).is h' k b:=fun hB k b hb=>ST.IsTupleKey.mono (j6 I.hok hb) fun o e=>hB _ _ (qv e) e;refine DT.call_dict_gen (I.ok.hd hc) e (fun i o=>∃xs',KT H (mrg [] (ps.take i)) xs'/\∃es ep,o.ExactDict/\o.data=.dict es ep/\es.toList=xs'.map (entryOfKey (kK (cP X.prog X.w)))/\(xs'.map (·.1)).Nodup) ?_ (fun A' hA' i b kv vv sh o Q' E' hi hv hb ho hJ hB hQ=>?_) (fun i v hv=>?_) fun h' tk o ho hJ hk=>?_
 .exact⟨[],.nil,#[],0,⟨rfl,rfl,rfl⟩,rfl,rfl,List.nodup_nil⟩
 .obtain⟨p,b',kb,w,h1,h2,h3,h4,h5⟩:=hit i _ hv;cases h2;have e2:=tuple_inj hb h5;have e3:kv=.ref kb/\vv=w:=by simpa using e2
  obtain⟨rfl,rfl⟩:=e3;obtain⟨xs',k1,es,ep,k2,k3,k4,k5⟩:=hJ;have hle:xs'.length<=1000:=by have q1:=Paired.length k1;have q2:=pR (ps.take i) ([]:ac (ac Key×V));rw[qD,qm] at q2;omega
  refine wpAny_dictSet_heap (knd:=kK (cP X.prog X.w)) (show A'.units<cy by omega) (isk hB _ _ h3) ⟨o,es,ep,ho,k2,k3,k4,M9 (isk hB) k1,k5⟩ (fun h' hd' hsb=>?_) (by rw[fT];omega);obtain⟨o',es',ep',ho',w2,w3,w4,_,w5⟩:=hd';refine hQ h' _ o' (Fx _ _) hsb ho' ⟨_,?_,es',ep',w2,w3,w4,w5⟩;have htk:ps.take (i+1)=ps.take i++[p]:=by rw[pC,h1];rfl
  rw[htk,C8];exact k1.put p.1 h3 h4
 .obtain⟨p,b,kb,w,h1,h2,h3,h4,h5⟩:=hit i v hv;exact⟨b,_,w,h2,h5⟩
 .obtain⟨xs',k1,es,ep,k2,k3,k4,k5⟩:=hJ;rw[hsz,j3] at k1;refine⟨.ref s.heap.objs.size,_,I.laid (a:=s.heap.objs.size) (o:=.dT (mrg [] ps)) (fun b u e=>hk b u (qv e) e) (qw _) ⟨?_,?_,xs',k1.keeps fun b ys e=>?_,o,es,ep,ho,k2,k3,k4,k5⟩,rfl,q _ I.fresh⟩
  .have:=pR ps ([]:ac (ac Key×V));rw[qm] at this;rw[fT];omega
  .exact ng.mpr (dI (qB I.big))
  .rw[a7 (ck e I.fresh)];exact e
noncomputable def og:ac D->ar (ac (Key×D))
 |[]=>aa []
 |.tup [k,v]::r=>(gJ k).bind fun kk=>(og r).map ((kk,v)::·)
 |_::_=>ab
noncomputable def mY:ac D->ar (ac (ac Key×D))
 |[]=>aa []
 |.tup [.tup t,v]::r=>(gT t).bind fun kk=>(mY r).map ((kk,v)::·)
 |_::_=>ab
noncomputable def tX [eV κ] (ps:ac (κ×D)):ac (κ×D):=ps.foldl (fun acc kv=>eU acc kv.1 kv.2) []
noncomputable def eZ:ac D->ar D
 |[.lst l]=>if l.length<=1000 then (og l).map fun ps=>.dk (tX ps) else ab
 |_=>ab
noncomputable def uu:ac D->ar D
 |[.lst l]=>if l.length<=1000 then (mY l).map fun ps=>.dt (tX ps) else ab
 |_=>ab
theorem ye {κ:Type} [eV κ] {K:bu} {G:Hp}:∀{us:ac (κ×V)} {kvs:ac (κ×D)} {acc:ac (κ×V)} {acd:ac (κ×D)},us.map (·.1)=kvs.map (·.1)->Reps Γ K G (us.map (·.2)) (kvs.map (·.2))->acc.map (·.1)=acd.map (·.1)->Reps Γ K G (acc.map (·.2)) (acd.map (·.2))->
  (mrg acc us).map (·.1)=(kvs.foldl (fun acc kv=>eU acc kv.1 kv.2) acd).map (·.1)/\Reps Γ K G ((mrg acc us).map (·.2)) ((kvs.foldl (fun acc kv=>eU acc kv.1 kv.2) acd).map (·.2))
 |[],[],_,_,_,_,e,r=>⟨e,r⟩
 |[],_::_,_,_,e,_,_,_=>by cases e
 |_::_,[],_,_,e,_,_,_=>by cases e
 |(k1,v)::us,(k2,d)::kvs,acc,acd,e,r,e0,r0=>by
  have e1:k1=k2:=(ij e).1;subst e1;have r:Reps Γ K G (v::us.map (·.2)) (d::kvs.map (·.2)):=r;cases r with
  |cons r1 r2=>
   obtain⟨w1,w2⟩:=tQ (k:=k1) r1 e0 r0;exact ye (us:=us) (kvs:=kvs) (ij e).2 r2 w1 w2
theorem BE {K:bu} {G H:Hp} (gh:bT G H):∀{vs:ac V} {ds:ac D} {ps:ac (Key×D)},Reps Γ K G vs ds->og ds=aa ps->
  ∃us:ac (Key×V),vs.length=us.length/\us.map (·.1)=ps.map (·.1)/\Reps Γ K G (us.map (·.2)) (ps.map (·.2))/\∀(i:al) p,us[i]?=aa p->∃b,vs[i]?=aa (.ref b)/\H b=aa (.tup [kV p.1,p.2])
 |_,[],ps,r,h=>by cases r;cases h;exact⟨[],rfl,rfl,.nil,fun i p e=>by simp at e⟩
 |_,d::ds,ps,.cons h1 h2,h=>by
  unfold og at h;split at h
  .rename_i heq;cases heq
  .rename_i heq;cases heq;obtain⟨kk,hk,h⟩:=oBd h;obtain⟨zs,hz,rfl⟩:=oMd h;obtain⟨us,q1,q2,q3,q4⟩:=BE gh h2 hz;obtain⟨a,ws,rfl,ha,ra⟩:=h1.tup_inv;obtain⟨x,y,rfl,rx,ry⟩:=ra.two;have ex:=lD rx hk;subst ex;refine⟨(kk,y)::us,by rw[qj,qj,q1],by simp[q2],.cons ry q3,fun i p e=>?_⟩;cases i with
   |zero=>cases e;exact⟨a,rfl,gh _ _ ha⟩
   |succ i=>exact q4 i p e
  .cases h
theorem CP {K:bu} {G H:Hp} (gh:bT G H):∀{vs:ac V} {ds:ac D} {ps:ac (ac Key×D)},Reps Γ K G vs ds->mY ds=aa ps->
  ∃us:ac (ac Key×V),vs.length=us.length/\us.map (·.1)=ps.map (·.1)/\Reps Γ K G (us.map (·.2)) (ps.map (·.2))/\∀(i:al) p,us[i]?=aa p->∃b kb,vs[i]?=aa (.ref b)/\H b=aa (.tup [.ref kb,p.2])/\H kb=aa (.tup (p.1.map kV))
 |_,[],ps,r,h=>by cases r;cases h;exact⟨[],rfl,rfl,.nil,fun i p e=>by simp at e⟩
 |_,d::ds,ps,.cons h1 h2,h=>by
  unfold mY at h;split at h
  .rename_i heq;cases heq
  .rename_i heq;cases heq;obtain⟨kk,hk,h⟩:=oBd h;obtain⟨zs,hz,rfl⟩:=oMd h;obtain⟨us,q1,q2,q3,q4⟩:=CP gh h2 hz;obtain⟨a,ws,rfl,ha,ra⟩:=h1.tup_inv;obtain⟨x,y,rfl,rx,ry⟩:=ra.two;obtain⟨kb,ks,rfl,hkb,rk⟩:=rx.tup_inv;have ex:=mP rk hk;subst ex;refine⟨(kk,y)::us,by rw[qj,qj,q1],by simp[q2],.cons ry q3,fun i p e=>?_⟩;cases i with
   |zero=>cases e;exact⟨a,kb,rfl,gh _ _ ha,gh _ _ hkb⟩
   |succ i=>exact q4 i p e
  .cases h
theorem nc (hc:X.calm=ah) (hu:X.A.units+66<cy):TyD Γ X "dict" eZ:=⟨_,K2 hc hu,fun {G H vs ds z} gh r h Q k=>by
 unfold eZ at h;split at h
 .split at h
  .rename_i hz;obtain⟨ps,hp,rfl⟩:=oMd h;obtain⟨v,rfl,r1⟩:=r.one;obtain⟨a,ws,rfl,ha,ra⟩:=r1.lst_inv;obtain⟨us,q1,q2,q3,q4⟩:=BE gh ra hp;refine⟨a,ws,us,rfl,gh _ _ ha,q1,by rw[←q1,ra.length];exact hz,q4,fun p hp=>?_⟩;have s:=Step.new (o:=.dK (mrg [] us)) gh hp;obtain⟨w1,w2⟩:=ye (acc:=[]) (acd:=[]) q2 q3 rfl .nil;exact k _ _ _ s (.dk ca w1 (w2.mono s.gg))
  .cases h
 .cases h⟩
theorem Hj (hc:X.calm=ah) (hu:X.A.units+66<cy):TyD Γ X "dict" uu:=⟨_,MY hc hu,fun {G H vs ds z} gh r h Q k=>by
 unfold uu at h;split at h
 .split at h
  .rename_i hz;obtain⟨ps,hp,rfl⟩:=oMd h;obtain⟨v,rfl,r1⟩:=r.one;obtain⟨a,ws,rfl,ha,ra⟩:=r1.lst_inv;obtain⟨us,q1,q2,q3,q4⟩:=CP gh ra hp;refine⟨a,ws,us,rfl,gh _ _ ha,q1,by rw[←q1,ra.length];exact hz,q4,fun p hp=>?_⟩;have s:=Step.new (o:=.dT (mrg [] us)) gh hp;obtain⟨w1,w2⟩:=ye (acc:=[]) (acd:=[]) q2 q3 rfl .nil;exact k _ _ _ s (.dt ca w1 (w2.mono s.gg))
  .cases h
 .cases h⟩
theorem Dfn.none {P:bV} {k:al} (F:Dfn K mg x st)
  (hb:∀(kV doc pm:Value) (an:ar av) (cdv ct:Value) (us:ac Value),us.length=ps.length->kP (gW x x (hZ st) (dS st) (aS st) .none kV doc pm an cdv ct) ⟨us,[]⟩=bG (ps.zip us))
 : Cal Γ P w K mg base x ps.length k (fun _=>ab):=by
 obtain⟨f,fd,h1,h2⟩:=F.ex;refine⟨f,fd,ps,⟨fun vs H Q E h=>?_,fun A outer s H args us vs Q E hr I b v h=>?_⟩,h2,h1.kp,h1.binds hb⟩
 .obtain⟨_,_,_,_,_,_,z,_⟩:=h;cases z
 .obtain⟨_,_,_,_,_,_,z,_⟩:=h;cases z
noncomputable def orG (g g':D->D->ar D) (x y:D):ar D:=match g x y with
 |some z=>aa z
 |none=>g' x y
variable {z:D}
section
variable {a:Expr} {g g':D->D->ar D}
theorem IE {x:D} (h:orG g g' x y=aa z):g x y=aa z\/g' x y=aa z:=by
 unfold orG at h;split at h
 .rename_i q;cases h;exact .inl q
 .exact .inr h
theorem CmpD.or (h:CmpD Γ X op g) (h':CmpD Γ X op g'):CmpD Γ X op (orG g g'):=by
 obtain⟨r,o,d⟩:=h.ex;obtain⟨r',o',d'⟩:=h'.ex;refine⟨_,o.or o',fun {G H v u x y z} gh r1 r2 q Q k=>?_⟩;rcases IE q with q|q
 .exact .inl (d gh r1 r2 q Q k)
 .exact .inr (d' gh r1 r2 q Q k)
noncomputable def eqA:=orG eqD mU
noncomputable def neA:=orG neD mv
theorem oJ (hu:X.A.units+64<cy):CmpD Γ X .Eq eqA:=fO.or (N6 hu)
theorem iX (hu:X.A.units+64<cy):CmpD Γ X .NotEq neA:=K4.or (Na hu)
theorem DfnM.mk' {f:av} {c:aj} {kV:Value} (a:dN K (.ref C) m=aa (aa (.ref f))) (i:vx K (.ref f)=ah)
  (l:K.lookup f=aa ⟨oc,od,.func (gW m qual (hZ st) (dS st) (aS st) .none kV doc pm an cdv ct),osl⟩) (cd:si K cdv qual=ah) (k:iI K (.ref f)=ah):DfnM K C c m qual st:=⟨f,_,wf l cd k,a,i⟩
end
section
variable {f1 f2 f3 f4 f5 f6 f7:FE}
theorem ln1:∀ρ ds,ae f1 ak ρ=aa ds->ds.length=1:=mD fun _ _ h=>P6 h
theorem ln2:∀ρ ds,ae f1 (ae f2 ak) ρ=aa ds->ds.length=2:=mD ln1
theorem ln3:∀ρ ds,ae f1 (ae f2 (ae f3 ak)) ρ=aa ds->ds.length=3:=mD ln2
theorem ln4:∀ρ ds,ae f1 (ae f2 (ae f3 (ae f4 ak))) ρ=aa ds->ds.length=4:=mD ln3
theorem ln5:∀ρ ds,ae f1 (ae f2 (ae f3 (ae f4 (ae f5 ak)))) ρ=aa ds->ds.length=5:=mD ln4
theorem ln6:∀ρ ds,ae f1 (ae f2 (ae f3 (ae f4 (ae f5 (ae f6 ak))))) ρ=aa ds->ds.length=6:=mD ln5
theorem ln7:∀ρ ds,ae f1 (ae f2 (ae f3 (ae f4 (ae f5 (ae f6 (ae f7 ak)))))) ρ=aa ds->ds.length=7:=mD ln6
end
theorem At.setOdk (A:At Γ K G₀ H₀ G H ρ σ) (ha:H a=ab):At Γ K G₀ H₀ G (upd H a (.dK [])) (ρ.set i (aa (.odk []))) (σ.set i (aa (.ref a))):=by have h0:H₀ a=ab:=A.st.hh.free ha;have hg:G a=ab:=A.gh.free ha;refine A.put (fp:=[]) (fp':=[a]) (.inl rfl) (fun b o e _=>by rw[a7 (ck e ha)];exact e) (.odk (us:=[]) (kvs:=[]) h0 hg ca rfl .nil) (fun b hb=>.inr (by rw[ce.mp hb];exact ha)) (.refl _) (fun b o e=>?_) (fun _ _ _ _=>rfl) (fun b hb=>by cases hb);rw[a7 (ck e hg)];exact A.gh b o e
theorem At.chOdt (A:At Γ K G₀ H₀ G H ρ σ) {kvs kvs':ac (ac Key×D)} {us':ac (ac Key×V)} (hi:ρ[i]?=aa (aa (.odt kvs))) (ha:σ[i]?=aa (aa (.ref a))) (e:us'.map (·.1)=kvs'.map (·.1)) (r:Reps Γ K G (us'.map (·.2)) (kvs'.map (·.2))):At Γ K G₀ H₀ G (upd H a (.dT us')) (ρ.set i (aa (.odt kvs'))) σ:=by
 obtain⟨v,fp,h1,h2⟩:=A.get hi;rw[ha] at h1;cases h1;cases h2 with
 |odt q1 q2 q3 q4 q5=>
  refine A.ch hi ha (.odt q1 q2 q3 q4 q5) (fun b o e hb=>?_) (.odt q1 q2 ca e r) (fun b hb=>.inl hb) (.refl _) (fun b o e=>?_) (fun _ _ _ _=>rfl)
  .rw[a7 (fun z=>hb (ce.mpr z))];exact e
  .rw[a7 (ck e q2)];exact A.gh b o e
theorem At.chOdk (A:At Γ K G₀ H₀ G H ρ σ) {kvs kvs':ac (Key×D)} {us':ac (Key×V)} (hi:ρ[i]?=aa (aa (.odk kvs))) (ha:σ[i]?=aa (aa (.ref a))) (e:us'.map (·.1)=kvs'.map (·.1)) (r:Reps Γ K G (us'.map (·.2)) (kvs'.map (·.2))):At Γ K G₀ H₀ G (upd H a (.dK us')) (ρ.set i (aa (.odk kvs'))) σ:=by
 obtain⟨v,fp,h1,h2⟩:=A.get hi;rw[ha] at h1;cases h1;cases h2 with
 |odk q1 q2 q3 q4 q5=>
  refine A.ch hi ha (.odk q1 q2 q3 q4 q5) (fun b o e hb=>?_) (.odk q1 q2 ca e r) (fun b hb=>.inl hb) (.refl _) (fun b o e=>?_) (fun _ _ _ _=>rfl)
  .rw[a7 (fun z=>hb (ce.mpr z))];exact e
  .rw[a7 (ck e q2)];exact A.gh b o e
noncomputable def S4:Slot->ar D
 |.odt kvs=>aa (.dt kvs)
 |.odk kvs=>aa (.dk kvs)
 |_=>ab
section
variable {a:Expr} {fv:FE} {dp:dD}
noncomputable def ve (i:al):FS:=fun ρ=>aa (.nx,ρ.set i (aa (.odk [])))
theorem yo (i:al) (hN:X.N.Nodup) (hi:X.N[i]?=aa x:=by rfl) (hx:Loc X.env.scope x:=by first|exact dc rfl|exact cH rfl) (hs:fG (.Dict [] [] dp) (aa (.Name x pos')) pos.line X.env=bG ao:=by rfl) (hf:X.fn x=ah\/X.env.scope.names.lookup x=aa .local:=by first|exact .inl rfl|exact .inr rfl|assumption) :
  DS Γ X (.Assign [.Name x pos'] (.Dict [] [] dp) pos) (ve i):=⟨(p8 hN hi hx xE hs hf).imp fun E σ H=>by
 rintro⟨G₀,H₀,G,ρ,fl,ρ',A,h,k⟩ p hp;cases h;exact k _ G _ (.refl _) (A.setOdk hp)⟩
noncomputable def fm (i:al) (fk fv:FE):FS:=fun ρ=>(fv ρ).bind fun d=>(fk ρ).bind fun kd=>match ρ[i]? with
 |some (aa (.odt kvs))=>match kd with
  |.tup t=>(gT t).bind fun ks=>if kvs.length<100000 then aa (.nx,ρ.set i (aa (.odt (eU kvs ks d)))) else ab
  |_=>ab
 |some (aa (.odk kvs))=>(gJ kd).bind fun k=>if kvs.length<100000 then aa (.nx,ρ.set i (aa (.odk (eU kvs k d)))) else ab
 |_=>ab
theorem kB (i:al) (hu:X.A.units+66<cy) (hk:DE Γ X ke fk) (hv':DE Γ X value fv) (hN:X.N[i]?=aa x:=by rfl) (hv:Vis X.env.scope x:=by first|exact dc rfl|exact cH (dc rfl)|exact cH (cH rfl)) (hd:.(G)=ao:=by decide)
  (hcd:.(ap)=ao:=by decide) (hs:fG value (aa (.Subscript (.Name x vp) ke pos')) pos.line X.env=bG ao:=by rfl) :
  DS Γ X (.Assign [.Subscript (.Name x vp) ke pos'] value pos) (fm i fk fv):=⟨(Bv .(f) (iq hN hv hd hcd) hk.1 hv'.1 hs).imp fun E σ H=>by
 rintro⟨G₀,H₀,G,ρ,flw,ρ',A,h,k⟩;unfold fm at h;obtain⟨d,hd,ha⟩:=oBd h;clear h;obtain⟨kd,hkd,hq⟩:=oBd ha;clear ha;refine⟨G₀,H₀,G,ρ,d,A,hd,fun v G1 H1 s1 r1=>?_⟩;have A1:=A.step s1;split at hq
 .rename_i kvs hi;split at hq
  .rename_i t;obtain⟨ks,hks,hq⟩:=oBd hq;split at hq
   .rename_i hz;cases hq;obtain⟨w,fp,h1,h2⟩:=A1.get hi;cases h2 with
    |odt q1 q2 q3 q4 q5=>
     rename_i a us;refine⟨_,h1,G₀,H₀,G1,ρ,_,A1,hkd,fun u G2 H2 s2 r2=>?_⟩;have A2:=A1.step s2;obtain⟨bb,vs,rfl,hb,rb⟩:=r2.tup_inv;have ev:=mP rb hks;subst ev;have ha2:H2 a=aa (.dT us):=s2.hh _ _ q3;have hlen:us.length=kvs.length:=by simpa using cJ gm q4
     obtain⟨w1,w2⟩:=tQ (k:=ks) (r1.mono s2.gg) q4 (q5.mono s2.gg);exact⟨a,_,rfl,kH.t ha2 (s2.gh _ _ hb) (by have:=fT;omega),k σ G2 _ (s1.gg.trans s2.gg) (A2.chOdt hi h1 w1 w2)⟩
   .cases hq
  .cases hq
 .rename_i kvs hi;obtain⟨kk,hkk,hq⟩:=oBd hq;split at hq
  .rename_i hz;cases hq;obtain⟨w,fp,h1,h2⟩:=A1.get hi;cases h2 with
   |odk q1 q2 q3 q4 q5=>
    rename_i a us;refine⟨_,h1,G₀,H₀,G1,ρ,_,A1,hkd,fun u G2 H2 s2 r2=>?_⟩;have A2:=A1.step s2;have eu:=lD r2 hkk;subst eu;have ha2:H2 a=aa (.dK us):=s2.hh _ _ q3;have hlen:us.length=kvs.length:=by simpa using cJ gm q4
    obtain⟨w1,w2⟩:=tQ (k:=kk) (r1.mono s2.gg) q4 (q5.mono s2.gg);exact⟨a,_,rfl,kH.k ha2 (by have:=fT;omega),k σ G2 _ (s1.gg.trans s2.gg) (A2.chOdk hi h1 w1 w2)⟩
  .cases hq
 .cases hq⟩
end
section
variable {c:aj}
end
section
open PyProof
noncomputable def iN:ac D->ar (ac ag)
 |[]=>aa []
 |.int x::r=>(iN r).map (x::·)
 |_::_=>ab
theorem tY {K:bu} {G:Hp}:∀{vs:ac V} {ds:ac D} {ys:ac ag},Reps Γ K G vs ds->iN ds=aa ys->vs=ys.map V.int
 |_,[],ys,r,h=>by cases r;cases h;rfl
 |_,d::ds,ys,.cons h1 h2,h=>by
  cases d with
  |int x=>
   obtain⟨zs,hz,rfl⟩:=oMd (show(iN ds).map (x::·)=aa ys from h);rw[h1.int_inv,tY h2 hz];rfl
  |_=>cases h
noncomputable def btI (ns:ac ag) (i j:al):aQ:=decide (ns.getD i 0 > ns.getD j 0)
noncomputable def mxI (ns:ac ag):D:=if ns=[] then .non else .int (ns.getD (fW (btI ns) (ns.length-1)) 0)
noncomputable def S2:D->ar D
 |.lst l=>(iN l).map mxI
 |_=>ab
noncomputable def rK:D->ac D->ar D
 |.lst l,[.str x]=>(jS l).bind fun ys=>if ys.findIdx (·==x)<ys.length then aa (.int (ys.findIdx (·==x):al)) else ab
 |_,_=>ab
theorem D6:∀{ns:ac aj} {us:ac Value},bO (ns.map V.str) us->us.length=ns.length/\∀(i:al) v,us[i]?=aa v->∃y t,ns[i]?=aa y/\v=.str y t
 |[],_,r=>by rw[qN] at r;cases r;exact⟨rfl,fun i v h=>by simp at h⟩
 |n::ns,_,r=>by
  rw[qo] at r;cases r with
  |cons r1 r2=>
   obtain⟨h1,h2⟩:=D6 r2;refine⟨by simp[h1],fun i v h=>?_⟩;cases i with
   |zero=>
    obtain⟨t,rfl⟩:=r1;cases h;exact⟨n,t,rfl,rfl⟩
   |succ i=>exact h2 i v h
theorem Oz:MtD Γ X "list" "list.index" rK:=by
 refine⟨⟨fun v vs H Q=>∃(a:av) (ys:ac aj) (x:aj),v=.ref a/\vs=[.str x]/\H a=aa (.lst (ys.map V.str))/\ys.findIdx (·==x)<ys.length/\Q (.int (ys.findIdx (·==x):al)) H,?_,?_⟩,?_⟩
 .intro pins s σ H x xs v us Q I rx rs h;obtain⟨a,ys,x,rfl,rfl,ha,hj,q⟩:=h;cases rx;obtain⟨u,rfl,ru⟩:=fu rs;obtain⟨tu,rfl⟩:=ru;obtain⟨its,n,rv,eo,hz⟩:=I.lst ha;rw[qg] at hz;obtain⟨vl,vi⟩:=D6 rv;have hsz:its.toArray.size=ys.length:=by simp[vl]
  have hat:∀(m:al) (hm:m<its.toArray.size),∃y t,ys[m]?=aa y/\its.toArray[m]=.str y t:=fun m hm=>vi m _ (by rw[qC (by simpa using hm)];simp)
  let ef:Value->aQ:=fun z=>match z with|.str y _=>y==x|_=>ao
  refine vD R' ⟨_,eo,rfl⟩ F.entry_list_index (F.args_list_index_2 _ _) (SeqAt.list_indexAt a its.toArray n ab #[] (.str x tu) ef (ys.findIdx (·==x)) (by rw[hsz];exact hj) (by unfold aW at hz;omega) ?_ ?_) ⟨eo,fun y hy=>?_,?_⟩
  .obtain⟨y,t,e1,e2⟩:=hat _ (by rw[hsz];exact hj);rw[e2];have:=List.findIdx_getElem (w:=hj);rw[qC hj] at e1;cases e1;exact this
  .intro m hm hlt;obtain⟨y,t,e1,e2⟩:=hat m hm;rw[e2];have hm':m<ys.length:=by rw[←hsz];exact hm
   rw[qC hm'] at e1;cases e1;have:=List.not_of_lt_findIdx hlt;show(ys[m]==x)=ao;simpa using this
  .obtain⟨m,hm,rfl⟩:=Array.mem_iff_getElem.mp hy;obtain⟨z,t,e1,e2⟩:=hat m hm;rw[e2];exact SeqAt.EqAt.str_str z t x tu
  .exact⟨.int _,H,I.tok _,⟨_,rfl⟩,q⟩
 .intro G H v x vs ds z gh r1 r2 h Q k;unfold rK at h;split at h
  .obtain⟨ys,hy,h⟩:=oBd h;split at h
   .rename_i hl;cases h;obtain⟨a,ws,rfl,ha,rw'⟩:=r1.lst_inv;obtain⟨v,rfl,r3⟩:=r2.one;cases r3.str_inv;refine⟨a,ys,_,rfl,rfl,?_,hl,k _ G H (.refl gh) (.int _)⟩;rw[←wO rw' hy];exact gh _ _ ha
   .cases h
  .cases h
 .intro G H v x ds z gh r h;unfold rK at h;split at h
  .obtain⟨a,ws,rfl,ha,rw'⟩:=r.lst_inv;exact .inl ⟨rfl,ws,.inl (.inl (gh _ _ ha))⟩
  .cases h
end
section
variable {a i:Expr}
end
section
variable {a i:Expr}
end
theorem cX.there {P:bV} {h:Heap} {o:HO} (x:cX P w H h a o):∃u,h.get? a=aa u:=by
 cases o with
 |lst xs=>obtain⟨_,_,_,_,e⟩:=x;exact⟨_,e⟩
 |tup xs=>obtain⟨_,_,_,p,e,_⟩:=x;exact⟨_,e⟩
 |dK kvs=>obtain⟨_,_,_,_,o,_,_,e,_⟩:=x;exact⟨_,e⟩
 |dT kvs=>obtain⟨_,_,_,_,o,_,_,e,_⟩:=x;exact⟨_,e⟩
 |set S n=>obtain⟨o,_,_,_,e,_⟩:=x;exact⟨_,e⟩
 |ins C dx fs=>obtain⟨_,_,_,e,_⟩:=x;exact⟨_,e⟩
 |own y=>obtain⟨_,e⟩:=x;exact⟨_,e⟩
 |xd fs=>obtain⟨_,⟨_,_,_,e,_⟩,_⟩:=x;exact⟨_,e⟩
 |rng lo hi=>obtain⟨_,_,_,e⟩:=x;exact⟨_,e⟩
 |frz ob u=>obtain⟨e,_⟩:=x;exact⟨_,e⟩
 |tbl ps=>exact⟨_,(show h.get? a=aa _ from x)⟩
 |met f y=>exact⟨_,(show h.get? a=aa _ from x)⟩
 |ext φ=>obtain⟨_,⟨_,e⟩,_⟩:=x;exact⟨_,e⟩
theorem Inv.none_of (I:Inv X pins σ H s) (h:∀u,s.heap.get? a=aa u->False):H a=ab:=by
 cases e:H a with
 |none=>rfl
 |some o=>
  obtain⟨u,hu⟩:=(I.hok a o e).there;exact(h u hu).elim
theorem Inv.many (I:Inv X pins σ H s) (k:∀b u,s.heap.get? b=aa u->h'.get? b=aa u) (hs:bT H H') (new:∀b o,H b=ab->H' b=aa o->(∀u,s.heap.get? b=aa u->False)/\cX X.prog X.w H' h' b o) :
  Inv X pins σ H' {s with heap:=h',toks:=t'}:=by
 refine I.un ⟨fun b ob q _ _ _=>k b ob q,fun b ob q _ _ _=>⟨ob.slots,k b ob q⟩,fun b ob q n _=>?_,fun b ob q _=>⟨ob,k b ob q⟩,fun b xs q=>hs _ _ q,fun b o u q=>hs _ _ q,fun b ps q=>⟨#[],by rw[hs _ _ q];simp⟩⟩ fun b o q=>?_
 .cases e:H' b with
  |none=>rfl
  |some o=>exact((new b o n e).1 ob q).elim
 .cases e:H b with
  |none=>exact(new b o e q).2
  |some o'=>
   have:=hs _ _ e;rw[q] at this;cases this;exact(I.hok b o e).stay (fun c v _ r=>k c v r) (fun c r=>hs _ _ r) fun c xs r=>hs _ _ r
variable {p3 p4:dD}
section
variable {a i:Expr}
noncomputable def mw (kb:ac (Key×D)):ac (Key×D)->ar aQ
 |[]=>aa ah
 |(k,v)::r=>match cr kb k with
  |none=>aa ao
  |some y=>(eqX v y).bind fun e=>(mw kb r).map (e && ·)
theorem AS {pins:ac (av×bf)} {σ:St} {G H:Hp} {s:aH} {A:dB} (I:Inv X pins σ H s) (gh:bT G H) (hu:A.in1.units+64<cy) {ub:ac (Key×V)} {kb:ac (Key×D)} {vb:ac (Key×Value)} (eb:ub.map (·.1)=kb.map (·.1)) (rb:Reps Γ X.K G (ub.map (·.2)) (kb.map (·.2))) (qb:KV ub vb) :
  ∀{ua:ac (Key×V)} {ka:ac (Key×D)} {va:ac (Key×Value)} {r:aQ},ua.map (·.1)=ka.map (·.1)->Reps Γ X.K G (ua.map (·.2)) (ka.map (·.2))->KV ua va->mw kb ka=aa r->PySem.W.KeqHits A.in1 s vb va r
 |[],[],va,r,_,_,qa,h=>by cases qa;cases h;exact .nil
 |[],_::_,_,_,e,_,_,_=>by cases e
 |_::_,[],_,_,e,_,_,_=>by cases e
 |(k1,v)::ua,(k2,d)::ka,va,r,e,rr,qa,h=>by
  have e1:k1=k2:=(ij e).1;have e2:ua.map (·.1)=ka.map (·.1):=(ij e).2;subst e1;have rr:Reps Γ X.K G (v::ua.map (·.2)) (d::ka.map (·.2)):=rr;cases rr with
  |cons r1 r2=>
   cases qa with
   |cons q1 q2=>
    rename_i w va;obtain⟨kw,vw⟩:=w;obtain⟨z1,z2⟩:=q1
    replace z1:k1=kw:=z1
    subst z1;have rv:=qb.val k1;unfold mw at h;rcases mz (k:=k1) eb rb with⟨n1,n2⟩|⟨y,u,n1,n2,n3⟩
    .rw[n1] at h;cases h;rw[n2] at rv;exact .miss (eC.none_of rv)
    .rw[n1] at h;obtain⟨e,he,h⟩:=oBd h;obtain⟨b,hb,rfl⟩:=oMd h;rw[n2] at rv;obtain⟨u',hu',ru'⟩:=eC.some_of rv;obtain⟨p,q,hp,hq,s1,s2,rfl⟩:=wG he;obtain⟨as,a1⟩:=r1.reads I gh z2 hp;obtain⟨bs,a2⟩:=n3.reads I gh ru' hq;exact .hit hu' (PySem.W.keq_at a1 a2 s1 s2 hu) (AS I gh hu eb rb qb e2 r2 q2 hb)
noncomputable def leS (x y:aj):aQ:=!ltS y x
noncomputable def oC (l:ac aj):ac aj:=l.mergeSort leS
theorem iM {y:aj} :leS x y=ah↔x.cps.toList<=y.cps.toList:=by unfold leS ltS;rw[vR,FO,Sa]
theorem CN (x y z:aj) (h1:leS x y=ah) (h2:leS y z=ah):leS x z=ah:=iM.mpr (List.le_trans (iM.mp h1) (iM.mp h2))
theorem Jz (x y:aj):(leS x y || leS y x)=ah:=by rw[pj];exact(List.le_total x.cps.toList y.cps.toList).imp iM.mpr iM.mpr
theorem Iq {y:aj} (h1:leS x y=ah) (h2:leS y x=ah):x=y:=by have e:=List.le_antisymm (iM.mp h1) (iM.mp h2);cases x;cases y;simp only at e;rw[Array.toList_inj.mp e]
end
section
variable {a i:Expr}
theorem Hu {P:bV} {k:Key} (h:(cP P w).is k u=ah):bI (kV k) u:=by
 rcases i0 (k:=k) (v:=u) h with⟨i,t,rfl,rfl⟩|⟨x,t,rfl,rfl⟩
 .exact⟨t,rfl⟩
 .exact⟨t,rfl⟩
theorem HP (k:Key):Rep Γ K G (kV k) (yq k):=by
 cases k with
 |inl i=>exact .int i
 |inr x=>exact .str x
noncomputable def uj:D->ar D
 |.int i=>aa (.int (-i))
 |_=>ab
end
noncomputable def oa (i:al):FS:=fun ρ=>match ρ[i]? with
 |some (aa (.odk kvs))=>aa (.od kvs,ρ)
 |_=>ab
theorem yw (i:al) (hN:X.N[i]?=aa x:=by rfl) (hv:Vis X.env.scope x:=by first|exact dc rfl|exact cH (dc rfl)|exact cH (cH rfl)) (hd:.(G)=ao:=by decide)
  (hcd:.(ap)=ao:=by decide):DS Γ X (.Return (aa (.Name x vp)) pos) (oa i):=⟨(Ah (iq hN hv hd hcd)).imp fun E σ H=>by
 rintro⟨G₀,H₀,G,ρ,fl,ρ',A,h,k⟩;unfold oa at h;split at h
 .rename_i kvs hi;cases h;obtain⟨v,fp,h1,h2⟩:=A.get hi;cases h2 with
  |odk q1 q2 q3 q4 q5=>exact⟨_,h1,k σ G H (.refl _) A _ _ q1 q2 q3 q4 q5⟩
 .cases h⟩
inductive spOD (Γ:Cn) (K:bu) (n:al) (F:ac D->ar (ac (Key×D))) (vs:ac V) (H:Hp) (Q:VK) (_e3:XK):Prop where
 |mk:∀G ds rs,bT G H->Reps Γ K G vs ds->ds.length=n->F ds=aa rs->(∀p us G' H',Step G H G' H'->H' p=ab->us.map (·.1)=rs.map (·.1)->Reps Γ K G' (us.map (·.2)) (rs.map (·.2))->Q (.ref p) (upd H' p (.dK us)))->spOD Γ K n F vs H Q _e3
noncomputable def nS (n:al) (g:FS):ac D->ar (ac (Key×D)):=fun ds=>(g (ds.map (fun d=>aa (Slot.sh d))++cq n ab)).bind fun r=>match r.1 with
 |.od kvs=>aa kvs
 |_=>ab
theorem Fun.okOD {P:bV} {f:av} {k:al} (F:Fun K x qual st f fd) (S:FnScope N ps (aS st))
  (hbody:∀(cdv:Value) (A:dB) (outer:ac c8) (s:aH) (H:Hp) (E:XK),Room k .(ax)->
   DSs Γ .(ak).nox (dS st) g):FnOk P w K mg base CX0 (k+1) f fd ps (spOD Γ K ps.length (nS (N.length-ps.length) g)):=by
 refine F.ok S (fun vs H Q E h=>?_) (fun cdv A outer s H vs Q E hr h=>?_)
 .obtain⟨G,ds,d,_,r,hl,_⟩:=h;rw[r.length,hl]
 .obtain⟨G,ds,rs,gh,r,hl,hd,k⟩:=h;refine⟨_,(hbody cdv A outer s H E hr).1,?_⟩;unfold nS at hd;obtain⟨⟨fl,ρ'⟩,hg,hd⟩:=oBd hd;refine⟨G,H,G,_,fl,ρ',C9 gh r (by rw[r.length,hl]),hg,fun σ' G' H' sm A'=>?_⟩;cases fl with
  |rt d'=>cases hd
  |nx=>cases hd
  |bk=>cases hd
  |ct=>cases hd
  |nw d'=>cases hd
  |ow d'=>cases hd
  |od d'=>
   cases hd;intro p us hp0 hg hp ek rr;have st:Step G H G' (fun b=>if b=p then ab else H' b):=by
    refine⟨fun b o e=>?_,A'.st.gg,fun b o e=>?_,A'.st.out⟩
    .show(if b=p then ab else H' b)=aa o;rw[qZ (ck e hp0)];exact A'.st.hh b o e
    .show(if b=p then ab else H' b)=aa o;rw[qZ (ck e hg)];exact A'.st.gh b o e
   have:=k p us G' _ st (qY rfl) ek rr;have hf:upd (fun b=>if b=p then ab else H' b) p (.dK us)=H':=by
    funext b
    by_cases hb:b=p
    .subst hb;rw[ca,hp]
    .rw[a7 hb];exact qZ hb
   rwa [hf] at this
structure CalD (Γ:Cn) (P:bV) (w:cR) (K:bu) (mg:aj->ar Value) (base:Heap) (x:aj) (n k:al) (F:ac D->ar (ac (Key×D))):Prop where
 ex:∃f fd ps,FnOk P w K mg base CX0 k f fd ps (spOD Γ K n F)/\mg x=aa (.ref f)/\iI K (.ref f)=ah/\gG K fd ps []
theorem Dfn.calOD {P:bV} {k:al} (F:Dfn K mg x st) (S:FnScope N ps (aS st))
  (hb:∀(kV doc pm:Value) (an:ar av) (cdv ct:Value) (us:ac Value),us.length=ps.length->kP (gW x x (hZ st) (dS st) (aS st) .none kV doc pm an cdv ct) ⟨us,[]⟩=bG (ps.zip us))
  (hbody:∀(f:av) (cdv:Value) (A:dB) (outer:ac c8) (s:aH) (H:Hp) (E:XK),Room k (A.deeper (eX x (aS st) s.heap.objs.size f cdv))->
   DSs Γ (gH CX0 P w K mg base N x (aS st) f cdv A outer s H E).nox (dS st) g):CalD Γ P w K mg base x ps.length (k+1) (nS (N.length-ps.length) g):=by
 obtain⟨f,fd,h1,h2⟩:=F.ex;exact⟨f,fd,ps,h1.okOD S (hbody f),h2,h1.kp,h1.binds hb⟩
noncomputable def lw (i:al) (F:ac D->ar (ac (Key×D))) (fr:FA):FS:=fun ρ=>((fr ρ).bind F).map fun kvs=>(.nx,ρ.set i (aa (.odk kvs)))
theorem At.setOdkV (A:At Γ K G₀ H₀ G H ρ σ) {us:ac (Key×V)} {kvs:ac (Key×D)} (ha:H a=ab) (ek:us.map (·.1)=kvs.map (·.1)) (rr:Reps Γ K G (us.map (·.2)) (kvs.map (·.2))):At Γ K G₀ H₀ G (upd H a (.dK us)) (ρ.set i (aa (.odk kvs))) (σ.set i (aa (.ref a))):=by have h0:H₀ a=ab:=A.st.hh.free ha;have hg:G a=ab:=A.gh.free ha;refine A.put (fp:=[]) (fp':=[a]) (.inl rfl) (fun b o e _=>by rw[a7 (ck e ha)];exact e) (.odk h0 hg ca ek rr) (fun b hb=>.inr (by rw[ce.mp hb];exact ha)) (.refl _) (fun b o e=>?_) (fun _ _ _ _=>rfl) (fun b hb=>by cases hb);rw[a7 (ck e hg)];exact A.gh b o e
theorem xj (i:al) {y:aj} {k:al} {F:ac D->ar (ac (Key×D))} (hN:X.N.Nodup) (C:CalD Γ X.prog X.w X.K X.mg X.base y n k F) (hr:Room j X.A) (hk:k<=j) (hg:Gl X y) (ha:DA Γ X (e::es) fr) (hn:∀ρ ds,fr ρ=aa ds->ds.length=n)
  (hi:X.N[i]?=aa x:=by rfl) (hx:Loc X.env.scope x:=by first|exact dc rfl|exact cH rfl) (hs:fG (.Call (.Name y p) (e::es) [] p2) (aa (.Name x pos')) pos.line X.env=bG ao:=by rfl) (hf:X.fn x=ah\/X.env.scope.names.lookup x=aa .local:=by first|exact .inl rfl|exact .inr rfl|assumption)
  (hdb:(y==("__debug__":aj))=ao:=by decide) (he:a8 (e::es) X.env=(ao,eval e X.env)::a8 es X.env:=by rfl) (hpl:(cN p2 (a8 es X.env)).any (·.1)=ao:=by rfl) :
  DS Γ X (.Assign [.Name x pos'] (.Call (.Name y p) (e::es) [] p2) pos) (lw i F fr):=⟨by
 obtain⟨f,fd,ps,h1,h2,h3,h4⟩:=C.ex;refine(p8 hN hi hx (D1 h1 (hr.mono hk) hg h2 h3 h4 .nil rC ha.1 hdb he hpl) hs hf).imp fun E σ H=>?_;rintro⟨G₀,H₀,G,ρ,fl,ρ',A,h,k⟩;unfold lw at h;obtain⟨kvs,hd,h⟩:=oMd h;obtain⟨ds,hds,hF⟩:=oBd hd;cases h;refine⟨G₀,H₀,G,ρ,ds,A,hds,fun vs G1 H1 s1 r1=>?_⟩;show spOD Γ X.K n F (vs++[]) H1 _ E0;rw[lT];exact⟨G1,ds,kvs,s1.gh,r1,hn ρ ds hds,hF,fun p us G' H' s hp ek rr=>k _ G' _ (s1.gg.trans s.gg) (((A.step s1).step s).setOdkV hp ek rr)⟩⟩
theorem Inv.frz {a:av} {us:ac (Key×V)} {o:bf} (I:Inv X pins σ H s) (e:H a=aa (.dK us)) (ho:s.heap.get? a=aa o):Inv X pins σ (upd H a (.frz o (.dK us))) s:=by
 have ne:∀b u,H b=aa u->u≠.dK us->b≠a:=fun b u q n z=>by rw[z,e] at q;cases q;exact n rfl
 have st:∀{b:av} {u:HO},cX X.prog X.w H s.heap b u->cX X.prog X.w (upd H a (.frz o (.dK us))) s.heap b u:=fun x=>
  x.stay (fun c v _ r=>r) (fun c r=>by rw[a7 (ne c _ r (by intro z;cases z))];exact r) fun c xs r=>by rw[a7 (ne c _ r (by intro z;cases z))];exact r
 refine I.un (t':=s.toks) (h':=s.heap) ⟨fun b ob q _ _ _=>q,fun b ob q _ _ _=>⟨ob.slots,q⟩,fun b ob q n _=>?_,fun b ob q _=>⟨ob,q⟩,fun b xs q=>?_,fun b o u q=>?_,fun b ps q=>⟨#[],?_⟩⟩ fun b u q=>?_
 .rw[a7 (fun z=>by rw[z,e] at n;cases n)];exact n
 .rw[a7 (ne b _ q (by intro z;cases z))];exact q
 .rw[a7 (ne b _ q (by intro z;cases z))];exact q
 .rw[a7 (ne b _ q (by intro z;cases z)),q];simp
 .by_cases hb:b=a
  .subst hb;rw[ca] at q;cases q;exact⟨ho,st (I.hok b _ e)⟩
  .rw[a7 hb] at q;exact st (I.hok b u q)
theorem Inv.unfrz {us:ac (Key×V)} {o:bf} (I:Inv X pins σ H s) (e:H a=aa (.frz o (.dK us))) (hnf:∀o u,X.H₀ a≠aa (.frz o u)):Inv X pins σ (upd H a (.dK us)) s:=by
 have ne:∀b u,H b=aa u->u≠.frz o (.dK us)->b≠a:=fun b u q n z=>by rw[z,e] at q;cases q;exact n rfl
 have nn:∀b,H b=ab->upd H a (.dK us) b=ab:=fun b n=>by rw[a7 (fun z=>by rw[z,e] at n;cases n)];exact n
 have st:∀{b:av} {u:HO},cX X.prog X.w H s.heap b u->cX X.prog X.w (upd H a (.dK us)) s.heap b u:=fun x=>
  x.stay (fun c v _ r=>r) (fun c r=>by rw[a7 (ne c _ r (by intro z;cases z))];exact r) fun c xs r=>by rw[a7 (ne c _ r (by intro z;cases z))];exact r
 refine⟨I.ok,I.os,I.bare,⟨I.base.keep,I.base.slot,fun b ob q n hx=>nn b (I.base.free b ob q n hx),I.base.there,fun b xs q=>?_,fun b ob u q=>?_,fun b ps q=>?_⟩,I.loc,I.cell,nn _ I.free,fun x c q=>nn _ (I.freeC x c q),fun p hp=>?_,fun b u q=>?_,I.len⟩
 .have:=I.base.tups b xs q;rw[a7 (ne b _ this (by intro z;cases z))];exact this
 .have:=I.base.frzs b ob u q;rw[a7 (fun z=>hnf ob u (by rw[←z];exact q))];exact this
 .obtain⟨more,hm⟩:=I.base.tbls b ps q;exact⟨more,by rw[a7 (ne b _ hm (by intro z;cases z))];exact hm⟩
 .obtain⟨p1,p2,p3⟩:=I.pin p hp;exact⟨p1,nn _ p2,p3⟩
 .by_cases hb:b=a
  .subst hb;rw[ca] at q;cases q;exact st (I.hok b _ e).2
  .rw[a7 hb] at q;exact st (I.hok b u q)
theorem Inv.nofrz {us:ac (Key×V)} (I:Inv X pins σ H s) (e:H a=aa (.dK us)):∀o u,X.H₀ a≠aa (.frz o u):=fun o u q=>by have:=I.base.frzs a o u q;rw[e] at this;cases this
theorem Km:∀{us:ac (Key×V)} {va:ac (Key×Value)} {i:al} {k:Key} {v:Value},KV us va->va[i]?=aa (k,v)->∃kv,us[i]?=aa kv/\bI kv.2 v:=by
 intro us va i k v r
 induction r generalizing i with
 |nil=>intro e;simp at e
 |cons h t ih=>
  intro e;cases i with
  |zero=>simp at e;subst e;exact⟨_,rfl,h.2⟩
  |succ j=>
   obtain⟨p,z1,z2⟩:=ih (i:=j) (by simpa using e);exact⟨p,by simpa using z1,z2⟩
namespace Law
noncomputable abbrev oS (d:D):ar Slot:=aa (.sh d)
end Law
noncomputable abbrev FQ:=ac D->ar D
namespace Law
theorem dC {k:al} {F:FQ} (C:Cal Γ X.prog X.w X.K X.mg X.base x n k F) (hr:Room j X.A) (ha:DA Γ X (e::es) fr) (hn:∀ρ ds,fr ρ=aa ds->ds.length=n) (hk:k<=j:=by decide) (hg:Gl X x:=by exact rfl) (hdb:.(G)=ao:=by decide) (he:a8 (e::es) X.env=(ao,eval e X.env)::a8 es X.env:=by rfl) (hpl:(cN pos (a8 es X.env)).any (·.1)=ao:=by rfl):DE Γ X .(as) (cF F fr):=jC C hr hk hg ha hn hdb he hpl
theorem bx {P:ac aj} (a:sc.kind=.function:=by rfl) (b:sc.isCoroutine=ao:=by rfl) (c:sc.isGenerator=ao:=by rfl) (d:N.Nodup:=by decide +kernel) (e:N.take P.length=P:=by rfl) (f:∀x∈P,sc.names.lookup x=aa .local∨sc.names.lookup x=aa .cell:=by decide +kernel) (g:∀y∈sc.names,y.2≠.free:=by decide +kernel):FnScope N P sc:=⟨a,b,c,d,e,f,g⟩
end Law
variable {s₀:aH}
section
variable {P:bV} {f:av} {E:XK}
 {pins:ac (av×bf)} {σ:St} {H:Hp} {s:aH} {h1:Heap} {e:av} {cls:Value} {vs:ac Value}
end
section
variable {P:bV} {f:av} {E:XK}
 {R:Hp->Prop} {n:dq} {x:aj} {np cpos pos:dD} {e₀:Expr} {cc:ac Expr} {fr:FA} {Bn newId initId:dq} {bmB:ac Value}
end
section
open PySem.W Builtin Builtin.ObjectAttr Builtin.Getset_descriptor
end
section
variable {a i:Expr}
end
section
variable {a:Expr}
theorem LO (h:DE Γ X a fa):DE Γ X (.UnaryOp .USub a pos) (b1 uj fa):=⟨fun pins s σ H Q I=>by
 rintro⟨G₀,H₀,G,ρ,d,A,hq,k⟩;unfold b1 at hq;obtain⟨x,hx,hq⟩:=oBd hq;refine UnaryOp_ (thn (h.1 pins s σ H (fun v H'=>∃G',Step G H G' H'/\Rep Γ X.K G' v x) I ⟨G₀,H₀,G,ρ,x,A,hx,fun v G' H' st r=>⟨G',st,r⟩⟩) fun v s1 ⟨v',H1,I1,r1,G1,st,rp⟩=>?_);unfold uj at hq;split at hq
 .cases hq;cases rp.int_inv;obtain⟨t,rfl⟩:=r1;exact TV ⟨.int _,H1,I1.tok _,⟨_,rfl⟩,k _ G1 H1 st (.int _)⟩
 .cases hq⟩
end
noncomputable def del (G:Hp) (a:av):Hp:=fun b=>if b=a then ab else G b
section
variable {P:bV} {f:av} {E:XK}
 {pins:ac (av×bf)} {σ:St} {H:Hp} {s:aH} {e C t dx:av}
end
section
variable {P:bV} {f CS fI:av} {E:XK}
 {R:aj->Hp->Prop} {x fl:aj} {np cpos pos:dD} {e₀:Expr} {fr:FA} {k j:al}
end
section
open PyProof
end
section
open PyProof
end
section
variable {a:Expr}
end
section
open PyProof
noncomputable def btG (ns:ac ag) (i j:al):aQ:=decide (ns.getD j 0<ns.getD i 0)
noncomputable def jQ (ns:ac ag):ag:=ns.getD (fW (btG ns) (ns.length-1)) 0
end
section
open PyProof
end
section
open PyProof
end
section
open PyProof
noncomputable def Itk (a:av) (o:bf) (us:ac (Key×V)):It:=
 ⟨fun i H=>H a=aa (.frz o (.dK us))/\i<us.length,fun i H v H'=>H'=H/\∃kv,us[i]?=aa kv/\v=kV kv.1,fun i H=>H a=aa (.frz o (.dK us))/\i=us.length⟩
theorem Ja {P:bV} (a it:av) (o:bf) (us:ac (Key×V)) (va:ac (Key×Value)) (ep:al) (hne:a≠it) (hd:∀h:Heap,h.get? a=aa o->h.DictAt (cP P w) a va ep) (kv:KV us va) :
  Turn P w K tg (Itk a o us) [it] it (fun i h=>h.IsKeyIter it a i va.length ep) where
 mem:=by simp
 obj:=fun i h st b hb=>by
  have e:b=it:=by simpa using hb
  subst e;obtain⟨o,e,c,d⟩:=st;exact⟨o,e,fun v z=>by rw[d] at z;cases z⟩
 keep:=fun i h h' st k=>by obtain⟨o,e,r⟩:=st;exact⟨o,k it (by simp) o e,r⟩
 item:=by
  intro X hP hw hK hc i pins s σ H E I hf st hg;subst hP hw hK;obtain⟨hfr,hi⟩:=hg;obtain⟨f0,f1,f2,f3,f4,f5⟩:=hf it (by simp);have ho:s.heap.get? a=aa o:=(I.hok a _ hfr).1;refine(Sb (knd:=cP X.prog X.w) (I.ok.hd hc) it a hne va ep).item i s _ _ (by rw[←kv.length];exact hi) ⟨st,hd _ ho⟩ fun v h' tk hv st' kk=>?_;obtain⟨k,x,hk,hr⟩:=hv;have hp:(us.map (·.1))[i]?=(va.map (·.1))[i]?:=by rw[kv.keys]
  rw[ql,ql,hk] at hp;obtain⟨p,hp1,hp2⟩:=oMd hp;have hp3:p.1=k:=hp2;have I1:Inv X pins σ H {s with heap:=h',toks:=tk}:=I.turned (fun b o hb e=>kk b o (by simpa using hb) e) f0 f1 f3 f4 f5;obtain⟨oi,e,c,d⟩:=id st'.1;exact⟨v,rfl,uc (s:={s with heap:=h',toks:=tk}) e c d .(h) ⟨kV p.1,H,I1,by rw[hp3];exact Hu hr,⟨rfl,p,hp1,rfl⟩,st'.1,fun b hb=>(hf b hb).1⟩⟩
 done:=by
  intro X hP hw hK hc i pins s σ H E I hf st hg;subst hP hw hK;obtain⟨hfr,hi⟩:=hg;obtain⟨f0,f1,f2,f3,f4,f5⟩:=hf it (by simp);have ho:s.heap.get? a=aa o:=(I.hok a _ hfr).1;have hi':i=va.length:=by rw[←kv.length];exact hi
  subst hi';exact(Sb (knd:=cP X.prog X.w) (I.ok.hd hc) it a hne va ep).done s _ _ ⟨st,hd _ ho⟩ fun h' tk kk=>⟨rfl,I.turned (fun b o hb e=>kk b o (by simpa using hb) e) f0 f1 f3 f4 f5⟩
 self:=fun _ _ _ _ _ st h=>wpAny_pyIter_keyiter st h
noncomputable def wm:D->ar (ac D)
 |.fdk kvs=>aa (kvs.map fun kv=>yq kv.1)
 |_=>ab
noncomputable def itK (f:FE):FA:=fun ρ=>(f ρ).bind wm
theorem Nv (he:PE X iter te):PI X tg iter (fun σ H R=>te σ H fun x H1=>∃(a:av) (o:bf) (us:ac (Key×V)),x=.ref a/\H1 a=aa (.frz o (.dK us))/\R (Itk a o us) H1):=by
 intro pins s σ H R I h;refine thn (he pins s σ H _ I h) fun v s1 ⟨x,H1,I1,r1,a,o,us,e,ha,q⟩=>?_;subst e;cases r1;obtain⟨z,md,va,qa,da⟩:=gO I1.hok (.inr ⟨o,ha⟩);obtain⟨ep,hat⟩:=da.dictAt;have ho:s1.heap.get? a=aa o:=(I1.hok a _ ha).1;refine wpAny_pyIter_dict md hat ?_;refine⟨s1.heap.objs.size,[s1.heap.objs.size],_,_,H1,rfl,I1.kept (t':=s1.toks) fun b u e=>qu _ e,Ja a s1.heap.objs.size o us va ep (qB (qv ho)) (fun h' e=>hat.at' fun o' e'=>by rw[ho] at e';cases e';exact e) qa,⟨_,qF _ rfl,rfl,rfl⟩,fun b hb=>?_,q⟩;have e:b=s1.heap.objs.size:=by simpa using hb
 subst e;exact I1.fpOk (qw _) (I1.hok.fresh (qw _))
theorem pK (h:DE Γ X iter f):DI Γ X tg iter (itK f):=⟨(Nv h.1).imp fun σ H R=>by
 rintro⟨G₀,H₀,G,ρ,ds,A,h,k⟩;unfold itK at h;obtain⟨d,hd,h⟩:=oBd h;refine⟨G₀,H₀,G,ρ,d,A,hd,fun v G' H' s r=>?_⟩;unfold wm at h;split at h
 .cases h;cases r with
  |fdk h1 h2 h3=>
   rename_i kvs a o us;have hln:us.length=kvs.length:=by simpa using cJ gm h2
   refine⟨_,_,_,rfl,s.gh _ _ h1,k _ G' H' s ⟨fun i d G2 H2 hd g1 g2=>?_,fun G2 H2 g1 g2=>⟨g2 _ _ (g1 _ _ h1),by rw[qg,hln]⟩⟩⟩;rw[ql] at hd;obtain⟨kd,hkd,rfl⟩:=oMd hd;have hi:i<us.length:=by rw[hln];exact(di.mp hkd).1
   refine⟨⟨g2 _ _ (g1 _ _ h1),hi⟩,fun x H3 ⟨e1,kv,hkv,ev⟩=>?_⟩;subst e1 ev;have ek:kv.1=kd.1:=by have:=cJ (fun l=>l[i]?) h2;simp only[ql,hkv,hkd,qf,Sc] at this;exact this
   exact⟨G2,.refl g2,by rw[ek];exact HP _⟩
 .cases h⟩
noncomputable def yB (i:al) (ft:FT):FT:=fun ρ=>match ρ[i]? with
 |some (aa (.odk kvs))=>ft (ρ.set i (aa (.sh (.fdk kvs))))
 |_=>ab
theorem Og (i:al) (h:DT Γ X c ft):DT Γ X c (yB i ft):=⟨fun pins s σ H Q I q=>by
 obtain⟨G₀,H₀,G,ρ,b,A,hq,k⟩:=q;unfold yB at hq;split at hq
 .rename_i kvs hi;obtain⟨v,fp,h1,h2⟩:=A.get hi;cases h2 with
  |odk q1 q2 q3 q4 q5=>
   rename_i a us;have hnf:=I.nofrz q3;obtain⟨ob,hob⟩:=(I.hok a _ q3).there;have I1:=I.frz q3 hob;have sm1:bT G (upd G a (.frz ob (.dK us))):=fun b u e=>by rw[a7 (ck e q2)];exact e
   have hH1:∀b u,b≠a->H b=aa u->upd H a (.frz ob (.dK us)) b=aa u:=fun b u hb e=>by rw[a7 hb];exact e
   have A1:At Γ X.K G₀ H₀ (upd G a (.frz ob (.dK us))) (upd H a (.frz ob (.dK us))) (ρ.set i (aa (.sh (.fdk kvs)))) σ:=by
    refine A.ch hi h1 (.odk q1 q2 q3 q4 q5) (fun b u e hb=>hH1 b u (fun z=>hb (ce.mpr z)) e) (.sh (.fdk ca q4 (q5.mono sm1))) (fun b hb=>by cases hb) sm1 (fun b u e=>?_) (fun b u e hb=>?_)
    .by_cases hba:b=a
     .subst hba;rw[ca] at e ⊢;exact e
     .rw[a7 hba] at e;exact hH1 b u hba (A.gh b u e)
    .rw[a7 (fun z=>hb (ce.mpr z))]
   refine thn (h.1 pins s σ _ (fun b' H'=>H' a=aa (.frz ob (.dK us))/\Q b' (upd H' a (.dK us))) I1 ⟨G₀,H₀,_,_,b,A1,hq,fun G' H' s'=>⟨s'.hh _ _ ca,k G _ ⟨fun x u e=>?_,.refl _,fun x u e=>?_,fun _ _ _=>rfl⟩⟩⟩) fun r s1 q=>?_
   .by_cases hx:x=a
    .subst hx;rw[ca,←e,q3]
    .rw[a7 hx];exact s'.hh x u (by rw[a7 hx];exact e)
   .have hx:x≠a:=ck e q2;rw[a7 hx];exact s'.hh x u (by rw[a7 hx];exact A.gh x u e)
   .obtain⟨H',I',hx,q⟩:=q;exact⟨_,I'.unfrz hx hnf,q⟩
 .cases hq⟩
end
section
open PyProof
theorem BV (hc:X.calm=ah):eE X (.type "dict") (fun xs H Q=>∃(a:av) (us:ac (Key×V)),xs=[.ref a]/\Rd H a (.dK us)/\∀p,H p=ab->Q (.ref p) (upd H p (.dK us))):=by
 intro pins s σ H xs vs Q I r h;obtain⟨a,us,rfl,ha,q⟩:=h;obtain⟨u,rfl,ru⟩:=fu r;cases ru;obtain⟨z,md,va,qa,da⟩:=gO I.hok ha;have hlen:us.length=va.length:=qa.length;refine kt_call_dict (knd:=cP X.prog X.w) (more:=va) md da .(f) fun h' hd hs=>?_;refine⟨.ref s.heap.objs.size,_,I.laid (a:=s.heap.objs.size) (o:=.dK us) (fun b u e=>?_) (qw _) ⟨z,?_,va,qa,hd⟩,rfl,q _ I.fresh⟩
 .exact(hs.2 b (qB (qv e))).trans (qu _ e)
 .exact ng.mpr (dI (qB I.big))
noncomputable def tI:FQ
 |[.dk l]=>aa (.fdk l)
 |[.fdk l]=>aa (.fdk l)
 |_=>ab
theorem JY (hc:X.calm=ah):eE X (.type "dict") (fun xs H Q=>∃(a:av) (us:ac (Key×V)),xs=[.ref a]/\Rd H a (.dK us)/\∀p o,H p=ab->Q (.ref p) (upd H p (.frz o (.dK us)))):=by intro pins s σ H xs us Q I r h;obtain⟨a,ks,e,ha,q⟩:=h;refine thn (BV hc pins s σ H xs us (fun v H'=>∃p,v=.ref p/\H p=ab/\H'=upd H p (.dK ks)) I r ⟨a,ks,e,ha,fun p hp=>⟨p,rfl,hp,rfl⟩⟩) fun v s1 ⟨x,H1,I1,r1,p,e1,hp,e2⟩=>?_;subst e1 e2;obtain⟨o,ho⟩:=(I1.hok p _ ca).there;have I2:=I1.frz ca ho;rw[CI] at I2;exact⟨.ref p,_,I2,r1,q p o hp⟩
theorem C7 (hc:X.calm=ah):TyD Γ X "dict" tI:=⟨_,JY hc,fun {G H vs ds z} gh r h Q k=>by
 have fin:∀{a:av} {us:ac (Key×V)} {l:ac (Key×D)},Rd H a (.dK us)->us.map (·.1)=l.map (·.1)->Reps Γ X.K G (us.map (·.2)) (l.map (·.2))->z=.fdk l->vs=[.ref a]->∃(a:av) (us:ac (Key×V)),vs=[.ref a]/\Rd H a (.dK us)/\∀p o,H p=ab->Q (.ref p) (upd H p (.frz o (.dK us))):=fun {a us l} ha e1 e2 e3 e4=>by subst e3;refine⟨a,us,e4,ha,fun p o hp=>?_⟩;have s:=Step.new (o:=.frz o (.dK us)) gh hp;exact k _ _ _ s (.fdk ca e1 (e2.mono s.gg))
 unfold tI at h;split at h
 .cases h;obtain⟨v,rfl,r1⟩:=r.one;cases r1 with
  |dk h1 h2 h3=>exact fin (.inl (gh _ _ h1)) h2 h3 rfl rfl
 .cases h;obtain⟨v,rfl,r1⟩:=r.one;cases r1 with
  |fdk h1 h2 h3=>exact fin (.inr ⟨_,gh _ _ h1⟩) h2 h3 rfl rfl
 .cases h⟩
noncomputable def oA (i:al) (f:FE):FS:=fun ρ=>(f ρ).bind fun d=>match d with
 |.dk l=>aa (.nx,ρ.set i (aa (.odk l)))
 |.fdk l=>aa (.nx,ρ.set i (aa (.odk l)))
 |_=>ab
theorem xW (i:al) (hN:X.N.Nodup) (hc:X.calm=ah) (hg:Gl X "dict") (hm:X.mg "dict"=ab) (h:DE Γ X e f) (he:a8 [e] X.env=(ao,eval e X.env)::a8 [] X.env:=by rfl) (hpl:(cN p2 (a8 [] X.env)).any (·.1)=ao:=by rfl)
  (hi:X.N[i]?=aa x:=by rfl) (hx:Loc X.env.scope x:=by first|exact dc rfl|exact cH rfl) (hs:fG (.Call (.Name "dict" p) [e] [] p2) (aa (.Name x pos')) pos.line X.env=bG ao:=by rfl) (hf:X.fn x=ah\/X.env.scope.names.lookup x=aa .local:=by first|exact .inl rfl|exact .inr rfl|assumption) :
  DS Γ X (.Assign [.Name x pos'] (.Call (.Name "dict" p) [e] [] p2) pos) (oA i f):=⟨(p8 hN hi hx (sV (BV hc) hg hm (by rfl) (jx h.1 jw he) .(h) .(h) he hpl) hs hf).imp fun E σ H=>by
 rintro⟨G₀,H₀,G,ρ,fl,ρ',A,h,k⟩;unfold oA at h;obtain⟨d,hd,h⟩:=oBd h;refine⟨G₀,H₀,G,ρ,d,A,hd,fun v G1 H1 s1 r1=>?_⟩;have A2:=A.step s1;split at h
 .cases h;cases r1 with
  |dk h1 h2 h3=>exact⟨_,_,rfl,.inl (A2.gh _ _ h1),fun p hp=>k _ G1 _ s1.gg (A2.setOdkV hp h2 h3)⟩
 .cases h;cases r1 with
  |fdk h1 h2 h3=>exact⟨_,_,rfl,.inr ⟨_,A2.gh _ _ h1⟩,fun p hp=>k _ G1 _ s1.gg (A2.setOdkV hp h2 h3)⟩
 .cases h⟩
noncomputable def jc (i:al) (g:FS):FS:=fun ρ=>match ρ[i]? with
 |some (aa (.odk kvs))=>g (ρ.set i (aa (.sh (.fdk kvs))))
 |_=>ab
theorem nW (i:al) (h:DSs Γ X sts g):DSs Γ X sts (jc i g):=⟨fun pins s σ H E I q=>by
 obtain⟨G₀,H₀,G,ρ,fl,ρ',A,hq,k⟩:=q;unfold jc at hq;split at hq
 .rename_i kvs hi;obtain⟨v,fp,h1,h2⟩:=A.get hi;cases h2 with
  |odk q1 q2 q3 q4 q5=>
   rename_i a us;obtain⟨ob,hob⟩:=(I.hok a _ q3).there;have I1:=I.frz q3 hob;have sm1:bT G (upd G a (.frz ob (.dK us))):=fun b u e=>by rw[a7 (ck e q2)];exact e
   have hH1:∀b u,b≠a->H b=aa u->upd H a (.frz ob (.dK us)) b=aa u:=fun b u hb e=>by rw[a7 hb];exact e
   have A1:At Γ X.K G₀ H₀ (upd G a (.frz ob (.dK us))) (upd H a (.frz ob (.dK us))) (ρ.set i (aa (.sh (.fdk kvs)))) σ:=by
    refine A.ch hi h1 (.odk q1 q2 q3 q4 q5) (fun b u e hb=>hH1 b u (fun z=>hb (ce.mpr z)) e) (.sh (.fdk ca q4 (q5.mono sm1))) (fun b hb=>by cases hb) sm1 (fun b u e=>?_) (fun b u e hb=>?_)
    .by_cases hba:b=a
     .subst hba;rw[ca] at e ⊢;exact e
     .rw[a7 hba] at e;exact hH1 b u hba (A.gh b u e)
    .rw[a7 (fun z=>hb (ce.mpr z))]
   exact h.1 pins s σ _ E I1 ⟨G₀,H₀,_,_,fl,ρ',A1,hq,fun σ1 G1 H1 sm2 A2=>k σ1 G1 H1 (sm1.trans sm2) A2⟩
 .cases hq⟩
end
section
open PyProof
section
variable {id:dq} {r:V->ac V->Hp->VK->Prop}
theorem JP (slot:vG "dict" name id) (hty:typeOf (.builtin id)=bG (.type "method_descriptor")) (hm:MtR X id r) (ho:PE X o to)
  (hbase:ig o name X.env (eval o X.env)=eval o X.env:=by rfl) (hline:(apos.endLine==cpos.line)=ah:=by rfl):PE X (.Call (.Attribute o name apos) [] [] cpos) (fun σ H Q=>to σ H fun x H1=>∃a,x=.ref a/\IsD H1 a/\r x [] H1 Q):=by
 intro pins s σ H Q I h;refine wpAny_Call_method0_late hbase hline (thn (ho pins s σ H _ I h) fun v s1 ⟨x,H1,I1,r1,a,ex,d,q1⟩=>?_);subst ex;obtain rfl:v=cm a:=r1;obtain⟨t1,t2,_⟩:=uY I1 d;exact⟨"dict",id,zt,slot,hty,t1,t2,vB rfl (PySem.evalArgs_none (hm pins s1 σ H1 (.ref a) [] (.ref a) [] Q I1 rfl .nil q1))⟩
noncomputable def C1:V->ac V->Hp->VK->Prop:=fun v vs H Q=>∃(d:av) (us:ac (Key×V)),v=.ref d/\vs=[]/\Rd H d (.dK us)/\∀q,H q=ab->Q (.ref q) (upd H q (.ext fun h=>h.IsValuesView q d))
theorem Jk:MtR X "dict.values" C1:=by intro pins s σ H x xs v us Q I rx rs h;obtain⟨d,us,rfl,rfl,hd,q⟩:=h;cases rx;cases rs;obtain⟨z,md,va,qa,da⟩:=gO I.hok hd;refine ny Sd da.typeIs PySem.F.entry_dict_values (PySem.F.args_dict_values_1 _) (meets_dict_values (cP X.prog X.w) d md) ⟨⟨va,da⟩,?_⟩;refine⟨.ref s.heap.objs.size,_,I.laid (t':=s.toks) (o:=.ext fun h=>h.IsValuesView s.heap.objs.size d) (fun b u e=>qu _ e) (qw _) ⟨⟨_,qF _ rfl,rfl,rfl⟩,⟨_,qF _ rfl⟩,fun h1 h2 q k=>?_⟩,rfl,q _ I.fresh⟩;obtain⟨ob,e,r⟩:=q;exact⟨ob,k ob e,r⟩
theorem Nk (ho:PE X o to) (hbase:ig o "values" X.env (eval o X.env)=eval o X.env:=by rfl) (hline:(apos.endLine==cpos.line)=ah:=by rfl):PE X (.Call (.Attribute o "values" apos) [] [] cpos) (fun σ H Q=>to σ H fun x H1=>∃a,x=.ref a/\IsD H1 a/\C1 x [] H1 Q):=JP Sd PySem.F.type_dict_values Jk ho hbase hline
noncomputable def tW (i:al) (fk:FE):FS:=fun ρ=>(fk ρ).bind fun kd=>match ρ[i]? with
 |some (aa (.odk kvs))=>(gJ kd).bind fun k=>if (cr kvs k).isSome=ah then aa (.nx,ρ.set i (aa (.odk (kvs.filter fun kv=>decide (kv.1≠k))))) else ab
 |_=>ab
theorem B8 {κ:Type} [eV κ] {K:bu} {G:Hp} {k:κ}:∀{us:ac (κ×V)} {kvs:ac (κ×D)},us.map (·.1)=kvs.map (·.1)->Reps Γ K G (us.map (·.2)) (kvs.map (·.2))->(kg us k).map (·.1)=(kvs.filter fun kv=>decide (kv.1≠k)).map (·.1)/\Reps Γ K G ((kg us k).map (·.2)) ((kvs.filter fun kv=>decide (kv.1≠k)).map (·.2))
 |[],[],_,_=>⟨rfl,.nil⟩
 |[],_::_,e,_=>by cases e
 |_::_,[],e,_=>by cases e
 |u::us,p::kvs,e,r=>by
  rw[qo,qo] at e;obtain⟨e1,e2⟩:=ij e;cases r with
  |cons r1 r2=>
   obtain⟨h1,h2⟩:=B8 (k:=k) e2 r2;unfold kg at h1 h2 ⊢;rw[vE,vE];by_cases hk:u.1=k
   .rw[qZ (by simp[hk]),qZ (by rw[←e1];simp[hk])];exact⟨h1,h2⟩
   .rw[qY (by simp[hk]),qY (by rw[←e1];simp[hk])];exact⟨by rw[qo,qo,e1,h1],.cons r1 h2⟩
theorem IV (i:al) (hk:DE Γ X e fk) (m:M1 X (.Name x vp) "pop" apos e cpos:=by exact⟨rfl,rfl,rfl,rfl⟩) (hN:X.N[i]?=aa x:=by rfl) (hv:Vis X.env.scope x:=by first|exact dc rfl|exact cH (dc rfl)|exact cH (cH rfl)) (hd:.(G)=ao:=by decide)
  (hcd:.(ap)=ao:=by decide) (hs:fG (.Call (.Attribute (.Name x vp) "pop" apos) [e] [] cpos) ab pos.line X.env=bG ao:=by rfl) :
  DS Γ X (.Expr (.Call (.Attribute (.Name x vp) "pop" apos) [e] [] cpos) pos) (tW i fk):=⟨(x6 (K0 (iq hN hv hd hcd) hk.1 m) hs).imp fun E σ H=>by
 rintro⟨G₀,H₀,G,ρ,flw,ρ',A,h,k⟩;unfold tW at h;obtain⟨kd,hkd,hq⟩:=oBd h;clear h;split at hq
 .rename_i kvs hi;obtain⟨kk,hkk,hq⟩:=oBd hq;split at hq
  .rename_i hz;cases hq;obtain⟨w,fp,h1,h2⟩:=A.get hi;cases h2 with
   |odk q1 q2 q3 q4 q5=>
    rename_i a us;refine⟨_,h1,a,rfl,.inl ⟨_,.inl q3⟩,G₀,H₀,G,ρ,_,A,hkd,fun u G2 H2 s2 r2=>?_⟩;have A2:=A.step s2;have eu:=lD r2 hkk;subst eu;have ha2:H2 a=aa (.dK us):=s2.hh _ _ q3;obtain⟨w1,w2⟩:=B8 (k:=kk) q4 (q5.mono s2.gg);rcases mz (k:=kk) q4 q5 with⟨z1,_⟩|⟨d,v,z1,z2,z3⟩
    .rw[z1] at hz;cases hz
    .exact⟨us,kk,v,ha2,rfl,z2,k σ G2 _ s2.gg (A2.chOdk hi h1 w1 w2)⟩
  .cases hq
 .cases hq⟩
end
end
variable {wanted:al}
namespace ST
theorem Full.relaid2 {t:im} {es:bQ (ag×Value)} (F:Full (kT wanted-1)) (few:es.size*5<(kT wanted-1)*3) {t':im} {order:bQ al} (h:t.relaid (es.map (·.1)) wanted=aa (t',order)):coversAll order es.size=ah/\t'.plain=t.plain:=by
 generalize hM:kT wanted-1=M at F few;obtain⟨owner,hl,O⟩:=F.lays (es.map (·.1)) (by simp;omega);have hlen:(es.map (·.1)).toList.length=es.size:=by simp
 have llen:(dQ M owner).length=es.size:=by rw[AE O,hlen]
 unfold RO at h;rw[hM] at h;unfold RP at h;rw[hl] at h;cases h;refine⟨?_,rfl⟩;unfold coversAll;rw[List.isPerm_iff,List.perm_ext_iff_of_nodup (by exact BB O) zK];intro k;rw[fB];constructor
 .intro hk;obtain⟨⟨j,k'⟩,hm,rfl⟩:=bC.mp (show k∈(dQ M owner).map (·.2) from hk);have:=O.lt j k' ((iR O.sz).mp hm);rw[hlen] at this;exact this
 .intro hk;obtain⟨j,hj⟩:=O.on k (by rw[hlen];exact hk);exact(show k∈(dQ M owner).map (·.2) from bC.mpr ⟨(j,k),(iR O.sz).mpr hj,rfl⟩)
noncomputable def ja (es:bQ (ag×Value)):ac ag:=es.toList.map fun e=>match e.2 with
 |.int m _=>m
 |_=>0
structure IS (prog:bV) (w:cR) (led:aQ) (ks:ac ag) (o:bf):Prop where
 cls:o.ExactSet
 ex:∃es ep t,o.data=.set es ep t/\Tb t es/\Mk t.mask/\t.plain=ah/\t.led=led/\(∀e∈es.toList,∃m t,e=((eK prog w).hash m,c4 m t))/\(ja es).Perm (dd ks)
section
variable {E:Value->aH->Prop}
theorem AN {es:bQ (ag×Value)} (h:∀e∈es.toList,∃m t,e=((eK prog w).hash m,c4 m t)):ElemsOf (eK prog w) es.toList:=fun e he=>by obtain⟨m,t,rfl⟩:=h e he;exact⟨⟨m,FP _ _ _ _,rfl⟩,rfl⟩
theorem Hy {es:bQ (ag×Value)} (h:es'.toList.Perm es.toList):(ja es').Perm (ja es):=h.map _
theorem BY {es:bQ (ag×Value)} {k:ag} (hE:∀e∈es.toList,∃m t,e=((eK prog w).hash m,c4 m t)):zZ (fun e=>(eK prog w).is k e.2) es.toList=ab↔k∉ja es:=by
 rw[List.findIdx?_eq_none_iff];constructor
 .intro h hk;obtain⟨e,he,e2⟩:=bC.mp hk;obtain⟨m,t,rfl⟩:=hE e he;have:=h _ he;have e2:m=k:=e2;subst e2;rw[FP] at this;cases this
 .intro h e he;obtain⟨m,t,rfl⟩:=hE e he;have hne:m≠k:=fun z=>h (bC.mpr ⟨_,he,z⟩);show yS k (.int m t)=ao;simp[yS,hne]
set_option maxHeartbeats 1000000 in
theorem IG {o:bf} {led:aQ} {ks:ac ag} {k:ag} {tk0:Tok} {Q:aQ->aH->Prop} (ho:s.heap.get? S=aa o) (T:IS prog w led ks o) (hlen:ks.length<=300)
  (h:∀b h' tk o',s.toks<=tk->iF S s.heap h'->h'.get? S=aa o'->IS prog w led (ks++[k]) o'->Q b {s with heap:=h',toks:=tk}):aM .(N) A (pz S (.int k tk0)) Q E s:=by
 obtain⟨hc,es,ep,t,hd,TB,hM,hpl,hled,hE,hp⟩:=T;have hkey:=FP prog w k tk0;have hddl:=mG ks;have hsz:es.size=(dd ks).length:=by have:=hp.length_eq;unfold ja at this;rw[qg,gf] at this;exact this
 have hb:es.size<scanBound:=by unfold scanBound;omega
 obtain⟨n0,f1,f2,f3⟩:=TB.first ((eK prog w).hash k);unfold pz;refine qS (qx ((eK prog w).pyHash hkey ?_));unfold setAddHashed R3;refine qS (qx (kU (s:={s with toks:=s.toks+1}) ho hd TB.fits ?_));dsimp only;rw[byScan_of (knd:=eK prog w) (x:=.int k tk0) rfl hb (AN hE)];simp only[↓reduceIte];unfold setAddByScan;refine qx ?_;refine qx (ES ?_);refine qx (wpAny_setScan_of (knd:=eK prog w) (s:={s with toks:=s.toks+1}) hkey ho hd TB.fits (AN hE) ?_);by_cases hk:k∈dd ks
 .have hne:zZ (fun e=>(eK prog w).is k e.2) es.toList≠ab:=fun z=>(BY hE).mp z (hp.mem_iff.mpr hk);cases hr:zZ (fun e=>(eK prog w).is k e.2) es.toList with
  |none=>exact bK hr hne
  |some j=>
   dsimp only;refine qz (qz ?_);refine h ao s.heap (s.toks+1) o (lU _) (Fp S s.heap) ho ⟨hc,es,ep,t,hd,TB,hM,hpl,hled,hE,?_⟩;rw[rJ,qY hk];exact hp
 .have hr:zZ (fun e=>(eK prog w).is k e.2) es.toList=ab:=(BY hE).mpr fun z=>hk (hp.mem_iff.mp z);rw[hr];dsimp only;have hslot:t.freeSlot ((eK prog w).hash k)=aa (J t.mask ((eK prog w).hash k) n0,ao):=by
   unfold SetTable.freeSlot;rcases v6 TB (hashAt:=fun _=>(eK prog w).hash k+1) (r:=_) rfl (NX t _) (iK _) f1 f2 f3 with⟨n',i,_,_,_,g4,_⟩|⟨_,g2⟩
   .omega
   .rw[g2];rfl
  have hplc:cg t.place (J t.mask ((eK prog w).hash k) n0)<=es.size:=by have:=(oO t.place (J t.mask ((eK prog w).hash k) n0) TB.ri).1;rw[TB.sz] at this;exact this
  have hH:(J t.mask ((eK prog w).hash k) n0)=(J t.mask ((eK prog w).hash k) n0):=rfl;generalize hHk:(eK prog w).hash k=Hk at *;clear hH;have hsize:(cv es (cg t.place (J t.mask Hk n0)) (Hk,c4 k tk0)).size=es.size+1:=by have:=cJ gm (lH es _ (Hk,c4 k tk0) hplc);simp only[gf,qk,qj,qD,jk] at this;omega
  have hpsz:(cv t.place (cg t.place (J t.mask Hk n0)) (J t.mask Hk n0)).size=es.size+1:=by have:=cJ gm (lH t.place _ (J t.mask Hk n0) (by rw[TB.sz];exact hplc));have h3:=TB.sz;simp only[gf,qk,qj,qD,jk] at this;omega
  have hdum:.(y).1.dummies=#[]:=by show(if zJ t.dummies _ then _ else t.dummies)=#[];rw[TB.dm];rfl
  have hfill:Fz .(y).1=es.size+1:=by show(cv t.place _ _).size+.(y).1.dummies.size=_;rw[hdum];exact hpsz
  have hfits:pr .(y).1 (cv es .(y).2 (Hk,c4 k tk0)).size=ah:=by unfold pr;rw[hfill,show(cv es .(y).2 (Hk,c4 k tk0)).size=es.size+1 from hsize,fU];have:=TB.few;exact⟨by rw[kO];exact hpsz,qR (by show es.size+1<=t.mask;omega)⟩
  have hlay:layNew t es Hk (.int k tk0)=(cv es .(y).2 (Hk,c4 k tk0),.(y).1,ao,ao):=by unfold layNew;rw[hslot];show(cv es .(y).2 (Hk,c4 k tk0),Se .(y).1 _,ao,!pr .(y).1 _)=_;have hfits':pr .(y).1 (cv es (cg t.place (J t.mask Hk n0)) (Hk,c4 k tk0)).size=ah:=hfits;unfold Se;rw[hfits'];rfl
  rw[hlay];dsimp only;refine qx (qz (a:=()) ?_);rw[qY (show.(y).1.plain=ah from hpl)];refine qx ?_;rw[RY 8 (show(c4 k tk0).scannable=ah from rfl)];refine qz ?_;rw[qY (show plainKind (c4 k tk0)=ah from rfl)];have hms:∀es':bQ (ag×Value),es'.toList.Perm (cv es .(y).2 (Hk,c4 k tk0)).toList->(ja es').Perm (dd (ks++[k]))/\∀e∈es'.toList,∃m t,e=((eK prog w).hash m,c4 m t):=fun es' pe=>by
   have e1:=lH es (cg t.place (J t.mask Hk n0)) (Hk,c4 k tk0) hplc;have e1:(cv es .(y).2 (Hk,c4 k tk0)).toList=_:=e1;rw[e1] at pe;have pe2:=pe.trans (Sf);rw[sC] at pe2;refine⟨?_,fun e he=>?_⟩
   .rw[rJ,qZ hk];refine(pe2.map _).trans ?_;refine(List.Perm.cons k hp).trans ?_;exact(List.perm_append_singleton k (dd ks)).symm
   .rcases c0.mp (pe2.mem_iff.mp he) with rfl|he
    .exact⟨k,tk0,by rw[hHk]⟩
    .exact hE e he
  refine qx (zT (s:={s with toks:=s.toks+1}) ho hd ?_ (by show(cv es (cg t.place (J t.mask Hk n0)) (Hk,c4 k tk0)).size<=aW;rw[hsize,fT];omega));have hg1:=u6 (es':=cv es .(y).2 (Hk,c4 k tk0)) (t':=.(y).1) ho hd;have hsb1:=pB s.heap S (zS (cv es .(y).2 (Hk,c4 k tk0)) .(y).1);by_cases few:(es.size+1)*5<t.mask*3
  .have hfull:l9 .(y).1=ao:=by unfold l9;rw[hfill];exact qM (by show ¬((es.size+1)*5 ≥ t.mask*3);omega)
   rw[hfull];simp only[l7,Ff,qr,c9];refine qz (qz ?_);obtain⟨m1,m2⟩:=hms _ (List.Perm.refl _);exact h ah _ _ _ (lU _) hsb1 hg1 ⟨hc,_,_,_,rfl,TB.put (x:=.int k tk0) f2 f3 few t.plain,hM,hpl,hled,m2,m1⟩
  .have hfull:l9 .(y).1=ah:=by unfold l9;rw[hfill];exact qR (by show((es.size+1)*5 ≥ t.mask*3);omega)
   rw[hfull];simp only[l7,vQ,cK];obtain⟨m1,m2,m3⟩:=hM.grow TB.few few .(f);have hes1:(cv es .(y).2 (Hk,c4 k tk0)).size=es.size+1:=hsize;rw[hes1];obtain⟨t',order,r1,r2,r3,r4,r5,r6⟩:=Full.relaid (t:=.(y).1) (es:=cv es .(y).2 (Hk,c4 k tk0)) m1.full (by rw[hes1];exact m2);obtain⟨c1,c2⟩:=Full.relaid2 m1.full (by rw[hes1];exact m2) r1;have hpm:=relayAll_perm .(y).1 (cv es .(y).2 (Hk,c4 k tk0)) (sF (es.size+1));have hrel:relayAll .(y).1 (cv es .(y).2 (Hk,c4 k tk0)) (sF (es.size+1))=(order.filterMap ((cv es .(y).2 (Hk,c4 k tk0))[·]?),t',ao):=by unfold relayAll;rw[r1];dsimp only;rw[c1,r3.fits];rfl
   rw[hrel] at hpm ⊢;dsimp only at hpm ⊢;refine qx (qz (a:=()) ?_);refine qx (zT (s:={s with heap:=_,toks:=s.toks+1}) hg1 rfl ?_ (by rw[r2,hes1,fT];omega));refine qz (qz ?_);obtain⟨q1,q2⟩:=hms _ hpm;exact h ah _ _ _ (lU _) (hsb1.trans (pB _ S _)) (u6 hg1 rfl) ⟨hc,_,_,t',rfl,r3,by rw[r5];exact m1,c2.trans hpl,r6.trans hled,q2,q1⟩
end
end ST
namespace ST
open PySem PySem.Calls PyProof.Rows PyProof.V PySem.Spec PySem.W
theorem nY:vG "set_iterator" "__next__" "set_iterator.__next__" :=
 .of (owner:="set_iterator") (n:="__next__") (by rw[sJ,sK];kernel_rfl) .(r) .(r) .(r)
  (by first|exact .inl .(r)|exact .inr .(r)) (by rw[z4];kernel_rfl)
theorem Bl:vG "set_iterator" "__iter__" "set_iterator.__iter__" :=
 .of (owner:="set_iterator") (n:="__iter__") (by rw[sJ,sK];kernel_rfl) .(r) .(r) .(r)
  (by first|exact .inl .(r)|exact .inr .(r)) (by rw[z4];kernel_rfl)
theorem CZ:vG "set" "__iter__" "set.__iter__" :=
 .of (owner:="set") (n:="__iter__") (by rw[sJ,sK];kernel_rfl) .(r) .(r) .(r)
  (by first|exact .inl .(r)|exact .inr .(r)) (by rw[z4];kernel_rfl)
theorem AK:zX table "set_iterator.__next__"=aa Builtin.«set_iterator.__next__»:=R8 (by kernel_rfl)
theorem M':zX table "set_iterator.__iter__"=aa Builtin.«dict_keyiterator.__iter__»:=Sg (id':="dict_keyiterator.__iter__") (by kernel_rfl) rfl .(r) (by kernel_rfl)
theorem Mi:zX table "set.__iter__"=aa Builtin.«frozenset.__iter__»:=Sg (id':="frozenset.__iter__") (by kernel_rfl) rfl .(r) (by kernel_rfl)
theorem DY:Sh.lookup (Si ['r','o','t','a','r','e','t','i','_','t','e','s'].reverse)=aa Manifest.sig_set_iterator:=by kernel_rfl
theorem LF:Sh.lookup (Si ['t','e','s'].reverse)=aa Manifest.sig_set:=by kernel_rfl
theorem Bz (a:Value):ph "set_iterator.__next__" ⟨[a],[]⟩:=by unfold ph;rw[FU (id:="set_iterator.__next__") (n:=['_','_','t','x','e','n','_','_']) (o:=['r','o','t','a','r','e','t','i','_','t','e','s']) (by kernel_rfl) DY];kernel_rfl
theorem Js (a:Value):ph "set_iterator.__iter__" ⟨[a],[]⟩:=by unfold ph;rw[FU (id:="set_iterator.__iter__") (n:=['_','_','r','e','t','i','_','_']) (o:=['r','o','t','a','r','e','t','i','_','t','e','s']) (by kernel_rfl) DY];kernel_rfl
theorem Mh (a:Value):ph "set.__iter__" ⟨[a],[]⟩:=by unfold ph;rw[FU (id:="set.__iter__") (n:=['_','_','r','e','t','i','_','_']) (o:=['t','e','s']) (by kernel_rfl) LF];kernel_rfl
theorem Md:vz (.type "set") "__len__"=bG (aa (.builtin "set.__len__")):=by rw[sJ,sK];kernel_rfl
theorem D4 {α:Type} (next:al->al):∀(fuel k:al) (left:ac α) (out:bQ α),left.length<=fuel->(Sj next fuel k left out).toList.Perm (out.toList++left)
 |0,k,left,out,h=>by
  have:left=[]:=List.eq_nil_of_length_eq_zero .(f);subst this;rw[lT];exact .refl _
 |fuel+1,k,left,out,h=>by
  unfold Sj;cases hl:left with
  |nil=>
   simp
  |cons a l=>
   rw[←hl];have hpos:0<left.length:=by rw[hl];exact vL _
   have hlt:=zF (next k) hpos;rw[qC hlt];dsimp only;refine(D4 next fuel (k+1) _ _ (by rw[List.length_eraseIdx_of_lt hlt];omega)).trans ?_;rw[Array.toList_push,sq];refine Sk _ ?_;show(left[next k%left.length]::left.eraseIdx (next k%left.length)).Perm left;rw[List.eraseIdx_eq_take_drop_succ];refine Sf.symm.trans ?_;rw[←vI hlt,sC]
theorem GG (next:al->al) (xs:bQ α):(sL next xs).toList.Perm xs.toList:=by
 have:=D4 next xs.size 0 xs.toList #[] (by simp)
 simpa[sL] using this
end ST
variable {slot:al}
namespace ST
open PySem PySem.Calls PyProof.Rows PyProof.V PySem.Spec PySem.W
noncomputable def SIt (h:Heap) (it S:av) (slot i n ep:al):Prop:=∃o,h.get? it=aa o/\o.cls=.type "set_iterator"/\o.data=.fields #[.int slot 0,.int i 0,.ref S,.int n 0,.int ep 0]
theorem SIt.typeIs {it:av} (x:SIt s.heap it S slot i n ep):s.TypeIs (.ref it) "set_iterator":=let ⟨o,ho,hc,_⟩:=x;⟨o,ho,hc⟩
noncomputable def dR (w:cR) (S:av) (es:bQ (ag×Value)) (ep:al):ac (ag×Value):=if w.params.followText "set-order"=ah then (sL (w.params.setOrder S ep) es).toList else es.toList
theorem pX (w:cR) (S:av) (es:bQ (ag×Value)) (ep:al):(dR w S es ep).Perm es.toList:=by
 unfold dR;split
 .exact GG _ _
 .exact .refl _
theorem Of {xs:bQ al} (hs:xs.toList.Pairwise (· < ·)) (h:xs[i]?=aa j):cg xs (j+1)=i+1:=by
 obtain⟨b0,b1,b2⟩:=oO xs (j+1) hs;have hi:=(gX.mp h).1;rcases ik (cg xs (j+1)) (i+1) with q|q
 .have:=b2 i .(f) j h;omega
 .rcases ik (i+1) (cg xs (j+1)) with q2|q2
  .have hlt:i+1<xs.size:=by omega
   have h1:xs[i+1]?=aa xs[i+1]:=by simp[hlt]
   have:=b1 (i+1) q2 _ h1;have h3:=zH.mp hs i (i+1) (by simpa using hi) (by simpa using hlt) .(f);have h4:xs[i]=j:=by rw[Sl hi] at h;injection h
   simp only[RD] at h3;omega
  .omega
section
variable {E:Value->aH->Prop} {it:av} {o:bf} {es:bQ (ag×Value)} {t:im}
theorem EE {Q:ar (Value×al)->aH->Prop} (ho:s.heap.get? S=aa o) (hd:o.data=.set es ep t) (T:Tb t es) (hpl:t.plain=ah) (hled:t.led=!w.params.followText "set-order") (hb:w.params.followText "set-order"=ao->cg t.place slot=i)
  (h1:∀e slot',(dR w S es ep)[i]?=aa e->(w.params.followText "set-order"=ao->cg t.place slot'=i+1)->Q (aa (e.2,slot')) s) (h2:(dR w S es ep)[i]?=ab->Q ab s):aM .(N) A (setNext S slot i ep) Q E s:=by
 unfold setNext;refine qx (kU ho hd T.fits ?_);dsimp only;unfold FV;refine qx (qx (vP (qz ?_)));dsimp only;cases hf:w.params.followText "set-order" with
 |true=>
  rw[qY (show.(N).w.params.followText "set-order"=ah from hf)];rw[qZ (by simp)];unfold setWalk;refine qx ?_;refine qx (kU ho hd T.fits ?_);dsimp only;unfold FV;refine qx (qx (vP (qz ?_)));dsimp only;rw[qY (show.(N).w.params.followText "set-order"=ah from hf)];refine qx (vP (qz ?_));dsimp only;have e:dR w S es ep=(sL (w.params.setOrder S ep) es).toList:=by unfold dR;rw[qY hf]
  cases hx:(dR w S es ep)[i]? with
  |none=>
   have hx':(sL (.(N).w.params.setOrder S ep) es)[i]?=ab:=by rw[←qH];rw[e] at hx;exact hx
   rw[hx'];exact qz (h2 hx)
  |some p=>
   have hx':(sL (.(N).w.params.setOrder S ep) es)[i]?=aa p:=by rw[←qH];rw[e] at hx;exact hx
   rw[hx'];exact qz (h1 p slot hx (fun z=>by rw[hf] at z;cases z))
 |false=>
  rw[qZ (show ¬.(N).w.params.followText "set-order"=ah from by rw[show.(N).w.params.followText "set-order"=ao from hf];simp)];have e:dR w S es ep=es.toList:=by unfold dR;rw[qZ (by rw[hf];simp)]
  refine vS (fun hz=>?_) (fun _=>?_)
  .have hz':(!t.plain && decide (es.size > 1))=ah:=hz;rw[hpl] at hz';cases hz'
  refine qx ?_;show aM _ _ (if (!t.led && !es.isEmpty)=ah then _ else _) _ _ _;rw[hled,hf];rw[qZ (by simp)];refine qz ?_;rw[hb hf];cases hx:es[i]? with
  |none=>
   dsimp only;exact qz (h2 (by rw[e,qH];exact hx))
  |some p=>
   have hlt:i<t.place.size:=by rw[T.sz];exact(gX.mp hx).1
   have hj:t.place[i]?=aa t.place[i]:=by simp[hlt]
   rw[hj];dsimp only;exact qz (h1 p _ (by rw[e,qH];exact hx) fun _=>Of T.ri hj)
end
end ST
namespace ST
open PySem PySem.Calls PyProof.Rows PyProof.V PySem.Spec PySem.W
section
variable {E:Value->aH->Prop} {it:av} {o:bf} {es:bQ (ag×Value)} {t:im}
theorem KA {Q:ar Value->aH->Prop} {e:ag×Value} (hit:SIt s.heap it S slot i es.size ep) (ho:s.heap.get? S=aa o) (hd:o.data=.set es ep t) (T:Tb t es) (hpl:t.plain=ah) (hled:t.led=!w.params.followText "set-order") (hb:w.params.followText "set-order"=ao->cg t.place slot=i)
  (hx:(dR w S es ep)[i]?=aa e)
  (hQ:∀h' slot',SIt h' it S slot' (i+1) es.size ep->(w.params.followText "set-order"=ao->cg t.place slot'=i+1)->iF it s.heap h'->Q (aa e.2) {s with heap:=h'}):aM .(N) A (jZ (.ref it)) Q E s:=by
 obtain⟨oi,hoi,hci,hdi⟩:=id hit;unfold jZ;refine qx (zV (E8 (name:=zj "__next__") hit.typeIs nY (sj nY hit.typeIs AK ?_ (Bz _))));unfold Builtin.«set_iterator.__next__»;refine qx (qz ?_);refine qx (Sm hoi hdi ?_);dsimp only;refine qx (FW ho hd T.fits ?_);rw[qZ (by simp)];refine qx (EE (S:=S) (slot:=((slot:ag).toNat)) (i:=((i:ag).toNat)) ho hd T hpl hled (by rw[me,me];exact hb) (fun e' slot' q1 q2=>?_) (fun q=>?_))
 .simp only[me] at q1 q2;rw[hx] at q1;cases q1;dsimp only;refine qx (FX hoi hdi (by simp) ?_);have h1:=FN (vT (·.setIfInBounds 0 (jf (slot':ag)))) hoi (Sn (sM hdi _));refine qx (FX h1 (sM hdi _) (by simp) ?_);have h2:=FN (vT (·.setIfInBounds 1 (jf ((i:ag)+1)))) h1 (Sn (sM (sM hdi _) _));have hs:=(pB s.heap it (vT (·.setIfInBounds 0 (jf (slot':ag))))).trans (pB (s.heap.update it (vT (·.setIfInBounds 0 (jf (slot':ag))))) it (vT (·.setIfInBounds 1 (jf ((i:ag)+1)))));exact qz ⟨_,rfl,qz (hQ _ slot' ⟨_,h2,((So ..).trans (So ..)).trans hci,by rw[sM (sM hdi _)];simp[jf]⟩ q2 hs)⟩
 .simp only[me] at q;rw[hx] at q;cases q
theorem J1 {Q:ar Value->aH->Prop} (hh:A.handled=ab) (hit:SIt s.heap it S slot i es.size ep) (ho:s.heap.get? S=aa o) (hd:o.data=.set es ep t) (T:Tb t es) (hpl:t.plain=ah) (hled:t.led=!w.params.followText "set-order") (hb:w.params.followText "set-order"=ao->cg t.place slot=i)
  (hx:(dR w S es ep)[i]?=ab)
  (hQ:∀h',Heap.ExtBut it s.heap h'->Q ab {s with heap:=h'}):aM .(N) A (jZ (.ref it)) Q E s:=by
 obtain⟨oi,hoi,hci,hdi⟩:=id hit;unfold jZ;refine qx (zV (E8 (name:=zj "__next__") hit.typeIs nY (sj nY hit.typeIs AK ?_ (Bz _))));unfold Builtin.«set_iterator.__next__»;refine qx (qz ?_);refine qx (Sm hoi hdi ?_);dsimp only;refine qx (FW ho hd T.fits ?_);rw[qZ (by simp)];refine qx (EE (S:=S) (slot:=((slot:ag).toNat)) (i:=((i:ag).toNat)) ho hd T hpl hled (by rw[me,me];exact hb) (fun e' slot' q1 q2=>?_) (fun q=>?_))
 .simp only[me] at q1;rw[hx] at q1;cases q1
 .dsimp only;refine qx (FX hoi hdi (by simp) ?_);refine qx ?_;simp only[newExc,newTuple];refine qx (lQ ?_ (by size_fits));refine qx (m:=Sq _ _) (vO (a:=o5) (by first|rfl|(simp only[Sq];rfl)) ?_);refine lQ ?_ (by size_fits);simp only[raiseNew];refine qx (wpAny_handled ?_);rw[show A.in1.handled=ab from hh];refine qx (qz (wpAny_throw ?_));refine qx (zW (T:="StopIteration") (b:=ah) ⟨_,qF _ rfl,rfl⟩ isSubtype_stop ?_);exact qz (hQ _ (((pB ..).extBut.push _).push _))
theorem Qy (hit:SIt s.heap it S slot i n ep) (h:Q (.ref it) s):aM .(N) A (o7 (.ref it)) Q E s:=by refine Sr hit.typeIs Bl (sj Bl hit.typeIs M' ?_ (Js _));show aM _ _ (ret (.ref it)) _ _ s;exact qz ⟨_,rfl,"set_iterator",_,hit.typeIs,nY.lookup,h⟩
theorem Lm (ho:s.heap.get? S=aa o) (hc:o.ExactSet) (hd:o.data=.set es ep t) (T:Tb t es) (hpl:t.plain=ah)
  (hQ:Q (.ref s.heap.objs.size) {s with heap:=s.heap.push {cls:=.type "set_iterator",data:=.fields #[.int 0 0,.int 0 0,.ref S,.int es.size 0,.int ep 0]} }):aM .(N) A (o7 (.ref S)) Q E s:=by
 have hT:s.TypeIs (.ref S) "set":=⟨o,ho,hc.1⟩;refine Sr hT CZ (sj CZ hT Mi ?_ (Mh _));unfold Builtin.«frozenset.__iter__»;refine qx ?_;unfold TW;refine qx (qz ?_);refine qz ?_;refine qx ?_;unfold TX;refine qx (FW ho hd T.fits (qz ?_));refine qx ?_;unfold setDrawn;refine qx (kU ho hd T.fits ?_);dsimp only;unfold FV;refine qx (qx (vP (qz ?_)));refine qz ?_;refine vS (fun hz=>?_) (fun _=>?_)
 .have hz':(!w.params.followText "set-order" && (!t.plain && decide (es.size > 1)))=ah:=hz;rw[hpl] at hz';simp at hz'
 refine qx (qz ?_);refine qx ?_;unfold setEpoch;refine qx (kU ho hd T.fits (qz ?_));refine qx ?_;unfold newFields;refine lQ (qz ⟨_,rfl,"set_iterator",_,⟨_,qF _ rfl,rfl⟩,nY.lookup,?_⟩);exact hQ
theorem Ly (hh:A.handled=ab) (I S:av) (hne:S≠I) (o:bf) (hd:o.data=.set es ep t) (T:Tb t es) (hpl:t.plain=ah) (hled:t.led=!w.params.followText "set-order") :
  Walks prog w A I [I,S] [I] es.size (fun i v=>∃e,(dR w S es ep)[i]?=aa e/\v=e.2) (fun i h=>h.get? S=aa o/\∃slot,SIt h I S slot i es.size ep/\(w.params.followText "set-order"=ao->cg t.place slot=i)) where
 sub:=fun b hb=>by simp at hb;simp[hb]
 frame:=fun _ _ _ st hk=>by obtain⟨h1,slot,⟨oi,h2,h3⟩,h4⟩:=st;exact⟨hk S (by simp) o h1,slot,⟨oi,hk I (by simp) oi h2,h3⟩,h4⟩
 item:=fun i s Q E hi st hQ=>by obtain⟨h1,slot,h2,h4⟩:=st;have hl:(dR w S es ep).length=es.size:=(pX w S es ep).length_eq.trans (gf);have hx:(dR w S es ep)[i]?=aa ((dR w S es ep)[i]'.(f)):=qC _;refine KA h2 h1 hd T hpl hled h4 hx fun h' slot' q1 q2 q3=>?_;exact hQ _ h' s.toks ⟨_,hx,rfl⟩ ⟨(q3.extBut S o hne h1),slot',q1,q2⟩ fun b o hb e=>q3.extBut b o (fun h=>hb (by simp[h])) e
 done:=fun s Q E st hQ=>by obtain⟨h1,slot,h2,h4⟩:=st;have hl:(dR w S es ep).length=es.size:=(pX w S es ep).length_eq.trans (gf);exact J1 hh h2 h1 hd T hpl hled h4 (Fq .(f)) fun h' he'=>hQ h' s.toks fun b o hb e=>he' b o (fun h=>hb (by simp[h])) e
 self:=fun _ _ _ _ st hQ=>by obtain⟨h1,slot,h2,h4⟩:=st;exact Qy h2 hQ
theorem MW {r:av} {Q:aQ->aH->Prop} (hT:s.TypeIs (.ref r) "set") (h:Q ao s):aM .(N) A (Ss (.ref r)) Q E s:=by
 unfold Ss;refine qx (Fh hT Md ?_);generalize hid:("set.__len__":dq)=id0
 wp_delta
 rw[show splitId id0=aa ("set","__len__") from by subst hid;decide +kernel];subst hid;refine qx (zW (T:="set") (b:=ah) hT (by rw[z4];kernel_rfl) ?_);refine vS (fun hab=>bK hab .(h)) (fun _=>?_);refine vS (fun _=>?_) (fun hab=>bK .(r) hab);refine qx (sk hT ?_);exact qz h
theorem src (S:av) (o:bf) (hc:o.ExactSet) (hd:o.data=.set es ep t) (T:Tb t es) (hpl:t.plain=ah) (hled:t.led=!w.params.followText "set-order") :
  KdlSrc prog w "set" S S es.size (fun i v=>∃e,(dR w S es ep)[i]?=aa e/\v=e.2) (fun h=>h.get? S=aa o) where
 type:=fun s h=>⟨o,h,hc.1⟩
 there:=fun h ho=>⟨qv ho,qv ho⟩
 keep:=fun _ _ h hk=>hk S (.inl rfl) o h
 notList:=by decide
 notTuple:=by decide
 hint:=fun _ _ _ _ h hq=>MW ⟨o,h,hc.1⟩ hq
 iter:=fun A s hh h=>⟨_,_,(fun _ _ hq=>Lm h hc hd T hpl hq),Ly hh _ S (qB (qv h)) o hd T hpl hled,⟨qu _ h,0,⟨_,qF _ rfl,rfl,rfl⟩,fun _=>by
  obtain⟨b0,b1,b2⟩:=oO t.place 0 T.ri;rcases Nat.eq_zero_or_pos (cg t.place 0) with q|q
  .exact q
  .have hlt:0<t.place.size:=by omega
   have:=b1 0 q _ (Sl hlt);omega⟩⟩
end
end ST
section
open ST
noncomputable def leZ (a b:ag):aQ:=decide (a<=b)
noncomputable def mZ (l:ac ag):ac ag:=l.mergeSort leZ
theorem K3 {l l':ac ag} (hp:l'.Perm l) (hs:l'.Pairwise (·<=·)):l'=mZ l:=
 List.Perm.eq_of_pairwise (le:=fun a b=>leZ a b=ah) (fun a b _ _ h1 h2=>Int.le_antisymm (fC h1) (fC h2)) (hs.imp fun h=>qR h)
  (Su (le:=leZ) (fun a b c h1 h2=>qR (FY (fC h1) (fC h2))) (fun a b=>by
   rcases Int.le_total a b with h|h
   .rw[show leZ a b=ah from qR h];rfl
   .rw[show leZ b a=ah from qR h];exact z5 _) l) (hp.trans (z6 l leZ).symm)
noncomputable def t9 (P:bV) (w:cR) (p:av) (ns:ac ag):HO:=.ext fun h=>∃o,h.get? p=aa o/\IS P w (!w.params.followText "set-order") ns o
theorem OV (hc:X.calm=ah):eE X (.type "set") (fun xs H Q=>∃(a:av) (ns:ac ag),xs=[.ref a]/\H a=aa (.lst (ns.map V.int))/\ns.length<=300/\∀p,H p=ab->Q (.ref p) (upd H p (t9 X.prog X.w p ns))):=by
 intro pins s σ H xs us Q I r h;obtain⟨a,ns,rfl,ha,hl,q⟩:=h;obtain⟨u,rfl,ru⟩:=fu r;cases ru;obtain⟨its,rv,pl,hz⟩:=I.list (.inl (.inl ha));have hkl:ns.length=its.length:=by have:=rv.length;rwa [qg] at this
 refine we (I.ok.hd hc) pl.isList (fun i o=>IS X.prog X.w (!X.w.params.followText "set-order") (ns.take i) o) ?_ (fun A' hA' i v sh o Q' E' hi hv ho hJ hB hQ=>?_) fun h' tk o ho hJ hk=>?_
 .refine⟨⟨rfl,rfl,rfl⟩,#[],0,kW 0 0 (!X.w.params.followText "set-order"),rfl,?_,.inl rfl,rfl,rfl,fun e he=>by simp at he,?_⟩
  .exact⟨yN,rfl,rfl,by simp[kW],by simp[kW],by simp[kW],fun i j h x hp=>by simp[kW] at hp⟩
  .simp[ja,dd]
 .have hi':i<ns.length:=by rw[qA] at hi;omega
  obtain⟨u2,hu2,ru2⟩:=rv.get (i:=i) (x:=V.int ns[i]) (by simp[hi']);have ev:v=u2:=by
   have hv':its[i]?=aa v:=by simpa using hv
   rw[hu2] at hv';exact(qG hv').symm
  subst ev;obtain⟨t0,rfl⟩:=ru2;have htk:ns.take (i+1)=ns.take i++[ns[i]]:=by rw[pC,qC hi'];rfl
  exact IG ho hJ (by rw[qD];omega) fun bb h' tk o' h1 h2 h3 h4=>hQ bb h' tk o' h1 h2 h3 (by show IS _ _ _ (vN (i+1) ns) o';rw[htk];exact h4)
 .have e:ns.take its.toArray.size=ns:=by rw[qA,←hkl];exact j3
  rw[e] at hJ;refine⟨.ref s.heap.objs.size,_,I.laid (a:=s.heap.objs.size) (o:=t9 X.prog X.w s.heap.objs.size ns) (fun b u e=>hk b u (qv e) e) (qw _) ?_,rfl,q _ I.fresh⟩;refine⟨⟨o,ho,hJ⟩,⟨o,ho⟩,fun h1 h2 hp hk2=>?_⟩;obtain⟨o1,q1,q2⟩:=hp;exact⟨o1,hk2 o1 q1,q2⟩
theorem CY {P:al->Value->Prop}:∀{vs:ac Value} {ms:ac ag},vs.length=ms.length->(∀(j:al) v,vs[j]?=aa v->∃m t,ms[j]?=aa m/\v=c4 m t)->j1 vs ms
 |[],[],_,_=>.nil
 |v::vs,m::ms,hl,h=>by obtain⟨m',t,h1,rfl⟩:=h 0 v rfl;cases h1;exact .cons _ _ (CY (P:=P) (by simpa using hl) fun j v e=>h (j+1) v e)
theorem Dn:∀{vs:ac Value} {ms:ac ag},j1 vs ms->bO (ms.map V.int) vs
 |_,_,.nil=>.nil
 |_,_,.cons x t r=>.cons ⟨t,rfl⟩ (Dn r)
theorem Gq (hc:X.calm=ah):eE X (.builtin "sorted") (fun xs H Q=>∃(a:av) (ns:ac ag),xs=[.ref a]/\H a=aa (t9 X.prog X.w a ns)/\ns.length<64/\∀p,H p=ab->Q (.ref p) (upd H p (.lst ((mZ (dd ns)).map V.int)))):=by
 intro pins s σ H xs us Q I r h;obtain⟨a,ns,rfl,ha,h64,q⟩:=h;obtain⟨u,rfl,ru⟩:=fu r;cases ru;obtain⟨⟨o,ho,hex,es,ep,t,hd,T,hM,hpl,hled,hE,hp⟩,_,_⟩:=I.hok a _ ha;have hh:X.A.handled=ab:=I.ok.hd hc;have hsl:=fT;have hdl:=mG ns;have hsz:es.size=(dd ns).length:=by have:=hp.length_eq;unfold ja at this;rw[qg,gf] at this;exact this
 refine Calls.call_function_entry kind_sorted plain_sorted entry_sorted (args_sorted1 _) ?_;unfold Builtin.«sorted»;refine qx (m:=checkCount "sorted" 1 1 _) (qz ?_);refine qx (PySem.W.kdu_collect (A:=X.A.in1) (src (prog:=X.prog) (w:=X.w) a o hex hd T hpl hled) hh ho .(f) fun h' tk acc hkp hacc=>?_);have hl:acc.toList.length=es.size:=by rw[gf];exact hacc.1
 refine qx (wpAny_newList ?_ (by rw[hl];omega));have hol:(dR X.w a es ep).length=es.size:=(pX X.w a es ep).length_eq.trans (gf);have hS:j1 acc.toList (ja (dR X.w a es ep).toArray):=CY (P:=fun _ _=>True) (by rw[hl];simp[ja,hol]) fun j v e=>by obtain⟨e2,q1,rfl⟩:=hacc.2 j v (by rw[←qH];exact e);obtain⟨m,t,he⟩:=hE e2 ((pX X.w a es ep).mem_iff.mp (qO q1));refine⟨m,t,?_,by rw[he]⟩;unfold ja;rw[ql,show(dR X.w a es ep).toArray.toList=dR X.w a es ep from rfl,q1,he];rfl
 have hoL:(h'.push (seqObj "list" acc.toList.toArray 0)).get? h'.objs.size=aa (seqObj "list" acc.toList.toArray 0):=qF _ rfl;refine qx (qS (sj slot_list_sort ⟨_,hoL,rfl⟩ entry_list_sort (list_sort_tree hoL hS (by rw[hl];omega) fun out ns' a1 a2 a3=>⟨_,rfl,?_⟩) (args_list_sort _)));have hpp:ns'.Perm (dd ns):=a2.trans ((Hy (es':=(dR X.w a es ep).toArray) (pX X.w a es ep)).trans hp);have es':=K3 hpp a3;subst es';refine qz ⟨_,rfl,?_⟩;obtain⟨ee,he⟩:=sortedHeap_at (h:=h'.push (seqObj "list" acc.toList.toArray 0)) (out:=out) hoL;have hls:(mZ (dd ns)).length=(dd ns).length:=(z6 (dd ns) leZ).length_eq;have hno:∀u,s.heap.get? h'.objs.size=aa u->False:=fun u e=>kL _ (qv (hkp _ _ e));have hn:=I.none_of hno;refine⟨.ref h'.objs.size,upd H h'.objs.size (.lst ((mZ (dd ns)).map V.int)),I.many (t':=tk) (fun b o e=>?_) (fun b o e=>by rw[a7 (ck e hn)];exact e) (fun b o e1 e2=>?_),rfl,q _ hn⟩
 .have hb:b<h'.objs.size:=qv (hkp b o e);rw[sortedHeap_old (qB hb) (by rw[size_push'];exact sH hb)];exact qu _ (hkp b o e)
 .by_cases hb:b=h'.objs.size
  .subst hb;rw[ca] at e2;cases e2;exact⟨hno,by rw[qg,hls];omega,_,ee,Dn a1,by rw[Array.toArray_toList];exact he⟩
  .rw[a7 hb,e1] at e2;cases e2
noncomputable def xx:D->ar D
 |.lst l=>if l.length<64 then (iN l).map fun ns=>.lst ((mZ (dd ns)).map D.int) else ab
 |_=>ab
theorem Qx (hc:X.calm=ah) (hgl:Gl X "sorted") (hml:X.mg "sorted"=ab) (hgs:Gl X "set") (hms:X.mg "set"=ab) (h:DE Γ X e f)
  (h1:a8 ([.Call (.Name "set" p2) [e] [] pos2]:ac Expr) X.env=(ao,eval (.Call (.Name "set" p2) [e] [] pos2) X.env)::a8 [] X.env:=by rfl) (h2:(cN pos (a8 [] X.env)).any (·.1)=ao:=by rfl)
  (h3:a8 ([e]:ac Expr) X.env=(ao,eval e X.env)::a8 [] X.env:=by rfl) (h4:(cN pos2 (a8 [] X.env)).any (·.1)=ao:=by rfl) :
  DE Γ X (.Call (.Name "sorted" p) [.Call (.Name "set" p2) [e] [] pos2] [] pos) (b1 xx f):=⟨by
 refine(tF (Gq hc) hgl hml (by rfl) (jx (sV (OV hc) hgs hms (by rfl) (jx h.1 jw h3) .(h) .(h) h3 h4) jw h1) .(h) .(h) h1 h2).imp fun σ H Q=>?_;rintro⟨G₀,H₀,G,ρ,d,A,hq,k⟩;unfold b1 at hq;obtain⟨x,hx,hl⟩:=oBd hq;clear hq;refine⟨G₀,H₀,G,ρ,x,A,hx,fun v G1 H1 s1 r1=>?_⟩;unfold xx at hl;split at hl
 .rename_i l;split at hl
  .rename_i hz;obtain⟨ns,hn,rfl⟩:=oMd hl;obtain⟨a,vs,rfl,ha,ra⟩:=r1.lst_inv;have ev:=tY ra hn;subst ev;have hln:ns.length=l.length:=by have:=ra.length;rwa [qg] at this
   refine⟨a,ns,rfl,s1.gh _ _ ha,by omega,fun p hp=>⟨p,ns,rfl,ca,by omega,fun q hq=>?_⟩⟩;have s2:=s1.trans (Step.newOwn (o:=t9 X.prog X.w p ns) s1.gh hp);exact oG s2.gh (Reps.ints _) (fun w G' H' st r=>k w G' H' (s2.trans st) r) q hq
  .cases hl
 .cases hl⟩
end
noncomputable def bt (p:av) (H:Hp):Hp:=fun a=>if a=p then ab else H a
noncomputable abbrev FR:=bi->ag->ar (D×ag)
noncomputable abbrev FRt:=bi->ag->ar (aQ×ag)
noncomputable abbrev FRa:=bi->ag->ar (ac D×ag)
noncomputable abbrev FRs:=bi->ag->ar (Fl×bi×ag)
noncomputable def rb (f:bi->ag->ar (α×ag)) (g:bi->α->ag->ar (β×ag)):bi->ag->ar (β×ag):=fun ρ r=>(f ρ r).bind fun x=>g ρ x.1 x.2
noncomputable def rM (f:bi->ag->ar (α×ag)) (g:α->ar β):bi->ag->ar (β×ag):=fun ρ r=>(f ρ r).bind fun x=>(g x.1).map fun d=>(d,x.2)
section
variable {a:Expr} {cc:ac Expr} {fa fb f:FR} {fr fi:FRa} {ft gt:FRt} {F:FE}
noncomputable def r2 (g:D->D->ar D) (fa fb:FR):FR:=rb fa fun ρ x r=>rM fb (fun y=>g x y) ρ r
end
section
variable {a:Expr} {cc:ac Expr} {fa fb f:FR} {fr fi:FRa} {ft gt:FRt} {y:aj} {g g':FRs}
end
section
variable {a:Expr} {fa fb f:FR} {fr:FRa} {y:aj}
end
noncomputable def bl (T H:Hp):Hp:=fun a=>if (T a).isSome=ah then ab else H a
noncomputable def jn (T H:Hp):Hp:=fun a=>if (T a).isSome=ah then T a else H a
noncomputable def Nm (c':av) (qual:aj):Heap->Prop:=fun h=>h.CodeRec (.ref c') qual
noncomputable def LB (pos:dD) (c':av):bQ Value:=#[jf pos.line,jf pos.col,.ref c']
noncomputable def T1 (P:av) (qual:aj) (pos:dD) (c':av):Hp:=upd (upd (fun _=>ab) P (.tbl (LB pos c'))) c' (.ext (Nm c' qual))
section
open PyProof
end
section
variable {J:Hp->Prop} {a:Expr} {y:aj}
end
section
variable {J:Hp->Prop} {p1:dD}
end
section
open PyProof
noncomputable def btS (ss:ac aj) (i j:al):aQ:=decide ((ss.getD i gi).cps.toList<(ss.getD j gi).cps.toList)
noncomputable def mnS (ss:ac aj):aj:=ss.getD (fW (btS ss) (ss.length-1)) gi
noncomputable def xU:FQ
 |[.lst l]=>(jS l).bind fun ss=>if ss=[] then ab else aa (.str (mnS ss))
 |_=>ab
theorem GQ {P:al->Value->Prop} (ss:ac aj) (hval:∀i v,P i v->∃t,v=.str (ss.getD i gi) t):CmpOf prog w A .Lt P (btS ss):=fun i j vi vj s Q E hi hj h=>by obtain⟨t,rfl⟩:=hval i vi hi;obtain⟨u,rfl⟩:=hval j vj hj;exact richCompare_gives (op:=.Lt) (vA s _ t) (vA s _ u) F.slot_str_lt F.entry_str_lt (F.args_str_lt_2 _ _) (gives_str_lt _ _ t u) (fun x=>nomatch x) h
theorem Bb:∀{vs:ac Value} {ss:ac aj},StrsAre vs ss->∀(i:al) v,vs[i]?=aa v->∃t,v=.str (ss.getD i gi) t
 |_,_,.cons x t r,0,v,e=>by cases e;exact⟨t,rfl⟩
 |_,_,.cons x t r,i+1,v,e=>by obtain⟨t,h⟩:=Bb r i v e;exact⟨t,h⟩
theorem O0 (hc:X.calm=ah):eE X (.builtin "min") (fun xs H Q=>∃(a:av) (ss:ac aj),xs=[.ref a]/\H a=aa (.lst (ss.map V.str))/\ss≠[]/\Q (.str (mnS ss)) H):=by
 intro pins s σ H xs us Q I r h;obtain⟨a,ss,rfl,ha,e0,q2⟩:=h;obtain⟨u,rfl,ru⟩:=fu r;cases ru;obtain⟨its,rv,pl,_⟩:=I.list (.inl (.inl ha));have hS:=Ed rv;have vl:its.length=ss.length:=by have:=rv.length;simpa using this.symm
 refine call_min_walk (sB pl.isList ?_);have la:a<s.heap.objs.size:=by obtain⟨o,_,h1,_⟩:=pl;exact qv h1
 have hP:∀(i:al) v,its.toArray[i]?=aa v->∃t,v=.str (ss.getD i gi) t:=fun i v hv=>Bb hS i v (by simpa using hv);have sz:its.toArray.size=ss.length:=by simp[vl]
 refine⟨s.heap.objs.size,_,_,_,_,_,btS ss,rfl,vH (A:=X.A.in1) (show X.A.in1.handled=ab from I.ok.hd hc) s.heap.objs.size a (qB la) its.toArray,⟨⟨_,qF _ rfl,rfl,rfl⟩,pl.isList.at fun o q=>qu _ q⟩,fun b hb=>?_,?_,GQ ss hP,fun v h' tk pv hk=>?_⟩
 .rw[lS];simp only[qK,qI,or_false] at hb;rcases hb with z|z
  .rw[z];exact rZ _
  .rw[z];exact sH la
 .rw[sz];exact sN.mpr e0
 .obtain⟨t,rfl⟩:=hP _ _ pv;refine⟨.str (mnS ss),H,I.kept fun b o z=>hk b o ?_ (qu _ z),?_,q2⟩
  .intro z';have:b=s.heap.objs.size:=by simpa using z'
   exact bK (qv z) (by rw[this];exact kL _)
  .unfold mnS;rw[sz];exact⟨t,rfl⟩
theorem K8 (hc:X.calm=ah):BltD Γ X "min" xU:=⟨_,O0 hc,fun {G H vs ds z} gh r h Q k=>by
 unfold xU at h;split at h
 .obtain⟨ns,hn,h⟩:=oBd h;split at h
  .cases h
  .rename_i hne;cases h;obtain⟨v,rfl,r1⟩:=r.one;obtain⟨a,us,rfl,ha,ra⟩:=r1.lst_inv;exact⟨a,ns,rfl,by rw[←wO ra hn];exact gh _ _ ha,hne,k _ G H (.refl gh) (.str _)⟩
 .cases h⟩
end
section
open PyProof
noncomputable def t6:D->ar (ac (Key×D))
 |.dk l=>aa l
 |.fdk l=>aa l
 |_=>ab
noncomputable def uk (x y:D):ar aQ:=(t6 x).bind fun ka=>(t6 y).bind fun kb=>if ka.length=kb.length then mw kb ka else aa ao
theorem Bx {l:ac (Key×D)} (gh:bT G H) (r:Rep Γ X.K G v d) (h:t6 d=aa l):∃p us,v=.ref p/\Rd H p (.dK us)/\us.map (·.1)=l.map (·.1)/\Reps Γ X.K G (us.map (·.2)) (l.map (·.2)):=by
 unfold t6 at h;split at h
 .cases h;cases r with
  |dk h1 h2 h3=>exact⟨_,_,rfl,.inl (gh _ _ h1),h2,h3⟩
 .cases h;cases r with
  |fdk h1 h2 h3=>exact⟨_,_,rfl,.inr ⟨_,gh _ _ h1⟩,h2,h3⟩
 .cases h
end
section
open PyProof
theorem P3:PE X (.Dict [] [] pos) (fun σ H Q=>∀p o,H p=ab->Q (.ref p) (upd H p (.frz o (.dK [])))):=by intro pins s σ H Q I h;refine thn (xE pins s σ H (fun v H'=>∃p,v=.ref p/\H p=ab/\H'=upd H p (.dK [])) I fun p hp=>⟨p,rfl,hp,rfl⟩) fun v s1 ⟨x,H1,I1,r1,p,e1,hp,e2⟩=>?_;subst e1 e2;obtain⟨o,ho⟩:=(I1.hok p _ ca).there;have I2:=I1.frz ca ho;rw[CI] at I2;exact⟨.ref p,_,I2,r1,h p o hp⟩
theorem NR:DE Γ X (.Dict [] [] pos) (vC (.fdk [])):=⟨P3.imp fun σ H Q=>by rintro⟨G₀,H₀,G,ρ,d,A,h,k⟩;cases h;intro p o hp;have s:=Step.new (o:=.frz o (.dK [])) A.gh hp;exact k _ _ _ s (.fdk ca rfl .nil)⟩
end
section
open PyProof
noncomputable def gQ (i:al) (fk:FE):FE:=fun ρ=>match ρ[i]? with
 |some (aa (.odk kvs))=>(fk ρ).bind fun kd=>(gJ kd).bind fun k=>cr kvs k
 |_=>ab
section
theorem pL (i:al) (hu:X.A.units+66<cy) (hk:DE Γ X ke fk) (hs:tD ke:=by intro _ _;rfl) (hN:X.N[i]?=aa x:=by rfl) (hv:Vis X.env.scope x:=by first|exact dc rfl|exact cH (dc rfl)|exact cH (cH rfl)) (hd:.(G)=ao:=by decide)
  (hcd:.(ap)=ao:=by decide):DE Γ X (.Subscript (.Name x vp) ke pos) (gQ i fk):=⟨(Bs .(f) (iq hN hv hd hcd) hk.1 hs).imp fun σ H Q=>by
 rintro⟨G₀,H₀,G,ρ,d,A,h,k⟩;unfold gQ at h;split at h
 .rename_i kvs hi;obtain⟨kd,hkd,h⟩:=oBd h;obtain⟨kk,hkk,h⟩:=oBd h;obtain⟨w,fp,h1,h2⟩:=A.get hi;cases h2 with
  |odk q1 q2 q3 q4 q5=>
   rename_i a us;refine⟨_,h1,G₀,H₀,G,ρ,_,A,hkd,fun u G2 H2 s2 r2=>?_⟩;have eu:=lD r2 hkk;subst eu;rcases mz (k:=kk) q4 (q5.mono s2.gg) with⟨n1,n2⟩|⟨y,u,n1,n2,n3⟩
   .rw[n1] at h;cases h
   .rw[n1] at h;cases h;exact⟨a,u,rfl,.inl ⟨us,kk,.inl (s2.hh _ _ q3),rfl,n2.symm⟩,k u G2 H2 s2 n3⟩
 .cases h⟩
noncomputable def rT (i j:al) (fa:FA):FS:=fun ρ=>(fa ρ).bind fun ds=>match ds with
 |[a,b]=>aa (.nx,(ρ.set i (aa (.sh a))).set j (aa (.sh b)))
 |_=>ab
variable {y:aj} {a:Expr} {pt pt2:dD} {kt k2:al}
theorem Ex (i j:al) (hc:X.calm=ah) (hN:X.N.Nodup) (ha:DA Γ X [a,b] fr) (hi:X.N[i]?=aa x:=by rfl) (hj:X.N[j]?=aa y:=by rfl) (hij:i≠j:=by decide) (hx:X.env.scope.names.lookup x=aa .local:=by rfl) (hy:X.env.scope.names.lookup y=aa .local:=by rfl)
  (hw:yV [.Tuple [.Name x px,.Name y py] kt pt] (.Tuple [a,b] k2 pt2) X.env=bG (aa [x,y]):=by rfl)
  (hs:yU [.Tuple [.Name x px,.Name y py] kt pt] (.Tuple [a,b] k2 pt2) pos.line X.env=bG ao:=by rfl) :
  DS Γ X (.Assign [.Tuple [.Name x px,.Name y py] kt pt] (.Tuple [a,b] k2 pt2) pos) (rT i j fr):=⟨(Nu hc hN hi hj hij hx hy ha.1 hw hs).imp fun E σ H=>by
 rintro⟨G₀,H₀,G,ρ,fl,ρ',A,h,k⟩;unfold rT at h;obtain⟨ds,hd,h⟩:=oBd h;split at h
 .cases h;refine⟨G₀,H₀,G,ρ,_,A,hd,fun vs G1 H1 s1 r1=>?_⟩;cases r1 with
  |cons q1 q2=>
   cases q2 with
   |cons q2 q3=>
    cases q3;exact⟨_,_,rfl,k _ G1 H1 s1.gg (((A.step s1).setSh q1).setSh q2)⟩
 .cases h⟩
end
end
section
open PyProof PySem.SeqAt
open PySem.AutoSeq1 (wpAny_loadPart')
open PySem.MeetsSeq PySem.MeetsSeq2 PySem.MeetsSeq3 PySem.SeqRoads2
section
variable {P:bV}
noncomputable def Alk (P:bV) (w:cR) (A:dB) (s:aH) (y x:Value):Prop:=∀E Q,Q ah s->aM (aR P w) A (eqBool y x) Q E s
structure TwoL (P:bV) (w:cR) (p q:av) (xs ys:bQ Value) (A:dB) (s:aH):Prop where
 x:∃n dp sp,s.heap.get? p=aa {cls:=.type "list",dict:=dp,data:=.seq xs n,slots:=sp}
 y:∃n dp sp,s.heap.get? q=aa {cls:=.type "list",dict:=dp,data:=.seq ys n,slots:=sp}
 e:∀j (hx:j<xs.size) (hy:j<ys.size),Alk P w A.in1 s xs[j] ys[j]
theorem CC {p q:av} {xs ys:bQ Value} (sz:xs.size=ys.size):∀(k i:al),xs.size-i=k->MeetsIn P w (Builtin.«list.__eq__.loop» ⟨[.ref p,.ref q,jf i,jf 2],[]⟩) fun A R s=>TwoL P w p q xs ys A s/\R (.ok (.ret (.bool ah))) s
 |0,i,hk,A,R,s,⟨T,hR⟩=>by
  obtain⟨hp,g,d,tk,os⟩:=s;obtain⟨_,_,_,gx⟩:=T.x;obtain⟨_,_,_,gy⟩:=T.y
  wp_walk using nJ gx,nJ gy
  rw[show xs[((i:al):ag).toNat]?=ab by simp;omega,show ys[((i:al):ag).toNat]?=ab by simp;omega]
  wp_walk using nJ gx,nJ gy
  show R (.ok (.ret (.bool (xs.size==ys.size)))) _;rw[show(xs.size==ys.size)=ah by simpa using sz];exact hR
 |k+1,i,hk,A,R,s,⟨T,hR⟩=>by
  obtain⟨hp,g,d,tk,os⟩:=s;obtain⟨_,_,_,gx⟩:=id T.x;obtain⟨_,_,_,gy⟩:=id T.y;have l1:i<xs.size:=by omega
  have l2:i<ys.size:=by omega
  wp_walk using nJ gx,nJ gy
  rw[show xs[((i:al):ag).toNat]?=aa xs[i] by simp[l1],show ys[((i:al):ag).toNat]?=aa ys[i] by simp[l2]];refine qx (T.e i l1 l2 _ _ ?_)
  wp_walk
  rw[show((i:ag)+1)=((i+1:al):ag) by omega];refine⟨sG plain_eq_loop _,nF entry_eq_loop ?_⟩;rw[pA plain_eq_loop _];exact CC sz k (i+1) .(f) A R _ ⟨T,hR⟩
theorem KY {p q:av} {xs ys:bQ Value} (sz:xs.size=ys.size):MeetsIn P w (Builtin.«list.__eq__» ⟨[.ref p,.ref q],[]⟩) fun A R s=>TwoL P w p q xs ys A s/\R (.ok (.ret (.bool ah))) s:=fun A R s ⟨T,hR⟩=>by
 obtain⟨hp,g,d,tk,os⟩:=s;obtain⟨_,_,_,gx⟩:=id T.x;obtain⟨_,_,_,gy⟩:=id T.y;have f3:=AutoSeq1.sub_list_list;have hne:¬(xs.size != ys.size)=ah:=by simp[sz]
 wp_walk using nJ gx,nJ gy
 refine⟨sG plain_eq_loop _,nF entry_eq_loop ?_⟩;rw[pA plain_eq_loop _];exact CC sz _ 0 rfl A R _ ⟨T,hR⟩
end
noncomputable def kr:ac D->ac D->aQ
 |[],[]=>ah
 |x::xs,y::ys=>(match uk x y with|some ah=>ah|_=>ao) && kr xs ys
 |_,_=>ao
noncomputable def u9:D->D->ar D
 |.lst x,.lst y=>if kr x y=ah then aa (.bl ah) else ab
 |_,_=>ab
theorem Am:∀{xs ys:ac D},kr xs ys=ah->xs.length=ys.length/\∀(i:al) x y,xs[i]?=aa x->ys[i]?=aa y->uk x y=aa ah
 |[],[],_=>⟨rfl,fun i x y h=>by simp at h⟩
 |[],_::_,h=>by cases h
 |_::_,[],h=>by cases h
 |a::xs,b::ys,h=>by
  unfold kr at h;rw[fU] at h;obtain⟨l,k⟩:=Am h.2;refine⟨by rw[qj,qj,l],fun i x y hx hy=>?_⟩;cases i with
  |zero=>
   cases hx;cases hy;have:=h.1;split at this
   .assumption
   .cases this
  |succ i=>exact k i x y hx hy
noncomputable def rLe (Γ:Cn) (K:bu):R2:=fun x y H Q=>∃G xs ys,bT G H/\Rep Γ K G x (.lst xs)/\Rep Γ K G y (.lst ys)/\kr xs ys=ah/\Q (.bl ah) H
theorem Qm (hu:X.A.units+66<cy):OpR X (dz .Eq) (rLe Γ X.K):=by
 intro pins s σ H x y v u Q I rx ry h;obtain⟨G,xs,ys,gh,r1,r2,hb,q⟩:=h;obtain⟨a,us,rfl,ha,ra⟩:=r1.lst_inv;obtain⟨b,ws,rfl,hb',rb⟩:=r2.lst_inv;cases rx;cases ry;obtain⟨ixs,va,pa,_⟩:=I.list (.inl (.inl (gh _ _ ha)));obtain⟨iys,vb,pb,_⟩:=I.list (.inl (.inl (gh _ _ hb')));obtain⟨hl,hk⟩:=Am hb;have la:ixs.length=xs.length:=va.length.symm.trans ra.length;have lb:iys.length=ys.length:=vb.length.symm.trans rb.length;have el:∀j (hx:j<ixs.toArray.size) (hy:j<iys.toArray.size),Alk X.prog X.w X.A.in1 s ixs.toArray[j] iys.toArray[j]:=fun j hx hy=>by
  simp only[qA] at hx hy;simp only[List.getElem_toArray];obtain⟨d,hd⟩:∃d,xs[j]?=aa d:=⟨_,qC .(f)⟩;obtain⟨e,he⟩:∃e,ys[j]?=aa e:=⟨_,qC .(f)⟩;obtain⟨v1,g1,q1⟩:=ra.get hd;obtain⟨v2,g2,q2⟩:=rb.get he;obtain⟨w1,o1,z1⟩:=va.get g1;obtain⟨w2,o2,z2⟩:=vb.get g2;rw[qC hx] at o1;rw[qC hy] at o2;rw[qG o1,qG o2];have hdq:=hk j d e hd he;unfold uk at hdq;obtain⟨ka,hka,hdq⟩:=oBd hdq;obtain⟨kb,hkb,hdq⟩:=oBd hdq;obtain⟨p,ua,rfl,h1,h2,h3⟩:=Bx gh q1 hka;obtain⟨p',ub,rfl,k1,k2,k3⟩:=Bx gh q2 hkb;obtain⟨_,m1,wa,qa,da⟩:=gO I.hok h1;obtain⟨_,m2,wb,qb,db⟩:=gO I.hok k1;cases z1;cases z2;by_cases hpp:p=p'
  .rw[hpp];exact fun E Q hq=>EqAt.same (A:=X.A.in1) (s:=s) (.ref p') X.prog X.w E Q hq
  .split at hdq
   .rename_i hll;have lwa:wa.length=ka.length:=by rw[←qa.length];simpa using cJ gm h2
    have lwb:wb.length=kb.length:=by rw[←qb.length];simpa using cJ gm k2
    have u1:X.A.in1.units=X.A.units+1:=rfl;have u2:X.A.in1.in1.units=X.A.units+2:=rfl;intro E Q hq;unfold eqBool;refine qS (vS (fun hab=>bK (by have:=Fa hab;injection this) hpp) fun _=>qx ?_);refine PySem.W.keq_eq (A:=X.A.in1) m1 m2 da db .(f) (fun _=>AS I gh .(f) k2 k3 qb h2 h3 qa hdq) ?_;rw[lwa,lwb,hll,beq_self_eq_true,nI];exact jW hq
   .cases hdq
 have sz:ixs.toArray.size=iys.toArray.size:=by simp only[qA];omega
 obtain⟨⟨cl,dd,dt,sl⟩,ho,hc,n,hd⟩:=pa.isList;obtain⟨⟨cl2,dd2,dt2,sl2⟩,ho2,hc2,n2,hd2⟩:=pb.isList;simp only at hc hd hc2 hd2;subst hc hd hc2 hd2;refine wpAny_richCompare_same_room (op:=.Eq) ⟨_,ho,rfl⟩ ⟨_,ho2,rfl⟩ Sv (ny Sv ⟨_,ho,rfl⟩ F.entry_list_eq (F.args_list_eq_2 _ _) (KY sz) ⟨⟨⟨_,_,_,ho⟩,⟨_,_,_,ho2⟩,el⟩,?_⟩) .(f);exact⟨(fun x=>nomatch x),.bl ah,H,I,rfl,q⟩
theorem NC (hu:X.A.units+66<cy):CmpD Γ X .Eq u9:=⟨_,Qm (Γ:=Γ) hu,fun {G H v u x y z} gh r1 r2 h Q k=>by
 unfold u9 at h;split at h
 .split at h
  .rename_i hal;cases h;exact⟨G,_,_,gh,r1,r2,hal,k _ G H (.refl gh) (.bl _)⟩
  .cases h
 .cases h⟩
end
section
open PyProof
noncomputable def mM:D->ar D
 |.fdk kvs=>(iN (kvs.map (·.2))).bind fun ns=>if ns=[] then ab else aa (.int (jQ ns))
 |_=>ab
theorem Jd (hc:X.calm=ah):eE X (.builtin "max") (fun xs H Q=>∃(q d:av) (us:ac (Key×V)) (ns:ac ag),xs=[.ref q]/\H q=aa (.ext fun h=>h.IsValuesView q d)/\Rd H d (.dK us)/\us.map (·.2)=ns.map V.int/\ns≠[]/\Q (.int (jQ ns)) H):=by
 intro pins s σ H xs vs Q I r h;obtain⟨q,d,us,ns,rfl,hq,hd,ei,e0,q2⟩:=h;obtain⟨u,rfl,ru⟩:=fu r;cases ru;obtain⟨z,md,va,qa,da⟩:=gO I.hok hd;obtain⟨ep,hat⟩:=da.dictAt;have hview:s.heap.IsValuesView q d:=(I.hok q _ hq).1;refine call_max_walk (wpAny_pyIter_values hview hat ?_);obtain⟨od,_,_,hod,_⟩:=id da;have ne:d≠s.heap.objs.size:=qB (qv hod);have hln:us.length=ns.length:=by simpa using cJ gm ei
 have hlv:va.length=ns.length:=by rw[←qa.length,hln]
 have hP:∀(i:al) v,(∃k,va[i]?=aa (k,v))->∃t,v=.int (ns.getD i 0) t:=fun i v ⟨k,hv⟩=>by
  obtain⟨kv,h1,h2⟩:=Km qa hv;have h3:(us.map (·.2))[i]?=aa kv.2:=by rw[ql,h1];rfl
  rw[ei,ql] at h3;obtain⟨n,h4,h5⟩:=oMd h3;rw[←h5] at h2;rw[kX,h4];exact h2
 refine⟨s.heap.objs.size,_,_,_,_,_,btG ns,rfl,Walks.dictValues (knd:=cP X.prog X.w) (A:=X.A.in1) (show X.A.in1.handled=ab from I.ok.hd hc) s.heap.objs.size d ne va ep,⟨⟨_,qF _ rfl,rfl,rfl⟩,hat.at' fun o q=>qu _ q⟩,fun b hb=>?_,?_,CmpOf.ints_gt (fun i=>ns.getD i 0) hP,fun v h' tk pv hk=>?_⟩
 .rw[lS];simp only[qK,qI,or_false] at hb;rcases hb with z|z
  .rw[z];exact rZ _
  .rw[z];exact sH (qv hod)
 .rw[hlv];exact sN.mpr e0
 .obtain⟨t,rfl⟩:=hP _ _ pv;refine⟨.int (jQ ns),H,I.kept fun b o z=>hk b o ?_ (qu _ z),?_,q2⟩
  .intro z';have:b=s.heap.objs.size:=by simpa using z'
   exact bK (qv z) (by rw[this];exact kL _)
  .unfold jQ;rw[hlv];exact⟨t,rfl⟩
theorem IT (hc:X.calm=ah) (hg:Gl X "max") (hm:X.mg "max"=ab) (ho:DE Γ X o fo) (hbase:ig o "values" X.env (eval o X.env)=eval o X.env:=by rfl) (hline:(apos.endLine==cpos.line)=ah:=by rfl)
  (he:a8 [.Call (.Attribute o "values" apos) [] [] cpos] X.env=(ao,eval (.Call (.Attribute o "values" apos) [] [] cpos) X.env)::a8 [] X.env:=by rfl) (hpl:(cN pos (a8 [] X.env)).any (·.1)=ao:=by rfl) :
  DE Γ X (.Call (.Name "max" p) [.Call (.Attribute o "values" apos) [] [] cpos] [] pos) (b1 mM fo):=⟨(tF (Jd hc) hg hm (by rfl) (jx (Nk ho.1 hbase hline) jw he) .(h) .(h) he hpl).imp fun σ H Q=>by
 rintro⟨G₀,H₀,G,ρ,d,A,h,k⟩;unfold b1 at h;obtain⟨x,hx,h⟩:=oBd h;refine⟨G₀,H₀,G,ρ,x,A,hx,fun v G1 H1 s1 r1=>?_⟩;unfold mM at h;split at h
 .obtain⟨ns,hn,h⟩:=oBd h;split at h
  .cases h
  .rename_i hne;cases h;cases r1 with
   |fdk h1 h2 h3=>
    rename_i kvs ad oo us;refine⟨_,rfl,.inl ⟨_,.inr ⟨_,s1.gh _ _ h1⟩⟩,_,_,rfl,rfl,.inr ⟨_,s1.gh _ _ h1⟩,fun q hq=>?_⟩;have s2:=Step.newOwn (o:=.ext fun h=>h.IsValuesView q ad) s1.gh hq;exact⟨q,ad,us,ns,rfl,ca,.inr ⟨_,s2.hh _ _ (s1.gh _ _ h1)⟩,tY h3 hn,hne,k _ _ _ (s1.trans s2) (.int _)⟩
 .cases h⟩
end
theorem P1 (us:ac Value):us=(cV us.length).map fun i=>us.getD i .none:=by
 apply List.ext_getElem
 .simp
 .intro i h1 h2;simp[kX,qC h1]
theorem bn {F:Value->Value->Value->ar av->Value->Value->nj} (h:∀a b c d e f (v:al->Value),kP (F a b c d e f) ⟨(cV ps.length).map v,[]⟩=bG (ps.zip ((cV ps.length).map v))) (a b c:Value) (d:ar av) (e f:Value) (us:ac Value) (hl:us.length=ps.length) :
  kP (F a b c d e f) ⟨us,[]⟩=bG (ps.zip us):=by
 have:=h a b c d e f fun i=>us.getD i .none;rw[←hl,←P1 us] at this;exact this
section
open PyProof
noncomputable def pQ:FQ
 |[.lst l]=>(iN l).map fun ns=>.int ns.sum
 |_=>ab
theorem HE (hc:X.calm=ah):eE X (.builtin "sum") (fun xs H Q=>∃(a:av) (ns:ac ag),xs=[.ref a]/\H a=aa (.lst (ns.map V.int))/\Q (.int ns.sum) H):=by
 intro pins s σ H xs us Q I r h;obtain⟨a,ns,rfl,ha,q2⟩:=h;obtain⟨u,rfl,ru⟩:=fu r;cases ru;obtain⟨its,rv,pl,_⟩:=I.list (.inl (.inl ha));have hi:j1 its ns:=G8 rv;obtain⟨xs,e⟩:=hi.allInts.items;have hl:=pl.isList;rw[e] at hl;refine sum_intListG (I.ok.hd hc) hl fun h' tk t' hk=>?_;have en:preSum (numAt xs) xs.size=ns.sum:=by rw[preSum_eq,sy (by simp),←nums_intItems,←e,show its.toArray.toList=its from rfl,hi.numsOf]
 rw[en];exact⟨.int ns.sum,H,I.kept fun b o z=>hk b o z,⟨t',rfl⟩,q2⟩
theorem DK (hc:X.calm=ah):BltD Γ X "sum" pQ:=⟨_,HE hc,fun {G H vs ds z} gh r h Q k=>by
 unfold pQ at h;split at h
 .obtain⟨ns,hn,h⟩:=oMd h;cases h;obtain⟨v,rfl,r1⟩:=r.one;obtain⟨a,us,rfl,ha,ra⟩:=r1.lst_inv;exact⟨a,ns,rfl,by rw[←tY ra hn];exact gh _ _ ha,k _ G H (.refl gh) (.int _)⟩
 .cases h⟩
end
section
open PyProof
end
namespace Law
noncomputable def top (i:al):Stmt:=TY.main.body.getD i (.Pass ⟨0,0,0,0⟩)
noncomputable def Al:ac aj:=["benches","steps","jobs","setups","links","stocks","horizon","bench_by_name","step_by_name","setup_by_names","job_by_step"]
noncomputable def Gam (C_Shop:av):Cn:=⟨fun c=>if c="Shop" then aa C_Shop else ab,ab⟩
noncomputable def dY:FQ:=a6 0
  (ax (sIf (toB (b2 ltD (vSh 1) (cF b9 .(ai)))) (aE (b2 ixD (vSh 0) (vSh 1))) aK) (aE .(e)))
noncomputable def dZ:FQ:=a6 4
  (ax (aJ 3 (b2 dF (cF tN .(ai)) .(j))) (ax (dU 4 (szF ak)) (ax (bW (itE (vSh 2)) (b6 2 .(au)) (sIf (orT (toB (b2 eqD (b2 bF (vSh 0) .(j)) .(d))) (toB (b2 eqD (vSh 3) .(e)))) .(W) (ax (dj 4 (b2 bF (vSh 3) (vSh 6))) (aJ 3 (b2 dF (vSh 3) (vSh 6)))))) (eQ 4 (aE (vSh 4))))))
noncomputable def tJ:FQ:=a6 6
  (ax (dU 2 (szF ak)) (ax (aJ 3 .(e)) (ax (bW (itF (vSh 0)) (b6 2 .(av)) (ax (aJ 6 (b2 aX (vSh 3) (vSh 4))) (ax (aJ 7 (b2 aX (b2 aX (vSh 6) .(d)) (vSh 5))) .(ay)))) (eQ 2 (aE (vSh 2))))))
noncomputable def ga:FQ:=a6 1
  (ax (aJ 1 (b2 ixD (vC (.str "abcdefghijklmnopqrstuvwxyz")) (b2 bF (vSh 0) (vC (.int 26))))) (aE (b2 aX (vSh 1) (b2 cY (b2 ixD (vC (.str "qrstuvw")) (b2 dF (vSh 0) (vC (.int 26)))) (b2 bF (vSh 0) .(l))))))
noncomputable def yb:FQ:=a6 5
  (ax (dU 2 (szF ak)) (ax (bW (itE (vSh 0)) (b6 2 (aT (aA 3) (aT (aA 4) bZ))) (ax (aJ 5 (cF dZ (ae (vSh 4) (ae (vSh 3) (ae (aI (szF (ae .(l) (ae (vC (.int 5)) (ae .(i) (ae (vC (.int 7)) (ae .(l) (ae (vC (.int 9)) (ae (vC (.int 5)) ak))))))))) ak))))) .(U))) (eQ 2 (aE (vSh 2)))))
noncomputable def wx:FQ:=a6 5
  (ax (dU 4 (szF ak)) (ax (bW (itE (vSh 0)) (b6 2 .(au)) (ax (aJ 7 (cF dZ .(ae))) .(C))) (eQ 4 (aE (vSh 4)))))
noncomputable def x5:FQ:=a6 8
  (ax (dU 3 (szF ak)) (ax (aJ 4 (aI (aZ (itF (vSh 1)) (aA 0) tT .(q) [ab]))) (ax (bW (itE (vSh 0)) (b6 2 .(au)) .(T)) (eQ 3 (aE (vSh 3))))))
noncomputable def yI:FQ:=a6 5
  (ax (dU 3 (szF ak)) (ax (bW (itE (cF dZ (ae (vSh 0) (ae .(i) (ae (b2 cY (aI (szF (ae .(l) ak))) (vC (.int 6))) ak))))) (b6 2 .(av)) .(I)) (eQ 3 (aE (vSh 3)))))
noncomputable def yR:FQ:=a6 5
  (ax (dU 3 (szF ak)) (ax (aJ 4 (cF dZ (ae (vSh 0) (ae (vC (.int 5)) (ae (aI (szF (ae .(i) (ae (vC (.int 9)) (ae (vC (.int 9)) (ae .(l) (ae (vC (.int 9)) (ae (vC (.int 9)) (ae .(l) ak))))))))) ak))))) (ax (bW (itR gq (ae (b2 ixD (vSh 4) .(e)) ak)) (aA 5) .(A)) (eQ 3 (aE (vSh 3))))))
noncomputable def xP:FQ:=a6 6
  (ax (aJ 2 (cF dZ (ae (vSh 0) (ae (vC (.int 9)) (ae (aI (szF (ae .(i) (ae .(l) (ae (vC (.int 5)) (ae (vC (.int 8)) (ae (vC (.int 8)) (ae .(l) (ae .(l) ak))))))))) ak))))) (ax (dU 3 (szF ak)) (ax (bW (itR gq (ae (b2 ixD (vSh 2) .(e)) ak)) (aA 4) .(L)) (eQ 3 (aE (vSh 3))))))
noncomputable def xA:FQ:=a6 6
  (ax (aJ 4 (cF yb (ae (aI (aZ (itR gq (ae (b2 aX .(d) (b2 bF (cF dY (ae (vSh 0) (ae .(e) ak))) .(i))) ak)) (aA 0) tT (cF dY (ae (vSh 1) (ae (b2 aX .(d) (vSh 0)) ak))) [ab,aa 0])) .(S)))) (ax (aJ 5 (cF wx (ae (aI (aZ (itR gq .(K)) (aA 0) tT (cF dY (ae (vSh 1) (ae (b2 aX .(l) (vSh 0)) ak))) [ab,aa 0])) (ae (vSh 4) (ae (vSh 2) .(aC)))))) (ax (aJ 6 (cF x5 (ae (aI (aZ (itR gq (ae .(i) ak)) (aA 0) tT (cF dY (ae (vSh 1) (ae (b2 aX (vC (.int 14)) (vSh 0)) ak))) [ab,aa 0])) (ae (vSh 5) .(S))))) (ax (aJ 7 (cF yI (ae (cF dY (ae (vSh 0) (ae (vC (.int 17)) ak))) (ae (vSh 4) .(S))))) (ax (aJ 8 (cF yR (ae (cF dY (ae (vSh 0) (ae (vC (.int 18)) ak))) (ae (vSh 5) .(S))))) (ax (aJ 9 (cF xP (ae (cF dY (ae (vSh 0) (ae (vC (.int 19)) ak))) (ae (vSh 5) ak)))) (aE (aI (szF (ae (vSh 4) (ae (vSh 5) (ae (vSh 6) (ae (vSh 7) (ae (vSh 8) (ae (vSh 9) .(S))))))))))))))))
noncomputable def ug:FQ:=a6 0
  (aE (cO (cF dO (ae (vSh 0) (ae (vC (.ty "int")) ak))) (tp (cF dO (ae (vSh 0) (ae (vC (.ty "bool")) ak))))))
noncomputable def gS:FQ:=a6 0
  (aE (cO (cF ug .(ai)) (chD leD leD (vSh 1) (vSh 0) (vSh 2))))
noncomputable def f9:FQ:=a6 0
  (aE (cO (cF dO (ae (vSh 0) (ae (vC (.ty "tuple")) ak))) (b2 eqD (cF b9 .(ai)) (vSh 1))))
noncomputable def u0:FQ:=a6 0
  (ax (sIf (orT (bD (toB (cF f9 (ae (vSh 0) (ae .(j) ak))))) (orT (bD (toB (cF gS (ae .(q) (ae .(e) .(K)))))) (bD (toB (cF gS (ae .(ah) (ae .(e) .(K)))))))) .(o) aK) (aE (b2 ltD .(q) .(ah))))
noncomputable def g0:FQ:=a6 0
  (aE (cO (cF dO (ae (vSh 0) (ae (vC (.ty "list")) ak))) (chD leD leD (vSh 1) (cF b9 .(ai)) (vSh 2))))
noncomputable def xc:FQ:=a6 0
  (ax (sIf (orT (bD (toB (cF g0 (ae (vSh 0) (ae .(e) (ae (vC (.int 10)) ak)))))) (bD (toB (cF fK (ae (aI (aZ (itF (vSh 0)) (aA 0) tT (cF u0 (ae (vSh 0) .(K))) [ab,aa 1])) ak))))) .(o) aK) (aE (cF fK (ae (aI (aZ (itR ly (ae .(d) (ae (cF b9 .(ai)) ak))) (aA 0) tT (b2 ltD (b2 ixD (b2 ixD (vSh 1) (b2 ic (vSh 0) .(d))) .(d)) (b2 ixD (b2 ixD (vSh 1) (vSh 0)) .(e))) [ab,aa 0])) ak))))
noncomputable def jR:FQ:=a6 0
  (ax (sIf (orT (bD (toB (cF dO (ae (vSh 0) (ae (vC (.ty "str")) ak))))) (bD (toB (chD leD leD .(d) (cF b9 .(ai)) (vC (.int 8)))))) .(o) aK) (aE (cF fK (ae (aI (aZ (itS (vSh 0)) (aA 0) tT (chD leD leD (vC (.str "a")) (vSh 0) (vC (.str "z"))) [ab])) ak))))
noncomputable def vg:FQ:=a6 0
  (aE (cO (cF f9 (ae (vSh 0) (ae .(j) ak))) (cO (cF jR (ae .(q) ak)) (cF xc (ae .(ah) .(K))))))
noncomputable def fQ:FQ:=a6 0
  (aE (b2 eqD (b1 n9 (vSh 0)) (cF b9 .(ai))))
noncomputable def xw:FQ:=a6 0
  (ax (sIf (orT (bD (toB (cF g0 (ae (vSh 0) (ae .(d) (ae (vC (.int 8)) ak)))))) (bD (toB (cF fK (ae (aI (aZ (itF (vSh 0)) (aA 0) tT (cF vg (ae (vSh 0) .(K))) [ab,aa 1])) ak))))) .(o) aK) (aE (cF fQ .(aj))))
noncomputable def j9:FQ:=a6 0
  (aE (cO (cF jR .(ai)) (b2 fz (vSh 0) (vSh 1))))
noncomputable def ux:FQ:=a6 0
  (aE (cO (cF f9 (ae (vSh 0) (ae .(j) ak))) (cO (cF j9 (ae .(q) .(K))) (cF gS (ae .(ah) (ae .(d) .(S)))))))
noncomputable def ya:FQ:=a6 0
  (ax (sIf (orT (bD (toB (cF g0 (ae (vSh 0) (ae .(d) (ae .(l) ak)))))) (bD (toB (cF fK (ae (aI (aZ (itF (vSh 0)) (aA 0) tT (cF ux (ae (vSh 0) (ae (vSh 1) .(S)))) [ab,aa 1,aa 2])) ak))))) .(o) aK) (aE (cF fQ .(aj))))
noncomputable def uF:FQ:=a6 0
  (ax (sIf (orT (bD (toB (cF f9 (ae (vSh 0) (ae .(i) ak))))) (orT (bD (toB (cF jR (ae .(q) ak)))) (bD (toB (cF jR (ae .(ah) ak)))))) .(o) aK) (aE (cF ya (ae (b2 ixD (vSh 0) .(j)) (ae (vSh 1) .(S))))))
noncomputable def yH:FQ:=a6 0
  (ax (sIf (orT (bD (toB (cF g0 (ae (vSh 0) (ae .(d) (ae (vC (.int 40)) ak)))))) (bD (toB (cF fK (ae (aI (aZ (itF (vSh 0)) (aA 0) tT (cF uF (ae (vSh 0) (ae (vSh 1) .(S)))) [ab,aa 1,aa 2])) ak))))) .(o) aK) (aE (cF fQ .(aj))))
noncomputable def xt:FQ:=a6 0
  (ax (sIf (orT (bD (toB (cF f9 (ae (vSh 0) (ae (vC (.int 5)) ak))))) (orT (bD (toB (cF jR (ae .(q) ak)))) (bD (toB (cF dO (ae (b2 ixD (vSh 0) .(i)) (ae (vC (.ty "bool")) ak))))))) .(o) aK) (ax (sIf (orT (bD (toB (cF gS (ae .(ah) (ae .(e) .(S)))))) (bD (toB (cF gS (ae (b2 ixD (vSh 0) .(j)) (ae .(e) .(S))))))) .(o) aK) (aE (cO (cF g0 (ae (b2 ixD (vSh 0) .(l)) (ae .(d) (ae (cF b9 .(K)) ak)))) (cF fK (ae (aI (aZ (itF (b2 ixD (vSh 0) .(l))) (aA 0) tT (cF j9 (ae (vSh 0) .(K))) [ab,aa 1])) ak))))))
noncomputable def w8:FQ:=a6 2
  (ax (sIf (orT (bD (toB (cF g0 (ae (vSh 0) (ae .(e) (ae (vC (.int 40)) ak)))))) (bD (toB (cF fK (ae (aI (aZ (itF (vSh 0)) (aA 0) tT (cF xt (ae (vSh 0) (ae (vSh 1) .(S)))) [ab,aa 1,aa 2])) ak))))) .(o) aK) (ax (dU 3 (szF ak)) (ax (bW (itF (vSh 0)) (aA 4) (i4 3 (b2 ixD (vSh 4) .(l)))) (eQ 3 (aE (cO (cF fQ .(aj)) (cF fQ .(aC))))))))
noncomputable def tq:FQ:=a6 0
  (ax (sIf (orT (bD (toB (cF f9 (ae (vSh 0) (ae .(l) ak))))) (bD (toB (cF j9 (ae .(q) .(K)))))) .(o) aK) (aE (cO (cF jR (ae .(ah) ak)) (cO (cF jR (ae (b2 ixD (vSh 0) .(j)) ak)) (cF gS (ae (b2 ixD (vSh 0) .(i)) (ae .(d) .(S))))))))
noncomputable def xp:FQ:=a6 0
  (ax (sIf (orT (bD (toB (cF g0 (ae (vSh 0) (ae .(e) (ae (vC (.int 100)) ak)))))) (bD (toB (cF fK (ae (aI (aZ (itF (vSh 0)) (aA 0) tT (cF tq (ae (vSh 0) (ae (vSh 1) .(S)))) [ab,aa 1,aa 2])) ak))))) .(o) aK) (aE (cF fQ (ae (aI (aZ (itF (vSh 0)) (aA 0) tT (slF (vSh 0) pN (pS .(i))) [ab])) ak))))
noncomputable def uG:FQ:=a6 0
  (ax (sIf (orT (bD (toB (cF f9 (ae (vSh 0) (ae .(i) ak))))) (orT (bD (toB (cF j9 (ae .(q) .(K))))) (bD (toB (cF j9 (ae .(ah) .(K))))))) .(o) aK) (aE (cO (b2 neA .(q) .(ah)) (cF gS (ae (b2 ixD (vSh 0) .(j)) (ae .(e) .(S)))))))
noncomputable def v7:FQ:=a6 0
  (ax (sIf (orT (bD (toB (cF g0 (ae (vSh 0) (ae .(e) (ae (vC (.int 100)) ak)))))) (bD (toB (cF fK (ae (aI (aZ (itF (vSh 0)) (aA 0) tT (cF uG (ae (vSh 0) (ae (vSh 1) .(S)))) [ab,aa 1,aa 2])) ak))))) .(o) aK) (aE (cF fQ (ae (aI (aZ (itF (vSh 0)) (aA 0) tT (slF (vSh 0) pN (pS .(j))) [ab])) ak))))
noncomputable def ur:FQ:=a6 0
  (aE (cO (cF f9 (ae (vSh 0) (ae .(j) ak))) (cO (cF j9 (ae .(q) .(K))) (cF gS (ae .(ah) (ae .(d) (ae (vC (.int 1000000)) ak)))))))
noncomputable def tw:FQ:=a6 0
  (ax (sIf (orT (bD (toB (cF g0 (ae (vSh 0) (ae .(e) (ae (cF b9 .(K)) ak)))))) (bD (toB (cF fK (ae (aI (aZ (itF (vSh 0)) (aA 0) tT (cF ur (ae (vSh 0) .(K))) [ab,aa 1])) ak))))) .(o) aK) (aE (cF fQ .(aj))))
noncomputable def sU:FQ:=a6 0
  (ax (sIf (orT (bD (toB (cF f9 (ae (vSh 0) (ae (vC (.int 5)) ak))))) (bD (toB (cF jR (ae .(q) ak))))) .(o) aK) (ax (sIf (orT (bD (toB (cF gS (ae (b2 ixD (vSh 0) .(j)) (ae .(e) (ae (vC (.int 1000000)) ak)))))) (bD (toB (cF gS (ae .(ah) (ae .(e) (ae (b2 ixD (vSh 0) .(j)) ak))))))) .(o) aK) (aE (cO (cF tw (ae (b2 ixD (vSh 0) .(i)) .(K))) (cF tw (ae (b2 ixD (vSh 0) .(l)) .(K)))))))
noncomputable def yE:FQ:=a6 0
  (ax (sIf (orT (bD (toB (cF g0 (ae (vSh 0) (ae .(e) (ae (vC (.int 6)) ak)))))) (bD (toB (cF fK (ae (aI (aZ (itF (vSh 0)) (aA 0) tT (cF sU (ae (vSh 0) .(K))) [ab,aa 1])) ak))))) .(o) aK) (aE (cF fQ .(aj))))
noncomputable def wk:FQ:=a6 2
  (ax (sIf (bD (toB (cF gS (ae (vSh 6) (ae .(d) (ae (vC (.int 1000000)) ak)))))) (aE (vC (.str "horizon"))) aK) (ax (sIf (bD (toB (cF xw (ae (vSh 0) (ae (vSh 6) ak))))) (aE (vC (.str "benches"))) aK) (ax (aJ 7 (aI (aZ (itF (vSh 0)) (aA 0) tT .(q) [ab]))) (ax (sIf (bD (toB (cF yH (ae (vSh 1) (ae (vSh 7) (ae (vSh 6) ak)))))) (aE (vC (.str "steps"))) aK) (ax (aJ 8 (aI (aZ (itF (vSh 1)) (aA 0) tT .(q) [ab]))) (ax (sIf (bD (toB (cF w8 (ae (vSh 2) (ae (vSh 8) (ae (vSh 6) ak)))))) (aE (vC (.str "jobs"))) aK) (ax (sIf (bD (toB (cF xp (ae (vSh 3) (ae (vSh 7) (ae (vSh 6) ak)))))) (aE (vC (.str "setups"))) aK) (ax (sIf (bD (toB (cF v7 (ae (vSh 4) (ae (vSh 8) (ae (vSh 6) ak)))))) (aE (vC (.str "links"))) aK) (ax (sIf (bD (toB (cF yE (ae (vSh 5) (ae (vSh 8) ak))))) (aE (vC (.str "stocks"))) aK) (aE (vC .non)))))))))))
noncomputable def jy (eR:FQ):FQ:=a6 0
  (ax (sIf (toB (cF dO (ae (vSh 0) (ae (vC (.ty "list")) ak)))) (aE (aI (aZ (itF (vSh 0)) (aA 0) tT (cF eR .(ai)) [ab]))) aK) (ax (sIf (toB (cF dO (ae (vSh 0) (ae (vC (.ty "tuple")) ak)))) (aE (cF yD (ae (aI (aZ (itF (vSh 0)) (aA 0) tT (cF eR .(ai)) [ab])) ak))) aK) (aE (vSh 0))))
noncomputable def jJ:al->FQ
 |0=>fun _=>ab
 |n+1=>jy (jJ n)
noncomputable def eR:FQ:=jJ 8
noncomputable def wS:FQ:=nL 3 "Shop"
  (ax (aJ 8 (cF wk (ae (vSh 1) (ae (vSh 2) (ae (vSh 3) (ae (vSh 4) (ae (vSh 5) (ae (vSh 6) (ae (vSh 7) ak))))))))) (ax (sIf (toB (b2 jM (vSh 8) (vC .non))) sNo aK) (ax (gP "Shop" "benches" 0 (cF eR .(K))) (ax (gP "Shop" "steps" 0 (cF eR .(S))) (ax (gP "Shop" "jobs" 0 (cF eR .(aC))) (ax (gP "Shop" "setups" 0 (cF eR (ae (vSh 4) ak))) (ax (gP "Shop" "links" 0 (cF eR (ae (vSh 5) ak))) (ax (gP "Shop" "stocks" 0 (cF eR (ae (vSh 6) ak))) (ax (gP "Shop" "horizon" 0 (vSh 7)) (ax (gP "Shop" "bench_by_name" 0 (cF eZ (ae (aI (aZ (itF (jO "Shop" "benches" 0)) (aA 0) tT (bc (szF (ae .(q) .(ai)))) [ab])) ak))) (ax (gP "Shop" "step_by_name" 0 (cF eZ (ae (aI (aZ (itF (jO "Shop" "steps" 0)) (aA 0) tT (bc (szF (ae .(q) .(ai)))) [ab])) ak))) (ax (gP "Shop" "setup_by_names" 0 (cF uu (ae (aI (aZ (itF (jO "Shop" "setups" 0)) (aA 0) tT (bc (szF (ae (slF (vSh 0) pN (pS .(i))) (ae (b2 ixD (vSh 0) .(i)) ak)))) [ab])) ak))) (ax (nX "Shop" "job_by_step" 0) (bW (itF (jO "Shop" "jobs" 0)) (aA 9) (bW (itF (b2 ixD (vSh 9) .(l))) (aA 10) (jB "Shop" "job_by_step" 0 (vSh 10) (vSh 9)))))))))))))))))
noncomputable def wD:FQ:=a6 0
  (aE (cF wS (ae .(q) (ae .(ah) (ae (b2 ixD (vSh 0) .(j)) (ae (b2 ixD (vSh 0) .(i)) (ae (b2 ixD (vSh 0) .(l)) (ae (b2 ixD (vSh 0) (vC (.int 5))) (ae (b2 ixD (vSh 0) (vC (.int 6))) ak)))))))))
noncomputable def mK:FQ:=a6 6
  (ax (ve 2) (ax (bW (itF (b2 ixD (vSh 1) .(d))) (b6 3 (aT (aA 3) .(av))) (sIf (toB (b2 fR (vSh 3) (vSh 0))) (ax (eJ (b6 2 (aT (aA 6) (aT (aA 7) bZ))) (b2 aO (vSh 0) (vSh 3))) (fm 2 (vSh 3) (b2 aX (vSh 7) (b2 aO (cF eZ (ae (vSh 5) ak)) (vSh 6))))) aK)) (jc 2 (aE (vSh 2)))))
noncomputable def um:FQ:=a6 6
  (ax (aJ 3 .(e)) (ax (bW (itF (b2 ixD (vSh 0) .(l))) (b6 3 (aT (aA 4) .(au))) (sIf (cQ (toB (b2 eqA (vSh 5) (vSh 2))) (toB (b2 fR (vSh 4) (vSh 1)))) (aJ 3 (cF iE (ae (vSh 3) (ae (b2 aX (b2 aO (vSh 1) (vSh 4)) (vSh 6)) ak)))) aK)) (ax (bW (itF (b2 ixD (vSh 0) .(j))) (aA 7) .(aq)) (aE (vSh 3)))))
noncomputable def uX:FQ:=a6 1
  (ax (bW (itF (b2 ixD (vSh 2) .(j))) (aA 4) (sIf (toB (b2 fz (vSh 3) (b2 ixD (vSh 4) .(l)))) (sIf (orT (toB (b2 ltD (b2 ixD (b2 aO (vSh 0) (vSh 3)) .(d)) (b2 ixD (vSh 4) .(d)))) (toB (b2 gtD .(ab) (b2 ixD (vSh 4) .(j))))) (aE (vC (.bl ah))) aK) aK)) .(o))
noncomputable def sS:FQ:=a6 2
  (ax (bW (itF (b2 aO (cF eZ (ae (b2 ixD (vSh 2) .(e)) ak)) (b2 ixD (b2 aO (vSh 0) (vSh 3)) .(e)))) (b6 2 .(av)) (sIf (cQ (toB (b2 ltD (b2 ixD (b2 aO (vSh 0) (vSh 3)) .(d)) (vSh 5))) (toB (b2 ltD (vSh 4) .(ab)))) (aE (vC (.bl ah))) aK)) .(o))
noncomputable def t7:FQ:=a6 2
  (ax (aJ 4 (cF eZ (ae (aI (aZ (itF .(ah)) (aA 0) tT (bc (szF (ae .(q) (ae .(ah) ak)))) [ab])) ak))) (ax (bW (itF (b2 ixD (vSh 0) .(i))) (aA 5) (sIf (toB (b2 eqA (slF (vSh 5) pN (pS .(i))) (bc (szF (ae (vSh 1) (ae (b2 aO (vSh 4) (vSh 2)) (ae (b2 aO (vSh 4) (vSh 3)) ak))))))) (aE (b2 ixD (vSh 5) .(i))) aK)) (aE .(e))))
noncomputable def p7:FQ:=a6 5
  (ax (eJ (b6 2 .(au)) (b2 aO (vSh 0) (vSh 3))) (ax (sIf (toB (b2 neA (vSh 5) (b2 ixD (b2 aO (vSh 0) (vSh 4)) .(e)))) .(o) aK) (ax (rT 7 8 (ae (vSh 3) (ae (vSh 4) ak))) (ax (sIf (toB (b2 ltD (b2 ixD (b2 aO (vSh 0) (vSh 4)) .(d)) (vSh 6))) (rT 7 8 (ae (vSh 4) .(aC))) aK) (ax (aJ 9 (b2 aX (b2 aO (vSh 1) (vSh 7)) (cF t7 (ae (vSh 2) (ae (vSh 5) (ae (vSh 7) (ae (vSh 8) ak))))))) (aE (orD (b2 eqA (b2 ixD (b2 aO (vSh 0) (vSh 7)) .(d)) (b2 ixD (b2 aO (vSh 0) (vSh 8)) .(d))) (b2 ltD (b2 ixD (b2 aO (vSh 0) (vSh 8)) .(d)) (vSh 9)))))))))
noncomputable def rO:FQ:=a6 0
  (aE (cO (b2 ltD (b2 ixD (b2 aO (vSh 0) (vSh 2)) .(d)) .(ab)) (b2 ltD (b2 ixD (b2 aO (vSh 0) (vSh 3)) .(d)) (b2 aO (vSh 1) (vSh 2)))))
noncomputable def na:FQ:=a6 1
  (ax (sIf (toB (cF p7 (ae (vSh 0) (ae (vSh 1) (ae (vSh 2) (ae (vSh 3) (ae (vSh 4) ak))))))) .(o) aK) (ax (bW (itF (b2 ixD (vSh 2) .(j))) (aA 5) (sIf (cQ (toB (b2 fz (vSh 3) (b2 ixD (vSh 5) .(l)))) (toB (b2 fz (vSh 4) (b2 ixD (vSh 5) .(l))))) (sIf (toB (cF rO (ae (vSh 0) (ae (vSh 1) (ae (vSh 3) (ae (vSh 4) ak)))))) .(o) aK) aK)) (aE (vC (.bl ah)))))
noncomputable def yh:FQ:=a6 2
  (ax (aJ 3 (cF mK (ae (vSh 0) .(K)))) (ax (sIf (orT (toB (b2 gtD (b2 aO (vSh 3) (vSh 2)) (b2 ixD (vSh 1) (vC (.int 6))))) (orT (toB (cF sS (ae (vSh 0) (ae (vSh 3) (ae (vSh 1) .(S)))))) (toB (cF uX (ae (vSh 0) (ae (vSh 3) (ae (vSh 1) .(S)))))))) .(o) aK) (ax (bW (itK (vSh 0)) (aA 4) (sIf (toB (b2 neA (vSh 4) (vSh 2))) (sIf (bD (toB (cF na (ae (vSh 0) (ae (vSh 3) (ae (vSh 1) (ae (vSh 2) (ae (vSh 4) ak)))))))) .(o) aK) aK)) (aE (vC (.bl ah))))))
noncomputable def sZ:ac D->ar (ac (Key×D)):=nS 4
  (ax (bW (itF (b2 ixD (vSh 2) .(j))) (b6 2 .(av)) (bW (itR ly (ae (vSh 3) (ae (cF io (ae (b2 ixD (vSh 1) (vC (.int 6))) (ae (b2 aX (vSh 3) (vC (.int 40))) ak))) ak))) (aA 6) (ax (oA 7 (vSh 0)) (ax (fm 7 (b2 ixD (vSh 2) .(e)) (bc (szF (ae (vSh 4) (ae (vSh 6) ak))))) (sIf (yB 7 (toB (cF yh (ae (vSh 7) (ae (vSh 1) (ae (b2 ixD (vSh 2) .(e)) ak)))))) (oa 7) aK))))) (ax (oA 7 (vSh 0)) (ax (fm 7 (b2 ixD (vSh 2) .(e)) (bc (szF (ae (b2 ixD (b2 ixD (b2 ixD (vSh 2) .(j)) .(e)) .(e)) .(aC))))) (oa 7))))
noncomputable def rn:ac D->ar (ac (Key×D)):=nS 3
  (ax (ve 1) (ax (bW (itF .(ah)) (aA 2) (jc 1 (ax (aJ 3 (cF um (ae (vSh 0) (ae (cF mK (ae (vSh 1) .(ai))) (ae (b2 ixD (vSh 2) .(e)) ak))))) (lw 1 sZ (ae (vSh 1) (ae (vSh 0) (ae (vSh 2) .(aC)))))))) (oa 1)))
noncomputable def wc:FQ:=a6 5
  (ax (lw 3 rn .(S)) (ax (aJ 4 (cF dZ (ae (cF dY (ae (vSh 0) .(K))) (ae .(i) (ae (aI (szF (ae .(l) (ae (cF b9 (ae (b2 ixD (vSh 2) .(d)) ak)) (ae (vC (.int 9)) (ae .(i) (ae (cF b9 (ae (b2 ixD (vSh 2) .(e)) ak)) (ae .(l) ak)))))))) ak))))) (ax (eJ (b6 3 (aT (aA 5) (aT (aA 6) (aT (aA 7) bZ)))) (b2 ixD (b2 ixD (vSh 2) .(d)) (b2 ixD (vSh 4) .(d)))) (ax (sIf (toB (b2 eqD (b2 ixD (vSh 4) .(e)) .(d))) (fm 3 (vSh 5) (bc (szF (ae (b2 ixD (gQ 3 (vSh 5)) .(e)) (ae (b2 ic (b2 aX (b2 ixD (gQ 3 (vSh 5)) .(d)) (b2 ixD (vSh 4) .(j))) .(i)) ak))))) aK) (ax (sIf (toB (b2 eqD (b2 ixD (vSh 4) .(e)) .(j))) (fm 3 (vSh 5) (bc (szF (ae (b2 ixD (b2 ixD (vSh 7) (b1 uj .(d))) .(e)) (ae (b2 ixD (gQ 3 (vSh 5)) .(d)) ak))))) aK) (ax (sIf (toB (b2 eqD (b2 ixD (vSh 4) .(e)) .(i))) (fm 3 (vSh 5) (bc (szF (ae (b2 ixD (aI (szF (ae .(Z) (ae (vC (.str "zz")) ak)))) (b2 bF (b2 ixD (vSh 4) .(j)) .(j))) (ae (b2 ixD (gQ 3 (vSh 5)) .(d)) ak))))) aK) (ax (sIf (toB (b2 eqD (b2 ixD (vSh 4) .(i)) .(d))) (tW 3 (vSh 5)) aK) (ax (sIf (toB (b2 eqD (b2 ixD (vSh 4) (vC (.int 5))) .(d))) (fm 3 (vC (.str "zz")) (bc (szF (ae .(Z) (ae (b2 ixD (vSh 4) .(j)) ak))))) aK) (jc 3 (aE (vSh 3)))))))))))
noncomputable def rQ:FQ:=a6 4
  (ax (aJ 3 (cF eZ (ae (aI (aZ (itF (b2 ixD (vSh 1) .(d))) (aA 0) tT (bc (szF (ae .(q) (ae (cF eZ (ae (b2 ixD (vSh 0) .(j)) ak)) ak)))) [ab])) ak))) (ax (bW (itK (vSh 0)) (aA 4) (ax (eJ (b6 2 .(au)) (b2 aO (vSh 0) (vSh 4))) (sIf (cQ (toB (b2 ltD (vSh 6) (vSh 2))) (orT (toB (b2 ltD (vSh 6) .(e))) (toB (b2 mB (vSh 5) (b3 jd (vSh 3) (vSh 4) (vC (.fdk []))))))) .(o) aK))) (aE (vC (.bl ah)))))
noncomputable def uT:FQ:=a6 8
  (ax (oA 3 (vSh 0)) (ax (bW (itR gq (ae (b2 bF (vSh 2) .(i)) ak)) (aA 4) .(w)) (jc 3 (aE (vSh 3)))))
noncomputable def gD:FQ:=a6 0
  (aE (aI (aZ (itF (gn "Shop" "steps" (vSh 0))) (aA 0) tT .(q) [ab])))
noncomputable def wX:FQ:=a6 3
  (ax (aJ 2 .(P)) (ax (bW (itF (vSh 2)) (aA 3) (sIf (toB (b2 mB (vSh 3) (vSh 1))) (aE (bc (szF (ae (vC (.str "step")) .(aC))))) aK)) (ax (aJ 4 (aI (aZ (itK (vSh 1)) (aA 0) (toB (b2 dX (vSh 0) (vSh 1))) (vSh 0) [ab,aa 2]))) (ax (sIf (toB (b2 gtD (cF b9 (ae (vSh 4) ak)) .(e))) (aE (bc (szF (ae (vC (.str "step")) (ae (cF xU (ae (vSh 4) ak)) ak))))) aK) (aE (vC .non))))))
noncomputable def sQ:FQ:=a6 0
  (aE (cF eR (ae (b2 ixD (b2 aO (gn "Shop" "step_by_name" (vSh 0)) (vSh 1)) .(j)) ak)))
noncomputable def mH:FQ:=a6 2
  (ax (bW (itF (cS "Shop" "ways_of" sQ (vSh 0) .(K))) (b6 2 (aT (aA 3) (aT (aA 4) bZ))) (sIf (toB (b2 eqA (vSh 3) (vSh 2))) (aE (vSh 4)) aK)) (aE (vC .non)))
noncomputable def uH:FQ:=a6 0
  (aE (gn "Shop" "horizon" (vSh 0)))
noncomputable def yv:FQ:=a6 3
  (ax (bW (itF .(P)) (aA 2) (ax (aJ 3 (b2 ixD (b2 aO (vSh 1) (vSh 2)) .(d))) (ax (aJ 4 (cF mH (ae (vSh 0) (ae (vSh 2) (ae (b2 ixD (b2 aO (vSh 1) (vSh 2)) .(e)) ak))))) (sIf (orT (toB (b2 isD (vSh 4) (vC .non))) (orT (toB (b2 ltD (vSh 3) .(e))) (toB (b2 gtD (b2 aX (vSh 3) (vSh 4)) (cS "Shop" "last_moment" uH (vSh 0) ak))))) (aE (bc (szF (ae (vC (.str "way")) .(S))))) aK)))) (aE (vC .non)))
noncomputable def mW:FQ:=a6 3
  (ax (ve 2) (ax (bW (itF .(P)) (aA 3) (ax (aJ 4 .(ab)) (fm 2 (vSh 3) (b2 aX (b2 ixD (vSh 4) .(d)) (cF mH (ae (vSh 0) (ae (vSh 3) (ae (b2 ixD (vSh 4) .(e)) ak)))))))) (jc 2 (aE (vSh 2)))))
noncomputable def xN:FQ:=a6 0
  (aE (cF eR (ae (b2 yt (gn "Shop" "job_by_step" (vSh 0)) (vSh 1)) ak)))
noncomputable def xf:FQ:=a6 2
  (ax (bW (itF .(P)) (aA 3) (ax (aJ 4 (cS "Shop" "job_of" xN (vSh 0) .(aC))) (sIf (cQ (toB (b2 jM (vSh 4) (vC .non))) (orT (toB (b2 ltD (b2 ixD .(ab) .(d)) (b2 ixD (vSh 4) .(d)))) (toB (b2 gtD (b2 aO (vSh 2) (vSh 3)) (b2 ixD (vSh 4) .(j)))))) (aE (bc (szF (ae (vC (.str "job")) .(aC))))) aK))) (aE (vC .non)))
noncomputable def ww:FQ:=a6 0
  (aE (cF eR (ae (b2 ixD (b2 aO (gn "Shop" "bench_by_name" (vSh 0)) (vSh 1)) .(d)) ak)))
noncomputable def xr:FQ:=a6 3
  (ax (bW (itF .(P)) (aA 3) (ax (aJ 4 (b2 ixD .(ab) .(d))) (ax (aJ 5 (cS "Shop" "breaks_of" ww (vSh 0) (ae (b2 ixD .(ab) .(e)) ak))) (sIf (toB (cF jD (ae (aI (aZ (itF (vSh 5)) (b6 2 (aT (aA 0) (aT (aA 1) bZ))) tT (cO (b2 ltD (vSh 2) (vSh 1)) (b2 ltD (vSh 0) (b2 aO (vSh 3) (vSh 4)))) [ab,ab,aa 4,aa 2,aa 3])) ak))) (aE (bc (szF (ae (vC (.str "break")) .(aC))))) aK)))) (aE (vC .non)))
noncomputable def vh:FQ:=a6 3
  (ax (dU 1 (szF ak)) (ax (bW (itE (vSh 0)) (b6 2 (aT (aA 2) (aT (aA 3) bZ))) (i4 1 (aI (aZ (itF (slF (vSh 0) (pS (b2 aX (vSh 2) .(d))) pN)) (aA 0) tT (bc (szF (ae (vSh 1) .(ai)))) [ab,aa 3])))) (eQ 1 (aE (vSh 1)))))
noncomputable def ui:FQ:=a6 0
  (aE (b3 jd (gn "Shop" "setup_by_names" (vSh 0)) (bc (szF (ae (vSh 1) (ae (vSh 2) .(aC))))) .(e)))
noncomputable def oU:FQ:=a6 0
  (aE (b2 ixD (b2 aO (gn "Shop" "step_by_name" (vSh 0)) (vSh 1)) .(d)))
noncomputable def uD:FQ:=a6 3
  (ax (aJ 5 (vSh 3)) (ax (aJ 6 (vSh 4)) (ax (sIf (toB (b2 ltD (b2 ixD (b2 aO (vSh 1) (vSh 4)) .(d)) (b2 ixD .(ab) .(d)))) (ax (aJ 5 (vSh 4)) (aJ 6 (vSh 3))) aK) (ax (aJ 7 (cS "Shop" "setup_of" ui (vSh 0) (ae (b2 ixD .(ab) .(e)) (ae (cS "Shop" "kind_of" oU (vSh 0) (ae (vSh 5) ak)) (ae (cS "Shop" "kind_of" oU (vSh 0) (ae (vSh 6) ak)) ak))))) (aE (b2 ltD (b2 ixD (b2 aO (vSh 1) (vSh 6)) .(d)) (b2 aX (b2 aO (vSh 2) (vSh 5)) (vSh 7))))))))
noncomputable def wl:FQ:=a6 2
  (ax (bW (itF (cF vh (ae .(P) ak))) (b6 2 (aT (aA 3) (aT (aA 4) bZ))) (sIf (cQ (toB (b2 eqA (b2 ixD .(ab) .(e)) (b2 ixD (b2 aO (vSh 1) (vSh 4)) .(e)))) (toB (cF uD (ae (vSh 0) (ae (vSh 1) (ae (vSh 2) (ae (vSh 3) (ae (vSh 4) ak)))))))) (aE (bc (szF (ae (vC (.str "bench")) (ae (vSh 3) (ae (vSh 4) ak)))))) aK)) (aE (vC .non)))
noncomputable def wu:FQ:=a6 0
  (aE (cF eR (ae (gn "Shop" "jobs" (vSh 0)) ak)))
noncomputable def yi:FQ:=a6 5
  (ax (bW (itF (cS "Shop" "job_rows" wu (vSh 0) ak)) (aA 3) (bW (itF (cF vh (ae (b2 ixD (vSh 3) .(l)) ak))) (b6 2 .(av)) (ax (aJ 6 (b2 geD (b2 ixD (b2 aO (vSh 1) (vSh 5)) .(d)) (b2 aO (vSh 2) (vSh 4)))) .(ar)))) (aE (vC .non)))
noncomputable def xO:FQ:=a6 0
  (aE (cF eR (ae (gn "Shop" "links" (vSh 0)) ak)))
noncomputable def xy:FQ:=a6 3
  (ax (bW (itF (cS "Shop" "link_rows" xO (vSh 0) ak)) (b6 3 (aT (aA 3) .(av))) (sIf (toB (b2 ltD (b2 ixD (b2 aO (vSh 1) (vSh 4)) .(d)) (b2 aX (b2 aO (vSh 2) (vSh 3)) (vSh 5)))) (aE (bc (szF (ae (vC (.str "link")) (ae (vSh 3) (ae (vSh 4) ak)))))) aK)) (aE (vC .non)))
noncomputable def wR:FQ:=a6 0
  (aE (cF eR (ae (gn "Shop" "stocks" (vSh 0)) ak)))
noncomputable def uZ:FQ:=a6 2
  (ax (aJ 4 (cF pQ (ae (aI (aZ (itF (b2 ixD (vSh 0) .(i))) (b6 2 (aT (aA 0) (aT (aA 1) bZ))) (toB (b2 leD (b2 ixD (b2 aO (vSh 3) (vSh 0)) .(d)) (vSh 2))) (vSh 1) [ab,ab,aa 3,aa 1])) ak))) (ax (aJ 5 (cF pQ (ae (aI (aZ (itF (b2 ixD (vSh 0) .(l))) (b6 2 (aT (aA 0) (aT (aA 1) bZ))) (toB (b2 leD (b2 aO (vSh 3) (vSh 0)) (vSh 2))) (vSh 1) [ab,ab,aa 3,aa 2])) ak))) (aE (b2 aX (b2 ic .(ah) (vSh 4)) (vSh 5)))))
noncomputable def wE:FQ:=a6 3
  (ax (bW (itF (cS "Shop" "stock_rows" wR (vSh 0) ak)) (aA 3) (ax (dU 4 (aZ (itF (b2 ixD (vSh 3) .(i))) (aA 0) tT (b2 ixD (b2 aO (vSh 1) .(q)) .(d)) [ab,aa 1])) (ax (i4 4 (aI (aZ (itF (b2 ixD (vSh 3) .(l))) (aA 0) tT (b2 aO (vSh 1) .(q)) [ab,aa 2]))) (eQ 4 (bW (itF (b1 xx (vSh 4))) (aA 5) (sIf (bD (toB (chD leD leD .(e) (cF uZ (ae (vSh 3) (ae (vSh 1) (ae (vSh 2) (ae (vSh 5) ak))))) (b2 ixD (vSh 3) .(j))))) (aE (bc (szF (ae (vC (.str "stock")) (ae (b2 ixD (vSh 3) .(e)) (ae (vSh 5) ak)))))) aK)))))) (aE (vC .non)))
noncomputable def iV:FQ:=a6 2
  (ax (aJ 2 (cF wX (ae (vSh 0) .(K)))) (ax (sIf (toB (b2 isD (vSh 2) (vC .non))) (aJ 2 (cF yv (ae (vSh 0) .(K)))) aK) (ax (sIf (toB (b2 jM (vSh 2) (vC .non))) (aE (vSh 2)) aK) (ax (aJ 3 (cF mW (ae (vSh 0) .(K)))) (ax (aJ 2 (cF xf (ae (vSh 0) (ae (vSh 1) .(aC))))) (ax (sIf (toB (b2 isD (vSh 2) (vC .non))) (aJ 2 (cF xr (ae (vSh 0) (ae (vSh 1) .(aC))))) aK) (ax (sIf (toB (b2 isD (vSh 2) (vC .non))) (aJ 2 (cF wl (ae (vSh 0) (ae (vSh 1) .(aC))))) aK) (ax (sIf (toB (b2 isD (vSh 2) (vC .non))) (aJ 2 (cF yi (ae (vSh 0) (ae (vSh 1) .(aC))))) aK) (ax (sIf (toB (b2 isD (vSh 2) (vC .non))) (aJ 2 (cF xy (ae (vSh 0) (ae (vSh 1) .(aC))))) aK) (ax (sIf (toB (b2 isD (vSh 2) (vC .non))) (aJ 2 (cF wE (ae (vSh 0) (ae (vSh 1) .(aC))))) aK) (aE (vSh 2))))))))))))
noncomputable def wY:FQ:=a6 2
  (ax (sIf (toB (b2 jM (cF iV (ae (vSh 0) (ae (vSh 5) ak))) (vC .non))) .(o) aK) (ax (aJ 6 (cF mK (ae (vSh 5) .(K)))) (ax (bW (itK (vSh 5)) (aA 7) .(X)) (aE (vC (.bl ah))))))
noncomputable def ut:FQ:=a6 5
  (ax (aJ 3 .(P)) (ax (aJ 4 (aI (aZ (itK (vSh 1)) (aA 0) (toB (b2 ltD (b2 ixD (b2 aO (vSh 2) (vSh 0)) .(d)) (vSh 1))) (vSh 0) [ab,aa 2,aa 1]))) (ax (aJ 5 (aI (aZ (itF (vSh 4)) (aA 0) (toB (b2 dX (vSh 0) (vSh 1))) (vSh 0) [ab,aa 3]))) (ax (sIf (toB (b2 gtD (cF b9 (ae (vSh 5) ak)) .(e))) sNo aK) (ax (aJ 6 (aI (aZ (itF (vSh 3)) (aA 0) (toB (b2 fz (vSh 0) (vSh 1))) (vSh 0) [ab,aa 4]))) (ax (bW (itF (vSh 6)) (aA 7) (sIf (orT (toB (b2 ltD (b2 ixD (b2 aO (vSh 1) (vSh 7)) .(d)) .(e))) (toB (b2 isD (cF mH (ae (vSh 0) (ae (vSh 7) (ae (b2 ixD (b2 aO (vSh 1) (vSh 7)) .(e)) ak)))) (vC .non)))) sNo aK)) (aE (vSh 6))))))))
noncomputable def tM:FQ:=a6 2
  (ax (aJ 5 (cF ut (ae (vSh 0) (ae (vSh 1) .(S))))) (ax (sIf (toB (b2 jM (cF iV (ae (vSh 0) (ae (vSh 4) ak))) (vC .non))) .(o) aK) .(E)))
noncomputable def yu:FQ:=a6 0
  (aE (aI (aZ (itF .(P)) (aA 0) (cQ (toB (b2 fR (vSh 0) (vSh 1))) (toB (b2 dX (vSh 0) (vSh 2)))) (vSh 0) [ab,aa 1,aa 2])))
noncomputable def wC:FQ:=a6 1
  (ax (aJ 4 (cF ut (ae (vSh 0) (ae (vSh 1) .(S))))) (aE (aI (aZ (itF (cF yu (ae (vSh 0) (ae (vSh 1) (ae (vSh 4) ak))))) (aA 0) (toB (b2 neA (b2 aO (vSh 1) (vSh 0)) (b2 aO (vSh 2) (vSh 0)))) (vSh 0) [ab,aa 3,aa 1]))))
noncomputable def ox:FQ:=a6 4
  (ax (aJ 6 (aI (szF (ae (cF tI .(S)) (ae (cF tI (ae (vSh 5) ak)) ak))))) (ax (aJ 7 (cF wY (ae (vSh 0) (ae (vSh 1) (ae (vSh 2) (ae (vSh 3) (ae (vSh 4) (ae (vSh 5) ak)))))))) (ax (aJ 8 (cF tM (ae (vSh 0) (ae (b2 ixD (vSh 6) .(e)) (ae (vSh 3) (ae (vSh 4) (ae (b2 ixD (vSh 6) .(d)) ak))))))) (ax (sIf (orT (bD (toB (cF dO (ae (vSh 8) (ae (vC (.ty "bool")) ak))))) (toB (b2 neA (vSh 8) (vSh 7)))) .(o) aK) (ax (aJ 9 (aI (aZ (itF (b2 ixD (vSh 1) .(d))) (aA 0) (toB (b2 fR .(q) (vSh 1))) .(q) [ab,aa 2]))) (ax (aJ 9 (aI (aZ (itF (vSh 9)) (aA 0) (toB (b2 geD (b2 ixD (b2 aO (vSh 2) (vSh 0)) .(d)) (vSh 1))) (vSh 0) [ab,aa 3,aa 2]))) (ax (aJ 7 (aI (aZ (itF (vSh 9)) (aA 0) (toB (b2 neA (b2 aO (vSh 1) (vSh 0)) (b2 aO (vSh 2) (vSh 0)))) (vSh 0) [ab,aa 5,aa 2]))) (aE (cO (b2 eqA (cF wC (ae (vSh 0) (ae (b2 ixD (vSh 6) .(e)) (ae (vSh 3) (ae (b2 ixD (vSh 6) .(d)) ak))))) (vSh 7)) (b2 u9 (vSh 6) (aI (szF (ae (vSh 2) (ae (vSh 5) ak))))))))))))))
noncomputable abbrev Ad:FS:=
  (ax (aJ 1 (b2 aX (vC (.int 8)) (b2 bF (cF dY (ae (vSh 0) (ae (vC (.int 20)) ak))) (vC (.int 33))))) (ax (aJ 2 (cF xA (ae (vSh 0) (ae (b2 aX .(d) (b2 bF (cF dY (ae (vSh 0) (ae (vC (.int 22)) ak))) (vC (.int 6)))) (ae (vSh 1) (ae (vC (.int 5)) ak)))))) (ax (aJ 3 (cF wD .(S))) (ax (aJ 4 (cF wc (ae (vSh 0) (ae (vC (.int 23)) .(S))))) (ax (aJ 5 (b2 bF (cF dY (ae (vSh 0) (ae (vC (.int 24)) ak))) (b2 aX (vSh 1) .(d)))) (ax (lw 6 rn .(S)) (jc 6 (ax (sIf (bD (toB (cF rQ (ae (vSh 4) (ae (vSh 2) (ae (vSh 5) ak)))))) (aJ 4 (vSh 6)) aK) (ax (bW (itF (b2 aX (aI (szF (ae .(e) (ae (cF dY (ae (vSh 0) (ae (vC (.int 25)) ak))) ak)))) (slF (vSh 0) (pS (vC (.int 26))) (pS (vC (.int 55)))))) (aA 7) .(H)) (aE (vC (.bl ah))))))))))))
noncomputable def BD:FQ:=a6 9 Ad
end Law
set_option maxHeartbeats 4000000
variable {C_Shop:av} {xs:ac D} {body:FS} {ρ' ρ1:bi} {sn:ac aj} {br:ac (ag×ag)} {ws E:ac (aj×ag)} {cs:ac ag} {q:aj×ag} {B:FT} {en now lim:ag} {L:D}
namespace Law
theorem MB:FnScope ["_law_script","_law_k"] ["_law_script","_law_k"] (aS (top 70)):=bx
theorem ky:FnScope ["_law_cell_here","_law_k","_law_sizes","_law_number","_law_found","_law_turn","_law_size"] ["_law_cell_here","_law_k","_law_sizes"] (aS (top 71)):=bx
theorem lh:FnScope ["_law_row","_law_horizon","_law_found","_law_free","_law_begin","_law_size","_law_low_here","_law_high"] ["_law_row","_law_horizon"] (aS (top 73)):=bx
theorem El:FnScope ["_law_k","_law_letter"] ["_law_k"] (aS (top 72)):=bx
theorem o3:FnScope ["_law_cells","_law_horizon","_law_found","_law_k","_law_cell_here","_law_row","_law_spans_here"] ["_law_cells","_law_horizon"] (aS (top 74)):=bx
theorem oR:FnScope ["_law_cells","_law_benches_here","_law_horizon","_law_longest","_law_found","_law_k","_law_cell_here","_law_row","_law_ways"] ["_law_cells","_law_benches_here","_law_horizon","_law_longest"] (aS (top 75)):=bx
theorem i6:FnScope ["_law_cells","_law_steps_here","_law_horizon","_law_found","_law_left","_law_k","_law_cell_here","_law_row","_law_some","_law_early","_law_due"] ["_law_cells","_law_steps_here","_law_horizon"] (aS (top 76)):=bx
theorem nV:FnScope ["_law_cell_here","_law_benches_here","_law_horizon","_law_found","_law_k","_law_many","_law_bench","_law_row"] ["_law_cell_here","_law_benches_here","_law_horizon"] (aS (top 77)):=bx
theorem nZ:FnScope ["_law_cell_here","_law_steps_here","_law_horizon","_law_found","_law_row","_law_k","_law_one","_law_other"] ["_law_cell_here","_law_steps_here","_law_horizon"] (aS (top 78)):=bx
theorem mV:FnScope ["_law_cell_here","_law_steps_here","_law_row","_law_found","_law_k","_law_room","_law_takes","_law_puts"] ["_law_cell_here","_law_steps_here"] (aS (top 79)):=bx
theorem mx:FnScope ["_law_script","_law_many","_law_horizon","_law_longest","_law_benches_here","_law_steps_here","_law_jobs_here","_law_setups_here","_law_links_here","_law_stocks_here"] ["_law_script","_law_many","_law_horizon","_law_longest"] (aS (top 80)):=bx
theorem P9:FnScope ["thing"] ["thing"] (aS (top 23)):=bx
theorem JB:FnScope ["thing","least","most"] ["thing","least","most"] (aS (top 26)):=bx
theorem Hl:FnScope ["thing","many"] ["thing","many"] (aS (top 28)):=bx
theorem Nt:FnScope ["row","horizon"] ["row","horizon"] (aS (top 47)):=bx
theorem NY:FnScope ["thing","least","most"] ["thing","least","most"] (aS (top 27)):=bx
theorem LG:FnScope ["breaks","horizon"] ["breaks","horizon"] (aS (top 48)):=bx
theorem OJ:FnScope ["thing"] ["thing"] (aS (top 24)):=bx
theorem KF:FnScope ["row","horizon"] ["row","horizon"] (aS (top 49)):=bx
theorem Ni:FnScope ["things"] ["things"] (aS (top 30)):=bx
theorem Ie:FnScope ["benches","horizon"] ["benches","horizon"] (aS (top 50)):=bx
theorem KC:FnScope ["thing","names"] ["thing","names"] (aS (top 29)):=bx
theorem Qz:FnScope ["row","bench_names","horizon"] ["row","bench_names","horizon"] (aS (top 51)):=bx
theorem Ix:FnScope ["ways","bench_names","horizon"] ["ways","bench_names","horizon"] (aS (top 52)):=bx
theorem Ls:FnScope ["row","bench_names","horizon"] ["row","bench_names","horizon"] (aS (top 53)):=bx
theorem K':FnScope ["steps","bench_names","horizon"] ["steps","bench_names","horizon"] (aS (top 54)):=bx
theorem LR:FnScope ["row","step_names","horizon"] ["row","step_names","horizon"] (aS (top 55)):=bx
theorem yG:FnScope ["jobs","step_names","horizon","members","row"] ["jobs","step_names","horizon"] (aS (top 56)):=bx
theorem IC:FnScope ["row","bench_names","horizon"] ["row","bench_names","horizon"] (aS (top 57)):=bx
theorem Jl:FnScope ["setups","bench_names","horizon"] ["setups","bench_names","horizon"] (aS (top 58)):=bx
theorem Lv:FnScope ["row","step_names","horizon"] ["row","step_names","horizon"] (aS (top 59)):=bx
theorem Mb:FnScope ["links","step_names","horizon"] ["links","step_names","horizon"] (aS (top 60)):=bx
theorem HZ:FnScope ["row","step_names"] ["row","step_names"] (aS (top 61)):=bx
theorem Gk:FnScope ["rows","step_names"] ["rows","step_names"] (aS (top 62)):=bx
theorem Li:FnScope ["row","step_names"] ["row","step_names"] (aS (top 63)):=bx
theorem Ht:FnScope ["stocks","step_names"] ["stocks","step_names"] (aS (top 64)):=bx
theorem wH:FnScope ["benches","steps","jobs","setups","links","stocks","horizon","bench_names","step_names"] ["benches","steps","jobs","setups","links","stocks","horizon"] (aS (top 65)):=bx
theorem NL:FnScope ["thing"] ["thing"] (aS (top 67)):=bx
theorem vf:FnScope ["self","benches","steps","jobs","setups","links","stocks","horizon","part","row","step"] ["self","benches","steps","jobs","setups","links","stocks","horizon"] (aS (eh (top 68) 0)):=bx
theorem Pf:FnScope ["_law_lists_here"] ["_law_lists_here"] (aS (top 81)):=bx
theorem mC:FnScope ["_law_plan","_law_lists_here","_law_ends_here","_law_name_here","_law_kind","_law_ways","_law_bench","_law_start"] ["_law_plan","_law_lists_here"] (aS (top 82)):=bx
theorem kq:FnScope ["_law_lists_here","_law_ends_here","_law_step","_law_low_here","_law_one","_law_other","_law_gap","_law_job","_law_name_here"] ["_law_lists_here","_law_ends_here","_law_step"] (aS (top 91)):=bx
theorem Ea:FnScope ["_law_plan","_law_ends_here","_law_lists_here","_law_one","_law_job"] ["_law_plan","_law_ends_here","_law_lists_here","_law_one"] (aS (top 88)):=bx
theorem xk:FnScope ["_law_plan","_law_ends_here","_law_lists_here","_law_one","_law_low_here","_law_high"] ["_law_plan","_law_ends_here","_law_lists_here","_law_one"] (aS (top 87)):=bx
theorem wo:FnScope ["_law_lists_here","_law_bench","_law_early","_law_late","_law_kinds","_law_row"] ["_law_lists_here","_law_bench","_law_early","_law_late"] (aS (top 84)):=bx
theorem nQ:FnScope ["_law_plan","_law_ends_here","_law_lists_here","_law_one","_law_other","_law_bench","_law_start","_law_early","_law_late","_law_free"] ["_law_plan","_law_ends_here","_law_lists_here","_law_one","_law_other"] (aS (top 85)):=bx
theorem Gp:FnScope ["_law_plan","_law_ends_here","_law_one","_law_other"] ["_law_plan","_law_ends_here","_law_one","_law_other"] (aS (top 83)):=bx
theorem BR:FnScope ["_law_plan","_law_ends_here","_law_lists_here","_law_one","_law_other","_law_job"] ["_law_plan","_law_ends_here","_law_lists_here","_law_one","_law_other"] (aS (top 86)):=bx
theorem xK:FnScope ["_law_plan","_law_lists_here","_law_one","_law_ends_here","_law_other"] ["_law_plan","_law_lists_here","_law_one"] (aS (top 89)):=bx
theorem nT:FnScope ["_law_plan","_law_lists_here","_law_step","_law_low_here","_law_bench","_law_length","_law_start","_law_made"] ["_law_plan","_law_lists_here","_law_step","_law_low_here"] (aS (top 90)):=bx
theorem rG:FnScope ["_law_lists_here","_law_plan","_law_step","_law_low_here"] ["_law_lists_here"] (aS (top 92)):=bx
theorem ot:FnScope ["_law_script","_law_at","_law_lists_here","_law_plan","_law_row","_law_name_here","_law_kind","_law_ways"] ["_law_script","_law_at","_law_lists_here"] (aS (top 93)):=bx
theorem rB:FnScope ["_law_plan","_law_lists_here","_law_now","_law_ways","_law_name_here","_law_bench","_law_start"] ["_law_plan","_law_lists_here","_law_now"] (aS (top 94)):=bx
theorem jt:FnScope ["_law_plan","_law_lists_here","_law_cell_here","_law_made","_law_turn","_law_row","_law_name_here","_law_kind","_law_ways","_law_bench","_law_start"] ["_law_plan","_law_lists_here","_law_cell_here"] (aS (top 95)):=bx
theorem MS:FnScope ["self"] ["self"] (aS (eh (top 68) 9)):=bx
theorem t4:FnScope ["shop","schedule","names","step","strangers"] ["shop","schedule"] (aS (top 10)):=bx
theorem Qk:FnScope ["self","step"] ["self","step"] (aS (eh (top 68) 10)):=bx
theorem xa:FnScope ["shop","step","bench","way_bench","length"] ["shop","step","bench"] (aS (top 8)):=bx
theorem Kw:FnScope ["self"] ["self"] (aS (eh (top 68) 7)):=bx
theorem uQ:FnScope ["shop","schedule","step","start","length"] ["shop","schedule"] (aS (top 11)):=bx
theorem sX:FnScope ["shop","schedule","ends","step","place"] ["shop","schedule"] (aS (top 9)):=bx
theorem Pi:FnScope ["self","step"] ["self","step"] (aS (eh (top 68) 12)):=bx
theorem wF:FnScope ["shop","schedule","ends","step","job"] ["shop","schedule","ends"] (aS (top 12)):=bx
theorem Lx:FnScope ["self","bench"] ["self","bench"] (aS (eh (top 68) 13)):=bx
theorem uP:FnScope ["shop","schedule","ends","step","start","breaks"] ["shop","schedule","ends"] (aS (top 13)):=bx
theorem uN:FnScope ["things","pairs","place","one"] ["things"] (aS (top 6)):=bx
theorem Qu:FnScope ["self","bench","first","second"] ["self","bench","first","second"] (aS (eh (top 68) 14)):=bx
theorem Jq:FnScope ["self","step"] ["self","step"] (aS (eh (top 68) 11)):=bx
theorem o0:FnScope ["shop","schedule","ends","one","other","earlier","later","setup"] ["shop","schedule","ends","one","other"] (aS (top 14)):=bx
theorem xZ:FnScope ["shop","schedule","ends","one","other"] ["shop","schedule","ends"] (aS (top 15)):=bx
theorem Jy:FnScope ["self"] ["self"] (aS (eh (top 68) 3)):=bx
theorem oe:FnScope ["shop","schedule","ends","job","one","other","told_way","other_way"] ["shop","schedule","ends"] (aS (top 16)):=bx
theorem Le:FnScope ["self"] ["self"] (aS (eh (top 68) 5)):=bx
theorem uO:FnScope ["shop","schedule","ends","one","other","gap"] ["shop","schedule","ends"] (aS (top 17)):=bx
theorem Pb:FnScope ["self"] ["self"] (aS (eh (top 68) 6)):=bx
theorem xH:FnScope ["stock","schedule","ends","moment","taken","put"] ["stock","schedule","ends","moment"] (aS (top 18)):=bx
theorem tS:FnScope ["shop","schedule","ends","stock","moments","moment"] ["shop","schedule","ends"] (aS (top 19)):=bx
theorem jH:FnScope ["shop","schedule","broken","ends"] ["shop","schedule"] (aS (top 20)):=bx
theorem xT:FnScope ["_law_shop_here","_law_lists_here","_law_plan","_law_now","_law_limit","_law_made","_law_ends_here","_law_name_here"] ["_law_shop_here","_law_lists_here","_law_plan","_law_now","_law_limit","_law_made"] (aS (top 96)):=bx
theorem oP:FnScope ["shop","plan","now","names","begun","strangers","told","step"] ["shop","plan","now"] (aS (top 32)):=bx
theorem xL:FnScope ["shop","plan","now","limit","schedule","begun","later"] ["shop","plan","now","limit","schedule"] (aS (top 34)):=bx
theorem IU:FnScope ["shop","plan","begun"] ["shop","plan","begun"] (aS (top 33)):=bx
theorem AD:FnScope ["shop","plan","now","schedule","begun"] ["shop","plan","now","schedule"] (aS (top 35)):=bx
theorem mq:FnScope ["_law_shop_here","_law_lists_here","_law_plan","_law_now","_law_limit","_law_made","_law_handed","_law_due","_law_found","_law_left"] ["_law_shop_here","_law_lists_here","_law_plan","_law_now","_law_limit","_law_made"] (aS (top 97)):=bx
theorem je:FnScope ["_law_script","_law_horizon","_law_lists_here","_law_shop_here","_law_plan","_law_now","_law_whole","_law_cell_here","_law_made","_law_limit"] ["_law_script"] (aS (top 98)):=bx
noncomputable def tkI (mg:aj->ar Value) (x:aj):Tok:=match mg x with|some (.int _ t)=>t|_=>0
theorem tkI_of {h:Heap} {n:ag} {t:Tok} (X:K.In h) (G:h.Ns gd mg) (a:zD K gd x=aa (aa (.int n t))):mg x=aa (.int n (tkI mg x)):=by have q:=zE X G a;rw[q];unfold tkI;rw[q]
structure Vd (K:bu) (mg:aj->ar Value) (C_Shop:av):Prop where
 z_abs:mg "abs"=ab
 z_all:mg "all"=ab
 z_any:mg "any"=ab
 z_bool:mg "bool"=ab
 z_dict:mg "dict"=ab
 z_enumerate:mg "enumerate"=ab
 z_int:mg "int"=ab
 z_isinstance:mg "isinstance"=ab
 z_len:mg "len"=ab
 z_list:mg "list"=ab
 z_max:mg "max"=ab
 z_min:mg "min"=ab
 z_range:mg "range"=ab
 z_set:mg "set"=ab
 z_sorted:mg "sorted"=ab
 z_str:mg "str"=ab
 z_sum:mg "sum"=ab
 z_tuple:mg "tuple"=ab
 k_LONGEST_NAME:mg "LONGEST_NAME"=aa (.int 8 (tkI mg "LONGEST_NAME"))
 k_MOST_AMOUNT:mg "MOST_AMOUNT"=aa (.int 1000000 (tkI mg "MOST_AMOUNT"))
 k_MOST_BENCHES:mg "MOST_BENCHES"=aa (.int 8 (tkI mg "MOST_BENCHES"))
 k_MOST_BREAKS:mg "MOST_BREAKS"=aa (.int 10 (tkI mg "MOST_BREAKS"))
 k_MOST_HORIZON:mg "MOST_HORIZON"=aa (.int 1000000 (tkI mg "MOST_HORIZON"))
 k_MOST_JOBS:mg "MOST_JOBS"=aa (.int 40 (tkI mg "MOST_JOBS"))
 k_MOST_LINKS:mg "MOST_LINKS"=aa (.int 100 (tkI mg "MOST_LINKS"))
 k_MOST_SETUPS:mg "MOST_SETUPS"=aa (.int 100 (tkI mg "MOST_SETUPS"))
 k_MOST_STEPS:mg "MOST_STEPS"=aa (.int 40 (tkI mg "MOST_STEPS"))
 k_MOST_STOCKS:mg "MOST_STOCKS"=aa (.int 6 (tkI mg "MOST_STOCKS"))
 k_MOST_WAYS:mg "MOST_WAYS"=aa (.int 4 (tkI mg "MOST_WAYS"))
 d0:Dfn K mg "_law_cell" (top 70)
 d1:Dfn K mg "_law_digits" (top 71)
 d2:Dfn K mg "_law_spans" (top 73)
 d3:Dfn K mg "_law_name" (top 72)
 d4:Dfn K mg "_law_benches" (top 74)
 d5:Dfn K mg "_law_steps" (top 75)
 d6:Dfn K mg "_law_jobs" (top 76)
 d7:Dfn K mg "_law_setups" (top 77)
 d8:Dfn K mg "_law_links" (top 78)
 d9:Dfn K mg "_law_stocks" (top 79)
 d10:Dfn K mg "_law_lists" (top 80)
 d11:Dfn K mg "is_whole" (top 23)
 d12:Dfn K mg "is_within" (top 26)
 d13:Dfn K mg "is_tuple" (top 28)
 d14:Dfn K mg "is_break" (top 47)
 d15:Dfn K mg "is_list" (top 27)
 d16:Dfn K mg "are_breaks" (top 48)
 d17:Dfn K mg "is_name" (top 24)
 d18:Dfn K mg "is_bench" (top 49)
 d19:Dfn K mg "are_unlike" (top 30)
 d20:Dfn K mg "are_benches" (top 50)
 d21:Dfn K mg "is_one_of" (top 29)
 d22:Dfn K mg "is_way" (top 51)
 d23:Dfn K mg "are_ways" (top 52)
 d24:Dfn K mg "is_step" (top 53)
 d25:Dfn K mg "are_steps" (top 54)
 d26:Dfn K mg "is_job" (top 55)
 d27:Dfn K mg "are_jobs" (top 56)
 d28:Dfn K mg "is_setup" (top 57)
 d29:Dfn K mg "are_setups" (top 58)
 d30:Dfn K mg "is_link" (top 59)
 d31:Dfn K mg "are_links" (top 60)
 d32:Dfn K mg "is_amount" (top 61)
 d33:Dfn K mg "are_amounts" (top 62)
 d34:Dfn K mg "is_stock" (top 63)
 d35:Dfn K mg "are_stocks" (top 64)
 d36:Dfn K mg "first_bad_part" (top 65)
 d37:Dfn K mg "fresh" (top 67)
 d38:DfnM K C_Shop "Shop" "__init__" "Shop.__init__" (eh (top 68) 0)
 d39:Dfn K mg "_law_shop" (top 81)
 d40:Dfn K mg "_law_ends" (top 82)
 d41:Dfn K mg "_law_low" (top 91)
 d42:Dfn K mg "_law_off_job" (top 88)
 d43:Dfn K mg "_law_in_break" (top 87)
 d44:Dfn K mg "_law_wait" (top 84)
 d45:Dfn K mg "_law_near" (top 85)
 d46:Dfn K mg "_law_at_once" (top 83)
 d47:Dfn K mg "_law_pair_stands" (top 86)
 d48:Dfn K mg "_law_fits" (top 89)
 d49:Dfn K mg "_law_put" (top 90)
 d50:Dfn K mg "_law_built" (top 92)
 d51:Dfn K mg "_law_plan_of" (top 93)
 d52:Dfn K mg "_law_begun_there" (top 94)
 d53:Dfn K mg "_law_changed" (top 95)
 d54:DfnM K C_Shop "Shop" "step_names" "Shop.step_names" (eh (top 68) 9)
 d55:Dfn K mg "broken_step" (top 10)
 d56:DfnM K C_Shop "Shop" "ways_of" "Shop.ways_of" (eh (top 68) 10)
 d57:Dfn K mg "length_on" (top 8)
 d58:DfnM K C_Shop "Shop" "last_moment" "Shop.last_moment" (eh (top 68) 7)
 d59:Dfn K mg "broken_way" (top 11)
 d60:Dfn K mg "ends_of" (top 9)
 d61:DfnM K C_Shop "Shop" "job_of" "Shop.job_of" (eh (top 68) 12)
 d62:Dfn K mg "broken_job" (top 12)
 d63:DfnM K C_Shop "Shop" "breaks_of" "Shop.breaks_of" (eh (top 68) 13)
 d64:Dfn K mg "broken_break" (top 13)
 d65:Dfn K mg "pairs_of" (top 6)
 d66:DfnM K C_Shop "Shop" "setup_of" "Shop.setup_of" (eh (top 68) 14)
 d67:DfnM K C_Shop "Shop" "kind_of" "Shop.kind_of" (eh (top 68) 11)
 d68:Dfn K mg "are_too_close" (top 14)
 d69:Dfn K mg "broken_bench" (top 15)
 d70:DfnM K C_Shop "Shop" "job_rows" "Shop.job_rows" (eh (top 68) 3)
 d71:Dfn K mg "broken_apart" (top 16)
 d72:DfnM K C_Shop "Shop" "link_rows" "Shop.link_rows" (eh (top 68) 5)
 d73:Dfn K mg "broken_link" (top 17)
 d74:DfnM K C_Shop "Shop" "stock_rows" "Shop.stock_rows" (eh (top 68) 6)
 d75:Dfn K mg "level_at" (top 18)
 d76:Dfn K mg "broken_stock" (top 19)
 d77:Dfn K mg "first_broken" (top 20)
 d78:Dfn K mg "_law_serves" (top 96)
 d79:Dfn K mg "begun_of" (top 32)
 d80:Dfn K mg "serves_day" (top 34)
 d81:Dfn K mg "left_of" (top 33)
 d82:Dfn K mg "moved_of" (top 35)
 d83:Dfn K mg "_law_asked" (top 97)
structure Vw (K:bu) (mg:aj->ar Value) (C_Shop:av):Prop extends Vd K mg C_Shop where
 O_Shop:ClsOk .(n) K mg "Shop" C_Shop
 cf_Shop:CF .(n) K "Shop" Al
section
variable (V:Vw K mg C_Shop) {P:bV}
include V
theorem iB:Cal .(n) P w K mg base "_law_cell" 2 1 dY:=
 V.d0.cal (k:=0) MB .(c) fun f cdv A outer s H E hr=>
  (aC (bd (bB dG (af 1) (b8 fA rfl V.z_len (by rfl) (ai (af 0) aw)) (bj _)) (aD (aN (aB (af 0) (af 1)))) bh) (aD (aN aq)))
theorem lK:Cal .(n) P w K mg base "_law_digits" 3 1 dZ:=
 V.d1.cal (k:=0) ky .(c) fun f cdv A outer s H E hr=>
  (aC (bz 3 ky.nd (kx (b8 KR rfl V.z_abs (by rfl) (ai (af 0) aw)) aq)) (aC (iU 4 ky.nd (c6 aw)) (aC (cE cL rfl (lF rfl V.z_enumerate (af 2)) (dy (n:=2) rfl (bY (aP 5 ky.nd) (bY (aP 6 ky.nd) dw))) (aD (bd (DW.dt (cW (bB fO (c3 (af 0) aq) aq (bj _)) (dn (bB fO (af 3) aq (bj _))))) (aC (bz 3 ky.nd (ci (c3 (ci (af 3) (af 0)) aq) aq)) (aC (bz 3 ky.nd (ci (af 3) (jK (jK aq (ci (af 1) (af 5))) (ci (af 1) (af 5))))) (aC (bz 3 ky.nd (c3 (jK (af 3) (af 3)) aq)) (aD (jT 4 (c3 (kx (af 3) aq) (af 6))))))) (aC (jT 4 (c3 (af 3) (af 6))) (aD (bz 3 ky.nd (kx (af 3) (af 6)))))))) (ir 4 (aD (aN (af 4)))))))
theorem PM:Cal .(n) P w K mg base "_law_spans" 2 1 tJ:=
 V.d2.cal (k:=0) lh .(c) fun f cdv A outer s H E hr=>
  (aC (iU 2 lh.nd (c6 aw)) (aC (bz 3 lh.nd aq) (aC (cE cL rfl (bH (af 0)) (dy (n:=2) rfl (bY (aP 4 lh.nd) (bY (aP 5 lh.nd) dw))) (aC (bz 6 lh.nd (ci (af 3) (af 4))) (aC (bz 7 lh.nd (ci (ci (af 6) aq) (af 5))) (aD (bd (bB gL (af 7) (af 1) (bj _)) (aC (jT 2 (cM (ai (af 6) (ai (af 7) aw)))) (aD (bz 3 lh.nd (ci (af 7) aq)))) bh))))) (ir 2 (aD (aN (af 2)))))))
theorem tZ:Cal .(n) P w K mg base "_law_name" 1 1 ga:=
 V.d3.cal (k:=0) El .(c) fun f cdv A outer s H E hr=>
  (aC (bz 1 El.nd (aB dA (c3 (af 0) aq))) (aD (aN (ci (af 1) (jK (aB dA (kx (af 0) aq)) (c3 (af 0) aq))))))
theorem Pk:Cal .(n) P w K mg base "_law_benches" 2 2 yb:=
 V.d4.cal (k:=1) o3 .(c) fun f cdv A outer s H E hr=>
  (aC (iU 2 o3.nd (c6 aw)) (aC (cE cL rfl (lF rfl V.z_enumerate (af 0)) (dy (n:=2) rfl (bY (aP 3 o3.nd) (bY (aP 4 o3.nd) dw))) (aC (bz 5 o3.nd (dC (lK V) hr (ai (af 4) (ai (af 3) (ai (DO.de (c6 (ai aq (ai aq (ai aq (ai aq (ai aq (ai aq (ai aq aw))))))))) aw))) ln3)) (aC (bz 6 o3.nd (gz (DO.de (c6 (ai (cM (ai (aB (af 5) aq) (ai (aB (af 5) aq) aw))) (ai (cM (ai (aB (af 5) aq) (ai (aB (af 5) aq) aw))) (ai (cM (ai (aB (af 5) aq) (ai (aB (af 5) aq) aw))) aw))))) gK (fX (aB (af 5) aq)))) (aD (jT 2 (cM (ai (dC (tZ V) hr (ai (ci aq (af 3)) aw) ln1) (ai (dC (PM V) hr (ai (af 6) .(aa)) ln2) aw)))))))) (ir 2 (aD (aN (af 2))))))
theorem Iv:Cal .(n) P w K mg base "_law_steps" 4 2 wx:=
 V.d5.cal (k:=1) oR .(c) fun f cdv A outer s H E hr=>
  (aC (iU 4 oR.nd (c6 aw)) (aC (cE cL rfl (lF rfl V.z_enumerate (af 0)) (dy (n:=2) rfl (bY (aP 5 oR.nd) (bY (aP 6 oR.nd) dw))) (aC (bz 7 oR.nd (dC (lK V) hr (ai (af 6) (ai (ci (af 5) aq) (ai (DO.de (c6 (ai aq (ai (b8 fA rfl V.z_len (by rfl) .(aa)) (ai (af 3) (ai (b8 fA rfl V.z_len (by rfl) .(aa)) (ai (af 3) (ai aq aw)))))))) aw))) ln3)) (aC (iU 8 oR.nd (c6 (ai (cM (ai (aB (aB (af 1) (aB (af 7) aq)) aq) (ai (ci aq (c3 (aB (af 7) aq) (af 2))) aw))) aw))) (aC (bd (DW.dt (hU (bB fO (aB (af 7) aq) aq (bj _)) (ia (bB (iX (fM hr)) (aB (af 7) aq) (aB (af 7) aq) (bj _))))) (aD (jT 8 (cM (ai (aB (aB (af 1) (aB (af 7) aq)) aq) (ai (ci aq (c3 (aB (af 7) aq) (af 2))) aw))))) bh) (ir 8 (aD (jT 4 (cM (ai (dC (tZ V) hr (ai (af 5) aw) ln1) (ai (aB dA (aB (af 7) aq)) (ai (af 8) aw))))))))))) (ir 4 (aD (aN (af 4))))))
theorem GP:Cal .(n) P w K mg base "_law_jobs" 3 2 x5:=
 V.d6.cal (k:=1) i6 .(c) fun f cdv A outer s H E hr=>
  (aC (iU 3 i6.nd (c6 aw)) (aC (iA 4 i6.nd rfl .(m) (FvOk.of (N':=["_law_step"]) (fv:=[ab]) rfl) (bH (af 1)) ⟨fun _ _ _ _ _=>⟨(aP 0 (show(["_law_step"]:ac aj).Nodup by decide +kernel)),cD,.(t)⟩⟩) (aC (cE cL rfl (lF rfl V.z_enumerate (af 0)) (dy (n:=2) rfl (bY (aP 5 i6.nd) (bY (aP 6 i6.nd) dw))) (aC (bz 7 i6.nd (dC (lK V) hr (ai (af 6) (ai (ci (af 5) aq) (ai (DO.de (c6 (ai aq (ai aq (ai aq (ai aq (ai aq (ai aq aw)))))))) aw))) ln3)) (aC (bz 8 i6.nd (gz (af 4) gK (fX (aB (af 7) aq)))) (aC (bz 4 i6.nd (gz (af 4) (fX (aB (af 7) aq)) gK)) (aD (bd (bB (iX (fM hr)) (af 8) (DO.de (c6 aw)) (bj _)) (aC (bz 9 i6.nd (b8 (uA rfl) rfl V.z_min (by rfl) (ai (af 2) (ai (jK (aB (af 7) aq) (hG C4 rfl V.z_int (by rfl) (ai (dM fO (aB (af 7) aq) aq (bj _)) aw))) aw)))) (aC (bz 10 i6.nd (b8 (xm rfl) rfl V.z_max (by rfl) (ai aq (ai (rf (af 2) (jK (aB (af 7) aq) (hG C4 rfl V.z_int (by rfl) (ai (dM fO (aB (af 7) aq) aq (bj _)) aw)))) aw)))) (aC (bz 8 i6.nd (ci (gz (af 8) (fX (c3 (aB (af 7) aq) aq)) gK) (gz (af 8) gK (fX (c3 (aB (af 7) aq) aq))))) (aD (jT 3 (cM (ai (dC (tZ V) hr (ai (ci aq (af 5)) aw) ln1) (ai (af 9) (ai (af 10) (ai (dM fO (aB (af 7) aq) aq (bj _)) (ai (af 8) aw))))))))))) bh)))))) (ir 3 (aD (aN (af 3)))))))
theorem OA:Cal .(n) P w K mg base "_law_setups" 3 2 yI:=
 V.d7.cal (k:=1) nV .(c) fun f cdv A outer s H E hr=>
  (aC (iU 3 nV.nd (c6 aw)) (aC (cE cL rfl (lF rfl V.z_enumerate (dC (lK V) hr (ai (af 0) (ai aq (ai (jK (DO.de (c6 (ai aq aw))) aq) aw))) ln3)) (dy (n:=2) rfl (bY (aP 4 nV.nd) (bY (aP 5 nV.nd) dw))) (aC (bz 6 nV.nd (aB (aB (af 1) (c3 (af 4) (b8 fA rfl V.z_len (by rfl) .(aa)))) aq)) (aC (bz 7 nV.nd (cM (ai (af 6) (ai (aB dA (c3 (af 4) aq)) (ai (aB dA (c3 (ci (af 4) (af 5)) aq)) (ai (b8 (uA rfl) rfl V.z_min (by rfl) (ai (af 2) (ai (af 5) aw))) aw)))))) (aD (bd (Ev 3 (DW.dt (hU (bB lu (af 5) aq (bj _)) (ia (bB (oZ (aV hr)) (gz (af 7) gK (fX aq)) (DO.de (cz rfl .(m) (FvOk.of (N':=["_law_one"]) (fv:=[ab]) rfl) (bH (af 3)) ⟨fun _ _ _ _ _=>⟨(aP 0 (show(["_law_one"]:ac aj).Nodup by decide +kernel)),cD,(gz (af 0) gK (fX aq))⟩⟩)) (by rfl)))))) (aD (jT 3 (af 7))) bh))))) (ir 3 (aD (aN (af 3))))))
theorem Kg:Cal .(n) P w K mg base "_law_links" 3 2 yR:=
 V.d8.cal (k:=1) nZ .(c) fun f cdv A outer s H E hr=>
  (aC (iU 3 nZ.nd (c6 aw)) (aC (bz 4 nZ.nd (dC (lK V) hr (ai (af 0) (ai aq (ai (DO.de (c6 (ai aq (ai aq (ai aq (ai aq (ai aq (ai aq (ai aq aw))))))))) aw))) ln3)) (aC (cE cL rfl (oE rfl V.z_range (ai (aB (af 4) aq) aw)) (aP 5 nZ.nd) (aC (bz 6 nZ.nd (aB (aB (af 1) (c3 (aB (af 4) (ci aq (jK aq (af 5)))) (b8 fA rfl V.z_len (by rfl) .(aa)))) aq)) (aC (bz 7 nZ.nd (aB (aB (af 1) (c3 (aB (af 4) (ci aq (jK aq (af 5)))) (b8 fA rfl V.z_len (by rfl) .(aa)))) aq)) (aD (bd (Ev 3 (DW.dt (hU (bB (iX (fM hr)) (af 6) (af 7) (bj _)) (ia (bB (oZ (aV hr)) (cM (ai (af 6) (ai (af 7) aw))) (DO.de (cz rfl .(m) (FvOk.of (N':=["_law_link"]) (fv:=[ab]) rfl) (bH (af 3)) ⟨fun _ _ _ _ _=>⟨(aP 0 (show(["_law_link"]:ac aj).Nodup by decide +kernel)),cD,(gz (af 0) gK (fX aq))⟩⟩)) (by rfl)))))) (aD (jT 3 (cM (ai (af 6) (ai (af 7) (ai (b8 (uA rfl) rfl V.z_min (by rfl) (ai (af 2) (ai (aB (af 4) (ci aq (jK aq (af 5)))) aw))) aw)))))) bh))))) (ir 3 (aD (aN (af 3)))))))
theorem Kc:Cal .(n) P w K mg base "_law_stocks" 2 2 xP:=
 V.d9.cal (k:=1) mV .(c) fun f cdv A outer s H E hr=>
  (aC (bz 2 mV.nd (dC (lK V) hr (ai (af 0) (ai aq (ai (DO.de (c6 (ai aq (ai aq (ai aq (ai aq (ai aq (ai aq (ai aq aw))))))))) aw))) ln3)) (aC (iU 3 mV.nd (c6 aw)) (aC (cE cL rfl (oE rfl V.z_range (ai (aB (af 2) aq) aw)) (aP 4 mV.nd) (aC (bz 5 mV.nd (ci (aB (af 2) aq) (aB (af 2) aq))) (aC (iA 6 mV.nd rfl .(m) (FvOk.of (N':=["_law_j","_law_step","_law_row","_law_k"]) (fv:=[ab,ab,aa 2,aa 4]) rfl) (lF rfl V.z_enumerate (af 1)) ⟨fun _ _ _ _ _=>⟨(dy (n:=2) rfl (bY (aP 0 .(az)) (bY (aP 1 .(az)) dw))),(gM (bB fO (c3 (kx (ci (aB (af 2) aq) (af 3)) (aB (DO.de (c6 (ai aq (ai aq (ai aq aw))))) (c3 (af 0) aq))) aq) aq (bj _))),(cM (ai (aB (af 1) aq) (ai (ci aq (aB (af 2) aq)) aw)))⟩⟩) (aC (iA 7 mV.nd rfl .(m) (FvOk.of (N':=["_law_j","_law_step","_law_row","_law_k"]) (fv:=[ab,ab,aa 2,aa 4]) rfl) (lF rfl V.z_enumerate (af 1)) ⟨fun _ _ _ _ _=>⟨(dy (n:=2) rfl (bY (aP 0 .(az)) (bY (aP 1 .(az)) dw))),(gM (bB fO (c3 (kx (ci (aB (af 2) aq) (af 3)) (aB (DO.de (c6 (ai aq (ai aq (ai aq aw))))) (c3 (af 0) aq))) aq) aq (bj _))),(cM (ai (aB (af 1) aq) (ai (ci aq (aB (af 2) aq)) aw)))⟩⟩) (aD (jT 3 (cM (ai (dC (tZ V) hr (ai (ci aq (af 4)) aw) ln1) (ai (aB (af 2) aq) (ai (af 5) (ai (af 6) (ai (af 7) aw)))))))))))) (ir 3 (aD (aN (af 3)))))))
theorem On:Cal .(n) P w K mg base "_law_lists" 4 3 xA:=
 V.d10.cal (k:=2) mx .(c) fun f cdv A outer s H E hr=>
  (aC (bz 4 mx.nd (dC (Pk V) hr (ai (DO.de (cz rfl .(m) (FvOk.of (N':=["_law_k","_law_script"]) (fv:=[ab,aa 0]) rfl) (oE rfl V.z_range (ai (ci aq (c3 .(an) aq)) aw)) ⟨fun _ _ _ _ _=>⟨(aP 0 (show(["_law_k","_law_script"]:ac aj).Nodup by decide +kernel)),cD,(dC (iB V) hr (ai (af 1) (ai (ci aq (af 0)) aw)) ln2)⟩⟩)) .(ao)) ln2)) (aC (bz 5 mx.nd (dC (Iv V) hr (ai (DO.de (cz rfl .(m) (FvOk.of (N':=["_law_k","_law_script"]) (fv:=[ab,aa 0]) rfl) (oE rfl V.z_range .(aa)) ⟨fun _ _ _ _ _=>⟨(aP 0 (show(["_law_k","_law_script"]:ac aj).Nodup by decide +kernel)),cD,(dC (iB V) hr (ai (af 1) (ai (ci aq (af 0)) aw)) ln2)⟩⟩)) (ai (af 4) (ai (af 2) (ai (af 3) aw)))) ln4)) (aC (bz 6 mx.nd (dC (GP V) hr (ai (DO.de (cz rfl .(m) (FvOk.of (N':=["_law_k","_law_script"]) (fv:=[ab,aa 0]) rfl) (oE rfl V.z_range (ai aq aw)) ⟨fun _ _ _ _ _=>⟨(aP 0 (show(["_law_k","_law_script"]:ac aj).Nodup by decide +kernel)),cD,(dC (iB V) hr (ai (af 1) (ai (ci aq (af 0)) aw)) ln2)⟩⟩)) (ai (af 5) .(ao))) ln3)) (aC (bz 7 mx.nd (dC (OA V) hr (ai .(an) (ai (af 4) .(ao))) ln3)) (aC (bz 8 mx.nd (dC (Kg V) hr (ai .(an) (ai (af 5) .(ao))) ln3)) (aC (bz 9 mx.nd (dC (Kc V) hr (ai .(an) (ai (af 5) aw)) ln2)) (aD (aN (DO.de (c6 (ai (af 4) (ai (af 5) (ai (af 6) (ai (af 7) (ai (af 8) (ai (af 9) .(ao)))))))))))))))))
theorem NH:Cal .(n) P w K mg base "is_whole" 1 1 ug:=
 V.d11.cal (k:=0) P9 .(c) fun f cdv A outer s H E hr=>
  (aD (aN (eO (b8 ki rfl V.z_isinstance (by rfl) (ai (af 0) (ai (kF rfl V.z_int (by rfl)) aw))) (fJ (MF (b8 ki rfl V.z_isinstance (by rfl) (ai (af 0) (ai (kF rfl V.z_bool (by rfl)) aw))))))))
theorem iW:Cal .(n) P w K mg base "is_within" 3 2 gS:=
 V.d12.cal (k:=1) JB .(c) fun f cdv A outer s H E hr=>
  (aD (aN (eO (dC (NH V) hr (ai (af 0) aw) ln1) (fJ (wy gL gL (af 1) (af 0) (af 2))))))
theorem ko:Cal .(n) P w K mg base "is_tuple" 2 1 f9:=
 V.d13.cal (k:=0) Hl .(c) fun f cdv A outer s H E hr=>
  (aD (aN (eO (b8 ki rfl V.z_isinstance (by rfl) (ai (af 0) (ai (kF rfl V.z_tuple (by rfl)) aw))) (fJ (dM fO (b8 fA rfl V.z_len (by rfl) (ai (af 0) aw)) (af 1) (bj _))))))
theorem OC:Cal .(n) P w K mg base "is_break" 2 3 u0:=
 V.d14.cal (k:=2) Nt .(c) fun f cdv A outer s H E hr=>
  (aC (bd (DW.dt (cW (b7 (bS .(ac))) (cW (b7 (bS (dC (iW V) hr (ai .(t) (ai aq .(aa))) ln3))) (dn (b7 (bS (dC (iW V) hr (ai .(t) (ai aq .(aa))) ln3))))))) .(R) bh) (aD (aN (dM dG .(t) .(t) (bj _)))))
theorem jU:Cal .(n) P w K mg base "is_list" 3 1 g0:=
 V.d15.cal (k:=0) NY .(c) fun f cdv A outer s H E hr=>
  (aD (aN (eO (b8 ki rfl V.z_isinstance (by rfl) (ai (af 0) (ai (kF rfl V.z_list (by rfl)) aw))) (fJ (wy gL gL (af 1) (b8 fA rfl V.z_len (by rfl) (ai (af 0) aw)) (af 2))))))
theorem KD:Cal .(n) P w K mg base "are_breaks" 2 4 xc:=
 V.d16.cal (k:=3) LG .(c) fun f cdv A outer s H E hr=>
  (aC (bd (DW.dt (cW (b7 (bS (dC (jU V) hr (ai (af 0) (ai aq (ai (iD rfl V.k_MOST_BREAKS) aw))) ln3))) (dn (b7 (bS (b8 (ip rfl) rfl V.z_all (by rfl) (ai (DO.de (cz rfl .(m) (FvOk.of (N':=["row","horizon"]) (fv:=[ab,aa 1]) rfl) (bH (af 0)) ⟨fun _ _ _ _ _=>⟨(aP 0 (show(["row","horizon"]:ac aj).Nodup by decide +kernel)),cD,(dC (OC V) hr (ai (af 0) .(aa)) ln2)⟩⟩)) aw))))))) .(R) bh) (aD (aN (b8 (ip rfl) rfl V.z_all (by rfl) (ai (DO.de (cz rfl .(m) (FvOk.of (N':=["place","breaks"]) (fv:=[ab,aa 0]) rfl) (Ay rfl V.z_range (ai aq (ai (b8 fA rfl V.z_len (by rfl) (ai (af 0) aw)) aw))) ⟨fun _ _ _ _ _=>⟨(aP 0 (show(["place","breaks"]:ac aj).Nodup by decide +kernel)),cD,(dM dG (aB (aB (af 1) (rf (af 0) aq)) aq) (aB (aB (af 1) (af 0)) aq) (bj _))⟩⟩)) aw)))))
theorem lm:Cal .(n) P w K mg base "is_name" 1 1 jR:=
 V.d17.cal (k:=0) OJ .(c) fun f cdv A outer s H E hr=>
  (aC (bd (DW.dt (cW (b7 (bS (b8 ki rfl V.z_isinstance (by rfl) (ai (af 0) (ai (kF rfl V.z_str (by rfl)) aw))))) (dn (b7 (Ez gL gL aq (b8 fA rfl V.z_len (by rfl) (ai (af 0) aw)) (iD rfl V.k_LONGEST_NAME)))))) .(R) bh) (aD (aN (b8 (ip rfl) rfl V.z_all (by rfl) (ai (DO.de (cz rfl .(m) (FvOk.of (N':=["sign"]) (fv:=[ab]) rfl) (MT (af 0)) ⟨fun _ _ _ _ _=>⟨(aP 0 (show(["sign"]:ac aj).Nodup by decide +kernel)),cD,(wy gL gL dA (af 0) dA)⟩⟩)) aw)))))
theorem JL:Cal .(n) P w K mg base "is_bench" 2 5 vg:=
 V.d18.cal (k:=4) KF .(c) fun f cdv A outer s H E hr=>
  (aD (aN (eO .(ac) (eO (dC (lm V) hr (ai .(t) aw) ln1) (fJ (dC (KD V) hr (ai .(t) .(aa)) ln2))))))
theorem kI:Cal .(n) P w K mg base "are_unlike" 1 1 fQ:=
 V.d19.cal (k:=0) Ni .(c) fun f cdv A outer s H E hr=>
  (aD (aN (dM fO (JV rfl (aV hr) rfl V.z_len rfl V.z_set (af 0)) (b8 fA rfl V.z_len (by rfl) (ai (af 0) aw)) (bj _))))
theorem Qb:Cal .(n) P w K mg base "are_benches" 2 6 xw:=
 V.d20.cal (k:=5) Ie .(c) fun f cdv A outer s H E hr=>
  (aC (bd (DW.dt (cW (b7 (bS (dC (jU V) hr (ai (af 0) (ai aq (ai (iD rfl V.k_MOST_BENCHES) aw))) ln3))) (dn (b7 (bS (b8 (ip rfl) rfl V.z_all (by rfl) (ai (DO.de (cz rfl .(m) (FvOk.of (N':=["row","horizon"]) (fv:=[ab,aa 1]) rfl) (bH (af 0)) ⟨fun _ _ _ _ _=>⟨(aP 0 (show(["row","horizon"]:ac aj).Nodup by decide +kernel)),cD,(dC (JL V) hr (ai (af 0) .(aa)) ln2)⟩⟩)) aw))))))) .(R) bh) (aD (aN .(g))))
theorem nO:Cal .(n) P w K mg base "is_one_of" 2 2 j9:=
 V.d21.cal (k:=1) KC .(c) fun f cdv A outer s H E hr=>
  (aD (aN (eO (dC (lm V) hr (ai (af 0) aw) ln1) (fJ (dM (oT (aV hr)) (af 0) (af 1) (by rfl))))))
theorem Iw:Cal .(n) P w K mg base "is_way" 3 3 ux:=
 V.d22.cal (k:=2) Qz .(c) fun f cdv A outer s H E hr=>
  (aD (aN (eO .(ac) (eO (dC (nO V) hr (ai .(t) .(aa)) ln2) (fJ (dC (iW V) hr (ai .(t) (ai aq .(ao))) ln3))))))
theorem Lr:Cal .(n) P w K mg base "are_ways" 3 4 ya:=
 V.d23.cal (k:=3) Ix .(c) fun f cdv A outer s H E hr=>
  (aC (bd (DW.dt (cW (b7 (bS (dC (jU V) hr (ai (af 0) (ai aq (ai (iD rfl V.k_MOST_WAYS) aw))) ln3))) (dn (b7 (bS (b8 (ip rfl) rfl V.z_all (by rfl) (ai (DO.de (cz rfl .(m) (FvOk.of (N':=["row","bench_names","horizon"]) (fv:=[ab,aa 1,aa 2]) rfl) (bH (af 0)) ⟨fun _ _ _ _ _=>⟨(aP 0 (show(["row","bench_names","horizon"]:ac aj).Nodup by decide +kernel)),cD,(dC (Iw V) hr (ai (af 0) (ai (af 1) .(ao))) ln3)⟩⟩)) aw))))))) .(R) bh) (aD (aN .(g))))
theorem M6:Cal .(n) P w K mg base "is_step" 3 5 uF:=
 V.d24.cal (k:=4) Ls .(c) fun f cdv A outer s H E hr=>
  (aC (bd (DW.dt (cW (b7 (bS .(ac))) (cW (b7 (bS (dC (lm V) hr (ai .(t) aw) ln1))) (dn (b7 (bS (dC (lm V) hr (ai .(t) aw) ln1))))))) .(R) bh) (aD (aN (dC (Lr V) hr (ai .(t) (ai (af 1) .(ao))) ln3))))
theorem LW:Cal .(n) P w K mg base "are_steps" 3 6 yH:=
 V.d25.cal (k:=5) K' .(c) fun f cdv A outer s H E hr=>
  (aC (bd (DW.dt (cW (b7 (bS (dC (jU V) hr (ai (af 0) (ai aq (ai (iD rfl V.k_MOST_STEPS) aw))) ln3))) (dn (b7 (bS (b8 (ip rfl) rfl V.z_all (by rfl) (ai (DO.de (cz rfl .(m) (FvOk.of (N':=["row","bench_names","horizon"]) (fv:=[ab,aa 1,aa 2]) rfl) (bH (af 0)) ⟨fun _ _ _ _ _=>⟨(aP 0 (show(["row","bench_names","horizon"]:ac aj).Nodup by decide +kernel)),cD,(dC (M6 V) hr (ai (af 0) (ai (af 1) .(ao))) ln3)⟩⟩)) aw))))))) .(R) bh) (aD (aN .(g))))
theorem IM:Cal .(n) P w K mg base "is_job" 3 3 xt:=
 V.d26.cal (k:=2) LR .(c) fun f cdv A outer s H E hr=>
  (aC (bd (DW.dt (cW (b7 (bS .(ac))) (cW (b7 (bS (dC (lm V) hr (ai .(t) aw) ln1))) (dn (b7 (bS (b8 ki rfl V.z_isinstance (by rfl) (ai .(t) (ai (kF rfl V.z_bool (by rfl)) aw))))))))) .(R) bh) (aC (bd (DW.dt (cW (b7 (bS (dC (iW V) hr (ai .(t) (ai aq .(ao))) ln3))) (dn (b7 (bS (dC (iW V) hr (ai .(t) (ai aq .(ao))) ln3)))))) .(R) bh) (aD (aN (eO (dC (jU V) hr (ai .(t) (ai aq (ai (b8 fA rfl V.z_len (by rfl) .(aa)) aw))) ln3) (fJ (b8 (ip rfl) rfl V.z_all (by rfl) (ai (DO.de (cz rfl .(m) (FvOk.of (N':=["name","step_names"]) (fv:=[ab,aa 1]) rfl) (bH .(t)) ⟨fun _ _ _ _ _=>⟨(aP 0 (show(["name","step_names"]:ac aj).Nodup by decide +kernel)),cD,(dC (nO V) hr (ai (af 0) .(aa)) ln2)⟩⟩)) aw))))))))
theorem JG:Cal .(n) P w K mg base "are_jobs" 3 4 w8:=
 V.d27.cal (k:=3) yG .(c) fun f cdv A outer s H E hr=>
  (aC (bd (DW.dt (cW (b7 (bS (dC (jU V) hr (ai (af 0) (ai aq (ai (iD rfl V.k_MOST_JOBS) aw))) ln3))) (dn (b7 (bS (b8 (ip rfl) rfl V.z_all (by rfl) (ai (DO.de (cz rfl .(m) (FvOk.of (N':=["row","step_names","horizon"]) (fv:=[ab,aa 1,aa 2]) rfl) (bH (af 0)) ⟨fun _ _ _ _ _=>⟨(aP 0 (show(["row","step_names","horizon"]:ac aj).Nodup by decide +kernel)),cD,(dC (IM V) hr (ai (af 0) (ai (af 1) .(ao))) ln3)⟩⟩)) aw))))))) .(R) bh) (aC (iU 3 yG.nd (c6 aw)) (aC (cE cL rfl (bH (af 0)) (aP 4 yG.nd) (aD (x8 3 (aB (af 4) aq)))) (ir 3 (aD (aN (eO .(g) (fJ (dC (kI V) hr (ai (af 3) aw) ln1)))))))))
theorem Qp:Cal .(n) P w K mg base "is_setup" 3 3 tq:=
 V.d28.cal (k:=2) IC .(c) fun f cdv A outer s H E hr=>
  (aC (bd (DW.dt (cW (b7 (bS .(ac))) (dn (b7 (bS (dC (nO V) hr (ai .(t) .(aa)) ln2)))))) .(R) bh) (aD (aN (eO (dC (lm V) hr (ai .(t) aw) ln1) (eO (dC (lm V) hr (ai .(t) aw) ln1) (fJ (dC (iW V) hr (ai .(t) (ai aq .(ao))) ln3)))))))
theorem ID:Cal .(n) P w K mg base "are_setups" 3 4 xp:=
 V.d29.cal (k:=3) Jl .(c) fun f cdv A outer s H E hr=>
  (aC (bd (DW.dt (cW (b7 (bS (dC (jU V) hr (ai (af 0) (ai aq (ai (iD rfl V.k_MOST_SETUPS) aw))) ln3))) (dn (b7 (bS (b8 (ip rfl) rfl V.z_all (by rfl) (ai (DO.de (cz rfl .(m) (FvOk.of (N':=["row","bench_names","horizon"]) (fv:=[ab,aa 1,aa 2]) rfl) (bH (af 0)) ⟨fun _ _ _ _ _=>⟨(aP 0 (show(["row","bench_names","horizon"]:ac aj).Nodup by decide +kernel)),cD,(dC (Qp V) hr (ai (af 0) (ai (af 1) .(ao))) ln3)⟩⟩)) aw))))))) .(R) bh) (aD (aN (dC (kI V) hr (ai (DO.de (cz rfl .(m) .(aw) (bH (af 0)) ⟨fun _ _ _ _ _=>⟨.(Q),cD,(gz (af 0) gK (fX aq))⟩⟩)) aw) ln1))))
theorem OO:Cal .(n) P w K mg base "is_link" 3 3 uG:=
 V.d30.cal (k:=2) Lv .(c) fun f cdv A outer s H E hr=>
  (aC (bd (DW.dt (cW (b7 (bS .(ac))) (cW (b7 (bS (dC (nO V) hr (ai .(t) .(aa)) ln2))) (dn (b7 (bS (dC (nO V) hr (ai .(t) .(aa)) ln2))))))) .(R) bh) (aD (aN (eO (dM (iX (fM hr)) .(t) .(t) (bj _)) (fJ (dC (iW V) hr (ai .(t) (ai aq .(ao))) ln3))))))
theorem OY:Cal .(n) P w K mg base "are_links" 3 4 v7:=
 V.d31.cal (k:=3) Mb .(c) fun f cdv A outer s H E hr=>
  (aC (bd (DW.dt (cW (b7 (bS (dC (jU V) hr (ai (af 0) (ai aq (ai (iD rfl V.k_MOST_LINKS) aw))) ln3))) (dn (b7 (bS (b8 (ip rfl) rfl V.z_all (by rfl) (ai (DO.de (cz rfl .(m) (FvOk.of (N':=["row","step_names","horizon"]) (fv:=[ab,aa 1,aa 2]) rfl) (bH (af 0)) ⟨fun _ _ _ _ _=>⟨(aP 0 (show(["row","step_names","horizon"]:ac aj).Nodup by decide +kernel)),cD,(dC (OO V) hr (ai (af 0) (ai (af 1) .(ao))) ln3)⟩⟩)) aw))))))) .(R) bh) (aD (aN (dC (kI V) hr (ai (DO.de (cz rfl .(m) .(aw) (bH (af 0)) ⟨fun _ _ _ _ _=>⟨.(Q),cD,(gz (af 0) gK (fX aq))⟩⟩)) aw) ln1))))
theorem P8:Cal .(n) P w K mg base "is_amount" 2 3 ur:=
 V.d32.cal (k:=2) HZ .(c) fun f cdv A outer s H E hr=>
  (aD (aN (eO .(ac) (eO (dC (nO V) hr (ai .(t) .(aa)) ln2) (fJ (dC (iW V) hr (ai .(t) (ai aq (ai (iD rfl V.k_MOST_AMOUNT) aw))) ln3))))))
theorem Bp:Cal .(n) P w K mg base "are_amounts" 2 4 tw:=
 V.d33.cal (k:=3) Gk .(c) fun f cdv A outer s H E hr=>
  (aC (bd (DW.dt (cW (b7 (bS (dC (jU V) hr (ai (af 0) (ai aq (ai (b8 fA rfl V.z_len (by rfl) .(aa)) aw))) ln3))) (dn (b7 (bS (b8 (ip rfl) rfl V.z_all (by rfl) (ai (DO.de (cz rfl .(m) (FvOk.of (N':=["row","step_names"]) (fv:=[ab,aa 1]) rfl) (bH (af 0)) ⟨fun _ _ _ _ _=>⟨(aP 0 (show(["row","step_names"]:ac aj).Nodup by decide +kernel)),cD,(dC (P8 V) hr (ai (af 0) .(aa)) ln2)⟩⟩)) aw))))))) .(R) bh) (aD (aN .(g))))
theorem Gf:Cal .(n) P w K mg base "is_stock" 2 5 sU:=
 V.d34.cal (k:=4) Li .(c) fun f cdv A outer s H E hr=>
  (aC (bd (DW.dt (cW (b7 (bS .(ac))) (dn (b7 (bS (dC (lm V) hr (ai .(t) aw) ln1)))))) .(R) bh) (aC (bd (DW.dt (cW (b7 (bS (dC (iW V) hr (ai .(t) (ai aq (ai (iD rfl V.k_MOST_AMOUNT) aw))) ln3))) (dn (b7 (bS (dC (iW V) hr (ai .(t) (ai aq (ai .(t) aw))) ln3)))))) .(R) bh) (aD (aN (eO (dC (Bp V) hr (ai .(t) .(aa)) ln2) (fJ (dC (Bp V) hr (ai .(t) .(aa)) ln2)))))))
theorem MO:Cal .(n) P w K mg base "are_stocks" 2 6 yE:=
 V.d35.cal (k:=5) Ht .(c) fun f cdv A outer s H E hr=>
  (aC (bd (DW.dt (cW (b7 (bS (dC (jU V) hr (ai (af 0) (ai aq (ai (iD rfl V.k_MOST_STOCKS) aw))) ln3))) (dn (b7 (bS (b8 (ip rfl) rfl V.z_all (by rfl) (ai (DO.de (cz rfl .(m) (FvOk.of (N':=["row","step_names"]) (fv:=[ab,aa 1]) rfl) (bH (af 0)) ⟨fun _ _ _ _ _=>⟨(aP 0 (show(["row","step_names"]:ac aj).Nodup by decide +kernel)),cD,(dC (Gf V) hr (ai (af 0) .(aa)) ln2)⟩⟩)) aw))))))) .(R) bh) (aD (aN .(g))))
theorem Ge:Cal .(n) P w K mg base "first_bad_part" 7 7 wk:=
 V.d36.cal (k:=6) wH .(c) fun f cdv A outer s H E hr=>
  (aC (bd (b7 (bS (dC (iW V) hr (ai (af 6) (ai aq (ai (iD rfl V.k_MOST_HORIZON) aw))) ln3))) (aD (aN dA)) bh) (aC (bd (b7 (bS (dC (Qb V) hr (ai (af 0) (ai (af 6) aw)) ln2))) (aD (aN dA)) bh) (aC (iA 7 wH.nd rfl .(m) .(aw) (bH (af 0)) ⟨fun _ _ _ _ _=>⟨.(Q),cD,.(t)⟩⟩) (aC (bd (b7 (bS (dC (LW V) hr (ai (af 1) (ai (af 7) (ai (af 6) aw))) ln3))) (aD (aN dA)) bh) (aC (iA 8 wH.nd rfl .(m) .(aw) (bH (af 1)) ⟨fun _ _ _ _ _=>⟨.(Q),cD,.(t)⟩⟩) (aC (bd (b7 (bS (dC (JG V) hr (ai (af 2) (ai (af 8) (ai (af 6) aw))) ln3))) (aD (aN dA)) bh) (aC (bd (b7 (bS (dC (ID V) hr (ai (af 3) (ai (af 7) (ai (af 6) aw))) ln3))) (aD (aN dA)) bh) (aC (bd (b7 (bS (dC (OY V) hr (ai (af 4) (ai (af 8) (ai (af 6) aw))) ln3))) (aD (aN dA)) bh) (aC (bd (b7 (bS (dC (MO V) hr (ai (af 5) (ai (af 8) aw)) ln2))) (aD (aN dA)) bh) (aD (aN dL)))))))))))
theorem Mj {k:al} {eR:FQ} (gE:Cal .(n) P w K mg base "fresh" 1 k eR):Cal .(n) P w K mg base "fresh" 1 (k+1) (jy eR):=
 V.d37.cal (k:=k) NL .(c) fun f cdv A outer s H E hr=>
  (aC (bd (bS (b8 ki rfl V.z_isinstance (by rfl) (ai (af 0) (ai (kF rfl V.z_list (by rfl)) aw)))) (aD (aN (DO.de (cz rfl .(m) (FvOk.of (N':=["part"]) (fv:=[ab]) rfl) (bH (af 0)) ⟨fun _ _ _ _ _=>⟨(aP 0 (show(["part"]:ac aj).Nodup by decide +kernel)),cD,(jC gE hr (qw _) rfl (ai (af 0) aw) ln1)⟩⟩)))) bh) (aC (bd (bS (b8 ki rfl V.z_isinstance (by rfl) (ai (af 0) (ai (kF rfl V.z_tuple (by rfl)) aw)))) (aD (aN (hG Im rfl V.z_tuple (by rfl) (ai (DO.de (cz rfl .(m) (FvOk.of (N':=["part"]) (fv:=[ab]) rfl) (bH (af 0)) ⟨fun _ _ _ _ _=>⟨(aP 0 (show(["part"]:ac aj).Nodup by decide +kernel)),cD,(jC gE hr (qw _) rfl (ai (af 0) aw) ln1)⟩⟩)) aw)))) bh) (aD (aN (af 0)))))
theorem gE:Cal .(n) P w K mg base "fresh" 1 8 eR:=by
 have h:∀n,Cal .(n) P w K mg base "fresh" 1 n (jJ n):=fun n=>by
  induction n with
  |zero=>exact Dfn.none (ps:=["thing"]) V.d37 .(c)
  |succ n ih=>exact Mj V ih
 exact h 8
theorem Qt:CalI .(n) P w K mg base "Shop" 7 9 wS:=
 DfnM.calI (k:=8) V.O_Shop V.d38 vf .(c) fun f y cdv A outer s H E hr=>
  (aC (bz 8 vf.nd (jC ((Ge V).re y) hr .(h) rfl (ai (af 1) (ai (af 2) (ai (af 3) (ai (af 4) (ai (af 5) (ai (af 6) (ai (af 7) aw))))))) ln7)) (aC (bd (bB rP (af 8) dL (bj _)) (aD xJ) bh) (aC (ju 0 (V.cf_Shop.re y) (.head _) (jC ((gE V).re y) hr .(h) rfl .(aa) ln1)) (aC (ju 0 (V.cf_Shop.re y) (.tail _ (.head _)) (jC ((gE V).re y) hr .(h) rfl .(ao) ln1)) (aC (ju 0 (V.cf_Shop.re y) (.tail _ (.tail _ (.head _))) (jC ((gE V).re y) hr .(h) rfl (ai (af 3) aw) ln1)) (aC (ju 0 (V.cf_Shop.re y) (.tail _ (.tail _ (.tail _ (.head _)))) (jC ((gE V).re y) hr .(h) rfl (ai (af 4) aw) ln1)) (aC (ju 0 (V.cf_Shop.re y) (.tail _ (.tail _ (.tail _ (.tail _ (.head _))))) (jC ((gE V).re y) hr .(h) rfl (ai (af 5) aw) ln1)) (aC (ju 0 (V.cf_Shop.re y) (.tail _ (.tail _ (.tail _ (.tail _ (.tail _ (.head _)))))) (jC ((gE V).re y) hr .(h) rfl (ai (af 6) aw) ln1)) (aC (ju 0 (V.cf_Shop.re y) .(p) (af 7)) (aC (ju 0 (V.cf_Shop.re y) (.tail _ .(p)) (hG (nc rfl (aV hr)) rfl V.z_dict (by rfl) (ai (DO.de (cz rfl .(m) .(aw) (bH (uv 0 (V.cf_Shop.re y) (.head _))) ⟨fun _ _ _ _ _=>⟨.(Q),cD,(cM (ai .(t) (ai (af 0) aw)))⟩⟩)) aw))) (aC (ju 0 (V.cf_Shop.re y) (.tail _ (.tail _ .(p))) (hG (nc rfl (aV hr)) rfl V.z_dict (by rfl) (ai (DO.de (cz rfl .(m) .(aw) (bH (uv 0 (V.cf_Shop.re y) (.tail _ (.head _)))) ⟨fun _ _ _ _ _=>⟨.(Q),cD,(cM (ai .(t) (ai (af 0) aw)))⟩⟩)) aw))) (aC (ju 0 (V.cf_Shop.re y) (.tail _ (.tail _ (.tail _ .(p)))) (hG (Hj rfl (aV hr)) rfl V.z_dict (by rfl) (ai (DO.de (cz rfl .(m) .(aw) (bH (uv 0 (V.cf_Shop.re y) (.tail _ (.tail _ (.tail _ (.head _)))))) ⟨fun _ _ _ _ _=>⟨.(Q),cD,(cM (ai (gz (af 0) gK (fX aq)) (ai .(t) aw)))⟩⟩)) aw))) (aC (MV 0 (V.cf_Shop.re y) (.tail _ (.tail _ (.tail _ (.tail _ .(p)))))) (aD (cE cL rfl (bH (uv 0 (V.cf_Shop.re y) (.tail _ (.tail _ (.head _))))) (aP 9 vf.nd) (aD (cE cL rfl (bH (aB (af 9) aq)) (aP 10 vf.nd) (aD (Lp 0 (aV hr) (V.cf_Shop.re y) (.tail _ (.tail _ (.tail _ (.tail _ .(p))))) (af 10) (af 9))))))))))))))))))))
theorem II:Cal .(n) P w K mg base "_law_shop" 1 11 wD:=
 V.d39.cal (k:=10) Pf .(c) fun f cdv A outer s H E hr=>
  (aD (aN (Mc (Qt V) hr .(h) rfl (ai .(t) (ai .(t) (ai .(t) (ai .(t) (ai .(t) (ai .(t) (ai .(t) aw))))))) ln7)))
theorem wT:Cal .(n) P w K mg base "_law_ends" 2 1 mK:=
 V.d40.cal (k:=0) mC .(c) fun f cdv A outer s H E hr=>
  (aC (yo 2 mC.nd) (aC (cE cL rfl (bH (aB (af 1) aq)) (dy (n:=3) rfl (bY (aP 3 mC.nd) (bY (aP 4 mC.nd) (bY (aP 5 mC.nd) dw)))) (aD (bd (bB (rE (aV hr)) (af 3) (af 0) (by rfl)) (aC (n8 (bL (aV hr) (af 0) (af 3)) (dy (n:=2) rfl (bY (aP 6 mC.nd) (bY (aP 7 mC.nd) dw)))) (aD (kB 2 (aV hr) (af 3) (ci (af 7) (bL (aV hr) (hG (nc rfl (aV hr)) rfl V.z_dict (by rfl) (ai (af 5) aw)) (af 6)))))) bh))) (nW 2 (aD (aN (af 2))))))
theorem O3:Cal .(n) P w K mg base "_law_low" 3 1 um:=
 V.d41.cal (k:=0) kq .(c) fun f cdv A outer s H E hr=>
  (aC (bz 3 kq.nd aq) (aC (cE cL rfl (bH .(t)) (dy (n:=3) rfl (bY (aP 4 kq.nd) (bY (aP 5 kq.nd) (bY (aP 6 kq.nd) dw)))) (aD (bd (DW.dt (hU (bB (oJ (fM hr)) (af 5) (af 2) (bj _)) (ia (bB (rE (aV hr)) (af 4) (af 1) (by rfl))))) (aD (bz 3 kq.nd (b8 (xm rfl) rfl V.z_max (by rfl) (ai (af 3) (ai (ci (bL (aV hr) (af 1) (af 4)) (af 6)) aw))))) bh))) (aC (cE cL rfl (bH .(t)) (aP 7 kq.nd) (aD (bd (DW.dt (hU (bS (aB (af 7) aq)) (ia (bB (oT (aV hr)) (af 2) (aB (af 7) aq) (by rfl))))) (aD (cE cL rfl (bH (gz (aB (af 7) aq) gK (fX (HB Fu R' PySem.F.type_list_index Oz (aB (af 7) aq) .(ao))))) (aP 8 kq.nd) (aD (bz 3 kq.nd (b8 (xm rfl) rfl V.z_max (by rfl) (ai (af 3) (ai (xI (aV hr) (af 1) (af 8) aq) aw))))))) bh))) (aD (aN (af 3))))))
theorem GU:Cal .(n) P w K mg base "_law_off_job" 4 1 uX:=
 V.d42.cal (k:=0) Ea .(c) fun f cdv A outer s H E hr=>
  (aC (cE cL rfl (bH (aB (af 2) aq)) (aP 4 Ea.nd) (aD (bd (bB (oT (aV hr)) (af 3) (aB (af 4) aq) (by rfl)) (aD (bd (DW.dt (cW (bB dG (aB (bL (aV hr) (af 0) (af 3)) aq) (aB (af 4) aq) (bj _)) (dn (bB lu (bL (aV hr) (af 1) (af 3)) (aB (af 4) aq) (bj _))))) .(R) bh)) bh))) .(R))
theorem JE:Cal .(n) P w K mg base "_law_in_break" 4 1 sS:=
 V.d43.cal (k:=0) xk .(c) fun f cdv A outer s H E hr=>
  (aC (cE cL rfl (bH (bL (aV hr) (hG (nc rfl (aV hr)) rfl V.z_dict (by rfl) (ai (aB (af 2) aq) aw)) (aB (bL (aV hr) (af 0) (af 3)) aq))) (dy (n:=2) rfl (bY (aP 4 xk.nd) (bY (aP 5 xk.nd) dw))) (aD (bd (DW.dt (hU (bB dG (aB (bL (aV hr) (af 0) (af 3)) aq) (af 5) (bj _)) (ia (bB dG (af 4) (bL (aV hr) (af 1) (af 3)) (bj _))))) .(R) bh))) .(R))
theorem Nj:Cal .(n) P w K mg base "_law_wait" 4 1 t7:=
 V.d44.cal (k:=0) wo .(c) fun f cdv A outer s H E hr=>
  (aC (bz 4 wo.nd (hG (nc rfl (aV hr)) rfl V.z_dict (by rfl) (ai (DO.de (cz rfl .(m) (FvOk.of (N':=["_law_step"]) (fv:=[ab]) rfl) (bH .(t)) ⟨fun _ _ _ _ _=>⟨(aP 0 (show(["_law_step"]:ac aj).Nodup by decide +kernel)),cD,(cM (ai .(t) (ai .(t) aw)))⟩⟩)) aw))) (aC (cE cL rfl (bH .(t)) (aP 5 wo.nd) (aD (bd (bB (oJ (fM hr)) (gz (af 5) gK (fX aq)) (cM (ai (af 1) (ai (bL (aV hr) (af 4) (af 2)) (ai (bL (aV hr) (af 4) (af 3)) aw)))) (bj _)) (aD (aN (aB (af 5) aq))) bh))) (aD (aN aq))))
theorem Oo:Cal .(n) P w K mg base "_law_near" 5 2 p7:=
 V.d45.cal (k:=1) nQ .(c) fun f cdv A outer s H E hr=>
  (aC (n8 (bL (aV hr) (af 0) (af 3)) (dy (n:=2) rfl (bY (aP 5 nQ.nd) (bY (aP 6 nQ.nd) dw)))) (aC (bd (bB (iX (fM hr)) (af 5) (aB (bL (aV hr) (af 0) (af 4)) aq) (bj _)) .(R) bh) (aC (Ex 7 8 rfl nQ.nd (ai (af 3) (ai (af 4) aw))) (aC (bd (bB dG (aB (bL (aV hr) (af 0) (af 4)) aq) (af 6) (bj _)) (aD (Ex 7 8 rfl nQ.nd (ai (af 4) (ai (af 3) aw)))) bh) (aC (bz 9 nQ.nd (ci (bL (aV hr) (af 1) (af 7)) (dC (Nj V) hr (ai (af 2) (ai (af 5) (ai (af 7) (ai (af 8) aw)))) ln4))) (aD (aN (Kd (dM (oJ (fM hr)) (aB (bL (aV hr) (af 0) (af 7)) aq) (aB (bL (aV hr) (af 0) (af 8)) aq) (bj _)) (fJ (dM dG (aB (bL (aV hr) (af 0) (af 8)) aq) (af 9) (bj _)))))))))))
theorem OR:Cal .(n) P w K mg base "_law_at_once" 4 1 rO:=
 V.d46.cal (k:=0) Gp .(c) fun f cdv A outer s H E hr=>
  (aD (aN (eO (dM dG (aB (bL (aV hr) (af 0) (af 2)) aq) (bL (aV hr) (af 1) (af 3)) (bj _)) (fJ (dM dG (aB (bL (aV hr) (af 0) (af 3)) aq) (bL (aV hr) (af 1) (af 2)) (bj _))))))
theorem LV:Cal .(n) P w K mg base "_law_pair_stands" 5 3 na:=
 V.d47.cal (k:=2) BR .(c) fun f cdv A outer s H E hr=>
  (aC (bd (bS (dC (Oo V) hr (ai (af 0) (ai (af 1) (ai (af 2) (ai (af 3) (ai (af 4) aw))))) ln5)) .(R) bh) (aC (cE cL rfl (bH (aB (af 2) aq)) (aP 5 BR.nd) (aD (bd (DW.dt (hU (bB (oT (aV hr)) (af 3) (aB (af 5) aq) (by rfl)) (ia (bB (oT (aV hr)) (af 4) (aB (af 5) aq) (by rfl))))) (aD (bd (bS (dC (OR V) hr (ai (af 0) (ai (af 1) (ai (af 3) (ai (af 4) aw)))) ln4)) .(R) bh)) bh))) .(R)))
theorem NN:Cal .(n) P w K mg base "_law_fits" 3 4 yh:=
 V.d48.cal (k:=3) xK .(c) fun f cdv A outer s H E hr=>
  (aC (bz 3 xK.nd (dC (wT V) hr (ai (af 0) .(aa)) ln2)) (aC (bd (DW.dt (cW (bB lu (bL (aV hr) (af 3) (af 2)) (aB (af 1) aq) (bj _)) (cW (bS (dC (JE V) hr (ai (af 0) (ai (af 3) (ai (af 1) .(ao)))) ln4)) (dn (bS (dC (GU V) hr (ai (af 0) (ai (af 3) (ai (af 1) .(ao)))) ln4)))))) .(R) bh) (aC (cE cL rfl (pK (af 0)) (aP 4 xK.nd) (aD (bd (bB (iX (fM hr)) (af 4) (af 2) (bj _)) (aD (bd (b7 (bS (dC (LV V) hr (ai (af 0) (ai (af 3) (ai (af 1) (ai (af 2) (ai (af 4) aw))))) ln5))) .(R) bh)) bh))) .(R))))
theorem HX:CalD .(n) P w K mg base "_law_put" 4 5 sZ:=
 V.d49.calOD (k:=4) nT .(c) fun f cdv A outer s H E hr=>
  (aC (cE cL rfl (bH (aB (af 2) aq)) (dy (n:=2) rfl (bY (aP 4 nT.nd) (bY (aP 5 nT.nd) dw))) (aD (cE cL rfl (Ay rfl V.z_range (ai (af 3) (ai (b8 (uA rfl) rfl V.z_min (by rfl) (ai (aB (af 1) aq) (ai (ci (af 3) aq) aw))) aw))) (aP 6 nT.nd) (aC (xW 7 nT.nd rfl rfl V.z_dict (af 0)) (aC (kB 7 (aV hr) (aB (af 2) aq) (cM (ai (af 4) (ai (af 6) aw)))) (aD (bd (Og 7 (bS (dC (NN V) hr (ai (af 7) (ai (af 1) (ai (aB (af 2) aq) aw))) ln3))) (aD (yw 7)) bh))))))) (aC (xW 7 nT.nd rfl rfl V.z_dict (af 0)) (aC (kB 7 (aV hr) (aB (af 2) aq) (cM (ai (aB (aB (aB (af 2) aq) aq) aq) (ai (af 3) aw)))) (aD (yw 7)))))
theorem BA:CalD .(n) P w K mg base "_law_built" 1 6 rn:=
 V.d50.calOD (k:=5) rG .(c) fun f cdv A outer s H E hr=>
  (aC (yo 1 rG.nd) (aC (cE cL rfl (bH .(t)) (aP 2 rG.nd) (nW 1 (aC (bz 3 rG.nd (dC (O3 V) hr (ai (af 0) (ai (dC (wT V) hr (ai (af 1) (ai (af 0) aw)) ln2) (ai (aB (af 2) aq) aw))) ln3)) (aD (xj 1 rG.nd (HX V) hr .(h) rfl (ai (af 1) (ai (af 0) (ai (af 2) (ai (af 3) aw)))) ln4))))) (aD (yw 1))))
theorem Gi:Cal .(n) P w K mg base "_law_plan_of" 3 7 wc:=
 V.d51.cal (k:=6) ot .(c) fun f cdv A outer s H E hr=>
  (aC (xj 3 ot.nd (BA V) hr .(h) rfl .(ao) ln1) (aC (bz 4 ot.nd (dC (lK V) hr (ai (dC (iB V) hr (ai (af 0) .(aa)) ln2) (ai aq (ai (DO.de (c6 (ai aq (ai (b8 fA rfl V.z_len (by rfl) (ai (aB (af 2) aq) aw)) (ai aq (ai aq (ai (b8 fA rfl V.z_len (by rfl) (ai (aB (af 2) aq) aw)) (ai aq aw)))))))) aw))) ln3)) (aC (n8 (aB (aB (af 2) aq) (aB (af 4) aq)) (dy (n:=3) rfl (bY (aP 5 ot.nd) (bY (aP 6 ot.nd) (bY (aP 7 ot.nd) dw))))) (aC (bd (bB fO (aB (af 4) aq) aq (bj _)) (aD (kB 3 (aV hr) (af 5) (cM (ai (aB (pL 3 (aV hr) (af 5)) aq) (ai (rf (ci (aB (pL 3 (aV hr) (af 5)) aq) (aB (af 4) aq)) aq) aw))))) bh) (aC (bd (bB fO (aB (af 4) aq) aq (bj _)) (aD (kB 3 (aV hr) (af 5) (cM (ai (aB (aB (af 7) (LO aq)) aq) (ai (aB (pL 3 (aV hr) (af 5)) aq) aw))))) bh) (aC (bd (bB fO (aB (af 4) aq) aq (bj _)) (aD (kB 3 (aV hr) (af 5) (cM (ai (aB (DO.de (c6 (ai (aB (aB (aB (af 2) aq) (aB (af 4) aq)) aq) (ai dA aw)))) (c3 (aB (af 4) aq) aq)) (ai (aB (pL 3 (aV hr) (af 5)) aq) aw))))) bh) (aC (bd (bB fO (aB (af 4) aq) aq (bj _)) (aD (IV 3 (af 5))) bh) (aC (bd (bB fO (aB (af 4) aq) aq (bj _)) (aD (kB 3 (aV hr) dA (cM (ai (aB (aB (aB (af 2) aq) (aB (af 4) aq)) aq) (ai (aB (af 4) aq) aw))))) bh) (nW 3 (aD (aN (af 3))))))))))))
theorem PX:Cal .(n) P w K mg base "_law_begun_there" 3 1 rQ:=
 V.d52.cal (k:=0) rB .(c) fun f cdv A outer s H E hr=>
  (aC (bz 3 rB.nd (hG (nc rfl (aV hr)) rfl V.z_dict (by rfl) (ai (DO.de (cz rfl .(m) (FvOk.of (N':=["_law_step"]) (fv:=[ab]) rfl) (bH (aB (af 1) aq)) ⟨fun _ _ _ _ _=>⟨(aP 0 (show(["_law_step"]:ac aj).Nodup by decide +kernel)),cD,(cM (ai .(t) (ai (hG (nc rfl (aV hr)) rfl V.z_dict (by rfl) (ai .(t) aw)) aw)))⟩⟩)) aw))) (aC (cE cL rfl (pK (af 0)) (aP 4 rB.nd) (aC (n8 (bL (aV hr) (af 0) (af 4)) (dy (n:=2) rfl (bY (aP 5 rB.nd) (bY (aP 6 rB.nd) dw)))) (aD (bd (DW.dt (hU (bB dG (af 6) (af 2) (bj _)) (ia (DW.dt (cW (bB dG (af 6) aq (bj _)) (dn (bB (B9 (aV hr)) (af 5) (xI (aV hr) (af 3) (af 4) NR) (by rfl)))))))) .(R) bh)))) .(R)))
theorem OX:Cal .(n) P w K mg base "_law_changed" 3 2 uT:=
 V.d53.cal (k:=1) jt .(c) fun f cdv A outer s H E hr=>
  (aC (xW 3 jt.nd rfl rfl V.z_dict (af 0)) (aC (cE cL rfl (oE rfl V.z_range (ai (c3 (af 2) aq) aw)) (aP 4 jt.nd) (aC (bz 5 jt.nd (dC (lK V) hr (ai (kx (af 2) aq) (ai (af 4) (ai (DO.de (c6 (ai (b8 fA rfl V.z_len (by rfl) (ai (aB (af 1) aq) aw)) (ai aq (ai aq aw))))) aw))) ln3)) (aC (n8 (aB (aB (af 1) aq) (aB (af 5) aq)) (dy (n:=3) rfl (bY (aP 6 jt.nd) (bY (aP 7 jt.nd) (bY (aP 8 jt.nd) dw))))) (aC (n8 (pL 3 (aV hr) (af 6)) (dy (n:=2) rfl (bY (aP 9 jt.nd) (bY (aP 10 jt.nd) dw)))) (aC (bd (bB fO (aB (af 5) aq) aq (bj _)) (aD (bz 9 jt.nd (aB (aB (af 8) (c3 (aB (af 5) aq) (b8 fA rfl V.z_len (by rfl) (ai (af 8) aw)))) aq))) bh) (aD (kB 3 (aV hr) (af 6) (cM (ai (af 9) (ai (rf (ci (af 10) (aB (af 5) aq)) aq) aw)))))))))) (nW 3 (aD (aN (af 3))))))
theorem j7:CalM .(n) P w K mg base "Shop" "step_names" 1 1 gD:=
 DfnM.cal (k:=0) V.O_Shop V.d54 MS .(c) fun f cdv A outer s H E hr=>
  (aD (aN (DO.de (cz rfl .(m) .(aw) (bH (jr V.cf_Shop (.tail _ (.head _)) (af 0))) ⟨fun _ _ _ _ _=>⟨.(Q),cD,.(t)⟩⟩))))
theorem Hr:Cal .(n) P w K mg base "broken_step" 2 2 wX:=
 V.d55.cal (k:=1) t4 .(c) fun f cdv A outer s H E hr=>
  (aC (bz 2 t4.nd (ib (j7 V) hr .(h) (af 0))) (aC (cE cL rfl (bH (af 2)) (aP 3 t4.nd) (aD (bd (bB (B9 (aV hr)) (af 3) (af 1) (by rfl)) (aD (aN (cM (ai dA (ai (af 3) aw))))) bh))) (aC (iA 4 t4.nd rfl .(m) (FvOk.of (N':=["name","names"]) (fv:=[ab,aa 2]) rfl) (pK (af 1)) ⟨fun _ _ _ _ _=>⟨(aP 0 (show(["name","names"]:ac aj).Nodup by decide +kernel)),(gM (bB (oZ (aV hr)) (af 0) (af 1) (by rfl))),(af 0)⟩⟩) (aC (bd (bB lu (b8 fA rfl V.z_len (by rfl) (ai (af 4) aw)) aq (bj _)) (aD (aN (cM (ai dA (ai (b8 (K8 rfl) rfl V.z_min (by rfl) (ai (af 4) aw)) aw))))) bh) (aD (aN dL))))))
theorem Kv:CalM .(n) P w K mg base "Shop" "ways_of" 2 9 sQ:=
 DfnM.cal (k:=8) V.O_Shop V.d56 Qk .(c) fun f cdv A outer s H E hr=>
  (aD (aN (dC (gE V) hr (ai (aB (bL (aV hr) (jr V.cf_Shop (.tail _ (.tail _ .(p))) (af 0)) (af 1)) aq) aw) ln1)))
theorem vX:Cal .(n) P w K mg base "length_on" 3 10 mH:=
 V.d57.cal (k:=9) xa .(c) fun f cdv A outer s H E hr=>
  (aC (cE cL rfl (bH (oB (Kv V) hr .(h) (af 0) .(aa) ln1)) (dy (n:=2) rfl (bY (aP 3 xa.nd) (bY (aP 4 xa.nd) dw))) (aD (bd (bB (oJ (fM hr)) (af 3) (af 2) (bj _)) (aD (aN (af 4))) bh))) (aD (aN dL)))
theorem GN:CalM .(n) P w K mg base "Shop" "last_moment" 1 1 uH:=
 DfnM.cal (k:=0) V.O_Shop V.d58 Kw .(c) fun f cdv A outer s H E hr=>
  (aD (aN (jr V.cf_Shop .(p) (af 0))))
theorem Jc:Cal .(n) P w K mg base "broken_way" 2 11 yv:=
 V.d59.cal (k:=10) uQ .(c) fun f cdv A outer s H E hr=>
  (aC (cE cL rfl (bH (ib (j7 V) hr .(h) (af 0))) (aP 2 uQ.nd) (aC (bz 3 uQ.nd (aB (bL (aV hr) (af 1) (af 2)) aq)) (aC (bz 4 uQ.nd (dC (vX V) hr (ai (af 0) (ai (af 2) (ai (aB (bL (aV hr) (af 1) (af 2)) aq) aw))) ln3)) (aD (bd (DW.dt (cW (bB lL (af 4) dL (bj _)) (cW (bB dG (af 3) aq (bj _)) (dn (bB lu (ci (af 3) (af 4)) (ib (GN V) hr .(h) (af 0)) (bj _)))))) (aD (aN (cM (ai dA .(ao))))) bh))))) (aD (aN dL)))
theorem D7:Cal .(n) P w K mg base "ends_of" 2 11 mW:=
 V.d60.cal (k:=10) sX .(c) fun f cdv A outer s H E hr=>
  (aC (yo 2 sX.nd) (aC (cE cL rfl (bH (ib (j7 V) hr .(h) (af 0))) (aP 3 sX.nd) (aC (bz 4 sX.nd (bL (aV hr) (af 1) (af 3))) (aD (kB 2 (aV hr) (af 3) (ci (aB (af 4) aq) (dC (vX V) hr (ai (af 0) (ai (af 3) (ai (aB (af 4) aq) aw))) ln3)))))) (nW 2 (aD (aN (af 2))))))
theorem Gu:CalM .(n) P w K mg base "Shop" "job_of" 2 9 xN:=
 DfnM.cal (k:=8) V.O_Shop V.d61 Pi .(c) fun f cdv A outer s H E hr=>
  (aD (aN (dC (gE V) hr (ai (LY (aV hr) (jr V.cf_Shop (.tail _ (.tail _ (.tail _ (.tail _ .(p))))) (af 0)) (af 1)) aw) ln1)))
theorem M4:Cal .(n) P w K mg base "broken_job" 3 10 xf:=
 V.d62.cal (k:=9) wF .(c) fun f cdv A outer s H E hr=>
  (aC (cE cL rfl (bH (ib (j7 V) hr .(h) (af 0))) (aP 3 wF.nd) (aC (bz 4 wF.nd (oB (Gu V) hr .(h) (af 0) (ai (af 3) aw) ln1)) (aD (bd (DW.dt (hU (bB rP (af 4) dL (bj _)) (ia (DW.dt (cW (bB dG (aB (bL (aV hr) (af 1) (af 3)) aq) (aB (af 4) aq) (bj _)) (dn (bB lu (bL (aV hr) (af 2) (af 3)) (aB (af 4) aq) (bj _)))))))) (aD (aN (cM (ai dA (ai (af 3) aw))))) bh)))) (aD (aN dL)))
theorem L1:CalM .(n) P w K mg base "Shop" "breaks_of" 2 9 ww:=
 DfnM.cal (k:=8) V.O_Shop V.d63 Lx .(c) fun f cdv A outer s H E hr=>
  (aD (aN (dC (gE V) hr (ai (aB (bL (aV hr) (jr V.cf_Shop (.tail _ .(p)) (af 0)) (af 1)) aq) aw) ln1)))
theorem Ps:Cal .(n) P w K mg base "broken_break" 3 10 xr:=
 V.d64.cal (k:=9) uP .(c) fun f cdv A outer s H E hr=>
  (aC (cE cL rfl (bH (ib (j7 V) hr .(h) (af 0))) (aP 3 uP.nd) (aC (bz 4 uP.nd (aB (bL (aV hr) (af 1) (af 3)) aq)) (aC (bz 5 uP.nd (oB (L1 V) hr .(h) (af 0) (ai (aB (bL (aV hr) (af 1) (af 3)) aq) aw) ln1)) (aD (bd (bS (b8 (vZ rfl) rfl V.z_any (by rfl) (ai (DO.de (cz rfl .(m) (FvOk.of (N':=["begin","until","start","ends","step"]) (fv:=[ab,ab,aa 4,aa 2,aa 3]) rfl) (bH (af 5)) ⟨fun _ _ _ _ _=>⟨(dy (n:=2) rfl (bY (aP 0 (show(["begin","until","start","ends","step"]:ac aj).Nodup by decide +kernel)) (bY (aP 1 (show(["begin","until","start","ends","step"]:ac aj).Nodup by decide +kernel)) dw))),cD,(eO (dM dG (af 2) (af 1) (bj _)) (fJ (dM dG (af 0) (bL (aV hr) (af 3) (af 4)) (bj _))))⟩⟩)) aw))) (aD (aN (cM (ai dA (ai (af 3) aw))))) bh))))) (aD (aN dL)))
theorem BW:Cal .(n) P w K mg base "pairs_of" 1 1 vh:=
 V.d65.cal (k:=0) uN .(c) fun f cdv A outer s H E hr=>
  (aC (iU 1 uN.nd (c6 aw)) (aC (cE cL rfl (lF rfl V.z_enumerate (af 0)) (dy (n:=2) rfl (bY (aP 2 uN.nd) (bY (aP 3 uN.nd) dw))) (aD (x8 1 (DO.de (cz rfl .(m) (FvOk.of (N':=["other","one"]) (fv:=[ab,aa 3]) rfl) (bH (gz (af 0) (fX (ci (af 2) aq)) gK)) ⟨fun _ _ _ _ _=>⟨(aP 0 (show(["other","one"]:ac aj).Nodup by decide +kernel)),cD,(cM (ai (af 1) (ai (af 0) aw)))⟩⟩))))) (ir 1 (aD (aN (af 1))))))
theorem Lc:CalM .(n) P w K mg base "Shop" "setup_of" 4 1 ui:=
 DfnM.cal (k:=0) V.O_Shop V.d66 Qu .(c) fun f cdv A outer s H E hr=>
  (aD (aN (xI (aV hr) (jr V.cf_Shop (.tail _ (.tail _ (.tail _ .(p)))) (af 0)) (cM (ai (af 1) (ai (af 2) (ai (af 3) aw)))) aq)))
theorem BF:CalM .(n) P w K mg base "Shop" "kind_of" 2 1 oU:=
 DfnM.cal (k:=0) V.O_Shop V.d67 Jq .(c) fun f cdv A outer s H E hr=>
  (aD (aN (aB (bL (aV hr) (jr V.cf_Shop (.tail _ (.tail _ .(p))) (af 0)) (af 1)) aq)))
theorem Kr:Cal .(n) P w K mg base "are_too_close" 5 2 uD:=
 V.d68.cal (k:=1) o0 .(c) fun f cdv A outer s H E hr=>
  (aC (bz 5 o0.nd (af 3)) (aC (bz 6 o0.nd (af 4)) (aC (bd (bB dG (aB (bL (aV hr) (af 1) (af 4)) aq) (aB (bL (aV hr) (af 1) (af 3)) aq) (bj _)) (aC (bz 5 o0.nd (af 4)) (aD (bz 6 o0.nd (af 3)))) bh) (aC (bz 7 o0.nd (oB (Lc V) hr .(h) (af 0) (ai (aB (bL (aV hr) (af 1) (af 3)) aq) (ai (oB (BF V) hr .(h) (af 0) (ai (af 5) aw) ln1) (ai (oB (BF V) hr .(h) (af 0) (ai (af 6) aw) ln1) aw))) ln3)) (aD (aN (dM dG (aB (bL (aV hr) (af 1) (af 6)) aq) (ci (bL (aV hr) (af 2) (af 5)) (af 7)) (bj _))))))))
theorem Pv:Cal .(n) P w K mg base "broken_bench" 3 3 wl:=
 V.d69.cal (k:=2) xZ .(c) fun f cdv A outer s H E hr=>
  (aC (cE cL rfl (bH (dC (BW V) hr (ai (ib (j7 V) hr .(h) (af 0)) aw) ln1)) (dy (n:=2) rfl (bY (aP 3 xZ.nd) (bY (aP 4 xZ.nd) dw))) (aD (bd (DW.dt (hU (bB (oJ (fM hr)) (aB (bL (aV hr) (af 1) (af 3)) aq) (aB (bL (aV hr) (af 1) (af 4)) aq) (bj _)) (ia (bS (dC (Kr V) hr (ai (af 0) (ai (af 1) (ai (af 2) (ai (af 3) (ai (af 4) aw))))) ln5))))) (aD (aN (cM (ai dA (ai (af 3) (ai (af 4) aw)))))) bh))) (aD (aN dL)))
theorem J3:CalM .(n) P w K mg base "Shop" "job_rows" 1 9 wu:=
 DfnM.cal (k:=8) V.O_Shop V.d70 Jy .(c) fun f cdv A outer s H E hr=>
  (aD (aN (dC (gE V) hr (ai (jr V.cf_Shop (.tail _ (.tail _ (.head _))) (af 0)) aw) ln1)))
theorem N9:Cal .(n) P w K mg base "broken_apart" 3 10 yi:=
 V.d71.cal (k:=9) oe .(c) fun f cdv A outer s H E hr=>
  (aC (cE cL rfl (bH (ib (J3 V) hr .(h) (af 0))) (aP 3 oe.nd) (aD (cE cL rfl (bH (dC (BW V) hr (ai (aB (af 3) aq) aw) ln1)) (dy (n:=2) rfl (bY (aP 4 oe.nd) (bY (aP 5 oe.nd) dw))) (aC (bz 6 oe.nd (dM v5 (aB (bL (aV hr) (af 1) (af 5)) aq) (bL (aV hr) (af 2) (af 4)) (bj _))) (aC (bz 7 oe.nd (dM v5 (aB (bL (aV hr) (af 1) (af 4)) aq) (bL (aV hr) (af 2) (af 5)) (bj _))) (aD (bd (DW.dt (hU (b7 (bS (af 6))) (ia (DW.dt (cW (bS (aB (af 3) aq)) (dn (b7 (bS (af 7))))))))) (aD (aN (cM (ai dA (ai (af 4) (ai (af 5) aw)))))) bh))))))) (aD (aN dL)))
theorem GX:CalM .(n) P w K mg base "Shop" "link_rows" 1 9 xO:=
 DfnM.cal (k:=8) V.O_Shop V.d72 Le .(c) fun f cdv A outer s H E hr=>
  (aD (aN (dC (gE V) hr (ai (jr V.cf_Shop (.tail _ (.tail _ (.tail _ (.tail _ (.head _))))) (af 0)) aw) ln1)))
theorem Io:Cal .(n) P w K mg base "broken_link" 3 10 xy:=
 V.d73.cal (k:=9) uO .(c) fun f cdv A outer s H E hr=>
  (aC (cE cL rfl (bH (ib (GX V) hr .(h) (af 0))) (dy (n:=3) rfl (bY (aP 3 uO.nd) (bY (aP 4 uO.nd) (bY (aP 5 uO.nd) dw)))) (aD (bd (bB dG (aB (bL (aV hr) (af 1) (af 4)) aq) (ci (bL (aV hr) (af 2) (af 3)) (af 5)) (bj _)) (aD (aN (cM (ai dA (ai (af 3) (ai (af 4) aw)))))) bh))) (aD (aN dL)))
theorem Ij:CalM .(n) P w K mg base "Shop" "stock_rows" 1 9 wR:=
 DfnM.cal (k:=8) V.O_Shop V.d74 Pb .(c) fun f cdv A outer s H E hr=>
  (aD (aN (dC (gE V) hr (ai (jr V.cf_Shop (.tail _ (.tail _ (.tail _ (.tail _ (.tail _ (.head _)))))) (af 0)) aw) ln1)))
theorem Hb:Cal .(n) P w K mg base "level_at" 4 1 uZ:=
 V.d75.cal (k:=0) xH .(c) fun f cdv A outer s H E hr=>
  (aC (bz 4 xH.nd (b8 (DK rfl) rfl V.z_sum (by rfl) (ai (DO.de (cz rfl .(m) (FvOk.of (N':=["step","amount","moment","schedule"]) (fv:=[ab,ab,aa 3,aa 1]) rfl) (bH .(t)) ⟨fun _ _ _ _ _=>⟨(dy (n:=2) rfl (bY (aP 0 (show(["step","amount","moment","schedule"]:ac aj).Nodup by decide +kernel)) (bY (aP 1 (show(["step","amount","moment","schedule"]:ac aj).Nodup by decide +kernel)) dw))),(gM (bB gL (aB (bL (aV hr) (af 3) (af 0)) aq) (af 2) (bj _))),(af 1)⟩⟩)) aw))) (aC (bz 5 xH.nd (b8 (DK rfl) rfl V.z_sum (by rfl) (ai (DO.de (cz rfl .(m) (FvOk.of (N':=["step","amount","moment","ends"]) (fv:=[ab,ab,aa 3,aa 2]) rfl) (bH .(t)) ⟨fun _ _ _ _ _=>⟨(dy (n:=2) rfl (bY (aP 0 (show(["step","amount","moment","ends"]:ac aj).Nodup by decide +kernel)) (bY (aP 1 (show(["step","amount","moment","ends"]:ac aj).Nodup by decide +kernel)) dw))),(gM (bB gL (bL (aV hr) (af 3) (af 0)) (af 2) (bj _))),(af 1)⟩⟩)) aw))) (aD (aN (ci (rf .(t) (af 4)) (af 5))))))
theorem Oq:Cal .(n) P w K mg base "broken_stock" 3 10 wE:=
 V.d76.cal (k:=9) tS .(c) fun f cdv A outer s H E hr=>
  (aC (cE cL rfl (bH (ib (Ij V) hr .(h) (af 0))) (aP 3 tS.nd) (aC (GJ 4 tS.nd rfl .(m) (FvOk.of (N':=["row","schedule"]) (fv:=[ab,aa 1]) rfl) (bH (aB (af 3) aq)) ⟨fun _ _ _ _ _=>⟨(aP 0 (show(["row","schedule"]:ac aj).Nodup by decide +kernel)),cD,(aB (bL (aV hr) (af 1) .(t)) aq)⟩⟩) (aC (x8 4 (DO.de (cz rfl .(m) (FvOk.of (N':=["row","ends"]) (fv:=[ab,aa 2]) rfl) (bH (aB (af 3) aq)) ⟨fun _ _ _ _ _=>⟨(aP 0 (show(["row","ends"]:ac aj).Nodup by decide +kernel)),cD,(bL (aV hr) (af 1) .(t))⟩⟩))) (ir 4 (aD (cE cL rfl (bH (Qx rfl rfl V.z_sorted rfl V.z_set (af 4))) (aP 5 tS.nd) (aD (bd (b7 (Ez gL gL aq (dC (Hb V) hr (ai (af 3) (ai (af 1) (ai (af 2) (ai (af 5) aw)))) ln4) (aB (af 3) aq))) (aD (aN (cM (ai dA (ai (aB (af 3) aq) (ai (af 5) aw)))))) bh)))))))) (aD (aN dL)))
theorem Ee:Cal .(n) P w K mg base "first_broken" 2 12 iV:=
 V.d77.cal (k:=11) jH .(c) fun f cdv A outer s H E hr=>
  (aC (bz 2 jH.nd (dC (Hr V) hr (ai (af 0) .(aa)) ln2)) (aC (bd (bB lL (af 2) dL (bj _)) (aD (bz 2 jH.nd (dC (Jc V) hr (ai (af 0) .(aa)) ln2))) bh) (aC (bd (bB rP (af 2) dL (bj _)) (aD (aN (af 2))) bh) (aC (bz 3 jH.nd (dC (D7 V) hr (ai (af 0) .(aa)) ln2)) (aC (bz 2 jH.nd (dC (M4 V) hr (ai (af 0) (ai (af 1) (ai (af 3) aw))) ln3)) (aC (bd (bB lL (af 2) dL (bj _)) (aD (bz 2 jH.nd (dC (Ps V) hr (ai (af 0) (ai (af 1) (ai (af 3) aw))) ln3))) bh) (aC (bd (bB lL (af 2) dL (bj _)) (aD (bz 2 jH.nd (dC (Pv V) hr (ai (af 0) (ai (af 1) (ai (af 3) aw))) ln3))) bh) (aC (bd (bB lL (af 2) dL (bj _)) (aD (bz 2 jH.nd (dC (N9 V) hr (ai (af 0) (ai (af 1) (ai (af 3) aw))) ln3))) bh) (aC (bd (bB lL (af 2) dL (bj _)) (aD (bz 2 jH.nd (dC (Io V) hr (ai (af 0) (ai (af 1) (ai (af 3) aw))) ln3))) bh) (aC (bd (bB lL (af 2) dL (bj _)) (aD (bz 2 jH.nd (dC (Oq V) hr (ai (af 0) (ai (af 1) (ai (af 3) aw))) ln3))) bh) (aD (aN (af 2)))))))))))))
theorem Mp:Cal .(n) P w K mg base "_law_serves" 6 13 wY:=
 V.d78.cal (k:=12) xT .(c) fun f cdv A outer s H E hr=>
  (aC (bd (bB rP (dC (Ee V) hr (ai (af 0) (ai (af 5) aw)) ln2) dL (bj _)) .(R) bh) (aC (bz 6 xT.nd (dC (wT V) hr (ai (af 5) .(aa)) ln2)) (aC (cE cL rfl (pK (af 5)) (aP 7 xT.nd) (aC (bd (bB lu (bL (aV hr) (af 6) (af 7)) (af 4) (bj _)) .(R) bh) (aD (bd (DW.dt (hU (bB (rE (aV hr)) (af 7) (af 2) (by rfl)) (ia (bB dG (aB (bL (aV hr) (af 2) (af 7)) aq) (af 3) (bj _))))) (aD (bd (bB (iX (fM hr)) (bL (aV hr) (af 5) (af 7)) (bL (aV hr) (af 2) (af 7)) (bj _)) .(R) bh)) (aD (bd (bB dG (aB (bL (aV hr) (af 5) (af 7)) aq) (af 3) (bj _)) .(R) bh)))))) .(R))))
theorem EF:Cal .(n) P w K mg base "begun_of" 3 11 ut:=
 V.d79.cal (k:=10) oP .(c) fun f cdv A outer s H E hr=>
  (aC (bz 3 oP.nd (ib (j7 V) hr .(h) (af 0))) (aC (bz 4 oP.nd (DO.de (cz rfl .(m) (FvOk.of (N':=["name","now","plan"]) (fv:=[ab,aa 2,aa 1]) rfl) (pK (af 1)) ⟨fun _ _ _ _ _=>⟨(aP 0 (show(["name","now","plan"]:ac aj).Nodup by decide +kernel)),(gM (bB dG (aB (bL (aV hr) (af 2) (af 0)) aq) (af 1) (bj _))),(af 0)⟩⟩))) (aC (iA 5 oP.nd rfl .(m) (FvOk.of (N':=["name","names"]) (fv:=[ab,aa 3]) rfl) (bH (af 4)) ⟨fun _ _ _ _ _=>⟨(aP 0 (show(["name","names"]:ac aj).Nodup by decide +kernel)),(gM (bB (oZ (aV hr)) (af 0) (af 1) (by rfl))),(af 0)⟩⟩) (aC (bd (bB lu (b8 fA rfl V.z_len (by rfl) (ai (af 5) aw)) aq (bj _)) (aD xJ) bh) (aC (iA 6 oP.nd rfl .(m) (FvOk.of (N':=["step","begun"]) (fv:=[ab,aa 4]) rfl) (bH (af 3)) ⟨fun _ _ _ _ _=>⟨(aP 0 (show(["step","begun"]:ac aj).Nodup by decide +kernel)),(gM (bB (oT (aV hr)) (af 0) (af 1) (by rfl))),(af 0)⟩⟩) (aC (cE cL rfl (bH (af 6)) (aP 7 oP.nd) (aD (bd (DW.dt (cW (bB dG (aB (bL (aV hr) (af 1) (af 7)) aq) aq (bj _)) (dn (bB lL (dC (vX V) hr (ai (af 0) (ai (af 7) (ai (aB (bL (aV hr) (af 1) (af 7)) aq) aw))) ln3) dL (bj _))))) (aD xJ) bh))) (aD (aN (af 6)))))))))
theorem HQ:Cal .(n) P w K mg base "serves_day" 5 13 tM:=
 V.d80.cal (k:=12) xL .(c) fun f cdv A outer s H E hr=>
  (aC (bz 5 xL.nd (dC (EF V) hr (ai (af 0) (ai (af 1) .(ao))) ln3)) (aC (bd (bB rP (dC (Ee V) hr (ai (af 0) (ai (af 4) aw)) ln2) dL (bj _)) .(R) bh) (aC (bd (bS (b8 (vZ rfl) rfl V.z_any (by rfl) (ai (DO.de (cz rfl .(m) (FvOk.of (N':=["step","schedule","plan"]) (fv:=[ab,aa 4,aa 1]) rfl) (bH (af 5)) ⟨fun _ _ _ _ _=>⟨(aP 0 (show(["step","schedule","plan"]:ac aj).Nodup by decide +kernel)),cD,(dM (iX (fM hr)) (bL (aV hr) (af 1) (af 0)) (bL (aV hr) (af 2) (af 0)) (bj _))⟩⟩)) aw))) .(R) bh) (aC (iA 6 xL.nd rfl .(m) (FvOk.of (N':=["step","begun"]) (fv:=[ab,aa 5]) rfl) (bH (ib (j7 V) hr .(h) (af 0))) ⟨fun _ _ _ _ _=>⟨(aP 0 (show(["step","begun"]:ac aj).Nodup by decide +kernel)),(gM (bB (oZ (aV hr)) (af 0) (af 1) (by rfl))),(af 0)⟩⟩) (aC (bd (bS (b8 (vZ rfl) rfl V.z_any (by rfl) (ai (DO.de (cz rfl .(m) (FvOk.of (N':=["step","now","schedule"]) (fv:=[ab,aa 2,aa 4]) rfl) (bH (af 6)) ⟨fun _ _ _ _ _=>⟨(aP 0 (show(["step","now","schedule"]:ac aj).Nodup by decide +kernel)),cD,(dM dG (aB (bL (aV hr) (af 2) (af 0)) aq) (af 1) (bj _))⟩⟩)) aw))) .(R) bh) (aD (aN (dM gL (IT rfl rfl V.z_max (dC (D7 V) hr (ai (af 0) (ai (af 4) aw)) ln2)) (af 3) (bj _)))))))))
theorem GZ:Cal .(n) P w K mg base "left_of" 3 2 yu:=
 V.d81.cal (k:=1) IU .(c) fun f cdv A outer s H E hr=>
  (aD (aN (DO.de (cz rfl .(m) (FvOk.of (N':=["step","plan","begun"]) (fv:=[ab,aa 1,aa 2]) rfl) (bH (ib (j7 V) hr .(h) (af 0))) ⟨fun _ _ _ _ _=>⟨(aP 0 (show(["step","plan","begun"]:ac aj).Nodup by decide +kernel)),(gM (DW.dt (hU (bB (rE (aV hr)) (af 0) (af 1) (by rfl)) (ia (bB (oZ (aV hr)) (af 0) (af 2) (by rfl)))))),(af 0)⟩⟩))))
theorem NW:Cal .(n) P w K mg base "moved_of" 4 12 wC:=
 V.d82.cal (k:=11) AD .(c) fun f cdv A outer s H E hr=>
  (aC (bz 4 AD.nd (dC (EF V) hr (ai (af 0) (ai (af 1) .(ao))) ln3)) (aD (aN (DO.de (cz rfl .(m) (FvOk.of (N':=["step","schedule","plan"]) (fv:=[ab,aa 3,aa 1]) rfl) (bH (dC (GZ V) hr (ai (af 0) (ai (af 1) (ai (af 4) aw))) ln3)) ⟨fun _ _ _ _ _=>⟨(aP 0 (show(["step","schedule","plan"]:ac aj).Nodup by decide +kernel)),(gM (bB (iX (fM hr)) (bL (aV hr) (af 1) (af 0)) (bL (aV hr) (af 2) (af 0)) (bj _))),(af 0)⟩⟩)))))
theorem Dg:Cal .(n) P w K mg base "_law_asked" 6 14 ox:=
 V.d83.cal (k:=13) mq .(c) fun f cdv A outer s H E hr=>
  (aC (bz 6 mq.nd (DO.de (c6 (ai (hG (C7 rfl) rfl V.z_dict (by rfl) .(ao)) (ai (hG (C7 rfl) rfl V.z_dict (by rfl) (ai (af 5) aw)) aw))))) (aC (bz 7 mq.nd (dC (Mp V) hr (ai (af 0) (ai (af 1) (ai (af 2) (ai (af 3) (ai (af 4) (ai (af 5) aw)))))) ln6)) (aC (bz 8 mq.nd (dC (HQ V) hr (ai (af 0) (ai (aB (af 6) aq) (ai (af 3) (ai (af 4) (ai (aB (af 6) aq) aw))))) ln5)) (aC (bd (DW.dt (cW (b7 (bS (b8 ki rfl V.z_isinstance (by rfl) (ai (af 8) (ai (kF rfl V.z_bool (by rfl)) aw))))) (dn (bB (iX (fM hr)) (af 8) (af 7) (bj _))))) .(R) bh) (aC (iA 9 mq.nd rfl .(m) (FvOk.of (N':=["_law_step","_law_plan"]) (fv:=[ab,aa 2]) rfl) (bH (aB (af 1) aq)) ⟨fun _ _ _ _ _=>⟨(aP 0 (show(["_law_step","_law_plan"]:ac aj).Nodup by decide +kernel)),(gM (bB (rE (aV hr)) .(t) (af 1) (by rfl))),.(t)⟩⟩) (aC (iA 9 mq.nd rfl .(m) (FvOk.of (N':=["_law_name_here","_law_now","_law_plan"]) (fv:=[ab,aa 3,aa 2]) rfl) (bH (af 9)) ⟨fun _ _ _ _ _=>⟨(aP 0 (show(["_law_name_here","_law_now","_law_plan"]:ac aj).Nodup by decide +kernel)),(gM (bB v5 (aB (bL (aV hr) (af 2) (af 0)) aq) (af 1) (bj _))),(af 0)⟩⟩) (aC (iA 7 mq.nd rfl .(m) (FvOk.of (N':=["_law_name_here","_law_made","_law_plan"]) (fv:=[ab,aa 5,aa 2]) rfl) (bH (af 9)) ⟨fun _ _ _ _ _=>⟨(aP 0 (show(["_law_name_here","_law_made","_law_plan"]:ac aj).Nodup by decide +kernel)),(gM (bB (iX (fM hr)) (bL (aV hr) (af 1) (af 0)) (bL (aV hr) (af 2) (af 0)) (bj _))),(af 0)⟩⟩) (aD (aN (eO (dM (oJ (fM hr)) (dC (NW V) hr (ai (af 0) (ai (aB (af 6) aq) (ai (af 3) (ai (aB (af 6) aq) aw)))) ln4) (af 7) (bj _)) (fJ (dM (NC (aV hr)) (af 6) (DO.de (c6 (ai (af 2) (ai (af 5) aw)))) (bj _)))))))))))))
theorem OB  (f:av) (cdv:Value) (A:dB) (outer:ac c8) (s:aH) (H:Hp) (E:XK) (hr:Room 14 (A.deeper (eX "law" (aS (top 98)) s.heap.objs.size f cdv))):DSs .(n) (gH CX0 P w K mg base ["_law_script","_law_horizon","_law_lists_here","_law_shop_here","_law_plan","_law_now","_law_whole","_law_cell_here","_law_made","_law_limit"] "law" (aS (top 98)) f cdv A outer s H E).nox (dS (top 98)) Ad:=
  (aC (bz 1 je.nd (ci aq (c3 .(an) aq))) (aC (bz 2 je.nd (dC (On V) hr (ai (af 0) (ai (ci aq (c3 .(an) aq)) (ai (af 1) (ai aq aw)))) ln4)) (aC (bz 3 je.nd (dC (II V) hr .(ao) ln1)) (aC (bz 4 je.nd (dC (Gi V) hr (ai (af 0) (ai aq .(ao))) ln3)) (aC (bz 5 je.nd (c3 .(an) (ci (af 1) aq))) (aC (xj 6 je.nd (BA V) hr .(h) rfl .(ao) ln1) (nW 6 (aC (bd (b7 (bS (dC (PX V) hr (ai (af 4) (ai (af 2) (ai (af 5) aw))) ln3))) (aD (bz 4 je.nd (af 6))) bh) (aC (cE cL rfl (bH (ci (DO.de (c6 (ai aq (ai .(an) aw)))) (gz (af 0) (fX aq) (fX aq)))) (aP 7 je.nd) (aC (bz 8 je.nd (dC (OX V) hr (ai (af 6) (ai (af 2) (ai (af 7) aw))) ln3)) (aC (bz 9 je.nd (aB (DO.de (c6 (ai (af 1) (ai (c3 (kx (af 7) aq) (ci (af 1) aq)) aw)))) (c3 (af 7) aq))) (aC (bd (b7 (bS (dC (Dg V) hr (ai (af 3) (ai (af 2) (ai (af 4) (ai (af 5) (ai (af 9) (ai (af 8) aw)))))) ln6))) .(R) bh) (aD (bd (b7 (bS (dC (Dg V) hr (ai (af 3) (ai (af 2) (ai (af 6) (ai (c3 (kx (af 7) aq) (ci (af 1) aq)) (ai (af 9) (ai (af 8) aw)))))) ln6))) .(R) bh)))))) .(R))))))))))
end
theorem i2:gw "int" "int"=aa ah:=rfl
theorem i3:gw "int" "bool"=aa ao:=rfl
theorem i5:gw "bool" "bool"=aa ah:=rfl
theorem k1:gw "list" "list"=aa ah:=rfl
theorem k2:gw "tuple" "list"=aa ao:=rfl
theorem k3:gw "tuple" "tuple"=aa ah:=rfl
theorem k4:gw "str" "list"=aa ao:=rfl
theorem k5:gw "str" "tuple"=aa ao:=rfl
theorem k6:gw "int" "list"=aa ao:=rfl
theorem k7:gw "int" "tuple"=aa ao:=rfl
theorem k8:gw "bool" "list"=aa ao:=rfl
theorem k9:gw "bool" "tuple"=aa ao:=rfl
theorem k10:gw "NoneType" "list"=aa ao:=rfl
theorem k11:gw "NoneType" "tuple"=aa ao:=rfl
theorem sz1:(1<=aW)=True:=by simp[aW]
theorem sz2:(1+1<=aW)=True:=by simp[aW]
theorem sz3:(1+1+1<=aW)=True:=by simp[aW]
theorem sz4:(1+1+1+1<=aW)=True:=by simp[aW]
theorem sz5:(1+1+1+1+1<=aW)=True:=by simp[aW]
theorem sz6:(1+1+1+1+1+1<=aW)=True:=by simp[aW]
theorem sz7:(1+1+1+1+1+1+1<=aW)=True:=by simp[aW]
section
variable {x0 x1 x2 x3 x4:D} {r:ac D}
theorem lA (l:ac α) (n:al):atI l (n:ag)=l[n]?:=by
 unfold atI ixN;rw[qY .(f)];by_cases h:n<l.length
 .rw[qY .(f)];simp
 .rw[qZ .(f)];simp;omega
theorem cI:ixD (.tup (x0::r)) (.int 0)=aa x0:=lA _ 0
theorem cw:ixD (.tup (x0::x1::r)) (.int 1)=aa x1:=lA _ 1
theorem i8:ixD (.tup (x0::x1::x2::r)) (.int 2)=aa x2:=lA _ 2
theorem km:ixD (.tup (x0::x1::x2::x3::r)) (.int 3)=aa x3:=lA _ 3
theorem gN:ixD (.tup (x0::x1::x2::x3::x4::r)) (.int 4)=aa x4:=lA _ 4
end
theorem yd {fe:FE} {r:bi} {f:D->D}:∀{xs:ac D} {a:ar Slot},(∀x∈xs,fe (oS x::r)=aa (f x))->gv (aA 0) tT fe xs (a::r)=aa (xs.map f)
 |[],_,_=>rfl
 |x::xs,a,h=>by have h1:=h x qh;have ih:=yd (xs:=xs) (a:=oS x) fun y hy=>h y (qi _ hy);simp only[gv,aA,pF,qc,tT,cK,h1,ih,qf,qo]
theorem AR:∀{l:ac D},(∀x∈l,x=.bl ah)->∃bs:ac aQ,iO l=aa bs/\bs.all id=ah
 |[],_=>⟨[],rfl,rfl⟩
 |x::r,h=>by obtain⟨bs,h1,h2⟩:=AR (l:=r) fun y hy=>h y (qi _ hy);have hx:=h x qh;subst hx;exact⟨ah::bs,by simp[iO,h1],by simpa using h2⟩
theorem iw {r:bi} {a:ar Slot} (h1:fi ρ=aa xs) (h2:xs.length<=aW) (h3:fy fv ρ=a::r) (h:∀x∈xs,fe (oS x::r)=aa (.bl ah)) :
  cF fK (ae (aI (aZ fi (aA 0) tT fe fv)) ak) ρ=aa (.bl ah):=by
 have c:=yd (a:=a) (f:=fun _=>.bl ah) h;obtain⟨bs,e1,e2⟩:=AR (l:=xs.map fun _=>D.bl ah) (by simp);simp only[cF,ae,ak,aI,aZ,h1,qc,qY h2,h3,c,qf,fK,e1];simpa using e2
theorem iC {r:bi} {a:ar Slot} {f:D->D} (h1:fi ρ=aa xs) (h2:xs.length<=aW) (h3:fy fv ρ=a::r) (h:∀x∈xs,fe (oS x::r)=aa (f x)) :
  aI (aZ fi (aA 0) tT fe fv) ρ=aa (.lst (xs.map f)):=by
 simp only[aI,aZ,h1,qc,qY h2,h3,yd (a:=a) h,qf]
theorem eF (I:al->bi->Prop) (h0:I 0 ρ) (hs:∀i x ρ,xs[i]?=aa x->I i ρ->∃ρ1 ρ2,gg x ρ=aa ρ1/\body ρ1=aa (.nx,ρ2)/\I (i+1) ρ2) :
  ∃ρ',gB gg body xs ρ=aa (.nx,ρ')/\I xs.length ρ':=by
 have key:∀(ys:ac D) (k:al) (ρ:bi),xs.drop k=ys->I k ρ->∃ρ',gB gg body ys ρ=aa (.nx,ρ')/\I (k+ys.length) ρ':=by
  intro ys
  induction ys with
  |nil=>intro k ρ _ hk;exact⟨ρ,rfl,hk⟩
  |cons y r ih=>
   intro k ρ hd hk;have hy:xs[k]?=aa y:=by
    have:(xs.drop k)[0]?=aa y:=by rw[hd];rfl
    simpa using this
   obtain⟨ρ1,ρ2,h1,h2,h3⟩:=hs k y ρ hy hk;have hd':xs.drop (k+1)=r:=by rw[←List.drop_drop,hd];rfl
   obtain⟨ρ',h4,h5⟩:=ih (k+1) ρ2 hd' h3;refine⟨ρ',?_,by rw[qj];rwa [show k+1+r.length=k+(r.length+1) by omega] at h5⟩;simp only[gB,h1,qc,h2,h4]
 obtain⟨ρ',h1,h2⟩:=key xs 0 ρ rfl h0;exact⟨ρ',h1,by rwa [j4] at h2⟩
theorem Dv:(2:ag) ^ 62=4611686018427387904:=by decide +kernel
theorem CH {i j:ag} (h:0<=i/\i<=1000000/\0<=j/\j<=1000000):ly [.int i,.int j]=aa ((cV (j-i).toNat).map fun k:al=>D.int (i+k)):=by unfold ly;rw[Dv];exact qY ⟨by omega,by omega,by omega,by omega⟩
theorem ou {j:ag} (h:0<=j/\j<=1000000):gq [.int j]=aa ((cV j.toNat).map fun i:al=>D.int (0+i)):=by unfold gq;rw[Dv];exact qY ⟨by omega,by omega⟩
theorem mT {g:ac D->ar (ac D)} {r:ac D} (h1:fr ρ=aa ds) (h2:g ds=aa r):itR g fr ρ=aa r:=by unfold itR;rw[h1];exact h2
theorem au {g:D->D->ar D} {x:D} (h1:fa ρ=aa x) (h2:fb ρ=aa y) (h3:g x y=aa z):b2 g fa fb ρ=aa z:=by unfold b2;rw[h1,qc,h2,qc];exact h3
theorem aU {g:FQ} (h1:fr ρ=aa ds) (h2:g ds=aa z):cF g fr ρ=aa z:=by unfold cF;rw[h1];exact h2
theorem ay (h1:f ρ=aa d) (h2:fr ρ=aa ds):ae f fr ρ=aa (d::ds):=by unfold ae;rw[h1,qc,h2];rfl
theorem aL :ak ρ=aa []:=rfl
theorem xB (h:g (ds.map (fun d=>aa (Slot.sh d))++cq n ab)=aa (.rt d,ρ')):a6 n g ds=aa d:=by unfold a6;rw[h];rfl
theorem bM (ρ:bi) (e:ds.map (fun d=>aa (Slot.sh d))++cq n ab=ρ) (h:g ρ=aa (.rt d,ρ')):a6 n g ds=aa d:=by subst e;exact xB h
theorem bU (h:f ρ=aa d):aE f ρ=aa (.rt d,ρ):=by unfold aE;rw[h];rfl
theorem aY {b:aQ} (h:f ρ=aa (.bl b)):toB f ρ=aa b:=by unfold toB;rw[h];rfl
theorem mO {A:FE} {X E:FS} (hA:A ρ=aa (.bl ah)):ax (sIf (bD (toB A)) X aK) E ρ=E ρ:=by simp only[ax,sIf,bD,aY hA,qf,qc,iL,qr,c9,aK]
theorem i7 {A B:FE} {X E:FS} (hA:A ρ=aa (.bl ah)) (hB:B ρ=aa (.bl ah)):ax (sIf (orT (bD (toB A)) (bD (toB B))) X aK) E ρ=E ρ:=by simp only[ax,sIf,orT,bD,aY hA,aY hB,qf,qc,iL,qr,c9,aK]
theorem Hv {A B C:FE} {X E:FS} (hA:A ρ=aa (.bl ah)) (hB:B ρ=aa (.bl ah)) (hC:C ρ=aa (.bl ah)):ax (sIf (orT (bD (toB A)) (orT (bD (toB B)) (bD (toB C)))) X aK) E ρ=E ρ:=by simp only[ax,sIf,orT,bD,aY hA,aY hB,aY hC,qf,qc,iL,qr,c9,aK]
theorem DL {A B:FE} (hA:A ρ=aa (.bl ah)) (hB:B ρ=aa (.bl ah)):cO A B ρ=aa (.bl ah):=by simp only[cO,hA,hB,qc]
theorem a9 (h:f ρ=aa d):ax (aJ i f) g ρ=g (ρ.set i (oS d)):=by simp only[ax,aJ,h,qf,qc]
theorem Ml (i:ag):ug [.int i]=aa (.bl ah):=by simp only[ug,a6,aE,cO,tp,cF,ae,ak,vSh,vC,dO,tyD,qo,qN,qq,qQ,cq,qd,qc,qf,l7,i2,i3]
theorem iZ (i a b:ag) (h:a<=i/\i<=b):gS [.int i,.int a,.int b]=aa (.bl ah):=by simp only[gS,Ml,a6,aE,cO,cF,ae,ak,vSh,chD,leD,qo,qN,qq,qQ,cq,qd,qe,qc,qf,qR h.1,qR h.2]
theorem jz (l:ac D) (a b:ag) (h:a<=l.length/\(l.length:ag)<=b):g0 [.lst l,.int a,.int b]=aa (.bl ah):=by simp only[g0,a6,aE,cO,cF,ae,ak,vSh,vC,chD,dO,tyD,b9,leD,qo,qN,qq,qQ,cq,qd,qe,qc,qf,k1,qR h.1,qR h.2]
theorem uf (l:ac D) (n:ag) (h:(l.length:ag)=n):f9 [.tup l,.int n]=aa (.bl ah):=by simp only[f9,a6,aE,cO,cF,ae,ak,vSh,vC,b2,dO,tyD,b9,eqD,eqS,qo,qN,qq,qQ,cq,qd,qe,qc,qf,k3,qR h]
section
variable {a b c e:D}
theorem tH:f9 [.tup [a,b],.int 2]=aa (.bl ah):=uf _ _ rfl
theorem B4:f9 [.tup [a,b,c],.int 3]=aa (.bl ah):=uf _ _ rfl
theorem Hn:f9 [.tup [a,b,c,d],.int 4]=aa (.bl ah):=uf _ _ rfl
theorem AY:f9 [.tup [a,b,c,d,e],.int 5]=aa (.bl ah):=uf _ _ rfl
end
noncomputable def dIv (p:ag×ag):D:=.tup [.int p.1,.int p.2]
theorem N3 (p:ag×ag) (h:ag) (h1:0<=p.1) (h2:p.1<p.2) (h3:p.2<=h):u0 [dIv p,.int h]=aa (.bl ah):=by simp only[u0,dIv,a6,ax,sIf,aE,aK,orT,bD,toB,cF,ae,ak,vSh,vC,b2,ltD,cI,cw,qo,qN,qq,qQ,cq,qd,qe,qc,qf,c9,iL,qr,tH,iZ p.1 0 h ⟨h1,by omega⟩,iZ p.2 0 h ⟨by omega,h3⟩,qR h2]
noncomputable def az (c:al):aQ:=!ltS ⟨#[c]⟩ "a" && !ltS "z" ⟨#[c]⟩
theorem OL {c:al} (h:az c=ah):c<=122:=by
 have z:("z":aj)=⟨#[122]⟩:=by decide +kernel
 unfold az ltS at h;rw[z] at h;simp only[fU,vR,FO] at h;have h2:=h.2;rcases ik 122 c with q|q
 .exact bK (show([122]:ac al) < [c] from List.Lex.rel q) h2
 .exact q
theorem Qh (c:al) (r:bi):chD leD leD (vC (.str "a")) (vSh 0) (vC (.str "z")) (oS (.str ⟨#[c]⟩)::r)=aa (.bl (az c)):=by simp only[chD,vC,vSh,qd,qc,leD,az];cases ltS ⟨#[c]⟩ "a"<;>simp
noncomputable def ba (x:aj):aQ:=decide (1<=x.length) && decide (x.length<=8) && x.cps.toList.all az
theorem O7 (h:ba x=ah):1<=x.length/\x.length<=8:=by unfold ba at h;simp only[fU,l0] at h;exact h.1
theorem Dk (h:ba x=ah):∀c∈x.cps.toList,az c=ah:=by unfold ba at h;simp only[fU,sA] at h;exact h.2
theorem lG (h:ba x=ah):jR [.str x]=aa (.bl ah):=by
 obtain⟨h1,h2⟩:=O7 h;have hz:x.length<=aW:=by unfold aW;omega
 have hl:(x.cps.toList.map fun c=>D.str ⟨#[c]⟩).length<=aW:=by simpa[so] using hz
 have e1:decide ((1:ag)<=(x.length:al))=ah:=qR .(f);have e2:decide (((x.length:al):ag)<=8)=ah:=qR .(f);have ha:=iw (fi:=itS (vSh 0)) (fe:=chD leD leD (vC (.str "a")) (vSh 0) (vC (.str "z"))) (fv:=[ab]) (ρ:=[oS (.str x)]) (r:=[]) (a:=ab) (xs:=x.cps.toList.map fun c=>D.str ⟨#[c]⟩)
  (by simp[itS,vSh,xg]) hl rfl (fun y hy=>by obtain⟨c,hc,rfl⟩:=bC.mp hy;rw[Qh,Dk h c hc])
 refine xB (ρ':=[oS (.str x)]) ((i7 ?_ ?_).trans (bU ha))
 .rfl
 .show chD leD leD .(d) (cF b9 .(ai)) (vC (.int 8)) [oS (.str x)]=_;simp only[cF,ae,ak,vSh,vC,chD,b9,leD,qd,qc,qf,qY hz,e1,e2]
theorem sT (h:ba x=ah):Sw x=ah:=by unfold Sw;rw[Array.all_eq_true'];intro c hc;have:=OL (Dk h c (by simpa using hc));exact qR .(f)
theorem rD:∀(ns:ac aj),gA (ns.map D.str)=aa (ns.map fH)
 |[]=>by simp[gA]
 |x::r=>by simp[gA,pdD,rD r]
theorem mN:∀{ns:ac aj},(∀x∈ns,ba x=ah)->j2 (ns.map fH)=ah
 |[],_=>by simp[j2]
 |x::r,h=>by simp only[qo,j2,kY,sT (h x qh),nI];exact mN fun y hy=>h y (qi _ hy)
theorem CG (x:aj):∀(ns:ac aj),((ns.map fH).any fun z=>il z (.str x))=decide (x∈ns)
 |[]=>by simp
 |y::r=>by
  have ih:=CG x r;rw[qo,kS,ih];simp only[il];by_cases e:y=x
  .subst e;simp
  .have:x≠y:=fun z=>e z.symm;simp[e,this]
theorem mR (hx:ba x=ah) (hn:∀y∈ns,ba y=ah):fz (.str x) (.lst (ns.map D.str))=aa (.bl (decide (x∈ns))):=by
 have sh:eA (.str x)=ah:=by simp[eA,kY,sT hx,mf]
 simp only[fz,inX,pdD,rD,qf,qc,sh,mN hn,vU,cK,CG]
theorem oy (hx:x∈ns) (hn:∀y∈ns,ba y=ah):j9 [.str x,.lst (ns.map D.str)]=aa (.bl ah):=by simp only[j9,a6,aE,cO,cF,ae,ak,vSh,b2,qo,qN,qq,qQ,cq,qd,qe,qc,qf,lG (hn x hx),mR (hn x hx) hn,qR hx]
theorem Aa [eV κ] {l:ac κ} (h:l.Nodup):ST.dd l=l:=by
 have key:∀(l a:ac κ),(a++l).Nodup->l.foldl (fun a k=>if k∈a then a else a++[k]) a=a++l:=by
  intro l
  induction l with
  |nil=>intro a _;simp
  |cons x r ih=>
   intro a hn;have hx:x∉a:=by intro z;rw[kZ] at hn;exact hn.2.2 x z x qh rfl
   rw[kR,qZ hx,ih (a++[x]) (by simpa using hn)];simp
 simpa[ST.dd] using key l [] (by simpa using h)
theorem tK:∀(ns:ac aj),gT (ns.map D.str)=aa (ns.map cG)
 |[]=>by simp[gT]
 |x::r=>by simp[gT,gJ,tK r]
theorem m9 (h:ns.Nodup) (hl:ns.length<=300):fQ [.lst (ns.map D.str)]=aa (.bl ah):=by have hd:(ns.map (cG:aj->Key)).Nodup:=nK _ (fun a b hab z=>hab (gF z)) h;simp only[fQ,a6,aE,cF,ae,ak,vSh,b1,b2,b9,eqD,eqS,qo,qN,qq,qQ,cq,qd,qc,qf,n9,qg,qY hl,tK,Aa hd];simp
theorem Cf:∀(ts:ac (ac aj)),mi (ts.map fun t=>.tup (t.map D.str))=aa (ts.map fun t=>t.map cG)
 |[]=>by simp[mi]
 |t::r=>by simp[mi,tK,Cf r]
theorem BX {ts:ac (ac aj)} (h:ts.Nodup) (hl:ts.length<=300):fQ [.lst (ts.map fun t=>.tup (t.map D.str))]=aa (.bl ah):=by
 have inj:∀a b:ac aj,a.map (cG:aj->Key)=b.map cG->a=b:=fun a b z=>(Sx (fun x y q=>gF q)).mp z;have hd:(ts.map fun t=>t.map (cG:aj->Key)).Nodup:=nK _ (fun a b hab z=>hab (inj a b z)) h;cases ts with
 |nil=>simp only[fQ,a6,aE,cF,ae,ak,vSh,b1,b2,b9,eqD,eqS,qo,qN,qq,qQ,cq,qd,qc,qf,qm,n9,gT,ST.dd];simp
 |cons t r=>
  have e:gT ((t::r).map fun t=>D.tup (t.map D.str))=ab:=by simp[gT,gJ]
  simp only[fQ,a6,aE,b2,b1,vSh,qo,qN,qq,qQ,cq,qd,qc,n9,cF,ae,ak,b9,qf];rw[qY (by simpa using hl)];have e':=e;rw[qo] at e';rw[e'];have t':=Cf (t::r);rw[qo] at t';rw[t'];rw[qf,Aa hd];simp[eqD,eqS]
structure BenchT where
 nm:aj
 br:ac (ag×ag)
structure StepT where
 nm:aj
 kd:aj
 ws:ac (aj×ag)
structure JobT where
 nm:aj
 ea:ag
 du:ag
 od:aQ
 ms:ac aj
structure SetT where
 b:aj
 p:aj
 q:aj
 n:ag
structure LinkT where
 a:aj
 b:aj
 g:ag
structure StockT where
 nm:aj
 lo:ag
 hi:ag
 tk:ac (aj×ag)
 pt:ac (aj×ag)
noncomputable def dW (w:aj×ag):D:=.tup [.str w.1,.int w.2]
noncomputable def cx (b:BenchT):D:=.tup [.str b.nm,.lst (b.br.map dIv)]
noncomputable def bJ (s:StepT):D:=.tup [.str s.nm,.str s.kd,.lst (s.ws.map dW)]
noncomputable def bA (j:JobT):D:=.tup [.str j.nm,.int j.ea,.int j.du,.bl j.od,.lst (j.ms.map D.str)]
noncomputable def cU (u:SetT):D:=.tup [.str u.b,.str u.p,.str u.q,.int u.n]
noncomputable def c5 (l:LinkT):D:=.tup [.str l.a,.str l.b,.int l.g]
noncomputable def cZ (k:StockT):D:=.tup [.str k.nm,.int k.lo,.int k.hi,.lst (k.tk.map dW),.lst (k.pt.map dW)]
structure GoodB (h:ag) (b:BenchT):Prop where
 nm:ba b.nm=ah
 len:b.br.length<=10
 iv:∀p∈b.br,0<=p.1/\p.1<p.2/\p.2<=h
 gap:∀(i:al) p q,b.br[i]?=aa p->b.br[i+1]?=aa q->p.2<q.1
structure GoodS (bn:ac aj) (h:ag) (s:StepT):Prop where
 nm:ba s.nm=ah
 kd:ba s.kd=ah
 l1:1<=s.ws.length
 l4:s.ws.length<=4
 ws:∀w∈s.ws,w.1∈bn/\1<=w.2/\w.2<=h
 nd:(s.ws.map (·.1)).Nodup
structure GoodJ (sn:ac aj) (h:ag) (j:JobT):Prop where
 nm:ba j.nm=ah
 ea:0<=j.ea/\j.ea<=h
 du:0<=j.du/\j.du<=h
 l1:1<=j.ms.length
 ln:j.ms.length<=sn.length
 ms:∀m∈j.ms,m∈sn
structure GoodU (bn:ac aj) (h:ag) (u:SetT):Prop where
 b:u.b∈bn
 p:ba u.p=ah
 q:ba u.q=ah
 n:1<=u.n/\u.n<=h
structure GoodL (sn:ac aj) (h:ag) (l:LinkT):Prop where
 a:l.a∈sn
 b:l.b∈sn
 ne:l.a≠l.b
 g:0<=l.g/\l.g<=h
structure GoodA (sn:ac aj) (am:ac (aj×ag)):Prop where
 ln:am.length<=sn.length
 ws:∀w∈am,w.1∈sn/\1<=w.2/\w.2<=1000000
 nd:(am.map (·.1)).Nodup
structure GoodK (sn:ac aj) (k:StockT):Prop where
 nm:ba k.nm=ah
 lo:0<=k.lo/\k.lo<=k.hi
 hi:0<=k.hi/\k.hi<=1000000
 tk:GoodA sn k.tk
 pt:GoodA sn k.pt
structure Good (bs:ac BenchT) (ss:ac StepT) (js:ac JobT) (us:ac SetT) (ls:ac LinkT) (ks:ac StockT) (hz:ag):Prop where
 hh:1<=hz/\hz<=1000000
 bl:1<=bs.length/\bs.length<=8
 b:∀x∈bs,GoodB hz x
 bn:(bs.map (·.nm)).Nodup
 sl:1<=ss.length/\ss.length<=40
 s:∀x∈ss,GoodS (bs.map (·.nm)) hz x
 sn:(ss.map (·.nm)).Nodup
 jl:js.length<=40
 j:∀x∈js,GoodJ (ss.map (·.nm)) hz x
 jn:(js.map (·.nm)).Nodup
 jm:(js.flatMap (·.ms)).Nodup
 ul:us.length<=100
 u:∀x∈us,GoodU (bs.map (·.nm)) hz x
 un:(us.map fun u=>[u.b,u.p,u.q]).Nodup
 ll:ls.length<=100
 l:∀x∈ls,GoodL (ss.map (·.nm)) hz x
 ln:(ls.map fun l=>[l.a,l.b]).Nodup
 kl:ks.length<=6
 k:∀x∈ks,GoodK (ss.map (·.nm)) x
 kn:(ks.map (·.nm)).Nodup
theorem ixL (l:ac D) (n:al):ixD (.lst l) (.int (n:ag))=l[n]?:=lA l n
theorem szN {k:al} (h:n<=k) (hk:k<=1000):n<=aW:=by unfold aW;omega
variable {ss:ac StepT}
section
variable {bn:ac aj}
theorem Mx (len:br.length<=10) (gap:∀(i:al) p q,br[i]?=aa p->br[i+1]?=aa q->p.2<q.1) :
  cF fK (ae (aI (aZ (itR ly (ae .(d) (ae (cF b9 .(ai)) ak))) (aA 0) tT (b2 ltD (b2 ixD (b2 ixD (vSh 1) (b2 ic (vSh 0) .(d))) .(d)) (b2 ixD (b2 ixD (vSh 1) (vSh 0)) .(e))) [ab,aa 0])) ak) [oS (.lst (br.map dIv)),oS (.int h)]=aa (.bl ah):=by
 have e0:itR ly (ae .(d) (ae (cF b9 .(ai)) ak)) [oS (.lst (br.map dIv)),oS (.int h)]=aa ((cV (((br.map dIv).length:ag)-1).toNat).map fun k:al=>D.int (1+k)):=by exact mT rfl (CH (i:=1) (j:=((br.map dIv).length:al)) (by rw[qg];omega))
 refine iw (r:=[oS (.lst (br.map dIv))]) (a:=ab) e0 ?_ rfl fun x hx=>?_
 .simp only[qg,qT];exact szN (k:=10) .(f) .(h)
 .obtain⟨k,hk,rfl⟩:=bC.mp hx;rw[fB,qg] at hk;have hk1:k<br.length:=by omega
  have hk2:k+1<br.length:=by omega
  have e1:br[k]?=aa br[k]:=by simp[hk1]
  have e2:br[k+1]?=aa br[k+1]:=by simp[hk2]
  have g:=gap k _ _ e1 e2;have a1:ixD (.lst (br.map dIv)) (.int (1+(k:ag)-1))=aa (dIv br[k]):=by
   have:(1+(k:ag)-1)=((k:al):ag):=by omega
   rw[this,ixL,ql,e1];rfl
  have a2:ixD (.lst (br.map dIv)) (.int (1+(k:ag)))=aa (dIv br[k+1]):=by
   have:(1+(k:ag))=((k+1:al):ag):=by omega
   rw[this,ixL,ql,e2];rfl
  simp only[vSh,vC,b2,ltD,ic,qd,qe,qc,a1,a2];simp only[dIv,cI,cw,qc,qR g]
theorem HN (len:br.length<=10) (iv:∀p∈br,0<=p.1/\p.1<p.2/\p.2<=h) (gap:∀(i:al) p q,br[i]?=aa p->br[i+1]?=aa q->p.2<q.1) :
  xc [.lst (br.map dIv),.int h]=aa (.bl ah):=by
 refine bM [oS (.lst (br.map dIv)),oS (.int h)] rfl ((i7 ?_ (iw (r:=[oS (.int h)]) (a:=ab) (xs:=br.map dIv) rfl (by rw[qg];exact szN len .(h)) rfl fun x hx=>?_)).trans (bU (Mx len gap)))
 .exact jz _ 0 10 ⟨by omega,by rw[qg];omega⟩
 .obtain⟨p,hp,rfl⟩:=bC.mp hx;obtain⟨h1,h2,h3⟩:=iv p hp;exact N3 p h h1 h2 h3
theorem IN {b:BenchT} (g:GoodB h b):vg [cx b,.int h]=aa (.bl ah):=by simp only[vg,cx,a6,aE,cO,cF,ae,ak,vSh,vC,b2,cI,cw,qo,qN,qq,qQ,cq,qd,qe,qc,qf,tH,lG g.nm,HN g.len g.iv g.gap]
theorem ku {f:α->D} {nm:α->aj} {xs:ac α} (hf:∀x,∃r,f x=.tup (.str (nm x)::r)) (h1:vSh i ρ=aa (.lst (xs.map f))) (h2:xs.length<=aW) (h3:fy fv ρ=[ab]) :
  aI (aZ (itF (vSh i)) (aA 0) tT .(q) fv) ρ=aa (.lst ((xs.map nm).map D.str)):=by
 have hc:=iC (fi:=itF (vSh i)) (fe:=b2 ixD (vSh 0) .(e)) (fv:=fv) (ρ:=ρ) (r:=[]) (a:=ab) (xs:=xs.map f) (f:=fun d=>match d with|.tup (x::_)=>x|_=>.non) (by unfold itF;rw[h1];rfl) (by rw[qg];exact h2) h3 (fun x hx=>by obtain⟨y,_,rfl⟩:=bC.mp hx;obtain⟨r,e⟩:=hf y;simp only[b2,vSh,vC,qd,qc,e,cI])
 rw[hc]
 congr 2
 rw[qp,qp];refine pG fun x _=>?_;obtain⟨r,e⟩:=hf x;simp[e]
theorem Lh {bs:ac BenchT} (l1:1<=bs.length) (l8:bs.length<=8) (g:∀x∈bs,GoodB h x) (nd:(bs.map (·.nm)).Nodup):xw [.lst (bs.map cx),.int h]=aa (.bl ah):=by
 refine bM [oS .(aB),oS (.int h)] rfl ((i7 ?_ (iw (r:=[oS (.int h)]) (a:=ab) (xs:=bs.map cx) rfl (by rw[qg];exact szN l8 .(h)) rfl fun x hx=>?_)).trans (bU ?_))
 .exact jz _ 1 8 ⟨by rw[qg];omega,by rw[qg];omega⟩
 .obtain⟨p,hp,rfl⟩:=bC.mp hx;exact IN (g p hp)
 .have:=ku (i:=0) (fv:=[ab]) (ρ:=[oS .(aB),oS (.int h)]) (f:=cx) (nm:=(·.nm)) (xs:=bs) (fun x=>⟨_,rfl⟩) rfl (szN l8 .(h)) rfl;simp only[cF,ae,ak,this,qc,qf];exact m9 nd (by rw[qg];omega)
theorem Kt {w:aj×ag} (hb:∀y∈bn,ba y=ah) (g:w.1∈bn/\1<=w.2/\w.2<=h):ux [dW w,.lst (bn.map D.str),.int h]=aa (.bl ah):=by simp only[ux,dW,a6,aE,cO,cF,ae,ak,vSh,vC,b2,cI,cw,qo,qN,qq,qQ,cq,qd,qe,qc,qf,tH,oy g.1 hb,iZ w.2 1 h g.2]
theorem Om (hb:∀y∈bn,ba y=ah) (l1:1<=ws.length) (l4:ws.length<=4) (g:∀w∈ws,w.1∈bn/\1<=w.2/\w.2<=h) (nd:(ws.map (·.1)).Nodup):ya [.lst (ws.map dW),.lst (bn.map D.str),.int h]=aa (.bl ah):=by
 refine bM [oS (.lst (ws.map dW)),oS (.lst (bn.map D.str)),oS (.int h)] rfl ((i7 ?_ (iw (r:=[oS (.lst (bn.map D.str)),oS (.int h)]) (a:=ab) (xs:=ws.map dW) rfl (by rw[qg];exact szN l4 .(h)) rfl fun x hx=>?_)).trans (bU ?_))
 .exact jz _ 1 4 ⟨by rw[qg];omega,by rw[qg];omega⟩
 .obtain⟨p,hp,rfl⟩:=bC.mp hx;exact Kt hb (g p hp)
 .have:=ku (i:=0) (fv:=[ab]) (ρ:=[oS (.lst (ws.map dW)),oS (.lst (bn.map D.str)),oS (.int h)]) (f:=dW) (nm:=(·.1)) (xs:=ws) (fun x=>⟨_,rfl⟩) rfl (szN l4 .(h)) rfl;simp only[cF,ae,ak,this,qc,qf];exact m9 nd (by rw[qg];omega)
theorem Oc {s:StepT} (hb:∀y∈bn,ba y=ah) (g:GoodS bn h s):uF [bJ s,.lst (bn.map D.str),.int h]=aa (.bl ah):=by simp only[uF,bJ,a6,ax,sIf,aE,aK,orT,bD,toB,cF,ae,ak,vSh,vC,b2,cI,cw,i8,qo,qN,qq,qQ,cq,qd,qe,qc,qf,c9,iL,qr,B4,lG g.nm,lG g.kd,Om hb g.l1 g.l4 g.ws g.nd]
theorem Hx (hb:∀y∈bn,ba y=ah) (l1:1<=ss.length) (l4:ss.length<=40) (g:∀s∈ss,GoodS bn h s) (nd:(ss.map (·.nm)).Nodup):yH [.lst (ss.map bJ),.lst (bn.map D.str),.int h]=aa (.bl ah):=by
 refine bM [oS .(al),oS (.lst (bn.map D.str)),oS (.int h)] rfl ((i7 ?_ (iw (r:=[oS (.lst (bn.map D.str)),oS (.int h)]) (a:=ab) (xs:=ss.map bJ) rfl (by rw[qg];exact szN l4 .(h)) rfl fun x hx=>?_)).trans (bU ?_))
 .exact jz _ 1 40 ⟨by rw[qg];omega,by rw[qg];omega⟩
 .obtain⟨p,hp,rfl⟩:=bC.mp hx;exact Oc hb (g p hp)
 .have:=ku (i:=0) (fv:=[ab]) (ρ:=[oS .(al),oS (.lst (bn.map D.str)),oS (.int h)]) (f:=bJ) (nm:=(·.nm)) (xs:=ss) (fun x=>⟨_,rfl⟩) rfl (szN l4 .(h)) rfl;simp only[cF,ae,ak,this,qc,qf];exact m9 nd (by rw[qg];omega)
end
theorem AJ (a b:aj):neA (.str a) (.str b)=aa (.bl (!decide (a=b))):=rfl
theorem vY {a b c:D} :oY ab (aa 3) (.tup [a,b,c,d])=aa (.tup [a,b,c]):=rfl
theorem Bu {a b c:D} :oY ab (aa 2) (.tup [a,b,c])=aa (.tup [a,b]):=rfl
theorem xu {α β:Type} {f:α->ac β} {m:al}:∀{l:ac α},(∀x∈l,(f x).length<=m)->(l.flatMap f).length<=l.length*m
 |[],_=>by simp
 |x::r,h=>by have h1:=h x qh;have h2:=xu (l:=r) fun y hy=>h y (qi _ hy);rw[FZ,qk,qj,zp];omega
variable {js:ac JobT} {us:ac SetT} {ls:ac LinkT} {ks:ac StockT}
section
variable {bn:ac aj}
theorem Kp {j:JobT} (hs:∀y∈sn,ba y=ah) (hl:sn.length<=40) (g:GoodJ sn h j):xt [bA j,.lst (sn.map D.str),.int h]=aa (.bl ah):=by
 refine bM [oS (bA j),oS .(am),oS (.int h)] rfl ((Hv ?_ ?_ ?_).trans ((i7 ?_ ?_).trans (bU (DL ?_ (iw (r:=[oS .(am)]) (a:=ab) (xs:=j.ms.map D.str) ?_ ?_ rfl fun x hx=>?_)))))
 .exact AY
 .simp only[bA,cF,ae,ak,vSh,vC,b2,cI,qd,qc,qf,lG g.nm]
 .simp only[bA,cF,ae,ak,vSh,vC,b2,dO,tyD,km,qd,qc,qf,i5]
 .simp only[bA,cF,ae,ak,vSh,vC,b2,cw,qd,qe,qc,qf,iZ _ 0 h g.ea]
 .simp only[bA,cF,ae,ak,vSh,vC,b2,i8,qd,qe,qc,qf,iZ _ 0 h g.du]
 .simp only[bA,cF,ae,ak,vSh,vC,b2,b9,gN,qd,qe,qc,qf];exact jz _ _ _ ⟨by rw[qg];have:=g.l1;omega,by rw[qg,qg];have:=g.ln;omega⟩
 .simp only[bA,vSh,vC,b2,itF,rS,gN,qd,qc]
 .rw[qg];exact szN (qL g.ln hl) .(h)
 .obtain⟨m,hm,rfl⟩:=bC.mp hx;simp only[cF,ae,ak,vSh,qd,qe,qc,qf,oy (g.ms m hm) hs]
theorem JM {S H:ar Slot} (hl:js.length<=40) (g:∀j∈js,j.ms.length<=40) :
  ∃z,gB (aA 4) (i4 3 (b2 ixD (vSh 4) .(l))) (js.map bA) [oS .(af),S,H,aa (.own []),ab]=aa (.nx,[oS .(af),S,H,aa (.own ((js.flatMap (·.ms)).map D.str)),z]):=by
 obtain⟨ρ',h1,z,h2⟩:=eF (gg:=aA 4) (body:=i4 3 (b2 ixD (vSh 4) .(l))) (xs:=js.map bA) (ρ:=[oS .(af),S,H,aa (.own []),ab])
  (fun i ρ=>∃z,ρ=[oS .(af),S,H,aa (.own (((js.take i).flatMap (·.ms)).map D.str)),z]) ⟨ab,by simp⟩ (fun i x ρ hx hI=>by
   obtain⟨z,rfl⟩:=hI;rw[ql] at hx;obtain⟨j,hj,rfl⟩:=oMd hx;have hm:j∈js:=qO hj;have t1:((js.take i).flatMap (·.ms)).length<=(js.take i).length*40:=xu fun y hy=>g y (vM hy);have t2:(js.take i).length<=40:=by rw[qD];omega
   have t3:=g j hm;have tk:js.take (i+1)=js.take i++[j]:=by rw[F0,hj];rfl
   have sz:(((js.take i).flatMap (·.ms)).map D.str).length+(j.ms.map D.str).length<=aW:=by rw[qg,qg];unfold aW;omega
   refine⟨_,[oS .(af),S,H,aa (.own (((js.take (i+1)).flatMap (·.ms)).map D.str)),oS (bA j)],rfl,?_,_,rfl⟩;have e:b2 ixD (vSh 4) .(l) [oS .(af),S,H,aa (.own (((js.take i).flatMap (·.ms)).map D.str)),oS (bA j)]=aa (.lst (j.ms.map D.str)):=by simp only[bA,vSh,vC,b2,gN,qd,qe,qc]
   simp only[i4,pF,F1,qd,qe,e,qc,qY sz,tk];simp)
 refine⟨z,?_⟩;rw[h1,h2,qg,j3]
theorem L9 (hs:∀y∈sn,ba y=ah) (hl:sn.length<=40) (l4:js.length<=40) (g:∀j∈js,GoodJ sn h j) (nd:(js.map (·.nm)).Nodup) (nm:(js.flatMap (·.ms)).Nodup) (ml:(js.flatMap (·.ms)).length<=300):w8 [.lst (js.map bA),.lst (sn.map D.str),.int h]=aa (.bl ah):=by
 obtain⟨z,hz⟩:=JM (js:=js) (S:=oS .(am)) (H:=oS (.int h)) l4 fun j hj=>qL (g j hj).ln hl;refine bM [oS .(af),oS .(am),oS (.int h),ab,ab] (ρ':=[oS .(af),oS .(am),oS (.int h),oS (.lst ((js.flatMap (·.ms)).map D.str)),z]) rfl ((i7 ?_ (iw (r:=[oS .(am),oS (.int h)]) (a:=ab) (xs:=js.map bA) rfl (by rw[qg];exact szN l4 .(h)) rfl fun x hx=>?_)).trans ?_)
 .exact jz _ 0 40 ⟨by omega,by rw[qg];omega⟩
 .obtain⟨p,hp,rfl⟩:=bC.mp hx;simp only[cF,ae,ak,vSh,qd,qe,qc,qf,Kp hs hl (g p hp)]
 .have nn:=ku (i:=0) (fv:=[ab]) (ρ:=[oS .(af),oS .(am),oS (.int h),oS (.lst ((js.flatMap (·.ms)).map D.str)),z]) (f:=bA) (nm:=(·.nm)) (xs:=js) (fun x=>⟨_,rfl⟩) rfl (szN l4 .(h)) rfl;have u1:cF fQ .(aj) [oS .(af),oS .(am),oS (.int h),oS (.lst ((js.flatMap (·.ms)).map D.str)),z]=aa (.bl ah):=
   aU (ay nn aL) (m9 nd (by rw[qg];omega))
  have u2:cF fQ .(aC) [oS .(af),oS .(am),oS (.int h),oS (.lst ((js.flatMap (·.ms)).map D.str)),z]=aa (.bl ah):=
   aU (ay rfl aL) (m9 nm ml)
  have r:=bU (DL u1 u2);have z0:(0<=aW)=True:=by simp
  simp only[ax,dU,szF,ak,qc,qf,qm,z0,cK,pF,F1,bW,itF,vSh,qd,rS];rw[hz];simp only[qc,eQ,qd,qe,pF,F1];exact r
theorem N1 {u:SetT} (hb:∀y∈bn,ba y=ah) (g:GoodU bn h u):tq [cU u,.lst (bn.map D.str),.int h]=aa (.bl ah):=by simp only[tq,cU,a6,ax,sIf,aE,aK,cO,orT,bD,toB,cF,ae,ak,vSh,vC,b2,cI,cw,i8,km,qo,qN,qq,qQ,cq,qd,qe,qc,qf,c9,iL,qr,Hn,oy g.b hb,lG g.p,lG g.q,iZ _ 1 h g.n]
theorem HL (hb:∀y∈bn,ba y=ah) (l4:us.length<=100) (g:∀u∈us,GoodU bn h u) (nd:(us.map fun u=>[u.b,u.p,u.q]).Nodup):xp [.lst (us.map cU),.lst (bn.map D.str),.int h]=aa (.bl ah):=by
 refine bM [oS (.lst (us.map cU)),oS (.lst (bn.map D.str)),oS (.int h)] rfl ((i7 ?_ (iw (r:=[oS (.lst (bn.map D.str)),oS (.int h)]) (a:=ab) (xs:=us.map cU) rfl (by rw[qg];exact szN l4 .(h)) rfl fun x hx=>?_)).trans (bU (aU (ay (iC (r:=[]) (a:=ab) (xs:=us.map cU) (f:=fun d=>match d with|.tup [a,b,c,d]=>.tup [a,b,c]|_=>.non) rfl (by rw[qg];exact szN l4 .(h)) rfl fun x hx=>?_) aL) ?_)))
 .exact jz _ 0 100 ⟨by omega,by rw[qg];omega⟩
 .obtain⟨p,hp,rfl⟩:=bC.mp hx;simp only[cF,ae,ak,vSh,qd,qe,qc,qf,N1 hb (g p hp)]
 .obtain⟨p,hp,rfl⟩:=bC.mp hx;simp only[vSh,vC,slF,pN,pS,qd,qc,cU,vY]
 .have:=BX nd (by rw[qg];omega);rw[qp] at this ⊢;exact this
theorem Jp {l:LinkT} (hs:∀y∈sn,ba y=ah) (g:GoodL sn h l):uG [c5 l,.lst (sn.map D.str),.int h]=aa (.bl ah):=by have:=g.ne;simp only[uG,c5,a6,ax,sIf,aE,aK,cO,orT,bD,toB,cF,ae,ak,vSh,vC,b2,cI,cw,i8,qo,qN,qq,qQ,cq,qd,qe,qc,qf,c9,iL,l7,qr,B4,oy g.a hs,oy g.b hs,AJ,qM g.ne,iZ _ 0 h g.g]
theorem Iu (hs:∀y∈sn,ba y=ah) (l4:ls.length<=100) (g:∀l∈ls,GoodL sn h l) (nd:(ls.map fun l=>[l.a,l.b]).Nodup):v7 [.lst (ls.map c5),.lst (sn.map D.str),.int h]=aa (.bl ah):=by
 refine bM [oS (.lst (ls.map c5)),oS .(am),oS (.int h)] rfl ((i7 ?_ (iw (r:=[oS .(am),oS (.int h)]) (a:=ab) (xs:=ls.map c5) rfl (by rw[qg];exact szN l4 .(h)) rfl fun x hx=>?_)).trans (bU (aU (ay (iC (r:=[]) (a:=ab) (xs:=ls.map c5) (f:=fun d=>match d with|.tup [a,b,c]=>.tup [a,b]|_=>.non) rfl (by rw[qg];exact szN l4 .(h)) rfl fun x hx=>?_) aL) ?_)))
 .exact jz _ 0 100 ⟨by omega,by rw[qg];omega⟩
 .obtain⟨p,hp,rfl⟩:=bC.mp hx;simp only[cF,ae,ak,vSh,qd,qe,qc,qf,Jp hs (g p hp)]
 .obtain⟨p,hp,rfl⟩:=bC.mp hx;simp only[vSh,vC,slF,pN,pS,qd,qc,c5,Bu]
 .have:=BX nd (by rw[qg];omega);rw[qp] at this ⊢;exact this
theorem M3 {w:aj×ag} (hs:∀y∈sn,ba y=ah) (g:w.1∈sn/\1<=w.2/\w.2<=1000000):ur [dW w,.lst (sn.map D.str)]=aa (.bl ah):=by simp only[ur,dW,a6,aE,cO,cF,ae,ak,vSh,vC,b2,cI,cw,qo,qN,qq,qQ,cq,qd,qe,qc,qf,tH,oy g.1 hs,iZ w.2 1 1000000 g.2]
theorem Cu (hs:∀y∈sn,ba y=ah) (hl:sn.length<=40) (g:GoodA sn ws):tw [.lst (ws.map dW),.lst (sn.map D.str)]=aa (.bl ah):=by
 have l4:ws.length<=40:=qL g.ln hl;refine bM [oS (.lst (ws.map dW)),oS .(am)] rfl ((i7 ?_ (iw (r:=[oS .(am)]) (a:=ab) (xs:=ws.map dW) rfl (by rw[qg];exact szN l4 .(h)) rfl fun x hx=>?_)).trans (bU ?_))
 .have e:=jz (ws.map dW) 0 ((sn.map D.str).length:al) ⟨by omega,by rw[qg,qg];have:=g.ln;omega⟩;simp only[cF,ae,ak,vSh,vC,b9,qd,qe,qc,qf];exact e
 .obtain⟨p,hp,rfl⟩:=bC.mp hx;simp only[cF,ae,ak,vSh,qd,qe,qc,qf,M3 hs (g.ws p hp)]
 .have:=ku (i:=0) (fv:=[ab]) (ρ:=[oS (.lst (ws.map dW)),oS .(am)]) (f:=dW) (nm:=(·.1)) (xs:=ws) (fun x=>⟨_,rfl⟩) rfl (szN l4 .(h)) rfl;exact aU (ay this aL) (m9 g.nd (by rw[qg];omega))
theorem IW {k:StockT} (hs:∀y∈sn,ba y=ah) (hl:sn.length<=40) (g:GoodK sn k):sU [cZ k,.lst (sn.map D.str)]=aa (.bl ah):=by simp only[sU,cZ,a6,ax,sIf,aE,aK,cO,orT,bD,toB,cF,ae,ak,vSh,vC,b2,cI,cw,i8,km,gN,qo,qN,qq,qQ,cq,qd,qe,qc,qf,c9,iL,qr,AY,lG g.nm,iZ _ 0 1000000 g.hi,iZ _ 0 _ g.lo,Cu hs hl g.tk,Cu hs hl g.pt]
theorem QD (hs:∀y∈sn,ba y=ah) (hl:sn.length<=40) (l4:ks.length<=6) (g:∀k∈ks,GoodK sn k) (nd:(ks.map (·.nm)).Nodup):yE [.lst (ks.map cZ),.lst (sn.map D.str)]=aa (.bl ah):=by
 refine bM [oS (.lst (ks.map cZ)),oS .(am)] rfl ((i7 ?_ (iw (r:=[oS .(am)]) (a:=ab) (xs:=ks.map cZ) rfl (by rw[qg];exact szN l4 .(h)) rfl fun x hx=>?_)).trans (bU ?_))
 .exact jz _ 0 6 ⟨by omega,by rw[qg];omega⟩
 .obtain⟨p,hp,rfl⟩:=bC.mp hx;simp only[cF,ae,ak,vSh,qd,qe,qc,qf,IW hs hl (g p hp)]
 .have:=ku (i:=0) (fv:=[ab]) (ρ:=[oS (.lst (ks.map cZ)),oS .(am)]) (f:=cZ) (nm:=(·.nm)) (xs:=ks) (fun x=>⟨_,rfl⟩) rfl (szN l4 .(h)) rfl;exact aU (ay this aL) (m9 nd (by rw[qg];omega))
end
section
variable {bs:ac BenchT}
theorem Good.bnn (g:Good bs ss js us ls ks h):∀y∈bs.map (·.nm),ba y=ah:=fun y hy=>by obtain⟨b,hb,rfl⟩:=bC.mp hy;exact(g.b b hb).nm
theorem Good.snn (g:Good bs ss js us ls ks h):∀y∈ss.map (·.nm),ba y=ah:=fun y hy=>by obtain⟨b,hb,rfl⟩:=bC.mp hy;exact(g.s b hb).nm
theorem N2 (g:Good bs ss js us ls ks h) (ml:(js.flatMap (·.ms)).length<=300):wk [.lst (bs.map cx),.lst (ss.map bJ),.lst (js.map bA),.lst (us.map cU),.lst (ls.map c5),.lst (ks.map cZ),.int h]=aa .non:=by
 have hb:=g.bnn;have hs:=g.snn;have hl:(ss.map (·.nm)).length<=40:=by rw[qg];exact g.sl.2
 have n1:∀z:ar Slot,aI (aZ (itF (vSh 0)) (aA 0) tT .(q) [ab]) [oS .(aB),oS .(al),oS .(af),oS (.lst (us.map cU)),oS (.lst (ls.map c5)),oS (.lst (ks.map cZ)),oS (.int h),ab,ab]=aa (.lst ((bs.map (·.nm)).map D.str)):=fun z=>
  ku (f:=cx) (nm:=(·.nm)) (xs:=bs) (fun x=>⟨_,rfl⟩) rfl (szN g.bl.2 .(h)) rfl
 have n2:aI (aZ (itF (vSh 1)) (aA 0) tT .(q) [ab]) [oS .(aB),oS .(al),oS .(af),oS (.lst (us.map cU)),oS (.lst (ls.map c5)),oS (.lst (ks.map cZ)),oS (.int h),oS (.lst ((bs.map (·.nm)).map D.str)),ab]=aa (.lst ((ss.map (·.nm)).map D.str)):=
  ku (f:=bJ) (nm:=(·.nm)) (xs:=ss) (fun x=>⟨_,rfl⟩) rfl (szN g.sl.2 .(h)) rfl
 refine bM [oS .(aB),oS .(al),oS .(af),oS (.lst (us.map cU)),oS (.lst (ls.map c5)),oS (.lst (ks.map cZ)),oS (.int h),ab,ab] rfl ((mO ?_).trans ((mO ?_).trans ((a9 (n1 ab)).trans ((mO ?_).trans ((a9 n2).trans ((mO ?_).trans ((mO ?_).trans ((mO ?_).trans ((mO ?_).trans (bU rfl))))))))))
 .exact iZ h 1 1000000 g.hh
 .exact Lh g.bl.1 g.bl.2 g.b g.bn
 .exact Hx hb g.sl.1 g.sl.2 g.s g.sn
 .exact L9 hs hl g.jl g.j g.jn g.jm ml
 .exact HL hb g.ul g.u g.un
 .exact Iu hs g.ll g.l g.ln
 .exact QD hs hl g.kl g.k g.kn
end
noncomputable def Pl:al->D->Prop
 |0,_=>False
 |n+1,.lst l=>l.length<=aW/\∀x∈l,Pl n x
 |n+1,.tup l=>l.length<=aW/\∀x∈l,Pl n x
 |_+1,.non=>True
 |_+1,.bl _=>True
 |_+1,.int _=>True
 |_+1,.str _=>True
 |_+1,_=>False
theorem fD {X E:FS} (h:ft ρ=aa ao):ax (sIf ft X aK) E ρ=E ρ:=by simp only[ax,sIf,h,qc,qr,c9,aK]
theorem m4 {A B E:FS} (h:ft ρ=aa ah) (h2:A ρ=aa (.rt d,ρ')):ax (sIf ft A B) E ρ=aa (.rt d,ρ'):=by simp only[ax,sIf,h,qc,cK,h2]
theorem xC:∀(n:al) (d:D),Pl n d->jJ n [d]=aa d
 |0,_,h=>h.elim
 |n+1,.lst l,h=>by
  refine bM [oS (.lst l)] rfl (m4 (aY (b:=ah) ?_) (bU ?_))
  .simp only[cF,ae,ak,vSh,vC,dO,tyD,qd,qc,qf,k1]
  .have:=iC (fi:=itF (vSh 0)) (fe:=cF (jJ n) .(ai)) (fv:=[ab]) (ρ:=[oS (.lst l)]) (r:=[]) (a:=ab) (xs:=l) (f:=fun x=>x) rfl h.1 rfl (fun x hx=>by simp only[cF,ae,ak,vSh,qd,qc,qf,xC n x (h.2 x hx)]);rw[Sy] at this;exact this
 |n+1,.tup l,h=>by
  refine bM [oS (.tup l)] rfl ((fD (aY (b:=ao) ?_)).trans (m4 (aY (b:=ah) ?_) (bU (aU (ay (d:=.lst l) ?_ aL) rfl))))
  .simp only[cF,ae,ak,vSh,vC,dO,tyD,qd,qc,qf,k2]
  .simp only[cF,ae,ak,vSh,vC,dO,tyD,qd,qc,qf,k3]
  .have:=iC (fi:=itF (vSh 0)) (fe:=cF (jJ n) .(ai)) (fv:=[ab]) (ρ:=[oS (.tup l)]) (r:=[]) (a:=ab) (xs:=l) (f:=fun x=>x) rfl h.1 rfl (fun x hx=>by simp only[cF,ae,ak,vSh,qd,qc,qf,xC n x (h.2 x hx)]);rw[Sy] at this;exact this
 |n+1,.non,h=>by
  show jy (jJ n) [.non]=aa .non;unfold jy;refine bM [oS .non] rfl ((fD (aY (b:=ao) ?_)).trans ((fD (aY (b:=ao) ?_)).trans (bU (f:=vSh 0) rfl)))<;>simp only[cF,ae,ak,vSh,vC,dO,tyD,qd,qc,qf,k10,k11]
 |n+1,.bl b,h=>by
  show jy (jJ n) [.bl b]=aa (.bl b);unfold jy;refine bM [oS (.bl b)] rfl ((fD (aY (b:=ao) ?_)).trans ((fD (aY (b:=ao) ?_)).trans (bU (f:=vSh 0) rfl)))<;>simp only[cF,ae,ak,vSh,vC,dO,tyD,qd,qc,qf,k8,k9]
 |n+1,.int b,h=>by
  show jy (jJ n) [.int b]=aa (.int b);unfold jy;refine bM [oS (.int b)] rfl ((fD (aY (b:=ao) ?_)).trans ((fD (aY (b:=ao) ?_)).trans (bU (f:=vSh 0) rfl)))<;>simp only[cF,ae,ak,vSh,vC,dO,tyD,qd,qc,qf,k6,k7]
 |n+1,.str b,h=>by show jy (jJ n) [.str b]=aa (.str b);unfold jy;refine bM [oS (.str b)] rfl ((fD (aY (b:=ao) ?_)).trans ((fD (aY (b:=ao) ?_)).trans (bU (f:=vSh 0) rfl)))<;>simp only[cF,ae,ak,vSh,vC,dO,tyD,qd,qc,qf,k4,k4,k5]
theorem iu (h:Pl 8 d):eR [d]=aa d:=xC 8 d h
theorem h9 {f:α->D} {xs:ac α} (hl:xs.length<=1000) (h:∀x∈xs,Pl n (f x)):Pl (n+1) (.lst (xs.map f)):=
 ⟨by rw[qg];exact szN hl .(h),fun x hx=>by obtain⟨y,hy,rfl⟩:=bC.mp hx;exact h y hy⟩
theorem GH {xs:ac aj} (hl:xs.length<=1000):Pl (n+2) (.lst (xs.map D.str)):=h9 hl fun x _=>(trivial:Pl (n+1) (.str x))
theorem tG {xs:ac (aj×ag)} (hl:xs.length<=1000):Pl (n+3) (.lst (xs.map dW)):=h9 hl fun x _=>⟨by simp[aW],by intro y hy;simp only[qK,qI,or_false] at hy;rcases hy with rfl|rfl<;>trivial⟩
theorem IX {b:BenchT} (g:GoodB h b):Pl (n+4) (cx b):=⟨by simp[aW],by
 intro y hy;simp only[qK,qI,or_false] at hy;rcases hy with rfl|rfl
 .trivial
 .exact h9 (by have:=g.len;omega) fun x _=>⟨by simp[aW],by intro y hy;simp only[qK,qI,or_false] at hy;rcases hy with rfl|rfl<;>trivial⟩⟩
theorem Np {bn:ac aj} {s:StepT} (g:GoodS bn h s):Pl (n+4) (bJ s):=⟨by simp[aW],by
 intro y hy;simp only[qK,qI,or_false] at hy;rcases hy with rfl|rfl|rfl
 .trivial
 .trivial
 .exact tG (by have:=g.l4;omega)⟩
theorem wB {j:JobT} (hl:sn.length<=40) (g:GoodJ sn h j):Pl (n+3) (bA j):=⟨by simp[aW],by
 intro y hy;simp only[qK,qI,or_false] at hy;rcases hy with rfl|rfl|rfl|rfl|rfl
 .trivial
 .trivial
 .trivial
 .trivial
 .exact GH (by have:=g.ln;omega)⟩
theorem Mo {u:SetT} :Pl (n+2) (cU u):=⟨by simp[aW],by intro y hy;simp only[qK,qI,or_false] at hy;rcases hy with rfl|rfl|rfl|rfl<;>trivial⟩
theorem Eo {u:LinkT} :Pl (n+2) (c5 u):=⟨by simp[aW],by intro y hy;simp only[qK,qI,or_false] at hy;rcases hy with rfl|rfl|rfl<;>trivial⟩
theorem BS {k:StockT} (hl:sn.length<=40) (g:GoodK sn k):Pl (n+4) (cZ k):=⟨by simp[aW],by
 intro y hy;simp only[qK,qI,or_false] at hy;rcases hy with rfl|rfl|rfl|rfl|rfl
 .trivial
 .trivial
 .trivial
 .exact tG (by have:=g.tk.ln;omega)
 .exact tG (by have:=g.pt.ln;omega)⟩
theorem nR {α:Type} {nm:α->aj} {f:α->D}:∀(xs:ac α),og (xs.map fun x=>.tup [.str (nm x),f x])=aa (xs.map fun x=>(.inr (nm x),f x))
 |[]=>rfl
 |x::r=>by simp only[qo,og,gJ,qc,nR r,qf]
theorem CA {α:Type} {t:α->ac aj} {f:α->D}:∀(xs:ac α),mY (xs.map fun x=>.tup [.tup ((t x).map D.str),f x])=aa (xs.map fun x=>((t x).map cG,f x))
 |[]=>rfl
 |x::r=>by simp only[qo,mY,tK,qc,CA r,qf]
theorem n5 [eV κ] {ps:ac (κ×D)} (h:(ps.map (·.1)).Nodup):tX ps=ps:=by
 have key:∀(l a:ac (κ×D)),((a++l).map (·.1)).Nodup->l.foldl (fun acc kv=>eU acc kv.1 kv.2) a=a++l:=by
  intro l
  induction l with
  |nil=>intro a _;simp
  |cons x r ih=>
   intro a hn;have hx:(a.any fun kv=>decide (kv.1=x.1))=ao:=by rw[y6];intro y hy z;rw[jp,kZ] at hn;exact hn.2.2 y.1 (qW hy) x.1 (by simp) (fC z)
   rw[kR];have e:eU a x.1 x.2=a++[x]:=by unfold eU;rw[hx];rfl
   rw[e,ih (a++[x]) (by simpa using hn)];simp
 simpa[tX] using key ps [] (by simpa using h)
theorem uI {β:Type}:∀{fs:ac (aj×β)} {i:al} {k:aj} {d:β},(fs.map (·.1)).Nodup->fs[i]?=aa (k,d)->fs.lookup k=aa d
 |[],i,k,d,_,h=>by simp at h
 |(a,b)::r,0,k,d,_,h=>by
  simp only[qd,Sc,Prod.mk.injEq] at h;obtain⟨rfl,rfl⟩:=h;simp[dJ]
 |(a,b)::r,i+1,k,d,nd,h=>by
  rw[qe] at h;rw[qo,kQ] at nd;have ne:k≠a:=by intro z;subst z;exact nd.1 (qW (f:=(·.1)) (qO h))
  have hb:(k==a)=ao:=by simpa using ne
  simp only[dJ,hb];exact uI nd.2 h
theorem rj {β:Type}:∀{fs:ac (aj×β)} {k:aj},k∉fs.map (·.1)->fs.lookup k=ab
 |[],_,_=>rfl
 |(a,b)::r,k,h=>by
  rw[qo,qK,sI] at h;have hb:(k==a)=ao:=by simpa using h.1
  simp only[dJ,hb];exact rj h.2
noncomputable def hV (j:JobT) (acc:ac (Key×D)) (m:aj):ac (Key×D):=eU acc (.inr m) (bA j)
noncomputable def jkv (js:ac JobT):ac (Key×D):=js.foldl (fun acc j=>j.ms.foldl (hV j) acc) []
theorem PD [eV κ] (kvs:ac (κ×D)) (k:κ) (v:D):(eU kvs k v).length<=kvs.length+1:=by
 unfold eU;split
 .rw[qg];omega
 .rw[qk];simp
theorem yy (j:JobT):∀(ms:ac aj) (acc:ac (Key×D)),(ms.foldl (hV j) acc).length<=acc.length+ms.length
 |[],acc=>by simp
 |m::r,acc=>by rw[kR];have h1:=yy j r (hV j acc m);have h2:(hV j acc m).length<=acc.length+1:=PD _ _ _;rw[qj];omega
theorem AA {m:al}:∀{js:ac JobT} (acc:ac (Key×D)),(∀j∈js,j.ms.length<=m)->(js.foldl (fun acc j=>j.ms.foldl (hV j) acc) acc).length<=acc.length+js.length*m
 |[],acc,_=>by simp
 |j::r,acc,h=>by rw[kR];have h1:=AA (js:=r) (j.ms.foldl (hV j) acc) fun y hy=>h y (qi _ hy);have h2:=yy j j.ms acc;have h3:=h j qh;rw[qj,zp];omega
noncomputable def iP (bs:ac BenchT) (ss:ac StepT) (js:ac JobT) (us:ac SetT) (ls:ac LinkT) (ks:ac StockT) (h:ag):ac (aj×D):=
 [("benches",.lst (bs.map cx)),("steps",.lst (ss.map bJ)),("jobs",.lst (js.map bA)),("setups",.lst (us.map cU)),("links",.lst (ls.map c5)),("stocks",.lst (ks.map cZ)),("horizon",.int h),
 ("bench_by_name",.dk (bs.map fun b=>(.inr b.nm,cx b))),("step_by_name",.dk (ss.map fun s=>(.inr s.nm,bJ s))),("setup_by_names",.dt (us.map fun u=>([u.b,u.p,u.q].map cG,.int u.n)))]
noncomputable def oX (bs:ac BenchT) (ss:ac StepT) (js:ac JobT) (us:ac SetT) (ls:ac LinkT) (ks:ac StockT) (h:ag):ac (aj×D):=iP bs ss js us ls ks h++[(("job_by_step":aj),D.dk (jkv js))]
noncomputable def aG (bs:ac BenchT) (ss:ac StepT) (js:ac JobT) (us:ac SetT) (ls:ac LinkT) (ks:ac StockT) (h:ag):D:=.ins "Shop" (oX bs ss js us ls ks h)
noncomputable def lr:ac aj:=["benches","steps","jobs","setups","links","stocks","horizon","bench_by_name","step_by_name","setup_by_names","job_by_step"]
theorem tU:lr.Nodup:=by decide +kernel
theorem Ab {l:ac α} (h:l.Nodup) (n:al):(l.take n).Nodup:=Sz (E4 n l) h
section
variable {fs:ac (aj×D)} {f:aj} {fv:FE} {r:bi}
theorem jP (n:al) (hk:lr[n]?=aa f) (hf:fs.map (·.1)=lr.take n) (h:fv (aa (.obj "Shop" fs)::r)=aa d):ax (gP "Shop" f 0 fv) g (aa (.obj "Shop" fs)::r)=g (aa (.obj "Shop" (fs++[(f,d)]))::r):=by
 have hno:fs.lookup f=ab:=rj (by
  rw[hf];intro z;obtain⟨i,hi⟩:=z7 z;have hin:i<n:=by
   rcases ik i n with q|q
   .exact q
   .rw[Fq (by rw[qD];omega)] at hi;cases hi
  rw[zg hin] at hi;have:=(List.getElem?_inj (di.mp hi).1 tU).mp (hi.trans hk.symm);omega)
 have hlen:fs.length<100:=by have:=cJ gm hf;rw[qg,qD] at this;have k:lr.length=11:=rfl;omega
 simp only[ax,gP,h,qc,qd,hno,hlen,vU,cK,pF]
theorem xF (n i:al) (hf:fs.map (·.1)=lr.take n) (h:fs[i]?=aa (f,d)):jO "Shop" f 0 (aa (.obj "Shop" fs)::r)=aa d:=by have e:fs.lookup f=aa d:=uI (by rw[hf];exact Ab tU n) h;show(if aa ("Shop":aj)=aa ("Shop":aj) then fs.lookup f else ab)=aa d;rw[qY rfl,e]
end
theorem De {f:α->D} {nm:α->aj} {xs:ac α} (hf:∀x,∃r,f x=.tup (.str (nm x)::r)) (h1:fo ρ=aa (.lst (xs.map f))) (h2:xs.length<=1000) (nd:(xs.map nm).Nodup) :
  cF eZ (ae (aI (aZ (itF fo) (aA 0) tT (bc (szF (ae .(q) .(ai)))) [ab])) ak) ρ=aa (.dk (xs.map fun x=>(.inr (nm x),f x))):=by
 have hc:=iC (fi:=itF fo) (fe:=bc (szF (ae .(q) .(ai)))) (fv:=[ab]) (ρ:=ρ) (r:=[]) (a:=ab) (xs:=xs.map f) (f:=fun d=>.tup [match d with|.tup (x::_)=>x|_=>.non,d]) (by unfold itF;rw[h1];rfl) (by rw[qg];exact szN h2 .(h)) rfl (fun x hx=>by obtain⟨y,_,rfl⟩:=bC.mp hx;obtain⟨r,e⟩:=hf y;simp only[ae,ak,vSh,vC,b2,bc,szF,cI,qd,qc,qf,cK,qj,qm,j4,sz2,e])
 have e:(xs.map f).map (fun d=>D.tup [match d with|.tup (x::_)=>x|_=>.non,d])=xs.map fun x=>.tup [.str (nm x),f x]:=by rw[qp];refine pG fun x _=>?_;obtain⟨r,e⟩:=hf x;simp[e]
 rw[e] at hc;have kn:((xs.map fun x=>((.inr (nm x):Key),f x)).map (·.1)).Nodup:=by rw[qp];have:=nK (S:=fun a b:Key=>a≠b) (cG:aj->Key) (fun a b hab z=>hab (gF z)) nd;rw[qp] at this;exact this
 refine aU (ay hc aL) ?_;show(if _ then _ else _)=_;rw[qY (by rw[qg];exact h2),nR,qf,n5 kn]
theorem Gw (h1:fo ρ=aa (.lst (us.map cU))) (h2:us.length<=1000) (nd:(us.map fun u=>[u.b,u.p,u.q]).Nodup) :
  cF uu (ae (aI (aZ (itF fo) (aA 0) tT (bc (szF (ae (slF (vSh 0) pN (pS .(i))) (ae (b2 ixD (vSh 0) .(i)) ak)))) [ab])) ak) ρ=aa (.dt (us.map fun u=>([u.b,u.p,u.q].map cG,.int u.n))):=by
 have hc:=iC (fi:=itF fo) (fe:=bc (szF (ae (slF (vSh 0) pN (pS .(i))) (ae (b2 ixD (vSh 0) .(i)) ak)))) (fv:=[ab]) (ρ:=ρ) (r:=[]) (a:=ab) (xs:=us.map cU) (f:=fun d=>match d with|.tup [a,b,c,d]=>.tup [.tup [a,b,c],d]|_=>.non) (by unfold itF;rw[h1];rfl) (by rw[qg];exact szN h2 .(h)) rfl (fun x hx=>by obtain⟨y,_,rfl⟩:=bC.mp hx;simp only[ae,ak,vSh,vC,b2,bc,szF,slF,pN,pS,km,qd,qc,qf,cK,qj,qm,j4,sz2,cU,vY])
 rw[qp] at hc;have kn:((us.map fun u=>([u.b,u.p,u.q].map (cG:aj->Key),D.int u.n)).map (·.1)).Nodup:=by rw[qp];have inj:∀a b:ac aj,a.map (cG:aj->Key)=b.map cG->a=b:=fun a b z=>(Sx (fun x y q=>gF q)).mp z;have:=nK (S:=fun a b:ac Key=>a≠b) (List.map (cG:aj->Key)) (fun a b hab z=>hab (inj a b z)) nd;rw[qp] at this;exact this
 refine aU (ay hc aL) ?_;show(if _ then _ else _)=_;have e:=CA (t:=fun u:SetT=>[u.b,u.p,u.q]) (f:=fun u=>.int u.n) us;rw[qY (by rw[qg];exact h2)];have e2:mY (us.map ((fun d=>match d with|.tup [a,b,c,d]=>D.tup [.tup [a,b,c],d]|_=>.non) ∘ cU))=aa (us.map fun u=>([u.b,u.p,u.q].map cG,.int u.n)):=e;rw[e2,qf,n5 kn]
section
variable {bs:ac BenchT}
theorem yM:(iP bs ss js us ls ks h).map (·.1)=lr.take 10:=rfl
theorem Ep:(oX bs ss js us ls ks h).map (·.1)=lr:=rfl
noncomputable abbrev r9 (bs:ac BenchT) (ss:ac StepT) (js:ac JobT) (us:ac SetT) (ls:ac LinkT) (ks:ac StockT) (h:ag) (a b:ar Slot):bi:=[oS .(aB),oS .(al),oS .(af),oS (.lst (us.map cU)),oS (.lst (ls.map c5)),oS (.lst (ks.map cZ)),oS (.int h),oS .non,a,b]
noncomputable abbrev ob (bs:ac BenchT) (ss:ac StepT) (js:ac JobT) (us:ac SetT) (ls:ac LinkT) (ks:ac StockT) (h:ag) (kvs:ac (Key×D)):ar Slot:=aa (.objd "Shop" (iP bs ss js us ls ks h) "job_by_step" kvs)
theorem Ki {j:JobT} {kvs:ac (Key×D)} (hl:kvs.length<100000):jB "Shop" "job_by_step" 0 (vSh 10) (vSh 9) (ob bs ss js us ls ks h kvs::r9 bs ss js us ls ks h (oS (bA j)) (oS (.str m)))=aa (.nx,ob bs ss js us ls ks h (hV j kvs m)::r9 bs ss js us ls ks h (oS (bA j)) (oS (.str m))):=by have hno:(iP bs ss js us ls ks h).lookup ("job_by_step":aj)=ab:=rj (by rw[yM];decide +kernel);simp only[jB,vSh,qd,qe,qc,gJ,hno,hl,vU,cK,pF,hV]
theorem Ho {j:JobT} {acc:ac (Key×D)} {z:ar Slot} (hl:acc.length+j.ms.length<100000):∃z',bW (itF (b2 ixD (vSh 9) .(l))) (aA 10) (jB "Shop" "job_by_step" 0 (vSh 10) (vSh 9)) (ob bs ss js us ls ks h acc::r9 bs ss js us ls ks h (oS (bA j)) z)=aa (.nx,ob bs ss js us ls ks h (j.ms.foldl (hV j) acc)::r9 bs ss js us ls ks h (oS (bA j)) z'):=by
 obtain⟨ρ',h1,z',h2⟩:=eF (gg:=aA 10) (body:=jB "Shop" "job_by_step" 0 (vSh 10) (vSh 9)) (xs:=j.ms.map D.str) (ρ:=ob bs ss js us ls ks h acc::r9 bs ss js us ls ks h (oS (bA j)) z)
  (fun i ρ=>∃z,ρ=ob bs ss js us ls ks h ((j.ms.take i).foldl (hV j) acc)::r9 bs ss js us ls ks h (oS (bA j)) z) ⟨z,by simp⟩ (fun i x ρ hx hI=>by
   obtain⟨z,rfl⟩:=hI;rw[ql] at hx;obtain⟨m,hm,rfl⟩:=oMd hx;have tk:j.ms.take (i+1)=j.ms.take i++[m]:=by rw[F0,hm];rfl
   have hlen:=yy j (j.ms.take i) acc;rw[qD] at hlen;refine⟨_,_,rfl,Ki .(f),oS (.str m),?_⟩;rw[tk,zQ];rfl)
 refine⟨z',?_⟩;have e:itF (b2 ixD (vSh 9) .(l)) (ob bs ss js us ls ks h acc::r9 bs ss js us ls ks h (oS (bA j)) z)=aa (j.ms.map D.str):=by simp only[vSh,vC,b2,itF,rS,gN,qd,qe,qc,bA]
 unfold bW;rw[e,qc,h1,h2,qg,j3]
theorem Ql (hj:js.length<=40) (hm:∀j∈js,j.ms.length<=40):∃z z',gB (aA 9) (bW (itF (b2 ixD (vSh 9) .(l))) (aA 10) (jB "Shop" "job_by_step" 0 (vSh 10) (vSh 9))) (js.map bA) (ob bs ss js us ls ks h []::r9 bs ss js us ls ks h ab ab)=aa (.nx,ob bs ss js us ls ks h (jkv js)::r9 bs ss js us ls ks h z z'):=by
 obtain⟨ρ',h1,z,z',h2⟩:=eF (gg:=aA 9) (body:=bW (itF (b2 ixD (vSh 9) .(l))) (aA 10) (jB "Shop" "job_by_step" 0 (vSh 10) (vSh 9))) (xs:=js.map bA) (ρ:=ob bs ss js us ls ks h []::r9 bs ss js us ls ks h ab ab)
  (fun i ρ=>∃z z',ρ=ob bs ss js us ls ks h (jkv (js.take i))::r9 bs ss js us ls ks h z z') ⟨ab,ab,by simp[jkv]⟩ (fun i x ρ hx hI=>by
   obtain⟨z,z',rfl⟩:=hI;rw[ql] at hx;obtain⟨j,hjm,rfl⟩:=oMd hx;have tk:js.take (i+1)=js.take i++[j]:=by rw[F0,hjm];rfl
   have hlen:=AA (m:=40) (js:=js.take i) [] fun y hy=>hm y (vM hy);rw[qD,qm] at hlen;have h4:=hm j (qO hjm);obtain⟨w,hw⟩:=Ho (bs:=bs) (ss:=ss) (js:=js) (us:=us) (ls:=ls) (ks:=ks) (h:=h) (j:=j) (acc:=jkv (js.take i)) (z:=z') (by unfold jkv;omega);refine⟨_,_,rfl,hw,oS (bA j),w,?_⟩;rw[tk];unfold jkv;rw[zQ];rfl)
 refine⟨z,z',?_⟩;rw[h1,h2,qg,j3]
theorem J2 (g:Good bs ss js us ls ks h) (ml:(js.flatMap (·.ms)).length<=300):wS [.lst (bs.map cx),.lst (ss.map bJ),.lst (js.map bA),.lst (us.map cU),.lst (ls.map c5),.lst (ks.map cZ),.int h]=aa .(b):=by
 have hl:(ss.map (·.nm)).length<=40:=by rw[qg];exact g.sl.2
 have f1:=iu (d:=.lst (bs.map cx)) (h9 (by have:=g.bl.2;omega) fun x hx=>IX (g.b x hx));have f2:=iu (d:=.lst (ss.map bJ)) (h9 (by have:=g.sl.2;omega) fun x hx=>Np (g.s x hx));have f3:=iu (d:=.lst (js.map bA)) (h9 (by have:=g.jl;omega) fun x hx=>wB hl (g.j x hx));have f4:=iu (d:=.lst (us.map cU)) (h9 (by have:=g.ul;omega) fun x hx=>Mo);have f5:=iu (d:=.lst (ls.map c5)) (h9 (by have:=g.ll;omega) fun x hx=>Eo);have f6:=iu (d:=.lst (ks.map cZ)) (h9 (by have:=g.kl;omega) fun x hx=>BS hl (g.k x hx));obtain⟨z,z',ho⟩:=Ql (bs:=bs) (ss:=ss) (us:=us) (ls:=ls) (ks:=ks) (h:=h) g.jl fun j hj=>qL (g.j j hj).ln hl;have key:∀(G:FS) (ρ':bi),G (aa (.obj "Shop" [])::[oS .(aB),oS .(al),oS .(af),oS (.lst (us.map cU)),oS (.lst (ls.map c5)),oS (.lst (ks.map cZ)),oS (.int h),ab,ab,ab])=aa (.nx,ob bs ss js us ls ks h (jkv js)::ρ')->
   nL 3 "Shop" G [.lst (bs.map cx),.lst (ss.map bJ),.lst (js.map bA),.lst (us.map cU),.lst (ls.map c5),.lst (ks.map cZ),.int h]=aa .(b):=fun G ρ' e=>by
  unfold nL;show(G (aa (.obj "Shop" [])::[oS .(aB),oS .(al),oS .(af),oS (.lst (us.map cU)),oS (.lst (ls.map c5)),oS (.lst (ks.map cZ)),oS (.int h),ab,ab,ab])).bind _=_;rw[e];rfl
 refine key _ (r9 bs ss js us ls ks h z z') ((a9 (aU rfl (N2 g ml))).trans ?_);show ax _ _ (aa (.obj "Shop" [])::r9 bs ss js us ls ks h ab ab)=_;refine(fD (aY (b:=ao) rfl)).trans ?_;refine(jP 0 rfl rfl (aU rfl f1)).trans ?_;refine(jP 1 rfl rfl (aU rfl f2)).trans ?_;refine(jP 2 rfl rfl (aU rfl f3)).trans ?_;refine(jP 3 rfl rfl (aU rfl f4)).trans ?_;refine(jP 4 rfl rfl (aU rfl f5)).trans ?_;refine(jP 5 rfl rfl (aU rfl f6)).trans ?_;refine(jP 6 rfl rfl (d:=.int h) rfl).trans ?_;refine(jP 7 rfl rfl (De (f:=cx) (nm:=(·.nm)) (xs:=bs) (fun x=>⟨_,rfl⟩) (xF 7 0 rfl rfl) (by have:=g.bl.2;omega) g.bn)).trans ?_;refine(jP 8 rfl rfl (De (f:=bJ) (nm:=(·.nm)) (xs:=ss) (fun x=>⟨_,rfl⟩) (xF 8 1 rfl rfl) (by have:=g.sl.2;omega) g.sn)).trans ?_;refine(jP 9 rfl rfl (Gw (us:=us) (xF 9 3 rfl rfl) (by have:=g.ul;omega) g.un)).trans ?_;have hno:(iP bs ss js us ls ks h).lookup ("job_by_step":aj)=ab:=rj (by rw[yM];decide +kernel);have hle:(iP bs ss js us ls ks h).length<100:=by simp[iP]
 have e1:nX "Shop" "job_by_step" 0 (aa (.obj "Shop" (iP bs ss js us ls ks h))::r9 bs ss js us ls ks h ab ab)=aa (.nx,ob bs ss js us ls ks h []::r9 bs ss js us ls ks h ab ab):=by simp only[nX,qd,hno,hle,vU,cK,pF]
 have e2:itF (jO "Shop" "jobs" 0) (ob bs ss js us ls ks h []::r9 bs ss js us ls ks h ab ab)=aa (js.map bA):=by
  have lk:(iP bs ss js us ls ks h).lookup ("jobs":aj)=aa .(af):=uI (i:=2) (by rw[yM];exact Ab tU 10) rfl;have n1:("jobs":aj)≠"job_by_step":=by decide +kernel
  have e:jO "Shop" "jobs" 0 (ob bs ss js us ls ks h []::r9 bs ss js us ls ks h ab ab)=aa .(af):=by show(if aa ("Shop":aj)=aa ("Shop":aj) then (if ("jobs":aj)="job_by_step" then ab else (iP bs ss js us ls ks h).lookup ("jobs":aj)) else ab)=_;rw[qY rfl,qZ n1,lk]
  unfold itF;rw[e];rfl
 show ax (nX "Shop" "job_by_step" 0) (bW (itF (jO "Shop" "jobs" 0)) (aA 9) (bW (itF (b2 ixD (vSh 9) .(l))) (aA 10) (jB "Shop" "job_by_step" 0 (vSh 10) (vSh 9)))) (aa (.obj "Shop" (iP bs ss js us ls ks h))::r9 bs ss js us ls ks h ab ab)=_;unfold ax;rw[e1,qc];show bW _ _ _ _=_;unfold bW;rw[e2,qc];exact ho
end
theorem bN {b:aQ} (h:ft ρ=aa b):sIf ft g g' ρ=if b=ah then g ρ else g' ρ:=by unfold sIf;rw[h];rfl
theorem bX (h:g ρ=aa (.nx,ρ1)):ax g g' ρ=g' ρ1:=by unfold ax;rw[h];rfl
theorem oF (h:f ρ=aa d):aJ i f ρ=aa (.nx,ρ.set i (oS d)):=by unfold aJ;rw[h];rfl
theorem uB (h1:ρ[i]?=aa (aa (.own ds))) (h2:f ρ=aa d) (h3:ds.length<aW):dj i f ρ=aa (.nx,ρ.set i (aa (.own (ds++[d])))):=by unfold dj;rw[h1];show(f ρ).bind _=_;rw[h2,qc,qY h3]
theorem kG :ax (dU i (szF ak)) g ρ=g (ρ.set i (aa (.own []))):=by
 have z0:(0<=aW)=True:=by simp
 simp only[ax,dU,szF,ak,qc,qf,qm,z0,cK]
theorem i9 (h1:ρ[i]?=aa (aa (.own ds))):eQ i g ρ=g (ρ.set i (oS (.lst ds))):=by unfold eQ;rw[h1]
theorem dH (h:fi ρ=aa xs):bW fi gg body ρ=gB gg body xs ρ:=by unfold bW;rw[h];rfl
theorem df {a b:ag} (h:0<b):bF (.int a) (.int b)=aa (.int (a%b)):=qY h
theorem m5 {a b:ag} (h:0<b/\b<1073741824):dF (.int a) (.int b)=aa (.int (a / b)):=qY h
theorem Nx:(2:ag) ^ 64=18446744073709551616:=by decide +kernel
theorem oh {a b:ag} (h:(-1000000000000<a/\a<1000000000000)\/(-1000000000000<b/\b<1000000000000)):cY (.int a) (.int b)=aa (.int (a*b)):=by show(if _ then _ else _)=_;rw[Nx];exact qY .(f)
theorem jA (ns:ac ag) (k:al):dY [.scr ns,.int (k:ag)]=aa (.int (ns.getD k 0)):=by
 have e:toB (b2 ltD (vSh 1) (cF b9 .(ai))) [oS (.scr ns),oS (.int k)]=aa (decide (k<ns.length)):=by
  simp only[toB,cF,ae,ak,vSh,b2,b9,ltD,qd,qe,qc,qf]
  congr 1
  exact z8.mpr .(f)
 by_cases h:k<ns.length
 .refine bM [oS (.scr ns),oS (.int k)] rfl (m4 (e.trans (by rw[qR h])) (bU ?_));show(atI ns (k:ag)).map D.int=_;rw[lA];simp[pk,h]
 .refine bM [oS (.scr ns),oS (.int k)] rfl ((fD (e.trans (by rw[qM h]))).trans (bU ?_));have:ns.getD k 0=0:=by simp[pk,Rp h]
  rw[this];rfl
noncomputable abbrev dE (c:ag) (k:al) (sz:ac ag) (n:ag) (ds:ac ag) (a b:ar Slot):bi:=[oS (.int c),oS (.int k),oS (.lst (sz.map D.int)),oS (.int n),aa (.own (ds.map D.int)),a,b]
noncomputable def xo:FS:=sIf (orT (toB (b2 eqD (b2 bF (vSh 0) .(j)) .(d))) (toB (b2 eqD (vSh 3) .(e)))) .(W) (ax (dj 4 (b2 bF (vSh 3) (vSh 6))) (aJ 3 (b2 dF (vSh 3) (vSh 6))))
theorem I0 {c n s:ag} {k t:al} {sz ds:ac ag} (hk:k<=1000) (ht:t<=100) (hs:0<s/\s<1073741824) (hl:ds.length<=100):∃n' d,xo (dE c k sz n ds (oS (.int t)) (oS (.int s)))=aa (.nx,dE c k sz n' (ds++[d]) (oS (.int t)) (oS (.int s)))/\0<=d/\d<s:=by
 have e1:toB (b2 eqD (b2 bF (vSh 0) .(j)) .(d)) (dE c k sz n ds (oS (.int t)) (oS (.int s)))=aa (decide (c%2=1)):=
  aY (au (au rfl rfl (df .(h))) rfl rfl)
 have e2:toB (b2 eqD (vSh 3) .(e)) (dE c k sz n ds (oS (.int t)) (oS (.int s)))=aa (decide (n=0)):=aY .(O);have e3:orT (toB (b2 eqD (b2 bF (vSh 0) .(j)) .(d))) (toB (b2 eqD (vSh 3) .(e))) (dE c k sz n ds (oS (.int t)) (oS (.int s)))=aa (decide (c%2=1) || decide (n=0)):=by unfold orT;rw[e1,qc,e2];cases decide (c%2=1)<;>rfl
 have hsz:(ds.map D.int).length<aW:=by rw[qg];unfold aW;omega
 unfold xo;rw[bN e3];split
 .have q1:0<=(n+c)%2147483629:=qX _ .(h);have q2:(n+c)%2147483629<2147483629:=qU _ .(h);have q3:0<=(k:ag)+t/\(k:ag)+t<=1100:=by omega
  have q4:0<=7919*((k:ag)+t)*((k:ag)+t):=F2 .(f) q3.1;have q5:7919*((k:ag)+t)*((k:ag)+t)<=7919*1100*1100:=Int.mul_le_mul .(f) q3.2 q3.1 .(h)
  let n2:ag:=(n+c)%2147483629+48271+7919*((k:ag)+t)*((k:ag)+t)
  refine⟨n2*n2%2147483587,n2*n2%2147483587 / 16%s,(a9 (au (au .(O) rfl (df .(h))) rfl rfl)).trans ((a9 (au rfl (au (au rfl .(O) (oh (.inl .(h)))) .(O) (oh (.inr .(f)))) rfl)).trans ((a9 (au (au rfl rfl (oh (.inl .(f)))) rfl (df .(h)))).trans (uB rfl (au (au rfl rfl (m5 .(h))) rfl (df hs.1)) hsz))) |>.trans ?_,qX _ .(f),qU _ hs.1⟩;simp[dE];exact⟨rfl,rfl⟩
 .refine⟨n / s,n%s,(bX (uB rfl (au rfl rfl (df hs.1)) hsz)).trans (oF (au rfl rfl (m5 hs))) |>.trans ?_,qX _ .(f),qU _ hs.1⟩;simp[dE]
theorem oW (h:(xs.mapIdx fun i d=>D.tup [.int i,d])[i]?=aa d):∃x,xs[i]?=aa x/\d=.tup [.int i,x]:=by rw[Rz] at h;obtain⟨x,hx,rfl⟩:=oMd h;exact⟨x,hx,rfl⟩
theorem lx (c:ag) (k:al) (hk:k<=1000) (sz:ac ag) (hs:∀s∈sz,0<s/\s<1073741824) (hl:sz.length<=100) :
  ∃ds:ac ag,dZ [.int c,.int (k:ag),.lst (sz.map D.int)]=aa .(u)/\ds.length=sz.length/\∀(i:al) s,sz[i]?=aa s->∃d,ds[i]?=aa d/\0<=d/\d<s:=by
 obtain⟨n0,hn0⟩:∃n0:ag,b2 dF (cF tN .(ai)) .(j) [oS (.int c),oS (.int k),oS (.lst (sz.map D.int)),ab,ab,ab,ab]=aa (.int n0):=⟨_,au (aU (ay rfl aL) rfl) rfl (m5 .(h))⟩;obtain⟨ρ',h1,n,ds,a,b,h2,h3,h4⟩:=eF (gg:=b6 2 .(au)) (body:=xo) (xs:=(sz.map D.int).mapIdx fun i d=>D.tup [.int i,d]) (ρ:=dE c k sz n0 [] ab ab)
  (fun i ρ=>∃n ds a b,ρ=dE c k sz n ds a b/\ds.length=i/\∀(j:al) s,j<i->sz[j]?=aa s->∃d,ds[j]?=aa d/\0<=d/\d<s) ⟨n0,[],ab,ab,rfl,rfl,fun j s hj=>by omega⟩ (fun i x ρ hx hI=>by
   obtain⟨n,ds,a,b,rfl,hlen,hb⟩:=hI;obtain⟨y,hy,rfl⟩:=oW hx;rw[ql] at hy;obtain⟨s,hsi,rfl⟩:=oMd hy;have hi:i<sz.length:=(di.mp hsi).1;obtain⟨n',d,e1,e2,e3⟩:=I0 (c:=c) (n:=n) (k:=k) (t:=i) (sz:=sz) (ds:=ds) hk .(f) (hs s (qO hsi)) .(f);refine⟨_,_,rfl,e1,n',ds++[d],_,_,rfl,by rw[qk,hlen];rfl,fun j s' hj hs'=>?_⟩;by_cases hji:j=i
   .subst hji;rw[hsi] at hs';cases hs';exact⟨d,by rw[qJ .(f),hlen,Nat.sub_self];rfl,e2,e3⟩
   .obtain⟨d',q1,q2⟩:=hb j s' .(f) hs';exact⟨d',by rw[qy .(f)];exact q1,q2⟩)
 rw[nC,qg] at h3 h4;refine⟨ds,?_,h3,fun i s hi=>h4 i s (di.mp hi).1 hi⟩;refine bM [oS (.int c),oS (.int k),oS (.lst (sz.map D.int)),ab,ab,ab,ab] rfl ((a9 hn0).trans (kG.trans ((bX ((dH (xs:=(sz.map D.int).mapIdx fun i d=>D.tup [.int i,d]) rfl).trans (h1.trans (by rw[h2])))).trans ((i9 rfl).trans (bU (f:=vSh 4) rfl)))))
noncomputable def nm (k:al):aj:=match ga [.int (k:ag)] with
 |some (.str x)=>x
 |_=>⟨#[]⟩
noncomputable def Eg (k:al):aQ:=match ga [.int (k:ag)] with
 |some (.str x)=>ba x
 |_=>ao
theorem GL:∀k,k<90->Eg k=ah:=by decide +kernel
theorem li {k:al} (h:k<90):ga [.int (k:ag)]=aa (.str (nm k))/\ba (nm k)=ah:=by
 have:=GL k h;unfold Eg at this;unfold nm;split at this
 .rename_i x e;rw[e];exact⟨rfl,this⟩
 .cases this
theorem NZ:∀i,i<10->∀j,j<10->nm i=nm j->i=j:=by decide +kernel
theorem NK:∀i,i<3->∀j,j<3->nm (60+i)=nm (60+j)->i=j:=by decide +kernel
theorem J8:∀i,i<3->∀j,j<3->nm (70+i)=nm (70+j)->i=j:=by decide +kernel
theorem ME:∀i,i<7->∀j,j<7->nm (80+i)=nm (80+j)->i=j:=by decide +kernel
noncomputable def pqr (i:al):aj:=if i=0 then "p" else if i=1 then "q" else "r"
theorem nP:∀i,i<3->ba (pqr i)=ah:=by decide +kernel
theorem v8 {i:ag} (h0:0<=i) (h:i<3):ixD (.str "pqr") (.int i)=aa (.str (pqr i.toNat)):=by
 have:i=0\/i=1\/i=2:=by omega
 rcases this with rfl|rfl|rfl<;>rfl
theorem Kj {d:ag} (h:0<=d):oY ab (aa d) (.lst xs)=aa (.lst (xs.take d.toNat)):=by
 show aa (D.lst (eB xs ab (aa d)))=_;unfold eB HT.sIx;simp only;rw[qZ .(f),zB,Nat.sub_zero]
 congr 2
 rw[SA];split
 .rfl
 .rw[sy (qw _),sy .(f)]
theorem N4 {d:ag} (h:0<=d):oY (aa d) ab (.lst xs)=aa (.lst (xs.drop d.toNat)):=by
 show aa (D.lst (eB xs (aa d) ab))=_;unfold eB HT.sIx;simp only;rw[qZ .(f)]
 congr 2
 rw[SA];split
 .rw[sy (by rw[jk];omega)]
 .rw[SB (qw _),SB .(f)];simp
theorem tO {g:FE} {d:ag} (h1:f ρ=aa (.lst xs)) (h2:g ρ=aa (.int d)) (h:0<=d):slF f pN (pS g) ρ=aa (.lst (xs.take d.toNat)):=by unfold slF pN pS;rw[h1,h2];exact Kj h
theorem wA {g:FE} {d:ag} (h1:f ρ=aa (.lst xs)) (h2:g ρ=aa (.int d)) (h:0<=d):slF f (pS g) pN ρ=aa (.lst (xs.drop d.toNat)):=by unfold slF pN pS;rw[h1,h2];exact N4 h
structure GoodI (h:ag) (br:ac (ag×ag)):Prop where
 iv:∀p∈br,0<=p.1/\p.1<p.2/\p.2<=h
 gap:∀(i:al) p q,br[i]?=aa p->br[i+1]?=aa q->p.2<q.1
noncomputable abbrev sE (rs:ac (ag×ag)) (h:ag) (br:ac (ag×ag)) (f:ag) (a b c d:ar Slot):bi:=[oS (.lst (rs.map dIv)),oS (.int h),aa (.own (br.map dIv)),oS (.int f),a,b,c,d]
noncomputable def D3:FS:=ax (aJ 6 (b2 aX (vSh 3) (vSh 4))) (ax (aJ 7 (b2 aX (b2 aX (vSh 6) .(d)) (vSh 5))) .(ay))
theorem ff {g:FE} {x:D} (h1:f ρ=aa x) (h2:g ρ=aa y):bc (szF (ae f (ae g ak))) ρ=aa (.tup [x,y]):=by simp only[bc,szF,ae,ak,h1,h2,qc,qf,qj,qm,j4,sz2,cK]
theorem pO {g e:FE} {x:D} (h1:f ρ=aa x) (h2:g ρ=aa y) (h3:e ρ=aa z):bc (szF (ae f (ae g (ae e ak)))) ρ=aa (.tup [x,y,z]):=by simp only[bc,szF,ae,ak,h1,h2,h3,qc,qf,qj,qm,j4,sz3,cK]
theorem MA {g e a:FE} {x w:D} (h1:f ρ=aa x) (h2:g ρ=aa y) (h3:e ρ=aa z) (h4:a ρ=aa w):bc (szF (ae f (ae g (ae e (ae a ak))))) ρ=aa (.tup [x,y,z,w]):=by simp only[bc,szF,ae,ak,h1,h2,h3,h4,qc,qf,qj,qm,j4,sz4,cK]
theorem Db {g e a b:FE} {x w u:D} (h1:f ρ=aa x) (h2:g ρ=aa y) (h3:e ρ=aa z) (h4:a ρ=aa w) (h5:b ρ=aa u):bc (szF (ae f (ae g (ae e (ae a (ae b ak)))))) ρ=aa (.tup [x,y,z,w,u]):=by simp only[bc,szF,ae,ak,h1,h2,h3,h4,h5,qc,qf,qj,qm,j4,sz5,cK]
theorem Ga (rs:ac (ag×ag)) (h:ag) (hr:∀p∈rs,0<=p.1/\0<=p.2) (hl:rs.length<=3):∃br:ac (ag×ag),tJ [.lst (rs.map dIv),.int h]=aa (.lst (br.map dIv))/\br.length<=rs.length/\GoodI h br:=by
 obtain⟨ρ',h1,br,f,a,b,c,d,h2,h3,h4,h5,h6⟩:=eF (gg:=b6 2 .(av)) (body:=D3) (xs:=rs.map dIv) (ρ:=sE rs h [] 0 ab ab ab ab)
  (fun i ρ=>∃br f a b c d,ρ=sE rs h br f a b c d/\br.length<=i/\GoodI h br/\0<=f/\∀p∈br,p.2<f) ⟨[],0,ab,ab,ab,ab,rfl,qw _,⟨fun p hp=>(by cases hp),fun i p q hp=>(by simp at hp)⟩,pH _,fun p hp=>(by cases hp)⟩ (fun i x ρ hx hI=>by
   obtain⟨br,f,a,b,c,d,rfl,hlen,hg,hf,hlt⟩:=hI;rw[ql] at hx;obtain⟨p,hp,rfl⟩:=oMd hx;obtain⟨p1,p2⟩:=hr p (qO hp);have hi:i<rs.length:=(di.mp hp).1;have hsz:(br.map dIv).length<aW:=by rw[qg];unfold aW;omega
   have pre:∀ρ2,.(ay) (sE rs h br f (oS (.int p.1)) (oS (.int p.2)) (oS (.int (f+p.1))) (oS (.int (f+p.1+1+p.2))))=aa (.nx,ρ2)->D3 (sE rs h br f (oS (.int p.1)) (oS (.int p.2)) c d)=aa (.nx,ρ2):=fun ρ2 q=>
    (a9 .(O)).trans ((a9 (au .(O) rfl rfl)).trans q)
   have e:toB (b2 leD (vSh 7) (vSh 1)) (sE rs h br f (oS (.int p.1)) (oS (.int p.2)) (oS (.int (f+p.1))) (oS (.int (f+p.1+1+p.2))))=aa (decide (f+p.1+1+p.2<=h)):=aY .(O);by_cases hh:f+p.1+1+p.2<=h
   .rw[qR hh] at e;refine⟨_,_,rfl,pre _ ((bN e).trans ((qY rfl).trans ((bX (uB rfl (ff rfl rfl) hsz)).trans (oF .(O))))),br++[(f+p.1,f+p.1+1+p.2)],f+p.1+1+p.2+1,oS (.int p.1),oS (.int p.2),oS (.int (f+p.1)),oS (.int (f+p.1+1+p.2)),?_,?_,⟨fun q hq=>?_,fun j q q' hq hq'=>?_⟩,by omega,fun q hq=>?_⟩
    .simp[sE,dIv]
    .rw[qk];simp;omega
    .rcases fS.mp hq with z|z
     .exact hg.iv q z
     .rw[ce.mp z];exact⟨by omega,by omega,hh⟩
    .have hj:j+1<br.length+1:=by have:=(di.mp hq').1;simpa using this
     rw[qy .(f)] at hq;by_cases hj2:j+1<br.length
     .rw[qy hj2] at hq';exact hg.gap j q q' hq hq'
     .rw[qJ .(f),show j+1-br.length=0 by omega] at hq';cases hq';have:=hlt q (qO hq);show q.2<f+p.1;omega
    .rcases fS.mp hq with z|z
     .have:=hlt q z;omega
     .rw[ce.mp z];show f+p.1+1+p.2 < _;omega
   .rw[qM hh] at e;exact⟨_,_,rfl,pre _ ((bN e).trans rfl),br,f,_,_,_,_,rfl,by omega,hg,hf,hlt⟩)
 rw[qg] at h3;refine⟨br,bM [oS (.lst (rs.map dIv)),oS (.int h),ab,ab,ab,ab,ab,ab] rfl (kG.trans ((a9 (d:=.int 0) rfl).trans ((bX ((dH (xs:=rs.map dIv) rfl).trans (h1.trans (by rw[h2])))).trans ((i9 rfl).trans (bU (f:=vSh 2) rfl))))),h3,h4⟩
theorem mL {g:α->D} {xs:ac α} {x:α} (h1:ρ[i]?=aa (aa (.own (xs.map g)))) (h2:f ρ=aa (g x)) (h3:xs.length<=1000):dj i f ρ=aa (.nx,ρ.set i (aa (.own ((xs++[x]).map g)))):=by rw[uB h1 h2 (by rw[qg];unfold aW;omega),jp];rfl
theorem C0 {g e:FE} {x:D} (h1:f ρ=aa x) (h2:g ρ=aa y) (h3:e ρ=aa z):aI (szF (ae f (ae g (ae e ak)))) ρ=aa (.lst [x,y,z]):=by simp only[aI,szF,ae,ak,h1,h2,h3,qc,qf,qj,qm,j4,sz3,cK]
theorem cC {ds:ac ag} {d:ag} (h1:f ρ=aa .(u)) (h2:ds[n]?=aa d):b2 ixD f (vC (.int (n:ag))) ρ=aa (.int d):=
 au h1 rfl (by rw[ixL,ql,h2];rfl)
structure BenchAt (h:ag) (i:al) (b:BenchT):Prop where
 nm:b.nm=nm (60+i)
 len:b.br.length<=3
 good:GoodI h b.br
noncomputable abbrev bE (cs:ac ag) (h:ag) (bs:ac BenchT) (a b c d:ar Slot):bi:=[oS (.lst (cs.map D.int)),oS (.int h),aa (.own (bs.map cx)),a,b,c,d]
noncomputable def B5:FE:=aI (szF (ae .(l) (ae (vC (.int 5)) (ae .(i) (ae (vC (.int 7)) (ae .(l) (ae (vC (.int 9)) (ae (vC (.int 5)) ak))))))))
theorem Mg (ρ:bi):B5 ρ=aa (.lst (([4,5,3,7,4,9,5]:ac ag).map D.int)):=rfl
noncomputable def EA:FS:=ax (aJ 5 (cF dZ (ae (vSh 4) (ae (vSh 3) (ae B5 ak))))) .(U)
theorem Gy {c:ag} {bs:ac BenchT} {y z:ar Slot} (hi:i<3) (hl:bs.length<=3):∃b u v,EA (bE cs h bs (oS (.int i)) (oS (.int c)) y z)=aa (.nx,bE cs h (bs++[b]) (oS (.int i)) (oS (.int c)) u v)/\BenchAt h i b:=by
 obtain⟨ds,e,hd,hb⟩:=lx c i .(f) [4,5,3,7,4,9,5] .(h) .(h);obtain⟨d0,q0,p0,_⟩:=hb 0 4 rfl;obtain⟨d1,q1,p1,_⟩:=hb 1 5 rfl;obtain⟨d2,q2,p2,_⟩:=hb 2 3 rfl;obtain⟨d3,q3,p3,_⟩:=hb 3 7 rfl;obtain⟨d4,q4,p4,_⟩:=hb 4 4 rfl;obtain⟨d5,q5,p5,_⟩:=hb 5 9 rfl;obtain⟨d6,q6,p6,_⟩:=hb 6 5 rfl;have hrs:∀p∈([(d1,d2),(d3,d4),(d5,d6)]:ac (ag×ag)).take d0.toNat,0<=p.1/\0<=p.2:=fun p hp=>by
  have:=vM hp;simp only[qK,qI,or_false] at this;rcases this with rfl|rfl|rfl
  .exact⟨p1,p2⟩
  .exact⟨p3,p4⟩
  .exact⟨p5,p6⟩
 obtain⟨br,es,hbl,hbg⟩:=Ga (([(d1,d2),(d3,d4),(d5,d6)]:ac (ag×ag)).take d0.toNat) h hrs (by rw[qD];simp;omega);have hn:=(li (k:=60+i) .(f)).1;have hn':ga [.int (60+(i:ag))]=aa (.str (nm (60+i))):=by rw[←hn];congr 2
 refine⟨⟨nm (60+i),br⟩,_,_,(a9 (d:=.lst (ds.map D.int)) (aU (ay rfl (ay rfl (ay (Mg _) aL))) e)).trans ((a9 (d:=.lst ((([(d1,d2),(d3,d4),(d5,d6)]:ac (ag×ag)).take d0.toNat).map dIv)) ?_).trans (mL rfl (ff (aU (ay .(O) aL) hn') (aU .(k) es)) .(f))),rfl,by rw[qD] at hbl;simp at hbl;show br.length<=3;omega,hbg⟩;rw[F3];exact tO (xs:=[dIv (d1,d2),dIv (d3,d4),dIv (d5,d6)]) (C0 (ff (cC rfl q1) (cC rfl q2)) (ff (cC rfl q3) (cC rfl q4)) (ff (cC rfl q5) (cC rfl q6))) (cC rfl q0) p0
theorem Hs (cs:ac ag) (h:ag) (hl:cs.length<=3):∃bs:ac BenchT,yb [.lst (cs.map D.int),.int h]=aa .(aB)/\bs.length=cs.length/\∀(i:al) b,bs[i]?=aa b->BenchAt h i b:=by
 obtain⟨ρ',h1,bs,a,b,c,d,h2,h3,h4⟩:=eF (gg:=b6 2 (aT (aA 3) (aT (aA 4) bZ))) (body:=EA) (xs:=(cs.map D.int).mapIdx fun i d=>D.tup [.int i,d]) (ρ:=bE cs h [] ab ab ab ab)
  (fun i ρ=>∃bs a b c d,ρ=bE cs h bs a b c d/\bs.length=i/\∀(j:al) b,bs[j]?=aa b->BenchAt h j b) ⟨[],ab,ab,ab,ab,rfl,rfl,fun j b hj=>(by simp at hj)⟩ (fun i x ρ hx hI=>by
   obtain⟨bs,a,b,c,d,rfl,hlen,hb⟩:=hI;obtain⟨y,hy,rfl⟩:=oW hx;rw[ql] at hy;obtain⟨s,hsi,rfl⟩:=oMd hy;have hi:i<cs.length:=(di.mp hsi).1;obtain⟨b',u,v,e1,e2⟩:=Gy (cs:=cs) (h:=h) (c:=s) (bs:=bs) (i:=i) (y:=c) (z:=d) .(f) .(f);refine⟨_,_,rfl,e1,bs++[b'],_,_,_,_,rfl,by rw[qk,hlen];rfl,fun j b'' hj=>?_⟩;by_cases hji:j<bs.length
   .rw[qy hji] at hj;exact hb j b'' hj
   .have hl2:=(di.mp hj).1;rw[qk,qV] at hl2;rw[qJ .(f),show j-bs.length=0 by omega] at hj;cases hj;rw[show j=i by omega];exact e2)
 rw[nC,qg] at h3;exact⟨bs,bM [oS (.lst (cs.map D.int)),oS (.int h),ab,ab,ab,ab,ab] rfl (kG.trans ((bX ((dH (xs:=(cs.map D.int).mapIdx fun i d=>D.tup [.int i,d]) rfl).trans (h1.trans (by rw[h2])))).trans ((i9 rfl).trans (bU (f:=vSh 2) rfl)))),h3,h4⟩
noncomputable def bnm (bs:ac BenchT) (i:al):aj:=(bs.map (·.nm)).getD i ⟨#[]⟩
theorem DM {bs:ac BenchT} (h:i<bs.length):bnm bs i∈bs.map (·.nm):=by unfold bnm;rw[kX,ql,qC h];exact qW (pp h)
theorem Ef {bs:ac BenchT} {g:FE} {d:ag} (h1:f ρ=aa .(aB)) (h2:g ρ=aa (.int d)) (h3:0<=d) (h4:d<bs.length):b2 ixD (b2 ixD f g) .(e) ρ=aa (.str (bnm bs d.toNat)):=by
 obtain⟨n,rfl⟩:=SC h3;have hd:n<bs.length:=by omega
 have e:ixD .(aB) (.int (n:ag))=aa (cx bs[n]):=by rw[ixL,ql,qC hd];rfl
 refine au (au h1 h2 e) rfl ?_;show ixD (.tup _) (.int 0)=_;rw[cI];unfold bnm;rw[me,kX,ql,qC hd];rfl
structure StepAt (bn:ac aj) (h:ag) (i:al) (s:StepT):Prop where
 nm:s.nm=nm i
 good:GoodS bn h s
noncomputable abbrev tE (cs:ac ag) (bs:ac BenchT) (h lo:ag) (ss:ac StepT) (a b c d:ar Slot):bi:=[oS (.lst (cs.map D.int)),oS .(aB),oS (.int h),oS (.int lo),aa (.own (ss.map bJ)),a,b,c,d]
theorem GA {x:D} (h1:f ρ=aa x):szF (ae f ak) ρ=aa [x]:=by simp only[szF,ae,ak,h1,qc,qf,qj,qm,j4,sz1,cK]
theorem As {g e a b c:FE} {x w u v:D} (h1:f ρ=aa x) (h2:g ρ=aa y) (h3:e ρ=aa z) (h4:a ρ=aa w) (h5:b ρ=aa u) (h6:c ρ=aa v):aI (szF (ae f (ae g (ae e (ae a (ae b (ae c ak))))))) ρ=aa (.lst [x,y,z,w,u,v]):=by simp only[aI,szF,ae,ak,h1,h2,h3,h4,h5,h6,qc,qf,qj,qm,j4,sz6,cK]
theorem xS {g e a b c d:FE} {x w u v t:D} (h1:f ρ=aa x) (h2:g ρ=aa y) (h3:e ρ=aa z) (h4:a ρ=aa w) (h5:b ρ=aa u) (h6:c ρ=aa v) (h7:d ρ=aa t):aI (szF (ae f (ae g (ae e (ae a (ae b (ae c (ae d ak)))))))) ρ=aa (.lst [x,y,z,w,u,v,t]):=by simp only[aI,szF,ae,ak,h1,h2,h3,h4,h5,h6,h7,qc,qf,qj,qm,j4,sz7,cK]
theorem xz (h:fr ρ=aa ds):ax (dU i fr) g ρ=g (ρ.set i (aa (.own ds))):=by simp only[ax,dU,h,qf,qc]
theorem xq {f g:FT} {a b:aQ} (h1:f ρ=aa a) (h2:g ρ=aa b):cQ f g ρ=aa (a && b):=by unfold cQ;rw[h1,qc,h2];cases a<;>rfl
theorem wd (a:ag) (hh:1<=h):1<=1+a%h/\1+a%h<=h:=by have h1:=qX a (show h≠0 by omega);have h2:=qU a (show 0<h by omega);omega
noncomputable def B2:FS:=(ax (aJ 7 (cF dZ .(ae))) .(C))
theorem HR {c:ag} {bs:ac BenchT} {y z:ar Slot} (hh:1<=h) (hlo:0<lo/\lo<1000) (hi:i<10) (hb:1<=bs.length/\bs.length<=3) (bnd:(bs.map (·.nm)).Nodup) (hl:ss.length<=10) :
  ∃s u v,B2 (tE cs bs h lo ss (oS (.int i)) (oS (.int c)) y z)=aa (.nx,tE cs bs h lo (ss++[s]) (oS (.int i)) (oS (.int c)) u v)/\StepAt (bs.map (·.nm)) h i s:=by
 obtain⟨ds,e,hd,hbd⟩:=lx c (i+7) .(f) [3,(bs.length:ag),lo,(bs.length:ag),lo,3] (by intro s hs;simp only[qK,qI,or_false] at hs;rcases hs with rfl|rfl|rfl|rfl|rfl|rfl<;>omega) (by simp)
 obtain⟨d0,q0,p0,_⟩:=hbd 0 3 rfl;obtain⟨d1,q1,p1,r1⟩:=hbd 1 _ rfl;obtain⟨d2,q2,p2,_⟩:=hbd 2 _ rfl;obtain⟨d3,q3,p3,r3⟩:=hbd 3 _ rfl;obtain⟨d4,q4,p4,_⟩:=hbd 4 _ rfl;obtain⟨d5,q5,p5,r5⟩:=hbd 5 3 rfl;obtain⟨hn,hnb⟩:=li (k:=i) .(f);have w1:(bnm bs d1.toNat)∈bs.map (·.nm):=DM .(f);have w3:(bnm bs d3.toNat)∈bs.map (·.nm):=DM .(f);have bm:∀a b:al,a<bs.length->b<bs.length->bnm bs a=bnm bs b->a=b:=fun a b ha hb' hab=>by unfold bnm at hab;rw[kX,kX,qC (by simpa using ha),qC (by simpa using hb')] at hab;exact(QJ bnd).mp hab
 let W1:aj×ag:=(bnm bs d1.toNat,1+d2%h)
 let W3:aj×ag:=(bnm bs d3.toNat,1+d4%h)
 have e7:((i:ag)+7)=((i+7:al):ag):=by omega
 have eD:cF dZ .(ae) (tE cs bs h lo ss (oS (.int i)) (oS (.int c)) y z)=aa .(u):=by
  refine aU (ay (d:=.int c) rfl (ay (d:=.int ((i:ag)+7)) .(O) (ay (As rfl (y:=.int (bs.length:al)) ?_ rfl (w:=.int (bs.length:al)) ?_ rfl rfl) aL))) (by rw[e7];exact e)<;>
  .refine aU (ay rfl aL) ?_;show aa (D.int _)=_;rw[qg]
 have fin:∀(ws:ac (aj×ag)),GoodS (bs.map (·.nm)) h ⟨nm i,pqr d5.toNat,ws⟩->eQ 8 (dj 4 (bc (szF (ae (cF ga (ae (vSh 5) ak)) (ae (b2 ixD (vC (.str "pqr")) (b2 ixD (vSh 7) (vC (.int 5)))) (ae (vSh 8) ak)))))) (tE cs bs h lo ss (oS (.int i)) (oS (.int c)) (oS .(u)) (aa (.own (ws.map dW))))=aa (.nx,tE cs bs h lo (ss++[⟨nm i,pqr d5.toNat,ws⟩]) (oS (.int i)) (oS (.int c)) (oS .(u)) (oS (.lst (ws.map dW)))):=fun ws _=>
  (i9 rfl).trans (mL rfl (pO (aU (ay rfl aL) hn) (au rfl (cC rfl q5) (v8 p5 r5)) rfl) .(f))
 have eW:∀Z,szF (ae (bc (szF (ae (b2 ixD (b2 ixD (vSh 1) (b2 ixD (vSh 7) .(d))) .(e)) (ae (b2 aX .(d) (b2 bF (b2 ixD (vSh 7) .(j)) (vSh 2))) ak)))) ak) (tE cs bs h lo ss (oS (.int i)) (oS (.int c)) (oS .(u)) Z)=aa ([W1].map dW):=fun Z=>
  GA (ff (Ef rfl (cC rfl q1) p1 .(f)) (au rfl (au (cC rfl q2) rfl (df .(f))) rfl))
 have eT:∀Z,cQ (toB (b2 eqD (b2 ixD (vSh 7) .(e)) .(e))) (toB (b2 neA (b2 ixD (vSh 7) .(i)) (b2 ixD (vSh 7) .(d)))) (tE cs bs h lo ss (oS (.int i)) (oS (.int c)) (oS .(u)) Z)=aa (decide (d0=0) && !decide (d3=d1)):=fun Z=>
  xq (aY (au (cC rfl q0) rfl rfl)) (aY (au (cC rfl q3) (cC rfl q1) rfl))
 have g1:GoodS (bs.map (·.nm)) h ⟨nm i,pqr d5.toNat,[W1]⟩:=⟨hnb,nP _ .(f),by simp,by simp,fun w hw=>by rw[ce.mp hw];exact⟨w1,wd d2 hh⟩,by simp⟩
 by_cases ht:(decide (d0=0) && !decide (d3=d1))=ah
 .have hne:d3≠d1:=by simp only[fU,vR,FO] at ht;exact ht.2
  have g2:GoodS (bs.map (·.nm)) h ⟨nm i,pqr d5.toNat,[W1]++[W3]⟩:=⟨hnb,nP _ .(f),by simp,by simp,fun w hw=>by
   rcases fS.mp hw with q|q
   .rw[ce.mp q];exact⟨w1,wd d2 hh⟩
   .rw[ce.mp q];exact⟨w3,wd d4 hh⟩,by
   show[bnm bs d1.toNat,bnm bs d3.toNat].Nodup;rw[kQ];refine⟨fun q=>?_,by simp⟩;have:=bm _ _ .(f) .(f) (ce.mp q);omega⟩
  exact⟨_,_,_,(a9 eD).trans ((xz (eW z)).trans ((bX ((bN (eT _)).trans ((qY ht).trans (mL (x:=W3) rfl (ff (Ef rfl (cC rfl q3) p3 .(f)) (au rfl (au (cC rfl q4) rfl (df .(f))) rfl)) (by simp))))).trans (fin _ g2))),rfl,g2⟩
 .exact⟨_,_,_,(a9 eD).trans ((xz (eW z)).trans ((bX ((bN (eT _)).trans ((qZ ht).trans rfl))).trans (fin _ g1))),rfl,g1⟩
theorem OH (cs:ac ag) (bs:ac BenchT) (h lo:ag) (hh:1<=h) (hlo:0<lo/\lo<1000) (hl:cs.length<=10) (hb:1<=bs.length/\bs.length<=3) (bnd:(bs.map (·.nm)).Nodup):∃ss:ac StepT,wx [.lst (cs.map D.int),.lst (bs.map cx),.int h,.int lo]=aa .(al)/\ss.length=cs.length/\∀(i:al) s,ss[i]?=aa s->StepAt (bs.map (·.nm)) h i s:=by
 obtain⟨ρ',h1,ss,a,b,c,d,h2,h3,h4⟩:=eF (gg:=b6 2 .(au)) (body:=B2) (xs:=(cs.map D.int).mapIdx fun i d=>D.tup [.int i,d]) (ρ:=tE cs bs h lo [] ab ab ab ab)
  (fun i ρ=>∃ss a b c d,ρ=tE cs bs h lo ss a b c d/\ss.length=i/\∀(j:al) s,ss[j]?=aa s->StepAt (bs.map (·.nm)) h j s) ⟨[],ab,ab,ab,ab,rfl,rfl,fun j b hj=>(by simp at hj)⟩ (fun i x ρ hx hI=>by
   obtain⟨ss,a,b,c,d,rfl,hlen,hb'⟩:=hI;obtain⟨y,hy,rfl⟩:=oW hx;rw[ql] at hy;obtain⟨s,hsi,rfl⟩:=oMd hy;have hi:i<cs.length:=(di.mp hsi).1;obtain⟨s',u,v,e1,e2⟩:=HR (cs:=cs) (h:=h) (lo:=lo) (c:=s) (bs:=bs) (ss:=ss) (i:=i) (y:=c) (z:=d) hh hlo .(f) hb bnd .(f);refine⟨_,_,rfl,e1,ss++[s'],_,_,_,_,rfl,by rw[qk,hlen];rfl,fun j b'' hj=>?_⟩;by_cases hji:j<ss.length
   .rw[qy hji] at hj;exact hb' j b'' hj
   .have hl2:=(di.mp hj).1;rw[qk,qV] at hl2;rw[qJ .(f),show j-ss.length=0 by omega] at hj;cases hj;rw[show j=i by omega];exact e2)
 rw[nC,qg] at h3;exact⟨ss,bM [oS (.lst (cs.map D.int)),oS .(aB),oS (.int h),oS (.int lo),ab,ab,ab,ab,ab] rfl (kG.trans ((bX ((dH (xs:=(cs.map D.int).mapIdx fun i d=>D.tup [.int i,d]) rfl).trans (h1.trans (by rw[h2])))).trans ((i9 rfl).trans (bU (f:=vSh 4) rfl)))),h3,h4⟩
theorem pU:∀(ns:ac aj),nD (ns.map fH)=0
 |[]=>by simp[nD]
 |x::r=>by simp[nD,mf,pU r]
theorem Dc (h:∀x∈ns,ba x=ah):eA (.list (ns.map fH))=ah:=by simp[eA,kY,mN h,mf,pU]
theorem KH (h:∀x∈ns,ba x=ah):neA (.lst (ns.map D.str)) (.lst [])=aa (.bl (!ns.isEmpty)):=by
 have e0:neA (.lst (ns.map D.str)) (.lst [])=mv (.lst (ns.map D.str)) (.lst []):=rfl;have s1:=Dc h;have s2:eA (.list [])=ah:=by simp[eA,kY,j2,mf,nD]
 have p1:pdD (.lst (ns.map D.str))=aa (.list (ns.map fH)):=by simp[pdD,rD]
 have p2:pdD (.lst [])=aa (.list []):=by simp[pdD,gA]
 have q:il (.list (ns.map fH)) (.list [])=ns.isEmpty:=by cases ns<;>simp[il,lc]
 rw[e0];unfold mv eqX;rw[p1,p2,qc,qc,qY ⟨s1,s2⟩,q];rfl
noncomputable abbrev jE (cs:ac ag) (ss:ac StepT) (h:ag) (js:ac JobT) (lf:ac aj) (a b c d e f:ar Slot):bi:=[oS (.lst (cs.map D.int)),oS .(al),oS (.int h),aa (.own (js.map bA)),oS (.lst (lf.map D.str)),a,b,c,d,e,f]
structure JInv (sn:ac aj) (h:ag) (i:al) (js:ac JobT) (lf:ac aj):Prop where
 len:js.length<=i
 nd:(js.flatMap (·.ms)++lf).Nodup
 sub:∀x∈js.flatMap (·.ms)++lf,x∈sn
 ll:lf.length<=sn.length
 good:∀j∈js,GoodJ sn h j
 nmd:(js.map (·.nm)).Nodup
 nmk:∀j∈js,∃k,k<i/\j.nm=nm (70+k)
noncomputable def Bq:FS:=.(T)
theorem NM {a:ag} (hh:1<=h) (ha:0<=a):∃m,io [.int h,.int a]=aa (.int m)/\0<=m/\m<=h:=by
 refine⟨_,rfl,?_,?_⟩
 .omega
 .omega
theorem IY {a:ag} (hh:1<=h) (ha:a<=h):∃m,iE [.int 0,.int a]=aa (.int m)/\0<=m/\m<=h:=by
 refine⟨_,rfl,?_,?_⟩
 .omega
 .omega
theorem Ax {a c:ag} (h:f ρ=aa (.int a)):∃b:ag,cF kh (ae (b2 eqD f (vC (.int c))) ak) ρ=aa (.int b)/\0<=b/\b<=1:=by refine⟨if decide (a=c)=ah then 1 else 0,aU (ay (au h rfl rfl) aL) rfl,?_,?_⟩<;>split<;>decide
theorem Nq {c:ag} {lf:ac aj} {y z w v:ar Slot} (hh:1<=h) (hi:i<3) (hs:∀x∈ss.map (·.nm),ba x=ah) (I:JInv (ss.map (·.nm)) h i js lf) (hsl:ss.length<=40) :
  ∃js' lf' y' z' w' v',Bq (jE cs ss h js lf (oS (.int i)) (oS (.int c)) y z w v)=aa (.nx,jE cs ss h js' lf' (oS (.int i)) (oS (.int c)) y' z' w' v')/\JInv (ss.map (·.nm)) h (i+1) js' lf':=by
 obtain⟨ds,e,hd,hbd⟩:=lx c (i+17) .(f) [4,3,3,2,5,7] .(h) .(h);obtain⟨d0,q0,p0,r0⟩:=hbd 0 4 rfl;obtain⟨d1,q1,p1,_⟩:=hbd 1 3 rfl;obtain⟨d2,q2,p2,_⟩:=hbd 2 3 rfl;obtain⟨d3,q3,p3,_⟩:=hbd 3 2 rfl;obtain⟨d4,q4,p4,_⟩:=hbd 4 5 rfl;obtain⟨d5,q5,p5,_⟩:=hbd 5 7 rfl;have hn:=(li (k:=70+i) .(f)).1;have hnb:=(li (k:=70+i) .(f)).2;have hn':ga [.int (70+(i:ag))]=aa (.str (nm (70+i))):=by rw[←hn];congr 2
 have e17:((i:ag)+17)=((i+17:al):ag):=by omega
 generalize hsm:lf.take d0.toNat=sm;generalize hlf:lf.drop d0.toNat=lf';have hlf2:lf=sm++lf':=by rw[←hsm,←hlf,sC]
 have hslen:sm.length<=3:=by rw[←hsm,qD];omega
 have hsml:sm.length+lf'.length=lf.length:=by rw[hlf2,qk]
 have hsn:∀x∈sm,ba x=ah:=fun x hx=>hs x (I.sub x (qP _ (by rw[hlf2];exact yT _ hx)));have eD:cF dZ (ae (vSh 6) (ae (b2 aX (vSh 5) (vC (.int 17))) (ae (aI (szF (ae .(l) (ae .(i) (ae .(i) (ae .(j) (ae (vC (.int 5)) (ae (vC (.int 7)) ak)))))))) ak))) (jE cs ss h js lf (oS (.int i)) (oS (.int c)) y z w v)=aa .(u):=
  aU (ay (d:=.int c) rfl (ay (d:=.int ((i:ag)+17)) .(O) (ay (As rfl rfl rfl rfl rfl rfl) aL))) (by rw[e17];exact e)
 have e8:slF (vSh 4) pN (pS (b2 ixD (vSh 7) .(e))) (jE cs ss h js lf (oS (.int i)) (oS (.int c)) (oS .(u)) z w v)=aa (.lst (sm.map D.str)):=by rw[←hsm,F3];exact tO rfl (cC rfl q0) p0
 have e4:slF (vSh 4) (pS (b2 ixD (vSh 7) .(e))) pN (jE cs ss h js lf (oS (.int i)) (oS (.int c)) (oS .(u)) (oS (.lst (sm.map D.str))) w v)=aa (.lst (lf'.map D.str)):=by rw[←hlf,F4];exact wA rfl (cC rfl q0) p0
 have eT:toB (b2 neA (vSh 8) (aI (szF ak))) (jE cs ss h js lf' (oS (.int i)) (oS (.int c)) (oS .(u)) (oS (.lst (sm.map D.str))) w v)=aa (!sm.isEmpty):=aY (au rfl (y:=.lst []) rfl (KH hsn));by_cases hem:sm.isEmpty=ah
 .have hsm0:sm=[]:=List.isEmpty_iff.mp hem;rw[hem] at eT;refine⟨js,lf',_,_,_,_,(a9 eD).trans ((a9 e8).trans ((a9 e4).trans ((bN eT).trans rfl))),⟨by have:=I.len;omega,?_,?_,by have:=I.ll;omega,I.good,I.nmd,fun j hj=>?_⟩⟩
  .have:=I.nd;rw[hlf2,hsm0] at this;exact this
  .have:=I.sub;rw[hlf2,hsm0] at this;exact this
  .obtain⟨k,h1,h2⟩:=I.nmk j hj;exact⟨k,by omega,h2⟩
 .have hem':sm.isEmpty=ao:=by simpa using hem
  rw[hem'] at eT;have hs1:1<=sm.length:=by
   cases sm with
   |nil=>simp at hem
   |cons a b=>simp
  obtain⟨b1,f1,f2,f3⟩:=Ax (c:=0) (f:=b2 ixD (vSh 7) .(j)) (ρ:=jE cs ss h js lf' (oS (.int i)) (oS (.int c)) (oS .(u)) (oS (.lst (sm.map D.str))) w v) (cC rfl q2);obtain⟨ea,m1,m2,m3⟩:=NM (h:=h) (a:=d1*b1) hh (F2 p1 f2);have e9:cF io (ae (vSh 2) (ae (b2 cY (b2 ixD (vSh 7) .(d)) (cF kh (ae (b2 eqD (b2 ixD (vSh 7) .(j)) .(e)) ak))) ak)) (jE cs ss h js lf' (oS (.int i)) (oS (.int c)) (oS .(u)) (oS (.lst (sm.map D.str))) w v)=aa (.int ea):=
   aU (ay rfl (ay (au (cC rfl q1) f1 (oh (.inr .(f)))) aL)) m1
  obtain⟨b2',f4,f5,f6⟩:=Ax (c:=1) (f:=b2 ixD (vSh 7) .(j)) (ρ:=jE cs ss h js lf' (oS (.int i)) (oS (.int c)) (oS .(u)) (oS (.lst (sm.map D.str))) (oS (.int ea)) v) (cC rfl q2);obtain⟨du,n1,n2,n3⟩:=IY (h:=h) (a:=h-d4*b2') hh (by have:=F2 p4 f5;omega);have e10:cF iE (ae .(e) (ae (b2 ic (vSh 2) (b2 cY (b2 ixD (vSh 7) .(l)) (cF kh (ae (b2 eqD (b2 ixD (vSh 7) .(j)) .(d)) ak)))) ak)) (jE cs ss h js lf' (oS (.int i)) (oS (.int c)) (oS .(u)) (oS (.lst (sm.map D.str))) (oS (.int ea)) v)=aa (.int du):=
   aU (ay rfl (ay (au rfl (au (cC rfl q4) f4 (oh (.inr .(f)))) rfl) aL)) n1
  have t0:0<=d5%2:=qX _ .(h);generalize htt:(d5%2).toNat=t;have hrl:(sm.drop t++sm.take t).length=sm.length:=by rw[qk,jk,qD];omega
  have e8':b2 aX (slF (vSh 8) (pS (b2 bF (b2 ixD (vSh 7) (vC (.int 5))) .(j))) pN) (slF (vSh 8) pN (pS (b2 bF (b2 ixD (vSh 7) (vC (.int 5))) .(j)))) (jE cs ss h js lf' (oS (.int i)) (oS (.int c)) (oS .(u)) (oS (.lst (sm.map D.str))) (oS (.int ea)) (oS (.int du)))=aa (.lst ((sm.drop t++sm.take t).map D.str)):=by refine au (wA rfl (au (cC rfl q5) rfl (df .(h))) t0) (tO rfl (au (cC rfl q5) rfl (df .(h))) t0) ?_;show(if _ then _ else _)=_;rw[qY,htt,jp,F4,F3];rw[jk,qD,qg];unfold aW;omega
  let J:JobT:=⟨nm (70+i),ea,du,decide (d3=1),sm.drop t++sm.take t⟩
  have perm:(sm.drop t++sm.take t).Perm sm:=(List.perm_append_comm).trans (by rw[sC]);have pa:((js++[J]).flatMap (·.ms)++lf').Perm (js.flatMap (·.ms)++lf):=by rw[List.flatMap_append,hlf2,sq];refine Sk _ ?_;rw[List.flatMap_singleton];exact List.Perm.append_right _ perm
  refine⟨js++[J],lf',_,_,_,_,(a9 eD).trans ((a9 e8).trans ((a9 e4).trans ((bN eT).trans ((qY rfl).trans ((a9 e9).trans ((a9 e10).trans ((a9 e8').trans (mL rfl (Db (aU (ay .(O) aL) hn') rfl rfl (au (cC rfl q3) rfl rfl) rfl) (by have:=I.len;omega))))))))),⟨?_,?_,?_,?_,?_,?_,?_⟩⟩
  .rw[qk];have:=I.len;simp;omega
  .exact(pa.nodup_iff).mpr I.nd
  .exact fun x hx=>I.sub x (pa.mem_iff.mp hx)
  .have:=I.ll;omega
  .intro j hj;rcases fS.mp hj with q|q
   .exact I.good j q
   .rw[ce.mp q];refine⟨hnb,⟨m2,m3⟩,⟨n2,n3⟩,by show 1<=(sm.drop t++sm.take t).length;omega,by show(sm.drop t++sm.take t).length<=_;have:=I.ll;omega,fun m hm=>?_⟩;exact I.sub m (qP _ (by rw[hlf2];exact yT _ (perm.mem_iff.mp hm)))
  .rw[jp,kZ];refine⟨I.nmd,by simp,fun a ha b hb hab=>?_⟩;obtain⟨j,hj,rfl⟩:=bC.mp ha;obtain⟨k,hk,hk2⟩:=I.nmk j hj;have hb':b=nm (70+i):=by simpa using hb
   have:=J8 k .(f) i hi (hk2.symm.trans (hab.trans hb'));omega
  .intro j hj;rcases fS.mp hj with q|q
   .obtain⟨k,h1,h2⟩:=I.nmk j q;exact⟨k,by omega,h2⟩
   .rw[ce.mp q];exact⟨i,by omega,rfl⟩
theorem Pu (cs:ac ag) (ss:ac StepT) (h:ag) (hh:1<=h) (hl:cs.length<=3) (hsl:ss.length<=40) (hs:∀x∈ss.map (·.nm),ba x=ah) (snd:(ss.map (·.nm)).Nodup):∃js:ac JobT,x5 [.lst (cs.map D.int),.lst (ss.map bJ),.int h]=aa .(af)/\js.length<=3/\(∀j∈js,GoodJ (ss.map (·.nm)) h j)/\(js.map (·.nm)).Nodup/\(js.flatMap (·.ms)).Nodup:=by
 obtain⟨ρ',h1,js,lf,a,b,c,d,e,f,h2,h3⟩:=eF (gg:=b6 2 .(au)) (body:=Bq) (xs:=(cs.map D.int).mapIdx fun i d=>D.tup [.int i,d]) (ρ:=jE cs ss h [] (ss.map (·.nm)) ab ab ab ab ab ab)
  (fun i ρ=>∃js lf a b c d e f,ρ=jE cs ss h js lf a b c d e f/\JInv (ss.map (·.nm)) h i js lf) ⟨[],ss.map (·.nm),ab,ab,ab,ab,ab,ab,rfl,⟨qw _,by simpa using snd,fun x hx=>(by simpa using hx),qw _,fun j hj=>(by cases hj),by simp,fun j hj=>(by cases hj)⟩⟩ (fun i x ρ hx hI=>by obtain⟨js,lf,a,b,c,d,e,f,rfl,I⟩:=hI;obtain⟨y,hy,rfl⟩:=oW hx;rw[ql] at hy;obtain⟨s,hsi,rfl⟩:=oMd hy;have hi:i<cs.length:=(di.mp hsi).1;obtain⟨js',lf',y',z',w',v',e1,e2⟩:=Nq (cs:=cs) (h:=h) (c:=s) (ss:=ss) (js:=js) (lf:=lf) (i:=i) (y:=c) (z:=d) (w:=e) (v:=f) hh .(f) hs I hsl;exact⟨_,_,rfl,e1,js',lf',_,_,_,_,_,_,rfl,e2⟩)
 rw[nC,qg] at h3;have nn:=ku (i:=1) (fv:=[ab]) (ρ:=[oS (.lst (cs.map D.int)),oS .(al),oS (.int h),aa (.own []),ab,ab,ab,ab,ab,ab,ab]) (f:=bJ) (nm:=(·.nm)) (xs:=ss) (fun x=>⟨_,rfl⟩) rfl (szN hsl .(h)) rfl;refine⟨js,bM [oS (.lst (cs.map D.int)),oS .(al),oS (.int h),ab,ab,ab,ab,ab,ab,ab,ab] rfl (kG.trans ((a9 nn).trans ((bX ((dH (xs:=(cs.map D.int).mapIdx fun i d=>D.tup [.int i,d]) rfl).trans (h1.trans (by rw[h2])))).trans ((i9 rfl).trans (bU (f:=vSh 3) rfl))))),qL h3.len hl,h3.good,h3.nmd,?_⟩;exact(kZ.mp h3.nd).1
theorem ud (t:ac aj):pdD (.tup (t.map D.str))=aa (.tuple (t.map fH)):=by simp[pdD,rD]
theorem B3:∀(ts:ac (ac aj)),gA (ts.map fun t=>.tup (t.map D.str))=aa (ts.map fun t=>.tuple (t.map fH))
 |[]=>by simp[gA]
 |t::r=>by simp[gA,ud,B3 r]
theorem Br:∀{ts:ac (ac aj)},(∀t∈ts,∀x∈t,ba x=ah)->j2 (ts.map fun t=>.tuple (t.map fH))=ah
 |[],_=>by simp[j2]
 |t::r,h=>by simp only[qo,j2,kY,mN (h t qh),nI];exact Br fun y hy=>h y (qi _ hy)
theorem uW:∀(a b:ac aj),lc (a.map fH) (b.map fH)=decide (a=b)
 |[],[]=>by simp[lc]
 |[],_::_=>by simp[lc]
 |_::_,[]=>by simp[lc]
 |x::r,y::t=>by
  simp only[qo,lc,il,uW r t];by_cases e:x=y
  .subst e;simp
  .simp[e]
theorem BL (t:ac aj):∀(ts:ac (ac aj)),((ts.map fun t=>RA (t.map fH)).any fun z=>il z (.tuple (t.map fH)))=decide (t∈ts)
 |[]=>by simp
 |y::r=>by
  rw[qo,kS,BL t r];simp only[il,uW];by_cases e:y=t
  .subst e;simp
  .have:t≠y:=fun z=>e z.symm;simp[e,this]
theorem Bo {t:ac aj} {ts:ac (ac aj)} (hx:∀x∈t,ba x=ah) (hn:∀y∈ts,∀x∈y,ba x=ah):dX (.tup (t.map D.str)) (.lst (ts.map fun t=>.tup (t.map D.str)))=aa (.bl (!decide (t∈ts))):=by
 have sh:eA (.tuple (t.map fH))=ah:=by simp[eA,kY,mN hx,mf,pU]
 have p1:pdD (.lst (ts.map fun t=>.tup (t.map D.str)))=aa (.list (ts.map fun t=>.tuple (t.map fH))):=by simp[pdD,B3]
 unfold dX inX;rw[ud,p1,qc,qc];simp only[sh,Br hn,vU,cK,BL,qf]
theorem yO {f:α->D} {nm:α->aj} {xs:ac α} {g:FE} {d:ag} (hf:∀x,∃r,f x=.tup (.str (nm x)::r)) (h1:fo ρ=aa (.lst (xs.map f))) (h2:g ρ=aa (.int d)) (h3:0<=d) (h4:d<xs.length):∃x∈xs,b2 ixD (b2 ixD fo g) .(e) ρ=aa (.str (nm x)):=by
 obtain⟨n,rfl⟩:=SC h3;have hd:n<xs.length:=by omega
 refine⟨xs[n],pp hd,au (au h1 h2 (show ixD _ (.int (n:ag))=aa (f xs[n]) by rw[ixL,ql,qC hd];rfl)) rfl ?_⟩;obtain⟨r,e⟩:=hf xs[n];rw[e,cI]
theorem Pm {g:FE} {ds:ac ag} {m d:ag} (h1:f ρ=aa .(u)) (h2:g ρ=aa (.int m)) (hm:m=(n:ag)) (h3:ds[n]?=aa d):b2 ixD f g ρ=aa (.int d):=
 au h1 h2 (by rw[hm,ixL,ql,h3];rfl)
theorem yP {l:ac D} (h:f ρ=aa (.lst l)):cF b9 (ae f ak) ρ=aa (.int (l.length:al)):=aU (ay h aL) rfl
theorem C2 {b:aQ} (h1:ρ[i]?=aa (aa (.own ds))) (h2:ft (ρ.set i (oS (.lst ds)))=aa b):bwT i ft ρ=aa b:=by unfold bwT;rw[h1];exact h2
theorem Nf {x:ac D} {j:ag} (h : -(2 ^ 63)<=j/\j<2 ^ 63/\x.length*j.toNat<=aW):cY (.lst x) (.int j)=aa (.lst (cq j.toNat x).flatten):=qY h
theorem L4:cY (.lst [.int 4]) (.int 6)=aa (.lst (([4,4,4,4,4,4]:ac ag).map D.int)):=Nf (x:=[.int 4]) (j:=6) .(h)
structure UInv (bn:ac aj) (h:ag) (i:al) (us:ac SetT):Prop where
 len:us.length<=i
 good:∀u∈us,GoodU bn h u
 nd:(us.map fun u=>[u.b,u.p,u.q]).Nodup
noncomputable abbrev uE (c:ag) (bs:ac BenchT) (h:ag) (us:ac SetT) (a b d e:ar Slot):bi:=[oS (.int c),oS .(aB),oS (.int h),aa (.own (us.map cU)),a,b,d,e]
noncomputable def Du:FS:=.(I)
theorem OI {c m:ag} {bs:ac BenchT} {y z:ar Slot} (hh:1<=h) (hm:0<=m) (hi:i<6) (hb:1<=bs.length) (hbn:∀x∈bs.map (·.nm),ba x=ah) (I:UInv (bs.map (·.nm)) h i us) :
  ∃us' y' z',Du (uE c bs h us (oS (.int i)) (oS (.int m)) y z)=aa (.nx,uE c bs h us' (oS (.int i)) (oS (.int m)) y' z')/\UInv (bs.map (·.nm)) h (i+1) us':=by
 have k0:0<=(i:ag)%(bs.length:al):=qX _ .(f);have k1:(i:ag)%(bs.length:al)<(bs.length:al):=qU _ .(f);obtain⟨b,hbm,e6⟩:=yO (f:=cx) (nm:=(·.nm)) (xs:=bs) (ρ:=uE c bs h us (oS (.int i)) (oS (.int m)) y z) (fo:=vSh 1) (g:=b2 bF (vSh 4) (cF b9 .(K))) (d:=(i:ag)%(bs.length:al)) (fun x=>⟨_,rfl⟩) rfl (au rfl (yP rfl) (by rw[qg];exact df .(f))) k0 k1;have t0:0<=(i:ag)%3:=qX _ .(h);have t1:(i:ag)%3<3:=qU _ .(h);have s0:0<=((i:ag)+m)%3:=qX _ .(h);have s1:((i:ag)+m)%3<3:=qU _ .(h)
 let U:SetT:=⟨b.nm,pqr ((i:ag)%3).toNat,pqr (((i:ag)+m)%3).toNat,if m<h then m else h⟩
 have e7:bc (szF (ae (vSh 6) (ae (b2 ixD (vC (.str "pqr")) (b2 bF (vSh 4) .(i))) (ae (b2 ixD (vC (.str "pqr")) (b2 bF (b2 aX (vSh 4) (vSh 5)) .(i))) (ae (cF io (ae (vSh 2) (ae (vSh 5) ak))) ak))))) (uE c bs h us (oS (.int i)) (oS (.int m)) (oS (.str b.nm)) z)=aa (cU U):=
  MA rfl (au rfl (au rfl rfl (df .(h))) (v8 t0 t1)) (au rfl (au .(O) rfl (df .(h))) (v8 s0 s1)) (aU .(k) rfl)
 have nU:∀x∈[U.b,U.p,U.q],ba x=ah:=fun x hx=>by
  simp only[qK,qI,or_false] at hx;rcases hx with rfl|rfl|rfl
  .exact hbn _ (qW hbm)
  .exact nP _ .(f)
  .exact nP _ .(f)
 have nA:∀y∈us.map (fun u=>[u.b,u.p,u.q]),∀x∈y,ba x=ah:=fun y hy x hx=>by
  obtain⟨u,hu,rfl⟩:=bC.mp hy;have g:=I.good u hu;simp only[qK,qI,or_false] at hx;rcases hx with rfl|rfl|rfl
  .exact hbn _ g.b
  .exact g.p
  .exact g.q
 have hul:us.length<=6:=qL I.len .(f);have eL:aI (aZ (itF (vSh 3)) (aA 0) tT (slF (vSh 0) pN (pS .(i))) [ab]) [oS (.int c),oS .(aB),oS (.int h),oS (.lst (us.map cU)),oS (.int i),oS (.int m),oS (.str b.nm),oS (cU U)]=aa (.lst ((us.map fun u=>[u.b,u.p,u.q]).map fun t=>.tup (t.map D.str))):=by
  rw[qp];refine(iC (r:=[]) (a:=ab) (xs:=us.map cU) (f:=fun d=>match d with|.tup [a,b,c,d]=>.tup [a,b,c]|_=>.non) rfl (by rw[qg];exact szN hul .(h)) rfl fun x hx=>?_).trans ?_
  .obtain⟨p,hp,rfl⟩:=bC.mp hx;simp only[vSh,vC,slF,pN,pS,qd,qc,cU,vY]
  .rw[qp];rfl
 have eT:bwT 3 (cQ (toB (b2 gtD (vSh 5) .(e))) (toB (b2 dX (slF (vSh 7) pN (pS .(i))) (aI (aZ (itF (vSh 3)) (aA 0) tT (slF (vSh 0) pN (pS .(i))) [ab]))))) (uE c bs h us (oS (.int i)) (oS (.int m)) (oS (.str b.nm)) (oS (cU U)))=aa (decide (0<m) && !decide ([U.b,U.p,U.q]∈us.map fun u=>[u.b,u.p,u.q])):=
  C2 rfl (xq (aY .(O)) (aY (au (x:=.tup ([U.b,U.p,U.q].map D.str)) rfl eL (Bo nU nA))))
 by_cases ht:(decide (0<m) && !decide ([U.b,U.p,U.q]∈us.map fun u=>[u.b,u.p,u.q]))=ah
 .have hq:0<m/\[U.b,U.p,U.q]∉us.map fun u=>[u.b,u.p,u.q]:=by simpa using ht
  refine⟨us++[U],_,_,(a9 e6).trans ((a9 e7).trans ((bN eT).trans ((qY ht).trans (mL (x:=U) rfl rfl .(f))))),⟨?_,?_,?_⟩⟩
  .rw[qk];have:=I.len;simp;omega
  .intro u hu;rcases fS.mp hu with q|q
   .exact I.good u q
   .rw[ce.mp q];refine⟨qW hbm,nP _ .(f),nP _ .(f),?_,?_⟩
    .show 1<=if m<h then m else h
     split<;>omega
    .show(if m<h then m else h)<=h;split<;>omega
  .rw[jp,kZ];refine⟨I.nd,by simp,fun a ha b' hb' hab=>?_⟩;have:b'=[U.b,U.p,U.q]:=by simpa using hb'
   rw[hab,this] at ha;exact hq.2 ha
 .exact⟨us,_,_,(a9 e6).trans ((a9 e7).trans ((bN eT).trans ((qZ ht).trans rfl))),⟨by have:=I.len;omega,I.good,I.nd⟩⟩
theorem Lf (c:ag) (bs:ac BenchT) (h:ag) (hh:1<=h) (hb:1<=bs.length) (hbn:∀x∈bs.map (·.nm),ba x=ah):∃us:ac SetT,yI [.int c,.lst (bs.map cx),.int h]=aa (.lst (us.map cU))/\us.length<=6/\(∀u∈us,GoodU (bs.map (·.nm)) h u)/\(us.map fun u=>[u.b,u.p,u.q]).Nodup:=by
 obtain⟨ds,e,hd,hbd⟩:=lx c 3 .(f) [4,4,4,4,4,4] .(h) .(h);have eM:b2 cY (aI (szF (ae .(l) ak))) (vC (.int 6)) (uE c bs h [] ab ab ab ab)=aa (.lst (([4,4,4,4,4,4]:ac ag).map D.int)):=
  au (x:=.lst [.int 4]) (y:=.int 6) rfl rfl L4
 have hd6:ds.length=6:=hd;obtain⟨ρ',h1,us,a,b,d,f,h2,h3⟩:=eF (gg:=b6 2 .(av)) (body:=Du) (xs:=(ds.map D.int).mapIdx fun i d=>D.tup [.int i,d]) (ρ:=uE c bs h [] ab ab ab ab)
  (fun i ρ=>∃us a b d e,ρ=uE c bs h us a b d e/\UInv (bs.map (·.nm)) h i us) ⟨[],ab,ab,ab,ab,rfl,⟨qw _,fun j hj=>(by cases hj),by simp⟩⟩ (fun i x ρ hx hI=>by
   obtain⟨us,a,b,d,e,rfl,I⟩:=hI;obtain⟨y,hy,rfl⟩:=oW hx;rw[ql] at hy;obtain⟨s,hsi,rfl⟩:=oMd hy;have hi:i<ds.length:=(di.mp hsi).1;have hs0:0<=s:=by
    have h6:i<6:=by omega
    have:([4,4,4,4,4,4]:ac ag)[i]?=aa 4:=by
     have:i=0\/i=1\/i=2\/i=3\/i=4\/i=5:=by omega
     rcases this with rfl|rfl|rfl|rfl|rfl|rfl<;>rfl
    obtain⟨d,q1,q2,_⟩:=hbd i 4 this;rw[hsi] at q1;cases q1;exact q2
   obtain⟨us',y',z',e1,e2⟩:=OI (c:=c) (h:=h) (m:=s) (bs:=bs) (us:=us) (i:=i) (y:=d) (z:=e) hh hs0 .(f) hb hbn I;exact⟨_,_,rfl,e1,us',_,_,_,_,rfl,e2⟩)
 rw[nC,qg] at h3;have eI:itE (cF dZ (ae (vSh 0) (ae .(i) (ae (b2 cY (aI (szF (ae .(l) ak))) (vC (.int 6))) ak)))) (uE c bs h [] ab ab ab ab)=aa ((ds.map D.int).mapIdx fun i d=>D.tup [.int i,d]):=by have:cF dZ (ae (vSh 0) (ae .(i) (ae (b2 cY (aI (szF (ae .(l) ak))) (vC (.int 6))) ak))) (uE c bs h [] ab ab ab ab)=aa .(u):=aU (ay rfl (ay rfl (ay eM aL))) e;unfold itE;rw[this];rfl
 exact⟨us,bM [oS (.int c),oS .(aB),oS (.int h),ab,ab,ab,ab,ab] rfl (kG.trans ((bX ((dH eI).trans (h1.trans (by rw[h2])))).trans ((i9 rfl).trans (bU (f:=vSh 3) rfl)))),by have:=h3.len;omega,h3.good,h3.nd⟩
structure LInv (sn:ac aj) (h:ag) (i:al) (ls:ac LinkT):Prop where
 len:ls.length<=i
 good:∀l∈ls,GoodL sn h l
 nd:(ls.map fun l=>[l.a,l.b]).Nodup
noncomputable abbrev lE (c:ag) (ss:ac StepT) (h:ag) (ls:ac LinkT) (ds:ac ag) (a b d:ar Slot):bi:=[oS (.int c),oS .(al),oS (.int h),aa (.own (ls.map c5)),oS .(u),a,b,d]
noncomputable def Cg:FS:=.(A)
theorem Px {c:ag} {ds:ac ag} {y z:ar Slot} (hh:1<=h) (hi:i<2) (hs1:1<=ss.length) (hsn:∀x∈ss.map (·.nm),ba x=ah) (hds:∀j,j<7->∃d,ds[j]?=aa d/\0<=d) (I:LInv (ss.map (·.nm)) h i ls) :
  ∃ls' y' z',Cg (lE c ss h ls ds (oS (.int (0+(i:ag)))) y z)=aa (.nx,lE c ss h ls' ds (oS (.int (0+(i:ag)))) y' z')/\LInv (ss.map (·.nm)) h (i+1) ls':=by
 obtain⟨x1,q1,p1⟩:=hds (1+3*i) .(f);obtain⟨x2,q2,p2⟩:=hds (2+3*i) .(f);obtain⟨x3,q3,p3⟩:=hds (3+3*i) .(f);have ixs:∀(n:al) (y z:ar Slot) (lst:ac D) (x:ag) (k:ag),k=(n:ag)->ds[n+3*i]?=aa x->∀s3:ar Slot,b2 ixD (vSh 4) (b2 aX (vC (.int k)) (b2 cY .(i) (vSh 5))) [oS (.int c),oS .(al),oS (.int h),s3,oS .(u),oS (.int (0+(i:ag))),y,z]=aa (.int x):=fun n y z _ x k hk hx s3=>
  Pm (n:=n+3*i) rfl (au rfl (au rfl rfl (oh (.inl .(h)))) rfl) .(f) hx
 have m1:∀x:ag,0<=x%(ss.length:al)/\x%(ss.length:al)<(ss.length:al):=fun x=>⟨qX _ .(f),qU _ .(f)⟩;obtain⟨sa,ha,e6⟩:=yO (f:=bJ) (nm:=(·.nm)) (xs:=ss) (ρ:=lE c ss h ls ds (oS (.int (0+(i:ag)))) y z) (fo:=vSh 1) (g:=b2 bF (b2 ixD (vSh 4) (b2 aX .(d) (b2 cY .(i) (vSh 5)))) (cF b9 .(K))) (d:=x1%(ss.length:al)) (fun x=>⟨_,rfl⟩) rfl (au (ixs 1 y z [] x1 1 rfl q1 _) (yP rfl) (by rw[qg];exact df .(f))) (m1 x1).1 (m1 x1).2;obtain⟨sb,hb,e7⟩:=yO (f:=bJ) (nm:=(·.nm)) (xs:=ss) (ρ:=lE c ss h ls ds (oS (.int (0+(i:ag)))) (oS (.str sa.nm)) z) (fo:=vSh 1) (g:=b2 bF (b2 ixD (vSh 4) (b2 aX .(j) (b2 cY .(i) (vSh 5)))) (cF b9 .(K))) (d:=x2%(ss.length:al)) (fun x=>⟨_,rfl⟩) rfl (au (ixs 2 _ z [] x2 2 rfl q2 _) (yP rfl) (by rw[qg];exact df .(f))) (m1 x2).1 (m1 x2).2
 let U:LinkT:=⟨sa.nm,sb.nm,if x3<h then x3 else h⟩
 have nU:∀x∈[U.a,U.b],ba x=ah:=fun x hx=>by
  simp only[qK,qI,or_false] at hx;rcases hx with rfl|rfl
  .exact hsn _ (qW ha)
  .exact hsn _ (qW hb)
 have nA:∀y∈ls.map (fun l=>[l.a,l.b]),∀x∈y,ba x=ah:=fun y hy x hx=>by
  obtain⟨u,hu,rfl⟩:=bC.mp hy;have g:=I.good u hu;simp only[qK,qI,or_false] at hx;rcases hx with rfl|rfl
  .exact hsn _ g.a
  .exact hsn _ g.b
 have hul:ls.length<=2:=qL I.len .(f);have eL:aI (aZ (itF (vSh 3)) (aA 0) tT (slF (vSh 0) pN (pS .(j))) [ab]) [oS (.int c),oS .(al),oS (.int h),oS (.lst (ls.map c5)),oS .(u),oS (.int (0+(i:ag))),oS (.str sa.nm),oS (.str sb.nm)]=aa (.lst ((ls.map fun l=>[l.a,l.b]).map fun t=>.tup (t.map D.str))):=by
  rw[qp];refine(iC (r:=[]) (a:=ab) (xs:=ls.map c5) (f:=fun d=>match d with|.tup [a,b,c]=>.tup [a,b]|_=>.non) rfl (by rw[qg];exact szN hul .(h)) rfl fun x hx=>?_).trans ?_
  .obtain⟨p,hp,rfl⟩:=bC.mp hx;simp only[vSh,vC,slF,pN,pS,qd,qc,c5,Bu]
  .rw[qp];rfl
 have eT:bwT 3 (cQ (toB (b2 neA (vSh 6) (vSh 7))) (toB (b2 dX (bc (szF (ae (vSh 6) (ae (vSh 7) ak)))) (aI (aZ (itF (vSh 3)) (aA 0) tT (slF (vSh 0) pN (pS .(j))) [ab]))))) (lE c ss h ls ds (oS (.int (0+(i:ag)))) (oS (.str sa.nm)) (oS (.str sb.nm)))=aa ((!decide (sa.nm=sb.nm)) && !decide ([U.a,U.b]∈ls.map fun l=>[l.a,l.b])):=
  C2 rfl (xq (aY (au rfl rfl (AJ _ _))) (aY (au (x:=.tup ([U.a,U.b].map D.str)) (ff rfl rfl) eL (Bo nU nA))))
 by_cases ht:((!decide (sa.nm=sb.nm)) && !decide ([U.a,U.b]∈ls.map fun l=>[l.a,l.b]))=ah
 .have hq:sa.nm≠sb.nm/\[U.a,U.b]∉ls.map fun l=>[l.a,l.b]:=by simpa using ht
  refine⟨ls++[U],_,_,(a9 e6).trans ((a9 e7).trans ((bN eT).trans ((qY ht).trans (mL (x:=U) rfl (pO rfl rfl (aU (ay rfl (ay (ixs 3 _ _ [] x3 3 rfl q3 _) aL)) rfl)) .(f))))),⟨?_,?_,?_⟩⟩
  .rw[qk];have:=I.len;simp;omega
  .intro u hu;rcases fS.mp hu with q|q
   .exact I.good u q
   .rw[ce.mp q];refine⟨qW ha,qW hb,hq.1,?_,?_⟩
    .show 0<=if x3<h then x3 else h
     split<;>omega
    .show(if x3<h then x3 else h)<=h;split<;>omega
  .rw[jp,kZ];refine⟨I.nd,by simp,fun a ha b' hb' hab=>?_⟩;have:b'=[U.a,U.b]:=by simpa using hb'
   rw[hab,this] at ha;exact hq.2 ha
 .exact⟨ls,_,_,(a9 e6).trans ((a9 e7).trans ((bN eT).trans ((qZ ht).trans rfl))),⟨by have:=I.len;omega,I.good,I.nd⟩⟩
theorem AO {x:D} (h:((cV n).map fun k:al=>D.int (0+k))[i]?=aa x):i<n/\x=.int (0+(i:ag)):=by rw[ql] at h;obtain⟨k,hk,rfl⟩:=oMd h;rw[di] at hk;obtain⟨h1,h2⟩:=hk;rw[qT] at h1;rw[SD] at h2;subst h2;exact⟨h1,rfl⟩
theorem Hc (c:ag) (ss:ac StepT) (h:ag) (hh:1<=h) (hs1:1<=ss.length) (hsn:∀x∈ss.map (·.nm),ba x=ah):∃ls:ac LinkT,yR [.int c,.lst (ss.map bJ),.int h]=aa (.lst (ls.map c5))/\ls.length<=2/\(∀l∈ls,GoodL (ss.map (·.nm)) h l)/\(ls.map fun l=>[l.a,l.b]).Nodup:=by
 obtain⟨ds,e,hd,hbd⟩:=lx c 5 .(f) [3,9,9,4,9,9,4] .(h) .(h);have hds:∀j,j<7->∃d,ds[j]?=aa d/\0<=d:=fun j hj=>by have:∃s,([3,9,9,4,9,9,4]:ac ag)[j]?=aa s:=⟨_,qC (by simpa using hj)⟩;obtain⟨s,hs⟩:=this;obtain⟨d,q1,q2,_⟩:=hbd j s hs;exact⟨d,q1,q2⟩
 obtain⟨d0,q0,p0,r0⟩:=hbd 0 3 rfl;obtain⟨ρ',h1,ls,a,b,d,h2,h3⟩:=eF (gg:=aA 5) (body:=Cg) (xs:=(cV d0.toNat).map fun k:al=>D.int (0+k)) (ρ:=lE c ss h [] ds ab ab ab)
  (fun i ρ=>∃ls a b d,ρ=lE c ss h ls ds a b d/\LInv (ss.map (·.nm)) h i ls) ⟨[],ab,ab,ab,rfl,⟨qw _,fun j hj=>(by cases hj),by simp⟩⟩ (fun i x ρ hx hI=>by obtain⟨ls,a,b,d,rfl,I⟩:=hI;obtain⟨hi,rfl⟩:=AO hx;obtain⟨ls',y',z',e1,e2⟩:=Px (c:=c) (h:=h) (ss:=ss) (ls:=ls) (ds:=ds) (i:=i) (y:=b) (z:=d) hh .(f) hs1 hsn hds I;exact⟨_,_,rfl,e1,ls',_,_,_,rfl,e2⟩)
 rw[qg,qT] at h3;have eS:cF dZ (ae (vSh 0) (ae (vC (.int 5)) (ae (aI (szF (ae .(i) (ae (vC (.int 9)) (ae (vC (.int 9)) (ae .(l) (ae (vC (.int 9)) (ae (vC (.int 9)) (ae .(l) ak))))))))) ak))) [oS (.int c),oS .(al),oS (.int h),aa (.own []),ab,ab,ab,ab]=aa .(u):=
  aU (ay rfl (ay rfl (ay (xS rfl rfl rfl rfl rfl rfl rfl) aL))) e
 have eI:itR gq (ae (b2 ixD (vSh 4) .(e)) ak) (lE c ss h [] ds ab ab ab)=aa ((cV d0.toNat).map fun k:al=>D.int (0+k)):=mT (ay (cC (n:=0) rfl q0) aL) (ou ⟨p0,by omega⟩);exact⟨ls,bM [oS (.int c),oS .(al),oS (.int h),ab,ab,ab,ab,ab] rfl (kG.trans ((a9 eS).trans ((bX ((dH eI).trans (h1.trans (by rw[h2])))).trans ((i9 rfl).trans (bU (f:=vSh 3) rfl))))),by have:=h3.len;omega,h3.good,h3.nd⟩
theorem Au {ft:FT} {fe:FE} {r:bi} {v:ag} (ht:∀(j:al) (s:StepT),∃q:aQ,ft (oS (.int (j:ag))::oS (bJ s)::r)=aa q) (he:∀(j:al) (s:StepT),fe (oS (.int (j:ag))::oS (bJ s)::r)=aa (dW (s.nm,v))) :
  ∀(ss:ac StepT) (F:al->al) (a b:ar Slot),∃sub:ac StepT,sub.Sublist ss/\gv (b6 2 (aT (aA 0) (aT (aA 1) bZ))) ft fe ((ss.map bJ).mapIdx fun i d=>D.tup [.int (F i:al),d]) (a::b::r)=aa (sub.map fun s=>dW (s.nm,v))
 |[],_,_,_=>⟨[],.slnil,rfl⟩
 |s::ss,F,a,b=>by
  obtain⟨sub,h1,h2⟩:=Au ht he ss (fun i=>F (i+1)) (oS (.int (F 0:al))) (oS (bJ s));obtain⟨q,hq⟩:=ht (F 0) s;have e0:b6 2 (aT (aA 0) (aT (aA 1) bZ)) (.tup [.int (F 0:al),bJ s]) (a::b::r)=aa (oS (.int (F 0:al))::oS (bJ s)::r):=rfl;rw[qo,List.mapIdx_cons];cases q with
  |true=>
   refine⟨s::sub,h1.cons_cons s,?_⟩;simp only[gv,e0,qc,hq,cK,he,h2,qf,qo]
  |false=>
   refine⟨sub,h1.cons s,?_⟩;simp only[gv,e0,qc,hq,qr,c9,h2]
noncomputable def tkT (n:ag):FT:=toB (b2 eqD (b2 bF (b2 dF (b2 aX (b2 ixD (vSh 2) (vC (.int n))) (vSh 3)) (b2 ixD (aI (szF (ae .(d) (ae .(j) (ae .(l) ak))))) (b2 bF (vSh 0) .(i)))) .(j)) .(d))
noncomputable def tkE (n:ag):FE:=bc (szF (ae (b2 ixD (vSh 1) .(e)) (ae (b2 aX .(d) (b2 ixD (vSh 2) (vC (.int n)))) ak)))
noncomputable def tkC (n m:ag):FE:=aI (aZ (itE (vSh 1)) (b6 2 (aT (aA 0) (aT (aA 1) bZ))) (tkT n) (tkE m) [ab,ab,aa 2,aa 4])
noncomputable abbrev kE (c:ag) (ss:ac StepT) (ds:ac ag) (ks:ac StockT) (k a b d:ar Slot):bi:=[oS (.int c),oS .(al),oS .(u),aa (.own (ks.map cZ)),k,a,b,d]
theorem Ek {c k:ag} {ds:ac ag} {a b d:ar Slot} {m:al} {x v:ag} (hl:ss.length<=40) (hn:ds[n]?=aa x) (hm:ds[m]?=aa v) :
  ∃sub:ac StepT,sub.Sublist ss/\tkC (n:ag) (m:ag) (kE c ss ds ks (oS (.int k)) a b d)=aa (.lst ((sub.map fun s=>(s.nm,1+v)).map dW)):=by
 have ht:∀(j:al) (s:StepT),∃q:aQ,tkT (n:ag) (oS (.int (j:ag))::oS (bJ s)::[oS .(u),oS (.int k)])=aa q:=fun j s=>by
  have m0:0<=(j:ag)%3:=qX _ .(h);have m1:(j:ag)%3<3:=qU _ .(h);obtain⟨w,hw,hw1⟩:∃w:ag,ixD (.lst [.int 1,.int 2,.int 4]) (.int ((j:ag)%3))=aa (.int w)/\(0<w/\w<1073741824):=by
   have:(j:ag)%3=0\/(j:ag)%3=1\/(j:ag)%3=2:=by omega
   rcases this with z|z|z<;>rw[z]
   .exact⟨1,rfl,by decide⟩
   .exact⟨2,rfl,by decide⟩
   .exact⟨4,rfl,by decide⟩
  exact⟨_,aY (au (au (au (au (cC rfl hn) rfl rfl) (au (C0 rfl rfl rfl) (au rfl rfl (df .(h))) hw) (m5 hw1)) rfl (df .(h))) rfl rfl)⟩
 have he:∀(j:al) (s:StepT),tkE (m:ag) (oS (.int (j:ag))::oS (bJ s)::[oS .(u),oS (.int k)])=aa (dW (s.nm,1+v)):=fun j s=>
  ff (au rfl rfl cI) (au rfl (cC rfl hm) rfl)
 obtain⟨sub,h1,h2⟩:=Au ht he ss (fun i=>i) ab ab;refine⟨sub,h1,?_⟩;have e1:itE (vSh 1) (kE c ss ds ks (oS (.int k)) a b d)=aa ((ss.map bJ).mapIdx fun i d=>D.tup [.int i,d]):=rfl;have e2:fy [ab,ab,aa 2,aa 4] (kE c ss ds ks (oS (.int k)) a b d)=ab::ab::[oS .(u),oS (.int k)]:=rfl;unfold tkC aI aZ;rw[e1,qc,qY (by rw[nC,qg];exact szN hl .(h)),e2,h2,qf,qp];rfl
theorem Er {sub:ac StepT} {v:ag} (h:sub.Sublist ss) (nd:(ss.map (·.nm)).Nodup) (hv:1<=v/\v<=1000000):GoodA (ss.map (·.nm)) (sub.map fun s=>(s.nm,v)):=by
 refine⟨by rw[qg,qg];exact h.length_le,fun w hw=>?_,?_⟩
 .obtain⟨s,hs,rfl⟩:=bC.mp hw;exact⟨qW (h.subset hs),hv⟩
 .rw[qp];exact Sz (h.map (·.nm)) nd
structure KInv (sn:ac aj) (i:al) (ks:ac StockT):Prop where
 len:ks.length=i
 good:∀k∈ks,GoodK sn k
 nmk:∀(j:al) k,ks[j]?=aa k->k.nm=nm (80+j)
noncomputable def Cd:FS:=.(L)
theorem JT {c:ag} {ds:ac ag} {x y z:ar Slot} {d1 d2 d3 d4 d5 d6:ag} (hi:i<6) (hl:ss.length<=40) (nd:(ss.map (·.nm)).Nodup)
  (q1:ds[1]?=aa d1) (q2:ds[2]?=aa d2) (q3:ds[3]?=aa d3) (q4:ds[4]?=aa d4) (q5:ds[5]?=aa d5) (q6:ds[6]?=aa d6) (p1:0<=d1/\d1<4) (p2:0<=d2/\d2<5) (p5:0<=d5/\d5<4) (p6:0<=d6/\d6<4) (I:KInv (ss.map (·.nm)) i ks) :
  ∃ks' x' y' z',Cd (kE c ss ds ks (oS (.int (0+(i:ag)))) x y z)=aa (.nx,kE c ss ds ks' (oS (.int (0+(i:ag)))) x' y' z')/\KInv (ss.map (·.nm)) (i+1) ks':=by
 have hn:=(li (k:=80+i) .(f)).1;have hnb:=(li (k:=80+i) .(f)).2;have hn':ga [.int (80+(0+(i:ag)))]=aa (.str (nm (80+i))):=by rw[←hn];congr 3;omega
 have e5:b2 aX (b2 ixD (vSh 2) .(d)) (b2 ixD (vSh 2) .(j)) (kE c ss ds ks (oS (.int (0+(i:ag)))) x y z)=aa (.int (d1+d2)):=au (cC (n:=1) rfl q1) (cC (n:=2) rfl q2) rfl;obtain⟨s1,h1,e6⟩:=Ek (c:=c) (k:=0+(i:ag)) (ss:=ss) (ks:=ks) (a:=oS (.int (d1+d2))) (b:=y) (d:=z) (n:=3) (m:=5) hl q3 q5;obtain⟨s2,h2,e7⟩:=Ek (c:=c) (k:=0+(i:ag)) (ss:=ss) (ks:=ks) (a:=oS (.int (d1+d2))) (b:=aa (.sh (.lst ((s1.map fun s=>(s.nm,1+d5)).map dW)))) (d:=z) (n:=4) (m:=6) hl q4 q6
 let K:StockT:=⟨nm (80+i),d1,d1+d2,s1.map fun s=>(s.nm,1+d5),s2.map fun s=>(s.nm,1+d6)⟩
 refine⟨ks++[K],_,_,_,(a9 e5).trans ((a9 e6).trans ((a9 e7).trans (mL (x:=K) rfl (Db (aU (ay .(O) aL) hn') (cC (n:=1) rfl q1) rfl rfl rfl) (by have:=I.len;omega)))),⟨?_,?_,?_⟩⟩
 .rw[qk,I.len];rfl
 .intro k hk;rcases fS.mp hk with q|q
  .exact I.good k q
  .rw[ce.mp q];exact⟨hnb,⟨p1.1,by show d1<=d1+d2;omega⟩,⟨by show 0<=d1+d2;omega,by show d1+d2<=_;omega⟩,Er h1 nd .(f),Er h2 nd .(f)⟩
 .intro j k hj;by_cases hji:j<ks.length
  .rw[qy hji] at hj;exact I.nmk j k hj
  .have hl2:=(di.mp hj).1;rw[qk,qV] at hl2;rw[qJ .(f),show j-ks.length=0 by omega] at hj;cases hj;have:=I.len;rw[show j=i by omega]
theorem xQ {l:ac α} {f:α->aj} {g:al->aj} (hn:l.length<=n) (hg:∀i,i<n->∀j,j<n->g i=g j->i=j) (h:∀(j:al) k,l[j]?=aa k->f k=g j):(l.map f).Nodup:=by rw[FF,zH];intro i j hi hj hij e;rw[qg] at hi hj;rw[SE,SE,h i _ (qC hi),h j _ (qC hj)] at e;have:=hg i .(f) j .(f) e;omega
theorem HA (c:ag) (ss:ac StepT) (hl:ss.length<=40) (nd:(ss.map (·.nm)).Nodup):∃ks:ac StockT,xP [.int c,.lst (ss.map bJ)]=aa (.lst (ks.map cZ))/\ks.length<=6/\(∀k∈ks,GoodK (ss.map (·.nm)) k)/\(ks.map (·.nm)).Nodup:=by
 obtain⟨ds,e,hd,hbd⟩:=lx c 9 .(f) [3,4,5,8,8,4,4] .(h) .(h);obtain⟨d0,q0,p0,r0⟩:=hbd 0 3 rfl;obtain⟨d1,q1,p1⟩:=hbd 1 4 rfl;obtain⟨d2,q2,p2⟩:=hbd 2 5 rfl;obtain⟨d3,q3,p3⟩:=hbd 3 8 rfl;obtain⟨d4,q4,p4⟩:=hbd 4 8 rfl;obtain⟨d5,q5,p5⟩:=hbd 5 4 rfl;obtain⟨d6,q6,p6⟩:=hbd 6 4 rfl;obtain⟨ρ',h1,ks,a,x,y,z,h2,h3⟩:=eF (gg:=aA 4) (body:=Cd) (xs:=(cV d0.toNat).map fun k:al=>D.int (0+k)) (ρ:=kE c ss ds [] ab ab ab ab)
  (fun i ρ=>∃ks a x y z,ρ=kE c ss ds ks a x y z/\KInv (ss.map (·.nm)) i ks) ⟨[],ab,ab,ab,ab,rfl,⟨rfl,fun j hj=>(by cases hj),fun j k hj=>(by simp at hj)⟩⟩ (fun i w ρ hx hI=>by obtain⟨ks,a,x,y,z,rfl,I⟩:=hI;obtain⟨hi,rfl⟩:=AO hx;obtain⟨ks',x',y',z',e1,e2⟩:=JT (c:=c) (ss:=ss) (ds:=ds) (ks:=ks) (i:=i) (x:=x) (y:=y) (z:=z) .(f) hl nd q1 q2 q3 q4 q5 q6 p1 p2 p5 p6 I;exact⟨_,_,rfl,e1,ks',_,_,_,_,rfl,e2⟩)
 rw[qg,qT] at h3;have eS:cF dZ (ae (vSh 0) (ae (vC (.int 9)) (ae (aI (szF (ae .(i) (ae .(l) (ae (vC (.int 5)) (ae (vC (.int 8)) (ae (vC (.int 8)) (ae .(l) (ae .(l) ak))))))))) ak))) [oS (.int c),oS .(al),ab,ab,ab,ab,ab,ab]=aa .(u):=
  aU (ay rfl (ay rfl (ay (xS rfl rfl rfl rfl rfl rfl rfl) aL))) e
 have eI:itR gq (ae (b2 ixD (vSh 2) .(e)) ak) (kE c ss ds [] ab ab ab ab)=aa ((cV d0.toNat).map fun k:al=>D.int (0+k)):=mT (ay (cC (n:=0) rfl q0) aL) (ou ⟨p0,by omega⟩);exact⟨ks,bM [oS (.int c),oS .(al),ab,ab,ab,ab,ab,ab] rfl ((a9 eS).trans (kG.trans ((bX ((dH eI).trans (h1.trans (by rw[h2])))).trans ((i9 rfl).trans (bU (f:=vSh 3) rfl))))),by have:=h3.len;omega,h3.good,xQ (n:=7) (by have:=h3.len;omega) ME h3.nmk⟩
theorem yQ (ns:ac ag) (n m:al) (hn:n<=1000) {k:ag} (hk:k=(m:ag)) (h0:ρ[0]?=aa (oS (.scr ns))) (hfi:fi ρ=aa ((cV n).map fun i:al=>D.int (0+i))) :
  ∃cs:ac ag,aI (aZ fi (aA 0) tT (cF dY (ae (vSh 1) (ae (b2 aX (vC (.int k)) (vSh 0)) ak))) [ab,aa 0]) ρ=aa (.lst (cs.map D.int))/\cs.length=n:=by
 have hfv:fy [ab,aa 0] ρ=ab::[oS (.scr ns)]:=by simp only[fy,qo,qN,Ry,qc,h0]
 have hc:=iC (fi:=fi) (fe:=cF dY (ae (vSh 1) (ae (b2 aX (vC (.int k)) (vSh 0)) ak))) (fv:=[ab,aa 0]) (ρ:=ρ) (r:=[oS (.scr ns)]) (a:=ab) (f:=fun d=>match d with|.int i=>.int (ns.getD (m+i.toNat) 0)|_=>.non) hfi (by rw[qg,qT];exact szN hn .(h)) hfv (fun x hx=>by
  obtain⟨i,hi,rfl⟩:=bC.mp hx;have e:=jA ns (m+i);refine aU (ay rfl (ay .(O) aL)) ?_;subst hk;have e1:((m:ag)+(0+(i:ag)))=((m+i:al):ag):=by omega
  rw[e1,e]
  congr 3
  omega)
 refine⟨(cV n).map fun i=>ns.getD (m+i) 0,?_,by rw[qg,qT]⟩;rw[hc,qp,qp]
 congr 2
 refine pG fun i _=>?_;show D.int (ns.getD (m+(0+(i:ag)).toNat) 0)=D.int (ns.getD (m+i) 0)
 congr 3
 omega
noncomputable def aF (bs:ac BenchT) (ss:ac StepT) (js:ac JobT) (us:ac SetT) (ls:ac LinkT) (ks:ac StockT) (h:ag):D:=.lst [.lst (bs.map cx),.lst (ss.map bJ),.lst (js.map bA),.lst (us.map cU),.lst (ls.map c5),.lst (ks.map cZ),.int h]
theorem Ko (ns:ac ag) (n:al) (h lo:ag) (hn:1<=n/\n<=10) (hh:1<=h/\h<=1000000) (hlo:0<lo/\lo<1000):∃bs ss js us ls ks,xA [.scr ns,.int (n:ag),.int h,.int lo]=aa .(a)/\Good bs ss js us ls ks h/\js.length<=3/\ss.length<=10:=by
 have b0:0<=(ns.getD 0 0)%3:=qX _ .(h);have b1:(ns.getD 0 0)%3<3:=qU _ .(h);obtain⟨nb,hnb⟩:∃nb:al,1+(ns.getD 0 0)%3=(nb:ag):=⟨(1+(ns.getD 0 0)%3).toNat,by omega⟩;obtain⟨cb,eb,lb⟩:=yQ ns nb 1 .(f) (k:=1) (fi:=itR gq (ae (b2 aX .(d) (b2 bF (cF dY (ae (vSh 0) (ae .(e) ak))) .(i))) ak)) (ρ:=[oS (.scr ns),oS (.int n),oS (.int h),oS (.int lo),ab,ab,ab,ab,ab,ab]) rfl rfl (mT (ay (d:=.int (nb:ag)) (au rfl (au (aU .(k) (jA ns 0)) rfl (df .(h))) (by rw[←hnb];rfl)) aL) (ou (j:=(nb:ag)) .(f)));obtain⟨bs,e1,l1,g1⟩:=Hs cb h .(f);have bnd:(bs.map (·.nm)).Nodup:=xQ (n:=3) .(f) NK fun j b hj=>(g1 j b hj).nm;have hbn:∀x∈bs.map (·.nm),ba x=ah:=fun x hx=>by obtain⟨b,hb,rfl⟩:=bC.mp hx;obtain⟨j,hj⟩:=z7 hb;have hjl:=(di.mp hj).1;rw[(g1 j b hj).nm];exact(li .(f)).2
 obtain⟨ct,et,lt⟩:=yQ ns n 4 .(f) (k:=4) (fi:=itR gq .(K)) (ρ:=[oS (.scr ns),oS (.int n),oS (.int h),oS (.int lo),oS .(aB),ab,ab,ab,ab,ab]) rfl rfl (mT (ay rfl aL) (ou (j:=(n:ag)) .(f)));obtain⟨ss,e2,l2,g2⟩:=OH ct bs h lo hh.1 hlo .(f) .(f) bnd;have snd:(ss.map (·.nm)).Nodup:=xQ (n:=10) .(f) NZ fun j b hj=>(g2 j b hj).nm;have gs:∀s∈ss,GoodS (bs.map (·.nm)) h s:=fun s hs=>by obtain⟨j,hj⟩:=z7 hs;exact(g2 j s hj).good
 have hsn:∀x∈ss.map (·.nm),ba x=ah:=fun x hx=>by obtain⟨b,hb,rfl⟩:=bC.mp hx;exact(gs b hb).nm
 obtain⟨cj,ej,lj⟩:=yQ ns 3 14 .(f) (k:=14) (fi:=itR gq (ae .(i) ak)) (ρ:=[oS (.scr ns),oS (.int n),oS (.int h),oS (.int lo),oS .(aB),oS .(al),ab,ab,ab,ab]) rfl rfl (mT (ay rfl aL) (ou (j:=3) .(f)));obtain⟨js,e3,l3,g3,g4,g5⟩:=Pu cj ss h hh.1 .(f) .(f) hsn snd;obtain⟨us,e4,l4,g6,g7⟩:=Lf (ns.getD 17 0) bs h hh.1 .(f) hbn;obtain⟨ls,e5,l5,g8,g9⟩:=Hc (ns.getD 18 0) ss h hh.1 .(f) hsn;obtain⟨ks,e6,l6,g10,g11⟩:=HA (ns.getD 19 0) ss .(f) snd;refine⟨bs,ss,js,us,ls,ks,?_,⟨hh,by omega,fun x hx=>?_,bnd,by omega,gs,snd,by omega,g3,g4,g5,by omega,g6,g7,by omega,g8,g9,by omega,g10,g11⟩,l3,by omega⟩
 .refine bM [oS (.scr ns),oS (.int n),oS (.int h),oS (.int lo),ab,ab,ab,ab,ab,ab] rfl ((a9 (aU (ay eb (ay rfl aL)) e1)).trans ((a9 (aU (ay et (ay rfl .(k))) e2)).trans ((a9 (aU (ay ej .(k)) e3)).trans ((a9 (aU (ay (aU .(k) (jA ns 17)) .(k)) e4)).trans ((a9 (aU (ay (aU .(k) (jA ns 18)) .(k)) e5)).trans ((a9 (aU (ay (aU .(k) (jA ns 19)) (ay rfl aL)) e6)).trans (bU (xS rfl rfl rfl rfl rfl rfl rfl))))))))
 .obtain⟨j,hj⟩:=z7 hx;have hjl:=(di.mp hj).1;have g:=g1 j x hj;exact⟨by rw[g.nm];exact(li .(f)).2,by have:=g.len;omega,g.good.iv,g.good.gap⟩
noncomputable def Wp (o:ar α) (P:α->Prop):Prop:=∃a,o=aa a/\P a
section
variable {o:ar α} {P Q:α->Prop} {R:Fl×bi->Prop}
theorem Wp.imp (h:Wp o P) (k:∀a,P a->Q a):Wp o Q:=let ⟨a,e,p⟩:=h;⟨a,e,k a p⟩
theorem rl {f:α->ar β} {P:β->Prop} (h:Wp o fun a=>Wp (f a) P):Wp (o.bind f) P:=by obtain⟨a,rfl,b,e,p⟩:=h;exact⟨b,e,p⟩
theorem PV {a:α} (e:o=aa a) (p:P a):Wp o P:=⟨a,e,p⟩
theorem JS (h:Wp (ft ρ) fun b=>Wp ((if b=ah then g else g') ρ) R):Wp (sIf ft g g' ρ) R:=rl (h.imp fun b k=>by cases b<;>exact k)
theorem GY {x:D} (h:((cV n).map fun i:al=>D.int (0+(i:ag)))[i]?=aa x):i<n/\x=.int i:=by rw[ql] at h;obtain⟨k,hk,rfl⟩:=oMd h;obtain⟨hlt,e⟩:=di.mp hk;rw[SD] at e;rw[qT] at hlt;subst e;exact⟨hlt,by rw[Int.zero_add]⟩
end
section
variable {f:α->D} {l:ac (aj×α)} {k j:aj} {v:α}
noncomputable def tb (f:α->D) (l:ac (aj×α)):ac (Key×D):=l.map fun q=>(.inr q.1,f q.2)
noncomputable def lk (l:ac (aj×α)) (k:aj):ar α:=(l.find? fun q=>decide (q.1=k)).map (·.2)
noncomputable def pt (l:ac (aj×α)) (k:aj) (v:α):ac (aj×α):=if (l.any fun q=>decide (q.1=k))=ah then l.map (fun q=>if q.1=k then (q.1,v) else q) else l++[(k,v)]
noncomputable def dp (l:ac (aj×α)) (k:aj):ac (aj×α):=l.filter fun q=>decide (q.1≠k)
theorem xR (a b:aj):decide ((cG a:Key)=cG b)=decide (a=b):=by
 by_cases h:a=b
 .rw[h];simp
 .rw[qM h,qM fun z=>h (gF z)]
theorem fN (f:α->D) (k:aj):∀l:ac (aj×α),cr (tb f l) (.inr k)=(lk l k).map f
 |[]=>rfl
 |(a,v)::l=>by
  have ih:=fN f k l;unfold cr lk at ih ⊢;unfold tb at ih ⊢;rw[qo,eY,eY,xR];by_cases h:a=k
  .rw[qR h];rfl
  .rw[qM h];exact ih
theorem kA (a:aj) (v:α) (l:ac (aj×α)) (k:aj):lk ((a,v)::l) k=if a=k then aa v else lk l k:=by
 unfold lk;rw[eY];by_cases h:a=k
 .rw[qR h,qY h];rfl
 .rw[qM h,qZ h]
theorem p9:∀{l:ac (aj×α)},lk l k=ab↔k∉l.map (·.1)
 |[]=>by simp[lk]
 |(a,v)::l=>by
  rw[kA,qo,qK];by_cases h:a=k
  .subst h;simp
  .rw[qZ h,p9];constructor
   .rintro q (z|z)
    .exact h z.symm
    .exact q z
   .exact fun q z=>q (.inr z)
theorem fL:∀{l:ac (aj×α)},lk l k=aa v->(k,v)∈l
 |[],h=>by cases h
 |(a,w)::l,h=>by
  rw[kA] at h;split at h
  .rename_i e;cases h;subst e;exact .head _
  .exact .tail _ (fL h)
theorem gI:∀{l:ac (aj×α)},(l.map (·.1)).Nodup->(k,v)∈l->lk l k=aa v
 |(a,w)::l,nd,h=>by
  rw[qo,kQ] at nd;rw[kA];rcases c0.mp h with e|h
  .cases e;exact qY rfl
  .rw[qZ fun z=>nd.1 (bC.mpr ⟨_,h,z.symm⟩)];exact gI nd.2 h
theorem MP (l m:ac (aj×α)) (k:aj):lk (l++m) k=(lk l k).or (lk m k):=by unfold lk;rw[SF];cases l.find? fun q=>decide (q.1=k)<;>rfl
theorem rU:(l.any fun q=>decide (q.1=k))=ah↔k∈l.map (·.1):=by
 rw[lZ,bC];constructor
 .rintro⟨q,h1,h2⟩;exact⟨q,h1,fC h2⟩
 .rintro⟨q,h1,h2⟩;exact⟨q,h1,qR h2⟩
theorem Dp (k:aj) (v:α) (j:aj):∀l:ac (aj×α),lk (l.map fun q=>if q.1=k then (q.1,v) else q) j=if j=k then (lk l j).map fun _=>v else lk l j
 |[]=>by simp[lk]
 |(a,w)::l=>by
  rw[qo];have ih:=Dp k v j l;by_cases h:a=k
  .rw[qY h,kA,kA,ih];by_cases h2:a=j
   .rw[qY h2,qY h2,qY (h2.symm.trans h)];rfl
   .rw[qZ h2,qZ h2]
  .rw[qZ h,kA,kA,ih];by_cases h2:a=j
   .rw[qY h2,qY h2,qZ fun z=>h (h2.trans z)]
   .rw[qZ h2,qZ h2]
theorem rm:lk (pt l k v) j=if j=k then aa v else lk l j:=by
 unfold pt;split
 .rename_i h;rw[Dp];by_cases e:j=k
  .subst e;rw[qY rfl,qY rfl];cases q:lk l j with
   |none=>exact bK (rU.mp h) (p9.mp q)
   |some w=>rfl
  .rw[qZ e,qZ e]
 .rename_i h;rw[MP,kA];by_cases e:j=k
  .subst e;rw[qY rfl,qY rfl,p9.mpr fun z=>h (rU.mpr z)];rfl
  .rw[qZ e,qZ (dI e)];cases lk l j<;>rfl
theorem Op (k:aj) (v:α) (l:ac (aj×α)):(l.map fun q=>if q.1=k then (q.1,v) else q).map (·.1)=l.map (·.1):=by rw[qp];refine pG fun q _=>?_;show(if q.1=k then (q.1,v) else q).1=q.1;split<;>rfl
theorem wW (nd:(l.map (·.1)).Nodup):((pt l k v).map (·.1)).Nodup:=by
 unfold pt;split
 .rw[Op];exact nd
 .rename_i h;rw[jp,kZ];refine⟨nd,by simp,fun a ha b hb e=>h (rU.mpr ?_)⟩;have e2:b=k:=by simpa using hb
  rw[←e2,←e];exact ha
theorem KZ:(pt l k v).length<=l.length+1:=by
 unfold pt;split
 .rw[qg];exact lU _
 .rw[qk];exact qw _
theorem IQ (f:α->D) (l:ac (aj×α)) (k:aj) (v:α):eU (tb f l) (.inr k) (f v)=tb f (pt l k v):=by
 have e:((tb f l).any fun kv=>decide (kv.1=.inr k))=l.any fun q=>decide (q.1=k):=by
  unfold tb;rw[F5]
  congr 1
  funext q
  exact xR _ _
 unfold eU pt;rw[e];split
 .unfold tb;rw[qp,qp];refine pG fun q _=>?_;show(if (cG q.1:Key)=.inr k then _ else _)=((.inr (if q.1=k then (q.1,v) else q).1:Key),f (if q.1=k then (q.1,v) else q).2);by_cases h:q.1=k
  .rw[qY h,qY (cJ cG h)]
  .rw[qZ h,qZ fun z=>h (gF z)]
 .unfold tb;rw[jp];rfl
theorem MN (f:α->D) (k:aj) (l:ac (aj×α)):(tb f l).filter (fun kv=>decide (kv.1≠.inr k))=tb f (dp l k):=by
 unfold tb dp;rw[List.filter_map]
 congr 1
 refine SG fun q _=>?_;show decide ((cG q.1:Key)≠.inr k)=decide (q.1≠k);rw[vV,vV,xR]
theorem Ky (k:aj) (nd:(l.map (·.1)).Nodup):((dp l k).map (·.1)).Nodup:=nd.sublist (List.filter_sublist.map _)
end
noncomputable def pT (q:aj×ag):D:=.tup [.str q.1,.int q.2]
noncomputable abbrev bo:=ac (aj×aj×ag)
noncomputable def pD (P:bo):D:=.fdk (tb pT P)
noncomputable def eD (E:ac (aj×ag)):D:=.fdk (tb D.int E)
variable {P:bo}
section
variable {k:aj}
theorem cu (h:lk P k=aa q):aO (pD P) (.str k)=aa (pT q):=by show(aa (cr (tb pT P) (.inr k))).bind id=_;rw[fN,h];rfl
theorem fY {x:ag} (h:lk E k=aa x):aO (eD E) (.str k)=aa (.int x):=by show(aa (cr (tb D.int E) (.inr k))).bind id=_;rw[fN,h];rfl
theorem tm:fR (.str k) (pD P)=aa (.bl (lk P k).isSome):=by show aa (D.bl (cr (tb pT P) (.inr k)).isSome)=_;rw[fN,nv]
theorem Mt:mB (.str k) (pD P)=aa (.bl (!(lk P k).isSome)):=by show aa (D.bl (!(cr (tb pT P) (.inr k)).isSome))=_;rw[fN,nv]
theorem Gz:fR (.str k) (eD E)=aa (.bl (lk E k).isSome):=by show aa (D.bl (cr (tb D.int E) (.inr k)).isSome)=_;rw[fN,nv]
theorem MM {x:ag} :jd (eD E) (.str k) (.int x)=aa (.int ((lk E k).getD x)):=by show aa ((cr (tb D.int E) (.inr k)).getD (.int x))=_;rw[fN];cases lk E k<;>rfl
end
section
variable {bs:ac BenchT}
theorem MD (g:Good bs ss js us ls ks h) (ml:(js.flatMap (·.ms)).length<=300):wD [aF bs ss js us ls ks h]=aa .(b):=
 bM [oS .(a)] rfl (bU (aU (ay (au rfl rfl (ixL _ 0)) (ay (au rfl rfl (ixL _ 1)) (ay (au rfl rfl (ixL _ 2)) (ay (au rfl rfl (ixL _ 3)) (ay (au rfl rfl (ixL _ 4)) (ay (au rfl rfl (ixL _ 5)) (ay (au rfl rfl (ixL _ 6)) aL))))))) (J2 g ml)))
theorem jG {f:aj} (i:al) (h1:fo ρ=aa .(b)) (h2:(oX bs ss js us ls ks h)[i]?=aa (f,d)):gn "Shop" f fo ρ=aa d:=by unfold gn;rw[h1];show(if ("Shop":aj)="Shop" then (oX bs ss js us ls ks h).lookup f else ab)=aa d;rw[qY rfl];exact uI (by rw[Ep];exact tU) h2
theorem gV {F:FQ} (hm:m∉lr) (h1:fo ρ=aa .(b)) (h2:fr ρ=aa ds) (h3:F (aG bs ss js us ls ks h::ds)=aa d):cS "Shop" m F fo fr ρ=aa d:=by have hno:(oX bs ss js us ls ks h).lookup m=ab:=rj (by rw[Ep];exact hm);unfold cS;rw[h1];show(if ("Shop":aj)="Shop"/\(oX bs ss js us ls ks h).lookup m=ab then (fr ρ).bind fun ds=>F (aG bs ss js us ls ks h::ds) else ab)=_;rw[qY ⟨rfl,hno⟩,h2];exact h3
theorem Lz {f:α->D} {nm:α->aj} {xs:ac α} (hf:∀x,∃r,f x=.tup (.str (nm x)::r)) (h1:fo ρ=aa (.lst (xs.map f))) (h2:xs.length<=aW) (h3:fy fv ρ=[ab]) :
  aI (aZ (itF fo) (aA 0) tT .(q) fv) ρ=aa (.lst ((xs.map nm).map D.str)):=by
 have hc:=iC (fi:=itF fo) (fe:=b2 ixD (vSh 0) .(e)) (fv:=fv) (ρ:=ρ) (r:=[]) (a:=ab) (xs:=xs.map f) (f:=fun d=>match d with|.tup (x::_)=>x|_=>.non) (by unfold itF;rw[h1];rfl) (by rw[qg];exact h2) h3 (fun x hx=>by obtain⟨y,_,rfl⟩:=bC.mp hx;obtain⟨r,e⟩:=hf y;simp only[b2,vSh,vC,qd,qc,e,cI])
 rw[hc]
 congr 2
 rw[qp,qp];refine pG fun x _=>?_;obtain⟨r,e⟩:=hf x;simp[e]
theorem uy (hl:ss.length<=40):gD [aG bs ss js us ls ks h]=aa (.lst ((ss.map (·.nm)).map D.str)):=
 bM [oS .(b)] rfl (bU (Lz (f:=bJ) (nm:=(·.nm)) (xs:=ss) (fun x=>⟨_,rfl⟩) (jG 1 rfl rfl) (szN hl .(h)) rfl))
theorem u7 {α:Type} {nm:α->aj} {f:α->D}:∀{xs:ac α} {s:α},(xs.map nm).Nodup->s∈xs->cr (xs.map fun x=>((.inr (nm x):Key),f x)) (.inr (nm s))=aa (f s)
 |[],s,_,hs=>by cases hs
 |x::r,s,nd,hs=>by
  rw[qo,kQ] at nd;unfold cr;rw[qo,eY];by_cases e:nm x=nm s
  .have hxs:s=x:=by
    rcases c0.mp hs with q|q
    .exact q
    .exact bK (qW (f:=nm) q) (by rw[←e];exact nd.1)
   subst hxs;simp
  .have hs':s∈r:=by
    rcases c0.mp hs with q|q
    .subst q;exact bK rfl e
    .exact q
   have hne:¬((.inr (nm x):Key)=.inr (nm s)):=fun z=>e (gF z);simp only[qM hne];exact u7 nd.2 hs'
theorem IF {s:StepT} (g:Good bs ss js us ls ks h) (hs:s∈ss):sQ [aG bs ss js us ls ks h,.str s.nm]=aa (.lst (s.ws.map dW)):=by have gs:=g.s s hs;refine bM [oS .(b),oS .(v)] rfl (bU (aU (ay (au (au (x:=.dk (ss.map fun s=>(.inr s.nm,bJ s))) (z:=bJ s) (jG 8 rfl rfl) rfl ?_) rfl i8) aL) (iu (tG (by have:=gs.l4;omega)))));show cr (ss.map fun s=>((.inr s.nm:Key),bJ s)) (.inr s.nm)=_;exact u7 g.sn hs
theorem Pt [eV κ] (kvs:ac (κ×D)) (k k':κ) (v:D):cr (eU kvs k v) k'=if k'=k then aa v else cr kvs k':=by
 unfold eU;split
 .rename_i hany;by_cases e:k'=k
  .subst e;rw[qY rfl];unfold cr
   induction kvs with
   |nil=>simp at hany
   |cons x r ih=>
    rw[qo,eY];by_cases ex:x.1=k'
    .simp[ex]
    .simp only[qZ ex,qM ex];rw[kS,qM ex,Fg] at hany;exact ih hany
  .rw[qZ e];unfold cr
   induction kvs with
   |nil=>rfl
   |cons x r ih=>
    rw[qo,eY,eY];by_cases ex:x.1=k
    .have:¬x.1=k':=fun z=>e (z.symm.trans ex);simp only[qY ex,qM this];by_cases ha:(r.any fun kv=>decide (kv.1=k))=ah
     .exact ih ha
     .have hmap:r.map (fun kv=>if kv.1=k then (kv.1,v) else kv)=r:=by
       conv=>rhs;rw[←F6 r]
       refine pG fun y hy=>?_;have:¬y.1=k:=fun z=>ha (lZ.mpr ⟨y,hy,qR z⟩);simp[this]
      rw[hmap]
    .simp only[qZ ex];by_cases ex':x.1=k'
     .simp[ex']
     .simp only[qM ex'];rw[kS,qM ex,Fg] at hany;exact ih hany
 .rename_i hany;have hno:∀x∈kvs,¬x.1=k:=fun x hx z=>hany (lZ.mpr ⟨x,hx,qR z⟩);unfold cr;rw[SF];by_cases e:k'=k
  .subst e;rw[qY rfl];have:kvs.find? (fun kv=>decide (kv.1=k'))=ab:=by rw[zN];intro x hx z;exact hno x hx (fC z)
   rw[this];simp
  .rw[qZ e];have:¬k=k':=fun z=>e z.symm;simp[this]
theorem D2 (j:JobT) (m:aj):∀(ms:ac aj) (acc:ac (Key×D)),cr (ms.foldl (hV j) acc) (.inr m)=if m∈ms then aa (bA j) else cr acc (.inr m)
 |[],acc=>by simp
 |x::r,acc=>by
  rw[kR,D2 j m r];by_cases h1:m∈r
  .rw[qY h1,qY (qi _ h1)]
  .rw[qZ h1];unfold hV;rw[Pt];by_cases h2:m=x
   .subst h2;rw[qY rfl,qY qh]
   .have:¬((.inr m:Key)=.inr x):=fun z=>h2 (gF z);rw[qZ this,qZ];intro z;rcases c0.mp z with q|q
    .exact h2 q
    .exact h1 q
noncomputable def iQ (js:ac JobT) (m:aj):ar JobT:=js.find? fun j=>decide (m∈j.ms)
theorem DZ (m:aj):∀(js:ac JobT) (acc:ac (Key×D)),(js.flatMap (·.ms)).Nodup->cr (js.foldl (fun acc j=>j.ms.foldl (hV j) acc) acc) (.inr m)=match iQ js m with|some j=>aa (bA j)|none=>cr acc (.inr m)
 |[],acc,_=>rfl
 |j::r,acc,nd=>by
  rw[FZ,kZ] at nd;rw[kR,DZ m r _ nd.2.1,D2];unfold iQ;rw[eY];by_cases h1:m∈j.ms
  .have:r.find? (fun j=>decide (m∈j.ms))=ab:=by rw[zN];intro x hx z;exact nd.2.2 m h1 m (SH.mpr ⟨x,hx,fC z⟩) rfl
   simp only[qR h1,this,qY h1]
  .simp only[qM h1,qZ h1]
noncomputable def yp:ar JobT->D
 |some j=>bA j
 |none=>.non
theorem He {j:JobT} (h:iQ js m=aa j):j∈js/\m∈j.ms:=⟨zM h,by have:=FC h;exact fC this⟩
theorem GC (g:Good bs ss js us ls ks h) (m:aj):xN [aG bs ss js us ls ks h,.str m]=aa (yp (iQ js m)):=by
 have hl:(ss.map (·.nm)).length<=40:=by rw[qg];exact g.sl.2
 have hp:Pl 8 (yp (iQ js m)):=by
  cases e:iQ js m with
  |none=>trivial
  |some j=>exact wB hl (g.j j (He e).1)
 refine bM [oS .(b),oS (.str m)] rfl (bU (aU (ay (au (x:=.dk (jkv js)) (jG 10 rfl rfl) rfl ?_) aL) (iu hp)));show aa ((cr (jkv js) (.inr m)).getD .non)=_;unfold jkv;rw[DZ m js [] g.jm];cases iQ js m<;>rfl
theorem Ao {s:StepT} (g:Good bs ss js us ls ks h) (hs:s∈ss):oU [aG bs ss js us ls ks h,.str s.nm]=aa (.str s.kd):=by refine bM [oS .(b),oS .(v)] rfl (bU (au (au (x:=.dk (ss.map fun s=>(.inr s.nm,bJ s))) (z:=bJ s) (jG 8 rfl rfl) rfl ?_) rfl cw));show cr (ss.map fun s=>((.inr s.nm:Key),bJ s)) (.inr s.nm)=_;exact u7 g.sn hs
theorem LU {b:BenchT} (g:Good bs ss js us ls ks h) (hb:b∈bs):ww [aG bs ss js us ls ks h,.str b.nm]=aa (.lst (b.br.map dIv)):=by
 have gb:=g.b b hb;have hp:Pl 8 (.lst (b.br.map dIv)):=h9 (by have:=gb.len;omega) fun x _=>⟨by simp[aW],by intro y hy;simp only[qK,qI,or_false] at hy;rcases hy with rfl|rfl<;>trivial⟩
 refine bM [oS .(b),oS (.str b.nm)] rfl (bU (aU (ay (au (au (x:=.dk (bs.map fun b=>(.inr b.nm,cx b))) (z:=cx b) (jG 7 rfl rfl) rfl ?_) rfl cw) aL) (iu hp)));show cr (bs.map fun b=>((.inr b.nm:Key),cx b)) (.inr b.nm)=_;exact u7 g.bn hb
noncomputable def suN (us:ac SetT) (a b c:aj):ag:=match (us.find? fun u=>decide ([cG u.b,cG u.p,cG u.q]=([.inr a,.inr b,.inr c]:ac Key))) with
 |some u=>u.n
 |none=>0
theorem N0:uH [aG bs ss js us ls ks h]=aa (.int h):=bM [oS .(b)] rfl (bU (jG 6 rfl rfl))
theorem Ou (g:Good bs ss js us ls ks h) (hp:Pl 8 .(af)):wu [aG bs ss js us ls ks h]=aa .(af):=bM [oS .(b)] rfl (bU (aU (ay (jG 2 rfl rfl) aL) (iu hp)))
theorem Pp (hp:Pl 8 (.lst (ls.map c5))):xO [aG bs ss js us ls ks h]=aa (.lst (ls.map c5)):=bM [oS .(b)] rfl (bU (aU (ay (jG 4 rfl rfl) aL) (iu hp)))
theorem Ks (hp:Pl 8 (.lst (ks.map cZ))):wR [aG bs ss js us ls ks h]=aa (.lst (ks.map cZ)):=bM [oS .(b)] rfl (bU (aU (ay (jG 5 rfl rfl) aL) (iu hp)))
noncomputable def ukv (us:ac SetT):ac (ac Key×D):=us.map fun u=>([u.b,u.p,u.q].map cG,.int u.n)
theorem Ck (a b c:aj):∀us:ac SetT,(cr (ukv us) [.inr a,.inr b,.inr c]).getD (.int 0)=.int (suN us a b c)
 |[]=>rfl
 |u::r=>by
  have ih:=Ck a b c r;unfold cr suN at ih ⊢;rw[show ukv (u::r)=(([cG u.b,cG u.p,cG u.q]:ac Key),D.int u.n)::ukv r from rfl,eY,eY];by_cases e:([cG u.b,cG u.p,cG u.q]:ac Key)=[.inr a,.inr b,.inr c]
  .rw[qR e];rfl
  .rw[qM e];exact ih
theorem tj {g:D->D->D->ar D} {x w:D} (h1:fa ρ=aa x) (h2:fb ρ=aa y) (h3:fc ρ=aa z) (h4:g x y z=aa w):b3 g fa fb fc ρ=aa w:=by unfold b3;rw[h1,qc,h2,qc,h3,qc];exact h4
theorem HS (a b c:aj):ui [aG bs ss js us ls ks h,.str a,.str b,.str c]=aa (.int (suN us a b c)):=by
 have hn:jd (.dt (ukv us)) (.tup [.str a,.str b,.str c]) (.int 0)=aa (.int (suN us a b c)):=by rw[←Ck a b c us];rfl
 exact bM (n:=0) (ds:=[aG bs ss js us ls ks h,.str a,.str b,.str c]) [oS .(b),oS (.str a),oS (.str b),oS (.str c)] rfl (bU (tj (g:=jd) (fa:=gn "Shop" "setup_by_names" (vSh 0)) (fb:=bc (szF (ae (vSh 1) (ae (vSh 2) .(aC))))) (fc:=vC (.int 0)) (jG 9 rfl rfl) (pO rfl rfl rfl) rfl hn))
end
noncomputable def prS:ac StepT->ac (StepT×StepT)
 |[]=>[]
 |s::r=>r.map (fun t=>(s,t))++prS r
noncomputable def dP (p:StepT×StepT):D:=.tup [.str p.1.nm,.str p.2.nm]
theorem mE:∀{ss:ac StepT} {p:StepT×StepT},p∈prS ss->p.1∈ss/\p.2∈ss
 |[],_,h=>by cases h
 |s::r,p,h=>by
  rcases fS.mp h with q|q
  .obtain⟨t,ht,rfl⟩:=bC.mp q;exact⟨qh,qi _ ht⟩
  .obtain⟨h1,h2⟩:=mE q;exact⟨qi _ h1,qi _ h2⟩
theorem DH:∀{ss:ac StepT} {n:al},ss.length<=n->(prS ss).length<=ss.length*n
 |[],_,_=>by simp[prS]
 |s::r,n,h=>by rw[qj] at h;have:=DH (ss:=r) (n:=n) .(f);show(r.map (fun t=>(s,t))++prS r).length<=_;rw[qk,qg,qj,zp];omega
theorem AH {g:α->D} {xs ys:ac α} (h1:ρ[i]?=aa (aa (.own (xs.map g)))) (h2:f ρ=aa (.lst (ys.map g))) (h3:xs.length+ys.length<=10000):i4 i f ρ=aa (.nx,ρ.set i (aa (.own ((xs++ys).map g)))):=by unfold i4;rw[h1];show(f ρ).bind _=_;rw[h2,qc];show(if _ then _ else _)=_;rw[qY (by rw[qg,qg];unfold aW;omega),jp]
theorem Qr {l:ac α} {x:α} (h:l[i]?=aa x):l.drop i=x::l.drop (i+1):=by obtain⟨h1,h2⟩:=di.mp h;rw[vI h1,h2]
noncomputable abbrev pE (ss:ac StepT) (ps:ac (StepT×StepT)) (a b:ar Slot):bi:=[oS (.lst ((ss.map (·.nm)).map D.str)),aa (.own (ps.map dP)),a,b]
theorem CK (ss:ac StepT) (hl:ss.length<=40):vh [.lst ((ss.map (·.nm)).map D.str)]=aa (.lst ((prS ss).map dP)):=by
 have hpl:=DH (ss:=ss) (n:=40) hl;obtain⟨ρ',h1,ps,a,b,h2,h3⟩:=eF (gg:=b6 2 (aT (aA 2) (aT (aA 3) bZ))) (body:=(i4 1 (aI (aZ (itF (slF (vSh 0) (pS (b2 aX (vSh 2) .(d))) pN)) (aA 0) tT (bc (szF (ae (vSh 1) .(ai)))) [ab,aa 3])))) (xs:=((ss.map (·.nm)).map D.str).mapIdx fun i d=>D.tup [.int i,d]) (ρ:=pE ss [] ab ab)
  (fun i ρ=>∃ps a b,ρ=pE ss ps a b/\ps++prS (ss.drop i)=prS ss) ⟨[],ab,ab,rfl,rfl⟩ (fun i x ρ hx hI=>by
   obtain⟨ps,a,b,rfl,hps⟩:=hI;obtain⟨y,hy,rfl⟩:=oW hx;rw[qp,ql] at hy;obtain⟨s,hsi,rfl⟩:=oMd hy;have hi:i<ss.length:=(di.mp hsi).1;have hdr:=Qr hsi;have hlen:ps.length+(ss.drop (i+1)).length<=10000:=by have:=cJ gm hps;rw[qk] at this;rw[jk];omega
   have e:aI (aZ (itF (slF (vSh 0) (pS (b2 aX (vSh 2) .(d))) pN)) (aA 0) tT (bc (szF (ae (vSh 1) .(ai)))) [ab,aa 3]) (pE ss ps (oS (.int i)) (oS .(v)))=aa (.lst (((ss.drop (i+1)).map fun t=>(s,t)).map dP)):=by
    have e0:itF (slF (vSh 0) (pS (b2 aX (vSh 2) .(d))) pN) (pE ss ps (oS (.int i)) (oS .(v)))=aa ((ss.drop (i+1)).map fun t=>D.str t.nm):=by have:=wA (f:=vSh 0) (g:=b2 aX (vSh 2) .(d)) (ρ:=pE ss ps (oS (.int i)) (oS .(v))) (d:=(i:ag)+1) rfl .(O) .(f);unfold itF;rw[this];show aa _=_;rw[show((i:ag)+1).toNat=i+1 by omega,qp,F4];rfl
    refine(iC (r:=[oS .(v)]) (a:=ab) (f:=fun d=>.tup [.str s.nm,d]) e0 (by rw[qg,jk];exact szN (k:=40) .(f) .(h)) rfl fun x hx=>ff rfl rfl).trans ?_;rw[qp,qp];rfl
   refine⟨_,_,rfl,AH rfl e (by rw[qg];exact hlen),ps++(ss.drop (i+1)).map (fun t=>(s,t)),_,_,rfl,?_⟩;rw[←hps,hdr,sq];rfl)
 rw[nC,qg,qg,Ft] at h3;have h4:ps=prS ss:=by rw[←h3];simp[prS]
 rw[h4] at h2;exact bM [oS (.lst ((ss.map (·.nm)).map D.str)),ab,ab,ab] rfl (kG.trans ((bX ((dH (xs:=((ss.map (·.nm)).map D.str).mapIdx fun i d=>D.tup [.int i,d]) rfl).trans (h1.trans (by rw[h2])))).trans ((i9 rfl).trans (bU (f:=vSh 1) rfl))))
noncomputable def flO:ar D->Fl
 |some d=>.rt d
 |none=>.nx
section
variable {d:α->D} {v:α->ar D}
theorem oz (I:bi->Prop):∀(as:ac α) (ρ:bi),(∀a∈as,∀ρ,I ρ->∃ρ1 ρ2,gg (d a) ρ=aa ρ1/\body ρ1=aa (flO (v a),ρ2)/\I ρ2)->I ρ->∃ρ',gB gg body (as.map d) ρ=aa (flO (as.findSome? v),ρ')/\I ρ'
 |[],ρ,_,h=>⟨ρ,rfl,h⟩
 |a::as,ρ,hs,h=>by
  obtain⟨ρ1,ρ2,e1,e2,h2⟩:=hs a (.head _) ρ h;rw[qo,sO];unfold gB;rw[e1,qc,e2,qc];cases hv:v a with
  |some x=>exact⟨ρ2,rfl,h2⟩
  |none=>
   obtain⟨ρ',q1,q2⟩:=oz I as ρ2 (fun b hb=>hs b (.tail _ hb)) h2;exact⟨ρ',q1,q2⟩
theorem uo {e:FE} (as:ac α) (I:bi->Prop) (hf:fi ρ=aa (as.map d)) (hs:∀a∈as,∀ρ,I ρ->∃ρ1 ρ2,gg (d a) ρ=aa ρ1/\body ρ1=aa (flO (v a),ρ2)/\I ρ2) (h:I ρ) (he:∀ρ,I ρ->e ρ=aa z):∃ρ',ax (bW fi gg body) (aE e) ρ=aa (.rt ((as.findSome? v).getD z),ρ'):=by
 obtain⟨ρ',e1,h1⟩:=oz I as ρ hs h;unfold ax bW;rw[hf,qc,e1,qc];cases as.findSome? v with
 |some x=>exact⟨ρ',rfl⟩
 |none=>exact⟨ρ',bU (he ρ' h1)⟩
theorem jF {e:FE} (as:ac α) (I:bi->Prop) (hρ:ds.map (fun d=>aa (Slot.sh d))++cq n ab=ρ) (hf:fi ρ=aa (as.map d)) (hs:∀a∈as,∀ρ,I ρ->∃ρ1 ρ2,gg (d a) ρ=aa ρ1/\body ρ1=aa (flO (v a),ρ2)/\I ρ2) (h:I ρ) (he:∀ρ,I ρ->e ρ=aa z) :
  a6 n (ax (bW fi gg body) (aE e)) ds=aa ((as.findSome? v).getD z):=by
 obtain⟨ρ',e1⟩:=uo as I hf hs h he;exact bM ρ hρ e1
end
theorem dh {l:ac D} (h:f ρ=aa (.lst l)):itF f ρ=aa l:=by unfold itF;rw[h];rfl
noncomputable def Ag:ar ag->D
 |some n=>.int n
 |none=>.non
section
variable {bs:ac BenchT}
theorem wP (a b:aj):eqA (.str a) (.str b)=aa (.bl (decide (a=b))):=by unfold eqA orG eqD eqS;rfl
theorem CO (b:aj):∀ws:ac (aj×ag),(ws.findSome? fun w=>if w.1=b then aa (D.int w.2) else ab)=(lk ws b).map D.int
 |[]=>rfl
 |(a,n)::ws=>by
  rw[sO,kA];by_cases e:a=b
  .rw[qY e,qY e];rfl
  .rw[qZ e,qZ e];exact CO b ws
theorem yc (g:Good bs ss js us ls ks h) {s:StepT} (hs:s∈ss) (b:aj):mH [aG bs ss js us ls ks h,.str s.nm,.str b]=aa (Ag (lk s.ws b)):=by
 have gs:=g.s s hs;have e:=jF (n:=2) (ds:=[aG bs ss js us ls ks h,.str s.nm,.str b]) (ρ:=[oS .(b),oS .(v),oS (.str b),ab,ab]) (d:=dW) (v:=fun w:aj×ag=>if w.1=b then aa (D.int w.2) else ab) (e:=vC .non) (z:=.non)
  (fi:=itF (cS "Shop" "ways_of" sQ (vSh 0) .(K))) (gg:=b6 2 (aT (aA 3) (aT (aA 4) bZ))) (body:=sIf (toB (b2 eqA (vSh 3) (vSh 2))) (aE (vSh 4)) aK) s.ws
  (fun ρ=>∃x y,ρ=[oS .(b),oS .(v),oS (.str b),x,y]) rfl ?_ ?_ ⟨_,_,rfl⟩ (fun ρ _=>rfl)
 .rw[CO] at e;refine e.trans ?_;cases lk s.ws b<;>rfl
 .exact dh (gV .(r) rfl (ay rfl aL) (IF g hs))
 .rintro w - ρ ⟨x,y,rfl⟩;refine⟨[oS .(b),oS .(v),oS (.str b),oS (.str w.1),oS (.int w.2)],[oS .(b),oS .(v),oS (.str b),oS (.str w.1),oS (.int w.2)],rfl,?_,_,_,rfl⟩;have te:toB (b2 eqA (vSh 3) (vSh 2)) [oS .(b),oS .(v),oS (.str b),oS (.str w.1),oS (.int w.2)]=aa (decide (w.1=b)):=aY (au rfl rfl (wP _ _));refine(bN te).trans ?_;by_cases e:w.1=b
  .rw[qR e,qY rfl,qY e];rfl
  .rw[qM e,qZ e];rfl
end
section
variable {bs:ac BenchT}
noncomputable def jI (h:ag) (P:bo) (s:StepT):ar D:=match lk P s.nm with
 |none=>ab
 |some q=>match lk s.ws q.1 with
  |none=>aa (.tup [.str "way",.str s.nm])
  |some n=>if q.2<0\/h<q.2+n then aa (.tup [.str "way",.str s.nm]) else ab
theorem x9 {A:FT} (hA:A ρ=aa ah):orT A B ρ=aa ah:=by unfold orT;rw[hA];rfl
theorem oK {A:FT} {b:aQ} (hA:A ρ=aa ao) (hB:B ρ=aa b):orT A B ρ=aa b:=by unfold orT;rw[hA];exact hB
theorem pV (g:Good bs ss js us ls ks h) (h0:vSh 0 ρ=aa .(b)):itF .(P) ρ=aa (ss.map fun s=>D.str s.nm):=by have e:=dh (gV (m:="step_names") (fr:=ak) .(r) h0 aL (uy (bs:=bs) (ss:=ss) (js:=js) (us:=us) (ls:=ls) (ks:=ks) (h:=h) g.sl.2));rw[qp] at e;exact e
theorem Eb (g:Good bs ss js us ls ks h) (hp:∀s∈ss,(lk P s.nm).isSome=ah):yv [aG bs ss js us ls ks h,pD P]=aa ((ss.findSome? (jI h P)).getD .non):=by
 refine jF (n:=3) (ds:=[aG bs ss js us ls ks h,pD P]) (ρ:=[oS .(b),oS (pD P),ab,ab,ab]) (d:=fun s:StepT=>D.str s.nm) (v:=jI h P) ss
  (fun ρ=>∃x y z,ρ=[oS .(b),oS (pD P),x,y,z]) rfl (pV g rfl) ?_ ⟨_,_,_,rfl⟩ (fun ρ _=>rfl)
 rintro s hs ρ ⟨x,y,z,rfl⟩;obtain⟨q,hq⟩:=eN.mp (hp s hs);refine⟨_,[oS .(b),oS (pD P),oS .(v),oS (.int q.2),oS (Ag (lk s.ws q.1))],rfl,?_,_,_,_,rfl⟩;refine(a9 (au (au rfl rfl (cu hq)) rfl cw)).trans ((a9 (aU (ay rfl (ay rfl (ay (au (au rfl rfl (cu hq)) rfl cI) aL))) (yc g hs q.1))).trans ?_);unfold jI;rw[hq];dsimp only;cases hw:lk s.ws q.1 with
 |none=>exact(bN (x9 (aY .(O)))).trans rfl
 |some n=>
  dsimp only;by_cases h1:q.2<0
  .rw[qY (.inl h1)];exact(bN (oK (aY .(O)) (x9 (aY (au rfl rfl (cJ (aa ∘ D.bl) (qR h1))))))).trans rfl
  .have e2:toB (b2 gtD (b2 aX (vSh 3) (vSh 4)) (cS "Shop" "last_moment" uH (vSh 0) ak)) [oS .(b),oS (pD P),oS .(v),oS (.int q.2),oS (.int n)]=aa (decide (h<q.2+n)):=
    aY (au .(O) (gV .(r) rfl aL N0) rfl)
   have e1:toB (b2 ltD (vSh 3) .(e)) [oS .(b),oS (pD P),oS .(v),oS (.int q.2),oS (.int n)]=aa ao:=aY (au (x:=.int q.2) rfl rfl (cJ (aa ∘ D.bl) (qM h1)));refine(bN (oK (aY .(O)) (oK e1 e2))).trans ?_;by_cases h2:h<q.2+n
   .rw[qR h2,qY rfl,qY (show q.2<0\/h<q.2+n from .inr h2)];rfl
   .rw[qM h2,qZ qt,qZ (show ¬(q.2<0\/h<q.2+n) from fun z=>z.elim h1 h2)];rfl
end
section
variable {bs:ac BenchT}
noncomputable def f8 (P:bo) (s:StepT):ar (aj×ag):=(lk P s.nm).bind fun q=>(lk s.ws q.1).map fun n=>(s.nm,q.2+n)
noncomputable def bq (ss:ac StepT) (P:bo):ac (aj×ag):=ss.filterMap (f8 P)
noncomputable def OnB (ss:ac StepT) (P:bo):Prop:=∀s∈ss,∀q,lk P s.nm=aa q->(lk s.ws q.1).isSome=ah
theorem wI {P:bo}:∀{ss:ac StepT} {k:aj},k∈(bq ss P).map (·.1)->k∈ss.map (·.nm)
 |[],k,hk=>by cases hk
 |s::ss,k,hk=>by
  unfold bq at hk;rw[vk] at hk;cases e:f8 P s with
  |none=>rw[e] at hk;exact .tail _ (wI hk)
  |some q=>
   rw[e] at hk;rcases c0.mp (show k∈q.1::(ss.filterMap (f8 P)).map (·.1) from hk) with z|z
   .unfold f8 at e;obtain⟨a,_,e⟩:=oBd e;obtain⟨b,_,rfl⟩:=oMd e;rw[z];exact .head _
   .exact .tail _ (wI z)
theorem yj {s:StepT} (hs:ss[i]?=aa s):bq (ss.take (i+1)) P=bq (ss.take i) P++(f8 P s).toList:=by
 rw[pC,hs];unfold bq;rw[List.filterMap_append]
 congr 1
theorem D' {l:ac (aj×α)} {k:aj} {v:α} (h:k∉l.map (·.1)):pt l k v=l++[(k,v)]:=by unfold pt;rw[qZ fun z=>h (rU.mp z)]
theorem n4 {f:α->D} {fv:FE} {l:ac (aj×α)} {v:α} (hi:ρ[i]?=aa (aa (.odk (tb f l)))) (hv:fv ρ=aa (f v)) (hk:fk ρ=aa (.str x)) (hl:l.length<100000):fm i fk fv ρ=aa (.nx,ρ.set i (aa (.odk (tb f (pt l x v))))):=by unfold fm;rw[hv,qc,hk,qc,hi];show((aa (cG x:Key)).bind fun k=>if (tb f l).length<100000 then aa (Fl.nx,ρ.set i (aa (.odk (eU (tb f l) k (f v))))) else ab)=_;rw[qc,qY (by unfold tb;rw[qg];exact hl),IQ]
theorem En (g:Good bs ss js us ls ks h) {s:StepT} (hs:ss[i]?=aa s):s.nm∉(bq (ss.take i) P).map (·.1):=fun z=>by have hz:=wI z;have nd:=g.sn;rw[←sC i ss,jp,kZ] at nd;refine nd.2.2 _ hz s.nm ?_ rfl;rw[vI (di.mp hs).1,(di.mp hs).2];exact .head _
theorem Cp (ss:ac StepT) (P:bo):(bq ss P).length<=ss.length:=List.length_filterMap_le _ _
theorem oV {l:ac (Key×D)} (hi:ρ[i]?=aa (aa (.odk l))):jc i g ρ=g (ρ.set i (oS (.fdk l))):=by unfold jc;rw[hi]
theorem Dm (g:Good bs ss js us ls ks h) (hp:∀s∈ss,(lk P s.nm).isSome=ah) (ho:OnB ss P):mW [aG bs ss js us ls ks h,pD P]=aa (eD (bq ss P)):=by
 obtain⟨ρ',h1,a,b,h2⟩:=eF (gg:=aA 3) (body:=ax (aJ 4 .(ab)) (fm 2 (vSh 3) (b2 aX (b2 ixD (vSh 4) .(d)) (cF mH (ae (vSh 0) (ae (vSh 3) (ae (b2 ixD (vSh 4) .(e)) ak))))))) (xs:=ss.map fun s=>D.str s.nm) (ρ:=[oS .(b),oS (pD P),aa (.odk []),ab,ab])
  (fun i ρ=>∃a b,ρ=[oS .(b),oS (pD P),aa (.odk (tb D.int (bq (ss.take i) P))),a,b]) ⟨ab,ab,rfl⟩ (fun i x ρ hx hI=>by
   obtain⟨a,b,rfl⟩:=hI;rw[ql] at hx;obtain⟨s,hs,rfl⟩:=oMd hx;have hsm:s∈ss:=qO hs;obtain⟨q,hq⟩:=eN.mp (hp s hsm);obtain⟨n,hn⟩:=eN.mp (ho s hsm q hq);have el:=yc g hsm q.1;rw[hn] at el;have ev:f8 P s=aa (s.nm,q.2+n):=by unfold f8;rw[hq,qc,hn];rfl
   refine⟨_,_,rfl,(a9 (d:=pT q) (au rfl rfl (cu hq))).trans (n4 (i:=2) (f:=D.int) (l:=bq (ss.take i) P) (x:=s.nm) (v:=q.2+n) rfl (au (au rfl rfl cw) (aU (ay rfl (ay rfl (ay (au rfl rfl cI) aL))) el) rfl) rfl ?_),oS .(v),oS (pT q),?_⟩
   .have:=Cp (ss.take i) P;have:=g.sl.2;rw[qD] at *;omega
   .rw[D' (En g hs),yj hs,ev];rfl)
 rw[qg,j3] at h2;refine bM (ρ':=[oS .(b),oS (pD P),oS (eD (bq ss P)),a,b]) [oS .(b),oS (pD P),ab,ab,ab] rfl ?_;refine(bX (ρ1:=[oS .(b),oS (pD P),aa (.odk []),ab,ab]) rfl).trans ?_;exact(bX ((dH (pV g rfl)).trans (h1.trans (by rw[h2])))).trans ((oV rfl).trans (bU rfl))
end
section
variable {bs:ac BenchT}
theorem Dh (hl:ws.length<=1000) (nd:(ws.map (·.1)).Nodup):eZ [.lst (ws.map dW)]=aa (.dk (tb D.int ws)):=by
 have kn:((ws.map fun x=>((.inr x.1:Key),D.int x.2)).map (·.1)).Nodup:=by rw[qp];have:=nK (S:=fun a b:Key=>a≠b) (cG:aj->Key) (fun a b hab z=>hab (gF z)) nd;rw[qp] at this;exact this
 show(if _ then _ else _)=_;rw[qY (by rw[qg];exact hl),show ws.map dW=ws.map fun w=>.tup [.str w.1,.int w.2] from rfl,nR,qf,n5 kn];rfl
theorem IH {k:aj} {n:ag} (h:lk ws k=aa n):aO (.dk (tb D.int ws)) (.str k)=aa (.int n):=by show(aa (cr (tb D.int ws) (.inr k))).bind id=_;rw[fN,h];rfl
theorem Cv (h0:vSh i ρ=aa .(a)):itF (b2 ixD (vSh i) .(d)) ρ=aa (ss.map bJ):=dh (au h0 rfl (ixL _ 1))
noncomputable abbrev leE (P:bo) (L:D) (E:ac (aj×ag)) (a b c d e:ar Slot):bi:=[oS (pD P),oS L,aa (.odk (tb D.int E)),a,b,c,d,e]
theorem xv (g:Good bs ss js us ls ks h) (ho:OnB ss P):mK [pD P,aF bs ss js us ls ks h]=aa (eD (bq ss P)):=by
 obtain⟨ρ',h1,a,b,c,d,e,h2⟩:=eF (gg:=b6 3 (aT (aA 3) .(av))) (body:=sIf (toB (b2 fR (vSh 3) (vSh 0))) (ax (eJ (b6 2 (aT (aA 6) (aT (aA 7) bZ))) (b2 aO (vSh 0) (vSh 3))) (fm 2 (vSh 3) (b2 aX (vSh 7) (b2 aO (cF eZ (ae (vSh 5) ak)) (vSh 6))))) aK) (xs:=ss.map bJ) (ρ:=leE P .(a) [] ab ab ab ab ab)
  (fun i ρ=>∃a b c d e,ρ=leE P .(a) (bq (ss.take i) P) a b c d e) ⟨_,_,_,_,_,rfl⟩ (fun i x ρ hx hI=>by
   obtain⟨a,b,c,d,e,rfl⟩:=hI;rw[ql] at hx;obtain⟨s,hs,rfl⟩:=oMd hx;have hsm:s∈ss:=qO hs;have gs:=g.s s hsm;have te:toB (b2 fR (vSh 3) (vSh 0)) (leE P .(a) (bq (ss.take i) P) (oS .(v)) (oS (.str s.kd)) (oS (.lst (s.ws.map dW))) d e)=aa (lk P s.nm).isSome:=aY (au rfl rfl tm);cases hq:lk P s.nm with
   |none=>
    rw[hq] at te;have ev:f8 P s=ab:=by unfold f8;rw[hq];rfl
    exact⟨_,_,rfl,(bN te).trans rfl,_,_,_,_,_,by rw[yj hs,ev,Option.toList_none,lT]⟩
   |some q=>
    rw[hq] at te;obtain⟨n,hn⟩:=eN.mp (ho s hsm q hq);have ev:f8 P s=aa (s.nm,q.2+n):=by unfold f8;rw[hq,qc,hn];rfl
    have ea:eJ (b6 2 (aT (aA 6) (aT (aA 7) bZ))) (b2 aO (vSh 0) (vSh 3)) (leE P .(a) (bq (ss.take i) P) (oS .(v)) (oS (.str s.kd)) (oS (.lst (s.ws.map dW))) d e)=aa (.nx,leE P .(a) (bq (ss.take i) P) (oS .(v)) (oS (.str s.kd)) (oS (.lst (s.ws.map dW))) (oS (.str q.1)) (oS (.int q.2))):=by unfold eJ;rw[au (z:=pT q) rfl rfl (cu hq)];rfl
    refine⟨_,_,rfl,(bN te).trans ((bX ea).trans (n4 (i:=2) (f:=D.int) (l:=bq (ss.take i) P) (x:=s.nm) (v:=q.2+n) rfl (au rfl (au (aU (ay rfl aL) (Dh (by have:=gs.l4;omega) gs.nd)) rfl (IH hn)) rfl) rfl ?_)),oS .(v),oS (.str s.kd),oS (.lst (s.ws.map dW)),oS (.str q.1),oS (.int q.2),?_⟩
    .have:=Cp (ss.take i) P;have:=g.sl.2;rw[qD] at *;omega
    .rw[D' (En g hs),yj hs,ev];rfl)
 rw[qg,j3] at h2;refine bM (ρ':=[oS (pD P),oS .(a),oS (eD (bq ss P)),a,b,c,d,e]) [oS (pD P),oS .(a),ab,ab,ab,ab,ab,ab] rfl ?_;refine(bX (ρ1:=leE P .(a) [] ab ab ab ab ab) rfl).trans ?_;exact(bX ((dH (Cv rfl)).trans (h1.trans (by rw[h2])))).trans ((oV rfl).trans (bU rfl))
end
section
variable {bs:ac BenchT}
noncomputable def iz (js:ac JobT) (x:aj) (st en:ag):aQ:=match iQ js x with
 |some j=>decide (st<j.ea\/j.du<en)
 |none=>ao
theorem A4 {st en:ag} (x:aj):∀js:ac JobT,(js.flatMap (·.ms)).Nodup->(js.findSome? fun j=>if x∈j.ms/\(st<j.ea\/j.du<en) then aa (D.bl ah) else ab)=if iz js x st en=ah then aa (D.bl ah) else ab
 |[],_=>rfl
 |j::js,nd=>by
  rw[FZ,kZ] at nd;rw[sO];unfold iz iQ;rw[eY];by_cases hx:x∈j.ms
  .rw[qR hx];dsimp only;by_cases hq:st<j.ea\/j.du<en
   .rw[qY ⟨hx,hq⟩,qY (qR hq)]
   .rw[qZ fun z=>hq z.2,qZ fun z=>hq (fC z)];dsimp only;rw[SI];intro k hk;rw[qZ fun z=>nd.2.2 x hx x (SH.mpr ⟨k,hk,z.1⟩) rfl]
  .rw[qM hx,qZ fun z=>hx z.1];exact A4 x js nd.2.1
theorem PK (h0:vSh i ρ=aa .(a)):itF (b2 ixD (vSh i) .(j)) ρ=aa (js.map bA):=dh (au h0 rfl (ixL _ 2))
theorem ix {A:FT} {b:aQ} (hA:A ρ=aa ah) (hB:B ρ=aa b):cQ A B ρ=aa b:=by unfold cQ;rw[hA];exact hB
theorem kc {A:FT} (hA:A ρ=aa ao):cQ A B ρ=aa ao:=by unfold cQ;rw[hA];rfl
theorem rH {A:FT} {a b:aQ} (hA:A ρ=aa a) (hB:B ρ=aa b):orT A B ρ=aa (a || b):=by
 cases a with
 |true=>exact x9 hA
 |false=>exact oK hA hB
theorem Aw {fp fj:FE} {j:JobT} (h1:fp ρ=aa (pT q)) (h2:fe ρ=aa (.int en)) (h3:fj ρ=aa (bA j)) :
  orT (toB (b2 ltD (b2 ixD fp .(d)) (b2 ixD fj .(d)))) (toB (b2 gtD fe (b2 ixD fj .(j)))) ρ=aa (decide (q.2<j.ea\/j.du<en)):=by
 refine(rH (aY (au (au h1 rfl cw) (au h3 rfl cw) rfl)) (aY (au h2 (au h3 rfl i8) rfl))).trans ?_;rw[Bool.decide_or]
theorem Qn (g:Good bs ss js us ls ks h) {j:JobT} (hj:j∈js):∀y∈j.ms,ba y=ah:=fun y hy=>by obtain⟨s,hs,e⟩:=bC.mp ((g.j j hj).ms y hy);rw[←e];exact(g.s s hs).nm
theorem Lq (g:Good bs ss js us ls ks h) {s:StepT} (hs:s∈ss) (hq:lk P s.nm=aa q) (he:lk E s.nm=aa en):uX [pD P,eD E,aF bs ss js us ls ks h,.str s.nm]=aa (.bl (iz js s.nm q.2 en)):=by
 have e:=jF (n:=1) (ds:=[pD P,eD E,aF bs ss js us ls ks h,.str s.nm]) (ρ:=[oS (pD P),oS (eD E),oS .(a),oS .(v),ab]) (d:=bA) (v:=fun j:JobT=>if s.nm∈j.ms/\(q.2<j.ea\/j.du<en) then aa (D.bl ah) else ab) (e:=vC (.bl ao)) (z:=.bl ao)
  (fi:=itF (b2 ixD (vSh 2) .(j))) (gg:=aA 4) (body:=sIf (toB (b2 fz (vSh 3) (b2 ixD (vSh 4) .(l)))) (sIf (orT (toB (b2 ltD (b2 ixD (b2 aO (vSh 0) (vSh 3)) .(d)) (b2 ixD (vSh 4) .(d)))) (toB (b2 gtD .(ab) (b2 ixD (vSh 4) .(j))))) (aE (vC (.bl ah))) aK) aK) js
  (fun ρ=>∃x,ρ=[oS (pD P),oS (eD E),oS .(a),oS .(v),x]) rfl (PK rfl) ?_ ⟨_,rfl⟩ (fun ρ _=>rfl)
 .rw[A4 s.nm js g.jm] at e;refine e.trans ?_;cases iz js s.nm q.2 en<;>rfl
 .rintro j hj ρ ⟨x,rfl⟩;refine⟨[oS (pD P),oS (eD E),oS .(a),oS .(v),oS (bA j)],[oS (pD P),oS (eD E),oS .(a),oS .(v),oS (bA j)],rfl,?_,_,rfl⟩;refine(bN (aY (au rfl (au rfl rfl gN) (mR (g.s s hs).nm (Qn g hj))))).trans ?_;by_cases hx:s.nm∈j.ms
  .rw[qR hx,qY rfl];refine(bN (Aw (au rfl rfl (cu hq)) (au rfl rfl (fY he)) rfl)).trans ?_;by_cases hz:q.2<j.ea\/j.du<en
   .rw[qR hz,qY rfl,qY ⟨hx,hz⟩];rfl
   .rw[qM hz,qZ qt,qZ fun z=>hz z.2];rfl
  .rw[qM hx,qZ qt,qZ fun z=>hx z.1];rfl
end
section
variable {bs:ac BenchT}
structure Tld (ss:ac StepT) (P:bo) (E:ac (aj×ag)):Prop where
 p:∀s∈ss,∃q,lk P s.nm=aa q
 e:∀s∈ss,∃x,lk E s.nm=aa x
noncomputable def stt (P:bo) (x:aj):ag:=((lk P x).getD (⟨#[]⟩,0)).2
noncomputable def bnt (P:bo) (x:aj):aj:=((lk P x).getD (⟨#[]⟩,0)).1
noncomputable def ent (E:ac (aj×ag)) (x:aj):ag:=(lk E x).getD 0
theorem Tld.gp (T:Tld ss P E) {s:StepT} (hs:s∈ss):lk P s.nm=aa (bnt P s.nm,stt P s.nm):=by obtain⟨q,hq⟩:=T.p s hs;unfold bnt stt;rw[hq];rfl
theorem Tld.ge (T:Tld ss P E) {s:StepT} (hs:s∈ss):lk E s.nm=aa (ent E s.nm):=by obtain⟨q,hq⟩:=T.e s hs;unfold ent;rw[hq];rfl
noncomputable def kD (js:ac JobT) (P:bo) (E:ac (aj×ag)) (s:StepT):ar D:=if iz js s.nm (stt P s.nm) (ent E s.nm)=ah then aa (.tup [.str "job",.str s.nm]) else ab
theorem GI (g:Good bs ss js us ls ks h) (T:Tld ss P E):xf [aG bs ss js us ls ks h,pD P,eD E]=aa ((ss.findSome? (kD js P E)).getD .non):=by
 refine jF (n:=2) (ds:=[aG bs ss js us ls ks h,pD P,eD E]) (ρ:=[oS .(b),oS (pD P),oS (eD E),ab,ab]) (d:=fun s:StepT=>D.str s.nm) (v:=kD js P E) ss
  (fun ρ=>∃x y,ρ=[oS .(b),oS (pD P),oS (eD E),x,y]) rfl (pV g rfl) ?_ ⟨_,_,rfl⟩ (fun ρ _=>rfl)
 rintro s hs ρ ⟨x,y,rfl⟩;refine⟨_,[oS .(b),oS (pD P),oS (eD E),oS .(v),oS (yp (iQ js s.nm))],rfl,?_,_,_,rfl⟩;refine(a9 (gV .(r) rfl (ay rfl aL) (GC g s.nm))).trans ?_;cases hj:iQ js s.nm with
 |none=>
  have hv:iz js s.nm (stt P s.nm) (ent E s.nm)=ao:=by unfold iz;rw[hj]
  unfold kD;rw[hv];exact(bN (kc (aY .(O)))).trans rfl
 |some j=>
  have hv:iz js s.nm (stt P s.nm) (ent E s.nm)=decide (stt P s.nm<j.ea\/j.du<ent E s.nm):=by unfold iz;rw[hj]
  unfold kD;rw[hv];refine(bN (ix (aY .(O)) (Aw (au rfl rfl (cu (T.gp hs))) (au rfl rfl (fY (T.ge hs))) rfl))).trans ?_;cases decide (stt P s.nm<j.ea\/j.du<ent E s.nm)<;>rfl
end
section
variable {bs:ac BenchT}
noncomputable def jN (br:ac (ag×ag)) (st en:ag):aQ:=br.any fun iv=>decide (st<iv.2) && decide (iv.1<en)
theorem Dj {st en:ag}:∀br:ac (ag×ag),(br.findSome? fun iv=>if (decide (st<iv.2) && decide (iv.1<en))=ah then aa (D.bl ah) else ab)=if jN br st en=ah then aa (D.bl ah) else ab
 |[]=>rfl
 |iv::br=>by
  rw[sO];unfold jN;rw[kS];cases decide (st<iv.2) && decide (iv.1<en) with
  |true=>rfl
  |false=>exact Dj br
theorem Jj (g:Good bs ss js us ls ks h):eZ [.lst (bs.map cx)]=aa (.dk (tb (fun br:ac (ag×ag)=>D.lst (br.map dIv)) (bs.map fun b=>(b.nm,b.br)))):=by
 have kn:((bs.map fun b=>((.inr b.nm:Key),D.lst (b.br.map dIv))).map (·.1)).Nodup:=by rw[qp];have:=nK (S:=fun a b:Key=>a≠b) (cG:aj->Key) (fun a b hab z=>hab (gF z)) g.bn;rw[qp] at this;exact this
 show(if _ then _ else _)=_;rw[qY (by rw[qg];have:=g.bl;omega),show bs.map cx=bs.map fun b=>.tup [.str b.nm,.lst (b.br.map dIv)] from rfl,nR,qf,n5 kn];unfold tb;rw[qp];rfl
theorem Aj (g:Good bs ss js us ls ks h) {b:BenchT} (hb:b∈bs):lk (bs.map fun b=>(b.nm,b.br)) b.nm=aa b.br:=gI (by rw[qp];exact g.bn) (bC.mpr ⟨b,hb,rfl⟩)
theorem MI {sp:ac StepT} (g:Good bs ss js us ls ks h) (T:Tld sp P E) {s:StepT} (hs:s∈sp) {b:BenchT} (hb:b∈bs) (hn:bnt P s.nm=b.nm):sS [pD P,eD E,aF bs ss js us ls ks h,.str s.nm]=aa (.bl (jN b.br (stt P s.nm) (ent E s.nm))):=by
 have hq:=T.gp hs;have he:=T.ge hs;have e:=jF (n:=2) (ds:=[pD P,eD E,aF bs ss js us ls ks h,.str s.nm]) (ρ:=[oS (pD P),oS (eD E),oS .(a),oS .(v),ab,ab]) (d:=dIv) (v:=fun iv:ag×ag=>if (decide (stt P s.nm<iv.2) && decide (iv.1<ent E s.nm))=ah then aa (D.bl ah) else ab) (e:=vC (.bl ao)) (z:=.bl ao)
  (fi:=itF (b2 aO (cF eZ (ae (b2 ixD (vSh 2) .(e)) ak)) (b2 ixD (b2 aO (vSh 0) (vSh 3)) .(e)))) (gg:=b6 2 .(av)) (body:=sIf (cQ (toB (b2 ltD (b2 ixD (b2 aO (vSh 0) (vSh 3)) .(d)) (vSh 5))) (toB (b2 ltD (vSh 4) .(ab)))) (aE (vC (.bl ah))) aK) b.br
  (fun ρ=>∃x y,ρ=[oS (pD P),oS (eD E),oS .(a),oS .(v),x,y]) rfl ?_ ?_ ⟨_,_,rfl⟩ (fun ρ _=>rfl)
 .rw[Dj] at e;refine e.trans ?_;cases jN b.br (stt P s.nm) (ent E s.nm)<;>rfl
 .refine dh (au (aU (ay (au rfl rfl (ixL _ 0)) aL) (Jj g)) (au (au rfl rfl (cu hq)) rfl cI) ?_);show(aa (cr (tb _ _) (.inr (bnt P s.nm)))).bind id=_;rw[fN,hn,Aj g hb];rfl
 .rintro iv - ρ ⟨x,y,rfl⟩;refine⟨[oS (pD P),oS (eD E),oS .(a),oS .(v),oS (.int iv.1),oS (.int iv.2)],[oS (pD P),oS (eD E),oS .(a),oS .(v),oS (.int iv.1),oS (.int iv.2)],rfl,?_,_,_,rfl⟩;have t1:toB (b2 ltD (b2 ixD (b2 aO (vSh 0) (vSh 3)) .(d)) (vSh 5)) [oS (pD P),oS (eD E),oS .(a),oS .(v),oS (.int iv.1),oS (.int iv.2)]=aa (decide (stt P s.nm<iv.2)):=aY (au (au (au rfl rfl (cu hq)) rfl cw) rfl rfl);have t2:toB (b2 ltD (vSh 4) .(ab)) [oS (pD P),oS (eD E),oS .(a),oS .(v),oS (.int iv.1),oS (.int iv.2)]=aa (decide (iv.1<ent E s.nm)):=aY (au rfl (au rfl rfl (fY he)) rfl);cases h1:decide (stt P s.nm<iv.2) with
  |false=>
   rw[h1] at t1;exact(bN (kc t1)).trans rfl
  |true=>
   rw[h1] at t1;refine(bN (ix t1 t2)).trans ?_;cases decide (iv.1<ent E s.nm)<;>rfl
end
theorem mj {α:Type} {gg:FG} {ft:FT} {fe:FE} {d r:α->D} (I:bi->Prop):∀(as:ac α) (ρ:bi),(∀a∈as,∀ρ,I ρ->∃ρ1,gg (d a) ρ=aa ρ1/\ft ρ1=aa ah/\fe ρ1=aa (r a)/\I ρ1)->I ρ->gv gg ft fe (as.map d) ρ=aa (as.map r)
 |[],_,_,_=>rfl
 |a::as,ρ,hs,h=>by obtain⟨ρ1,e1,e2,e3,h1⟩:=hs a (.head _) ρ h;rw[qo];unfold gv;rw[e1,qc,e2,qc,qY rfl,e3,qc,mj I as ρ1 (fun b hb=>hs b (.tail _ hb)) h1];rfl
theorem xD {A B:FE} {a b:aQ} (hA:A ρ=aa (.bl a)) (hB:B ρ=aa (.bl b)):cO A B ρ=aa (.bl (a && b)):=by
 unfold cO;rw[hA,qc];cases a
 .rfl
 .exact hB
theorem wq {α:Type} (f:α->aQ):∀l:ac α,iO (l.map fun x=>D.bl (f x))=aa (l.map f)
 |[]=>rfl
 |x::l=>by show(iO (l.map fun x=>D.bl (f x))).map (f x::·)=_;rw[wq f l];rfl
section
variable {bs:ac BenchT}
noncomputable def brs (bs:ac BenchT) (b:aj):ac (ag×ag):=(lk (bs.map fun b=>(b.nm,b.br)) b).getD []
theorem Ll (g:Good bs ss js us ls ks h) {b:BenchT} (hb:b∈bs):brs bs b.nm=b.br:=by unfold brs;rw[Aj g hb];rfl
noncomputable def mJ (bs:ac BenchT) (P:bo) (E:ac (aj×ag)) (s:StepT):ar D:=if jN (brs bs (bnt P s.nm)) (stt P s.nm) (ent E s.nm)=ah then aa (.tup [.str "break",.str s.nm]) else ab
theorem MK (g:Good bs ss js us ls ks h) (T:Tld ss P E) (hB:∀s∈ss,∃b∈bs,b.nm=bnt P s.nm):xr [aG bs ss js us ls ks h,pD P,eD E]=aa ((ss.findSome? (mJ bs P E)).getD .non):=by
 refine jF (n:=3) (ds:=[aG bs ss js us ls ks h,pD P,eD E]) (ρ:=[oS .(b),oS (pD P),oS (eD E),ab,ab,ab]) (d:=fun s:StepT=>D.str s.nm) (v:=mJ bs P E) ss
  (fun ρ=>∃x y z,ρ=[oS .(b),oS (pD P),oS (eD E),x,y,z]) rfl (pV g rfl) ?_ ⟨_,_,_,rfl⟩ (fun ρ _=>rfl)
 rintro s hs ρ ⟨x,y,z,rfl⟩;obtain⟨b,hb,hn⟩:=hB s hs;have hq:=T.gp hs;have he:=T.ge hs;have eb:=LU g hb;rw[hn] at eb;refine⟨_,[oS .(b),oS (pD P),oS (eD E),oS .(v),oS (.int (stt P s.nm)),oS (.lst (b.br.map dIv))],rfl,?_,_,_,_,rfl⟩;refine(a9 (au (au rfl rfl (cu hq)) rfl cw)).trans ((a9 (gV .(r) rfl (ay (au (au rfl rfl (cu hq)) rfl cI) aL) eb)).trans ?_);have gb:=g.b b hb;have ec:aI (aZ (itF (vSh 5)) (b6 2 (aT (aA 0) (aT (aA 1) bZ))) tT (cO (b2 ltD (vSh 2) (vSh 1)) (b2 ltD (vSh 0) (b2 aO (vSh 3) (vSh 4)))) [ab,ab,aa 4,aa 2,aa 3]) [oS .(b),oS (pD P),oS (eD E),oS .(v),oS (.int (stt P s.nm)),oS (.lst (b.br.map dIv))]=aa (.lst (b.br.map fun iv=>D.bl (decide (stt P s.nm<iv.2) && decide (iv.1<ent E s.nm)))):=by
  unfold aI aZ;rw[show itF (vSh 5) [oS .(b),oS (pD P),oS (eD E),oS .(v),oS (.int (stt P s.nm)),oS (.lst (b.br.map dIv))]=aa (b.br.map dIv) from rfl,qc,qY (by rw[qg];exact szN gb.len .(h))];refine cJ (sx D.lst) (mj (r:=fun iv:ag×ag=>D.bl (decide (stt P s.nm<iv.2) && decide (iv.1<ent E s.nm))) (fun ρ=>∃x y,ρ=[x,y,oS (.int (stt P s.nm)),oS (eD E),oS .(v)]) b.br _ ?_ ⟨ab,ab,rfl⟩)
  .rintro iv - ρ ⟨x,y,rfl⟩;refine⟨[oS (.int iv.1),oS (.int iv.2),oS (.int (stt P s.nm)),oS (eD E),oS .(v)],rfl,rfl,?_,_,_,rfl⟩;exact xD rfl (au rfl (au rfl rfl (fY he)) rfl)
 unfold mJ;rw[←hn,Ll g hb];refine(bN (b:=jN b.br (stt P s.nm) (ent E s.nm)) (aY (aU (ay ec aL) ?_))).trans ?_
 .show(iO _).map _=_;rw[wq];show aa (D.bl _)=_;rw[F5];rfl
 .cases jN b.br (stt P s.nm) (ent E s.nm)<;>rfl
end
section
variable {bs:ac BenchT}
theorem Tld.gpN (T:Tld ss P E) (hx:x∈ss.map (·.nm)):lk P x=aa (bnt P x,stt P x):=by obtain⟨s,hs,rfl⟩:=bC.mp hx;exact T.gp hs
theorem Tld.geN (T:Tld ss P E) (hx:x∈ss.map (·.nm)):lk E x=aa (ent E x):=by obtain⟨s,hs,rfl⟩:=bC.mp hx;exact T.ge hs
noncomputable def lkB (P:bo) (E:ac (aj×ag)) (l:LinkT):aQ:=decide (stt P l.b<ent E l.a+l.g)
noncomputable def lkT (l:LinkT):D:=.tup [.str "link",.str l.a,.str l.b]
noncomputable def lkV (P:bo) (E:ac (aj×ag)) (l:LinkT):ar D:=if lkB P E l=ah then aa (lkT l) else ab
theorem Ia (g:Good bs ss js us ls ks h) (T:Tld ss P E):xy [aG bs ss js us ls ks h,pD P,eD E]=aa ((ls.findSome? (lkV P E)).getD .non):=by
 refine jF (n:=3) (ds:=[aG bs ss js us ls ks h,pD P,eD E]) (ρ:=[oS .(b),oS (pD P),oS (eD E),ab,ab,ab]) (d:=c5) (v:=lkV P E) ls
  (fun ρ=>∃x y z,ρ=[oS .(b),oS (pD P),oS (eD E),x,y,z]) rfl (dh (gV .(r) rfl aL (Pp (h9 (n:=7) (by have:=g.ll;omega) fun x _=>Eo)))) ?_ ⟨_,_,_,rfl⟩ (fun ρ _=>rfl)
 rintro l hl ρ ⟨x,y,z,rfl⟩;have gl:=g.l l hl;refine⟨_,_,rfl,(bN (b:=lkB P E l) (aY (au (au (au rfl rfl (cu (T.gpN gl.b))) rfl cw) (au (au rfl rfl (fY (T.geN gl.a))) rfl rfl) rfl))).trans ?_,oS (.str l.a),oS (.str l.b),oS (.int l.g),rfl⟩;unfold lkV;cases lkB P E l<;>rfl
end
section
variable {bs:ac BenchT}
noncomputable def mQ (us:ac SetT) (P:bo) (E:ac (aj×ag)) (o a b:StepT):aQ:=decide (stt P b.nm<ent E a.nm+suN us (bnt P o.nm) a.kd b.kd)
noncomputable def oQ (us:ac SetT) (P:bo) (E:ac (aj×ag)) (s t:StepT):aQ:=if stt P t.nm<stt P s.nm then mQ us P E s t s else mQ us P E s s t
theorem Pq (g:Good bs ss js us ls ks h) (T:Tld ss P E) {s t:StepT} (hs:s∈ss) (ht:t∈ss):uD [aG bs ss js us ls ks h,pD P,eD E,.str s.nm,.str t.nm]=aa (.bl (oQ us P E s t)):=by
 have fin:∀a b:StepT,a∈ss->b∈ss->ax (aJ 7 (cS "Shop" "setup_of" ui (vSh 0) (ae (b2 ixD .(ab) .(e)) (ae (cS "Shop" "kind_of" oU (vSh 0) (ae (vSh 5) ak)) (ae (cS "Shop" "kind_of" oU (vSh 0) (ae (vSh 6) ak)) ak))))) (aE (b2 ltD (b2 ixD (b2 aO (vSh 1) (vSh 6)) .(d)) (b2 aX (b2 aO (vSh 2) (vSh 5)) (vSh 7))))
   [oS .(b),oS (pD P),oS (eD E),oS .(v),oS (.str t.nm),oS (.str a.nm),oS (.str b.nm),ab]=aa (.rt (.bl (mQ us P E s a b)),[oS .(b),oS (pD P),oS (eD E),oS .(v),oS (.str t.nm),oS (.str a.nm),oS (.str b.nm),oS (.int (suN us (bnt P s.nm) a.kd b.kd))]):=fun a b ha hb=>by
  refine(a9 (gV .(r) rfl (ay (au (au rfl rfl (cu (T.gp hs))) rfl cI) (ay (gV .(r) rfl (ay rfl aL) (Ao g ha)) (ay (gV .(r) rfl (ay rfl aL) (Ao g hb)) aL))) (HS _ _ _))).trans ?_;exact bU (au (au (au rfl rfl (cu (T.gp hb))) rfl cw) (au (au rfl rfl (fY (T.ge ha))) rfl rfl) rfl)
 have te:toB (b2 ltD (b2 ixD (b2 aO (vSh 1) (vSh 4)) .(d)) (b2 ixD .(ab) .(d))) [oS .(b),oS (pD P),oS (eD E),oS .(v),oS (.str t.nm),oS .(v),oS (.str t.nm),ab]=aa (decide (stt P t.nm<stt P s.nm)):=
  aY (au (au (au rfl rfl (cu (T.gp ht))) rfl cw) (au (au rfl rfl (cu (T.gp hs))) rfl cw) rfl)
 unfold oQ;by_cases hz:stt P t.nm<stt P s.nm
 .rw[qR hz] at te;rw[qY hz];exact bM (n:=3) (ds:=[aG bs ss js us ls ks h,pD P,eD E,.str s.nm,.str t.nm]) [oS .(b),oS (pD P),oS (eD E),oS .(v),oS (.str t.nm),ab,ab,ab] rfl ((a9 (d:=.str s.nm) rfl).trans ((a9 (d:=.str t.nm) rfl).trans ((bX ((bN te).trans rfl)).trans (fin t s ht hs))))
 .rw[qM hz] at te;rw[qZ hz];exact bM (n:=3) (ds:=[aG bs ss js us ls ks h,pD P,eD E,.str s.nm,.str t.nm]) [oS .(b),oS (pD P),oS (eD E),oS .(v),oS (.str t.nm),ab,ab,ab] rfl ((a9 (d:=.str s.nm) rfl).trans ((a9 (d:=.str t.nm) rfl).trans ((bX ((bN te).trans rfl)).trans (fin s t hs ht))))
end
section
variable {bs:ac BenchT}
noncomputable def nN (us:ac SetT) (P:bo) (E:ac (aj×ag)) (p:StepT×StepT):aQ:=decide (bnt P p.1.nm=bnt P p.2.nm) && oQ us P E p.1 p.2
noncomputable def bnV (us:ac SetT) (P:bo) (E:ac (aj×ag)) (p:StepT×StepT):ar D:=if nN us P E p=ah then aa (.tup [.str "bench",.str p.1.nm,.str p.2.nm]) else ab
theorem Mr (g:Good bs ss js us ls ks h) (T:Tld ss P E):wl [aG bs ss js us ls ks h,pD P,eD E]=aa (((prS ss).findSome? (bnV us P E)).getD .non):=by
 refine jF (n:=2) (ds:=[aG bs ss js us ls ks h,pD P,eD E]) (ρ:=[oS .(b),oS (pD P),oS (eD E),ab,ab]) (d:=dP) (v:=bnV us P E) (prS ss)
  (fun ρ=>∃x y,ρ=[oS .(b),oS (pD P),oS (eD E),x,y]) rfl (dh (aU (ay (gV .(r) rfl aL (uy g.sl.2)) aL) (CK ss g.sl.2))) ?_ ⟨_,_,rfl⟩ (fun ρ _=>rfl)
 rintro p hp ρ ⟨x,y,rfl⟩;obtain⟨h1,h2⟩:=mE hp;refine⟨_,_,rfl,?_,oS (.str p.1.nm),oS (.str p.2.nm),rfl⟩;have t1:toB (b2 eqA (b2 ixD .(ab) .(e)) (b2 ixD (b2 aO (vSh 1) (vSh 4)) .(e))) [oS .(b),oS (pD P),oS (eD E),oS (.str p.1.nm),oS (.str p.2.nm)]=aa (decide (bnt P p.1.nm=bnt P p.2.nm)):=
  aY (au (au (au rfl rfl (cu (T.gp h1))) rfl cI) (au (au rfl rfl (cu (T.gp h2))) rfl cI) (wP _ _))
 have t2:toB (cF uD (ae (vSh 0) (ae (vSh 1) (ae (vSh 2) (ae (vSh 3) (ae (vSh 4) ak)))))) [oS .(b),oS (pD P),oS (eD E),oS (.str p.1.nm),oS (.str p.2.nm)]=aa (oQ us P E p.1 p.2):=
  aY (aU (ay rfl (ay rfl (ay rfl .(k)))) (Pq g T h1 h2))
 unfold bnV nN;cases e:decide (bnt P p.1.nm=bnt P p.2.nm) with
 |false=>
  rw[e] at t1;exact(bN (kc t1)).trans rfl
 |true=>
  rw[e] at t1;refine(bN (ix t1 t2)).trans ?_;cases oQ us P E p.1 p.2<;>rfl
noncomputable def oH (P:bo) (E:ac (aj×ag)) (x y:aj):aQ:=decide (stt P x<ent E y) && decide (stt P y<ent E x)
theorem KS (T:Tld ss P E) {y:aj} (hx:x∈ss.map (·.nm)) (hy:y∈ss.map (·.nm)):rO [pD P,eD E,.str x,.str y]=aa (.bl (oH P E x y)):=
 bM (n:=0) (ds:=[pD P,eD E,.str x,.str y]) [oS (pD P),oS (eD E),oS (.str x),oS (.str y)] rfl (bU (xD (au (au (au rfl rfl (cu (T.gpN hx))) rfl cw) (au rfl rfl (fY (T.geN hy))) rfl) (au (au (au rfl rfl (cu (T.gpN hy))) rfl cw) (au rfl rfl (fY (T.geN hx))) rfl)))
end
section
variable {bs:ac BenchT}
noncomputable def mkS (x:aj):StepT:=⟨x,x,[]⟩
noncomputable def apB (P:bo) (E:ac (aj×ag)) (od:aQ) (p:StepT×StepT):aQ:=decide (stt P p.2.nm<ent E p.1.nm) && (od || decide (stt P p.1.nm<ent E p.2.nm))
noncomputable def apT (p:StepT×StepT):D:=.tup [.str "apart",.str p.1.nm,.str p.2.nm]
noncomputable def apV (P:bo) (E:ac (aj×ag)) (od:aQ) (p:StepT×StepT):ar D:=if apB P E od p=ah then aa (apT p) else ab
noncomputable def apJ (P:bo) (E:ac (aj×ag)) (j:JobT):ar D:=(prS (j.ms.map mkS)).findSome? (apV P E j.od)
theorem Hm (l:ac aj):(l.map mkS).map (·.nm)=l:=by rw[qp];exact F6 _
theorem lI {A:FT} {a:aQ} (hA:A ρ=aa a):bD A ρ=aa (!a):=by unfold bD;rw[hA];rfl
theorem Kh (g:Good bs ss js us ls ks h) (T:Tld ss P E):yi [aG bs ss js us ls ks h,pD P,eD E]=aa ((js.findSome? (apJ P E)).getD .non):=by
 have hl40:(ss.map (·.nm)).length<=40:=by rw[qg];exact g.sl.2
 refine jF (n:=5) (ds:=[aG bs ss js us ls ks h,pD P,eD E]) (ρ:=[oS .(b),oS (pD P),oS (eD E),ab,ab,ab,ab,ab]) (d:=bA) (v:=apJ P E) js
  (fun ρ=>∃a b c d e,ρ=[oS .(b),oS (pD P),oS (eD E),a,b,c,d,e]) rfl (dh (gV .(r) rfl aL (Ou g (h9 (n:=7) (by have:=g.jl;omega) fun x hx=>wB hl40 (g.j x hx))))) ?_ ⟨_,_,_,_,_,rfl⟩ (fun ρ _=>rfl)
 rintro j hj ρ ⟨a,b,c,d,e,rfl⟩;have gj:=g.j j hj;have ep:=CK (j.ms.map mkS) (by rw[qg];have:=gj.ln;omega);rw[Hm] at ep;obtain⟨ρ2,e2,a',b',c',d',e'⟩:=oz (gg:=b6 2 .(av)) (body:=ax (aJ 6 (b2 geD (b2 ixD (b2 aO (vSh 1) (vSh 5)) .(d)) (b2 aO (vSh 2) (vSh 4)))) .(ar)) (d:=dP) (v:=apV P E j.od)
  (fun ρ=>∃b c d e,ρ=[oS .(b),oS (pD P),oS (eD E),oS (bA j),b,c,d,e]) (prS (j.ms.map mkS)) [oS .(b),oS (pD P),oS (eD E),oS (bA j),b,c,d,e] (fun p hp ρ=>by
   rintro⟨b,c,d,e,rfl⟩;obtain⟨h1,h2⟩:=mE hp;obtain⟨x,hx,e1⟩:=bC.mp h1;obtain⟨y,hy,e2⟩:=bC.mp h2;have m1:p.1.nm∈ss.map (·.nm):=by rw[←e1];exact gj.ms x hx
   have m2:p.2.nm∈ss.map (·.nm):=by rw[←e2];exact gj.ms y hy
   refine⟨_,[oS .(b),oS (pD P),oS (eD E),oS (bA j),oS (.str p.1.nm),oS (.str p.2.nm),oS (.bl (decide (ent E p.1.nm<=stt P p.2.nm))),oS (.bl (decide (ent E p.2.nm<=stt P p.1.nm)))],rfl,?_,_,_,_,_,rfl⟩;refine(a9 (d:=.bl (decide (ent E p.1.nm<=stt P p.2.nm))) (au (au (au rfl rfl (cu (T.gpN m2))) rfl cw) (au rfl rfl (fY (T.geN m1))) rfl)).trans ((a9 (d:=.bl (decide (ent E p.2.nm<=stt P p.1.nm))) (au (au (au rfl rfl (cu (T.gpN m1))) rfl cw) (au rfl rfl (fY (T.geN m2))) rfl)).trans ?_);have n1:(!decide (ent E p.1.nm<=stt P p.2.nm))=decide (stt P p.2.nm<ent E p.1.nm):=by rw[←vV];exact z8.mpr SJ
   have n2:(!decide (ent E p.2.nm<=stt P p.1.nm))=decide (stt P p.1.nm<ent E p.2.nm):=by rw[←vV];exact z8.mpr SJ
   have t1:=lI (aY (f:=vSh 6) (ρ:=[oS .(b),oS (pD P),oS (eD E),oS (bA j),oS (.str p.1.nm),oS (.str p.2.nm),oS (.bl (decide (ent E p.1.nm<=stt P p.2.nm))),oS (.bl (decide (ent E p.2.nm<=stt P p.1.nm)))]) rfl);have t2:=rH (aY (f:=b2 ixD (vSh 3) .(i)) (ρ:=[oS .(b),oS (pD P),oS (eD E),oS (bA j),oS (.str p.1.nm),oS (.str p.2.nm),oS (.bl (decide (ent E p.1.nm<=stt P p.2.nm))),oS (.bl (decide (ent E p.2.nm<=stt P p.1.nm)))]) (au rfl rfl km)) (lI (aY (f:=vSh 7) rfl));rw[n1] at t1;rw[n2] at t2;unfold apV apB;cases e3:decide (stt P p.2.nm<ent E p.1.nm) with
   |false=>
    rw[e3] at t1;exact(bN (kc t1)).trans rfl
   |true=>
    rw[e3] at t1;refine(bN (ix t1 t2)).trans ?_;cases j.od || decide (stt P p.1.nm<ent E p.2.nm)<;>rfl) ⟨_,_,_,_,rfl⟩
 exact⟨_,ρ2,rfl,(dH (dh (aU (ay (au rfl rfl gN) aL) ep))).trans e2,oS (bA j),a',b',c',d',e'⟩
end
theorem Qa {t u:ac aj} (hx:∀x∈t,ba x=ah) (hn:∀x∈u,ba x=ah):eqA (.tup (t.map D.str)) (.tup (u.map D.str))=aa (.bl (decide (t=u))):=by
 have s1:eA (.tuple (t.map fH))=ah:=by simp[eA,kY,mN hx,mf,pU]
 have s2:eA (.tuple (u.map fH))=ah:=by simp[eA,kY,mN hn,mf,pU]
 have e:mU (.tup (t.map D.str)) (.tup (u.map D.str))=aa (.bl (decide (t=u))):=by unfold mU eqX;rw[ud,ud,qc,qc,qY ⟨s1,s2⟩];show aa (D.bl (lc _ _))=_;rw[uW]
 exact e
section
variable {bs:ac BenchT}
theorem CD (a b c:aj):∀us:ac SetT,((us.findSome? fun u=>if [u.b,u.p,u.q]=[a,b,c] then aa (D.int u.n) else ab).getD (.int 0))=.int (suN us a b c)
 |[]=>rfl
 |u::us=>by
  have ih:=CD a b c us;rw[sO];unfold suN at ih ⊢;rw[eY];by_cases e:[u.b,u.p,u.q]=[a,b,c]
  .rw[qY e,qR (by injection e with e1 e2;injection e2 with e2 e3;injection e3 with e3 _;rw[e1,e2,e3])];rfl
  .rw[qZ e,qM (fun z=>e (by injection z with e1 e2;injection e2 with e2 e3;injection e3 with e3 _;rw[gF e1,gF e2,gF e3]))]
   exact ih
end
section
variable {bs:ac BenchT}
theorem P5 (g:Good bs ss js us ls ks h):eZ [.lst (ss.map fun s=>.tup [.str s.nm,.str s.kd])]=aa (.dk (tb D.str (ss.map fun s=>(s.nm,s.kd)))):=by
 have kn:((ss.map fun s=>((.inr s.nm:Key),D.str s.kd)).map (·.1)).Nodup:=by rw[qp];have:=nK (S:=fun a b:Key=>a≠b) (cG:aj->Key) (fun a b hab z=>hab (gF z)) g.sn;rw[qp] at this;exact this
 show(if _ then _ else _)=_;rw[qY (by rw[qg];have:=g.sl;omega),nR,qf,n5 kn];unfold tb;rw[qp];rfl
theorem LN (g:Good bs ss js us ls ks h) {s:StepT} (hs:s∈ss):lk (ss.map fun s=>(s.nm,s.kd)) s.nm=aa s.kd:=gI (by rw[qp];exact g.sn) (bC.mpr ⟨s,hs,rfl⟩)
theorem Qi (g:Good bs ss js us ls ks h) {s t:StepT} (hs:s∈ss) (ht:t∈ss) {b:aj} (hb:ba b=ah):t7 [aF bs ss js us ls ks h,.str b,.str s.nm,.str t.nm]=aa (.int (suN us b s.kd t.kd)):=by
 have ek:cF eZ (ae (aI (aZ (itF .(ah)) (aA 0) tT (bc (szF (ae .(q) (ae .(ah) ak)))) [ab])) ak) [oS .(a),oS (.str b),oS .(v),oS (.str t.nm),ab,ab]=aa (.dk (tb D.str (ss.map fun s=>(s.nm,s.kd)))):=by refine aU (ay ?_ aL) (P5 g);unfold aI aZ;rw[Cv (bs:=bs) (ss:=ss) (js:=js) (us:=us) (ls:=ls) (ks:=ks) (h:=h) (i:=0) rfl,qc,qY (by rw[qg];exact szN g.sl.2 .(h))];refine cJ (sx D.lst) (mj (d:=bJ) (r:=fun s:StepT=>D.tup [.str s.nm,.str s.kd]) (fun ρ=>∃x,ρ=[x]) ss _ ?_ ⟨ab,rfl⟩);rintro s - ρ ⟨x,rfl⟩;exact⟨[oS (bJ s)],rfl,rfl,ff (au rfl rfl cI) (au rfl rfl cw),_,rfl⟩
 have hd:∀{s:StepT},s∈ss->aO (.dk (tb D.str (ss.map fun s=>(s.nm,s.kd)))) .(v)=aa (.str s.kd):=fun {s} hs=>by show(aa (cr (tb D.str _) (.inr s.nm))).bind id=_;rw[fN,LN g hs];rfl
 refine Exists.elim (uo (fi:=itF (b2 ixD (vSh 0) .(i))) (gg:=aA 5) (body:=sIf (toB (b2 eqA (slF (vSh 5) pN (pS .(i))) (bc (szF (ae (vSh 1) (ae (b2 aO (vSh 4) (vSh 2)) (ae (b2 aO (vSh 4) (vSh 3)) ak))))))) (aE (b2 ixD (vSh 5) .(i))) aK) (ρ:=[oS .(a),oS (.str b),oS .(v),oS (.str t.nm),aa (.sh (.dk (tb D.str (ss.map fun s=>(s.nm,s.kd))))),ab]) (d:=cU) (v:=fun u:SetT=>if [u.b,u.p,u.q]=[b,s.kd,t.kd] then aa (D.int u.n) else ab) (e:=vC (.int 0)) (z:=.int 0) us
  (fun ρ=>∃x,ρ=[oS .(a),oS (.str b),oS .(v),oS (.str t.nm),aa (.sh (.dk (tb D.str (ss.map fun s=>(s.nm,s.kd))))),x]) (dh (au rfl rfl (ixL _ 3))) ?_ ⟨_,rfl⟩ (fun ρ _=>rfl)) ?_
 rotate_left
 .intro ρ' e;rw[CD] at e;exact bM (n:=2) (ds:=[aF bs ss js us ls ks h,.str b,.str s.nm,.str t.nm]) [oS .(a),oS (.str b),oS .(v),oS (.str t.nm),ab,ab] rfl ((a9 ek).trans e)
 .rintro u hu ρ ⟨x,rfl⟩;have gu:=g.u u hu;obtain⟨bb,hbb,eb⟩:=bC.mp gu.b;refine⟨_,[oS .(a),oS (.str b),oS .(v),oS (.str t.nm),aa (.sh (.dk (tb D.str (ss.map fun s=>(s.nm,s.kd))))),oS (cU u)],rfl,?_,_,rfl⟩;refine(bN (aY (au (x:=.tup ([u.b,u.p,u.q].map D.str)) (y:=.tup ([b,s.kd,t.kd].map D.str)) rfl (pO rfl (au rfl rfl (hd hs)) (au rfl rfl (hd ht))) (Qa ?_ ?_)))).trans ?_
  .intro x hx;simp only[qK,qI,or_false] at hx;rcases hx with rfl|rfl|rfl
   .rw[←eb];exact(g.b bb hbb).nm
   .exact gu.p
   .exact gu.q
  .intro x hx;simp only[qK,qI,or_false] at hx;rcases hx with rfl|rfl|rfl
   .exact hb
   .exact(g.s s hs).kd
   .exact(g.s t ht).kd
  .by_cases e:[u.b,u.p,u.q]=[b,s.kd,t.kd]
   .rw[qR e,qY rfl,qY e];exact bU (au rfl rfl km)
   .rw[qM e,qZ qt,qZ e];rfl
end
section
variable {bs:ac BenchT}
theorem BP (a b:aj):neA (.str a) (.str b)=aa (.bl (!decide (a=b))):=rfl
theorem Kn (a b:ag):eqA (.int a) (.int b)=aa (.bl (decide (a=b))):=rfl
theorem PJ {A B:FE} {a b:aQ} (hA:A ρ=aa (.bl a)) (hB:B ρ=aa (.bl b)):orD A B ρ=aa (.bl (a || b)):=by
 unfold orD;rw[hA,qc];cases a
 .exact hB
 .rfl
theorem P2 (hu:∀u∈us,0<=u.n) (a b c:aj):0<=suN us a b c:=by
 unfold suN;split
 .rename_i u e;exact hu u (zM e)
 .exact pH 0
noncomputable abbrev nrE (P:bo) (E:ac (aj×ag)) (L:D) (s t:StepT) (a b:aj):bi:=[oS (pD P),oS (eD E),oS L,oS .(v),oS (.str t.nm),oS (.str (bnt P s.nm)),oS (.int (stt P s.nm)),oS (.str a),oS (.str b),ab]
theorem My {sp:ac StepT} (g:Good bs ss js us ls ks h) (T:Tld sp P E) (sb:∀x∈sp,x∈ss) {s t a b:StepT} (ha:a∈sp) (hb:b∈sp) (hn:ba (bnt P s.nm)=ah) :
  ∃ρ',ax (aJ 9 (b2 aX (b2 aO (vSh 1) (vSh 7)) (cF t7 (ae (vSh 2) (ae (vSh 5) (ae (vSh 7) (ae (vSh 8) ak))))))) (aE (orD (b2 eqA (b2 ixD (b2 aO (vSh 0) (vSh 7)) .(d)) (b2 ixD (b2 aO (vSh 0) (vSh 8)) .(d))) (b2 ltD (b2 ixD (b2 aO (vSh 0) (vSh 8)) .(d)) (vSh 9)))) (nrE P E .(a) s t a.nm b.nm)=aa (.rt (.bl (decide (stt P a.nm=stt P b.nm) || mQ us P E s a b)),ρ'):=
 ⟨_,(a9 (d:=.int (ent E a.nm+suN us (bnt P s.nm) a.kd b.kd)) (au (au rfl rfl (fY (T.ge ha))) (aU (ay rfl (ay rfl .(k))) (Qi g (sb _ ha) (sb _ hb) hn)) rfl)).trans (bU (PJ (au (au (au rfl rfl (cu (T.gp ha))) rfl cw) (au (au rfl rfl (cu (T.gp hb))) rfl cw) (Kn _ _)) (au (au (au rfl rfl (cu (T.gp hb))) rfl cw) rfl rfl)))⟩
end
section
variable {bs:ac BenchT}
theorem Mf (hu:∀u∈us,0<=u.n) (hE:∀s∈ss,stt P s.nm<ent E s.nm) {o a b:StepT} (ha:a∈ss):(decide (stt P a.nm=stt P b.nm) || mQ us P E o a b)=mQ us P E o a b:=by
 cases e:decide (stt P a.nm=stt P b.nm) with
 |false=>rfl
 |true=>
  have e:=fC e;have h1:=hE a ha;have h2:=P2 hu (bnt P o.nm) a.kd b.kd;exact(qR (show stt P b.nm<ent E a.nm+suN us (bnt P o.nm) a.kd b.kd by omega)).symm
theorem HM {sp:ac StepT} (g:Good bs ss js us ls ks h) (T:Tld sp P E) (sb:∀x∈sp,x∈ss) (hu:∀u∈us,0<=u.n) (hE:∀s∈sp,stt P s.nm<ent E s.nm) {s t:StepT} (hs:s∈sp) (ht:t∈sp) (hn:ba (bnt P s.nm)=ah):p7 [pD P,eD E,aF bs ss js us ls ks h,.str s.nm,.str t.nm]=aa (.bl (nN us P E (s,t))):=by
 have ea:eJ (b6 2 .(au)) (b2 aO (vSh 0) (vSh 3)) [oS (pD P),oS (eD E),oS .(a),oS .(v),oS (.str t.nm),ab,ab,ab,ab,ab]=aa (.nx,[oS (pD P),oS (eD E),oS .(a),oS .(v),oS (.str t.nm),oS (.str (bnt P s.nm)),oS (.int (stt P s.nm)),ab,ab,ab]):=by unfold eJ;rw[au (z:=pT (bnt P s.nm,stt P s.nm)) rfl rfl (cu (T.gp hs))];rfl
 have t1:toB (b2 neA (vSh 5) (b2 ixD (b2 aO (vSh 0) (vSh 4)) .(e))) [oS (pD P),oS (eD E),oS .(a),oS .(v),oS (.str t.nm),oS (.str (bnt P s.nm)),oS (.int (stt P s.nm)),ab,ab,ab]=aa (!decide (bnt P s.nm=bnt P t.nm)):=
  aY (au rfl (au (au rfl rfl (cu (T.gp ht))) rfl cI) (BP _ _))
 have t2:toB (b2 ltD (b2 ixD (b2 aO (vSh 0) (vSh 4)) .(d)) (vSh 6)) (nrE P E .(a) s t s.nm t.nm)=aa (decide (stt P t.nm<stt P s.nm)):=
  aY (au (au (au rfl rfl (cu (T.gp ht))) rfl cw) rfl rfl)
 unfold nN;dsimp only;cases e:decide (bnt P s.nm=bnt P t.nm) with
 |false=>
  rw[e] at t1;refine bM (n:=5) (ρ':=[oS (pD P),oS (eD E),oS .(a),oS .(v),oS (.str t.nm),oS (.str (bnt P s.nm)),oS (.int (stt P s.nm)),ab,ab,ab]) (ds:=[pD P,eD E,aF bs ss js us ls ks h,.str s.nm,.str t.nm]) [oS (pD P),oS (eD E),oS .(a),oS .(v),oS (.str t.nm),ab,ab,ab,ab,ab] rfl ((bX ea).trans ?_);unfold ax;rw[show sIf (toB (b2 neA (vSh 5) (b2 ixD (b2 aO (vSh 0) (vSh 4)) .(e)))) .(o) aK [oS (pD P),oS (eD E),oS .(a),oS .(v),oS (.str t.nm),oS (.str (bnt P s.nm)),oS (.int (stt P s.nm)),ab,ab,ab]=aa (.rt (.bl ao),[oS (pD P),oS (eD E),oS .(a),oS .(v),oS (.str t.nm),oS (.str (bnt P s.nm)),oS (.int (stt P s.nm)),ab,ab,ab]) from(bN t1).trans rfl];rfl
 |true=>
  rw[e] at t1;have go:∀a b:StepT,a∈sp->b∈sp->sIf (toB (b2 ltD (b2 ixD (b2 aO (vSh 0) (vSh 4)) .(d)) (vSh 6))) (rT 7 8 (ae (vSh 4) .(aC))) aK (nrE P E .(a) s t s.nm t.nm)=aa (.nx,nrE P E .(a) s t a.nm b.nm)->p7 [pD P,eD E,aF bs ss js us ls ks h,.str s.nm,.str t.nm]=aa (.bl (mQ us P E s a b)):=fun a b ha hb e2=>by obtain⟨ρ',e3⟩:=My (us:=us) g T sb (s:=s) (t:=t) ha hb hn;rw[Mf hu hE ha] at e3;exact bM (n:=5) (ds:=[pD P,eD E,aF bs ss js us ls ks h,.str s.nm,.str t.nm]) [oS (pD P),oS (eD E),oS .(a),oS .(v),oS (.str t.nm),ab,ab,ab,ab,ab] rfl ((bX ea).trans ((bX ((bN t1).trans rfl)).trans ((bX (ρ1:=nrE P E .(a) s t s.nm t.nm) rfl).trans ((bX e2).trans e3))))
  rw[nI];unfold oQ;by_cases hz:stt P t.nm<stt P s.nm
  .rw[qR hz] at t2;rw[qY hz];exact go t s ht hs ((bN t2).trans rfl)
  .rw[qM hz] at t2;rw[qZ hz];exact go s t hs ht ((bN t2).trans rfl)
end
theorem kC {α:Type} {gg:FG} {ft:FT} {fe:FE} {d r:α->D} {p:α->aQ} (I:bi->Prop):∀(as:ac α) (ρ:bi),(∀a∈as,∀ρ,I ρ->∃ρ1,gg (d a) ρ=aa ρ1/\ft ρ1=aa (p a)/\(p a=ah->fe ρ1=aa (r a))/\I ρ1)->I ρ->gv gg ft fe (as.map d) ρ=aa ((as.filter p).map r)
 |[],_,_,_=>rfl
 |a::as,ρ,hs,h=>by
  obtain⟨ρ1,e1,e2,e3,h1⟩:=hs a (.head _) ρ h;have ih:=kC (gg:=gg) (ft:=ft) (fe:=fe) (r:=r) I as ρ1 (fun b hb=>hs b (.tail _ hb)) h1;rw[qo,vE];unfold gv;rw[e1,qc,e2,qc];cases hp:p a with
  |true=>rw[qY rfl,qY rfl,e3 hp,qc,ih];rfl
  |false=>rw[qZ qt,qZ qt];exact ih
theorem iy {ρ0:bi} {ys:ac D} (h1:fi ρ=aa xs) (h2:xs.length<=1000) (h3:fy fv ρ=ρ0) (h4:gv gg ft fe xs ρ0=aa ys):aZ fi gg ft fe fv ρ=aa ys:=by unfold aZ;rw[h1,qc,qY (szN h2 .(h)),h3,h4]
theorem u4 {α:Type} (f:α->ag):∀l:ac α,iN (l.map fun x=>D.int (f x))=aa (l.map f)
 |[]=>rfl
 |x::l=>by show(iN (l.map fun x=>D.int (f x))).map (f x::·)=_;rw[u4 f l];rfl
theorem Ai {f:α->ag} {l:ac α} (h:fr ρ=aa (l.map fun x=>D.int (f x))):cF pQ (ae (aI fr) ak) ρ=aa (.int (l.map f).sum):=by refine aU (ay (cJ (sx D.lst) h) aL) ?_;show(iN _).map _=_;rw[u4];rfl
section
variable {bs:ac BenchT}
noncomputable def amt (f:aj->ag) (m:ag) (l:ac (aj×ag)):ag:=((l.filter fun w=>decide (f w.1<=m)).map (·.2)).sum
noncomputable def lvl (P:bo) (E:ac (aj×ag)) (k:StockT) (m:ag):ag:=k.lo-amt (stt P) m k.tk+amt (ent E) m k.pt
theorem LQ (T:Tld ss P E) {k:StockT} (gk:GoodK (ss.map (·.nm)) k) (hl:ss.length<=40) (m:ag):uZ [cZ k,pD P,eD E,.int m]=aa (.int (lvl P E k m)):=by
 have l1:=gk.tk.ln;have l2:=gk.pt.ln;rw[qg] at l1 l2;refine bM (n:=2) (ds:=[cZ k,pD P,eD E,.int m]) (ρ':=[oS (cZ k),oS (pD P),oS (eD E),oS (.int m),oS (.int (amt (stt P) m k.tk)),oS (.int (amt (ent E) m k.pt))]) [oS (cZ k),oS (pD P),oS (eD E),oS (.int m),ab,ab] rfl ((a9 (Ai (f:=fun w:aj×ag=>w.2) (l:=k.tk.filter fun w=>decide (stt P w.1<=m)) (iy (xs:=k.tk.map dW) (dh (au rfl rfl km)) (by rw[qg];omega) rfl (kC (d:=dW) (fun ρ=>∃a b,ρ=[a,b,oS (.int m),oS (pD P)]) k.tk _ (fun w hw ρ hI=>by obtain⟨a,b,rfl⟩:=hI;exact⟨_,rfl,aY (au (au (au rfl rfl (cu (T.gpN (gk.tk.ws w hw).1))) rfl cw) rfl rfl),fun _=>rfl,_,_,rfl⟩) ⟨_,_,rfl⟩)))).trans
  ((a9 (Ai (f:=fun w:aj×ag=>w.2) (l:=k.pt.filter fun w=>decide (ent E w.1<=m)) (iy (xs:=k.pt.map dW) (dh (au rfl rfl gN)) (by rw[qg];omega) rfl (kC (d:=dW) (fun ρ=>∃a b,ρ=[a,b,oS (.int m),oS (eD E)]) k.pt _ (fun w hw ρ hI=>by obtain⟨a,b,rfl⟩:=hI;exact⟨_,rfl,aY (au (au rfl rfl (fY (T.geN (gk.pt.ws w hw).1))) rfl rfl),fun _=>rfl,_,_,rfl⟩) ⟨_,_,rfl⟩)))).trans (bU (au (au (au rfl rfl cw) rfl rfl) rfl rfl))))
end
theorem xX {G:D->ar D} {x:D} (h:f ρ=aa x) (h2:G x=aa y):b1 G f ρ=aa y:=by unfold b1;rw[h];exact h2
theorem gc {f:FA} {l:ac D} (h:f ρ=aa l):aI f ρ=aa (.lst l):=by unfold aI;rw[h];rfl
theorem lz {α:Type} {p:α->aQ} {f:α->D}:∀l:ac α,(l.findSome? fun x=>if p x=ah then aa (f x) else ab)=(l.find? p).map f
 |[]=>rfl
 |x::l=>by
  rw[sO,eY];cases p x with
  |true=>rfl
  |false=>exact lz l
theorem Iy:∀{l:ac ag},l≠[]->∃y∈l,∀z∈l,z<=y
 |[],h=>bK rfl h
 |[a],_=>⟨a,.head _,fun z hz=>by rw[ce.mp hz];exact pH _⟩
 |a::b::l,_=>by
  obtain⟨y,hy,h⟩:=Iy (l:=b::l) (fun z=>by cases z);by_cases q:a<=y
  .exact⟨y,.tail _ hy,fun z hz=>(c0.mp hz).elim (fun e=>by rw[e];exact q) (h z)⟩
  .exact⟨a,.head _,fun z hz=>(c0.mp hz).elim (fun e=>by rw[e];exact pH _) fun m=>by have:=h z m;omega⟩
section
variable {bs:ac BenchT}
noncomputable def vc (P:bo) (E:ac (aj×ag)) (k:StockT) (m:ag):aQ:=!(decide (0<=lvl P E k m) && decide (lvl P E k m<=k.hi))
noncomputable def skT (k:StockT) (m:ag):D:=.tup [.str "stock",.str k.nm,.int m]
noncomputable def n6 (P:bo) (E:ac (aj×ag)) (k:StockT):ac ag:=k.tk.map (fun w=>stt P w.1)++k.pt.map fun w=>ent E w.1
noncomputable def skV (P:bo) (E:ac (aj×ag)) (k:StockT):ar D:=((mZ (ST.dd (n6 P E k))).find? (vc P E k)).map (skT k)
noncomputable abbrev bkE (S:D) (P:bo) (E:ac (aj×ag)) (a b c:ar Slot):bi:=[oS S,oS (pD P),oS (eD E),a,b,c]
theorem OT {a b c:ag} (h1:fa ρ=aa (.int a)) (h2:fb ρ=aa (.int b)) (h3:fc ρ=aa (.int c)):chD leD leD fa fb fc ρ=aa (.bl (decide (a<=b) && decide (b<=c))):=by
 unfold chD;rw[h1,qc,h2,qc,show leD (.int a) (.int b)=aa (.bl (decide (a<=b))) from rfl,qc];cases decide (a<=b) with
 |true=>dsimp only;rw[h3];rfl
 |false=>rfl
theorem Jx (g:Good bs ss js us ls ks h) (T:Tld ss P E) (hl:ss.length<=20):wE [aG bs ss js us ls ks h,pD P,eD E]=aa ((ks.findSome? (skV P E)).getD .non):=by
 have hl40:(ss.map (·.nm)).length<=40:=by rw[qg];omega
 refine jF (n:=3) (ds:=[aG bs ss js us ls ks h,pD P,eD E]) (ρ:=bkE .(b) P E ab ab ab) (d:=cZ) (v:=skV P E) ks
  (fun ρ=>∃a b c,ρ=bkE .(b) P E a b c) rfl (dh (gV .(r) rfl aL (Ks (h9 (n:=7) (by have:=g.kl;omega) fun x hx=>BS hl40 (g.k x hx))))) ?_ ⟨_,_,_,rfl⟩ (fun ρ _=>rfl)
 rintro k hk ρ ⟨a,b,c,rfl⟩;have gk:=g.k k hk;have l1:=gk.tk.ln;have l2:=gk.pt.ln;rw[qg] at l1 l2;obtain⟨ρ2,e2,c',rfl⟩:=oz (gg:=aA 5) (body:=sIf (bD (toB (chD leD leD .(e) (cF uZ (ae (vSh 3) (ae (vSh 1) (ae (vSh 2) (ae (vSh 5) ak))))) (b2 ixD (vSh 3) .(j))))) (aE (bc (szF (ae (vC (.str "stock")) (ae (b2 ixD (vSh 3) .(e)) (ae (vSh 5) ak)))))) aK) (d:=D.int) (v:=fun m=>if vc P E k m=ah then aa (skT k m) else ab)
  (fun ρ=>∃c,ρ=bkE .(b) P E (oS (cZ k)) (oS (.lst ((n6 P E k).map D.int))) c) (mZ (ST.dd (n6 P E k))) (bkE .(b) P E (oS (cZ k)) (oS (.lst ((n6 P E k).map D.int))) c) (fun m _ ρ=>by
   rintro⟨c,rfl⟩;refine⟨_,_,rfl,(bN (b:=vc P E k m) (lI (aY (OT rfl (aU (ay rfl (ay rfl .(k))) (LQ T gk .(f) m)) (au rfl rfl i8))))).trans ?_,oS (.int m),rfl⟩;cases vc P E k m with
   |false=>rfl
   |true=>exact bU (pO rfl (au rfl rfl cI) rfl)) ⟨_,rfl⟩
 rw[lz] at e2;refine⟨_,_,rfl,?_,oS (cZ k),oS (.lst ((n6 P E k).map D.int)),c',rfl⟩;refine(xz (ds:=(k.tk.map fun w=>stt P w.1).map D.int) ?_).trans ((bX (AH (g:=D.int) (ys:=k.pt.map fun w=>ent E w.1) rfl ?_ (by rw[qg,qg];omega))).trans ((i9 rfl).trans ((dH (dh (xX rfl ?_))).trans e2)))
 .rw[qp];exact iy (xs:=k.tk.map dW) (dh (au rfl rfl km)) (by rw[qg];omega) rfl (mj (d:=dW) (fun ρ=>∃a,ρ=[a,oS (pD P)]) k.tk _ (fun w hw ρ hI=>by obtain⟨a,rfl⟩:=hI;exact⟨_,rfl,rfl,au (au rfl (au rfl rfl cI) (cu (T.gpN (gk.tk.ws w hw).1))) rfl cw,_,rfl⟩) ⟨_,rfl⟩)
 .rw[qp (l:=k.pt)];refine gc ?_;exact iy (xs:=k.pt.map dW) (dh (au rfl rfl gN)) (by rw[qg];omega) rfl (mj (d:=dW) (fun ρ=>∃a,ρ=[a,oS (eD E)]) k.pt _ (fun w hw ρ hI=>by obtain⟨a,rfl⟩:=hI;exact⟨[oS (dW w),oS (eD E)],rfl,rfl,au (x:=eD E) (y:=.str w.1) rfl (au (x:=dW w) rfl rfl cI) (fY (T.geN (gk.pt.ws w hw).1)),_,rfl⟩) ⟨_,rfl⟩)
 .show(if _ then _ else _)=_;rw[qY (by unfold n6;rw[qg,qk,qg,qg];omega),show D.int=fun x=>D.int (id x) from rfl,u4,F6];rfl
end
theorem IA {a b:ac D} (h:a.length+b.length<=1000):aX (.lst a) (.lst b)=aa (.lst (a++b)):=qY (szN h .(h))
theorem wK (bt:al->al->aQ):∀k,fW bt k<=k
 |0=>qw _
 |k+1=>by have:=wK bt k;show(if bt (k+1) (fW bt k)=ah then k+1 else fW bt k)<=k+1;split<;>omega
theorem AC (ss:ac aj):∀k j,j<=k->leS (ss.getD (fW (btS ss) k) gi) (ss.getD j gi)=ah
 |0,j,h=>by
  have e:j=0:=by omega
  subst e;exact iM.mpr (SK _)
 |k+1,j,h=>by
  have ih:=AC ss k;show leS (ss.getD (if btS ss (k+1) (fW (btS ss) k)=ah then k+1 else fW (btS ss) k) gi) (ss.getD j gi)=ah;split
  .rename_i hb;have hb:(ss.getD (k+1) gi).cps.toList<(ss.getD (fW (btS ss) k) gi).cps.toList:=fC hb;rcases ik k j with q|q
   .have e:j=k+1:=by omega
    subst e;exact iM.mpr (SK _)
   .exact CN _ _ _ (iM.mpr (List.le_of_lt hb)) (ih j q)
  .rename_i hb;rcases ik k j with q|q
   .have e:j=k+1:=by omega
    subst e;have hb:¬(ss.getD (k+1) gi).cps.toList<(ss.getD (fW (btS ss) k) gi).cps.toList:=fun z=>hb (qR z);exact iM.mpr (Sa.mp hb)
   .exact ih j q
theorem Lk {ss:ac aj} (h:ss≠[]):(oC ss).head?=aa (mnS ss):=by
 have hl:0<ss.length:=sN.mpr h;have pm:=z6 ss leS;have m1:mnS ss∈ss:=by
  have hlt:fW (btS ss) (ss.length-1)<ss.length:=by have:=wK (btS ss) (ss.length-1);omega
  unfold mnS;rw[kX,qC hlt];exact pp hlt
 have m2:∀x∈ss,leS (mnS ss) x=ah:=fun x hx=>by obtain⟨j,hj,e⟩:=SL hx;have:=AC ss (ss.length-1) j .(f);rw[kX (i:=j),qC hj] at this;rw[←e];exact this
 have pw:=Su (le:=leS) CN Jz ss;unfold oC;cases e:ss.mergeSort leS with
 |nil=>
  rw[e] at pm;exact bK pm.symm.eq_nil h
 |cons a l=>
  rw[e] at pm pw;have ma:a∈ss:=pm.mem_iff.mp (.head _);rcases c0.mp (pm.mem_iff.mpr m1) with q|q
  .rw[q];rfl
  .exact cJ aa (Iq ((RH.mp pw).1 _ q) (m2 a ma))
theorem sW (hx:ba x=ah) (hn:∀y∈ns,ba y=ah):dX (.str x) (.lst (ns.map D.str))=aa (.bl (!decide (x∈ns))):=by have e:=mR hx hn;unfold fz at e;obtain⟨b,hb,e⟩:=oMd e;unfold dX;rw[hb,qf,D.bl.inj e]
theorem yC {A B:FS} (h:A ρ=aa (.rt d,ρ')):ax A B ρ=aa (.rt d,ρ'):=by unfold ax;rw[h];rfl
theorem wJ:∀ns:ac aj,jS (ns.map D.str)=aa ns
 |[]=>rfl
 |x::r=>by show(jS (r.map D.str)).map (x::·)=_;rw[wJ r];rfl
structure PlanOk (P:bo):Prop where
 nd:(P.map (·.1)).Nodup
 ln:P.length<=20
 kn:∀q∈P,ba q.1=ah
 bn:∀q∈P,ba q.2.1=ah
section
variable {bs:ac BenchT}
noncomputable def h8 (ss:ac StepT) (P:bo):ac aj:=(P.filter fun q=>!decide (q.1∈ss.map (·.nm))).map (·.1)
noncomputable def kf (ss:ac StepT) (P:bo):ac aj:=(ss.filter fun s=>!(lk P s.nm).isSome).map (·.nm)
noncomputable def stT (x:aj):D:=.tup [.str "step",.str x]
noncomputable def hW (ss:ac StepT) (P:bo):ar D:=((kf ss P).head?.or (oC (h8 ss P)).head?).map stT
theorem pJ:wm (pD P)=aa (P.map fun q=>D.str q.1):=by show aa ((tb pT P).map fun kv=>yq kv.1)=_;unfold tb;rw[qp];rfl
theorem M7 (g:Good bs ss js us ls ks h) (p:PlanOk P) (h1:vSh i ρ=aa (pD P)) (h3:fy fv ρ=[ab,oS (.lst ((ss.map (·.nm)).map D.str))]):aI (aZ (itK (vSh i)) (aA 0) (toB (b2 dX (vSh 0) (vSh 1))) (vSh 0) fv) ρ=aa (.lst ((h8 ss P).map D.str)):=by
 refine gc ((iy (xs:=P.map fun q=>D.str q.1) (by unfold itK;rw[h1];exact pJ) (by rw[qg];have:=p.ln;omega) h3 (kC (d:=fun q:aj×aj×ag=>D.str q.1) (r:=fun q=>D.str q.1) (p:=fun q=>!decide (q.1∈ss.map (·.nm))) (fun ρ=>∃a,ρ=[a,oS (.lst ((ss.map (·.nm)).map D.str))]) P _ (fun q hq ρ hI=>by obtain⟨a,rfl⟩:=hI;exact⟨_,rfl,aY (au rfl rfl (sW (p.kn q hq) g.snn)),fun _=>rfl,_,rfl⟩) ⟨_,rfl⟩)).trans ?_)
 unfold h8;rw[qp];rfl
theorem HV (ss:ac StepT) (P:bo):(ss.findSome? fun s=>if (!(lk P s.nm).isSome)=ah then aa (stT s.nm) else ab)=(kf ss P).head?.map stT:=by unfold kf;rw[lz,F7,F8,Option.map_map];rfl
noncomputable abbrev bpE (S:D) (P:bo) (ss:ac StepT) (a b:ar Slot):bi:=[oS S,oS (pD P),oS (.lst ((ss.map (·.nm)).map D.str)),a,b]
theorem Ew (g:Good bs ss js us ls ks h) (p:PlanOk P):wX [aG bs ss js us ls ks h,pD P]=aa ((hW ss P).getD .non):=by
 obtain⟨ρ',e1,a,rfl⟩:=oz (gg:=aA 3) (body:=sIf (toB (b2 mB (vSh 3) (vSh 1))) (aE (bc (szF (ae (vC (.str "step")) .(aC))))) aK) (d:=fun s:StepT=>D.str s.nm) (v:=fun s=>if (!(lk P s.nm).isSome)=ah then aa (stT s.nm) else ab)
  (fun ρ=>∃a,ρ=bpE .(b) P ss a ab) ss (bpE .(b) P ss ab ab) (fun s hs ρ=>by rintro⟨a,rfl⟩;refine⟨_,_,rfl,(bN (aY (au rfl rfl Mt))).trans ?_,oS .(v),rfl⟩;cases(lk P s.nm).isSome<;>rfl) ⟨_,rfl⟩
 rw[HV] at e1;have e0:itF (vSh 2) (bpE .(b) P ss ab ab)=aa (ss.map fun s=>D.str s.nm):=dh (by rw[show(ss.map fun s=>D.str s.nm)=(ss.map (·.nm)).map D.str from(qp ..).symm];rfl);refine xB (n:=3) (ρ':=bpE .(b) P ss a (if (kf ss P).head?=ab then oS (.lst ((h8 ss P).map D.str)) else ab)) ((a9 (gV .(r) rfl aL (uy g.sl.2))).trans ?_);unfold hW;cases em:(kf ss P).head? with
 |some x=>
  rw[em] at e1;exact yC ((dH e0).trans e1)
 |none=>
  rw[em] at e1;refine(bX ((dH e0).trans e1)).trans ((a9 (M7 g p rfl rfl)).trans ?_);have el:toB (b2 gtD (cF b9 (ae (vSh 4) ak)) .(e)) (bpE .(b) P ss a (oS (.lst ((h8 ss P).map D.str))))=aa (decide ((0:ag)<((h8 ss P).length:al))):=aY (au (aU (ay rfl aL) rfl) rfl (by rw[qg];rfl));rw[qY rfl];by_cases hn:h8 ss P=[]
  .rw[hn] at el ⊢;rw[show oC []=[] from SM];exact(fD el).trans rfl
  .have hl:0<(h8 ss P).length:=sN.mpr hn;rw[qR (show(0:ag)<((h8 ss P).length:al) by omega)] at el;rw[Lk hn];refine m4 el (bU (ff rfl (aU (ay rfl aL) ?_)));show(jS _).bind _=_;rw[wJ];exact qZ hn
end
section
variable {bs:ac BenchT}
structure Fine (bs:ac BenchT) (ss:ac StepT) (P:bo) (E:ac (aj×ag)):Prop where
 t:Tld ss P E
 e:bq ss P=E
 o:OnB ss P
 p:∀s∈ss,stt P s.nm<ent E s.nm
 b:∀s∈ss,∃b∈bs,b.nm=bnt P s.nm
noncomputable def CT (s:StepT):D:=.tup [.str "job",.str s.nm]
noncomputable def Da (s:StepT):D:=.tup [.str "break",.str s.nm]
noncomputable def D9 (js:ac JobT) (P:bo) (E:ac (aj×ag)) (s:StepT):aQ:=iz js s.nm (stt P s.nm) (ent E s.nm)
noncomputable def C5 (bs:ac BenchT) (P:bo) (E:ac (aj×ag)) (s:StepT):aQ:=jN (brs bs (bnt P s.nm)) (stt P s.nm) (ent E s.nm)
noncomputable def w2 (bs:ac BenchT) (ss:ac StepT) (js:ac JobT) (P:bo) (E:ac (aj×ag)):ac D:=(ss.filter (D9 js P E)).map CT++(ss.filter (C5 bs P E)).map Da
noncomputable def w3 (bs:ac BenchT) (ss:ac StepT) (js:ac JobT) (us:ac SetT) (P:bo) (E:ac (aj×ag)):ac D:=w2 bs ss js P E++((prS ss).findSome? (bnV us P E)).toList
noncomputable def wsh (bs:ac BenchT) (ss:ac StepT) (js:ac JobT) (us:ac SetT) (ls:ac LinkT) (ks:ac StockT) (P:bo) (E:ac (aj×ag)):ac D:=w3 bs ss js us P E++js.filterMap (apJ P E)++(ls.findSome? (lkV P E)).toList++(ks.findSome? (skV P E)).toList
theorem yk (o:ar D):o.toList.head?=o:=by cases o<;>rfl
theorem DF:(wsh bs ss js us ls ks P E).head?=(((((ss.findSome? (kD js P E)).or (ss.findSome? (mJ bs P E))).or ((prS ss).findSome? (bnV us P E))).or (js.findSome? (apJ P E))).or (ls.findSome? (lkV P E))).or (ks.findSome? (skV P E)):=by
 have e1:((ss.filter (D9 js P E)).map CT).head?=ss.findSome? (kD js P E):=by rw[F7,F8,←lz];rfl
 have e2:((ss.filter (C5 bs P E)).map Da).head?=ss.findSome? (mJ bs P E):=by rw[F7,F8,←lz];rfl
 unfold wsh w3 w2;rw[sP,sP,sP,sP,sP,yk,yk,yk,List.head?_filterMap,e1,e2]
end
noncomputable def GT (d:D):Prop:=(∃t:ac aj,(∀x∈t,ba x=ah)/\d=.tup (t.map D.str))\/∃(a:aj) (m:ag),ba a=ah/\d=.tup [.str "stock",.str a,.int m]
noncomputable def GO (o:ar D):Prop:=∀d,o=aa d->GT d
theorem GO.first {v:α->ar D} {l:ac α} (h:∀x∈l,GO (v x)):GO (l.findSome? v):=fun d e=>by obtain⟨x,hx,e⟩:=List.exists_of_findSome?_eq_some e;exact h x hx d e
theorem GO.ite {p:Prop} [Decidable p] (h:GT d):GO (if p then aa d else ab):=fun x e=>by
 split at e
 .cases e;exact h
 .cases e
theorem gt2 {a b:aj} (h1:ba a=ah) (h2:ba b=ah):GT (.tup [.str a,.str b]):=.inl ⟨[a,b],by simp[h1,h2],rfl⟩
theorem gt3 {a b c:aj} (h1:ba a=ah) (h2:ba b=ah) (h3:ba c=ah):GT (.tup [.str a,.str b,.str c]):=.inl ⟨[a,b,c],by simp[h1,h2,h3],rfl⟩
theorem GT.nn (h:GT d):mI d=ao:=by rcases h with⟨t,_,rfl⟩|⟨a,m,_,rfl⟩<;>rfl
section
variable {bs:ac BenchT}
theorem wz (g:Good bs ss js us ls ks h) (p:PlanOk P):GO (hW ss P):=fun d e=>by
 unfold hW at e;obtain⟨x,hx,rfl⟩:=oMd e;refine gt2 .(r) ?_;rcases SN.mp hx with q|⟨_,q⟩
 .have m:=SO q;unfold kf at m;obtain⟨s,hs,rfl⟩:=bC.mp m;exact(g.s s (c7.mp hs).1).nm
 .have m:=(z6 (h8 ss P) leS).mem_iff.mp (SO q);unfold h8 at m;obtain⟨w,hw,rfl⟩:=bC.mp m;exact p.kn w (c7.mp hw).1
theorem BH (g:Good bs ss js us ls ks h):GO (ss.findSome? (jI h P)):=.first fun s hs d e=>by
 have k:GT (.tup [.str "way",.str s.nm]):=gt2 .(r) (g.s s hs).nm;unfold jI at e;split at e
 .cases e
 .split at e
  .cases e;exact k
  .split at e
   .cases e;exact k
   .cases e
theorem Av (g:Good bs ss js us ls ks h):GO (ss.findSome? (kD js P E)):=.first fun s hs=>.ite (gt2 .(r) (g.s s hs).nm)
theorem Ds (g:Good bs ss js us ls ks h):GO (ss.findSome? (mJ bs P E)):=.first fun s hs=>.ite (gt2 .(r) (g.s s hs).nm)
theorem Bi (g:Good bs ss js us ls ks h):GO ((prS ss).findSome? (bnV us P E)):=.first fun s hs=>.ite (gt3 .(r) (g.s _ (mE hs).1).nm (g.s _ (mE hs).2).nm)
theorem EB (g:Good bs ss js us ls ks h):GO (js.findSome? (apJ P E)):=.first fun j hj=>.first fun q hq=>by
 have k:∀s∈j.ms.map mkS,ba s.nm=ah:=fun s hs=>by obtain⟨x,hx,rfl⟩:=bC.mp hs;exact g.snn x ((g.j j hj).ms x hx)
 exact .ite (gt3 .(r) (k _ (mE hq).1) (k _ (mE hq).2))
theorem D0 (g:Good bs ss js us ls ks h):GO (ls.findSome? (lkV P E)):=.first fun l hl=>.ite (gt3 .(r) (g.snn _ (g.l l hl).a) (g.snn _ (g.l l hl).b))
theorem GS (g:Good bs ss js us ls ks h):GO (ks.findSome? (skV P E)):=.first fun k hk d e=>by unfold skV at e;obtain⟨m,_,rfl⟩:=oMd e;exact .inr ⟨_,_,(g.k k hk).nm,rfl⟩
theorem GO.or {a b:ar D} (h1:GO a) (h2:GO b):GO (a.or b):=fun d e=>(SN.mp e).elim (h1 d) fun q=>h2 d q.2
noncomputable abbrev fbE (S:D) (P:bo) (o:ar D) (y:ar Slot):bi:=[oS S,oS (pD P),oS (o.getD .non),y]
theorem GO.non {o:ar D} (h:GO o):mI (o.getD .non)=o.isNone:=by
 cases o with
 |none=>rfl
 |some d=>exact(h d rfl).nn
theorem nxt {F:FQ} {o o':ar D} {S:D} {y:ar Slot} (g:GO o) (hf:fr (fbE S P o y)=aa ds) (hF:o=ab->F ds=aa (o'.getD .non)):sIf (toB (b2 isD (vSh 2) (vC .non))) (aJ 2 (cF F fr)) aK (fbE S P o y)=aa (.nx,fbE S P (o.or o') y):=by
 refine(bN (b:=o.isNone) (aY (au rfl rfl ?_))).trans ?_
 .exact cJ (aa ∘ D.bl) g.non
 .cases o with
  |some d=>rfl
  |none=>exact oF (aU hf (hF rfl))
theorem Kx (g:Good bs ss js us ls ks h) (p:PlanOk P) {t:D} (hp:hW ss P=ab->∀s∈ss,(lk P s.nm).isSome=ah) (ht:(hW ss P).or (ss.findSome? (jI h P))=aa t):iV [aG bs ss js us ls ks h,pD P]=aa t:=by
 have go:=(wz (js:=js) g p).or (BH g (P:=P));refine bM (n:=2) (ρ':=fbE .(b) P (aa t) ab) (ds:=[aG bs ss js us ls ks h,pD P]) [oS .(b),oS (pD P),ab,ab] rfl
  ((a9 (aU .(k) (Ew g p))).trans ((bX (nxt (wz g p) .(k) fun e=>Eb g (hp e))).trans ?_))
 rw[ht] at go ⊢;refine m4 (aY (au rfl rfl ?_)) rfl;show aa (D.bl (!mI t))=_;rw[(go t rfl).nn];rfl
theorem Lw (g:Good bs ss js us ls ks h) (p:PlanOk P) (hl:ss.length<=20) (f:Fine bs ss P E) (hs:hW ss P=ab) (hw:ss.findSome? (jI h P)=ab):iV [aG bs ss js us ls ks h,pD P]=aa (((wsh bs ss js us ls ks P E).head?).getD .non):=by
 have hp:∀s∈ss,(lk P s.nm).isSome=ah:=fun s hs=>by rw[f.t.gp hs];rfl
 have e0:=Dm g hp f.o;rw[f.e] at e0;have a3:∀{o:ar D},(ae (vSh 0) (ae (vSh 1) .(aC))) (fbE .(b) P o (oS (eD E)))=aa [aG bs ss js us ls ks h,pD P,eD E]:=rfl;have g1:=Av g (P:=P) (E:=E);have g2:=g1.or (Ds g (P:=P) (E:=E));have g3:=g2.or (Bi g (P:=P) (E:=E));have g4:=g3.or (EB g (P:=P) (E:=E));have g5:=g4.or (D0 g (P:=P) (E:=E));have n1:=nxt (P:=P) (y:=ab) (S:=aG bs ss js us ls ks h) (fr:=ae (vSh 0) .(K)) (wz g p) .(k) fun _=>Eb g hp;rw[hs,hw] at n1;have b0:=Ew g p;rw[hs] at b0;rw[DF];refine bM (n:=2) (ρ':=fbE .(b) P ((((((ss.findSome? (kD js P E)).or (ss.findSome? (mJ bs P E))).or ((prS ss).findSome? (bnV us P E))).or (js.findSome? (apJ P E))).or (ls.findSome? (lkV P E))).or (ks.findSome? (skV P E))) (oS (eD E))) (ds:=[aG bs ss js us ls ks h,pD P]) [oS .(b),oS (pD P),ab,ab] rfl
  ((a9 (aU .(k) b0)).trans ((bX n1).trans ((fD (aY .(O))).trans
  ((a9 (aU .(k) e0)).trans ((a9 (d:=(ss.findSome? (kD js P E)).getD .non) (aU (ay rfl .(k)) (GI g f.t))).trans
  ((bX (nxt g1 a3 fun _=>MK g f.t f.b)).trans ((bX (nxt g2 a3 fun _=>Mr g f.t)).trans ((bX (nxt g3 a3 fun _=>Kh g f.t)).trans ((bX (nxt g4 a3 fun _=>Ia g f.t)).trans ((bX (nxt g5 a3 fun _=>Jx g f.t hl)).trans (bU rfl)))))))))))
end
section
variable {bs:ac BenchT}
theorem KN (hs:hW ss P=ab):kf ss P++oC (h8 ss P)=[]:=by unfold hW at hs;rw[Option.map_eq_none_iff,←sP] at hs;exact List.head?_eq_none_iff.mp hs
theorem LM (hs:hW ss P=ab):∀s∈ss,(lk P s.nm).isSome=ah:=fun s hm=>by
 have e:=(List.append_eq_nil_iff.mp (KN hs)).1;unfold kf at e;rw[SQ,z9] at e;have:=e s hm;cases q:(lk P s.nm).isSome with
 |true=>rfl
 |false=>rw[q] at this;exact bK rfl this
end
section
variable {bs:ac BenchT}
theorem A9 {s:StepT} (e:f8 P s=aa q):q.1=s.nm:=by unfold f8 at e;obtain⟨a,_,e⟩:=oBd e;obtain⟨b,_,rfl⟩:=oMd e;rfl
theorem yF (P:bo):∀ss:ac StepT,SS ((bq ss P).map (·.1)) (ss.map (·.nm))
 |[]=>.slnil
 |s::ss=>by
  have ih:=yF P ss;unfold bq at ih ⊢;rw[vk,qo];cases e:f8 P s with
  |none=>exact .cons _ ih
  |some q=>
   show SS (q.1::_) _;rw[A9 e];exact .cons_cons _ ih
theorem AT (nd:(ss.map (·.nm)).Nodup) {s:StepT} (hs:s∈ss) {n:ag} (hq:lk P s.nm=aa q) (hn:lk s.ws q.1=aa n):lk (bq ss P) s.nm=aa (q.2+n):=
 gI ((yF P ss).nodup nd) (o8.mpr ⟨s,hs,by unfold f8;rw[hq,qc,hn];rfl⟩)
noncomputable def plc (ss:ac StepT) (P:bo):ac StepT:=ss.filter fun s=>(lk P s.nm).isSome
theorem kj {s:StepT} (hs:s∈plc ss P):s∈ss:=(c7.mp hs).1
theorem uL (g:Good bs ss js us ls ks h) (o:OnB ss P):Tld (plc ss P) P (bq ss P) where
 p s hs:=eN.mp (c7.mp hs).2
 e s hs:=by obtain⟨q,hq⟩:=eN.mp (c7.mp hs).2;obtain⟨n,hn⟩:=eN.mp (o s (kj hs) q hq);exact⟨_,AT g.sn (kj hs) hq hn⟩
theorem t8 (g:Good bs ss js us ls ks h) (o:OnB ss P) {s:StepT} (hs:s∈plc ss P):stt P s.nm<ent (bq ss P) s.nm/\∃b∈bs,b.nm=bnt P s.nm:=by
 obtain⟨q,hq⟩:=eN.mp (c7.mp hs).2;obtain⟨n,hn⟩:=eN.mp (o s (kj hs) q hq);have w:=(g.s s (kj hs)).ws _ (fL hn);constructor
 .unfold stt ent;rw[hq,AT g.sn (kj hs) hq hn];show q.2<q.2+n;have:1<=n:=w.2.1;omega
 .unfold bnt;rw[hq];exact bC.mp w.1
theorem MU (g:Good bs ss js us ls ks h) (hs:hW ss P=ab) (hw:ss.findSome? (jI h P)=ab):Fine bs ss P (bq ss P):=by
 have all:=LM hs;have o:OnB ss P:=fun s hs q hq=>by
  have:=SI.mp hw s hs;unfold jI at this;rw[hq] at this;dsimp only at this;cases e:lk s.ws q.1 with
  |some n=>rfl
  |none=>rw[e] at this;cases this
 have e:plc ss P=ss:=SU.mpr all;have T:=uL g o;rw[e] at T;exact⟨T,rfl,o,fun s hs=>(t8 g o (e.symm▸hs)).1,fun s hs=>(t8 g o (e.symm▸hs)).2⟩
theorem Ha (hq:ba q.1=ah):eqX (pT q) (pT q)=aa ah:=by unfold eqX;rw[show pdD (pT q)=aa (.tuple [.str q.1,.int q.2]) by simp[pT,pdD,gA],qc,qc,qY (by simp[eA,kY,j2,sT hq,mf,nD])];simp[il,lc]
theorem CQ (P:bo) (hb:∀q∈P,ba q.2.1=ah) (nd:(P.map (·.1)).Nodup):∀R:bo,(∀q∈R,q∈P)->mw (tb pT P) (tb pT R)=aa ah
 |[],_=>rfl
 |q::R,hR=>by
  have ih:=CQ P hb nd R fun x hx=>hR x (.tail _ hx);have e:cr (tb pT P) (.inr q.1)=aa (pT q.2):=by rw[fN,gI nd (hR q (.head _))];rfl
  show(match cr (tb pT P) (.inr q.1) with
   |none=>aa ao
   |some y=>(eqX (pT q.2) y).bind fun e=>(mw (tb pT P) (tb pT R)).map (e && ·))=aa ah
  rw[e];dsimp only;rw[Ha (hb q (hR q (.head _))),ih];rfl
end
structure PlanN (n:al) (P:bo):Prop where
 nd:(P.map (·.1)).Nodup
 ln:P.length<=n
 kn:∀q∈P,ba q.1=ah
 bn:∀q∈P,ba q.2.1=ah
section
variable {bs:ac BenchT}
theorem mh {l:ac (aj×α)} {k:aj} {v:α} {q:aj×α} (h:q∈pt l k v):q=(k,v)\/q∈l:=by
 unfold pt at h;split at h
 .obtain⟨x,hx,e⟩:=bC.mp h;split at e
  .rename_i z;rw[←e,z];exact .inl rfl
  .rw[←e];exact .inr hx
 .rcases fS.mp h with z|z
  .exact .inr z
  .exact .inl (ce.mp z)
theorem NU {l:ac (aj×α)} {k:aj} {v:α} (h:(lk l k).isSome=ah):(pt l k v).length=l.length:=by
 unfold pt;rw[qY (rU.mpr (by
  by_cases z:k∈l.map (·.1)
  .exact z
  .rw[p9.mpr z] at h;cases h)),qg]
theorem PlanN.pt (p:PlanN n P) {k:aj} {v:aj×ag} (hk:ba k=ah) (hv:ba v.1=ah):PlanN (n+1) (pt P k v):=
 ⟨wW p.nd,qL KZ (Nat.succ_le_succ p.ln),fun q hq=>(mh hq).elim (fun e=>by rw[e];exact hk) (p.kn q),fun q hq=>(mh hq).elim (fun e=>by rw[e];exact hv) (p.bn q)⟩
theorem PlanN.old (p:PlanN n P) {k:aj} {v:aj×ag} (h:(lk P k).isSome=ah) (hk:ba k=ah) (hv:ba v.1=ah):PlanN n (Law.pt P k v):=
 ⟨wW p.nd,(NU h).symm▸p.ln,fun q hq=>(mh hq).elim (fun e=>by rw[e];exact hk) (p.kn q),fun q hq=>(mh hq).elim (fun e=>by rw[e];exact hv) (p.bn q)⟩
theorem PlanN.dp (p:PlanN n P) (k:aj):PlanN n (dp P k):=
 ⟨Ky k p.nd,qL (zq _ _) p.ln,fun q hq=>p.kn q (c7.mp hq).1,fun q hq=>p.bn q (c7.mp hq).1⟩
theorem PlanN.up (p:PlanN n P) {m:al} (h:n<=m):PlanN m P:=⟨p.nd,qL p.ln h,p.kn,p.bn⟩
theorem PlanN.ok (p:PlanN n P) (h:n<=20):PlanOk P:=⟨p.nd,qL p.ln h,p.kn,p.bn⟩
theorem KG {f:α->D} {l:ac α} (h:l≠[]):∃x∈l,ixD (.lst (l.map f)) (.int (-1))=aa (f x):=by have hl:0<l.length:=sN.mpr h;refine⟨l[l.length-1],pp _,?_⟩;show atI (l.map f) (-1)=_;unfold atI ixN;rw[qZ .(h),qY (by rw[qg];omega),qc,qg,show(-1+(l.length:ag)).toNat=l.length-1 by omega,ql,qC .(f)];rfl
theorem tL {l:ac D} {i:ag} {x:D} (h:0<=i) (e:l[i.toNat]?=aa x):ixD (.lst l) (.int i)=aa x:=by have:=ixL l i.toNat;rw[Int.toNat_of_nonneg h] at this;rw[this,e]
end
section
variable {bs:ac BenchT} {Q:bo}
theorem mS {f:FA} {l:ac D} (h:f ρ=aa l) (hl:l.length<=1000):szF f ρ=aa l:=by unfold szF;rw[h];exact qY (szN hl .(h))
theorem eqi (a b:ag):eqD (.int a) (.int b)=aa (.bl (decide (a=b))):=rfl
end
section
variable {bs:ac BenchT} {Q:bo}
theorem u8 (h:f ρ=aa d) (h2:gg d ρ=aa ρ'):eJ gg f ρ=aa (.nx,ρ'):=by unfold eJ;rw[h,qc,h2];rfl
theorem uR {l:ac D} (h:f ρ=aa (.lst l)):cF b9 (ae f ak) ρ=aa (.int (l.length:al)):=aU (ay h aL) rfl
end
section
variable {bs:ac BenchT} {Q:bo}
theorem IJ (g:Good bs ss js us ls ks h) (p:PlanN n P) (o:OnB ss P) {s t:StepT} (hs:s∈plc ss P) (ht:t∈plc ss P):∃b,na [pD P,eD (bq ss P),aF bs ss js us ls ks h,.str s.nm,.str t.nm]=aa (.bl b):=by
 have T:=uL g o;have en:=HM g T (fun x hx=>kj hx) (fun u hu=>by have:=(g.u u hu).n;omega) (fun s hs=>(t8 g o hs).1) hs ht (p.bn _ (fL (T.gp hs)));have ns:=(g.s s (kj hs)).nm;have nt:=(g.s t (kj ht)).nm;have tn:toB (cF p7 (ae (vSh 0) (ae (vSh 1) (ae (vSh 2) (ae (vSh 3) (ae (vSh 4) ak)))))) [oS (pD P),oS (eD (bq ss P)),oS .(a),oS .(v),oS (.str t.nm),ab]=aa (nN us P (bq ss P) (s,t)):=aY (aU (ay rfl (ay rfl (ay rfl .(k)))) en);cases e:nN us P (bq ss P) (s,t) with
 |true=>
  rw[e] at tn;exact⟨ao,bM (n:=1) (ds:=[pD P,eD (bq ss P),aF bs ss js us ls ks h,.str s.nm,.str t.nm]) [oS (pD P),oS (eD (bq ss P)),oS .(a),oS .(v),oS (.str t.nm),ab] rfl (m4 tn rfl)⟩
 |false=>
  rw[e] at tn;obtain⟨ρ',e2⟩:=uo (gg:=aA 5) (body:=sIf (cQ (toB (b2 fz (vSh 3) (b2 ixD (vSh 5) .(l)))) (toB (b2 fz (vSh 4) (b2 ixD (vSh 5) .(l))))) (sIf (toB (cF rO (ae (vSh 0) (ae (vSh 1) (ae (vSh 3) (ae (vSh 4) ak)))))) .(o) aK) aK) (d:=bA) (v:=fun j:JobT=>if (decide (s.nm∈j.ms) && decide (t.nm∈j.ms) && oH P (bq ss P) s.nm t.nm)=ah then aa (D.bl ao) else ab) (e:=vC (.bl ah)) (z:=.bl ah) (fi:=itF (b2 ixD (vSh 2) .(j))) (ρ:=[oS (pD P),oS (eD (bq ss P)),oS .(a),oS .(v),oS (.str t.nm),ab]) js
   (fun ρ=>∃a,ρ=[oS (pD P),oS (eD (bq ss P)),oS .(a),oS .(v),oS (.str t.nm),a]) (dh (au rfl rfl (ixL _ 2))) (fun j hj ρ=>by
    rintro⟨a,rfl⟩;have mn:∀y∈j.ms,ba y=ah:=fun y hy=>g.snn y ((g.j j hj).ms y hy);refine⟨_,_,rfl,?_,oS (bA j),rfl⟩;have t1:toB (b2 fz (vSh 3) (b2 ixD (vSh 5) .(l))) [oS (pD P),oS (eD (bq ss P)),oS .(a),oS .(v),oS (.str t.nm),oS (bA j)]=aa (decide (s.nm∈j.ms)):=aY (au rfl (au rfl rfl gN) (mR ns mn));have t2:toB (b2 fz (vSh 4) (b2 ixD (vSh 5) .(l))) [oS (pD P),oS (eD (bq ss P)),oS .(a),oS .(v),oS (.str t.nm),oS (bA j)]=aa (decide (t.nm∈j.ms)):=aY (au rfl (au rfl rfl gN) (mR nt mn));have t3:toB (cF rO (ae (vSh 0) (ae (vSh 1) (ae (vSh 3) (ae (vSh 4) ak))))) [oS (pD P),oS (eD (bq ss P)),oS .(a),oS .(v),oS (.str t.nm),oS (bA j)]=aa (oH P (bq ss P) s.nm t.nm):=aY (aU (ay rfl (ay rfl .(k))) (KS T (bC.mpr ⟨s,hs,rfl⟩) (bC.mpr ⟨t,ht,rfl⟩)));cases e1:decide (s.nm∈j.ms) with
    |false=>rw[e1] at t1;exact(bN (kc t1)).trans rfl
    |true=>
     rw[e1] at t1;refine(bN (ix t1 t2)).trans ?_;cases e2:decide (t.nm∈j.ms) with
     |false=>rfl
     |true=>
      refine(bN t3).trans ?_;cases oH P (bq ss P) s.nm t.nm<;>rfl) ⟨_,rfl⟩ (fun ρ _=>rfl)
  rw[lz] at e2;refine⟨(js.find? fun j=>decide (s.nm∈j.ms) && decide (t.nm∈j.ms) && oH P (bq ss P) s.nm t.nm).isNone,bM (n:=1) (ρ':=ρ') (ds:=[pD P,eD (bq ss P),aF bs ss js us ls ks h,.str s.nm,.str t.nm]) [oS (pD P),oS (eD (bq ss P)),oS .(a),oS .(v),oS (.str t.nm),ab] rfl ((fD tn).trans (e2.trans ?_))⟩;cases js.find? fun j=>decide (s.nm∈j.ms) && decide (t.nm∈j.ms) && oH P (bq ss P) s.nm t.nm<;>rfl
theorem JW (g:Good bs ss js us ls ks h) (p:PlanN n P) (hn:n<=100) (o:OnB ss P) (kk:∀q∈P,q.1∈ss.map (·.nm)) {s:StepT} (hs:s∈plc ss P):∃b,yh [pD P,aF bs ss js us ls ks h,.str s.nm]=aa (.bl b):=by
 have T:=uL g o;obtain⟨b,hb,hbn⟩:=(t8 g o hs).2;have e0:=xv g o;have lp:=p.ln;have t1:orT (toB (b2 gtD (b2 aO (vSh 3) (vSh 2)) (b2 ixD (vSh 1) (vC (.int 6))))) (orT (toB (cF sS (ae (vSh 0) (ae (vSh 3) (ae (vSh 1) .(S)))))) (toB (cF uX (ae (vSh 0) (ae (vSh 3) (ae (vSh 1) .(S))))))) [oS (pD P),oS .(a),oS .(v),oS (eD (bq ss P)),ab]=aa (decide (h<ent (bq ss P) s.nm) || (jN b.br (stt P s.nm) (ent (bq ss P) s.nm) || iz js s.nm (stt P s.nm) (ent (bq ss P) s.nm))):=
  rH (aY (au (au rfl rfl (fY (T.ge hs))) (au rfl rfl (ixL _ 6)) rfl)) (rH (aY (aU (ay rfl (ay rfl .(k))) (MI g T hs hb hbn.symm))) (aY (aU (ay rfl (ay rfl .(k))) (Lq g (kj hs) (T.gp hs) (T.ge hs)))))
 cases et:decide (h<ent (bq ss P) s.nm) || (jN b.br (stt P s.nm) (ent (bq ss P) s.nm) || iz js s.nm (stt P s.nm) (ent (bq ss P) s.nm)) with
 |true=>
  rw[et] at t1;exact⟨ao,bM (n:=2) (ds:=[pD P,aF bs ss js us ls ks h,.str s.nm]) [oS (pD P),oS .(a),oS .(v),ab,ab] rfl ((a9 (aU .(k) e0)).trans (m4 t1 rfl))⟩
 |false=>
  rw[et] at t1;obtain⟨ρ',e2⟩:=uo (gg:=aA 4) (body:=sIf (toB (b2 neA (vSh 4) (vSh 2))) (sIf (bD (toB (cF na (ae (vSh 0) (ae (vSh 3) (ae (vSh 1) (ae (vSh 2) (ae (vSh 4) ak)))))))) .(o) aK) aK) (d:=fun q:aj×aj×ag=>D.str q.1) (v:=fun q=>if (!decide (q.1=s.nm) && (match na [pD P,eD (bq ss P),aF bs ss js us ls ks h,.str s.nm,.str q.1] with
    |some (.bl b)=>!b
    |_=>ao))=ah then aa (D.bl ao) else ab) (e:=vC (.bl ah)) (z:=.bl ah) (fi:=itK (vSh 0)) (ρ:=[oS (pD P),oS .(a),oS .(v),oS (eD (bq ss P)),ab]) P
   (fun ρ=>∃a,ρ=[oS (pD P),oS .(a),oS .(v),oS (eD (bq ss P)),a]) pJ (fun q hq ρ=>by
    rintro⟨a,rfl⟩;obtain⟨t,ht,en⟩:=bC.mp (kk q hq);have htp:t∈plc ss P:=c7.mpr ⟨ht,by rw[en,gI p.nd (show(q.1,q.2)∈P from hq)];rfl⟩;obtain⟨b,eb⟩:=IJ g p o hs htp;rw[en] at eb;refine⟨_,_,rfl,?_,oS (.str q.1),rfl⟩;have t1:toB (b2 neA (vSh 4) (vSh 2)) [oS (pD P),oS .(a),oS .(v),oS (eD (bq ss P)),oS (.str q.1)]=aa (!decide (q.1=s.nm)):=aY (au rfl rfl (BP _ _));rw[eb];cases e1:decide (q.1=s.nm) with
    |true=>rw[e1] at t1;exact(bN t1).trans rfl
    |false=>
     rw[e1] at t1;refine(bN t1).trans ((bN (lI (aY (aU (ay rfl (ay rfl (ay rfl .(k)))) eb)))).trans ?_);cases b<;>rfl) ⟨_,rfl⟩ (fun ρ _=>rfl)
  rw[lz] at e2;refine⟨(P.find? fun q=>(!decide (q.1=s.nm) && (match na [pD P,eD (bq ss P),aF bs ss js us ls ks h,.str s.nm,.str q.1] with
    |some (.bl b)=>!b
    |_=>ao))).isNone,bM (n:=2) (ρ':=ρ') (ds:=[pD P,aF bs ss js us ls ks h,.str s.nm]) [oS (pD P),oS .(a),oS .(v),ab,ab] rfl ((a9 (aU .(k) e0)).trans ((fD t1).trans (e2.trans ?_)))⟩
  generalize (P.find? fun q=>(!decide (q.1=s.nm) && (match na [pD P,eD (bq ss P),aF bs ss js us ls ks h,.str s.nm,.str q.1] with
    |some (.bl b)=>!b
    |_=>ao)))=o
  cases o<;>rfl
end
section
variable {bs:ac BenchT} {Q:bo}
noncomputable abbrev lwE (L:D) (E:ac (aj×ag)) (x:aj) (m:ag) (a b c d e:ar Slot):bi:=[oS L,oS (eD E),oS (.str x),oS (.int m),a,b,c,d,e]
theorem HC {G:D->FQ} (h1:f ρ=aa d) (h2:fr ρ=aa ds) (h3:G d ds=aa z):mF G f fr ρ=aa z:=by unfold mF;rw[h1,qc,h2];exact h3
theorem Ch {a b:ag} (h1:fa ρ=aa (.int a)) (h2:fb ρ=aa (.int b)):cF iE (ae fa (ae fb ak)) ρ=aa (.int (if b > a then b else a)):=aU (ay h1 (ay h2 aL)) rfl
theorem Nn (g:Good bs ss js us ls ks h) {M:ag} (hM:0<=M) (hE:∀k x,lk E k=aa x->0<=x/\x<=M) (hx:ba x=ah):∃m,um [aF bs ss js us ls ks h,eD E,.str x]=aa (.int m)/\0<=m/\m<=M+h:=by
 have hh:=g.hh;obtain⟨ρ1,e1,m1,a1,b1,c1,h1,r1⟩:=eF (gg:=b6 3 (aT (aA 4) .(au))) (body:=(sIf (cQ (toB (b2 eqA (vSh 5) (vSh 2))) (toB (b2 fR (vSh 4) (vSh 1)))) (aJ 3 (cF iE (ae (vSh 3) (ae (b2 aX (b2 aO (vSh 1) (vSh 4)) (vSh 6)) ak)))) aK)) (xs:=ls.map c5) (ρ:=lwE .(a) E x 0 ab ab ab ab ab)
  (fun _ ρ=>∃m a b c,ρ=lwE .(a) E x m a b c ab ab/\0<=m/\m<=M+h) ⟨0,_,_,_,rfl,by omega,by omega⟩ (fun i y ρ hy hI=>by
   obtain⟨m,a,b,c,rfl,q0,q1⟩:=hI;rw[ql] at hy;obtain⟨l,hl,rfl⟩:=oMd hy;have gl:=(g.l l (qO hl)).g;have t1:toB (b2 eqA (vSh 5) (vSh 2)) (lwE .(a) E x m (oS (.str l.a)) (oS (.str l.b)) (oS (.int l.g)) ab ab)=aa (decide (l.b=x)):=aY (au rfl rfl (wP _ _));have t2:toB (b2 fR (vSh 4) (vSh 1)) (lwE .(a) E x m (oS (.str l.a)) (oS (.str l.b)) (oS (.int l.g)) ab ab)=aa (lk E l.a).isSome:=aY (au rfl rfl Gz);cases e1:decide (l.b=x) with
   |false=>rw[e1] at t1;exact⟨_,_,rfl,(bN (kc t1)).trans rfl,m,_,_,_,rfl,q0,q1⟩
   |true=>
    rw[e1] at t1;cases e2:lk E l.a with
    |none=>rw[e2] at t2;exact⟨_,_,rfl,(bN (ix t1 t2)).trans rfl,m,_,_,_,rfl,q0,q1⟩
    |some z=>
     rw[e2] at t2;have hz:=hE _ _ e2;refine⟨_,_,rfl,(bN (ix t1 t2)).trans (oF (Ch rfl (au (au rfl rfl (fY e2)) rfl rfl))),_,_,_,_,rfl,?_,?_⟩<;>split<;>omega)
 subst h1;obtain⟨ρ2,e2,m2,d2,e2',h2,r2⟩:=eF (gg:=aA 7) (body:=.(aq)) (xs:=js.map bA) (ρ:=lwE .(a) E x m1 a1 b1 c1 ab ab)
  (fun _ ρ=>∃m d e,ρ=lwE .(a) E x m a1 b1 c1 d e/\0<=m/\m<=M+h) ⟨m1,_,_,rfl,r1⟩ (fun i y ρ hy hI=>by
   obtain⟨m,d,e,rfl,q0,q1⟩:=hI;rw[ql] at hy;obtain⟨j,hj,rfl⟩:=oMd hy;have gj:=g.j j (qO hj);have t1:toB (b2 ixD (vSh 7) .(i)) (lwE .(a) E x m a1 b1 c1 (oS (bA j)) e)=aa j.od:=aY (au rfl rfl km);have t2:toB (b2 fz (vSh 2) (b2 ixD (vSh 7) .(l))) (lwE .(a) E x m a1 b1 c1 (oS (bA j)) e)=aa (decide (x∈j.ms)):=aY (au rfl (au rfl rfl gN) (mR hx fun y hy=>g.snn y (gj.ms y hy)));cases e1:j.od with
   |false=>rw[e1] at t1;exact⟨_,_,rfl,(bN (kc t1)).trans rfl,m,_,_,rfl,q0,q1⟩
   |true=>
    rw[e1] at t1;by_cases hm:x∈j.ms
    .rw[qR hm] at t2;have hlt:j.ms.findIdx (·==x)<j.ms.length:=List.findIdx_lt_length_of_exists ⟨x,hm,by simp⟩;obtain⟨ρ3,e3,m3,f3,h3,r3⟩:=eF (gg:=aA 8) (body:=(aJ 3 (cF iE (ae (vSh 3) (ae (b3 jd (vSh 1) (vSh 8) .(e)) ak))))) (xs:=(j.ms.map D.str).take (j.ms.findIdx (·==x))) (ρ:=lwE .(a) E x m a1 b1 c1 (oS (bA j)) e)
      (fun _ ρ=>∃m f,ρ=lwE .(a) E x m a1 b1 c1 (oS (bA j)) f/\0<=m/\m<=M+h) ⟨m,_,rfl,q0,q1⟩ (fun k y ρ hy hI=>by
       obtain⟨m,f,rfl,q0,q1⟩:=hI;obtain⟨w,_,rfl⟩:=bC.mp (vM (qO hy));have hz:0<=(lk E w).getD 0/\(lk E w).getD 0<=M:=by
        cases e:lk E w with
        |none=>exact⟨pH 0,hM⟩
        |some z=>exact hE _ _ e
       refine⟨_,_,rfl,oF (Ch rfl (tj rfl rfl rfl MM)),_,_,rfl,?_,?_⟩<;>split<;>omega)
     refine⟨_,_,rfl,(bN (ix t1 t2)).trans ((dH (dh ((tO (d:=(j.ms.findIdx (·==x):al)) (au rfl rfl gN) (HC (au rfl rfl gN) (ay rfl aL) ?_) .(f)).trans (by rw[me])))).trans (e3.trans (by rw[h3]))),m3,_,_,rfl,r3⟩;show(jS _).bind _=_;rw[wJ];exact qY hlt
    .rw[qM hm] at t2;exact⟨_,_,rfl,(bN (ix t1 t2)).trans rfl,m,_,_,rfl,q0,q1⟩)
 subst h2;exact⟨m2,bM (n:=6) (ds:=[aF bs ss js us ls ks h,eD E,.str x]) [oS .(a),oS (eD E),oS (.str x),ab,ab,ab,ab,ab,ab] rfl ((a9 rfl).trans ((bX ((dH (dh (au rfl rfl (ixL _ 4)))).trans e1)).trans ((bX ((dH (dh (au rfl rfl (ixL _ 2)))).trans e2)).trans (bU rfl)))),r2⟩
end
structure BPlan (ss:ac StepT) (n:al) (B:ag) (P:bo):Prop where
 n:PlanN n P
 k:∀q∈P,q.1∈ss.map (·.nm)
 o:OnB ss P
 b:∀q∈P,0<=q.2.2/\q.2.2<=B
section
variable {bs:ac BenchT} {Q:bo} {B:ag}
theorem Es {o o':ar α} {P:α->Prop} (e:o=o') (h:Wp o' P):Wp o P:=e▸h
theorem sR (nd:(ss.map (·.nm)).Nodup) {s t:StepT} (hs:s∈ss) (ht:t∈ss) (e:s.nm=t.nm):s=t:=by
 induction ss with
 |nil=>cases hs
 |cons a l ih=>
  rw[qo,kQ] at nd;rcases c0.mp hs with rfl|hs'<;>rcases c0.mp ht with rfl|ht'
  .rfl
  .exact bK (bC.mpr ⟨t,ht',e.symm⟩) nd.1
  .exact bK (bC.mpr ⟨s,hs',e⟩) nd.1
  .exact ih nd.2 hs' ht'
theorem BPlan.put (g:Good bs ss js us ls ks h) (p:BPlan ss n B P) {s:StepT} (hs:s∈ss) {w:aj×ag} (hw:w∈s.ws) {st B':ag} (h0:0<=st) (h1:st<=B') (hB:B<=B'):BPlan ss (n+1) B' (pt P s.nm (w.1,st)) where
 n:=p.n.pt (g.s s hs).nm (g.bnn _ ((g.s s hs).ws w hw).1)
 k q hq:=(mh hq).elim (fun e=>by rw[e];exact bC.mpr ⟨s,hs,rfl⟩) (p.k q)
 o t ht q hq:=by
  rw[rm] at hq;split at hq
  .rename_i e;cases hq;have e:=sR g.sn ht hs e;subst e;rw[gI (g.s t ht).nd (show(w.1,w.2)∈t.ws from hw)];rfl
  .exact p.o t ht q hq
 b q hq:=(mh hq).elim (fun e=>by rw[e];exact⟨h0,h1⟩) fun m=>⟨(p.b q m).1,FY (p.b q m).2 hB⟩
noncomputable abbrev puE (P:bo) (L:D) (s:StepT) (m:ag) (a b c d:ar Slot):bi:=[oS (pD P),oS L,oS (bJ s),oS (.int m),a,b,c,d]
end
section
variable {bs:ac BenchT} {Q:bo} {B:ag}
theorem Od (g:Good bs ss js us ls ks h) (hb:∀q∈P,0<=q.2.2/\q.2.2<=B) {k:aj} {x:ag} (hk:lk (bq ss P) k=aa x):0<=x/\x<=B+h:=by obtain⟨s,hs,e⟩:=o8.mp (fL hk);unfold f8 at e;obtain⟨q,hq,e⟩:=oBd e;obtain⟨l,hl,e⟩:=oMd e;cases e;have:=hb _ (fL hq);have:=((g.s s hs).ws _ (fL hl)).2;dsimp only at *;omega
end
theorem L6 {l:ac ag} {lo:ar ag} :(eB l lo hi).length<=l.length:=by unfold eB;rw[qD,jk];omega
theorem Hi {bad:α->aQ} (l:ac α):(l.findSome? fun a=>if bad a=ah then aa (D.bl ao) else ab)=if l.any bad=ah then aa (.bl ao) else ab:=by
 rw[lz];cases e:l.find? bad with
 |none=>
  rw[zN] at e;rw[qZ fun z=>by obtain⟨x,hx,px⟩:=lZ.mp z;exact e x hx px]
  rfl
 |some x=>rw[qY (lZ.mpr ⟨x,zM e,FC e⟩)];rfl
noncomputable abbrev flB (b:aQ):Fl:=flO (if b=ah then aa (.bl ao) else ab)
theorem oj {A B:FS} {b c:aQ} (h:A ρ=aa (flB b,ρ1)) (h2:∃ρ2,B ρ1=aa (.rt (.bl c),ρ2)):∃ρ',ax A B ρ=aa (.rt (.bl (!b && c)),ρ'):=by
 cases b with
 |true=>exact⟨ρ1,yC h⟩
 |false=>
  obtain⟨ρ2,h2⟩:=h2;exact⟨ρ2,(bX h).trans h2⟩
theorem DN {d:α->D} {bad:α->aQ} (I:bi->Prop) (as:ac α) (ρ:bi) (hs:∀a∈as,∀ρ,I ρ->∃ρ1 ρ2,gg (d a) ρ=aa ρ1/\body ρ1=aa (flB (bad a),ρ2)/\I ρ2) (h:I ρ):∃ρ',gB gg body (as.map d) ρ=aa (flB (as.any bad),ρ')/\I ρ':=by obtain⟨ρ',e,h'⟩:=oz (v:=fun a=>if bad a=ah then aa (.bl ao) else ab) I as ρ hs h;rw[Hi] at e;exact⟨ρ',e,h'⟩
theorem Dr {A:FT} {a b:aQ} (hA:A ρ=aa a) (hB:B ρ=aa b):cQ A B ρ=aa (a && b):=by
 cases a with
 |true=>exact ix hA hB
 |false=>exact kc hA
theorem ifF {b:aQ} (h:ft ρ=aa b):sIf ft .(o) aK ρ=aa (flB b,ρ):=by refine(bN h).trans ?_;cases b<;>rfl
section
variable {bs:ac BenchT} {Q:bo} {B:ag}
structure Full (ss:ac StepT) (P:bo):Prop where
 nd:(P.map (·.1)).Nodup
 k:∀q∈P,q.1∈ss.map (·.nm)
 a:∀s∈ss,(lk P s.nm).isSome=ah
theorem Ey {l:ac (aj×α)} {k j:aj} {v:α} :(lk (pt l k v) j).isSome=((lk l j).isSome || decide (k=j)):=by
 rw[rm];by_cases e:j=k
 .rw[qY e,qR e.symm,z5];rfl
 .rw[qZ e,qM (dI e),Q9]
noncomputable def om (P:bo) (s:StepT):aj×aj×ag:=(s.nm,bnt P s.nm,stt P s.nm)
theorem GK (f:Full ss P) {s:StepT} (hs:s∈ss):om P s∈P:=by
 obtain⟨q,hq⟩:=eN.mp (f.a s hs);have:om P s=(s.nm,q):=by unfold om bnt stt;rw[hq];rfl
 rw[this];exact fL hq
theorem C3 (f:Full ss P) {q:aj×aj×ag} (hq:q∈P):∃s∈ss,q=om P s:=by obtain⟨s,hs,e⟩:=bC.mp (f.k q hq);have h2:lk P q.1=aa q.2:=gI f.nd hq;refine⟨s,hs,?_⟩;unfold om bnt stt;rw[e,h2];rfl
theorem Ir (g:Good bs ss js us ls ks h) (p:PlanN n Q) (u:Full ss Q) (o:OnB ss Q) {s:StepT} (hs:s∈ss) {b:aj} (hb:(lk s.ws b).isSome=ah) (st:ag):PlanN n (pt Q s.nm (b,st))/\Full ss (pt Q s.nm (b,st))/\OnB ss (pt Q s.nm (b,st)):=by
 obtain⟨l,hl⟩:=eN.mp hb;refine⟨p.old (u.a s hs) (g.s s hs).nm (g.bnn _ ((g.s s hs).ws _ (fL hl)).1),⟨wW u.nd,fun q hq=>(mh hq).elim (fun e=>by rw[e];exact bC.mpr ⟨s,hs,rfl⟩) (u.k q),fun t ht=>by rw[Ey,u.a t ht];rfl⟩,fun t ht q hq=>?_⟩;rw[rm] at hq;split at hq
 .rename_i e;cases hq;rw[sR g.sn ht hs e];exact hb
 .exact o t ht q hq
noncomputable abbrev cgE (P:bo) (L:D) (c:ag) (Q:bo) (a b d e f i j:ar Slot):bi:=[oS (pD P),oS L,oS (.int c),aa (.odk (tb pT Q)),a,b,d,e,f,i,j]
noncomputable def cgB:FS:=.(w)
theorem LX (g:Good bs ss js us ls ks h) {c:ag} {t:al} (ht:t<=10) (p:PlanN n Q) (hn:n<=50) (u:Full ss Q) (o:OnB ss Q) {b d e f i j:ar Slot} :∃Q' b' d' e' f' i' j',cgB (cgE P .(a) c Q (oS (.int (t:ag))) b d e f i j)=aa (.nx,cgE P .(a) c Q' (oS (.int (t:ag))) b' d' e' f' i' j')/\PlanN n Q'/\Full ss Q'/\OnB ss Q':=by
 have l1:=g.sl;obtain⟨ds,e1,e2,e3⟩:=lx (c / 3) t .(f) [(ss.length:ag),5,4] (by simp;omega) (show 3<=100 by decide);obtain⟨d0,h0,a0,b0⟩:=e3 0 _ rfl;obtain⟨d1,h1,a1,b1⟩:=e3 1 _ rfl;obtain⟨d2,h2,a2,b2'⟩:=e3 2 _ rfl;obtain⟨s,hs⟩:∃s,ss[d0.toNat]?=aa s:=⟨_,qC (show d0.toNat<ss.length by omega)⟩;have hsm:=qO hs;have gs:=g.s s hsm;obtain⟨q,hq⟩:=eN.mp (u.a s hsm);have hw1:(0:ag)<(s.ws.length:al):=by have:=gs.l1;omega
 obtain⟨w,hw⟩:∃w,s.ws[(d1%(s.ws.length:al)).toNat]?=aa w:=⟨_,qC (by have:=qU d1 hw1;have:=qX d1 (show((s.ws.length:al):ag)≠0 by omega);omega)⟩
 have ed:cF dZ (ae (b2 dF (vSh 2) .(i)) (ae (vSh 4) (ae (aI (szF (ae (cF b9 (ae (b2 ixD (vSh 1) .(d)) ak)) (ae (vC (.int 5)) (ae .(l) ak))))) ak))) (cgE P .(a) c Q (oS (.int (t:ag))) b d e f i j)=aa .(u):=
  aU (ay (au rfl rfl (m5 .(h))) (ay rfl (ay (gc (mS (ay ((uR (au rfl rfl (ixL _ 1))).trans (by rw[qg])) .(k)) (show 3<=1000 by decide))) aL))) e1
 have ea:eJ (b6 3 (aT (aA 6) (aT (aA 7) (aT (aA 8) bZ)))) (b2 ixD (b2 ixD (vSh 1) .(d)) (b2 ixD (vSh 5) .(e))) (cgE P .(a) c Q (oS (.int (t:ag))) (oS .(u)) d e f i j)=aa (.nx,cgE P .(a) c Q (oS (.int (t:ag))) (oS .(u)) (oS .(v)) (oS (.str s.kd)) (oS (.lst (s.ws.map dW))) i j):=
  u8 (d:=bJ s) (au (au rfl rfl (ixL _ 1)) (cC (n:=0) rfl h0) (tL a0 (by rw[ql,hs];rfl))) rfl
 have eb:eJ (b6 2 (aT (aA 9) (aT (aA 10) bZ))) (gQ 3 (vSh 6)) (cgE P .(a) c Q (oS (.int (t:ag))) (oS .(u)) (oS .(v)) (oS (.str s.kd)) (oS (.lst (s.ws.map dW))) i j)=aa (.nx,cgE P .(a) c Q (oS (.int (t:ag))) (oS .(u)) (oS .(v)) (oS (.str s.kd)) (oS (.lst (s.ws.map dW))) (oS (.str q.1)) (oS (.int q.2))):=by refine u8 (d:=pT q) ?_ rfl;show cr (tb pT Q) (.inr s.nm)=_;rw[fN,hq];rfl
 have et:toB (b2 eqD (b2 ixD (vSh 5) .(j)) .(i)) (cgE P .(a) c Q (oS (.int (t:ag))) (oS .(u)) (oS .(v)) (oS (.str s.kd)) (oS (.lst (s.ws.map dW))) (oS (.str q.1)) (oS (.int q.2)))=aa (decide (d2=3)):=aY (au (cC (n:=2) rfl h2) rfl (eqi _ _));obtain⟨r,hr,ei⟩:∃r,(lk s.ws r).isSome=ah/\sIf (toB (b2 eqD (b2 ixD (vSh 5) .(j)) .(i))) (aJ 9 (b2 ixD (b2 ixD (vSh 8) (b2 bF (b2 ixD (vSh 5) .(d)) (cF b9 (ae (vSh 8) ak)))) .(e))) aK (cgE P .(a) c Q (oS (.int (t:ag))) (oS .(u)) (oS .(v)) (oS (.str s.kd)) (oS (.lst (s.ws.map dW))) (oS (.str q.1)) (oS (.int q.2)))=aa (.nx,cgE P .(a) c Q (oS (.int (t:ag))) (oS .(u)) (oS .(v)) (oS (.str s.kd)) (oS (.lst (s.ws.map dW))) (oS (.str r)) (oS (.int q.2))):=by
  cases ez:decide (d2=3) with
  |false=>rw[ez] at et;exact⟨q.1,o s hsm q hq,(bN et).trans rfl⟩
  |true=>
   rw[ez] at et;refine⟨w.1,by rw[gI gs.nd (show(w.1,w.2)∈s.ws from qO hw)];rfl,(bN et).trans (oF (au (au rfl (au (cC (n:=1) rfl h1) ((uR rfl).trans (by rw[qg])) (df hw1)) (tL (x:=dW w) (qX _ .(f)) (by rw[ql,hw];rfl))) rfl cI))⟩
 have lq:=p.ln;exact⟨_,_,_,_,_,_,_,(a9 ed).trans ((bX ea).trans ((bX eb).trans ((bX ei).trans (n4 (i:=3) (f:=pT) (l:=Q) (x:=s.nm) (v:=(r,q.2+d1-2)) rfl (ff rfl (au (au rfl (cC (n:=1) rfl h1) rfl) rfl rfl)) rfl .(f))))),Ir g p u o hsm hr _⟩
theorem PZ (g:Good bs ss js us ls ks h) (p:PlanN n P) (hn:n<=50) (u:Full ss P) (o:OnB ss P) (c:ag):∃Q,uT [pD P,aF bs ss js us ls ks h,.int c]=aa (pD Q)/\PlanN n Q/\Full ss Q/\OnB ss Q:=by
 have hc:(c%3).toNat<=2/\0<=c%3/\c%3<3:=by omega
 obtain⟨ρ',e1,Q,a,b,d,e,f,i,j,h1,p1⟩:=eF (gg:=aA 4) (body:=cgB) (xs:=(cV (c%3).toNat).map fun i:al=>D.int (0+i)) (ρ:=cgE P .(a) c P ab ab ab ab ab ab ab)
  (fun _ ρ=>∃Q a b d e f i j,ρ=cgE P .(a) c Q a b d e f i j/\PlanN n Q/\Full ss Q/\OnB ss Q) ⟨P,ab,ab,ab,ab,ab,ab,ab,rfl,p,u,o⟩ (fun m x ρ hx hI=>by obtain⟨Q,a,b,d,e,f,i,j,rfl,pq,uq,oq⟩:=hI;obtain⟨hm,rfl⟩:=GY hx;obtain⟨Q',b',d',e',f',i',j',e2,p2⟩:=LX (P:=P) (c:=c) (t:=m) (b:=b) (d:=d) (e:=e) (f:=f) (i:=i) (j:=j) g .(f) pq hn uq oq;exact⟨_,_,rfl,e2,Q',_,_,_,_,_,_,_,rfl,p2⟩)
 subst h1;refine⟨Q,bM (n:=8) (ds:=[pD P,aF bs ss js us ls ks h,.int c]) [oS (pD P),oS .(a),oS (.int c),ab,ab,ab,ab,ab,ab,ab,ab] rfl ((bX (ρ1:=cgE P .(a) c P ab ab ab ab ab ab ab) rfl).trans ((bX ((dH ?_).trans e1)).trans ((oV rfl).trans (bU rfl)))),p1⟩;unfold itR;rw[ay (au rfl rfl (df .(h))) aL];exact ou ⟨hc.2.1,by omega⟩
theorem Qd (u:Full ss P):hW ss P=ab:=by unfold hW kf h8;rw[z9.mpr fun s hs=>by rw[u.a s hs];exact qt,z9.mpr fun q hq=>by rw[qR (u.k q hq)];exact qt];rw[qN,qN,show oC []=[] from SM];rfl
end
theorem AZ (I:bi->Prop) (Q:ac (Key×D)->Prop) (hf:fi ρ=aa xs) (h0:I ρ) (hs:∀x∈xs,∀ρ,I ρ->Wp (gg x ρ) fun ρ1=>Wp (g ρ1) fun r=>(r.1=.nx/\I r.2)\/∃d,r.1=.od d/\Q d):Wp (bW fi gg g ρ) fun r=>(r.1=.nx/\I r.2)\/∃d,r.1=.od d/\Q d:=by
 unfold bW;rw[hf,qc];clear hf
 induction xs generalizing ρ with
 |nil=>exact⟨_,rfl,.inl ⟨rfl,h0⟩⟩
 |cons x xs ih=>
  unfold gB;refine rl ((hs x (.head _) ρ h0).imp fun ρ1 k=>rl (k.imp ?_));rintro⟨fl,ρ2⟩ (⟨e,hI⟩|⟨d,e,hQ⟩)
  .have e:fl=.nx:=e;subst e;exact ih hI fun y hy=>hs y (.tail _ hy)
  .have e:fl=.od d:=e;subst e;exact⟨_,rfl,.inr ⟨d,rfl,hQ⟩⟩
theorem NV {I:bi->Prop} {Q:ac (Key×D)->Prop} (h:Wp (g ρ) fun r=>(r.1=.nx/\I r.2)\/∃d,r.1=.od d/\Q d) (h2:∀ρ,I ρ->Wp (g' ρ) fun r=>∃d,r.1=.od d/\Q d):Wp (ax g g' ρ) fun r=>∃d,r.1=.od d/\Q d:=rl (h.imp (by
 rintro⟨fl,ρ2⟩ (⟨e,hI⟩|⟨d,e,hQ⟩)
 .have e:fl=.nx:=e;subst e;exact h2 _ hI
 .have e:fl=.od d:=e;subst e;exact⟨_,rfl,d,rfl,hQ⟩))
theorem A8 {P:ac (Key×D)->Prop} (h:Wp (g (ds.map (fun d=>aa (Slot.sh d))++cq n ab)) fun r=>∃d,r.1=.od d/\P d):Wp (nS n g ds) P:=rl (h.imp fun⟨fl,ρ'⟩ ⟨d,e,p⟩=>by have e:fl=.od d:=e;subst e;exact⟨d,rfl,p⟩)
section
variable {bs:ac BenchT} {Q:bo} {B:ag}
theorem K6 (g:Good bs ss js us ls ks h) (p:BPlan ss n B P) (hn:n<=50) {s:StepT} (hs:s∈ss) {m:ag} (m0:0<=m) (m1:m<=500000):Wp (sZ [pD P,aF bs ss js us ls ks h,bJ s,.int m]) fun d=>∃w st,d=tb pT (pt P s.nm (w,st))/\(∃l,(w,l)∈s.ws)/\0<=st/\st<=m+40:=by
 have gs:=g.s s hs;have hh:=g.hh;have hr:0<=m/\m<=1000000/\0<=(if m+40<h then m+40 else h)/\(if m+40<h then m+40 else h)<=1000000:=by refine⟨m0,by omega,?_⟩;split<;>omega
 have cp:∀{a b c d:ar Slot} {w:aj} {st:ag} {fb fs:FE} {R:FS},fb (puE P .(a) s m a b c (aa (.odk (tb pT P))))=aa (.str w)->fs (puE P .(a) s m a b c (aa (.odk (tb pT P))))=aa (.int st)->ax (oA 7 (vSh 0)) (ax (fm 7 (b2 ixD (vSh 2) .(e)) (bc (szF (ae fb (ae fs ak))))) R) (puE P .(a) s m a b c d)=R (puE P .(a) s m a b c (aa (.odk (tb pT (pt P s.nm (w,st)))))):=fun {a b c d w st fb fs R} e1 e2=>
  (bX (ρ1:=puE P .(a) s m a b c (aa (.odk (tb pT P)))) rfl).trans (bX (n4 (i:=7) (f:=pT) (l:=P) (x:=s.nm) (v:=(w,st)) rfl (ff e1 e2) (au rfl rfl cI) (by have:=p.n.ln;omega)))
 refine A8 (NV (I:=fun ρ=>∃a b c d,ρ=puE P .(a) s m a b c d) (AZ (fun ρ=>∃a b c d,ρ=puE P .(a) s m a b c d) _ (xs:=s.ws.map dW) (dh (au rfl rfl i8)) ⟨ab,ab,ab,ab,rfl⟩ ?_) ?_)
 .rintro x hx ρ ⟨a,b,c,d,rfl⟩;obtain⟨w,hw,rfl⟩:=bC.mp hx;refine⟨_,rfl,?_⟩;refine(AZ (fun ρ=>∃c d,ρ=puE P .(a) s m (oS (.str w.1)) (oS (.int w.2)) c d) (fun d=>∃w st,d=tb pT (pt P s.nm (w,st))/\(∃l,(w,l)∈s.ws)/\0<=st/\st<=m+40) (mT (ay rfl (ay (aU (ay (au rfl rfl (ixL _ 6)) (ay .(O) aL)) rfl) aL)) (CH hr)) ⟨c,d,rfl⟩ ?_).imp fun r k=>k.imp (fun⟨e,c,d,q⟩=>⟨e,_,_,c,d,q⟩) id;rintro y hy ρ ⟨c,d,rfl⟩;obtain⟨k,hk,rfl⟩:=bC.mp hy;rw[fB] at hk;have hst:m+(k:ag)<=m+40:=by split at hk<;>omega
  refine⟨_,rfl,?_⟩;have p':=p.put g hs hw (st:=m+k) (B':=max B (m+40)) .(f) .(f) .(f);obtain⟨b,eb⟩:=JW g p'.n .(f) p'.o p'.k (s:=s) (c7.mpr ⟨hs,by rw[rm,qY rfl];rfl⟩);refine Es (cp (a:=oS (.str w.1)) (b:=oS (.int w.2)) (c:=oS (.int (m+k))) (d:=d) (w:=w.1) (st:=m+k) rfl rfl) ?_;refine JS (PV (a:=b) (show toB _ [_,_,_,_,_,_,_,_]=_ from aY (aU (ay rfl (ay rfl (ay (au rfl rfl cI) aL))) eb)) ?_);cases b with
  |false=>exact⟨_,rfl,.inl ⟨rfl,_,_,rfl⟩⟩
  |true=>exact⟨_,rfl,.inr ⟨_,rfl,w.1,_,rfl,⟨w.2,hw⟩,by omega,hst⟩⟩
 .rintro ρ ⟨a,b,c,d,rfl⟩;obtain⟨w,l,hwl⟩:∃w l,s.ws=w::l:=F9 gs.l1;refine Es (cp (w:=w.1) (st:=m) (au (au (au rfl rfl i8) rfl ((ixL _ 0).trans (by rw[hwl];rfl))) rfl (cI (x0:=.str w.1) (r:=[.int w.2]))) rfl) ?_;exact⟨_,rfl,_,rfl,w.1,m,rfl,⟨w.2,by rw[hwl];exact .head _⟩,m0,by omega⟩
theorem vW {F:ac D->ar (ac (Key×D))} {l:ac (Key×D)} (h1:fr ρ=aa ds) (h2:F ds=aa l):lw i F fr ρ=aa (.nx,ρ.set i (aa (.odk l))):=by unfold lw;rw[h1,qc,h2];rfl
theorem B1 (g:Good bs ss js us ls ks h) (hh:h<=1000) (hl:ss.length<=20):∃P,rn [aF bs ss js us ls ks h]=aa (tb pT P)/\BPlan ss ss.length (ss.length*5000) P/\Full ss P:=by
 have hh1:=g.hh;obtain⟨ρ',e1,P,a,b,h1,p1,k1⟩:=eF (gg:=aA 2) (body:=(jc 1 (ax (aJ 3 (cF um (ae (vSh 0) (ae (cF mK (ae (vSh 1) .(ai))) (ae (b2 ixD (vSh 2) .(e)) ak))))) (lw 1 sZ (ae (vSh 1) (ae (vSh 0) (ae (vSh 2) .(aC)))))))) (xs:=ss.map bJ) (ρ:=[oS .(a),aa (.odk []),ab,ab])
  (fun i ρ=>∃P a b,ρ=[oS .(a),aa (.odk (tb pT P)),a,b]/\BPlan ss i (i*5000) P/\∀s∈ss.take i,(lk P s.nm).isSome=ah) ⟨[],ab,ab,rfl,⟨⟨.nil,qw _,(fun _ z=>by cases z),(fun _ z=>by cases z)⟩,(fun _ z=>by cases z),(fun s _ q hq=>by cases hq),(fun _ z=>by cases z)⟩,(fun _ z=>by cases z)⟩ (fun i x ρ hx hI=>by
   obtain⟨P,a,b,rfl,p,kk⟩:=hI;rw[ql] at hx;obtain⟨s,hs,rfl⟩:=oMd hx;have hi:i<ss.length:=(di.mp hs).1;have hsm:=qO hs;obtain⟨m,em,m0,m1⟩:=Nn (E:=bq ss P) g (M:=i*5000+h) .(f) (fun k x hk=>Od g p.b hk) (g.s s hsm).nm;obtain⟨_,ep,w,st,rfl,⟨l,hw⟩,s0,s1⟩:=K6 g p .(f) hsm m0 .(f);refine⟨_,_,rfl,(oV rfl).trans ((a9 (aU (ay rfl (ay (aU .(k) (xv g p.o)) (ay (au rfl rfl cI) aL))) em)).trans (vW (ay rfl (ay rfl .(k))) ep)),_,oS (bJ s),oS (.int m),rfl,p.put g hsm hw s0 .(f) .(f),fun t ht=>?_⟩;rw[pC,hs] at ht;rw[Ey,pj];rcases fS.mp ht with z|z
   .exact .inl (kk t z)
   .rw[ce.mp z];exact .inr (qR rfl))
 rw[qg] at p1 k1;rw[j3] at k1;subst h1;obtain⟨_,e,_,rfl⟩:Wp (rn [aF bs ss js us ls ks h]) fun l=>l=tb pT P/\l=tb pT P:=A8 ⟨_,(bX (ρ1:=[oS .(a),aa (.odk []),ab,ab]) rfl).trans ((bX ((dH (dh (au rfl rfl (ixL _ 1)))).trans e1)).trans (show oa 1 [oS .(a),aa (.odk (tb pT P)),a,b]=_ from rfl)),_,rfl,rfl,rfl⟩;exact⟨P,e,p1,⟨p1.n.nd,p1.k,k1⟩⟩
end
section
variable {bs:ac BenchT} {M:bo}
noncomputable def cB (P:bo) (now:ag) (s:StepT):aQ:=match lk P s.nm with
 |some q=>decide (q.2<now)
 |none=>ao
noncomputable def Bg (ss:ac StepT) (P:bo) (now:ag):Prop:=∀q∈P,q.2.2<now->∃s∈ss,s.nm=q.1/\0<=q.2.2/\(lk s.ws q.2.1).isSome=ah
noncomputable def nmD (s:StepT):D:=.str s.nm
theorem uz (l:ac StepT):(l.map (·.nm)).map D.str=l.map nmD:=qp ..
theorem LZ (p:PlanOk P) {s:StepT} :decide (s.nm∈(.(V).map (·.1)))=cB P now s:=by
 unfold cB;rw[jh,l0,bC];cases e:lk P s.nm with
 |none=>exact⟨fun⟨q,hq,hn⟩=>bK (bC.mpr ⟨q,(c7.mp hq).1,hn⟩) (p9.mp e),fun z=>by cases z⟩
 |some r=>
  rw[l0];constructor
  .rintro⟨q,hq,hn⟩;obtain⟨h1,h2⟩:=c7.mp hq;have:=gI p.nd (show(q.1,q.2)∈P from h1);rw[hn,e] at this;rw[qG this];exact fC h2
  .intro z;exact⟨(s.nm,r),c7.mpr ⟨fL e,qR z⟩,rfl⟩
noncomputable abbrev bgE (S:D) (P:bo) (now:ag) (ss:ac StepT) (a b c d:ar Slot):bi:=[oS S,oS (pD P),oS (.int now),oS (.lst ((ss.map (·.nm)).map D.str)),a,b,c,d]
theorem Eh (g:Good bs ss js us ls ks h) (p:PlanOk P) (bg:Bg ss P now):ut [aG bs ss js us ls ks h,pD P,.int now]=aa .(z):=by
 have l1:=p.ln;have l2:=g.sl.2;have lf:(.(V).map (·.1)).length<=20:=by rw[qg];exact qL (zq _ _) l1
 have e4:∀a b c d,aI (aZ (itK (vSh 1)) (aA 0) (toB (b2 ltD (b2 ixD (b2 aO (vSh 2) (vSh 0)) .(d)) (vSh 1))) (vSh 0) [ab,aa 2,aa 1]) (bgE .(b) P now ss a b c d)=aa (.lst (((.(V).map (·.1))).map D.str)):=fun a b c d=>by
  refine gc ((iy (xs:=P.map fun q=>D.str q.1) pJ (by rw[qg];omega) rfl (kC (d:=fun q:aj×aj×ag=>D.str q.1) (p:=fun q=>decide (q.2.2<now)) (r:=fun q=>D.str q.1) (fun ρ=>∃a,ρ=[a,oS (.int now),oS (pD P)]) P _ (fun q hq ρ hI=>by obtain⟨a,rfl⟩:=hI;exact⟨_,rfl,aY (au (au (au rfl rfl (cu (gI p.nd (show(q.1,q.2)∈P from hq)))) rfl cw) rfl rfl),fun _=>rfl,_,rfl⟩) ⟨_,rfl⟩)).trans ?_)
  rw[qp];rfl
 have e5:∀b c d,aI (aZ (itF (vSh 4)) (aA 0) (toB (b2 dX (vSh 0) (vSh 1))) (vSh 0) [ab,aa 3]) (bgE .(b) P now ss (aa (.sh (.lst (((.(V).map (·.1))).map D.str)))) b c d)=aa (.lst []):=fun b c d=>by
  refine gc ((iy (xs:=((.(V).map (·.1))).map D.str) rfl (by rw[qg];omega) rfl (kC (d:=D.str) (p:=fun x=>!decide (x∈ss.map (·.nm))) (r:=D.str) (fun ρ=>∃a,ρ=[a,oS (.lst ((ss.map (·.nm)).map D.str))]) (.(V).map (·.1)) _ (fun x hx ρ hI=>by obtain⟨a,rfl⟩:=hI;obtain⟨q,hq,rfl⟩:=bC.mp hx;exact⟨_,rfl,aY (au rfl rfl (sW (p.kn q (c7.mp hq).1) g.snn)),fun _=>rfl,_,rfl⟩) ⟨_,rfl⟩)).trans ?_)
  rw[z9.mpr fun x hx=>?_]
  .rfl
  .obtain⟨q,hq,rfl⟩:=bC.mp hx;obtain⟨h1,h2⟩:=c7.mp hq;obtain⟨s,hs,en,_⟩:=bg q h1 (fC h2);rw[qR (bC.mpr ⟨s,hs,en⟩)];exact qt
 have e6:∀b c d,aI (aZ (itF (vSh 3)) (aA 0) (toB (b2 fz (vSh 0) (vSh 1))) (vSh 0) [ab,aa 4]) (bgE .(b) P now ss (aa (.sh (.lst (((.(V).map (·.1))).map D.str)))) b c d)=aa .(z):=fun b c d=>by
  refine gc (iy (xs:=ss.map nmD) (dh (by rw[←uz];rfl)) (by rw[qg];omega) rfl (kC (d:=nmD) (p:=cB P now) (r:=nmD) (fun ρ=>∃a,ρ=[a,aa (.sh (.lst (((.(V).map (·.1))).map D.str)))]) ss _ (fun s hs ρ hI=>by obtain⟨a,rfl⟩:=hI;refine⟨_,rfl,aY (au rfl rfl ((mR (g.s s hs).nm fun y hy=>?_).trans (by rw[LZ p]))),fun _=>rfl,_,rfl⟩;obtain⟨q,hq,rfl⟩:=bC.mp hy;exact p.kn q (c7.mp hq).1) ⟨_,rfl⟩))
 obtain⟨ρ',e7,d',rfl⟩:=eF (gg:=aA 7) (body:=sIf (orT (toB (b2 ltD (b2 ixD (b2 aO (vSh 1) (vSh 7)) .(d)) .(e))) (toB (b2 isD (cF mH (ae (vSh 0) (ae (vSh 7) (ae (b2 ixD (b2 aO (vSh 1) (vSh 7)) .(e)) ak)))) (vC .non)))) sNo aK) (xs:=(ss.filter (cB P now)).map nmD) (ρ:=bgE .(b) P now ss (aa (.sh (.lst (((.(V).map (·.1))).map D.str)))) (oS (.lst [])) (oS .(z)) ab)
  (fun _ ρ=>∃d,ρ=bgE .(b) P now ss (aa (.sh (.lst (((.(V).map (·.1))).map D.str)))) (oS (.lst [])) (oS .(z)) d) ⟨_,rfl⟩ (fun i x ρ hx hI=>by
   obtain⟨d,rfl⟩:=hI;obtain⟨s,hsf,rfl⟩:=bC.mp (qO hx);obtain⟨hs,hb⟩:=c7.mp hsf;unfold cB at hb;cases e:lk P s.nm with
   |none=>rw[e] at hb;cases hb
   |some q=>
    rw[e] at hb;obtain⟨t,ht,en,z0,zw⟩:=bg _ (fL e) (fC hb);have z0:0<=q.2:=z0;have et:=sR g.sn ht hs en;subst et;obtain⟨l,hl⟩:=eN.mp zw;have el:=yc g ht q.1;rw[show lk t.ws q.1=aa l from hl] at el;exact⟨_,_,rfl,(bN (oK (aY (au (au (au rfl rfl (cu e)) rfl cw) rfl (cJ (aa ∘ D.bl) (qM .(f))))) (aY (au (aU (ay rfl (ay rfl (ay (au (au rfl rfl (cu e)) rfl cI) aL))) el) rfl rfl)))).trans rfl,oS (.str t.nm),rfl⟩)
 refine bM (n:=5) (ρ':=bgE .(b) P now ss (aa (.sh (.lst (((.(V).map (·.1))).map D.str)))) (oS (.lst [])) (oS .(z)) d') (ds:=[aG bs ss js us ls ks h,pD P,.int now]) [oS .(b),oS (pD P),oS (.int now),ab,ab,ab,ab,ab] rfl ((a9 (gV .(r) rfl aL (uy g.sl.2))).trans ((a9 (e4 ab ab ab ab)).trans ((a9 (e5 ab ab ab)).trans ((fD (aY (au (aU (ay rfl aL) rfl) rfl rfl))).trans ((a9 (e6 _ ab ab)).trans ((bX ((dH rfl).trans e7)).trans (bU rfl)))))))
end
theorem Ci (ns:ac ag):∀k j,j<=k->ns.getD j 0<=ns.getD (fW (btG ns) k) 0
 |0,j,h=>by
  have e:j=0:=by omega
  subst e;exact pH _
 |k+1,j,h=>by
  have ih:=Ci ns k;show ns.getD j 0<=ns.getD (if btG ns (k+1) (fW (btG ns) k)=ah then k+1 else fW (btG ns) k) 0;split
  .rename_i hb;have hb:ns.getD (fW (btG ns) k) 0<ns.getD (k+1) 0:=fC hb;rcases ik k j with q|q
   .have e:j=k+1:=by omega
    subst e;exact pH _
   .have:=ih j q;omega
  .rename_i hb;have hb:¬ns.getD (fW (btG ns) k) 0<ns.getD (k+1) 0:=fun z=>hb (qR z);rcases ik k j with q|q
   .have e:j=k+1:=by omega
    subst e;omega
   .exact ih j q
theorem Jt {ns:ac ag} (h:ns≠[]) (l:ag):jQ ns<=l↔∀x∈ns,x<=l:=by
 have hl:0<ns.length:=sN.mpr h;constructor
 .intro z x hx;obtain⟨j,hj,e⟩:=SL hx;have:=Ci ns (ns.length-1) j .(f);rw[kX (i:=j),qC hj] at this;unfold jQ at z;rw[←e];exact FY this z
 .intro z;have hlt:fW (btG ns) (ns.length-1)<ns.length:=by have:=wK (btG ns) (ns.length-1);omega
  unfold jQ;rw[kX,qC hlt];exact z _ (pp hlt)
section
variable {bs:ac BenchT} {M:bo}
theorem JJ {r:aj×ag} (hq:ba q.1=ah) (hr:ba r.1=ah):neA (pT q) (pT r)=aa (.bl (!decide (q=r))):=by
 have s:∀{q:aj×ag},ba q.1=ah->pdD (pT q)=aa (.tuple [.str q.1,.int q.2])/\eA (.tuple [.str q.1,.int q.2])=ah:=fun {q} hq=>⟨by simp[pT,pdD,gA],by simp[eA,kY,j2,sT hq,mf,nD]⟩;have e:mv (pT q) (pT r)=aa (.bl (!decide (q=r))):=by
  unfold mv eqX;rw[(s hq).1,(s hr).1,qc,qc,qY ⟨(s hq).2,(s hr).2⟩];have:il (.tuple [.str q.1,.int q.2]) (.tuple [.str r.1,.int r.2])=decide (q=r):=by obtain⟨a,b⟩:=q;obtain⟨c,d⟩:=r;rw[jh];simp[il,lc,Prod.ext_iff]
  rw[this];rfl
 exact e
noncomputable def mvB (P M:bo) (s:StepT):aQ:=match lk P s.nm with
 |some q=>!decide ((bnt M s.nm,stt M s.nm)=q)
 |none=>ao
theorem Gh (P:bo) (E:ac (aj×ag)):mM (eD E)=if E=[] then ab else aa (.int (jQ (E.map (·.2)))):=by show(iN ((tb D.int E).map (·.2))).bind _=_;unfold tb;rw[qp];rw[show((fun x:Key×D=>x.2) ∘ fun q:aj×ag=>((.inr q.1:Key),D.int q.2))=fun q=>D.int q.2 from rfl,u4,qc];cases E<;>rfl
structure Whole (ss:ac StepT) (M:bo):Prop where
 p:PlanOk M
 u:Full ss M
 o:OnB ss M
theorem Whole.told (g:Good bs ss js us ls ks h) (w:Whole ss M):Tld ss M (bq ss M):=by
 have e0:plc ss M=ss:=SU.mpr w.u.a;have T:=uL g w.o
 rwa [e0] at T
theorem pY {r:bi} {l:ac StepT} {p:StepT->aQ} (h1:fi ρ=aa (l.map nmD)) (hl:l.length<=1000) (h3:fy fv ρ=ab::r) (hp:∀s∈l,ft (oS (nmD s)::r)=aa (p s)):aI (aZ fi (aA 0) ft (vSh 0) fv) ρ=aa (.lst ((l.filter p).map nmD)):=
 gc (iy (xs:=l.map nmD) h1 (by rw[qg];exact hl) h3 (kC (d:=nmD) (p:=p) (r:=nmD) (fun ρ=>∃a,ρ=a::r) l _ (fun s hs ρ hI=>by obtain⟨a,rfl⟩:=hI;exact⟨_,rfl,hp s hs,fun _=>rfl,_,rfl⟩) ⟨_,rfl⟩))
theorem Ak {r:bi} {l:ac StepT} {p:StepT->aQ} (h1:fi ρ=aa (l.map nmD)) (hl:l.length<=1000) (h3:fy fv ρ=ab::r) (hp:∀s∈l,fe (oS (nmD s)::r)=aa (.bl (p s))):toB (cF jD (ae (aI (aZ fi (aA 0) tT fe fv)) ak)) ρ=aa (l.any p):=by
 have e:aI (aZ fi (aA 0) tT fe fv) ρ=aa (.lst (l.map fun s=>D.bl (p s))):=gc (iy (xs:=l.map nmD) h1 (by rw[qg];exact hl) h3 (mj (d:=nmD) (r:=fun s=>D.bl (p s)) (fun ρ=>∃a,ρ=a::r) l _ (fun s hs ρ hI=>by obtain⟨a,rfl⟩:=hI;exact⟨_,rfl,rfl,hp s hs,_,rfl⟩) ⟨_,rfl⟩))
 refine aY (aU (ay e aL) ?_);show(iO _).map _=_;rw[wq];show aa (D.bl _)=_;rw[F5];rfl
theorem rh {p:StepT->aQ} (g:Good bs ss js us ls ks h):(ss.filter p).length<=40:=qL (zq _ _) g.sl.2
theorem AX {p:StepT->aQ} (g:Good bs ss js us ls ks h):∀y∈(ss.filter p).map (·.nm),ba y=ah:=fun y hy=>by obtain⟨s,hs,rfl⟩:=bC.mp hy;exact(g.s s (c7.mp hs).1).nm
theorem DU {p:StepT->aQ} (g:Good bs ss js us ls ks h) {s:StepT} (hs:s∈ss):decide (s.nm∈(ss.filter p).map (·.nm))=p s:=by
 rw[jh,l0,bC];constructor
 .rintro⟨t,ht,e⟩;obtain⟨h1,h2⟩:=c7.mp ht;rw[sR g.sn h1 hs e] at h2;exact h2
 .exact fun z=>⟨s,c7.mpr ⟨hs,z⟩,rfl⟩
theorem BN {s:StepT} (hb:cB P now s=ah):∃q,lk P s.nm=aa q/\q.2<now:=by
 unfold cB at hb;cases e:lk P s.nm with
 |none=>rw[e] at hb;cases hb
 |some q=>rw[e] at hb;exact⟨q,rfl,fC hb⟩
noncomputable def mm (P M:bo) (now:ag) (s:StepT):aQ:=if cB P now s=ah then mvB P M s else decide (stt M s.nm<now)
noncomputable def lJ (ss:ac StepT) (P M:bo) (now lim:ag):aQ:=!ss.any fun s=>decide (lim<ent (bq ss M) s.nm) || mm P M now s
theorem sY {s:StepT} (p:PlanOk P) (w:Whole ss M) (T:Tld ss M (bq ss M)) (hs:s∈ss) (hq:lk P s.nm=aa q):neA (pT (bnt M s.nm,stt M s.nm)) (pT q)=aa (.bl (mvB P M s)):=by unfold mvB;rw[hq];exact JJ (w.p.bn _ (fL (T.gp hs))) (p.bn _ (fL hq))
end
section
variable {bs:ac BenchT} {M:bo}
theorem AI (g:Good bs ss js us ls ks h) (h0:vSh 0 ρ=aa .(b)):itF .(P) ρ=aa (ss.map nmD):=pV g h0
noncomputable def lfB (P:bo) (now:ag) (s:StepT):aQ:=(lk P s.nm).isSome && !cB P now s
theorem NG (g:Good bs ss js us ls ks h):yu [aG bs ss js us ls ks h,pD P,.lst ((ss.filter (cB P now)).map nmD)]=aa (.lst ((ss.filter (lfB P now)).map nmD)):=
 bM (n:=0) (ds:=[aG bs ss js us ls ks h,pD P,.lst ((ss.filter (cB P now)).map nmD)]) [oS .(b),oS (pD P),oS .(z)] rfl (bU (pY (r:=[oS (pD P),oS .(z)]) (AI g rfl) (by have:=g.sl.2;omega) rfl fun s hs=>Dr (aY (au rfl rfl tm)) (aY (au rfl rfl ((by rw[←uz];exact sW (g.s s hs).nm (AX g):dX (nmD s) .(z)=aa (.bl (!decide (s.nm∈(ss.filter (cB P now)).map (·.nm))))).trans (by rw[DU g hs]))))))
theorem Jg (g:Good bs ss js us ls ks h) (p:PlanOk P) (bg:Bg ss P now) (w:Whole ss M):wC [aG bs ss js us ls ks h,pD P,.int now,pD M]=aa (.lst (((ss.filter (lfB P now)).filter (mvB P M)).map nmD)):=by have T:=w.told g;refine bM (n:=1) (ds:=[aG bs ss js us ls ks h,pD P,.int now,pD M]) (ρ':=[oS .(b),oS (pD P),oS (.int now),oS (pD M),oS .(z)]) [oS .(b),oS (pD P),oS (.int now),oS (pD M),ab] rfl ((a9 (aU (ay rfl .(k)) (Eh g p bg))).trans (bU (pY (r:=[oS (pD M),oS (pD P)]) (dh (aU (ay rfl .(k)) (NG g))) (by have:=rh (p:=lfB P now) g;omega) rfl fun s hs=>?_)));obtain⟨hs',hl⟩:=c7.mp hs;unfold lfB at hl;rw[fU] at hl;obtain⟨q,hq⟩:=eN.mp hl.1;exact aY (au (au rfl rfl (cu (T.gp hs'))) (au rfl rfl (cu hq)) (sY p w T hs' hq))
theorem Po (g:Good bs ss js us ls ks h) (hl:ss.length<=20) (w:Whole ss M):∃r,iV [aG bs ss js us ls ks h,pD M]=aa (r.getD .non)/\GO r:=by
 have hs:=Qd w.u;cases e:ss.findSome? (jI h M) with
 |some t=>exact⟨aa t,Kx g w.p (fun _=>w.u.a) (by rw[hs,e];rfl),e▸BH g⟩
 |none=>
  refine⟨_,Lw g w.p hl (MU g hs e) hs e,?_⟩;rw[DF];exact(((((Av g).or (Ds g)).or (Bi g)).or (EB g)).or (D0 g)).or (GS g)
theorem MR (g:Good bs ss js us ls ks h) (w:Whole ss M):(!(ss.filter (cB P now)).any (mvB P M) && (!(ss.filter fun s=>!cB P now s).any (fun s=>decide (stt M s.nm<now)) && decide (jQ ((bq ss M).map (·.2))<=lim)))=lJ ss P M now lim:=by
 have T:=w.told g;have ne:(bq ss M).map (·.2)≠[]:=fun z=>by obtain⟨s,l,e⟩:=F9 g.sl.1;have:=fL (T.ge (s:=s) (by rw[e];exact .head _));rw[SQ.mp z] at this;cases this
 have key:(∀x∈(bq ss M).map (·.2),x<=lim)↔∀s∈ss,ent (bq ss M) s.nm<=lim:=by
  constructor
  .exact fun z s hs=>z _ (bC.mpr ⟨_,fL (T.ge hs),rfl⟩)
  .intro z x hx;obtain⟨q,hq,rfl⟩:=bC.mp hx;obtain⟨s,hs,e⟩:=o8.mp hq;have hq':lk (bq ss M) q.1=aa q.2:=gI ((yF M ss).nodup g.sn) hq;have en:=A9 e;have:=z s hs;unfold ent at this;rw[←en,hq'] at this;exact this
 unfold lJ mm;rw[jh];simp only[fU,vR,y6,l0,c7,Jt ne,key];constructor
 .rintro⟨h1,h2,h3⟩ s hs z;rw[pj,l0] at z;rcases z with z|z
  .have:=h3 s hs;omega
  .split at z
   .rename_i hb;exact h1 s ⟨hs,hb⟩ z
   .rename_i hb;exact h2 s ⟨hs,by cases q:cB P now s with|true=>exact bK q hb|false=>rfl⟩ (fC z)
 .intro z;refine⟨fun s ⟨hs,hb⟩ hm=>z s hs ?_,fun s ⟨hs,hb⟩ hm=>z s hs ?_,fun s hs=>?_⟩
  .rw[qY hb,hm,z5]
  .rw[hb,qZ qt,qR hm,z5]
  .have:=z s hs;rw[pj,l0] at this;omega
noncomputable abbrev sdE (S:D) (P:bo) (now lim:ag) (M:bo) (a b:ar Slot):bi:=[oS S,oS (pD P),oS (.int now),oS (.int lim),oS (pD M),a,b]
theorem Lb (g:Good bs ss js us ls ks h) (p:PlanOk P) (bg:Bg ss P now) (w:Whole ss M) {r:ar D} (er:iV [aG bs ss js us ls ks h,pD M]=aa (r.getD .non)) (gr:GO r):tM [aG bs ss js us ls ks h,pD P,.int now,.int lim,pD M]=aa (.bl (r.isNone && lJ ss P M now lim)):=by
 have T:=w.told g;have t1:∀b,toB (b2 jM (cF iV (ae (vSh 0) (ae (vSh 4) ak))) (vC .non)) (sdE .(b) P now lim M (oS .(z)) b)=aa (!r.isNone):=fun b=>aY (au (aU .(k) er) rfl (cJ (fun z=>aa (D.bl (!z))) gr.non));have t2:∀b,toB (cF jD (ae (aI (aZ (itF (vSh 5)) (aA 0) tT (b2 neA (b2 aO (vSh 1) (vSh 0)) (b2 aO (vSh 2) (vSh 0))) [ab,aa 4,aa 1])) ak)) (sdE .(b) P now lim M (oS .(z)) b)=aa ((ss.filter (cB P now)).any (mvB P M)):=fun b=>Ak (r:=[oS (pD M),oS (pD P)]) rfl (by have:=rh (p:=cB P now) g;omega) rfl fun s hs=>by obtain⟨hs',hb⟩:=c7.mp hs;obtain⟨q,hq,_⟩:=BN hb;exact au (au rfl rfl (cu (T.gp hs'))) (au rfl rfl (cu hq)) (sY p w T hs' hq)
 have e6:∀b,aI (aZ (itF .(P)) (aA 0) (toB (b2 dX (vSh 0) (vSh 1))) (vSh 0) [ab,aa 5]) (sdE .(b) P now lim M (oS .(z)) b)=aa (.lst ((ss.filter fun s=>!cB P now s).map nmD)):=fun b=>pY (r:=[oS .(z)]) (AI g rfl) (by have:=g.sl.2;omega) rfl fun s hs=>aY (au rfl rfl ((by rw[←uz];exact sW (g.s s hs).nm (AX g):dX (nmD s) .(z)=aa (.bl (!decide (s.nm∈(ss.filter (cB P now)).map (·.nm))))).trans (by rw[DU g hs])));have t3:toB (cF jD (ae (aI (aZ (itF (vSh 6)) (aA 0) tT (b2 ltD (b2 ixD (b2 aO (vSh 2) (vSh 0)) .(d)) (vSh 1)) [ab,aa 2,aa 4])) ak)) (sdE .(b) P now lim M (oS .(z)) (aa (.sh (.lst ((ss.filter fun s=>!cB P now s).map nmD)))))=aa ((ss.filter fun s=>!cB P now s).any fun s=>decide (stt M s.nm<now)):=Ak (r:=[oS (.int now),oS (pD M)]) rfl (by have:=rh (p:=fun s=>!cB P now s) g;omega) rfl fun s hs=>au (au (au rfl rfl (cu (T.gp (c7.mp hs).1))) rfl cw) rfl rfl;have ne:bq ss M≠[]:=fun z=>by obtain⟨s,l,e⟩:=F9 g.sl.1;have:=fL (T.ge (s:=s) (by rw[e];exact .head _));rw[z] at this;cases this
 have e7:b1 mM (cF mW (ae (vSh 0) (ae (vSh 4) ak))) (sdE .(b) P now lim M (oS .(z)) (aa (.sh (.lst ((ss.filter fun s=>!cB P now s).map nmD)))))=aa (.int (jQ ((bq ss M).map (·.2)))):=xX (aU .(k) (Dm g w.u.a w.o)) (by rw[Gh M,qZ ne]);rw[←MR g w];have st:∀{c:aQ} {ρ':bi},ax (sIf (toB (b2 jM (cF iV (ae (vSh 0) (ae (vSh 4) ak))) (vC .non))) .(o) aK) .(E) (sdE .(b) P now lim M (oS .(z)) ab)=aa (.rt (.bl c),ρ')->tM [aG bs ss js us ls ks h,pD P,.int now,.int lim,pD M]=aa (.bl c):=fun {c ρ'} e=>bM (n:=2) (ds:=[aG bs ss js us ls ks h,pD P,.int now,.int lim,pD M]) [oS .(b),oS (pD P),oS (.int now),oS (.int lim),oS (pD M),ab,ab] rfl ((a9 (aU (ay rfl .(k)) (Eh g p bg))).trans e);obtain⟨ρ3,e3⟩:=oj (ifF t3) ⟨_,bU (f:=b2 leD (b1 mM (cF mW (ae (vSh 0) (ae (vSh 4) ak)))) (vSh 3)) (au e7 rfl rfl)⟩;obtain⟨ρ2,e2⟩:=oj (ifF (t2 ab)) ⟨_,(a9 (i:=6) (e6 ab)).trans e3⟩;obtain⟨ρ1,e1⟩:=oj (ifF (t1 ab)) ⟨_,e2⟩;rw[SV] at e1;exact st e1
noncomputable abbrev srE (S L:D) (P:bo) (now lim:ag) (M:bo) (a b:ar Slot):bi:=[oS S,oS L,oS (pD P),oS (.int now),oS (.int lim),oS (pD M),a,b]
theorem Gn (g:Good bs ss js us ls ks h) (p:PlanOk P) (w:Whole ss M) {r:ar D} (er:iV [aG bs ss js us ls ks h,pD M]=aa (r.getD .non)) (gr:GO r):wY [aG bs ss js us ls ks h,aF bs ss js us ls ks h,pD P,.int now,.int lim,pD M]=aa (.bl (r.isNone && lJ ss P M now lim)):=by
 have T:=w.told g;have t1:toB (b2 jM (cF iV (ae (vSh 0) (ae (vSh 5) ak))) (vC .non)) (srE .(b) .(a) P now lim M ab ab)=aa (!r.isNone):=aY (au (aU .(k) er) rfl (cJ (fun z=>aa (D.bl (!z))) gr.non));obtain⟨ρ1,e1,b1,rfl⟩:=DN (gg:=aA 7) (body:=.(X)) (d:=fun q:aj×aj×ag=>D.str q.1) (bad:=fun q=>decide (lim<ent (bq ss M) q.1) || mm P M now (mkS q.1))
  (fun ρ=>∃b,ρ=srE .(b) .(a) P now lim M (oS (eD (bq ss M))) b) M (srE .(b) .(a) P now lim M (oS (eD (bq ss M))) ab) (fun q hq ρ=>by
   rintro⟨b,rfl⟩;obtain⟨s,hs,rfl⟩:=C3 w.u hq;have s1:sIf (toB (b2 gtD (b2 aO (vSh 6) (vSh 7)) (vSh 4))) .(o) aK (srE .(b) .(a) P now lim M (oS (eD (bq ss M))) (oS .(v)))=aa (flB (decide (lim<ent (bq ss M) s.nm)),srE .(b) .(a) P now lim M (oS (eD (bq ss M))) (oS .(v))):=ifF (aY (au (au rfl rfl (fY (T.ge hs))) rfl rfl));have s2:sIf (cQ (toB (b2 fR (vSh 7) (vSh 2))) (toB (b2 ltD (b2 ixD (b2 aO (vSh 2) (vSh 7)) .(d)) (vSh 3)))) (sIf (toB (b2 neA (b2 aO (vSh 5) (vSh 7)) (b2 aO (vSh 2) (vSh 7)))) .(o) aK) (sIf (toB (b2 ltD (b2 ixD (b2 aO (vSh 5) (vSh 7)) .(d)) (vSh 3))) .(o) aK) (srE .(b) .(a) P now lim M (oS (eD (bq ss M))) (oS .(v)))=aa (flB (mm P M now s),srE .(b) .(a) P now lim M (oS (eD (bq ss M))) (oS .(v))):=by
    have ti:toB (b2 fR (vSh 7) (vSh 2)) (srE .(b) .(a) P now lim M (oS (eD (bq ss M))) (oS .(v)))=aa (lk P s.nm).isSome:=aY (au rfl rfl tm);have ts:sIf (toB (b2 ltD (b2 ixD (b2 aO (vSh 5) (vSh 7)) .(d)) (vSh 3))) .(o) aK (srE .(b) .(a) P now lim M (oS (eD (bq ss M))) (oS .(v)))=aa (flB (decide (stt M s.nm<now)),srE .(b) .(a) P now lim M (oS (eD (bq ss M))) (oS .(v))):=ifF (aY (au (au (au rfl rfl (cu (T.gp hs))) rfl cw) rfl rfl));unfold mm;cases hb:cB P now s with
    |true=>
     obtain⟨q,e,hlt⟩:=BN hb;rw[e] at ti;exact(bN (b:=ah) (ix ti (aY (au (au (au rfl rfl (cu e)) rfl cw) rfl (cJ (aa ∘ D.bl) (qR hlt)))))).trans (ifF (aY (au (au rfl rfl (cu (T.gp hs))) (au rfl rfl (cu e)) (sY p w T hs e))))
    |false=>
     cases e:lk P s.nm with
     |none=>rw[e] at ti;exact(bN (kc ti)).trans ts
     |some q=>
      rw[e] at ti;unfold cB at hb;rw[e] at hb;exact(bN (b:=ao) (ix ti (aY (au (au (au rfl rfl (cu e)) rfl cw) rfl (cJ (aa ∘ D.bl) hb))))).trans ts
   refine⟨_,_,rfl,?_,oS .(v),rfl⟩;cases ez:decide (lim<ent (bq ss M) s.nm) with
   |true=>
    rw[ez] at s1;refine(yC s1).trans ?_;show _=aa (flB (decide (lim<ent (bq ss M) s.nm) || _),_);rw[ez];rfl
   |false=>
    rw[ez] at s1;refine(bX s1).trans (s2.trans ?_);show _=aa (flB (decide (lim<ent (bq ss M) s.nm) || _),_);rw[ez];rfl) ⟨_,rfl⟩
 have ea:M.any (fun q=>decide (lim<ent (bq ss M) q.1) || mm P M now (mkS q.1))=ss.any fun s=>decide (lim<ent (bq ss M) s.nm) || mm P M now s:=by
  rw[jh,lZ,lZ];constructor
  .rintro⟨q,hq,z⟩;obtain⟨s,hs,rfl⟩:=C3 w.u hq;exact⟨s,hs,z⟩
  .rintro⟨s,hs,z⟩;exact⟨om M s,GK w.u hs,z⟩
 rw[ea] at e1;have i1:itK (vSh 5) (srE .(b) .(a) P now lim M (oS (eD (bq ss M))) ab)=aa (M.map fun q=>D.str q.1):=pJ;obtain⟨ρ2,e2⟩:=oj ((dH i1).trans e1) ⟨_,bU (f:=vC (.bl ah)) rfl⟩;have e0:cF mK (ae (vSh 5) .(K)) (srE .(b) .(a) P now lim M ab ab)=aa (eD (bq ss M)):=aU .(k) (xv g w.o);obtain⟨ρ3,e3⟩:=oj (ifF t1) ⟨_,(a9 (i:=6) e0).trans e2⟩;rw[SV,vQ] at e3;exact bM (n:=2) (ρ':=ρ3) (ds:=[aG bs ss js us ls ks h,aF bs ss js us ls ks h,pD P,.int now,.int lim,pD M]) (srE .(b) .(a) P now lim M ab ab) rfl e3
end
section
variable {bs:ac BenchT} {M Q:bo}
theorem DD (p:PlanOk P):uk (pD P) (pD P)=aa ah:=by show(if (tb pT P).length=(tb pT P).length then mw (tb pT P) (tb pT P) else aa ao)=_;rw[qY rfl];exact CQ P p.bn p.nd P fun _ h=>h
theorem JC (p:PlanOk P) (q:PlanOk M):u9 (.lst [pD P,pD M]) (.lst [pD P,pD M])=aa (.bl ah):=by show(if kr _ _=ah then _ else _)=_;rw[qY];unfold kr kr kr;rw[DD p,DD q];rfl
theorem LJ {l:ac aj} (hl:∀x∈l,ba x=ah):eqA (.lst (l.map D.str)) (.lst (l.map D.str))=aa (.bl ah):=by
 have s:=Dc hl;have e:mU (.lst (l.map D.str)) (.lst (l.map D.str))=aa (.bl ah):=by unfold mU eqX;rw[show pdD (.lst (l.map D.str))=aa (.list (l.map fH)) by simp[pdD,rD],qc,qc,qY ⟨s,s⟩];show aa (D.bl (lc _ _))=_;rw[uW,qR rfl]
 exact e
noncomputable abbrev akE (S L:D) (P:bo) (now lim:ag) (M:bo) (a b c d:ar Slot):bi:=[oS S,oS L,oS (pD P),oS (.int now),oS (.int lim),oS (pD M),a,b,c,d]
theorem Ju (l:ac StepT):((l.filter fun s=>(lk P s.nm).isSome).filter fun s=>decide (now<=stt P s.nm))=l.filter (lfB P now):=by
 rw[List.filter_filter];refine SG fun s _=>?_;unfold lfB cB stt;cases e:lk P s.nm with
 |none=>rw[Bool.and_comm];rfl
 |some q=>
  show(decide (now<=q.2) && ah)=(ah && !decide (q.2<now));rw[vQ,nI,←vV];exact z8.mpr Int.not_lt.symm
theorem Az (g:Good bs ss js us ls ks h) (hl:ss.length<=20) (p:PlanOk P) (bg:Bg ss P now) (w:Whole ss M):ox [aG bs ss js us ls ks h,aF bs ss js us ls ks h,pD P,.int now,.int lim,pD M]=aa (.bl ah):=by
 have T:=w.told g;obtain⟨r,er,gr⟩:=Po g hl w;have ne1:∀b:aQ,neA (.bl b) (.bl b)=aa (.bl ao):=by intro b;cases b<;>rfl
 have e9:∀c d,aI (aZ (itF (b2 ixD (vSh 1) .(d))) (aA 0) (toB (b2 fR .(q) (vSh 1))) .(q) [ab,aa 2]) (akE .(b) .(a) P now lim M (oS (.lst [pD P,pD M])) (oS (.bl (r.isNone && lJ ss P M now lim))) c d)=aa (.lst ((ss.filter fun s=>(lk P s.nm).isSome).map nmD)):=fun c d=>by
  refine gc (iy (xs:=ss.map bJ) (dh (au rfl rfl (ixL _ 1))) (by rw[qg];omega) rfl (kC (d:=bJ) (p:=fun s=>(lk P s.nm).isSome) (r:=nmD) (fun ρ=>∃a,ρ=[a,oS (pD P)]) ss _ (fun s hs ρ hI=>by obtain⟨a,rfl⟩:=hI;exact⟨_,rfl,aY (au (au rfl rfl cI) rfl tm),fun _=>au rfl rfl cI,_,rfl⟩) ⟨_,rfl⟩))
 have e10:∀c,aI (aZ (itF (vSh 9)) (aA 0) (toB (b2 geD (b2 ixD (b2 aO (vSh 2) (vSh 0)) .(d)) (vSh 1))) (vSh 0) [ab,aa 3,aa 2]) (akE .(b) .(a) P now lim M (oS (.lst [pD P,pD M])) (oS (.bl (r.isNone && lJ ss P M now lim))) c (aa (.sh (.lst ((ss.filter fun s=>(lk P s.nm).isSome).map nmD)))))=aa (.lst ((ss.filter (lfB P now)).map nmD)):=fun c=>by rw[←Ju];refine pY (r:=[oS (.int now),oS (pD P)]) (p:=fun s=>decide (now<=stt P s.nm)) rfl (by have:=rh (p:=fun s=>(lk P s.nm).isSome) g;omega) rfl fun s hs=>?_;obtain⟨hs',hq⟩:=c7.mp hs;obtain⟨q,hq⟩:=eN.mp hq;unfold stt;rw[hq];exact aY (au (au (au rfl rfl (cu hq)) rfl cw) rfl rfl)
 have e11:∀c,aI (aZ (itF (vSh 9)) (aA 0) (toB (b2 neA (b2 aO (vSh 1) (vSh 0)) (b2 aO (vSh 2) (vSh 0)))) (vSh 0) [ab,aa 5,aa 2]) (akE .(b) .(a) P now lim M (oS (.lst [pD P,pD M])) (oS (.bl (r.isNone && lJ ss P M now lim))) c (oS (.lst ((ss.filter (lfB P now)).map nmD))))=aa (.lst (((ss.filter (lfB P now)).filter (mvB P M)).map nmD)):=fun c=>by refine pY (r:=[oS (pD M),oS (pD P)]) rfl (by have:=rh (p:=lfB P now) g;omega) rfl fun s hs=>?_;obtain⟨hs',hl⟩:=c7.mp hs;unfold lfB at hl;rw[fU] at hl;obtain⟨q,hq⟩:=eN.mp hl.1;exact aY (au (au rfl rfl (cu (T.gp hs'))) (au rfl rfl (cu hq)) (sY p w T hs' hq))
 have e12:eqA (.lst (((ss.filter (lfB P now)).filter (mvB P M)).map nmD)) (.lst (((ss.filter (lfB P now)).filter (mvB P M)).map nmD))=aa (.bl ah):=by rw[←uz];refine LJ fun y hy=>?_;obtain⟨s,hs,rfl⟩:=bC.mp hy;exact(g.s s (c7.mp (c7.mp hs).1).1).nm
 refine bM (n:=4) (ds:=[aG bs ss js us ls ks h,aF bs ss js us ls ks h,pD P,.int now,.int lim,pD M]) (ρ':=akE .(b) .(a) P now lim M (oS (.lst [pD P,pD M])) (oS (.lst (((ss.filter (lfB P now)).filter (mvB P M)).map nmD))) (oS (.bl (r.isNone && lJ ss P M now lim))) (oS (.lst ((ss.filter (lfB P now)).map nmD)))) (akE .(b) .(a) P now lim M ab ab ab ab) rfl
  ((a9 (d:=.lst [pD P,pD M]) (gc (mS (ay (aU (ay rfl aL) rfl) (ay (aU (ay rfl aL) rfl) aL)) (show 2<=1000 by decide)))).trans
  ((a9 (aU (ay rfl (ay rfl (ay rfl (ay rfl .(k))))) (Gn g p w er gr))).trans
  ((a9 (aU (ay rfl (ay (au rfl rfl (ixL _ 0)) (ay rfl (ay rfl (ay (au rfl rfl (ixL _ 1)) aL))))) (Lb g p bg w er gr))).trans
  ((fD (oK (lI (aY (b:=ah) (aU .(k) rfl))) (aY (au rfl rfl (ne1 _))))).trans
  ((a9 (e9 _ ab)).trans ((a9 (e10 _)).trans ((a9 (e11 _)).trans (bU (xD (au (aU (ay rfl (ay (au rfl rfl (ixL _ 0)) (ay rfl (ay (au rfl rfl (ixL _ 1)) aL)))) (Jg g p bg w)) rfl e12) (au rfl (gc (mS .(k) (show 2<=1000 by decide))) (JC p w.p)))))))))))
end
section
variable {bs:ac BenchT} {M Q:bo}
noncomputable abbrev poE (ns:ac ag) (L:D) (Q:bo) (ds:ac ag) (s:StepT):bi:=[oS (.scr ns),oS (.int 23),oS L,aa (.odk (tb pT Q)),oS .(u),oS .(v),oS (.str s.kd),oS (.lst (s.ws.map dW))]
theorem yx {ns ds:ac ag} {s:StepT} {fv:FE} {b:aQ} {v:aj×ag} (p:PlanN n Q) (hn:n<=50) (hq:(lk Q s.nm).isSome=ah) (hs:ba s.nm=ah) (ht:ft (poE ns L Q ds s)=aa b) (hv:fv (poE ns L Q ds s)=aa (pT v)) (hb:ba v.1=ah):∃Q',sIf ft (fm 3 (vSh 5) fv) aK (poE ns L Q ds s)=aa (.nx,poE ns L Q' ds s)/\PlanN n Q'/\(lk Q' s.nm).isSome=ah:=by
 cases b with
 |false=>exact⟨Q,(bN ht).trans rfl,p,hq⟩
 |true=>exact⟨_,(bN ht).trans (n4 (i:=3) (f:=pT) (l:=Q) (x:=s.nm) rfl hv rfl (by have:=p.ln;omega)),p.old hq hs hb,by rw[rm,qY rfl];rfl⟩
theorem tz {ns ds:ac ag} {s:StepT} (hq:lk Q s.nm=aa q):gQ 3 (vSh 5) (poE ns L Q ds s)=aa (pT q):=by show cr (tb pT Q) (.inr s.nm)=_;rw[fN,hq];rfl
theorem GE (g:Good bs ss js us ls ks h) (hh:h<=1000) (hl:ss.length<=20) (ns:ac ag):∃Q,wc [.scr ns,.int 23,aF bs ss js us ls ks h]=aa (pD Q)/\PlanN (ss.length+1) Q:=by
 have l1:=g.sl;have l2:=g.bl;have zn:ba "zz"=ah:=by decide +kernel
 obtain⟨P,eP,bp,u⟩:=B1 g hh hl;obtain⟨ds,e1,e2,e3⟩:=lx (ns.getD 23 0) 3 .(f) [4,(ss.length:ag),9,3,(bs.length:ag),4] (by simp;omega) (show 6<=100 by decide);obtain⟨d0,h0,a0,b0⟩:=e3 0 _ rfl;obtain⟨d1,h1,a1,b1'⟩:=e3 1 _ rfl;obtain⟨d2,h2,a2,b2'⟩:=e3 2 _ rfl;obtain⟨d3,h3,a3,b3⟩:=e3 3 _ rfl;obtain⟨d4,h4,a4,b4⟩:=e3 4 _ rfl;obtain⟨d5,h5,a5,b5⟩:=e3 5 _ rfl;obtain⟨s,hs⟩:∃s,ss[d1.toNat]?=aa s:=⟨_,qC (show d1.toNat<ss.length by omega)⟩;obtain⟨bn,hbn⟩:∃b,bs[d4.toNat]?=aa b:=⟨_,qC (show d4.toNat<bs.length by omega)⟩;have hsm:=qO hs;have gs:=g.s s hsm;have nn:=(g.b bn (qO hbn)).nm;obtain⟨w,hw,ew⟩:=KG (f:=dW) (l:=s.ws) (fun z=>by have:=gs.l1;rw[z] at this;cases this);have wn:=g.bnn _ (gs.ws w hw).1;have tt:∀(k:al) (d m:ag) Q,ds[k]?=aa d->toB (b2 eqD (b2 ixD (vSh 4) (vC (.int (k:ag)))) (vC (.int m))) (poE ns .(a) Q ds s)=aa (decide (d=m)):=fun k d m Q hk=>aY (au (cC (n:=k) rfl hk) rfl (eqi _ _));have eb:∀Q,b2 ixD (b2 ixD (b2 ixD (vSh 2) .(e)) (b2 ixD (vSh 4) .(l))) .(e) (poE ns .(a) Q ds s)=aa (.str bn.nm):=fun Q=>au (au (au rfl rfl (ixL _ 0)) (cC (n:=4) rfl h4) (tL a4 (x:=cx bn) (by rw[ql,hbn];rfl))) rfl cI;obtain⟨q0,hq0⟩:=eN.mp (u.a s hsm);obtain⟨Q1,s1,p1,u1⟩:=yx (fv:=bc (szF (ae (b2 ixD (gQ 3 (vSh 5)) .(e)) (ae (b2 ic (b2 aX (b2 ixD (gQ 3 (vSh 5)) .(d)) (b2 ixD (vSh 4) .(j))) .(i)) ak)))) (v:=(q0.1,q0.2+d2-3)) bp.n .(f) (u.a s hsm) gs.nm (tt 0 d0 1 P h0) (ff (au (tz hq0) rfl cI) (au (au (au (tz hq0) rfl cw) (cC (n:=2) rfl h2) rfl) rfl rfl)) (bp.n.bn _ (fL hq0));obtain⟨q1,hq1⟩:=eN.mp u1;obtain⟨Q2,s2,p2,u2⟩:=yx (fv:=bc (szF (ae (b2 ixD (b2 ixD (vSh 7) (b1 uj .(d))) .(e)) (ae (b2 ixD (gQ 3 (vSh 5)) .(d)) ak)))) (v:=(w.1,q1.2)) p1 .(f) u1 gs.nm (tt 0 d0 2 Q1 h0) (ff (au (au rfl (xX rfl rfl) ew) rfl cI) (au (tz hq1) rfl cw)) wn;obtain⟨q2,hq2⟩:=eN.mp u2;obtain⟨z,hz,ez⟩:∃z,ba z=ah/\b2 ixD (aI (szF (ae .(Z) (ae (vC (.str "zz")) ak)))) (b2 bF (b2 ixD (vSh 4) .(j)) .(j)) (poE ns .(a) Q2 ds s)=aa (.str z):=by
  have el:aI (szF (ae .(Z) (ae (vC (.str "zz")) ak))) (poE ns .(a) Q2 ds s)=aa (.lst [.str bn.nm,.str "zz"]):=gc (mS (ay (eb Q2) (ay rfl aL)) (show 2<=1000 by decide));rcases SW d2 with e|e
  .exact⟨bn.nm,nn,au (y:=.int 0) el (au (cC (n:=2) rfl h2) rfl ((df .(h)).trans (by rw[e]))) (ixL _ 0)⟩
  .exact⟨"zz",zn,au (y:=.int 1) el (au (cC (n:=2) rfl h2) rfl ((df .(h)).trans (by rw[e]))) (ixL _ 1)⟩
 obtain⟨Q3,s3,p3,u3⟩:=yx (fv:=bc (szF (ae (b2 ixD (aI (szF (ae .(Z) (ae (vC (.str "zz")) ak)))) (b2 bF (b2 ixD (vSh 4) .(j)) .(j))) (ae (b2 ixD (gQ 3 (vSh 5)) .(d)) ak)))) (v:=(z,q2.2)) p2 .(f) u2 gs.nm (tt 0 d0 3 Q2 h0) (ff ez (au (tz hq2) rfl cw)) hz;obtain⟨Q4,s4,p4⟩:∃Q4,sIf (toB (b2 eqD (b2 ixD (vSh 4) .(i)) .(d))) (tW 3 (vSh 5)) aK (poE ns .(a) Q3 ds s)=aa (.nx,poE ns .(a) Q4 ds s)/\PlanN ss.length Q4:=by
  have t:=tt 3 d3 1 Q3 h3;cases e:decide (d3=1) with
  |false=>rw[e] at t;exact⟨Q3,(bN t).trans rfl,p3⟩
  |true=>
   rw[e] at t;refine⟨dp Q3 s.nm,(bN t).trans ?_,p3.dp s.nm⟩;show(if (cr (tb pT Q3) (.inr s.nm)).isSome=ah then aa (Fl.nx,List.set (poE ns .(a) Q3 ds s) 3 (aa (.odk ((tb pT Q3).filter fun kv=>decide (kv.1≠.inr s.nm))))) else ab)=_;rw[qY (by rw[fN,nv];exact u3),MN];rfl
 obtain⟨Q5,s5,p5⟩:∃Q5,sIf (toB (b2 eqD (b2 ixD (vSh 4) (vC (.int 5))) .(d))) (fm 3 (vC (.str "zz")) (bc (szF (ae .(Z) (ae (b2 ixD (vSh 4) .(j)) ak))))) aK (poE ns .(a) Q4 ds s)=aa (.nx,poE ns .(a) Q5 ds s)/\PlanN (ss.length+1) Q5:=by
  have t:=tt 5 d5 1 Q4 h5;cases e:decide (d5=1) with
  |false=>rw[e] at t;exact⟨Q4,(bN t).trans rfl,p4.up .(f)⟩
  |true=>rw[e] at t;exact⟨_,(bN t).trans (n4 (i:=3) (f:=pT) (l:=Q4) (x:="zz") (v:=(bn.nm,d2)) rfl (ff (eb Q4) (cC (n:=2) rfl h2)) rfl (by have:=p4.ln;omega)),p4.pt zn nn⟩
 have ed:cF dZ (ae (cF dY (ae (vSh 0) .(K))) (ae .(i) (ae (aI (szF (ae .(l) (ae (cF b9 (ae (b2 ixD (vSh 2) .(d)) ak)) (ae (vC (.int 9)) (ae .(i) (ae (cF b9 (ae (b2 ixD (vSh 2) .(e)) ak)) (ae .(l) ak)))))))) ak))) [oS (.scr ns),oS (.int 23),oS .(a),aa (.odk (tb pT P)),ab,ab,ab,ab]=aa .(u):=
  aU (ay (aU .(k) (jA ns 23)) (ay rfl (ay (gc (mS (ay rfl (ay ((uR (au rfl rfl (ixL _ 1))).trans (by rw[qg])) (ay rfl (ay rfl (ay ((uR (au rfl rfl (ixL _ 0))).trans (by rw[qg])) (ay rfl aL)))))) (show 6<=1000 by decide))) aL))) e1
 have ea:eJ (b6 3 (aT (aA 5) (aT (aA 6) (aT (aA 7) bZ)))) (b2 ixD (b2 ixD (vSh 2) .(d)) (b2 ixD (vSh 4) .(d))) [oS (.scr ns),oS (.int 23),oS .(a),aa (.odk (tb pT P)),oS .(u),ab,ab,ab]=aa (.nx,poE ns .(a) P ds s):=u8 (d:=bJ s) (au (au rfl rfl (ixL _ 1)) (cC (n:=1) rfl h1) (tL a1 (by rw[ql,hs];rfl))) rfl;exact⟨Q5,bM (n:=5) (ds:=[.scr ns,.int 23,aF bs ss js us ls ks h]) [oS (.scr ns),oS (.int 23),oS .(a),ab,ab,ab,ab,ab] rfl ((bX (vW (ay rfl aL) eP)).trans ((a9 ed).trans ((bX ea).trans ((bX s1).trans ((bX s2).trans ((bX s3).trans ((bX s4).trans ((bX s5).trans ((oV rfl).trans (bU rfl)))))))))),p5⟩
noncomputable def iY (ws:ac (aj×ag)):D:=.dk (tb D.int ws)
noncomputable def inW (ss:ac StepT) (x b:aj):aQ:=match lk (ss.map fun s=>(s.nm,s.ws)) x with
 |some ws=>(lk ws b).isSome
 |none=>ao
theorem L5 (g:Good bs ss js us ls ks h):eZ [.lst (ss.map fun s=>.tup [.str s.nm,iY s.ws])]=aa (.dk (tb iY (ss.map fun s=>(s.nm,s.ws)))):=by
 have kn:((ss.map fun s=>((.inr s.nm:Key),iY s.ws)).map (·.1)).Nodup:=by rw[qp];have:=nK (S:=fun a b:Key=>a≠b) (cG:aj->Key) (fun a b hab z=>hab (gF z)) g.sn;rw[qp] at this;exact this
 show(if _ then _ else _)=_;rw[qY (by rw[qg];have:=g.sl.2;omega),nR,qf,n5 kn];unfold tb;rw[qp];rfl
noncomputable abbrev btE (P:bo) (L:D) (now:ag) (W:D) (a b c:ar Slot):bi:=[oS (pD P),oS L,oS (.int now),oS W,a,b,c]
theorem Hd (g:Good bs ss js us ls ks h) (p:PlanOk P):∃b,rQ [pD P,aF bs ss js us ls ks h,.int now]=aa (.bl b)/\(b=ah->Bg ss P now):=by
 have e0:cF eZ (ae (aI (aZ (itF (b2 ixD (vSh 1) .(d))) (aA 0) tT (bc (szF (ae .(q) (ae (cF eZ (ae (b2 ixD (vSh 0) .(j)) ak)) ak)))) [ab])) ak) [oS (pD P),oS .(a),oS (.int now),ab,ab,ab,ab]=aa (.dk (tb iY (ss.map fun s=>(s.nm,s.ws)))):=by
  refine aU (ay (gc (iy (xs:=ss.map bJ) (dh (au rfl rfl (ixL _ 1))) (by rw[qg];have:=g.sl.2;omega) rfl (mj (d:=bJ) (r:=fun s=>.tup [.str s.nm,iY s.ws]) (fun ρ=>∃a,ρ=[a]) ss _ (fun s hs ρ hI=>by obtain⟨a,rfl⟩:=hI;exact⟨_,rfl,rfl,ff (au rfl rfl cI) (aU (ay (au rfl rfl i8) aL) (Dh (by have:=(g.s s hs).l4;omega) (g.s s hs).nd)),_,rfl⟩) ⟨_,rfl⟩))) aL) (L5 g)
 obtain⟨ρ1,e1,a1,b1,c1,rfl⟩:=DN (gg:=aA 4) (body:=(ax (eJ (b6 2 .(au)) (b2 aO (vSh 0) (vSh 4))) (sIf (cQ (toB (b2 ltD (vSh 6) (vSh 2))) (orT (toB (b2 ltD (vSh 6) .(e))) (toB (b2 mB (vSh 5) (b3 jd (vSh 3) (vSh 4) (vC (.fdk []))))))) .(o) aK))) (d:=fun q:aj×aj×ag=>D.str q.1) (bad:=fun q=>decide (q.2.2<now) && (decide (q.2.2<0) || !inW ss q.1 q.2.1))
  (fun ρ=>∃a b c,ρ=btE P .(a) now (.dk (tb iY (ss.map fun s=>(s.nm,s.ws)))) a b c) P (btE P .(a) now (.dk (tb iY (ss.map fun s=>(s.nm,s.ws)))) ab ab ab) (fun q hq ρ=>by
   rintro⟨a,b,c,rfl⟩;refine⟨_,_,rfl,(bX (u8 (d:=pT q.2) (au rfl rfl (cu (gI p.nd (show(q.1,q.2)∈P from hq)))) rfl)).trans (ifF (Dr (aY .(O)) (rH (aY .(O)) ?_))),oS (.str q.1),oS (.str q.2.1),oS (.int q.2.2),rfl⟩;unfold inW;cases e:lk (ss.map fun s=>(s.nm,s.ws)) q.1 with
   |none=>
    refine aY (au (y:=.fdk []) rfl (tj rfl rfl rfl ?_) rfl);show aa ((cr (tb iY _) (.inr q.1)).getD (.fdk []))=_;rw[fN,e];rfl
   |some ws=>
    refine aY (au (y:=iY ws) rfl (tj rfl rfl rfl ?_) ?_)
    .show aa ((cr (tb iY _) (.inr q.1)).getD (.fdk []))=_;rw[fN,e];rfl
    .show aa (D.bl (!(cr (tb D.int ws) (.inr q.2.1)).isSome))=_;rw[fN,nv]) ⟨_,_,_,rfl⟩
 have i1:itK (vSh 0) (btE P .(a) now (.dk (tb iY (ss.map fun s=>(s.nm,s.ws)))) ab ab ab)=aa (P.map fun q=>D.str q.1):=pJ;obtain⟨ρ2,e2⟩:=oj ((dH i1).trans e1) ⟨_,bU (f:=vC (.bl ah)) rfl⟩;refine⟨_,bM (n:=4) (ρ':=ρ2) (ds:=[pD P,aF bs ss js us ls ks h,.int now]) [oS (pD P),oS .(a),oS (.int now),ab,ab,ab,ab] rfl ((a9 e0).trans e2),fun z q hq hlt=>?_⟩;rw[vQ,vR,y6] at z;have:=z q hq;rw[qR hlt,nI,pj,l0] at this;have w:inW ss q.1 q.2.1=ah:=by
  cases e:inW ss q.1 q.2.1 with
  |true=>rfl
  |false=>rw[e] at this;exact bK (.inr rfl) this
 unfold inW at w;cases e:lk (ss.map fun s=>(s.nm,s.ws)) q.1 with
 |none=>rw[e] at w;cases w
 |some ws=>
  rw[e] at w;obtain⟨s,hs,es⟩:=bC.mp (fL e);obtain⟨en,ew⟩:=FM es;exact⟨s,hs,en,by omega,by rw[ew];exact w⟩
theorem CM {B:ag} (bp:BPlan ss n B P):Bg ss P now:=fun q hq _=>by obtain⟨s,hs,e⟩:=bC.mp (bp.k q hq);exact⟨s,hs,e,(bp.b q hq).1,bp.o s hs q.2 (by rw[e];exact gI bp.n.nd hq)⟩
end
noncomputable abbrev lwF (ns:ac ag) (h:ag) (L S:D) (P:bo) (now:ag) (W:bo) (a b c:ar Slot):bi:=[oS (.scr ns),oS (.int h),oS L,oS S,oS (pD P),oS (.int now),oS (pD W),a,b,c]
theorem Gx (ns:ac ag) (hns:ns.length<=63):BD [.scr ns]=aa (.bl ah):=by
 have c20:0<=(ns.getD 20 0)%33/\(ns.getD 20 0)%33<33:=by omega
 have c22:0<=(ns.getD 22 0)%6/\(ns.getD 22 0)%6<6:=by omega
 obtain⟨n,hn⟩:∃n:al,1+(ns.getD 22 0)%6=(n:ag):=⟨(1+(ns.getD 22 0)%6).toNat,by omega⟩;obtain⟨bs,ss,js,us,ls,ks,el,g,jl,sl⟩:=Ko ns n (8+ns.getD 20 0%33) 5 .(f) .(f) .(h);have ml:(js.flatMap (·.ms)).length<=300:=by have:=xu (f:=fun j:JobT=>j.ms) (m:=10) (l:=js) fun j hj=>qL (g.j j hj).ln (by rw[qg];exact sl);omega
 obtain⟨W,eW,bw,uw⟩:=B1 g .(f) .(f);obtain⟨P0,e0,p0⟩:=GE g .(f) .(f) ns;have e20:b2 aX (vC (.int 8)) (b2 bF (cF dY (ae (vSh 0) (ae (vC (.int 20)) ak))) (vC (.int 33))) [oS (.scr ns),ab,ab,ab,ab,ab,ab,ab,ab,ab]=aa (.int (8+ns.getD 20 0%33)):=au rfl (au (aU .(k) (jA ns 20)) rfl (df .(h))) rfl;have eS:=MD g ml;have hp:0<8+ns.getD 20 0%33+1:=by omega
 generalize 8+ns.getD 20 0%33=h at el g e20 eW e0 eS hp;have e22:b2 aX .(d) (b2 bF (cF dY (ae (vSh 0) (ae (vC (.int 22)) ak))) (vC (.int 6))) [oS (.scr ns),oS (.int h),ab,ab,ab,ab,ab,ab,ab,ab]=aa (.int (n:ag)):=au rfl (au (aU .(k) (jA ns 22)) rfl (df .(h))) (by rw[←hn];rfl);have e24:b2 bF (cF dY (ae (vSh 0) (ae (vC (.int 24)) ak))) (b2 aX (vSh 1) .(d)) [oS (.scr ns),oS (.int h),oS .(a),oS .(b),oS (pD P0),ab,ab,ab,ab,ab]=aa (.int (ns.getD 24 0%(h+1))):=au (aU .(k) (jA ns 24)) .(O) (df hp);generalize ns.getD 24 0%(h+1)=now at e24;have pW:PlanOk W:=bw.n.ok .(f);obtain⟨tb0,et0,kt0⟩:=Hd (now:=now) g (p0.ok .(f));obtain⟨P,eP,pP,bP⟩:∃P,sIf (bD (toB (cF rQ (ae (vSh 4) (ae (vSh 2) (ae (vSh 5) ak)))))) (aJ 4 (vSh 6)) aK (lwF ns h .(a) .(b) P0 now W ab ab ab)=aa (.nx,lwF ns h .(a) .(b) P now W ab ab ab)/\PlanOk P/\Bg ss P now:=by
  have t:=lI (aY (f:=cF rQ (ae (vSh 4) (ae (vSh 2) (ae (vSh 5) ak)))) (ρ:=lwF ns h .(a) .(b) P0 now W ab ab ab) (aU (ay rfl .(k)) et0));cases tb0 with
  |true=>exact⟨P0,(bN t).trans rfl,p0.ok .(f),kt0 rfl⟩
  |false=>exact⟨W,(bN t).trans rfl,pW,CM bw⟩
 obtain⟨ρ',e1,a,b,c,h1⟩:=eF (gg:=aA 7) (body:=.(H)) (xs:=([0,ns.getD 25 0]++eB ns (aa 26) (aa 55)).map D.int) (ρ:=lwF ns h .(a) .(b) P now W ab ab ab)
  (fun _ ρ=>∃a b c,ρ=lwF ns h .(a) .(b) P now W a b c) ⟨_,_,_,rfl⟩ (fun i x ρ hx hI=>by
   obtain⟨a,b,c,rfl⟩:=hI;rw[ql] at hx;obtain⟨z,_,rfl⟩:=oMd hx;obtain⟨M,eM,pM,uM,oM⟩:=PZ g bw.n .(f) uw bw.o z;have wM:Whole ss M:=⟨pM.ok .(f),uM,oM⟩;obtain⟨lim,eL⟩:∃lim:ag,b2 ixD (aI (szF (ae (vSh 1) (ae (b2 bF (b2 dF (vSh 7) .(j)) (b2 aX (vSh 1) .(d))) ak)))) (b2 bF (vSh 7) .(j)) (lwF ns h .(a) .(b) P now W (oS (.int z)) (oS (pD M)) c)=aa (.int lim):=by
    have e:aI (szF (ae (vSh 1) (ae (b2 bF (b2 dF (vSh 7) .(j)) (b2 aX (vSh 1) .(d))) ak))) (lwF ns h .(a) .(b) P now W (oS (.int z)) (oS (pD M)) c)=aa (.lst [.int h,.int (z / 2%(h+1))]):=gc (mS (ay rfl (ay (au (au rfl rfl (m5 .(h))) .(O) (df hp)) aL)) (show 2<=1000 by decide));rcases SW z with e2|e2
    .exact⟨_,au (y:=.int 0) e (au rfl rfl ((df .(h)).trans (by rw[e2]))) (ixL _ 0)⟩
    .exact⟨_,au (y:=.int 1) e (au rfl rfl ((df .(h)).trans (by rw[e2]))) (ixL _ 1)⟩
   exact⟨_,_,rfl,(a9 (aU (ay rfl .(k)) eM)).trans ((a9 eL).trans ((fD (lI (aY (b:=ah) (aU (ay rfl (ay rfl (ay rfl (ay rfl .(k))))) (Az g .(f) pP bP wM))))).trans ((bN (b:=ao) (lI (aY (b:=ah) (aU (ay rfl (ay rfl (ay rfl (ay (au (au rfl rfl (m5 .(h))) .(O) (df hp)) .(k))))) (Az g .(f) pW (CM bw) wM))))).trans rfl))),oS (.int z),oS (pD M),oS (.int lim),rfl⟩)
 subst h1;have ei:itF (b2 aX (aI (szF (ae .(e) (ae (cF dY (ae (vSh 0) (ae (vC (.int 25)) ak))) ak)))) (slF (vSh 0) (pS (vC (.int 26))) (pS (vC (.int 55))))) (lwF ns h .(a) .(b) P now W ab ab ab)=aa (([0,ns.getD 25 0]++eB ns (aa 26) (aa 55)).map D.int):=by have hc:=L6 (l:=ns) (lo:=aa 26) (hi:=aa 55);rw[jp];exact dh (au (x:=.lst ([0,ns.getD 25 0].map D.int)) (y:=.lst ((eB ns (aa 26) (aa 55)).map D.int)) (gc (mS (ay rfl (ay (aU .(k) (jA ns 25)) aL)) (show 2<=1000 by decide))) rfl (IA (by rw[qg,qg];show 2+_<=1000;omega)))
 exact bM (n:=9) (ds:=[.scr ns]) [oS (.scr ns),ab,ab,ab,ab,ab,ab,ab,ab,ab] rfl ((a9 e20).trans ((a9 (aU (ay rfl (ay e22 .(k))) el)).trans ((a9 (aU (ay rfl aL) eS)).trans ((a9 (aU (ay rfl .(k)) e0)).trans ((a9 e24).trans ((bX (vW (ay rfl aL) eW)).trans ((oV rfl).trans ((bX eP).trans ((bX ((dH ei).trans e1)).trans (bU rfl))))))))))
noncomputable def yr (K:bu):Sp:=fun vs H Q _=>∃(a:av) (ns:ac ag),vs=[.ref a]/\SqL K H a (ns.map V.int)/\ns.length<=63/\∀H',Q (.bl ah) H'
theorem all_mk {l:Fk} {h:Heap} {fa:av} (X:K.In h) (G:h.Ns gd mg) (hfa:mg "law"=aa (.ref fa))
  (aC_Shop:zD K gd "Shop"=aa (aa (.ref C_Shop)))
  (pg_Shop:vt K C_Shop gi=ah) (hd_Shop:y7 K C_Shop=ah) (po_Shop:EW K C_Shop=ah) (sa_Shop:dN K (.ref C_Shop) "__setattr__"=aa (aa (.builtin "object.__setattr__"))) (mk_Shop:y9 K C_Shop=ah) (kc_Shop:iI K (.ref C_Shop)=ah)
  (n0_Shop:dN K (.ref C_Shop) "benches"=aa ab)
  (n1_Shop:dN K (.ref C_Shop) "steps"=aa ab)
  (n2_Shop:dN K (.ref C_Shop) "jobs"=aa ab)
  (n3_Shop:dN K (.ref C_Shop) "setups"=aa ab)
  (n4_Shop:dN K (.ref C_Shop) "links"=aa ab)
  (n5_Shop:dN K (.ref C_Shop) "stocks"=aa ab)
  (n6_Shop:dN K (.ref C_Shop) "horizon"=aa ab)
  (n7_Shop:dN K (.ref C_Shop) "bench_by_name"=aa ab)
  (n8_Shop:dN K (.ref C_Shop) "step_by_name"=aa ab)
  (n9_Shop:dN K (.ref C_Shop) "setup_by_names"=aa ab)
  (n10_Shop:dN K (.ref C_Shop) "job_by_step"=aa ab)
  (a84:zD K gd "law"=aa (aa (.ref f84))) (l84:K.lookup f84=aa ⟨oc84,od84,.func (gW "law" "law" (hZ (top 98)) (dS (top 98)) (aS (top 98)) .none kV84 dc84 pm84 an84 cd84 ct84),sl84⟩) (c84:si K cd84 "law"=ah) (k84:iI K (.ref f84)=ah)
  (V:Vd K mg C_Shop)
 : ∃fd:nj,(∀(s:aH) (v:Value),se s fd ⟨[v],[]⟩ [("_law_script",v)])/\∀base:Heap,K.In base->base.Ns gd mg->FnOk l.prog w K mg base CX0 15 fa fd ["_law_script"] (yr K):=by
 have e:=hfa.symm.trans (zE X G a84);have e2:=Value.ref.inj (qG e);subst e2;have O_Shop:ClsOk .(n) K mg "Shop" C_Shop:=⟨by unfold Gam;rfl,⟨pg_Shop,hd_Shop,po_Shop,sa_Shop⟩,zE X G aC_Shop,mk_Shop,kc_Shop⟩;have cf_Shop:CF .(n) K "Shop" Al:=O_Shop.cf (j5.mpr ⟨n0_Shop,(j5.mpr ⟨n1_Shop,(j5.mpr ⟨n2_Shop,(j5.mpr ⟨n3_Shop,(j5.mpr ⟨n4_Shop,(j5.mpr ⟨n5_Shop,(j5.mpr ⟨n6_Shop,(j5.mpr ⟨n7_Shop,(j5.mpr ⟨n8_Shop,(j5.mpr ⟨n9_Shop,(j5.mpr ⟨n10_Shop,(List.forall_mem_nil _)⟩)⟩)⟩)⟩)⟩)⟩)⟩)⟩)⟩)⟩)⟩);have V:Vw K mg C_Shop:={V with O_Shop,cf_Shop};refine⟨gW "law" "law" (hZ (top 98)) (dS (top 98)) (aS (top 98)) .none kV84 dc84 pm84 an84 cd84 ct84,fun s v=>.of_eq rfl,fun base _ _=>?_⟩;have FL:=wf (st:=top 98) l84 c84 k84;have ok:FnOk l.prog w K mg base CX0 15 fa _ ["_law_script"] (spF .(n) K 1 BD):=FL.okD (k:=14) je (OB V fa);refine ok.imp fun vs H Q E hq=>?_;obtain⟨a,ns,rfl,hS,hlen,k⟩:=hq;exact⟨H,[.scr ns],.bl ah,bT.refl H,.cons (.scr hS) .nil,rfl,Gx ns hlen,fun v G' H' _ r=>by rw[r.bl_inv];exact k H'⟩
theorem walk {l:Fk} {q:bV} {d:zv} {K:zu->bu} (hn:l.most=aa 63) (hdf:d.params.defaults=[])
  (hY:∀(w:cR) (h:Heap),YP w h->(K w.params).In h)
  (F:∀(w:cR) (mg:aj->ar Value) (fa:av) (h:Heap),(K w.params).In h->h.Ns gd mg->mg d.name=aa (.ref fa)->
   ∃fd:nj,(∀(s:aH) (u:Value),se s fd ⟨[u],[]⟩ [("_law_script",u)])/\∀base:Heap,(K w.params).In base->base.Ns gd mg->FnOk l.prog w (K w.params) mg base CX0 15 fa fd ["_law_script"] (yr (K w.params))) :
  Ru q loose XP YP l.row.toRowW d [] (fun f vs=>zx f vs):=
 L2.walk_of (n:=63) (k:=15) (x:="_law_script") (CX:=fun _=>CX0) (sp:=fun w=>yr (K w.params)) hn .(h) hdf ⟨rfl,by decide,by decide⟩ hY F (fun _ _ a ns hl _ hS=>⟨a,ns,rfl,hS,hl,fun _=>rfl⟩) fun _ _ _ _ _ z=>z
end Law
end L2
namespace PySem.W.Fast
def tw4381582575592970863:=()
def tw2500205493019975291:=()
def tw2720899995253686285:=()
def tw13088461644058005734:=()
def tw11303583313837569494:=()
def tw16901358242451815434:=()
def tw14890655610282208544:=()
def tw4102603659794087595:=()
def tw13593406386271202754:=()
def tw15054189477210045754:=()
def tw4096549459875819412:=()
def tw6747455092954039096:=()
def tw1228892698616193316:=()
def tw11446913451176851617:=()
def tw3924605516236883736:=()
def tw14639621177916285669:=()
def tw8426234497235386986:=()
def tw1304867033585581536:=()
def tw13298600431217546277:=()
def tw4795954689271035484:=()
def tw7585346033971865249:=()
def tw8373207737674563392:=()
def tw1077317009841142535:=()
def tw11864685657559959941:=()
def tw14757152181529845096:=()
def tw3195328198891135307:=()
def tw10833596515602823295:=()
def tw5734975498036829376:=()
def tw16664062226418868397:=()
def tw15874507144600263577:=()
def tw5422689618880384987:=()
def tw3883499878099800589:=()
def tw12760439362791693836:=()
def tw2888886954040454440:=()
def tw14881849737805981811:=()
def tw8235679453065901670:=()
def tw33139478090286480:=()
def tw4781394003298409225:=()
def tw16816055149327965584:=()
def tw11582581801486627631:=()
def tw11943626538666743288:=()
def tw4128897335771995112:=()
def tw5279867639841250721:=()
def tw9752138373602025064:=()
def tw8608684990237770689:=()
def tw9873618382820216514:=()
def tw14752989099401620621:=()
def tw997311218056986347:=()
def tw4622176898291395321:=()
def tw17517077188514836513:=()
def tw4651708249315036169:=()
def tw10568598714272816198:=()
def tw765193902973645542:=()
def tw511103610322767552:=()
def tw4137660144932539135:=()
def tw3257122315086136853:=()
def tw10431347190567053720:=()
def tw17755714478590629074:=()
def tw3228452433365844763:=()
def tw6341752809948569032:=()
def tw17580606051839274260:=()
def tw7475016725592353650:=()
def tw14408510860049018414:=()
def tw15668612753838631592:=()
def tw2953818642447760291:=()
def tw4557668108825352585:=()
def tw1482073254419409879:=()
def tw6981564866164529206:=()
def tw5872060247809846828:=()
def tw6603444259632716654:=()
def tw14220903420429577587:=()
def tw12345288063812669447:=()
def tw3043189503706218765:=()
def tw15266751686934587325:=()
def tw8690888078463157464:=()
def tw13793027809295923303:=()
def tw14095439131492738282:=()
def tw7409331737580426426:=()
def tw3821668348237647442:=()
def tw7207667401676281661:=()
def tw14553581180327817929:=()
def tw14189565775926766994:=()
def tw4833500550950040576:=()
def tw3470291540212006987:=()
def tw4055511862668694793:=()
def tw17354917350651614109:=()
def tw13775498699228576188:=()
def tw14585814983317864876:=()
def tw14492570510422741628:=()
def tw2269158246176213016:=()
def tw14997642979249650905:=()
def tw12004699684967226687:=()
def tw12983244474354322559:=()
def tw6232424169591841484:=()
def tw907966322433141143:=()
def tw15187450506428213526:=()
def tw16817843429206873214:=()
def tw4701864938772881180:=()
def tw2223531165722225487:=()
def tw14789089306127573552:=()
def tw3060424294298409241:=()
def tw9778920743243509601:=()
def tw15399147062127936013:=()
def tw9248720221760674622:=()
def tw1572700741845715430:=()
def tw11545818432060974503:=()
def tw905551963732074671:=()
def tw3493831987316196394:=()
def tw2386547220119891863:=()
def tw18114537869798348031:=()
def tw8685865316253548819:=()
def tw16931257938975595242:=()
def tw11248324454582812006:=()
def tw6380019028954004769:=()
def tw1035167578464070573:=()
def tw16304763545656933190:=()
def tw1463107108892806751:=()
def tw8007938838885794832:=()
def tw7182661706097776963:=()
def tw17624888565039345041:=()
def tw6759067752492274030:=()
def tw9210193501455415513:=()
def tw2645398714276447111:=()
def tw15958024599156013180:=()
def tw7939615391158047169:=()
def tw1257998402623037191:=()
def tw6243560223350017691:=()
def tw14709661464806636802:=()
def tw4730621183828337118:=()
def tw1499244094238862568:=()
def tw6838445104762716872:=()
def tw16293328865660806123:=()
def tw16942892219884221722:=()
def tw2005476124109769317:=()
def tw17310730252957474409:=()
def tw6946708269656699702:=()
def tw7932629070704342228:=()
def tw6468086729464925746:=()
def tw4903247438413714002:=()
def tw4633334231498829365:=()
def tw3589909440463478657:=()
def tw3960001302668087413:=()
def tw13609317971001118819:=()
def tw1222977584256192104:=()
def tw16242883432613621515:=()
def tw66413417860738234:=()
def tw17868143248967509333:=()
def tw10010883454077264443:=()
def tw18179396604944549443:=()
def tw10144128050776246429:=()
def tw8871085379467236719:=()
def tw11038117306857408228:=()
def tw5730979957443977463:=()
def tw4090807706374260337:=()
def tw12224043289274732707:=()
def tw7361973598045909990:=()
def tw10714045313124738995:=()
def tw18196680701233740660:=()
def tw3105332950711321376:=()
def tw17416561860380521983:=()
def tw11113903472316835291:=()
def tw3863329962579535110:=()
def tw13487882016305442830:=()
def tw7341604087997240823:=()
def tw6503335340424091339:=()
def tw9790600948500451319:=()
def tw9348329717309537144:=()
def tw16593790079490102342:=()
def tw3594597445442870389:=()
def tw7977060193465465552:=()
def tw12934044845584310727:=()
def tw17436303938561073291:=()
def tw17002664330914675228:=()
def tw2652654500745360046:=()
def tw10059543142195864420:=()
def tw3909398380484581958:=()
def tw9268990685695530373:=()
def tw6229972586656337550:=()
def tw9914702655359580139:=()
def tw13567065052374858509:=()
def tw17856372577375340960:=()
def tw3873029990360551760:=()
def tw14873670042315608488:=()
def tw15493326158385010677:=()
def tw12050748881320848784:=()
def tw4654997691328057594:=()
def tw17622485677618240587:=()
def tw10667114030393203514:=()
def tw5120000202631931446:=()
def tw11020838089611956099:=()
def tw1014988071290875761:=()
def tw825482866248332557:=()
def tw12844862965100492059:=()
def tw16573915649695699381:=()
def tw7793360460298175181:=()
def tw2686358832721859311:=()
def tw8585533123230267874:=()
def tw8414100342729359842:=()
def tw17029932736842487901:=()
def tw14062721028425832937:=()
def tw5061599464072968991:=()
def tw831288237304557535:=()
def tw17077592603301331933:=()
def tw15319644641094822059:=()
def tw2645547459157678214:=()
def tw4544811005283099759:=()
def tw12453395409042394042:=()
def tw12134224425866931658:=()
def tw18027123403806232381:=()
def tw4363757288962960471:=()
def tw13577013999579452139:=()
def tw8630713193411497610:=()
def tw1113250937696413023:=()
def tw1151543965185818273:=()
def tw11385086704125847643:=()
def tw2694531638752169664:=()
def tw13685897191711739304:=()
def tw14579863752198778103:=()
def tw4737042906684068721:=()
def tw9943506704821524059:=()
def tw2008328383214653404:=()
def tw15027732734053930739:=()
def tw4292430624861213166:=()
def tw12521617788928683884:=()
def tw124767554931006378:=()
def tw669103087706416103:=()
def tw2331441679484038370:=()
def tw293164855136372062:=()
def tw14877034770912593750:=()
def tw9381804715598292322:=()
def tw17040706679976651399:=()
def tw9034403198324538460:=()
def tw18074823080291989547:=()
def tw1323636564608819892:=()
def tw320371236992329566:=()
def tw2322851020130175160:=()
def tw3319130698719692430:=()
def tw7039123107033609280:=()
def tw4038664611386144870:=()
def tw16120682850923195410:=()
def tw2046770753048276763:=()
def tw8044696282369182825:=()
def tw17930205214252562671:=()
def tw7960663243666991175:=()
def tw1536268913968067986:=()
def tw7121607169454054966:=()
def tw5294800094599482274:=()
def tw3000948755534375720:=()
def tw642579732557860727:=()
def tw12386337430846510369:=()
def tw1622901004507675421:=()
def tw2436548179707375160:=()
def tw15932578445428309627:=()
def tw2802189904196015178:=()
def tw18206585832187735658:=()
def tw17547715453744354478:=()
def tw3846416581013680773:=()
def tw16883708518022251081:=()
def tw14743482872681212680:=()
def tw6689228868939446935:=()
def tw5040809311590036889:=()
def tw4637581306788591886:=()
def tw11974345275729394653:=()
def tw3264503318713670572:=()
def tw501463182152244577:=()
def tw9904093374919174249:=()
def tw17144509456635372514:=()
def tw9096656116026795192:=()
def tw13880478511003716767:=()
def tw12548648880557461662:=()
def tw6874913529873173609:=()
def tw9853226368580627199:=()
def tw3815737191787107847:=()
def tw10546162936662444032:=()
def tw11838801852277165186:=()
def tw7086848157453702343:=()
def tw11195196476885638644:=()
def tw12217070691165899214:=()
def tw3978956657690846729:=()
def tw4888858549912942746:=()
def tw88481385388414427:=()
def tw10855365008665728516:=()
def tw18098767208483208229:=()
def tw4918321649982647528:=()
def tw7569892839377930910:=()
def tw1549134550724370470:=()
def tw6505959238801264489:=()
def tw13230394429470697225:=()
def tw9610867755461476676:=()
def tw6797441649372382700:=()
def tw2570780220079420611:=()
def tw10247948571056191482:=()
def tw17056054347844933651:=()
def tw11583481841874314322:=()
def tw2953495857873373153:=()
def tw5985399827898471789:=()
def tw13545850402763889518:=()
def tw10595107282950496030:=()
def tw16964866845537491559:=()
def tw3321695008594508131:=()
def tw10215679085031127562:=()
def tw15153920466646666996:=()
def tw15894185111096092690:=()
def tw8859565806362553248:=()
def tw18095705624340569158:=()
def tw1513849501777325540:=()
def tw17832382560066088253:=()
def tw16887600008692847366:=()
def tw5771336301001365064:=()
def tw3727158724167224516:=()
def tw17971056243377278846:=()
def tw7053606116283621362:=()
def tw17011059460909829739:=()
def tw17376192091803977688:=()
def tw11644240856791393820:=()
def tw14691266243262378838:=()
def tw5838322992071911443:=()
def tw10465875963680960490:=()
def tw4540697853417660245:=()
def tw8043729774535728031:=()
def tw1477916137822670277:=()
def tw3525243135360966771:=()
def tw10994069399777742571:=()
def tw9013923281740525497:=()
def tw13225611185124071474:=()
def tw2535949115281307969:=()
def tw15533493361218563958:=()
def tw9657370823092577937:=()
def tw8735326388715715880:=()
def tw9009772224641854397:=()
def tw11662030062567708815:=()
def tw1827591355887218891:=()
def tw17216609493646771582:=()
def tw16216997780110643614:=()
def tw8739748356031635224:=()
def tw334894932514010202:=()
def tw9521305196248402341:=()
def tw12280137483222162815:=()
def tw13873086546529365866:=()
def tw11179013638244460561:=()
def tw11741375097474379721:=()
def tw16908406044606982782:=()
def tw5397388127787380744:=()
def tw12242261078204435789:=()
def tw16384884773914988985:=()
def tw13717532580735702465:=()
def tw14939961668728733251:=()
def tw9524362547296626183:=()
def tw5834713808021861513:=()
def tw9704618068763198512:=()
def tw5430778324795943077:=()
def tw4977416878343401494:=()
def tw17140582120340092624:=()
def tw12042369274191615044:=()
def tw15127175034480094228:=()
def tw2064252636661183693:=()
def tw8083009199011989767:=()
def tw172949824601649886:=()
def tw5019997590984711108:=()
def tw7246004099665371733:=()
def tw9077760620231682321:=()
def tw2508448789595149926:=()
def tw6306840525192436096:=()
def tw852798026678342770:=()
def tw1521517750489182770:=()
def tw12757738202307389460:=()
def tw3795450301628770034:=()
def tw9071715917554589075:=()
def tw7515685309226692344:=()
def tw15728551211171346390:=()
def tw13900348434760851749:=()
def tw17001632373239684671:=()
def tw8388460928523692027:=()
def tw17051630015793531135:=()
def tw6442824960895147334:=()
def tw15421440760905660164:=()
def tw13634228056783515323:=()
def tw8743068144677201465:=()
def tw6945735748439514122:=()
def tw1399990424986121849:=()
def tw4694481722570155960:=()
def tw12805430501512652518:=()
def tw15369155531012953789:=()
def tw13822410431011708280:=()
def tw10175369489213448589:=()
def tw17431574389291373529:=()
def tw4625183450305920349:=()
def tw5596631744701449113:=()
def tw10740029616572730373:=()
def tw16731421220643395204:=()
def tw6841528218306432858:=()
def tw1476933193822007009:=()
def tw1716021919594926724:=()
def tw2693507933961629048:=()
def tw805418119668324629:=()
def tw14874207303550219065:=()
def tw15074575164757491584:=()
def tw13378148399986410996:=()
def tw17813666244586831942:=()
def tw14720215058655447467:=()
def tw1293363842601920292:=()
def tw15328203312544924525:=()
def tw7320854686051966867:=()
def tw13211061972631577025:=()
def tw5101412134158891044:=()
def tw10546070593496324067:=()
def tw3127482537983337360:=()
def tw319255514699445879:=()
def tw7265408409754186151:=()
def tw14169401324434141654:=()
def tw8348317297361837660:=()
def tw14104478000210191012:=()
def tw6354562258991663096:=()
def tw13674951620547148991:=()
def tw1929917552279901087:=()
def tw16416087645350764268:=()
def tw4166842830688465556:=()
def tw536273239017611636:=()
def tw18426669724599390765:=()
def tw9202784659739394925:=()
def tw10875243093810938057:=()
def tw10182658622248050152:=()
def tw1755255623115701371:=()
def tw2520984064473586133:=()
def tw14625315551701682364:=()
def tw4892822483124000243:=()
def tw8037753859558025291:=()
def tw10289053662450644337:=()
def tw591281994514257720:=()
def tw5159691664134191211:=()
def tw13047007896821163321:=()
def tw9164407676633599825:=()
def tw17474249334366376059:=()
def tw17816159199913005617:=()
def tw18416504899132651393:=()
def tw8066830148687607837:=()
def tw15944891301460550799:=()
def tw11200195200068231334:=()
def tw165872900257012976:=()
def tw6178561479257808930:=()
def tw12956734105706983438:=()
def tw12997817434541674339:=()
def tw15742293453881274346:=()
def tw9823891818160271649:=()
def tw268644591809232429:=()
def tw13490125245871713447:=()
def tw1828324300560586849:=()
def tw4560134704911998986:=()
def tw13485308249136766378:=()
def tw1931036431234327158:=()
def tw7145662822109937081:=()
def tw9191170396059213363:=()
def tw5654886833588673191:=()
def tw3255676986089352181:=()
def tw12301765330145318270:=()
def tw16222459296592260109:=()
def tw6543149501654916024:=()
def tw1276381898433733198:=()
def tw11825242393911262840:=()
def tw5500262479592376541:=()
def tw16308490410650355023:=()
def tw4242185375680898583:=()
def tw4921489135846487767:=()
def tw9477683939717825275:=()
def tw5529123508708573678:=()
def tw9035378389662356330:=()
def tw3637913032384870847:=()
def tw11568543988698343182:=()
def tw15185581075230604133:=()
def tw77495689288665639:=()
def tw13264564593027608602:=()
def tw6978011030454049126:=()
def tw90302679577231003:=()
def tw8422118239636819908:=()
def tw15525312235791925394:=()
def tw16908472718690810295:=()
def tw12083881312553411309:=()
def tw4421426102936417504:=()
def tw6280891908752144221:=()
def tw6729560708495399298:=()
def tw576653259692029969:=()
def tw8371732218772493275:=()
def tw6781074356682344817:=()
def tw12382968051966970496:=()
def tw17781614986466495674:=()
def tw17659017494647214062:=()
def tw17473003804020418179:=()
def tw2193563562866102998:=()
def tw17454700856905694820:=()
def tw15820149296261387797:=()
def tw221956088627375513:=()
def tw15759280575784224080:=()
def tw11961731391855014757:=()
def tw4617922205267398687:=()
def tw7084005696543273440:=()
def tw13365502362702919727:=()
def tw2275822444866355256:=()
def tw14436342465490036210:=()
def tw6043916422612657945:=()
def tw16553744784853059937:=()
def tw8803103957733224091:=()
def tw16969262017433125273:=()
def tw5157255411024260624:=()
def tw17713253396458293466:=()
def tw17460109196333968292:=()
def tw4941888231378442812:=()
def tw13980597350206058583:=()
def tw2151262174982636285:=()
def tw17583805420838423127:=()
def tw11245101186385192577:=()
def tw12203305467724768688:=()
def tw17534607292698735180:=()
def tw4949283690620697080:=()
def tw7234651437240207950:=()
def tw3195328830070949666:=()
def tw13552551663117464592:=()
def tw7770013316291151269:=()
def tw3112005828928345030:=()
def tw17267355777370617712:=()
def tw15036937073941645939:=()
def tw15532457339430540744:=()
def tw2036538213535704877:=()
def tw3214400722196093633:=()
def tw3816791736310397647:=()
def tw6825199814908829582:=()
def tw6450579049612168590:=()
def tw3597466813762391115:=()
def tw15779509245825032892:=()
def tw7564878577273175813:=()
def tw10285820469431228350:=()
def tw5612508214483810189:=()
def tw14900165618410554962:=()
def tw8738061109170719987:=()
def tw5969381904592100733:=()
def tw3670010861282688183:=()
def tw11811622544822497929:=()
def tw2122759415968465244:=()
def tw15428663011678505298:=()
def tw6072015358362889369:=()
def tw3329502240182292164:=()
end PySem.W.Fast
open PySem PySem.W PyProof.Rows L2
set_option maxRecDepth 100000 in
set_option maxHeartbeats 0 in
theorem PySem.Challenge.cw_shopbound_k82_serving_and_moved_holds : PySem.Challenge.rw_shopbound_k82_serving_and_moved.Holds := by
 w_on;o_law;k_head;(case hw=>w_witness2)
 k_fill
 refine Law.walk (l:=TZ) rfl rfl (fun w h Y=>PySem.W.kIn_of Y) ?F
 case F=>
  intro w mg fa h KX G hmg
  refine' Law.all_mk KX G hmg ?aC_Shop ?pg_Shop ?hd_Shop ?po_Shop ?sa_Shop ?mk_Shop ?kc_Shop ?n0_Shop ?n1_Shop ?n2_Shop ?n3_Shop ?n4_Shop ?n5_Shop ?n6_Shop ?n7_Shop ?n8_Shop ?n9_Shop ?n10_Shop ?a84 ?l84 ?c84 ?k84 ?V
  (case aC_Shop=>k_is)
  (case pg_Shop=>k_is)
  (case hd_Shop=>k_is)
  (case po_Shop=>k_is)
  (case sa_Shop=>k_is)
  (case mk_Shop=>k_is)
  (case kc_Shop=>k_is)
  (case n0_Shop=>k_is)
  (case n1_Shop=>k_is)
  (case n2_Shop=>k_is)
  (case n3_Shop=>k_is)
  (case n4_Shop=>k_is)
  (case n5_Shop=>k_is)
  (case n6_Shop=>k_is)
  (case n7_Shop=>k_is)
  (case n8_Shop=>k_is)
  (case n9_Shop=>k_is)
  (case n10_Shop=>k_is)
  (case a84=>k_is)
  (case l84=>k_is)
  (case c84=>k_is)
  (case k84=>k_is)
  (case V=>constructor;all_goals first|(refine' Dfn.mk' KX G ?a ?l ?c ?k;(case a=>k_is);(case l=>k_is);(case c=>k_is);(case k=>k_is))|(refine' DfnM.mk' ?a ?i ?l ?c ?k;(case a=>k_is);(case i=>k_is);(case l=>k_is);(case c=>k_is);(case k=>k_is))|(refine' PySem.W.mg_none_of KX G ?a;(case a=>k_is))|(refine' Law.tkI_of KX G ?a;(case a=>k_is)))
end
end
