import PyProof.Rows.All
import Wide.All
import OpenK.AllK
import Wide.FinOn
import Lean
import PyProof.EqAt
import PyProof.EqKinds
import PyProof.TupleCall
import PySem.SetOps
import KE.KDictOf
import PyProof.AttrMiss
import PyProof.IsiH_list
import PyProof.WalkInts
import KE.KMinBuiltin
import PyProof.Rows.CallKwBuiltin
import KE.KEqDict
import KE.KItemsList
import KE.KDictSum
import KE.KRevSl
import PyProof.Rows.SortStr
import PyProof.Rows.SortWalk
import PyProof.DictWalks
import KE.KTryMore
import PyProof.NsDelKeeps
import PyProof.ExcAttrAll.ValueError
import PyProof.StrReplace2
import PyProof.ReprStr
import PyProof.Rows.RuleU_int
import PyProof.InstStoreFacts
import PyProof.ExcInit
import PyProof.MinMaxWalk
import PyProof.ListIndex
import KE.KDictList
import KE.KMinKey
import KE.KLam
import KE.KNestM
import PyProof.Rows.StrInSeq3
import PyProof.PureStr
import PyProof.Rows.SumAny
import PySem.Challenge.RW_shopbound_k27_whole_moment_by_moment
set_option Elab.async false
set_option linter.all false
set_option maxRecDepth 100000
open Option renaming some->aa,none->ab,isSome_iff_exists->gm,isSome_map->oK,map->rO,getD_none->PX,bind_none->Qj,join_some->Qu,getD_some->Qv,or_eq_some_iff->Rs,map_eq_none_iff->Ru
open _root_ renaming List->ac,Int->ag,Nat->al,Option->ar,Bool->aN,absurd->bz,Array->bP,if_true->cu,congrArg->cI,if_false->c6,String->db,decide_eq_true_eq->dF,DecidableEq->eE,of_decide_eq_true->eU,beq_iff_eq->kF,beq_eq_false_iff_ne->lG,Unit->mW,decide_eq_false_iff_not->oU,decide_eq_decide->o0,of_decide_eq_false->rT,not_or->rZ,and_self->u3,decide_not->zg,instBEqOfDecidableEq->QN
open PySem renaming Str->ah,Addr->av,Shared->aG,wpAny->aK,model->aQ,sizeLine->aT,starEach->a7,Obj->a8,tupleKeyHash->bJ,Program->bU,cLine->cr,backTo->cE,World->cQ,Env->dc,Pos->dn,compareOp->dq,intKind->dU,Around->eF,sizeLine_eq->fH,mainGlobals->fU,swapsWith->fW,wpAny_mono->gU,NameKind->gW,SetTable->gZ,codeAny->ik,wpAny_holding->im,binaryOp->iM,backToKw->iO,keywordEach->iP,Keyword->iR,holding->jG,assignEach->jH,pyNext->jI,attributeBase->jK,argBest->jQ,sysModules->ky,tupleKind->kz,wpAny_truthy_bool->kB,assign->kC,rawInt->kD,wpAny_setState_of->kI,bootBuiltins->lJ,behindInMarks->lK,wpAny_newObj_type->lL,bindArgs->lN,bindL->lP,bindC->lQ,atKey->lS,FuncData->m4,mem_of_lookup->m6,IsPart->m8,getItem->m9,callerA->na,standAt->oB,pyIter->oC,foldedSetIterable->oE,getMethod->oF,sliceBounds->oH,valueAt->oJ,setAdd->oQ,GenState->rn,callWith->rq,BindsTo->rA,codeAny_mono->rB,wpAny_call_entry->rD,wpAny_typeOf->rE,tupleKind_room_in1->rK,wpAny_pyIter_list->rR,codeAny_builtin->rY,typeLookup_type->sd,builtinLookup_eq_fast->se,argsOk->sg,pickOrder->si,Model->uB,letOwnedTupleGo->uD,wpAny_passesOwn->uF,typeLookup->uJ,typeIs_str->uK,call_meets->uL,PyData->uR,wpAny_of_eq->uW,wpAny_askSetting->uX,swapsWithSole->ya,swappedStores->yb,bindName->yc,lastMarks->yf,wpAny_call->ym,wpAny_Call_Name_kw->yn,cellsFrom->yo,pick_run->yr,subscripted->yv,call_meetsIn->yy,Params->yA,DefRec->yB,call->yC,relabel->yE,Slot->yI,plainId_quiet->yW,setSearchFrom->yZ,wpAny_storeSet_of->y6,wpAny_attempt->y9,wpAny_isInstance->za,entryFor->zb,isSubtype_type->ze,wpAny_ite_split->zf,Within->DU,builtinsNs->DX,wpAny_Name->DY,wpAny_execs_nil->DZ,assignInOrder->D0,wpAny_standAt->D2,wpAny_rule->D3,wpAny_field->Ei,wpAny_callSpecial?_slot->Ej,typeIs_int->En,wpAny_specialOf->Eu,compEnvC->Ex,wpAny_seqItems->EN,wpAny_forIn_list->EO,ofAClassStatement->EQ,intKind_is->ET,signature?_of->EU,setsByText->EV,wpAny_setEntries_of->EW,wpAny_setField->EX,wpAny_isTrue_Compare1->Pw,wpAny_execs_cons->Py,wpAny_assign_Name->Pz,wpAny_bindName->PH,slot_list_getitem->PV,sliceRange_one->PY,wpAny_Call_method->P7,wpAny_comprehension_free->Qg,wpAny_pyIter_enum->Qh,codeAny_of_tree->QD,codeAny_call_builtin->QF,hashByValue_scannable->QH,carriedByValue->QI,searchCouldBeSeen->QJ,wpAny_eqIsQuiet_tuple->QK,setAddHashedIn->QM,getAttrByItsOwn->QO,boundAndCalled->QP,getattributeRaised->QQ,entryFor_of_tree->QR,entryFor_alias->QY,wpAny_fieldsOf->Q4,firstArgMember->Q7,wpAny_pyIter_slot->Q8
open Bool renaming true->ai,false->ao,and_eq_true->cS,or_eq_true->gE,not_true->iq,true_and->ir,not_eq_true'->kK,not_false->lU,eq_iff_iff->mY,and_true->oT,or_false->rG,or_eq_false_iff->u9,false_and->D5,and_false->Es,false_or->Et,eq_false_iff->EK,or_true->EZ,not_not->E9
open List renaming mem_map->a5,mem_singleton->bW,replicate->b9,mem_cons->cA,range->cG,mem_append->cR,getElem?_eq_some_iff->cY,lookup->dw,find?_cons->dL,mem_range->dX,any_eq_false->gD,length->gX,nodup_cons->il,any_eq_true->ip,mem_filter->iL,length_drop->iQ,foldl_cons->iS,map_append->iT,nodup_append->iV,take_length->jP,forall_mem_cons->jS,any_cons->kG,replicate_succ->lR,getElem?_set_ne->mX,append_nil->m5,length_mapIdx->ng,mem_of_mem_take->nh,take_succ->nk,getElem?_of_mem->nr,getElem?_take_of_lt->oG,flatten_cons->oI,lookup_cons->oM,getD->oN,find?_eq_none->oP,getD_eq_getElem?_getD->oV,set_cons_zero->oW,map_congr_left->oZ,mem_filterMap->ro,append_assoc->rH,take_of_length_le->rP,all_eq_true->rQ,take_append_drop->rU,findSome?_cons->sk,head?_append->so,filterMap_cons->uA,getElem?_set_self->uC,getElem_mem->uN,drop_eq_getElem_cons->uP,mem_iff_getElem?->uQ,mem_of_find?_eq_some->uT,take->uU,mergeSort_perm->u0,flatMap_cons->u4,map_take->u5,mem_flatMap->u6,findSome?_eq_none_iff->u7,filter_eq_nil_iff->u8,mem_append_left->x9,getElem?_replicate->yp,getElem?_eq_none->yF,drop_zero->yH,mem_iff_getElem->yJ,pairwise_iff_getElem->yP,nodup_range->yS,find?_some->yU,pairwise_map->yV,foldl_append->yY,findIdx?->zd,of_mem_zip->Ee,take_sublist->Ef,foldl->Er,drop_length->EC,nodup_iff_pairwise_ne->EL,length_pos_iff->E1,take_add_one->E2,set_cons_succ->E3,map_drop->E5,map_id->E6,head?_map->E7,head?_filter->E8,getElem_inj->Ps,append_inj'->Qi,getElem?_mapIdx->Qk,getElem?_drop->Qq,pairwise_cons->Qr,filterMap_cons_some->Qx,not_lt->QT,perm_middle->QX,pairwise_mergeSort->Ra,map_inj_right->Re,map_id'->Rf,getElem?_inj->Rh,drop_of_length_le->Rj,getElem_range->Rl,getElem_map->Rm,find?_append->Rn,any_map->Ro,le_refl->Rp,mergeSort_nil->Rq,exists_of_findSome?_eq_some->Rr,mem_of_head?->Rt,Sublist->Rv,findIdx_lt_length_of_exists->Rw,findIdx_cons->Rx,filter_eq_self->Ry
open PySem.W renaming Frag->bh,findIn->dD,fnOf->gY,keepIn->iN,kia_one->jL,emptyDict->lM,instObj->mV,codeIn->rC,plainGet->uG,isFn->uH,lookIn->yg,hasDictIn->yh,makesIn->yi,nsIn->yL,mg_of->yM,methodObj->DV,plainGet_of->D7,plainOver->D8,takerIn->D9,methodCall_KW->D',callWith_K->Ed,fd_plain->Ev,OpenLaw->Ew,handedIn->PJ,kitOne->PK,kitx_list->PL,kitx_dict->PM,cellsFrom_some->PP,WalkO->Qf
open Pure renaming pure->bA
open PySem.SetTable renaming below->bZ,insertAt->ck,runEnd->dh,bits->fJ,leap->iU,sizeAbove->kH,fresh->kJ,tooFull->lV,turns->ni,fits->oO,grown->rW,has->yR,Probe->yT,fill->EI,slot->Qo,layClean->Qw,relaid->Qy,laid->Qz,orStandIn->QW
open PySem.PassesOwn renaming never->ca
open PySem.Value renaming ref->ci,int->c5,bool->jF,type->lH,none->oA,str->uz,isInt->x8,float->DR,isStrOf->Pp,bytes->Pq
open Sum renaming inr->cB,inl->oz
open Or renaming inr->cP,inl->dy
open Ne renaming symm->df
open PySem.SeqAt renaming shaped->eR
open PyProof.Rows renaming envOfC->fy,IntsAre->jM,AllBare->kA,callWith_type1->ye,assignInOrder_cons->D1,slot_tuple_getitem->Ek,Subscript_->El,subscriptTail->Em,assignInOrder_nil->PD,slicePart_none->PQ,subscriptTail_builtinR->PU,callWith_builtin1->R9,boot_enumerate->Se
open PySem.PyData renaming str->fK,eqv->jO,canLayAll0->lT,canLay0->nq,depth->oX,eqvAll->o3,depthAll->rS,tuple->Ql,int->Qm,strOk->Rc
open Array renaming length_toList->fV,getElem?_eq_some_iff->gF,getD_eq_getD_getElem?->yQ,mem_toList_iff->D6,toList->Px,getElem_toList->Qn,replicate->Qs,filterMap->QA,forIn_toList->QG,getElem?_eq_getElem->Q3
open PySem.Str renaming empty->fX,length->rF,ofString->yt
open Sum.inr renaming inj->gC
open Nat renaming zero_le->gV,lt_or_ge->io,zero_add->jR,lt_irrefl->lI,le_succ->lO,le_of_lt->rm,lt_trans->rJ,lt_succ_self->uI,succ_pos->uS,lt_succ_of_lt->uY,ne_of_gt->yd,le_of_eq->yj,succ_mul->yx,mod_lt->yN,min_le_right->Eg,not_lt->Ez,add_assoc->ED,lt_succ_iff->EE,le_add_right->EF,not_lt_zero->EG,lt_trichotomy->EH,mul_comm->P3,le_of_not_lt->Qa,min_eq_left->Qp,min_def->Ri
open PySem.Heap renaming SameBut->ii,size_push->mZ,dictOf_iff->zc,get?_update_self->ER
open False renaming elim->ij
open True renaming intro->jJ
open List.cons renaming inj->jN
open Int renaming toNat_natCast->kL,le_refl->o2,not_le->zh,le_trans->EY,mul_nonneg->E4,eq_ofNat_of_zero_le->Rk
open PySem.NameKind renaming free->nc,cell->yD
open PySem.F renaming called_set->nj,slot_dict_get->rL,entry_dict_get->yz,plainAttrs_list->yK,slot_list_getattribute->y7,slot_list_index->ES,slot_list_append->P0,slot_list_extend->P1,slot_int_rmul->P2,args_dict_get_2->P5,args_dict_get_3->P6,plainAttrs_dict->P8,type_dict_get->P9,plain_set_new->QE,type_list_index->Rb
open PySem.Heap.SameBut renaming update->oR,refl->EA
open List.Pairwise renaming map->oY,nil->Qe,imp_of_mem->Qt,filterMap->Sg
open ForInStep renaming yield->rN
open PySem.SetTable.layClean renaming free->rV
open PySem.Obj renaming data_mapFields->sj,mapFields->uZ,putSet->y0,mapSeq->PZ,isFreed_of_fields->Q5,cls_mapFields->Q6
open ForIn renaming forIn->uM
open PySem.Walks renaming list->uO,dictKeys->QU
open PySem.Around renaming under_plainId->uV,under->Ea
open PySem.Calls renaming spliced_cons->yk,spliced_nil->Ec,callWith_builtin->Eo,evalArgs_plain->Ep,Name_function_global->Pt
open PySem.Builtin.Slice renaming slicePlaces->yq,sliceAdjust->Eh,sliceApplied->PR,slicePartIndex->R',sliceFields->Sa
open PySem.Builtin.Tuple renaming tupleExact->yu,tupleItemsOf->Sb
open PySem.Builtin.List renaming listTooLong->yw,listLengthHint->Q9,listFitsIndex->Sd
open PySem.Builtin.Str renaming strSliceIndices->yG,tooLong->Sf
open PySem.SetTable.below renaming go->yO
open PySem.Shared renaming TypeIs->yX
open PyProof.Rows.IsTup renaming new->D4
open PySem.Code renaming isFrame->Eb,frames->PN
open Eq renaming trans->Ey
open PySem.Txt renaming slice->EB
open PySem.SetTable.probe renaming go->EJ
open PyProof.Rows.F renaming plain_set_update_loop->EM,entry_set_update_loop->QB
open PySem.CmpOp renaming In->Pu,NotIn->Pv
open PySem.Flow renaming next->PF
open PySem.Heap.DictOf renaming new->P4
open PySem.W.WData renaming int->P'
open PySem.W.WShape renaming has->Qb
open PySem.W.Dflts renaming none->Qc,noKw->Qd
open PySem.Moved renaming trans->QC
open Prod.mk renaming inj->QL
open PySem.Builtin.Dict renaming updateFrom->QS,addKeywords->Sj,pairItems->Sk,selfAndRest->Sl
open Option.some renaming injEq->QV,inj->RH
open PySem.Manifest renaming owners->QZ
open String renaming ofList->Q0
open PySem.pickOrder renaming go->Q1
open List.Perm renaming append_left->Q2
open List.Sublist renaming nodup->Rg
open PySem.Builtin.Range renaming rangeSize->RI
open PySem.EqNone renaming eq_none_none->RJ,eq_none_bool->RK,eq_none_int->RL,eq_none_str->RM,eq_bool_none->RN,eq_int_none->RP,eq_str_none->RS,ne_none_none->RV,ne_none_bool->RW,ne_none_int->RX,ne_none_str->RY,ne_bool_none->RZ,ne_int_none->R1,ne_str_none->R4
open PySem.EqMixed renaming eq_bool_str->RO,eq_int_str->RQ,eq_str_bool->RT,eq_str_int->RU,ne_bool_str->R0,ne_int_str->R3,ne_str_bool->R5,ne_str_int->R6
open PySem.W.Looks renaming here->R7
open PySem.Within renaming cons->R8
open PySem.Heap.IsSliceOf renaming new->Sc
open PySem.Builtin.Frozenset renaming newClass->Sh,updateFrom->Si,slot0->Sm,sizeOf->Sn
open PySem.Challenge renaming pw_shopbound_k27_whole_moment_by_moment->So,rw_shopbound_k27_whole_moment_by_moment->Sq
set_option hygiene false
local macro_rules
|`(.(a))=>`(aF bs ss js us ls ks h)
|`(.(b))=>`(bn fun _ _ _ _ _ _ _=>rfl)
|`(.(c))=>`(vC (.int 0))
|`(.(d))=>`(vC (.int 1))
|`(.(e))=>`(by omega)
|`(.(f))=>`(aS bs ss js us ls ks h)
|`(.(g))=>`(dC (km V) hr (aj (DO.de (cz rfl .(o) (FvOk.of (N':=["row"]) (fv:=[ab]) rfl) (bB (af 0)) ⟨fun _ _ _ _ _=>⟨.(Q),cw,.(s)⟩⟩)) aw) ln1)
|`(.(h))=>`(by decide)
|`(.(i))=>`(vC (.int 3))
|`(.(j))=>`(vC (.int 4))
|`(.(k))=>`(aE (vC (.bl ao)))
|`(.(l))=>`(vC (.int 2))
|`(.(m))=>`(.tail _ (.tail _ (.tail _ (.tail _ (.tail _ (.tail _ (.head _)))))))
|`(.(n))=>`(Gam C_Shop)
|`(.(o))=>`(CompScope.of rfl rfl)
|`(.(p))=>`(by decide +kernel)
|`(.(q))=>`(aA rfl (aA rfl aR))
|`(.(r))=>`(aQ X.prog X.w)
|`(.(s))=>`(aB (af 0) aq)
|`(.(t))=>`(b2 ixD (vSh 0) .(c))
|`(.(u))=>`(.lst (ds.map D.int))
|`(.(v))=>`(ax (aM 5 (cF eh (ae (b2 eY (vSh 2) .(i)) (ae (vSh 4) (ae (aP (szF (ae (cF b8 (ae (b2 ixD (vSh 1) .(d)) ak)) (ae (vC (.int 5)) (ae .(j) ak))))) ak))))) (ax (eZ (bN 3 (aI (ay 6) (aI (ay 7) (aI (ay 8) bM)))) (b2 ixD (b2 ixD (vSh 1) .(d)) (b2 ixD (vSh 5) .(c)))) (ax (eZ (bN 2 (aI (ay 9) (aI (ay 10) bM))) (o6 3 (vSh 6))) (ax (sIf (toB (b2 eqD (b2 ixD (vSh 5) .(l)) .(i))) (aM 9 (b2 ixD (b2 ixD (vSh 8) (b2 bQ (b2 ixD (vSh 5) .(d)) (cF b8 (ae (vSh 8) ak)))) .(c))) aH) (fD 3 (vSh 6) (bi (szF (ae (vSh 9) (ae (b2 gH (b2 aV (vSh 10) (b2 ixD (vSh 5) .(d))) .(l)) ak)))))))))
|`(.(w))=>`(ax (aM 9 (cF ib (ae (vSh 2) (ae (b2 cT (b2 ixD (vSh 7) .(d)) (cF ko (ae (b2 eqD (b2 ixD (vSh 7) .(l)) .(c)) ak))) ak)))) (ax (aM 10 (cF ic (ae .(c) (ae (b2 gH (vSh 2) (b2 cT (b2 ixD (vSh 7) .(j)) (cF ko (ae (b2 eqD (b2 ixD (vSh 7) .(l)) .(d)) ak)))) ak)))) (ax (aM 8 (b2 aV (slF (vSh 8) (pS (b2 bQ (b2 ixD (vSh 7) (vC (.int 5))) .(l))) pN) (slF (vSh 8) pN (pS (b2 bQ (b2 ixD (vSh 7) (vC (.int 5))) .(l)))))) (c8 3 (bi (szF (ae (cF fN (ae (b2 aV (vC (.int 70)) (vSh 5)) ak)) (ae (vSh 9) (ae (vSh 10) (ae (b2 eqD (b2 ixD (vSh 7) .(i)) .(d)) (ae (vSh 8) ak)))))))))))
|`(.(x))=>`(t.put (J t.mask Hk n0))
|`(.(y))=>`(ax (aM 6 (b2 ixD (b2 ixD (vSh 1) (b2 bQ (b2 ixD (vSh 4) (b2 aV .(d) (b2 cT .(i) (vSh 5)))) (cF b8 .(N)))) .(c))) (ax (aM 7 (b2 ixD (b2 ixD (vSh 1) (b2 bQ (b2 ixD (vSh 4) (b2 aV .(l) (b2 cT .(i) (vSh 5)))) (cF b8 .(N)))) .(c))) (sIf (bwT 3 (cm (toB (b2 neA (vSh 6) (vSh 7))) (toB (b2 gx (bi (szF (ae (vSh 6) (ae (vSh 7) ak)))) (aP (bd (itF (vSh 3)) (ay 0) tT (slF (vSh 0) pN (pS .(l))) [ab])))))) (c8 3 (bi (szF (ae (vSh 6) (ae (vSh 7) (ae (cF ib (ae (vSh 2) (ae (b2 ixD (vSh 4) (b2 aV .(i) (b2 cT .(i) (vSh 5)))) ak))) ak)))))) aH)))
local macro_rules
|`(.(z))=>`(.str s.nm)
|`(.(A))=>`(J t.mask (bJ knd k) n0)
|`(.(B))=>`(ax (dI 8 (szF (ae (bi (szF (ae (b2 ixD (b2 ixD (vSh 1) (b2 ixD (vSh 7) .(d))) .(c)) (ae (b2 aV .(d) (b2 bQ (b2 ixD (vSh 7) .(l)) (vSh 2))) ak)))) ak))) (ax (sIf (cm (toB (b2 eqD (b2 ixD (vSh 7) .(c)) .(c))) (toB (b2 neA (b2 ixD (vSh 7) .(i)) (b2 ixD (vSh 7) .(d))))) (c8 8 (bi (szF (ae (b2 ixD (b2 ixD (vSh 1) (b2 ixD (vSh 7) .(i))) .(c)) (ae (b2 aV .(d) (b2 bQ (b2 ixD (vSh 7) .(j)) (vSh 2))) ak))))) aH) (eB 8 (c8 4 (bi (szF (ae (cF fN (ae (vSh 5) ak)) (ae (b2 ixD (vC (.str "pqr")) (b2 ixD (vSh 7) (vC (.int 5)))) (ae (vSh 8) ak)))))))))
|`(.(C))=>`(s.heap.push {cls:=.type "set",dict:=ab,data:=.set #[] 0 (.fresh 0 0 led)})
|`(.(D))=>`(ax (aM 7 (aP (bd (itE (vSh 1)) (bN 2 (aI (ay 0) (aI (ay 1) bM))) (toB (b2 eqD (b2 bQ (b2 eY (b2 aV (b2 ixD (vSh 2) .(j)) (vSh 3)) (b2 ixD (aP (szF (ae .(d) (ae .(l) (ae .(j) ak))))) (b2 bQ (vSh 0) .(i)))) .(l)) .(d))) (bi (szF (ae (b2 ixD (vSh 1) .(c)) (ae (b2 aV .(d) (b2 ixD (vSh 2) (vC (.int 6)))) ak)))) [ab,ab,aa 2,aa 4]))) (c8 3 (bi (szF (ae (cF fN (ae (b2 aV (vC (.int 80)) (vSh 4)) ak)) (ae (b2 ixD (vSh 2) .(d)) (ae (vSh 5) (ae (vSh 6) (ae (vSh 7) ak)))))))))
|`(.(E))=>`(ax (aM 6 (b2 ixD (b2 ixD (vSh 1) (b2 bQ (vSh 4) (cF b8 .(N)))) .(c))) (ax (aM 7 (bi (szF (ae (vSh 6) (ae (b2 ixD (vC (.str "pqr")) (b2 bQ (vSh 4) .(i))) (ae (b2 ixD (vC (.str "pqr")) (b2 bQ (b2 aV (vSh 4) (vSh 5)) .(i))) (ae (cF ib (ae (vSh 2) (ae (vSh 5) ak))) ak))))))) (sIf (bwT 3 (cm (toB (b2 gtD (vSh 5) .(c))) (toB (b2 gx (slF (vSh 7) pN (pS .(i))) (aP (bd (itF (vSh 3)) (ay 0) tT (slF (vSh 0) pN (pS .(i))) [ab])))))) (c8 3 (vSh 7)) aH)))
|`(.(F))=>`(ax (aM 9 (b2 gH (vSh 5) (cF j5 (ae (aP (bd (itF (vSh 7)) (bN 2 (aI (ay 0) (aI (ay 1) bM))) (toB (b2 leD (b2 ixD (b2 aO (vSh 3) (vSh 0)) .(d)) (vSh 2))) (vSh 1) [ab,ab,aa 3,aa 0])) ak)))) (ax (aM 9 (b2 aV (vSh 9) (cF j5 (ae (aP (bd (itF (vSh 8)) (bN 2 (aI (ay 0) (aI (ay 1) bM))) (toB (b2 leD (b2 aO (vSh 3) (vSh 0)) (vSh 2))) (vSh 1) [ab,ab,aa 3,aa 1])) ak)))) (sIf (orT (toB (b2 ltD (vSh 9) .(c))) (toB (b2 gtD (vSh 9) (vSh 6)))) .(k) aH)))
|`(.(G))=>`(.ListComp elt [⟨tg,iter,ifs,0⟩] scope pos)
|`(.(H))=>`(x==("__debug__":ah))
|`(.(I))=>`(ax (aM 6 (slF (aP (szF (ae (bi (szF (ae (b2 ixD (vSh 5) .(d)) (ae (b2 ixD (vSh 5) .(l)) ak)))) (ae (bi (szF (ae (b2 ixD (vSh 5) .(i)) (ae (b2 ixD (vSh 5) .(j)) ak)))) (ae (bi (szF (ae (b2 ixD (vSh 5) (vC (.int 5))) (ae (b2 ixD (vSh 5) (vC (.int 6))) ak)))) ak))))) pN (pS (b2 ixD (vSh 5) .(c))))) (c8 2 (bi (szF (ae (cF fN (ae (b2 aV (vC (.int 60)) (vSh 3)) ak)) (ae (cF tI (ae (vSh 6) .(N))) ak))))))
|`(.(J))=>`(awE P E L m Db Dj (oS (.str x)) a b (oS (aW j)))
|`(.(K))=>`(bZ t.place (J t.mask h n0))
|`(.(L))=>`(aQ prog w)
|`(.(M))=>`(aC (aJ cg))
|`(.(N))=>`(ae (vSh 1) ak)
|`(.(O))=>`(ax (aM 5 (b2 aV (b2 ixD (vSh 2) .(d)) (b2 ixD (vSh 2) .(l)))) (ax (aM 6 (aP (bd (itE (vSh 1)) (bN 2 (aI (ay 0) (aI (ay 1) bM))) (toB (b2 eqD (b2 bQ (b2 eY (b2 aV (b2 ixD (vSh 2) .(i)) (vSh 3)) (b2 ixD (aP (szF (ae .(d) (ae .(l) (ae .(j) ak))))) (b2 bQ (vSh 0) .(i)))) .(l)) .(d))) (bi (szF (ae (b2 ixD (vSh 1) .(c)) (ae (b2 aV .(d) (b2 ixD (vSh 2) (vC (.int 5)))) ak)))) [ab,ab,aa 2,aa 4]))) .(D)))
|`(.(P))=>`(au rfl rfl rfl)
|`(.(Q))=>`(aL 0 (show(["row"]:ac ah).Nodup by decide +kernel))
|`(.(R))=>`(ax (aM 7 (cF eh (ae (vSh 6) (ae (b2 aV (vSh 5) (vC (.int 17))) (ae (aP (szF (ae .(j) (ae .(i) (ae .(i) (ae .(l) (ae (vC (.int 5)) (ae (vC (.int 7)) ak)))))))) ak))))) (ax (aM 8 (slF (vSh 4) pN (pS (b2 ixD (vSh 7) .(c))))) (ax (aM 4 (slF (vSh 4) (pS (b2 ixD (vSh 7) .(c))) pN)) (sIf (toB (b2 neA (vSh 8) (aP (szF ak)))) .(w) aH))))
|`(.(S))=>`(ax (aM 3 (b2 aV (b2 bQ (b2 aV (vSh 3) (vSh 0)) (vC (.int 2147483629))) (vC (.int 48271)))) (ax (aM 3 (b2 aV (vSh 3) (b2 cT (b2 cT (vC (.int 7919)) (b2 aV (vSh 1) (vSh 5))) (b2 aV (vSh 1) (vSh 5))))) (ax (aM 3 (b2 bQ (b2 cT (vSh 3) (vSh 3)) (vC (.int 2147483587)))) (c8 4 (b2 bQ (b2 eY (vSh 3) (vC (.int 16))) (vSh 6))))))
|`(.(T))=>`(lp M h r)
|`(.(U))=>`(ae (vSh 3) ak)
|`(.(V))=>`(b2 aO (vSh 1) (vSh 3))
|`(.(W))=>`(aj (af 1) aw)
|`(.(X))=>`(ae (vSh 2) ak)
local macro_rules
|`(.(Y))=>`(dC (j3 V) hr (aj (af 0) (aj aq aw)) ln2)
|`(.(Z))=>`(cO I q (by simp))
|`(.(aa))=>`(.lst (js.map aW))
|`(.(ab))=>`(k==nc && env.scope.kind==.function && env.kindOf n==aa .cell)
|`(.(ac))=>`(b2 ixD (vSh 0) .(d))
|`(.(ad))=>`(ae (vSh 0) ak)
|`(.(ae))=>`(b2 aO (vSh 0) (vSh 3))
|`(.(af))=>`(ae (vSh 6) (ae (b2 aV (vSh 5) (vC (.int 7))) (ae (aP (szF (ae .(i) (ae (cF b8 .(N)) (ae (vSh 3) (ae (cF b8 .(N)) (ae (vSh 3) (ae .(i) ak)))))))) ak)))
|`(.(ag))=>`(sIf (cm (toB (b2 neA (vSh 6) (vSh 3))) (cm (toB (b2 eqA (b2 ixD (b2 aO (vSh 0) (vSh 6)) .(c)) (vSh 4))) (toB (b2 ltD (b2 ixD (b2 aO (vSh 0) (vSh 6)) .(d)) (vSh 5))))) (sIf (toB (b2 ltD (vSh 5) (b2 aV (b2 aO (vSh 1) (vSh 6)) (cF mK (ae (vSh 2) (ae (vSh 4) (ae (vSh 6) .(U)))))))) .(k) aH) aH)
|`(.(ah))=>`(orT (toB (b2 fz (b2 ixD (vSh 9) .(c)) (vSh 5))) (orT (toB (b2 ltD (vSh 3) (b2 ixD (vSh 9) .(d)))) (toB (b2 geD (vSh 3) (b2 ixD (vSh 9) .(l))))))
set_option bootstrap.genMatcherCode false
theorem oBd {α:Type u} {β:Type v} {o:ar α} {f:α->ar β} {b:β} (h:o.bind f=aa b):∃a,o=aa a/\f a=aa b:=Option.bind_eq_some_iff.mp h
theorem oMd {α:Type u} {β:Type v} {o:ar α} {f:α->β} {b:β} (h:o.map f=aa b):∃a,o=aa a/\f a=b:=Option.map_eq_some_iff.mp h
noncomputable section
section
open PySem PySem.Spec PyProof.Rows
noncomputable def qb:=@Option.bind_some
noncomputable def qc:=@List.getElem?_cons_zero
noncomputable def qd:=@List.getElem?_cons_succ
noncomputable def qe:=@Option.map_some
noncomputable def qf:=@List.length_map
noncomputable def qg:=@List.mem_cons_self
noncomputable def qh:=@List.mem_cons_of_mem
noncomputable def qi:=@List.length_cons
noncomputable def qj:=@List.length_append
noncomputable def qk:=@List.getElem?_map
noncomputable def ql:=@List.length_nil
noncomputable def qm:=@List.map_cons
noncomputable def qo:=@List.map_map
noncomputable def qp:=@List.cons_append
noncomputable def qq:=@Bool.false_eq_true
noncomputable def qr:=@Bool.false_ne_true
noncomputable def qt:=@Heap.get?_push_of_some
noncomputable def qu:=@Heap.lt_size
noncomputable def qv:=@Nat.le_refl
noncomputable def qw:=@wpAny_bind
noncomputable def qx:=@List.getElem?_append_left
noncomputable def qy:=@wpAny_pure
noncomputable def qz:=@List.size_toArray
noncomputable def qA:=@Nat.ne_of_lt
noncomputable def qB:=@List.getElem?_eq_getElem
noncomputable def qC:=@List.length_take
noncomputable def qD:=@Nat.lt_of_lt_of_le
noncomputable def qE:=@Heap.get?_push_size
noncomputable def qF:=@RH
noncomputable def qG:=@Array.getElem?_toList
noncomputable def qH:=@List.not_mem_nil
noncomputable def qI:=@List.getElem?_append_right
noncomputable def qJ:=@cA
noncomputable def qK:=@Nat.le_trans
noncomputable def qL:=@decide_eq_false
noncomputable def qM:=@List.map_nil
noncomputable def qN:=@List.mem_of_getElem?
noncomputable def qO:=@List.mem_append_right
noncomputable def qP:=@List.nil_append
noncomputable def qQ:=@decide_eq_true
noncomputable def qR:=@List.length_range
noncomputable def qS:=@Int.emod_lt_of_pos
noncomputable def qT:=@List.length_singleton
noncomputable def qU:=@List.mem_map_of_mem
noncomputable def qV:=@Int.emod_nonneg
noncomputable def qW:=@if_pos
noncomputable def qX:=@if_neg
end
section
namespace L2
open PySem PySem.Spec PyProof.Rows
noncomputable abbrev Key:=Sum ag ah
noncomputable def nN:Key->Value->aN
 |.inl k,v=>x8 k v
 |.inr x,v=>Pp x v
noncomputable def Fw (w:cQ):Key->ag
 |.inl k=>hashInt k
 |.inr x=>hashStr w x
theorem iB:∀{k:Key} {v:Value},nN k v=ai->(∃i t,k=oz i/\v=c5 i t)\/(∃x t,k=cB x/\v=uz x t)
 |.inl i,v,h=>by
  obtain⟨t,e⟩:=Value.isInt_shape (k:=i) (v:=v) h;exact .inl ⟨i,t,rfl,e⟩
 |.inr x,v,h=>by obtain⟨t,e⟩:=Value.isStrOf_shape (x:=x) (v:=v) h;exact .inr ⟨x,t,rfl,e⟩
theorem OI (i:ag) (t:Tok):nN (.inl i) (.int i t)=ai:=by simp[nN,x8]
theorem HG (x:ah) (t:Tok):nN (.inr x) (.str x t)=ai:=by simp[nN,Pp]
theorem Fz (a b:ag):decide ((oz a:Key)=oz b)=(a==b):=by
 by_cases e:a=b
 .subst e;simp
 .have h:¬(oz a:Key)=oz b:=fun q=>e (Sum.inl.inj q);rw[qL h];exact(lG.mpr e).symm
theorem JB (a b:ah):decide ((cB a:Key)=cB b)=decide (a=b):=by
 by_cases e:a=b
 .subst e;simp
 .have h:¬(cB a:Key)=cB b:=fun q=>e (gC q);rw[qL h,qL e]
theorem Kj (a:ag) (b:ah):decide ((oz a:Key)=cB b)=ao:=qL (fun q=>nomatch q)
theorem JR (a:ah) (b:ag):decide ((cB a:Key)=oz b)=ao:=qL (fun q=>nomatch q)
noncomputable def cN (prog:bU) (w:cQ):PySem.KeyKind prog w Key where
 is:=nN
 hash:=Fw w
 inj:=fun v a b ha hb=>by
  rcases iB ha with⟨i,t,rfl,rfl⟩|⟨x,t,rfl,rfl⟩
  .rcases iB hb with⟨j,u,rfl,e⟩|⟨y,u,rfl,e⟩
   .injection e with e1 _;rw[e1]
   .exact nomatch e
  .rcases iB hb with⟨j,u,rfl,e⟩|⟨y,u,rfl,e⟩
   .exact nomatch e
   .injection e with e1 _;rw[e1]
 byValue:=fun k v h=>by rcases iB h with⟨i,t,rfl,rfl⟩|⟨x,t,rfl,rfl⟩<;>rfl
 pyHash:=fun hv h=>by
  rcases iB hv with⟨i,t,rfl,rfl⟩|⟨x,t,rfl,rfl⟩
  .exact wpAny_pyHash_int h
  .exact wpAny_pyHash_str h
 eqBool:=fun hu hv h=>by
  rcases iB hu with⟨i,t,rfl,rfl⟩|⟨x,t,rfl,rfl⟩
  .rcases iB hv with⟨j,u,rfl,rfl⟩|⟨y,u,rfl,rfl⟩
   .rw[Fz] at h;exact wpAny_eqBool_int h
   .rw[Kj] at h;exact SeqAt.EqAt.int_str i t y u _ _ _ _ h
  .rcases iB hv with⟨j,u,rfl,rfl⟩|⟨y,u,rfl,rfl⟩
   .rw[JR] at h;exact SeqAt.EqAt.str_int x t j u _ _ _ _ h
   .rw[JB] at h;exact wpAny_eqBool_str h
 «strs»:=fun k x t v h=>by
  rcases iB h with⟨i,u,rfl,e⟩|⟨y,u,rfl,e⟩
  .exact nomatch e
  .injection e with e1 _;subst e1;cases v<;>rfl
theorem Ln (prog:bU) (w:cQ) (i:ag) (t:Tok):(cN prog w).is (.inl i) (.int i t)=ai:=OI i t
theorem LU (prog:bU) (w:cQ) (x:ah) (t:Tok):(cN prog w).is (.inr x) (.str x t)=ai:=HG x t
inductive V where
 |non|bl (b:aN)|int (i:ag)|str (x:ah)|byt (b:bP UInt8)|flt (b:UInt64)|ref (a:av)|ty (n:db)
 deriving eE
noncomputable def bD:V->Value->Prop
 |.non,u=>u=oA
 |.bl b,u=>u=jF b
 |.int i,u=>∃t,u=c5 i t
 |.str x,u=>∃t,u=uz x t
 |.byt b,u=>∃t,u=Pq b t
 |.flt b,u=>∃t,u=DR b t
 |.ref a,u=>u=ci a
 |.ty n,u=>u=lH n
noncomputable abbrev bH:ac V->ac Value->Prop:=Paired bD
theorem bH.length {xs:ac V} {us:ac Value} (r:bH xs us):xs.length=us.length:=Paired.length r
theorem bH.get:∀{xs:ac V} {us:ac Value} {i:al} {x:V},bH xs us->xs[i]?=aa x->∃u,us[i]?=aa u/\bD x u
 |_,_,_,_,.nil,e=>by simp at e
 |_,_,0,_,.cons r _,e=>by simp at e;subst e;exact⟨_,rfl,r⟩
 |_,_,i+1,x,.cons _ t,e=>by obtain⟨u,h1,h2⟩:=bH.get (i:=i) (x:=x) t (by simpa using e);exact⟨u,by simpa using h1,h2⟩
theorem bH.append:∀{xs ys:ac V} {us ws:ac Value},bH xs us->bH ys ws->bH (xs++ys) (us++ws)
 |_,_,_,_,.nil,s=>s
 |_,_,_,_,.cons r t,s=>.cons r (bH.append t s)
theorem bH.take:∀{xs:ac V} {us:ac Value} (n:al),bH xs us->bH (xs.take n) (us.take n)
 |_,_,0,_=>.nil
 |_,_,_+1,.nil=>.nil
 |_,_,n+1,.cons r t=>.cons r (bH.take n t)
theorem bH.drop:∀{xs:ac V} {us:ac Value} (n:al),bH xs us->bH (xs.drop n) (us.drop n)
 |_,_,0,r=>r
 |_,_,_+1,.nil=>.nil
 |_,_,n+1,.cons _ t=>bH.drop n t
noncomputable def fm:ar V->ar Value->Prop
 |some v,aa u=>bD v u
 |none,ab=>True
 |_,_=>False
variable {κ:Type}
noncomputable def KV :ac (κ×V)->ac (κ×Value)->Prop:=Paired fun(p:κ×V) (q:κ×Value)=>p.1=q.1/\bD p.2 q.2
noncomputable def kV:Key->V
 |.inl i=>.int i
 |.inr x=>.str x
inductive HO where
 |lst (xs:ac V)
 |tup (xs:ac V)
 |dK (kvs:ac (Key×V))|dT (kvs:ac (ac Key×V))
 |set (S:ag->aN) (n:al)
 |ins (C dx:av) (fs:ac (ah×V))
 |own (x:av)
 |xd (fs:ac (ah×V))
 |met (f x:av)
 |rng (lo hi:ag)
 |frz (o:a8) (u:HO)
 |tbl (ps:bP Value)
 |ext (φ:Heap->Prop)
noncomputable abbrev Hp:=av->ar HO
noncomputable def upd (H:Hp) (a:av) (o:HO):Hp:=fun b=>if b=a then aa o else H b
variable {H:Hp} {a:av}
theorem cc {o:HO} :upd H a o a=aa o:=by unfold upd;rw[qW rfl]
theorem a6 {b:av} {o:HO} (h:b≠a):upd H a o b=H b:=by unfold upd;rw[qX h]
theorem GX {o u:HO} :upd (upd H a o) a u=upd H a u:=by
 funext b;unfold upd;split<;>rfl
theorem xx {b:av} {o u:HO} (h:H a=aa o) (h':H b=aa u) (d:o≠u):a≠b:=by intro e;subst e;rw[h] at h';exact d (qF h')
theorem ce {b:av} {o:HO} (h:H a=aa o) (h':H b=ab):a≠b:=by intro e;subst e;rw[h] at h';cases h'
section
variable (P:bU) (w:cQ)
noncomputable def cV (H:Hp) (h:Heap) (a:av):HO->Prop
 |.lst xs=>xs.length<=aT/\∃(its:ac Value) (n:al),bH xs its/\h.get? a=aa {cls:=.type "list",data:=.seq its.toArray n}
 |.tup xs=>xs.length<=aT/\∃its:ac Value,bH xs its/\IsTup h a its.toArray
 |.dK kvs=>kvs.length<=aT/\(a==ky)=ao/\∃vs,KV kvs vs/\h.DictOf (cN P w) a vs
 |.dT kvs=>kvs.length<=aT/\(a==ky)=ao/\∃xs:ac (ac Key×av×Value),
   Paired (fun(p:ac Key×V) (q:ac Key×av×Value)=>p.1=q.1/\H q.2.1=aa (.tup (p.1.map kV))/\bD p.2 q.2.2) kvs xs /\
   ∃o es ep,h.get? a=aa o/\o.ExactDict/\o.data=.dict es ep/\es.toList=xs.map (entryOfKey (kz (cN P w)))/\(xs.map (·.1)).Nodup
 |.set S n=>h.SetOf (dU P w) a S n
 |.ins C dx fs=>H dx=aa (.own a)/\fs.length<=1000/\dx≠a/\h.get? a=aa (mV C dx) /\
   ∃mA,h.Ns1 dx mA/\(∀f,fm (fs.lookup f) (mA f))/\DU mA (fs.map (·.1))
 |.own _=>∃o,h.get? a=aa o
 |.xd fs=>∃mA,h.Ns1 a mA/\∀f,fm (fs.lookup f) (mA f)
 |.rng lo hi=>∃t u v,h.get? a=aa {cls:=.type "range",data:=.fields #[.int lo t,.int hi u,.int 1 v]}
 |.frz o u=>h.get? a=aa o/\cV H h a u
 |.tbl ps=>h.get? a=aa {cls:=.none,data:=.fields ps}
 |.met f x=>h.get? a=aa (DV (.ref f) (.ref x))
 |.ext φ=>φ h/\(∃o,h.get? a=aa o)/\∀h1 h2:Heap,φ h1->(∀o,h1.get? a=aa o->h2.get? a=aa o)->φ h2
noncomputable def HOk (H:Hp) (h:Heap):Prop:=∀a o,H a=aa o->cV P w H h a o
end
variable {w:cQ} {H':Hp} {h':Heap}
section
variable {P:bU} {h:Heap} {o:HO}
theorem cV.lt (x:cV P w H h a o):a<h.objs.size:=by
 cases o with
 |lst xs=>obtain⟨_,_,_,_,e⟩:=x;exact qu e
 |tup xs=>obtain⟨_,_,_,p⟩:=x;exact p.lt
 |dK kvs=>obtain⟨_,_,_,_,o,_,_,e,_⟩:=x;exact qu e
 |dT kvs=>obtain⟨_,_,_,_,o,_,_,e,_⟩:=x;exact qu e
 |set S n=>obtain⟨o,_,_,_,e,_⟩:=x;exact qu e
 |ins C dx fs=>obtain⟨_,_,_,e,_⟩:=x;exact qu e
 |own y=>obtain⟨_,e⟩:=x;exact qu e
 |xd fs=>obtain⟨_,⟨_,_,_,e,_⟩,_⟩:=x;exact qu e
 |rng lo hi=>obtain⟨_,_,_,e⟩:=x;exact qu e
 |frz ob u=>obtain⟨e,_⟩:=x;exact qu e
 |tbl ps=>exact qu (show h.get? a=aa _ from x)
 |met f y=>exact qu (show h.get? a=aa _ from x)
 |ext φ=>obtain⟨_,⟨_,e⟩,_⟩:=x;exact qu e
theorem Paired.mapP {α β:Type} {F G:α->β->Prop}:∀{l₁:ac α} {l₂:ac β},Paired F l₁ l₂->(∀a b,F a b->G a b)->Paired G l₁ l₂
 |_,_,.nil,_=>.nil
 |_,_,.cons r t,f=>.cons (f _ _ r) (Paired.mapP t f)
theorem cV.stay (x:cV P w H h a o) (k:∀b u,(b=a\/H b=aa (.own a))->h.get? b=aa u->h'.get? b=aa u)
  (ho:∀b,H b=aa (.own a)->H' b=aa (.own a)) (ht:∀b xs,H b=aa (.tup xs)->H' b=aa (.tup xs)):cV P w H' h' a o:=by
 induction o with
 |lst xs=>obtain⟨z,its,n,r,e⟩:=x;exact⟨z,its,n,r,k _ _ (.inl rfl) e⟩
 |tup xs=>obtain⟨z,its,r,ob,e,c⟩:=x;exact⟨z,its,r,ob,k _ _ (.inl rfl) e,c⟩
 |dK kvs=>obtain⟨z,y,vs,r,ob,es,ep,e,c⟩:=x;exact⟨z,y,vs,r,ob,es,ep,k _ _ (.inl rfl) e,c⟩
 |dT kvs=>
  obtain⟨z,y,xs,r,ob,es,ep,e,c⟩:=x;exact⟨z,y,xs,Paired.mapP r fun p q z=>⟨z.1,ht _ _ z.2.1,z.2.2⟩,ob,es,ep,k _ _ (.inl rfl) e,c⟩
 |set S n=>obtain⟨ob,es,ep,t,e,c⟩:=x;exact⟨ob,es,ep,t,k _ _ (.inl rfl) e,c⟩
 |ins C dx fs=>
  obtain⟨d,z,ne,e,mA,⟨od,es,ep,e2,c⟩,r⟩:=x;exact⟨ho _ d,z,ne,k _ _ (.inl rfl) e,mA,⟨od,es,ep,k _ _ (.inr d) e2,c⟩,r⟩
 |own y=>obtain⟨ob,e⟩:=x;exact⟨ob,k _ _ (.inl rfl) e⟩
 |xd fs=>obtain⟨mA,⟨od,es,ep,e,c⟩,r⟩:=x;exact⟨mA,⟨od,es,ep,k _ _ (.inl rfl) e,c⟩,r⟩
 |rng lo hi=>obtain⟨t,u,v,e⟩:=x;exact⟨t,u,v,k _ _ (.inl rfl) e⟩
 |frz ob u ih=>obtain⟨e,q⟩:=x;exact⟨k _ _ (.inl rfl) e,ih q⟩
 |tbl ps=>
  have e:h.get? a=aa {cls:=.none,data:=.fields ps}:=x;show h'.get? a=aa {cls:=.none,data:=.fields ps};exact k a _ (.inl rfl) e
 |met f y=>
  have e:h.get? a=aa (DV (.ref f) (.ref y)):=x;show h'.get? a=aa (DV (.ref f) (.ref y));exact k a _ (.inl rfl) e
 |ext φ=>obtain⟨p,⟨o,e⟩,st⟩:=x;exact⟨st _ _ p fun o q=>k _ _ (.inl rfl) q,⟨o,k _ _ (.inl rfl) e⟩,st⟩
theorem HOk.lt (x:HOk P w H h) (e:H a=aa o):a<h.objs.size:=(x a o e).lt
theorem HOk.fresh (x:HOk P w H h) (e:h.objs.size<=a):H a=ab:=by
 cases q:H a with
 |none=>rfl
 |some u=>exact bz (qD (x.lt q) e) (lI _)
theorem HOk.kept (x:HOk P w H h) (k:∀b u,h.get? b=aa u->h'.get? b=aa u):HOk P w H h':=fun a o e=>
 (x a o e).stay (fun b u _ q=>k b u q) (fun _ q=>q) fun _ _ q=>q
theorem HOk.laid (x:HOk P w H h) (k:∀b u,h.get? b=aa u->h'.get? b=aa u) (hp:h.objs.size<=a) (new:cV P w (upd H a o) h' a o):HOk P w (upd H a o) h':=fun b u e=>by
 have hn:=x.fresh hp;by_cases hb:b=a
 .subst hb;rw[cc] at e;cases e;exact new
 .rw[a6 hb] at e;exact(x b u e).stay (fun c v _ q=>k c v q) (fun c q=>by rw[a6 (ce q hn)];exact q) fun c xs q=>by rw[a6 (ce q hn)];exact q
end
noncomputable def Rd (H:Hp) (a:av) (u:HO):Prop:=H a=aa u\/∃o,H a=aa (.frz o u)
theorem Rd.ok {P:bU} {h:Heap} {u:HO} (r:Rd H a u) (x:HOk P w H h):cV P w H h a u:=by
 rcases r with r|⟨o,r⟩
 .exact x a u r
 .obtain⟨_,q⟩:=x a _ r;exact q
noncomputable def Mut:ar HO->Prop
 |some (.lst _)=>True
 |some (.dK _)=>True
 |some (.dT _)=>True
 |some (.set _ _)=>True
 |some (.ins _ _ _)=>True
 |some (.ext _)=>True
 |_=>False
section
variable {P:bU} {h:Heap} {x e:av} {o':HO}
theorem HOk.write (ok:HOk P w H h) (mu:Mut (H x)) (he:e=x\/H e=aa (.own x)) (k:∀b u,b≠e->h.get? b=aa u->h'.get? b=aa u) (heo:∃u,h'.get? e=aa u)
  (new:cV P w (upd H x o') h' x o'):HOk P w (upd H x o') h':=fun b u q=>by
 have nown:∀c y,H c=aa (.own y)->c≠x:=fun c y r z=>by subst z;rw[r] at mu;exact mu
 have ntup:∀c xs,H c=aa (.tup xs)->c≠x:=fun c xs r z=>by subst z;rw[r] at mu;exact mu
 by_cases hb:b=x
 .subst hb;rw[cc] at q;cases q;exact new
 .rw[a6 hb] at q;by_cases hbe:b=e
  .have q':H b=aa (.own x):=by
    rcases he with z|z
    .exact bz (hbe.trans z) hb
    .rw[hbe];exact z
   rw[q] at q';cases q';obtain⟨v,hv⟩:=heo;exact⟨v,by rw[hbe];exact hv⟩
  .refine(ok b u q).stay (fun c v hc r=>k c v ?_ r) (fun c r=>by rw[a6 (nown c b r)];exact r) fun c xs r=>by rw[a6 (ntup c xs r)];exact r
   rcases hc with rfl|hc
   .exact hbe
   .rintro rfl;rcases he with z|z
    .exact nown c b hc z
    .rw[hc] at z;cases z;exact hb rfl
end
structure Un (fs ex:ac av) (H H':Hp) (h h':Heap):Prop where
 keep:∀b o,h.get? b=aa o->H b=ab->b∉fs->b∉ex->h'.get? b=aa o
 slot:∀b o,h.get? b=aa o->H b=ab->b∈fs->b∉ex->∃sl,h'.get? b=aa {o with slots:=sl}
 free:∀b o,h.get? b=aa o->H b=ab->b∉ex->H' b=ab
 there:∀b o,h.get? b=aa o->b∉ex->∃o',h'.get? b=aa o'
 tups:∀b xs,H b=aa (.tup xs)->H' b=aa (.tup xs)
 frzs:∀b o u,H b=aa (.frz o u)->H' b=aa (.frz o u)
 tbls:∀b ps,H b=aa (.tbl ps)->∃more,H' b=aa (.tbl (ps++more))
variable {H1 H2:Hp}
section
variable {fs fs' ex ex':ac av} {h h1 h2:Heap} {x e:av} {o:HO}
theorem Un.any (u:Un fs ex H H1 h h1) {b:av} {ob:a8} (q:h.get? b=aa ob) (n:H b=ab) (hx:b∉ex):∃sl,h1.get? b=aa {ob with slots:=sl}:=by
 by_cases hb:b∈fs
 .exact u.slot b ob q n hb hx
 .exact⟨ob.slots,u.keep b ob q n hb hx⟩
theorem Un.kept (k:∀b u,h.get? b=aa u->h'.get? b=aa u):Un fs ex H H h h':=
 ⟨fun b ob q _ _ _=>k b ob q,fun b ob q _ _ _=>⟨ob.slots,k b ob q⟩,fun _ _ _ n _=>n,fun b ob q _=>⟨ob,k b ob q⟩,fun _ _ q=>q,fun _ _ _ q=>q,fun _ ps q=>⟨#[],by rw[q];simp⟩⟩
theorem Un.refl:Un fs ex H H h h:=Un.kept fun _ _ q=>q
theorem Un.laid (k:∀b u,h.get? b=aa u->h'.get? b=aa u) (hp:h.objs.size<=a) (hn:H a=ab):Un fs ex H (upd H a o) h h' where
 keep:=fun b u q _ _ _=>k b u q
 slot:=fun b u q _ _ _=>⟨u.slots,k b u q⟩
 free:=fun b u q n _=>by rw[a6 (qA (qD (qu q) hp))];exact n
 there:=fun b u q _=>⟨u,k b u q⟩
 tups:=fun b xs q=>by rw[a6 (ce q hn)];exact q
 frzs:=fun b u xs q=>by rw[a6 (ce q hn)];exact q
 tbls:=fun b ps q=>⟨#[],by rw[a6 (ce q hn),q];simp⟩
theorem Un.write (mu:Mut (H x)) (he:e=x\/H e=aa (.own x)) (k:∀b u,b≠e->h.get? b=aa u->h'.get? b=aa u) (heo:∃u,h'.get? e=aa u):Un fs ex H (upd H x o) h h':=by
 have hx:∀b,H b=ab->b≠x:=fun b n z=>by subst z;rw[n] at mu;exact mu
 have hb:∀b,H b=ab->b≠e:=fun b n z=>by
  subst z;rcases he with r|r
  .exact hx b n r
  .rw[n] at r;cases r
 have hm:∀b u,H b=aa u->¬Mut (aa u)->b≠x:=fun b u q nm z=>by subst z;rw[q] at mu;exact nm mu
 refine⟨fun b u q n _ _=>k b u (hb b n) q,fun b u q n _ _=>⟨u.slots,k b u (hb b n) q⟩,fun b u q n _=>by rw[a6 (hx b n)];exact n,fun b u q _=>?_,
  fun b xs q=>by rw[a6 (hm b _ q fun z=>z)];exact q,fun b u xs q=>by rw[a6 (hm b _ q fun z=>z)];exact q,fun b ps q=>⟨#[],by rw[a6 (hm b _ q fun z=>z),q];simp⟩⟩
 by_cases hbe:b=e
 .subst hbe;exact heo
 .exact⟨u,k b u hbe q⟩
end
noncomputable def trk (h:Heap) (H:Hp):ac av:=(cG h.objs.size).filter fun a=>(H a).isSome
noncomputable def jY (h:Heap) (H:Hp):Heap:=PySem.W.hideAll h (trk h H)
theorem Jq (h:Heap) (H:Hp):(jY h H).objs.size=h.objs.size:=PySem.W.hideAll_size _ _
theorem IX {h:Heap} {b:av} {o:a8} (e:h.get? b=aa o) (n:H b=ab):(jY h H).get? b=aa o:=
 PySem.W.hideAll_get _ e fun hm=>by have q:(H b).isSome=ai:=(iL.mp hm).2;rw[n] at q;simp at q
theorem Fq {h:Heap} {b:av} {o:a8} (e:(jY h H).get? b=aa o):h.get? b=aa o/\H b=ab:=by
 have e':h.get? b=aa o:=PySem.W.of_hideAll (trk h H) e;refine⟨e',?_⟩;cases q:H b with
 |none=>rfl
 |some x=>
  have hm:b∈trk h H:=iL.mpr ⟨dX.mpr (qu e'),by simp[q]⟩;have z:(jY h H).get? b=ab:=PySem.W.hideAll_none (trk h H) hm;rw[z] at e;cases e
noncomputable def NK (g h:Heap) (L:av):ac (av×a8):=(cG h.objs.size).filterMap fun a=>if a=L\/(g.get? a).isSome=ai then ab else (h.get? a).map fun o=>(a,o)
noncomputable def bX (g h:Heap) (L d:av):ac (av×a8):=(NK g h L).filter fun p=>decide (p.1≠d)
structure Mod (K:bh) (mg:ah->ar Value) (base:Heap):Prop where
 kin:K.In base
 glob:base.Ns fU mg
 blt:∃mb,base.Ns DX mb/\∀x:ah,x≠"__name__"->mb x=lJ x
 nolimit:base.NoLimit
structure Cx where
 prog:bU
 w:cQ
 K:bh
 mg:ah->ar Value
 base:Heap
 A:eF
 N:ac ah
 s₀:aG
 H₀:Hp
 env:dc
 outer:ac dc
 stack:ac dc
 ex:ac av
 fn:ah->aN
 calm:aN
 pn:ac (av×a8)
 xe:Value->aG->Prop
noncomputable def frs (l:ac dc):ac av:=l.filterMap (·.frame)
noncomputable abbrev Cx.fs (X:Cx):ac av:=frs X.outer
noncomputable def Vis (sc:Scope) (x:ah):Prop:=sc.names.lookup x=aa .local\/sc.names.lookup x=aa .cell\/sc.names.lookup x=aa .free
noncomputable def Loc (sc:Scope) (x:ah):Prop:=sc.names.lookup x=aa .local\/sc.names.lookup x=aa .cell
noncomputable def MR (env:dc) (h:Heap) (m:ah->ar Value) (x:ah) (u:Value):Prop:=
 (env.kindOf x=aa .local/\m x=aa u)\/((env.kindOf x=aa .cell\/env.kindOf x=aa .free)/\∃c,env.cells.lookup x=aa c/\h.IsCell c (aa u))
structure Cx.Ok (X:Cx):Prop where
 mod:Mod X.K X.mg X.base
 kind:X.env.scope.kind=.function
 glob:X.env.globals=fU
 blt:X.env.builtins=DX
 above:X.s₀.heap.objs.size<=X.env.locals
 inj:∀x y c,X.env.cells.lookup x=aa c->X.env.cells.lookup y=aa c->x=y
 has:∀x,(X.env.kindOf x=aa .cell\/X.env.kindOf x=aa .free)->∃c,X.env.cells.lookup x=aa c
 cab:∀x c,X.fn x=ai->X.env.cells.lookup x=aa c->X.s₀.heap.objs.size<=c
 hd:X.calm=ai->X.A.handled=ab
 frames:X.A.frames=aa X.stack
 stk:X.stack=X.outer\/(X.stack=X.env::X.outer/\X.env.frame=aa X.env.locals)
 exf:∀b∈X.ex,b≠X.env.locals/\∀x c,X.env.cells.lookup x=aa c->c≠b
 bs:∀b o,X.base.get? b=aa o->X.s₀.heap.get? b=aa o/\X.H₀ b=ab
 bsz:X.base.objs.size<=X.s₀.heap.objs.size
 noex:∀b o,X.base.get? b=aa o->b∉X.ex
 exfs:∀b∈X.ex,b∉X.fs
 funs:X.s₀.heap.FunFrames X.base X.outer
 frf:∀b∈X.fs,X.H₀ b=ab
structure Inv (X:Cx) (pins:ac (av×a8)) (σ:ac (ar V)) (H:Hp) (s:aG):Prop where
 ok:X.Ok
 os:s.os=X.s₀.os
 bare:kA s.gens
 base:Un X.fs X.ex X.H₀ H X.s₀.heap s.heap
 loc:∃m,s.heap.Ns X.env.locals m/\∀(i:al) (x:ah) (v:V),X.N[i]?=aa x->σ[i]?=aa (aa v)->Vis X.env.scope x->∃u,bD v u/\MR X.env s.heap m x u
 cell:∀x c,X.env.cells.lookup x=aa c->∃v,s.heap.IsCell c v
 free:H X.env.locals=ab
 freeC:∀x c,X.env.cells.lookup x=aa c->H c=ab
 pin:∀p∈X.pn++pins,s.heap.get? p.1=aa p.2/\H p.1=ab/\p.1≠X.env.locals/\p.1∉X.fs/\∀v,p.2.data≠.cell v
 hok:HOk X.prog X.w H s.heap
 len:σ.length=X.N.length
variable {X:Cx} {pins:ac (av×a8)} {s s':aG} {t' i j:al} {d':Drawn} {N:ac ah} {x:ah} {A:eF} {v:V} {u:Value}
section
variable {σ:ac (ar V)}
theorem Cx.Ok.nofr (ok:X.Ok) {b:av} {o:a8} (e:X.base.get? b=aa o):b∉X.fs:=fun hb=>by have:=(ok.funs.mem hb).1;rw[e] at this;cases this
theorem Inv.bs (I:Inv X pins σ H s):∀b o,X.base.get? b=aa o->s.heap.get? b=aa o/\H b=ab:=fun b o e=>
 ⟨I.base.keep b o (I.ok.bs b o e).1 (I.ok.bs b o e).2 (I.ok.nofr e) (I.ok.noex b o e),I.base.free b o (I.ok.bs b o e).1 (I.ok.bs b o e).2 (I.ok.noex b o e)⟩
theorem Inv.bk (I:Inv X pins σ H s):∀b o,X.base.get? b=aa o->s.heap.get? b=aa o:=fun b o e=>(I.bs b o e).1
theorem Inv.mod (I:Inv X pins σ H s):Mod X.K X.mg X.base:=I.ok.mod
theorem Inv.kIn (I:Inv X pins σ H s):X.K.In s.heap:=I.ok.mod.kin.keeps I.bk
theorem Inv.lt (I:Inv X pins σ H s):X.env.locals<s.heap.objs.size:=let ⟨_,hn,_⟩:=I.loc;hn.lt
theorem Inv.sz (I:Inv X pins σ H s):X.s₀.heap.objs.size<=s.heap.objs.size:=qK I.ok.above (rm I.lt)
theorem Inv.nofs (I:Inv X pins σ H s) (h:s.heap.objs.size<=a):a∉X.fs:=fun hb=>by obtain⟨_,o,ho,_⟩:=I.ok.funs.mem hb;exact bz (qD (qu ho) (qK I.sz h)) (lI _)
theorem Inv.cne (I:Inv X pins σ H s):∀x c,X.env.cells.lookup x=aa c->c≠X.env.locals:=fun x c e z=>by obtain⟨v,o,ho,hd⟩:=I.cell x c e;obtain⟨m,⟨o',es,ep,ho',hd',_⟩,_⟩:=I.loc;rw[z,ho'] at ho;cases ho;rw[hd'] at hd;cases hd
theorem Inv.funs (I:Inv X pins σ H s):s.heap.FunFrames X.base X.outer:=by
 have all:∀(l:ac dc),(∀b∈frs l,b∈X.fs)->X.s₀.heap.FunFrames X.base l->s.heap.FunFrames X.base l:=by
  intro l
  induction l with
  |nil=>intro _ _;trivial
  |cons env r ih=>
   intro hs hl;obtain⟨hk,⟨L,o,hf,hn,ho,hd⟩,hr⟩:=hl;have hL:L∈X.fs:=hs L (by unfold frs;rw[uA,hf];exact qg);obtain⟨sl,e⟩:=I.base.slot L o ho (I.ok.frf L hL) hL fun z=>I.ok.exfs L z hL;exact⟨hk,⟨L,_,hf,hn,e,hd⟩,ih (fun b hb=>hs b (by unfold frs;rw[uA,hf];exact qh _ hb)) hr⟩
 exact all X.outer (fun _ hb=>hb) I.ok.funs
theorem Inv.stack (I:Inv X pins σ H s):s.heap.FunFrames X.base X.stack:=by
 rcases I.ok.stk with e|⟨e,hf⟩
 .rw[e];exact I.funs
 .rw[e];obtain⟨m,hn,_⟩:=I.loc;refine .cons (by rw[I.ok.kind];decide) hf hn ?_ I.funs;exact Heap.get?_none_of_le (qK I.ok.bsz I.ok.above)
theorem Inv.stkSub (I:Inv X pins σ H s):∀b∈frs X.stack,b∈X.env.locals::X.fs:=fun b hb=>by
 rcases I.ok.stk with e|⟨e,hf⟩
 .rw[e] at hb;exact qh _ hb
 .rw[e] at hb;unfold frs at hb;rw[uA,hf] at hb;exact hb
theorem Inv.stkFree (I:Inv X pins σ H s):∀b∈frs X.stack,H b=ab:=fun b hb=>by
 rcases cA.mp (I.stkSub b hb) with e|hb
 .rw[e];exact I.free
 .obtain⟨_,o,ho,_⟩:=I.ok.funs.mem hb;exact I.base.free b o ho (I.ok.frf b hb) fun z=>I.ok.exfs b z hb
theorem Inv.step {g':bP rn} {ch:ac av} (I:Inv X pins σ H s)
  (hch:∀b∈ch,(b∈X.ex\/X.s₀.heap.objs.size<=b)/\b≠X.env.locals/\(∀x c,X.env.cells.lookup x=aa c->c≠b)/\∀p∈X.pn++pins,p.1≠b)
  (keep:∀b o,b≠X.env.locals->b∉X.fs->b∉ch->s.heap.get? b=aa o->H b=ab->h'.get? b=aa o)
  (slot:∀b o,b≠X.env.locals->b∈X.fs->b∉ch->s.heap.get? b=aa o->H b=ab->∃sl,h'.get? b=aa {o with slots:=sl}) (free:∀b o,b∉ch->s.heap.get? b=aa o->H b=ab->H' b=ab)
  (there:∀b o,b∉ch->s.heap.get? b=aa o->∃o',h'.get? b=aa o')
  (tups:∀b xs,H b=aa (.tup xs)->H' b=aa (.tup xs)) (frzs:∀b o u,H b=aa (.frz o u)->H' b=aa (.frz o u)) (tbls:∀b ps,H b=aa (.tbl ps)->∃more,H' b=aa (.tbl (ps++more)))
  (ns:∀m,s.heap.Ns X.env.locals m->h'.Ns X.env.locals m) (hok:HOk X.prog X.w H' h') (hg:kA g') :
  Inv X pins σ H' {s with heap:=h',gens:=g',drawn:=d',toks:=t'}:=by
 have neL:∀b o,X.s₀.heap.get? b=aa o->b≠X.env.locals:=fun b o e=>qA (qD (qu e) I.ok.above);have neC:∀b o,X.s₀.heap.get? b=aa o->b∉X.ex->b∉ch:=fun b o e hx hb=>by
  rcases(hch b hb).1 with z|z
  .exact hx z
  .exact bz (qD (qu e) z) (lI _)
 have cellK:∀x c,X.env.cells.lookup x=aa c->∀v,s.heap.IsCell c v->h'.IsCell c v:=fun x c e v ⟨o,ho,hd⟩=>by
  have nch:c∉ch:=fun z=>(hch c z).2.2.1 x c e rfl;by_cases hc:c∈X.fs
  .obtain⟨sl,q⟩:=slot c o (I.cne x c e) hc nch ho (I.freeC x c e);exact⟨_,q,hd⟩
  .exact⟨o,keep c o (I.cne x c e) hc nch ho (I.freeC x c e),hd⟩
 refine⟨I.ok,I.os,hg,⟨fun b o e n hb hx=>?_,fun b o e n hb hx=>?_,fun b o e n hx=>?_,fun b o e hx=>?_,fun b xs e=>tups b xs (I.base.tups b xs e),fun b o xs e=>frzs b o xs (I.base.frzs b o xs e),fun b ps e=>?_⟩,?_,fun x c e=>?_,?_,fun x c e=>?_,fun p hp=>?_,hok,I.len⟩
 .exact keep b o (neL b o e) hb (neC b o e hx) (I.base.keep b o e n hb hx) (I.base.free b o e n hx)
 .obtain⟨sl,e1⟩:=I.base.slot b o e n hb hx;obtain⟨sl',e2⟩:=slot b _ (neL b o e) hb (neC b o e hx) e1 (I.base.free b o e n hx);exact⟨sl',e2⟩
 .obtain⟨o',e1⟩:=I.base.there b o e hx;exact free b o' (neC b o e hx) e1 (I.base.free b o e n hx)
 .obtain⟨o',e1⟩:=I.base.there b o e hx;exact there b o' (neC b o e hx) e1
 .obtain⟨m1,e1⟩:=I.base.tbls b ps e;obtain⟨m2,e2⟩:=tbls b _ e1;exact⟨m1++m2,by rw[e2,Array.append_assoc]⟩
 .obtain⟨m,hn,hl⟩:=I.loc;refine⟨m,ns m hn,fun i x v e1 e2 e3=>?_⟩;obtain⟨u,r,l⟩:=hl i x v e1 e2 e3;refine⟨u,r,?_⟩;rcases l with l|⟨k,c,e,z⟩
  .exact .inl l
  .exact .inr ⟨k,c,e,cellK x c e _ z⟩
 .obtain⟨v,z⟩:=I.cell x c e;exact⟨v,cellK x c e v z⟩
 .obtain⟨m,⟨o,_,_,ho,_⟩,_⟩:=I.loc;exact free _ o (fun z=>(hch _ z).2.1 rfl) ho I.free
 .obtain⟨v,o,ho,hd⟩:=I.cell x c e;exact free c o (fun z=>(hch c z).2.2.1 x c e rfl) ho (I.freeC x c e)
 .obtain⟨e,n,ne,nf,d⟩:=I.pin p hp;have nch:p.1∉ch:=fun z=>(hch p.1 z).2.2.2 p hp rfl;exact⟨keep p.1 p.2 ne nf nch e n,free p.1 p.2 nch e n,ne,nf,d⟩
theorem Inv.un (I:Inv X pins σ H s) (u:Un X.fs [] H H' s.heap h') (hok:HOk X.prog X.w H' h'):Inv X pins σ H' {s with heap:=h',toks:=t'}:=by
 obtain⟨m,⟨o,es,ep,ho,r⟩,_⟩:=id I.loc;obtain⟨sl,hL⟩:=u.any ho I.free (by simp);exact I.step (g':=s.gens) (d':=s.drawn) (ch:=[]) (fun _ z=>nomatch z) (fun b o _ hb _ e n=>u.keep b o e n hb (by simp)) (fun b o _ hb _ e n=>u.slot b o e n hb (by simp)) (fun b o _ e n=>u.free b o e n (by simp)) (fun b o _ e=>u.there b o e (by simp)) u.tups u.frzs u.tbls (fun m' hm=>by obtain⟨o',es',ep',ho',r'⟩:=hm;rw[ho] at ho';cases ho';exact⟨_,es',ep',hL,r'⟩) hok I.bare
theorem Inv.call {g':bP rn} {ch:ac av} (I:Inv X pins σ H s) (u:Un (frs X.stack) ch H H' s.heap h') (hok:HOk X.prog X.w H' h') (hg:kA g')
  (hch:∀b∈ch,(b∈X.ex\/X.s₀.heap.objs.size<=b)/\b≠X.env.locals/\(∀x c,X.env.cells.lookup x=aa c->c≠b)/\∀p∈X.pn++pins,p.1≠b) :
  Inv X pins σ H' {s with heap:=h',gens:=g',drawn:=d',toks:=t'}:=by
 obtain⟨m,⟨o,es,ep,ho,r⟩,_⟩:=id I.loc;obtain⟨sl,hL⟩:=u.any ho I.free fun z=>(hch _ z).2.1 rfl;exact I.step (ch:=ch) hch (fun b o hL hb hc e n=>u.keep b o e n (fun z=>(cA.mp (I.stkSub b z)).elim hL hb) hc) (fun b o _ _ hc e n=>u.any e n hc) (fun b o hc e n=>u.free b o e n hc) (fun b o hc e=>u.there b o e hc) u.tups u.frzs u.tbls (fun m' hm=>by obtain⟨o',es',ep',ho',r'⟩:=hm;rw[ho] at ho';cases ho';exact⟨_,es',ep',hL,r'⟩) hok hg
theorem Inv.turned {it:av} (I:Inv X pins σ H s) (k:∀b o,b≠it->s.heap.get? b=aa o->h'.get? b=aa o) (hn:H it=ab) (hL:it≠X.env.locals)
  (h1:it∈X.ex\/X.s₀.heap.objs.size<=it) (h2:∀x c,X.env.cells.lookup x=aa c->c≠it) (h3:∀p∈X.pn++pins,p.1≠it):Inv X pins σ H {s with heap:=h',toks:=t'}:=by
 have nit:∀b u,H b=aa u->b≠it:=fun b u e z=>by rw[z,hn] at e;cases e
 refine I.step (g':=s.gens) (d':=s.drawn) (ch:=[it]) (fun b hb=>?_) (fun b o _ _ hc e _=>k b o (fun z=>hc (by simp[z])) e) (fun b o _ _ hc e _=>⟨o.slots,k b o (fun z=>hc (by simp[z])) e⟩) (fun _ _ _ _ n=>n)
  (fun b o hc e=>⟨o,k b o (fun z=>hc (by simp[z])) e⟩) (fun _ _ e=>e) (fun _ _ _ e=>e) (fun b ps e=>⟨#[],by rw[e];simp⟩) (fun m hm=>?_) (fun b u e=>?_) I.bare
 .have e:b=it:=by simpa using hb
  subst e;exact⟨h1,hL,h2,h3⟩
 .obtain⟨o,es,ep,ho,r⟩:=hm;exact⟨o,es,ep,k _ o (df hL) ho,r⟩
 .refine(I.hok b u e).stay (fun c v hc q=>k c v ?_ q) (fun _ q=>q) fun _ _ q=>q;rcases hc with z|z
  .rw[z];exact nit b u e
  .exact nit c _ z
theorem Inv.tok (I:Inv X pins σ H s) (t:al):Inv X pins σ H {s with toks:=t}:=I.un (h':=s.heap) (t':=t) Un.refl I.hok
theorem Inv.kept {t':al} (I:Inv X pins σ H s) (k:∀b u,s.heap.get? b=aa u->h'.get? b=aa u):Inv X pins σ H {s with heap:=h',toks:=t'}:=I.un (Un.kept k) (I.hok.kept k)
theorem Inv.laid {a:av} {o:HO} {t':al} (I:Inv X pins σ H s) (k:∀b u,s.heap.get? b=aa u->h'.get? b=aa u) (hp:s.heap.objs.size<=a) (new:cV X.prog X.w (upd H a o) h' a o) :
  Inv X pins σ (upd H a o) {s with heap:=h',toks:=t'}:=I.un (Un.laid k hp (I.hok.fresh hp)) (I.hok.laid k hp new)
theorem Inv.write {x e:av} {o:HO} {t':al} (I:Inv X pins σ H s) (mu:Mut (H x)) (he:e=x\/H e=aa (.own x)) (k:∀b u,b≠e->s.heap.get? b=aa u->h'.get? b=aa u) (heo:∃u,h'.get? e=aa u)
  (new:cV X.prog X.w (upd H x o) h' x o):Inv X pins σ (upd H x o) {s with heap:=h',toks:=t'}:=I.un (Un.write mu he k heo) (I.hok.write mu he k heo new)
theorem Inv.pins_of {pins':ac (av×a8)} (I:Inv X pins σ H s) (h:∀p∈pins',s.heap.get? p.1=aa p.2/\H p.1=ab/\p.1≠X.env.locals/\p.1∉X.fs/\∀v,p.2.data≠.cell v):Inv X pins' σ H s:=
 ⟨I.ok,I.os,I.bare,I.base,I.loc,I.cell,I.free,I.freeC,fun p hp=>(cR.mp hp).elim (fun z=>I.pin p (x9 _ z)) (h p),I.hok,I.len⟩
theorem Dr (hN:N.Nodup) (a:N[i]?=aa x) (b:N[j]?=aa x):i=j:=by obtain⟨h1,e1⟩:=cY.mp a;obtain⟨h2,e2⟩:=cY.mp b;exact(Ps hN).mp (e1.trans e2.symm)
theorem Cq {M:uB} {E:Value->aG->Prop} {Q:mW->aG->Prop} (I:Inv X pins σ H s) (hN:X.N.Nodup) (hi:X.N[i]?=aa x) (hx:Loc X.env.scope x) (r:bD v u)
  (h:∀s',Inv X pins (σ.set i (aa v)) H s'->(∃a,ii a s.heap s'.heap/\(a=X.env.locals\/X.env.cells.lookup x=aa a))->Q () s') (hf:X.fn x=ai\/X.env.scope.names.lookup x=aa .local:=by first|exact .inl rfl|exact .inr rfl|assumption):aK M A (storeName X.env x u) Q E s:=by
 obtain⟨m,hn,hl⟩:=id I.loc;have hcls:(X.env.scope.kind==.class || (X.env.scope.kind==.module && X.env.locals != X.env.globals))=ao:=by rw[I.ok.kind];rfl
 have hiσ:i < σ.length:=by rw[I.len];exact(cY.mp hi).1
 have cne:=I.cne;have tracked:∀{a:av} {h':Heap},(∃o,s.heap.get? a=aa o/\H a=ab)->ii a s.heap h'->HOk X.prog X.w H h':=fun {a h'} ha hs b ob e=>by
  obtain⟨_,_,hfree⟩:=ha;refine(I.hok b ob e).stay (fun c w' hc q=>(hs.2 c ?_).trans q) (fun _ q=>q) fun _ _ q=>q;rintro rfl;rcases hc with rfl|hc
  .rw[hfree] at e;cases e
  .rw[hfree] at hc;cases hc
 rcases hx with hk|hk
 .refine wpAny_storeName_local hk hn (fun h' hn' hs=>?_) hcls;obtain⟨oL,_,_,hoL,_⟩:=id hn;refine h _ ⟨I.ok,I.os,I.bare,⟨fun b o e n hb hx=>?_,fun b o e n hb hx=>?_,I.base.free,fun b o e hx=>?_,I.base.tups,I.base.frzs,I.base.tbls⟩,⟨_,hn',fun j y v' e1 e2 e3=>?_⟩,fun y c e=>?_,I.free,I.freeC,fun p hp=>?_,tracked ⟨oL,hoL,I.free⟩ hs,by simpa using I.len⟩ ⟨_,hs,.inl rfl⟩
  .exact(hs.2 b (qA (qD (qu e) I.ok.above))).trans (I.base.keep b o e n hb hx)
  .obtain⟨sl,e1⟩:=I.base.slot b o e n hb hx;exact⟨sl,(hs.2 b (qA (qD (qu e) I.ok.above))).trans e1⟩
  .obtain⟨o',e1⟩:=I.base.there b o e hx;exact⟨o',(hs.2 b (qA (qD (qu e) I.ok.above))).trans e1⟩
  .by_cases hj:j=i
   .subst hj;rw[hi] at e1;cases e1;rw[uC hiσ] at e2;cases e2;exact⟨u,r,.inl ⟨hk,by simp⟩⟩
   .rw[mX (df hj)] at e2;obtain⟨u',r',q⟩:=hl j y v' e1 e2 e3;refine⟨u',r',?_⟩;rcases q with⟨k,e⟩|⟨k,c,e,z⟩
    .refine .inl ⟨k,?_⟩;have:y≠x:=fun e=>hj (Dr hN e1 (e▸hi));simp[this,e]
    .exact .inr ⟨k,c,e,z.sameBut hs (cne y c e)⟩
  .obtain⟨w',z⟩:=I.cell y c e;exact⟨w',z.sameBut hs (cne y c e)⟩
  .obtain⟨e,n,ne,nf,d⟩:=I.pin p hp;exact⟨(hs.2 p.1 ne).trans e,n,ne,nf,d⟩
 .have hfn:X.fn x=ai:=by
   rcases hf with z|z
   .exact z
   .rw[z] at hk;cases hk
  obtain⟨c,hc⟩:=I.ok.has x (.inl hk);obtain⟨w',z⟩:=I.cell x c hc;refine wpAny_storeName_cell I.ok.kind hk hc z (fun h' hc' hs=>?_);obtain⟨oc,hoc,hocd⟩:=id z;refine h {s with heap:=h'} ⟨I.ok,I.os,I.bare,⟨fun b o e n hb hx=>?_,fun b o e n hb hx=>?_,I.base.free,fun b o e hx=>?_,I.base.tups,I.base.frzs,I.base.tbls⟩,⟨m,hn.sameBut hs (df (cne x c hc)),fun j y v' e1 e2 e3=>?_⟩,fun y c' e=>?_,I.free,I.freeC,fun p hp=>?_,tracked ⟨oc,hoc,I.freeC x c hc⟩ hs,by simpa using I.len⟩ ⟨c,hs,.inr hc⟩
  .exact(hs.2 b (qA (qD (qu e) (I.ok.cab x c hfn hc)))).trans (I.base.keep b o e n hb hx)
  .obtain⟨sl,e1⟩:=I.base.slot b o e n hb hx;exact⟨sl,(hs.2 b (qA (qD (qu e) (I.ok.cab x c hfn hc)))).trans e1⟩
  .obtain⟨o',e1⟩:=I.base.there b o e hx;exact⟨o',(hs.2 b (qA (qD (qu e) (I.ok.cab x c hfn hc)))).trans e1⟩
  .by_cases hj:j=i
   .subst hj;rw[hi] at e1;cases e1;rw[uC hiσ] at e2;cases e2;exact⟨u,r,.inr ⟨.inl hk,c,hc,hc'⟩⟩
   .rw[mX (df hj)] at e2;obtain⟨u',r',q⟩:=hl j y v' e1 e2 e3;refine⟨u',r',?_⟩;rcases q with q|⟨k,c',e,z'⟩
    .exact .inl q
    .refine .inr ⟨k,c',e,z'.sameBut hs ?_⟩;rintro rfl;exact hj (Dr hN e1 (I.ok.inj _ _ _ e hc▸hi))
  .by_cases hcc:c'=c
   .subst hcc;exact⟨_,hc'⟩
   .obtain⟨w2,z2⟩:=I.cell y c' e;exact⟨w2,z2.sameBut hs hcc⟩
  .obtain⟨e,n,ne,nf,d⟩:=I.pin p hp;refine⟨(hs.2 p.1 ?_).trans e,n,ne,nf,d⟩;intro q;rw[q,hoc] at e;have q':oc=p.2:=qF e;exact d w' (by rw[←q'];exact hocd)
theorem ui {M:uB} {E:Value->aG->Prop} {Q:mW->aG->Prop} (I:Inv X pins σ H s) (hN:X.N.Nodup) (hi:X.N[i]?=aa x) (hx:Loc X.env.scope x) (r:bD v u)
  (h:∀s',Inv X pins (σ.set i (aa v)) H s'->Q () s') (hf:X.fn x=ai\/X.env.scope.names.lookup x=aa .local:=by first|exact .inl rfl|exact .inr rfl|assumption):aK M A (storeName X.env x u) Q E s:=
 Cq I hN hi hx r (fun s' I' _=>h s' I') hf
theorem Inv.call' {ch:ac av} (I:Inv X pins σ H s) (ho:s'.os=s.os) (u:Un (frs X.stack) ch H H' s.heap s'.heap) (hok:HOk X.prog X.w H' s'.heap) (hg:kA s'.gens)
  (hch:∀b∈ch,(b∈X.ex\/X.s₀.heap.objs.size<=b)/\b≠X.env.locals/\(∀x c,X.env.cells.lookup x=aa c->c≠b)/\∀p∈X.pn++pins,p.1≠b):Inv X pins σ H' s':=by
 obtain⟨h',g',d',t',o'⟩:=s';have e:o'=s.os:=ho;subst e;exact I.call (g':=g') (t':=t') (d':=d') u hok hg hch
end
noncomputable abbrev XK:=Value->ar av->Hp->Prop
noncomputable abbrev St:=ac (ar V)
noncomputable abbrev VK:=V->Hp->Prop
noncomputable abbrev TE:=St->Hp->VK->Prop
noncomputable abbrev TT:=St->Hp->(aN->Hp->Prop)->Prop
noncomputable abbrev TA:=St->Hp->(ac V->Hp->Prop)->Prop
structure Ends where
 nx:St->Hp->Prop
 rt:VK
 bk:St->Hp->Prop:=fun _ _=>False
 ct:St->Hp->Prop:=fun _ _=>False
noncomputable abbrev TS:=Ends->St->Hp->Prop
noncomputable def EP (X:Cx) (pins:ac (av×a8)) (σ:St) (Q:VK) (u:Value) (s':aG):Prop:=∃v H',Inv X pins σ H' s'/\bD v u/\Q v H'
noncomputable def TP (X:Cx) (pins:ac (av×a8)) (σ:St) (Q:aN->Hp->Prop) (b:aN) (s':aG):Prop:=∃H',Inv X pins σ H' s'/\Q b H'
noncomputable def AP (X:Cx) (pins:ac (av×a8)) (σ:St) (Q:ac V->Hp->Prop) (us:ac Value) (s':aG):Prop:=∃vs H',Inv X pins σ H' s'/\bH vs us/\Q vs H'
noncomputable def SP (X:Cx) (pins:ac (av×a8)) (D:Ends) (f:Flow) (s':aG):Prop:=
 match f with
 |.next=>∃σ' H',Inv X pins σ' H' s'/\D.nx σ' H'
 |.brk=>∃σ' H',Inv X pins σ' H' s'/\D.bk σ' H'
 |.cont=>∃σ' H',Inv X pins σ' H' s'/\D.ct σ' H'
 |.ret u=>∃v σ' H',Inv X pins σ' H' s'/\bD v u/\D.rt v H'
noncomputable def PE (X:Cx) (e:Expr) (t:TE):Prop:=
 ∀(pins:ac (av×a8)) (s:aG) (σ:St) (H:Hp) (Q:VK),Inv X pins σ H s->t σ H Q->aK .(r) X.A (eval e X.env) (EP X pins σ Q) X.xe s
noncomputable def PT (X:Cx) (e:Expr) (t:TT):Prop:=
 ∀(pins:ac (av×a8)) (s:aG) (σ:St) (H:Hp) (Q:aN->Hp->Prop),Inv X pins σ H s->t σ H Q->aK .(r) X.A (isTrue e X.env (eval e X.env)) (TP X pins σ Q) X.xe s
noncomputable def PW (X:Cx) (e:Expr) (t:TT):Prop:=
 ∀(whole:Sem Value) (pins:ac (av×a8)) (s:aG) (σ:St) (H:Hp) (Q:aN->Hp->Prop),Inv X pins σ H s->t σ H Q->aK .(r) X.A (isTrue e X.env whole) (TP X pins σ Q) X.xe s
variable {e:Expr}
theorem PW.pt {t:TT} (h:PW X e t):PT X e t:=h _
noncomputable def PA (X:Cx) (es:ac Expr) (t:TA):Prop:=
 ∀(pos:dn) (pins:ac (av×a8)) (s:aG) (σ:St) (H:Hp) (Q:ac V->Hp->Prop),Inv X pins σ H s->t σ H Q->aK .(r) X.A (spliced (cE pos (a7 es X.env))) (AP X pins σ Q) X.xe s
noncomputable def PS (X:Cx) (st:Stmt) (t:TS):Prop:=
 ∀(pins:ac (av×a8)) (s:aG) (σ:St) (H:Hp) (D:Ends),Inv X pins σ H s->t D σ H->aK .(r) X.A (exec st X.env) (SP X pins D) X.xe s
noncomputable def PSs (X:Cx) (st:ac Stmt) (t:TS):Prop:=
 ∀(pins:ac (av×a8)) (s:aG) (σ:St) (H:Hp) (D:Ends),Inv X pins σ H s->t D σ H->aK .(r) X.A (execs st X.env) (SP X pins D) X.xe s
variable {α:Type}
theorem thn {t:Sem α} {Q Q':α->aG->Prop} {M:uB} {E:Value->aG->Prop} (h:aK M A t Q E s) (hQ:∀a s,Q a s->Q' a s):aK M A t Q' E s:=gU h hQ fun _ _ x=>x
variable {b:Expr} {ta:TE} {σ:St} {pos:dn} {Q:Value->aG->Prop} {op:CmpOp}
section
theorem bin {a:Expr} {tb:TE} (ha:PE X a ta) (hb:PE X b tb) {R:V->V->Hp->Prop} (I:Inv X pins σ H s) (h:ta σ H fun x H1=>tb σ H1 fun y H2=>R x y H2)
  {Q:α->aG->Prop} {f:Value->Value->Sem α} 
  (hf:∀v u s2 x y H2,Inv X pins σ H2 s2->bD x v->bD y u->R x y H2->aK .(r) X.A (f v u) Q X.xe s2) :
  aK .(r) X.A (eval a X.env) (fun v s₁=>aK .(r) X.A (eval b X.env) (fun u s₂=>aK .(r) X.A (f v u) Q X.xe s₂) X.xe s₁) X.xe s:=by
 refine thn (ha pins s σ H _ I h) fun v s1 ⟨x,H1,I1,r1,q1⟩=>?_;refine thn (hb pins s1 σ H1 _ I1 q1) fun u s2 ⟨y,H2,I2,r2,q2⟩=>?_;exact hf v u s2 x y H2 I2 r1 r2 q2
noncomputable def Ch (i:al):TE:=fun σ H Q=>∃v,σ[i]?=aa (aa v)/\Q v H
noncomputable def tC (v:V):TE:=fun _ H Q=>Q v H
theorem i7 (hN:X.N[i]?=aa x) (hv:Vis X.env.scope x) (hd:.(H)=ao:=by decide) (hcd:(x==("__classdict__":ah))=ao:=by decide):PE X (.Name x pos) (Ch i):=by
 intro pins s σ H Q I h;obtain⟨v,e,h⟩:=h;obtain⟨m,hn,hl⟩:=I.loc;obtain⟨u,r,l⟩:=hl i x v hN e hv;have fin:EP X pins σ Q u s:=⟨v,H,I,r,h⟩;rcases l with⟨hk,hm⟩|⟨hk,c,hc,hcell⟩
 .exact DY (wpAny_loadName_local I.ok.kind hk hn hm fin) hd
 .rcases hk with hk|hk
  .exact DY (wpAny_loadName_cell I.ok.kind hk hc hcell fin) hd
  .exact DY (wpAny_loadName_free I.ok.kind hk hc hcell fin hcd) hd
theorem NA {i j pos}:PE X (.Constant (.int i) j pos) (tC (.int i)):=fun _ _ _ H _ I h=>wpAny_Constant_int ⟨.int i,H,I.tok _,⟨_,rfl⟩,h⟩
theorem Nl {b j pos}:PE X (.Constant (.bool b) j pos) (tC (.bl b)):=fun _ _ _ H _ I h=>Constant_bool ⟨.bl b,H,I,rfl,h⟩
theorem IL {j pos}:PE X (.Constant .none j pos) (tC .non):=fun _ _ _ H _ I h=>Constant_none ⟨.non,H,I,rfl,h⟩
theorem LH {x j pos}:PE X (.Constant (.str x) j pos) (tC (.str x)):=fun _ _ _ H _ I h=>Calls.Constant_str ⟨.str x,H,I.tok _,⟨_,rfl⟩,h⟩
noncomputable def Gl (X:Cx) (x:ah):Prop:=X.env.kindOf x=aa .globalImplicit
theorem vK {E:Value->aG->Prop} (I:Inv X pins σ H s) (hg:Gl X x) (hm:X.mg x=aa u) (h:Q u s)
  (hd:.(H)=ao:=by decide):aK .(r) X.A (eval (.Name x pos) X.env) Q E s:=
 Pt I.ok.kind hg (Calls.loadGlobal_global (by rw[I.ok.glob];exact I.mod.glob.keeps I.bk) hm h) hd
theorem n8 {E:Value->aG->Prop} (I:Inv X pins σ H s) (hg:Gl X x) (hm:X.mg x=ab) (hv:lJ x=aa u) (h:Q u s)
  (hn:x≠"__name__":=by decide) (hd:.(H)=ao:=by decide):aK .(r) X.A (eval (.Name x pos) X.env) Q E s:=by
 obtain⟨mb,h1,h2⟩:=I.mod.blt;exact Pt I.ok.kind hg (Calls.loadGlobal_builtin (by rw[I.ok.glob];exact I.mod.glob.keeps I.bk) hm (by rw[I.ok.blt];exact h1.keeps I.bk) ((h2 x hn).trans hv) h) hd
theorem Ox (hg:Gl X x) (hm:X.mg x=aa u) (r:bD v u) (hd:.(H)=ao:=by decide):PE X (.Name x pos) (tC v):=
 fun _ _ _ H _ I h=>vK I hg hm ⟨v,H,I,r,h⟩ hd
theorem Na (hg:Gl X x) (hm:X.mg x=ab) (hv:lJ x=aa u) (r:bD v u) (hn:x≠"__name__":=by decide) (hd:.(H)=ao:=by decide):PE X (.Name x pos) (tC v):=
 fun _ _ _ H _ I h=>n8 I hg hm hv ⟨v,H,I,r,h⟩ hn hd
variable {a:Expr} {tb:TE}
noncomputable def PC (X:Cx) (op:CmpOp) (a b:Expr) (t:TE):Prop:=
 ∀(pins:ac (av×a8)) (s:aG) (σ:St) (H:Hp) (Q:VK),Inv X pins σ H s->t σ H Q->
  aK .(r) X.A (eval a X.env) (fun v s₁=>aK .(r) X.A (eval b X.env) (fun u s₂=>aK .(r) X.A (dq op v u) (EP X pins σ Q) X.xe s₂) X.xe s₁) X.xe s
theorem N4 (b:Expr) (h:op≠.In) (h2:op≠.NotIn):lK op b=ao:=by
 have e1:(op==Pu)=ao:=by cases op<;>first|rfl|exact bz rfl h
 have e2:(op==Pv)=ao:=by cases op<;>first|rfl|exact bz rfl h2
 cases b<;>simp[lK,e1,e2]
noncomputable def tB (t:TE):TT:=fun σ H Q=>t σ H fun x H1=>∃c,x=.bl c/\Q c H1
theorem RC {t:TE} (h:PC X op a b t) (h1:lK op b=ao:=by first|exact N4 _ .(h) .(h)|rfl):PT X (.Compare a [op] [b] pos) (tB t):=by intro pins s σ H Q I hw;refine Pw (thn (h pins s σ H _ I hw) fun v s1 h1=>thn h1 fun u s2 h2=>thn h2 fun c s3 ⟨x,H1,I1,r1,q1⟩=>?_) h1;obtain⟨d,rfl,q⟩:=q1;cases r1;exact kB ⟨H1,I1,q⟩
theorem Pg {t:TE} (h:PE X e t) (he:∀whole,isTrue e X.env whole=(do let v ←whole;oB e.pos;jG [v] (truthy v)):=by intro _;rfl):PT X e (tB t):=by intro pins s σ H Q I hw;refine isTrue_plain (thn (h pins s σ H _ I hw) fun v s1 ⟨x,H1,I1,r1,q1⟩=>?_) (he _);obtain⟨d,rfl,q⟩:=q1;cases r1;exact kB ⟨H1,I1,q⟩
variable {tA tB':TT} {bX:ac Expr}
noncomputable def Jr (t u:TT):TT:=fun σ H Q=>t σ H fun c H1=>if c=ai then u σ H1 Q else Q ao H1
noncomputable def tOr (t u:TT):TT:=fun σ H Q=>t σ H fun c H1=>if c=ai then Q ai H1 else u σ H1 Q
noncomputable def G0 (t:TT):TT:=fun σ H Q=>t σ H fun c H1=>Q (!c) H1
theorem Pk (ha:PT X a tA):PW X (.BoolOp .And [a] pos) tA:=by
 intro wh pins s σ H Q I h;refine isTrue_and (thn (ha pins s σ H Q I h) fun c s1 e=>?_);cases c with
 |true=>exact isTrue_and_nil e
 |false=>exact e
theorem F2 (ha:PT X a tA):PW X (.BoolOp .Or [a] pos) tA:=by
 intro wh pins s σ H Q I h;refine isTrue_or (thn (ha pins s σ H Q I h) fun c s1 e=>?_);cases c with
 |false=>exact isTrue_or_nil e
 |true=>exact e
theorem N3 (ha:PT X a tA) (hb:PW X (.BoolOp .And (b::bX) pos) tB'):PW X (.BoolOp .And (a::b::bX) pos) (Jr tA tB'):=by
 intro wh pins s σ H Q I h;refine isTrue_and (thn (ha pins s σ H _ I h) fun c s1 ⟨H1,I1,q1⟩=>?_);cases c with
 |true=>exact hb wh pins s1 σ H1 Q I1 q1
 |false=>exact⟨H1,I1,q1⟩
theorem Oe (ha:PT X a tA) (hb:PW X (.BoolOp .Or (b::bX) pos) tB'):PW X (.BoolOp .Or (a::b::bX) pos) (tOr tA tB'):=by
 intro wh pins s σ H Q I h;refine isTrue_or (thn (ha pins s σ H _ I h) fun c s1 ⟨H1,I1,q1⟩=>?_);cases c with
 |true=>exact⟨H1,I1,q1⟩
 |false=>exact hb wh pins s1 σ H1 Q I1 q1
theorem Od (ha:PT X a tA):PT X (.UnaryOp .Not a pos) (G0 tA):=by intro pins s σ H Q I h;exact isTrue_not (ha pins s σ H (fun c H1=>Q (!c) H1) I h)
noncomputable def Of (ta tb:TE):TE:=fun σ H Q=>ta σ H fun x H1=>∃c,x=.bl c/\if c=ai then tb σ H1 Q else Q (.bl ao) H1
noncomputable def J2 (ta tb:TE):TE:=fun σ H Q=>ta σ H fun x H1=>∃c,x=.bl c/\if c=ai then Q (.bl ai) H1 else tb σ H1 Q
noncomputable def MC (ta:TE):TE:=fun σ H Q=>ta σ H fun x H1=>∃c,x=.bl c/\Q (.bl (!c)) H1
theorem O7 {op} {t:TE} (h:PE X a t):PE X (.BoolOp op [a] pos) t:=fun pins s σ H Q I hw=>BoolOp_one (h pins s σ H Q I hw)
theorem MK (ha:PE X a ta) (hb:PE X (.BoolOp .And (b::bX) pos) tb):PE X (.BoolOp .And (a::b::bX) pos) (Of ta tb):=by
 intro pins s σ H Q I h;refine BoolOp_and (thn (ha pins s σ H _ I h) fun v s1 ⟨x,H1,I1,r1,q1⟩=>?_);obtain⟨c,rfl,q1⟩:=q1;cases r1;refine kB ?_;cases c with
 |true=>exact hb pins s1 σ H1 Q I1 q1
 |false=>exact⟨.bl ao,H1,I1,rfl,q1⟩
theorem OL (ha:PE X a ta) (hb:PE X (.BoolOp .Or (b::bX) pos) tb):PE X (.BoolOp .Or (a::b::bX) pos) (J2 ta tb):=by
 intro pins s σ H Q I h;refine BoolOp_or (thn (ha pins s σ H _ I h) fun v s1 ⟨x,H1,I1,r1,q1⟩=>?_);obtain⟨c,rfl,q1⟩:=q1;cases r1;refine kB ?_;cases c with
 |false=>exact hb pins s1 σ H1 Q I1 q1
 |true=>exact⟨.bl ai,H1,I1,rfl,q1⟩
theorem GV (ha:PE X a ta):PE X (.UnaryOp .Not a pos) (MC ta):=by intro pins s σ H Q I h;refine UnaryOp_ (thn (ha pins s σ H _ I h) fun v s1 ⟨x,H1,I1,r1,q1⟩=>?_);obtain⟨c,rfl,q1⟩:=q1;cases r1;exact not_of (kB ⟨.bl (!c),H1,I1,rfl,q1⟩)
end
noncomputable def SqL (K:bh) (H:Hp) (a:av) (xs:ac V):Prop:=
 Rd H a (.lst xs) \/
  ∃(o:a8) (its:bP Value) (n:al),K.lookup a=aa o/\o.cls=.type "list"/\o.dict=ab/\o.data=.seq its n/\its.size<=aT/\bH xs its.toList
noncomputable def SqT (K:bh) (H:Hp) (a:av) (xs:ac V):Prop:=
 Rd H a (.tup xs) \/
  ∃(o:a8) (its:bP Value) (n:al),K.lookup a=aa o/\o.cls=.type "tuple"/\o.data=.seq its n/\its.size<=aT/\bH xs its.toList
noncomputable def Gj:Value->ar V
 |.none=>aa .non
 |.bool b=>aa (.bl b)
 |.int i _=>aa (.int i)
 |.str x _=>aa (.str x)
 |.bytes b _=>aa (.byt b)
 |.float b _=>aa (.flt b)
 |.ref a=>aa (.ref a)
 |.type n=>aa (.ty n)
 |_=>ab
theorem bD.abs {x:V} (r:bD x u):Gj u=aa x:=by
 cases x with
 |non=>cases r;rfl
 |bl _=>cases r;rfl
 |int _=>obtain⟨t,rfl⟩:=r;rfl
 |str _=>obtain⟨t,rfl⟩:=r;rfl
 |byt _=>obtain⟨t,rfl⟩:=r;rfl
 |flt _=>obtain⟨t,rfl⟩:=r;rfl
 |ref _=>cases r;rfl
 |ty _=>cases r;rfl
theorem bD.inj {x y:V} (r:bD x u) (q:bD y u):x=y:=qF (r.abs.symm.trans q.abs)
theorem bH.inj:∀{xs ys:ac V} {us:ac Value},bH xs us->bH ys us->xs=ys
 |_,_,_,.nil,.nil=>rfl
 |_,_,_,.cons r t,.cons r' t'=>by rw[r.inj r',bH.inj t t']
variable {ys:ac V}
section
variable {xs:ac V}
theorem Inv.list (I:Inv X pins σ H s) (h:SqL X.K H a xs):∃its:ac Value,bH xs its/\PlainL s.heap a its.toArray/\xs.length<=aT:=by
 rcases h with h|⟨o,its,n,hk,hc,hd,hs,hz,r⟩
 .obtain⟨z,its,n,r,e⟩:=h.ok I.hok;exact⟨its,r,⟨_,n,e,rfl,rfl,rfl⟩,z⟩
 .refine⟨its.toList,r,⟨o,n,I.kIn a o hk,hc,hd,by simpa using hs⟩,?_⟩;have e:=r.length;simp only[fV] at e;omega
theorem Inv.tuple (I:Inv X pins σ H s) (h:SqT X.K H a xs):∃its:ac Value,bH xs its/\IsTup s.heap a its.toArray/\xs.length<=aT:=by
 rcases h with h|⟨o,its,n,hk,hc,hs,hz,r⟩
 .obtain⟨z,its,r,p⟩:=h.ok I.hok;exact⟨its,r,p,z⟩
 .refine⟨its.toList,r,⟨o,I.kIn a o hk,hc,n,by simpa using hs⟩,?_⟩;have e:=r.length;simp only[fV] at e;omega
theorem Inv.list_inj (I:Inv X pins σ H s) (h:SqL X.K H a xs) (h':SqL X.K H a ys):xs=ys:=by
 obtain⟨its,r,⟨o,n,e,_,_,d⟩,_⟩:=I.list h;obtain⟨its',r',⟨o',n',e',_,_,d'⟩,_⟩:=I.list h';rw[e] at e';cases e';rw[d] at d';injection d' with d1 _;have:its=its':=by simpa using cI Px d1
 subst this;exact r.inj r'
theorem Inv.tuple_inj (I:Inv X pins σ H s) (h:SqT X.K H a xs) (h':SqT X.K H a ys):xs=ys:=by
 obtain⟨its,r,⟨o,e,_,n,d⟩,_⟩:=I.tuple h;obtain⟨its',r',⟨o',e',_,n',d'⟩,_⟩:=I.tuple h';rw[e] at e';cases e';rw[d] at d';injection d' with d1 _;have:its=its':=by simpa using cI Px d1
 subst this;exact r.inj r'
end
noncomputable abbrev Cx.wish (X:Cx) (E:Value->aG->Prop):Cx:={X with xe:=E}
noncomputable abbrev Cx.nox (X:Cx):Cx:=X.wish fun _ _=>False
theorem Cx.Ok.wish (ok:X.Ok) (E:Value->aG->Prop):(X.wish E).Ok:=
 ⟨ok.mod,ok.kind,ok.glob,ok.blt,ok.above,ok.inj,ok.has,ok.cab,ok.hd,ok.frames,ok.stk,ok.exf,ok.bs,ok.bsz,ok.noex,ok.exfs,ok.funs,ok.frf⟩
theorem Cx.Ok.unwish {E:Value->aG->Prop} (ok:(X.wish E).Ok):X.Ok:=
 ⟨ok.mod,ok.kind,ok.glob,ok.blt,ok.above,ok.inj,ok.has,ok.cab,ok.hd,ok.frames,ok.stk,ok.exf,ok.bs,ok.bsz,ok.noex,ok.exfs,ok.funs,ok.frf⟩
section
variable {E:Value->aG->Prop}
theorem Inv.wish (I:Inv X pins σ H s) (E:Value->aG->Prop):Inv (X.wish E) pins σ H s:=⟨I.ok.wish E,I.os,I.bare,I.base,I.loc,I.cell,I.free,I.freeC,I.pin,I.hok,I.len⟩
theorem Inv.unwish (I:Inv (X.wish E) pins σ H s):Inv X pins σ H s:=⟨I.ok.unwish,I.os,I.bare,I.base,I.loc,I.cell,I.free,I.freeC,I.pin,I.hok,I.len⟩
theorem SP.unwish {D:Ends} {f:Flow} {s':aG} (h:SP (X.wish E) pins D f s'):SP X pins D f s':=by
 cases f with
 |next=>obtain⟨σ',H',I,q⟩:=h;exact⟨σ',H',I.unwish,q⟩
 |brk=>obtain⟨σ',H',I,q⟩:=h;exact⟨σ',H',I.unwish,q⟩
 |cont=>obtain⟨σ',H',I,q⟩:=h;exact⟨σ',H',I.unwish,q⟩
 |ret u=>obtain⟨v,σ',H',I,r,q⟩:=h;exact⟨v,σ',H',I.unwish,r,q⟩
theorem PSs.nox {st:ac Stmt} {t:TS} (h:PSs X.nox st t):PSs X st t:=fun pins s σ H D I hw=>
 gU (h pins s σ H D (I.wish _) hw) (fun _ _ q=>q.unwish) fun _ _ z=>ij z
end
variable {st:Stmt} {te:TE} {c:Expr} {tc:TT}
section
variable {bX:ac Stmt} {t u:TS}
noncomputable def LC:TS:=fun D σ H=>D.nx σ H
noncomputable def Ow (t u:TS):TS:=fun D σ H=>t {D with nx:=u D} σ H
theorem Mo:PSs X [] LC:=fun _ _ σ H _ I h=>DZ ⟨σ,H,I,h⟩
theorem K8 (h1:PS X st t) (h2:PSs X bX u):PSs X (st::bX) (Ow t u):=by
 intro pins s σ H D I h;refine Py (thn (h1 pins s σ H {D with nx:=u D} I h) fun f s1 q=>?_);cases f with
 |next=>
  obtain⟨σ',H',I',q⟩:=q;exact h2 pins s1 σ' H' D I' q
 |ret v=>exact q
 |brk=>exact q
 |cont=>exact q
theorem MZ (h1:PS X st t):PSs X [st] t:=by
 intro pins s σ H D I h;refine Py (thn (h1 pins s σ H D I h) fun f s1 q=>?_);cases f with
 |next=>exact DZ q
 |ret v=>exact q
 |brk=>exact q
 |cont=>exact q
theorem Inv.quiet (I:Inv X pins σ H s):interactive X.env=ao:=by simp[interactive,I.ok.kind]
noncomputable def Hz (te:TE):TS:=fun D σ H=>te σ H fun _ H1=>D.nx σ H1
theorem BC (he:PE X e te) (hs:fW e ab pos.line X.env=bA ao:=by rfl):PS X (.Expr e pos) (Hz te):=by intro pins s σ H D I h;exact wpAny_Expr_any (thn (he pins s σ H _ I h) fun v s1 ⟨x,H1,I1,r1,q1⟩=>⟨σ,H1,I1,q1⟩) I.quiet hs
noncomputable def Lm (te:TE):TS:=fun D σ H=>te σ H D.rt
theorem K1 (he:PE X e te):PS X (.Return (aa e) pos) (Lm te):=by intro pins s σ H D I h;exact wpAny_Return_some (thn (he pins s σ H _ I h) fun v s1 ⟨x,H1,I1,r1,q1⟩=>⟨x,σ,H1,I1,r1,q1⟩)
noncomputable def NT (c:TT) (t u:TS):TS:=fun D σ H=>c σ H fun b H1=>if b=ai then t D σ H1 else u D σ H1
theorem Gk {a b:ac Stmt} (hc:PT X c tc) (ha:PSs X a t) (hb:PSs X b u):PS X (.If c a b pos) (NT tc t u):=by
 intro pins s σ H D I h;refine wpAny_If (thn (hc pins s σ H _ I h) fun d s1 ⟨H1,I1,q1⟩=>?_);cases d with
 |true=>exact ha pins s1 σ H1 D I1 q1
 |false=>exact hb pins s1 σ H1 D I1 q1
end
noncomputable abbrev TG:=V->St->Hp->(St->Hp->Prop)->Prop
noncomputable abbrev TGs:=ac V->St->Hp->(St->Hp->Prop)->Prop
noncomputable def PG (X:Cx) (target:Expr) (t:TG):Prop:=
 ∀(pins:ac (av×a8)) (s:aG) (σ:St) (H:Hp) (v:V) (u:Value) (Q:St->Hp->Prop),Inv X pins σ H s->bD v u->t v σ H Q->
  aK .(r) X.A (kC target X.env u) (fun _ s'=>∃σ' H',Inv X pins σ' H' s'/\Q σ' H') X.xe s
noncomputable def PGs (X:Cx) (ts:ac Expr) (t:TGs):Prop:=
 ∀(pins:ac (av×a8)) (s:aG) (σ:St) (H:Hp) (vs:ac V) (us:ac Value) (Q:St->Hp->Prop),Inv X pins σ H s->bH vs us->t vs σ H Q->
  aK .(r) X.A (D0 ((jH ts X.env).map (·.2)) us) (fun _ s'=>∃σ' H',Inv X pins σ' H' s'/\Q σ' H') X.xe s
variable {es:ac Expr} {n:al} {tg:Expr} {pos' px py:dn}
noncomputable def o4 (i:al):TG:=fun v σ H Q=>Q (σ.set i (aa v)) H
theorem Gu (hN:X.N.Nodup) (hi:X.N[i]?=aa x) (hx:Loc X.env.scope x) (hf:X.fn x=ai\/X.env.scope.names.lookup x=aa .local:=by first|exact .inl rfl|exact .inr rfl|assumption):PG X (.Name x pos) (o4 i):=by intro pins s σ H v u Q I r h;exact Pz (ui I hN hi hx r (fun s' I'=>⟨_,H,I',h⟩) hf)
noncomputable def Jc:TGs:=fun vs σ H Q=>vs=[]/\Q σ H
noncomputable def ME (t:TG) (u:TGs):TGs:=fun vs σ H Q=>∃v r,vs=v::r/\t v σ H fun σ' H'=>u r σ' H' Q
theorem Gb:PGs X [] Jc:=by intro pins s σ H vs us Q I r h;obtain⟨e,h⟩:=h;subst e;cases r;exact PD ⟨σ,H,I,h⟩
theorem Nk {t:TG} {u:TGs} (h1:PG X e t) (h2:PGs X es u)
  (hs:(jH (e::es) X.env).map (·.2)=kC e X.env::(jH es X.env).map (·.2):=by rfl):PGs X (e::es) (ME t u):=by
 intro pins s σ H vs us Q I r h;obtain⟨v,vr,e1,h⟩:=h;subst e1;cases r with
 |cons r rr=>
  rw[hs];refine D1 (thn (h1 pins s σ H _ _ _ I r h) fun _ s1 ⟨σ1,H1,I1,q1⟩=>?_);exact h2 pins s1 σ1 H1 _ _ Q I1 rr q1
noncomputable def Ko (K:bh) (n:al) (t:TGs):TG:=fun v σ H Q=>∃a xs,v=.ref a/\SqT K H a xs/\xs.length=n/\t xs σ H Q
theorem Ir {k:al} {t:TGs} (hc:X.calm=ai) (h:PGs X es t)
  (hn:(jH es X.env).length=n:=by rfl) (hst:(jH es X.env).findIdx? (·.1)=ab:=by rfl):PG X (.Tuple es k pos) (Ko X.K n t):=by
 intro pins s σ H v u Q I r hw;obtain⟨a,xs,e1,hq,hl,hw⟩:=hw;subst e1;cases r;obtain⟨its,rv,ht,hz⟩:=I.tuple hq;refine assign_Tuple_tuple (I.ok.hd hc) ht (by simp[hn,←hl,rv.length]) hst fun h' hx=>?_;have I1:Inv X pins σ H {s with heap:=h'}:=I.kept (t':=s.toks) fun b o e=>hx b o (qA (qu e)) e;exact h pins _ σ H xs _ Q I1 (by simpa using rv) hw
noncomputable def pi (te:TE) (g:TG):TS:=fun D σ H=>te σ H fun x H1=>g x σ H1 D.nx
theorem J3 {g:TG} (he:PE X e te) (hg:PG X tg g) (hs:ya [tg] e pos.line X.env=bA ao:=by rfl) (hw:yb [tg] e X.env=bA ab:=by rfl)
  (h1:(jH [tg] X.env).map (·.2)=[kC tg X.env]:=by rfl):PS X (.Assign [tg] e pos) (pi te g):=by
 intro pins s σ H D I h;refine wpAny_Assign_stores (thn (he pins s σ H _ I h) fun v s1 ⟨x,H1,I1,r1,q1⟩=>?_) hs hw;rw[h1];exact thn (hg pins s1 σ H1 x v _ I1 r1 q1) fun _ s2 q=>q
theorem t6 (hN:X.N.Nodup) (hi:X.N[i]?=aa x) (hx:Loc X.env.scope x) (he:PE X e te) (hs:fW e (aa (.Name x pos')) pos.line X.env=bA ao:=by rfl) (hf:X.fn x=ai\/X.env.scope.names.lookup x=aa .local:=by first|exact .inl rfl|exact .inr rfl|assumption) :
  PS X (.Assign [.Name x pos'] e pos) (pi te (o4 i)):=by
 intro pins s σ H D I h;refine wpAny_Assign_Name (thn (he pins s σ H _ I h) fun v s1 ⟨y,H1,I1,r1,q1⟩=>?_) hs;exact ui I1 hN hi hx r1 (fun s2 I2=>⟨_,H1,I2,q1⟩) hf
noncomputable def IZ (i j:al) (ta:TA):TS:=fun D σ H=>ta σ H fun vs H1=>∃v w,vs=[v,w]/\D.nx ((σ.set i (aa v)).set j (aa w)) H1
theorem Fp {y:ah} {a:Expr} {ta:TA} {pt:dn} {kt k2 pt2} (hc:X.calm=ai) (hN:X.N.Nodup) (hi:X.N[i]?=aa x) (hj:X.N[j]?=aa y) (hij:i≠j)
  (hx:X.env.scope.names.lookup x=aa .local) (hy:X.env.scope.names.lookup y=aa .local) (ha:PA X [a,b] ta)
  (hw:yb [.Tuple [.Name x px,.Name y py] kt pt] (.Tuple [a,b] k2 pt2) X.env=bA (aa [x,y]))
  (hs:ya [.Tuple [.Name x px,.Name y py] kt pt] (.Tuple [a,b] k2 pt2) pos.line X.env=bA ao:=by rfl) :
  PS X (.Assign [.Tuple [.Name x px,.Name y py] kt pt] (.Tuple [a,b] k2 pt2) pos) (IZ i j ta):=by
 intro pins s σ H D I h;rw[exec_Assign_arm];refine qw (D2 ?_);rw[hs];refine qw (qy ?_);rw[qX .(h)];refine qw (Tuple_ (thn (ha _ pins s σ H _ I h) fun us s1 ⟨vs,H1,I1,r1,q1⟩=>?_));obtain⟨v,w,e1,q1⟩:=q1;subst e1;obtain⟨u1,u2,rfl,rv,rw'⟩:∃u1 u2,us=[u1,u2]/\bD v u1/\bD w u2:=by
  cases r1 with
  |cons p q=>
   cases q with
   |cons p' q'=>
    cases q';exact⟨_,_,rfl,p,p'⟩
 refine lL ?_ (by show 2<=aT;decide);have I2:Inv X pins σ H1 {s1 with heap:=s1.heap.push {cls:=.type "tuple",data:=.seq [u1,u2].toArray} }:=I1.kept (t':=s1.toks) fun b o e=>qt _ e;rw[hw];refine qw (qy ?_);show aK .(r) X.A (do rule "assign.swapped-stores";let items ←unpackItems (.ref s1.heap.objs.size) 2 ab;D0 [fun v=>yc X.env y v,fun v=>yc X.env x v] items.reverse;bA PF) _ _ _;refine qw (D3 (qw (unpackItems_tuple (items:=#[u1,u2]) (I.ok.hd hc) (D4 s1.heap _) fun h' hx'=>?_)));have I3:=I2.kept (h':=h') (t':=s1.toks) fun b o e=>hx' b o (qA (qu e)) e;show aK _ _ (D0 [fun v=>yc X.env y v,fun v=>yc X.env x v] [u2,u1] >>= fun _=>bA PF) _ _ _;refine qw (D1 (PH (ui I3 hN hj (.inl hy) rw' (fun s2 I4=>?_) (.inr hy))));refine D1 (PH (ui I4 hN hi (.inl hx) rv (fun s3 I5=>PD (qy ?_)) (.inr hx)));rw[List.set_comm _ _ (df hij)] at I5;exact⟨_,H1,I5,q1⟩
structure It where
 go:al->Hp->Prop
 yld:al->Hp->V->Hp->Prop
 stop:al->Hp->Prop
noncomputable def gL (X:Cx) (pins:ac (av×a8)) (H:Hp) (b:av):Prop:=
 H b=ab/\b≠X.env.locals/\b∉X.fs/\(b∈X.ex\/X.s₀.heap.objs.size<=b)/\(∀x c,X.env.cells.lookup x=aa c->c≠b)/\∀p∈X.pn++pins,p.1≠b
theorem Inv.fpOk {b:av} (I:Inv X pins σ H s) (hb:s.heap.objs.size<=b) (hn:H' b=ab):gL X pins H' b:=by
 refine⟨hn,yd (qD I.lt hb),I.nofs hb,.inr (qK I.sz hb),fun x c e z=>?_,fun p hp z=>?_⟩
 .obtain⟨v,q⟩:=I.cell x c e;exact bz (qD q.lt (by rw[z];exact hb)) (lI _)
 .exact bz (qD (qu (I.pin p hp).1) (by rw[z];exact hb)) (lI _)
structure Turn (P:bU) (w:cQ) (K:bh) (tg:Expr) (J:It) (fp:ac av) (it:av) (tn:al->Heap->Prop):Prop where
 mem:it∈fp
 obj:∀i h,tn i h->∀b∈fp,∃o,h.get? b=aa o/\∀v,o.data≠.cell v
 keep:∀i h h',tn i h->(∀b∈fp,∀o,h.get? b=aa o->h'.get? b=aa o)->tn i h'
 item:∀(X:Cx),X.prog=P->X.w=w->X.K=K->X.calm=ai->∀(i:al) (pins:ac (av×a8)) (s:aG) (σ:St) (H:Hp) (E:Value->aG->Prop),Inv X pins σ H s->(∀b∈fp,gL X pins H b)->tn i s.heap->J.go i H->
  aK (aQ P w) X.A (jI (.ref it)) (fun r s1=>∃u,r=aa u /\
   aK (aQ P w) X.A (uD tg (.ref it) u) (fun _ s2=>∃x H',Inv X pins σ H' s2/\bD x u/\J.yld i H x H'/\tn (i+1) s2.heap/\∀b∈fp,H' b=ab) E s1) E s
 done:∀(X:Cx),X.prog=P->X.w=w->X.K=K->X.calm=ai->∀(i:al) (pins:ac (av×a8)) (s:aG) (σ:St) (H:Hp) (E:Value->aG->Prop),Inv X pins σ H s->(∀b∈fp,gL X pins H b)->tn i s.heap->J.stop i H->
  aK (aQ P w) X.A (jI (.ref it)) (fun r s1=>r=ab/\Inv X pins σ H s1) E s
 self:∀(A:eF) (i:al) (s:aG) (Q:Value->aG->Prop) (E:Value->aG->Prop),tn i s.heap->Q (.ref it) s->aK (aQ P w) A (oC (.ref it)) Q E s
noncomputable abbrev TI:=St->Hp->(It->Hp->Prop)->Prop
noncomputable def PIE (X:Cx) (pins:ac (av×a8)) (σ:St) (tg:Expr) (R:It->Hp->Prop) (itv:Value) (s2:aG):Prop:=
 ∃(it:av) (fp:ac av) (tn:al->Heap->Prop) (J:It) (H':Hp),itv=.ref it/\Inv X pins σ H' s2/\Turn X.prog X.w X.K tg J fp it tn/\tn 0 s2.heap/\(∀b∈fp,gL X pins H' b)/\R J H'
noncomputable def PI (X:Cx) (tg iter:Expr) (wi:TI):Prop:=
 ∀(pins:ac (av×a8)) (s:aG) (σ:St) (H:Hp) (R:It->Hp->Prop),Inv X pins σ H s->wi σ H R->
  aK .(r) X.A (eval iter X.env) (fun v s1=>aK .(r) X.A (oC v) (PIE X pins σ tg R) X.xe s1) X.xe s
theorem t5 {M:uB} {E:Value->aG->Prop} {it:av} {o:a8} {n:db} {vs:bP Value} {Q:mW->aG->Prop} (ho:s.heap.get? it=aa o) (hc:o.cls=.type n) (hd:o.data=.fields vs)
  (hn:["enumerate","zip","dict_itemiterator","dict_reverseitemiterator","odict_iterator","itertools.zip_longest","itertools.pairwise"].contains n=ao) (hQ:Q () s):aK M A (uD tg (.ref it) u) Q E s:=by
 unfold uD;cases tg<;>first
  |exact qy hQ
  |(cases u<;>first
    |exact qy hQ
    |(refine qw (wpAny_load ho ?_);rw[hc,hd];show aK M A (if (["enumerate","zip","dict_itemiterator","dict_reverseitemiterator","odict_iterator","itertools.zip_longest","itertools.pairwise"].contains n && vs[0]?==aa (kD _))=ai then _ else _) Q E s;rw[qX (by intro h;rw[hn,D5] at h;cases h)];exact qy hQ))
noncomputable def Itl (K:bh) (a:av):It:=
 ⟨fun i H=>∃xs x,SqL K H a xs/\xs[i]?=aa x,fun i H x H'=>H'=H/\∀xs,SqL K H a xs->xs[i]?=aa x,fun i H=>∃xs,SqL K H a xs/\xs.length<=i⟩
noncomputable def Itt (K:bh) (a:av):It:=
 ⟨fun i H=>∃xs x,SqT K H a xs/\xs[i]?=aa x,fun i H x H'=>H'=H/\∀xs,SqT K H a xs->xs[i]?=aa x,fun i H=>∃xs,SqT K H a xs/\xs.length<=i⟩
noncomputable def Itr (lo:ag) (n:al):It:=⟨fun i _=>i<n,fun i H x H'=>H'=H/\x=.int (lo+i),fun i _=>n<=i⟩
variable {K:bh}
theorem Np {P:bU} (a it:av):Turn P w K tg (Itl K a) [it] it (fun i h=>h.IsListIter it a i) where
 mem:=by simp
 obj:=fun i h st b hb=>by
  have e:b=it:=by simpa using hb
  subst e;obtain⟨o,e,c,d⟩:=st;exact⟨o,e,fun v z=>by rw[d] at z;cases z⟩
 keep:=fun i h h' st k=>st.at fun o e=>k it (by simp) o e
 item:=by intro X hP hw hK hc i pins s σ H E I hf st hg;subst hP hw hK;obtain⟨xs,x,hq,hx⟩:=hg;obtain⟨its,rv,p,hz⟩:=I.list hq;obtain⟨u,hu,ru⟩:=rv.get hx;obtain⟨f0,f1,f2,f3,f4,f5⟩:=hf it (by simp);refine wpAny_pyNext_list_item st p.isList (x:=u) (by simpa using hu) fun h' st' sb=>?_;have I1:Inv X pins σ H {s with heap:=h'}:=I.turned (t':=s.toks) (fun b o hb e=>(sb.2 b hb).trans e) f0 f1 f3 f4 f5;obtain⟨o,e,c,d⟩:=id st';exact⟨u,rfl,t5 (s:={s with heap:=h'}) e c d .(h) ⟨x,H,I1,ru,⟨rfl,fun ys hy=>by rw[I.list_inj hy hq];exact hx⟩,st',fun b hb=>(hf b hb).1⟩⟩
 done:=by intro X hP hw hK hc i pins s σ H E I hf st hg;subst hP hw hK;obtain⟨xs,hq,hx⟩:=hg;obtain⟨its,rv,p,hz⟩:=I.list hq;obtain⟨f0,f1,f2,f3,f4,f5⟩:=hf it (by simp);have hl:=rv.length;exact wpAny_pyNext_list_end (I.ok.hd hc) st p.isList (by simp;omega) fun h' eb=>⟨rfl,I.turned (t':=s.toks) (fun b o hb e=>eb b o hb e) f0 f1 f3 f4 f5⟩
 self:=fun _ _ _ _ _ st h=>wpAny_pyIter_listiter st h
theorem IE {P:bU} (a it:av):Turn P w K tg (Itt K a) [it] it (fun i h=>h.IsTupleIter it a i) where
 mem:=by simp
 obj:=fun i h st b hb=>by
  have e:b=it:=by simpa using hb
  subst e;obtain⟨o,e,c,d⟩:=st;exact⟨o,e,fun v z=>by rw[d] at z;cases z⟩
 keep:=fun i h h' st k=>st.at fun o e=>k it (by simp) o e
 item:=by intro X hP hw hK hc i pins s σ H E I hf st hg;subst hP hw hK;obtain⟨xs,x,hq,hx⟩:=hg;obtain⟨its,rv,p,hz⟩:=I.tuple hq;obtain⟨u,hu,ru⟩:=rv.get hx;obtain⟨f0,f1,f2,f3,f4,f5⟩:=hf it (by simp);refine wpAny_pyNext_tuple_item st (show s.heap.IsTuple a its.toArray from p) (x:=u) (by simpa using hu) fun h' st' sb=>?_;have I1:Inv X pins σ H {s with heap:=h'}:=I.turned (t':=s.toks) (fun b o hb e=>(sb.2 b hb).trans e) f0 f1 f3 f4 f5;obtain⟨o,e,c,d⟩:=id st';exact⟨u,rfl,t5 (s:={s with heap:=h'}) e c d .(h) ⟨x,H,I1,ru,⟨rfl,fun ys hy=>by rw[I.tuple_inj hy hq];exact hx⟩,st',fun b hb=>(hf b hb).1⟩⟩
 done:=by intro X hP hw hK hc i pins s σ H E I hf st hg;subst hP hw hK;obtain⟨xs,hq,hx⟩:=hg;obtain⟨its,rv,p,hz⟩:=I.tuple hq;obtain⟨f0,f1,f2,f3,f4,f5⟩:=hf it (by simp);have hl:=rv.length;exact wpAny_pyNext_tuple_end (I.ok.hd hc) st (show s.heap.IsTuple a its.toArray from p) (by simp;omega) fun h' eb=>⟨rfl,I.turned (t':=s.toks) (fun b o hb e=>eb b o hb e) f0 f1 f3 f4 f5⟩
 self:=fun _ _ _ _ _ st h=>wpAny_pyIter_tupleiter st h
theorem MQ {P:bU} (it:av) (lo:ag) (n:al):Turn P w K tg (Itr lo n) [it] it (fun i h=>IsRangeIter h it (lo+(i:al)*1) ((n:ag)-(i:al)) 1) where
 mem:=by simp
 obj:=fun i h st b hb=>by
  have e:b=it:=by simpa using hb
  subst e;exact⟨_,st,fun v z=>by have z':Data.fields _=Data.cell v:=z;cases z'⟩
 keep:=fun i h h' st k=>k it (by simp) _ st
 item:=by intro X hP hw hK hc i pins s σ H E I hf st hg;subst hP hw hK;obtain⟨f0,f1,f2,f3,f4,f5⟩:=hf it (by simp);have W:=Walks.range (prog:=X.prog) (w:=X.w) (I.ok.hd hc) it lo 1 n;refine W.item i s _ _ hg st fun v h' tk hv st' kk=>?_;obtain⟨t,rfl⟩:=hv;have I1:Inv X pins σ H {s with heap:=h',toks:=tk}:=I.turned (fun b o hb e=>kk b o (by simpa using hb) e) f0 f1 f3 f4 f5;refine⟨_,rfl,t5 (s:={s with heap:=h',toks:=tk}) (n:="range_iterator") st' rfl rfl .(h) ⟨.int (lo+i),H,I1,⟨t,?_⟩,⟨rfl,rfl⟩,st',fun b hb=>(hf b hb).1⟩⟩;rw[Int.mul_one]
 done:=by intro X hP hw hK hc i pins s σ H E I hf st hg;subst hP hw hK;obtain⟨f0,f1,f2,f3,f4,f5⟩:=hf it (by simp);exact wpAny_pyNext_range_end (I.ok.hd hc) st (by have:n<=i:=hg;omega) fun h' eb=>⟨rfl,I.turned (t':=s.toks) (fun b o hb e=>eb b o hb e) f0 f1 f3 f4 f5⟩
 self:=fun _ _ _ _ _ st h=>wpAny_pyIter_rangeiter st h
variable {lo:ag} {p:dn} {fp:ac av} {iter:Expr} {wi:TI}
theorem Dc {R:It->Hp->Prop} {E:Value->aG->Prop} {hi:ag} {t u v:Tok} {tk:al} (I:Inv X pins σ H s) (h1 : -(2 ^ 62)<=lo) (h2:lo<2 ^ 62) (h3 : -(2 ^ 62)<=hi) (h4:hi<2 ^ 62)
  (q:R (Itr lo (hi-lo).toNat) H):aK .(r) X.A (oC (.ref s.heap.objs.size)) (PIE X pins σ tg R) E {s with heap:=s.heap.push {cls:=.type "range",data:=.fields #[.int lo t,.int hi u,.int 1 v]},toks:=tk}:=by
 refine wpAny_pyIter_range (IsRange.new ..) (small_one h1 h2 h3 h4) ?_;have I1:Inv X pins σ H {s with heap:=s.heap.push {cls:=.type "range",data:=.fields #[.int lo t,.int hi u,.int 1 v]},toks:=tk}:=I.kept fun b o e=>qt _ e;refine⟨(s.heap.push {cls:=.type "range",data:=.fields #[.int lo t,.int hi u,.int 1 v]}).objs.size,[(s.heap.push {cls:=.type "range",data:=.fields #[.int lo t,.int hi u,.int 1 v]}).objs.size],_,_,H,rfl,
  I1.kept (t':=tk) fun b o e=>qt _ e,MQ _ lo (hi-lo).toNat,?_,fun b hb=>?_,q⟩
 .have e1:lo+((0:al):ag)*1=lo:=by simp
  have e2:(((hi-lo).toNat:al):ag)-((0:al):ag)=RI lo hi 1:=by rw[rangeSize_one];split<;>omega
  show IsRangeIter _ _ (lo+((0:al):ag)*1) ((((hi-lo).toNat:al):ag)-((0:al):ag)) 1;rw[e1,e2];exact qE _ rfl
 .have e:b=(s.heap.push {cls:=.type "range",data:=.fields #[.int lo t,.int hi u,.int 1 v]}).objs.size:=by simpa using hb
  subst e;exact I1.fpOk (qv _) (I1.hok.fresh (qv _))
noncomputable def MI (ta:TA):TI:=fun σ H R=>ta σ H fun vs H1=>∃j:ag,vs=[.int j] /\ -(2 ^ 62)<=j/\j<2 ^ 62/\R (Itr 0 j.toNat) H1
noncomputable def Ks (ta:TA):TI:=fun σ H R=>ta σ H fun vs H1=>∃i j:ag,vs=[.int i,.int j]/\(-(2 ^ 62)<=i/\i<2 ^ 62 /\ -(2 ^ 62)<=j/\j<2 ^ 62)/\R (Itr i (j-i).toNat) H1
theorem IB {a:Expr} {ta:TA} (hg:Gl X "range") (hm:X.mg "range"=ab) (ha:PA X [a] ta) (hs:a7 [a] X.env=[(ao,eval a X.env)]:=by rfl):PI X tg (.Call (.Name "range" p) [a] [] pos) (MI ta):=by
 intro pins s σ H R I h;refine Call_ (n8 I hg hm boot_range (ye (thn (ha pos pins s σ H _ I h) fun us s1 ⟨vs,H1,I1,r1,q1⟩=>?_) hs rfl));obtain⟨j,e,q1,q2,q⟩:=q1;subst e;cases r1 with
 |cons r rr=>
  cases rr;obtain⟨t,rfl⟩:=r;exact call_range_1 (Dc I1 .(e) .(e) q1 q2 (by simpa using q))
theorem Nz {a:Expr} {ta:TA} (hg:Gl X "range") (hm:X.mg "range"=ab) (ha:PA X [a,b] ta) (hs:a7 [a,b] X.env=[(ao,eval a X.env),(ao,eval b X.env)]:=by rfl) (hs2:a7 [b] X.env=[(ao,eval b X.env)]:=by rfl) :
  PI X tg (.Call (.Name "range" p) [a,b] [] pos) (Ks ta):=by
 intro pins s σ H R I h;refine Call_ (n8 I hg hm boot_range (ye (thn (ha pos pins s σ H _ I h) fun us s1 ⟨vs,H1,I1,r1,q1⟩=>?_) (by rw[hs,hs2]) (by rw[hs2];rfl)));obtain⟨i,j,e,⟨q1,q2,q3,q4⟩,q⟩:=q1;subst e;cases r1 with
 |cons r rr=>
  cases rr with
  |cons r' rr=>
   cases rr;obtain⟨t,rfl⟩:=r;obtain⟨t',rfl⟩:=r';exact call_range_2 (Dc I1 q1 q2 q3 q4 q)
noncomputable def Me (wi:TI) (g:TG) (tb:TS):TS:=fun D σ H=>wi σ H fun J H1=>∃W:al->al->St->Hp->Prop,(∃m,W 0 m σ H1)/\∀i m σ H,W i m σ H->
 (J.stop i H/\D.nx σ H)\/(J.go i H/\∃N:St->Hp->Prop,(∀σ' H',N σ' H'->∃m',m'<m/\W (i+1) m' σ' H')/\∀x H',J.yld i H x H'->g x σ H' fun σ2 H2=>tb {D with nx:=N,ct:=N,bk:=D.nx} σ2 H2)
noncomputable def pd (fp:ac av) (h:Heap):ac (av×a8):=fp.filterMap fun b=>(h.get? b).map fun o=>(b,o)
theorem ti {h:Heap} {b:av} {o:a8} (hb:b∈fp) (e:h.get? b=aa o):(b,o)∈pd fp h:=ro.mpr ⟨b,hb,by rw[e];rfl⟩
theorem Km {h:Heap} {p:av×a8} (hp:p∈pd fp h):p.1∈fp/\h.get? p.1=aa p.2:=by
 obtain⟨b,hb,e⟩:=ro.mp hp;cases q:h.get? b with
 |none=>rw[q] at e;cases e
 |some o=>
  rw[q] at e;have e':(b,o)=p:=qF e;subst e';exact⟨hb,q⟩
theorem Inv.pinned (I:Inv X pins σ H s) (hf:∀b∈fp,gL X pins H b) (ho:∀b∈fp,∃o,s.heap.get? b=aa o/\∀v,o.data≠.cell v):Inv X (pins++pd fp s.heap) σ H s:=
 I.pins_of fun p hp=>(cR.mp hp).elim (fun z=>I.pin p (qO _ z)) fun z=>by obtain⟨hb,e⟩:=Km z;obtain⟨f0,f1,f2,_⟩:=hf p.1 hb;obtain⟨o,e',d⟩:=ho p.1 hb;rw[e] at e';cases e';exact⟨e,f0,f1,f2,d⟩
theorem Inv.unpinned {pl:ac (av×a8)} (I:Inv X (pins++pl) σ H s):Inv X pins σ H s:=I.pins_of fun p hp=>I.pin p (qO _ (x9 _ hp))
theorem Ng {body:ac Stmt} {g:TG} {tb:TS} (hp:PassesOwn .(r) X.A X.env X.xe) (hc:X.calm=ai) (hi:PI X tg iter wi) (hg:PG X tg g) (hb:PSs X body tb)
  (hs:∀x,oE iter X.env x=bA x:=by intro _;rfl):PS X (.For tg iter body [] pos) (Me wi g tb):=by
 intro pins s σ H D I h;refine wpAny_For (thn (hi pins s σ H _ I h) fun v s1 h1=>thn h1 fun itv s2 h2=>?_) hs;obtain⟨it,fp,tn,J,H2,e,I2,T,st2,f2,W,⟨m0,w0⟩,turn⟩:=h2;subst e;have stat:∀{H':Hp},(∀b∈fp,H' b=ab)->∀b∈fp,gL X pins H' b:=fun hn b hb=>⟨hn b hb,(f2 b hb).2⟩;refine codeAny_forLoop_any (fun n s'=>∃i σ' H',Inv X pins σ' H' s'/\tn i s'.heap/\(∀b∈fp,H' b=ab)/\W i n σ' H') ?_ m0 ⟨0,σ,H2,I2,st2,fun b hb=>(f2 b hb).1,w0⟩;rintro n s3 ⟨i,σ3,H3,I3,st3,fr3,w3⟩;rcases turn i n σ3 H3 w3 with⟨stop,qn⟩|⟨go,N,hN,step⟩
 .refine uF hp (thn (T.done X rfl rfl rfl hc i pins s3 σ3 H3 X.xe I3 (stat fr3) st3 stop) fun r s4 ⟨hr,I4⟩=>?_);subst hr;exact DZ ⟨σ3,H3,I4,qn⟩
 .refine uF hp (thn (T.item X rfl rfl rfl hc i pins s3 σ3 H3 X.xe I3 (stat fr3) st3 go) fun r s4 ⟨u,hr,h4⟩=>?_);subst hr;refine uF hp (thn h4 fun _ s5 ⟨x,H5,I5,r5,y5,st5,fr5⟩=>?_);have I5':=I5.pinned (stat fr5) (T.obj _ _ st5);refine uF hp (thn (hg _ s5 σ3 H5 x u _ I5' r5 (step x H5 y5)) fun _ s6 ⟨σ6,H6,I6,q6⟩=>?_);refine uF hp (thn (hb _ s6 σ6 H6 _ I6 q6) fun f s7 q7=>?_);have again:∀{σ7:St} {H7:Hp},Inv X (pins++pd fp s5.heap) σ7 H7 s7->N σ7 H7->∃m,m<n/\∃i σ' H',Inv X pins σ' H' s7/\tn i s7.heap/\(∀b∈fp,H' b=ab)/\W i m σ' H':=fun {σ7 H7} I7 n7=>by obtain⟨m',hm,w7⟩:=hN σ7 H7 n7;refine⟨m',hm,i+1,σ7,H7,I7.unpinned,T.keep _ _ _ st5 fun b hb o e=>(I7.pin (b,o) (qO _ (qO _ (ti hb e)))).1,fun b hb=>?_,w7⟩;obtain⟨o,e,d⟩:=T.obj _ _ st5 b hb;exact(I7.pin (b,o) (qO _ (qO _ (ti hb e)))).2.1
  cases f with
  |next=>obtain⟨σ7,H7,I7,n7⟩:=q7;exact again I7 n7
  |cont=>obtain⟨σ7,H7,I7,n7⟩:=q7;exact again I7 n7
  |brk=>obtain⟨σ7,H7,I7,q7⟩:=q7;exact⟨σ7,H7,I7.unpinned,q7⟩
  |ret v=>obtain⟨x7,σ7,H7,I7,r7,q7⟩:=q7;exact⟨x7,σ7,H7,I7.unpinned,r7,q7⟩
noncomputable abbrev R2:=V->V->Hp->VK->Prop
noncomputable def OpR (X:Cx) (f:Value->Value->Sem Value) (r:R2):Prop:=
 ∀(pins:ac (av×a8)) (s:aG) (σ:St) (H:Hp) (x y:V) (v u:Value) (Q:VK),Inv X pins σ H s->bD x v->bD y u->r x y H Q->
  aK .(r) X.A (f v u) (EP X pins σ Q) X.xe s
noncomputable def eQ (X:Cx) (f:Value) (r:ac V->Hp->VK->Prop):Prop:=
 ∀(pins:ac (av×a8)) (s:aG) (σ:St) (H:Hp) (xs:ac V) (us:ac Value) (Q:VK),Inv X pins σ H s->bH xs us->r xs H Q->
  aK .(r) X.A (call f us) (EP X pins σ Q) X.xe s
noncomputable def tOp (r:R2) (ta tb:TE):TE:=fun σ H Q=>ta σ H fun x H1=>tb σ H1 fun y H2=>r x y H2 Q
noncomputable def rI (C:ag->ag->Prop) (g:ag->ag->V):R2:=fun x y H Q=>∃i j,x=.int i/\y=.int j/\C i j/\Q (g i j) H
noncomputable def rI0 (g:ag->ag->V):R2:=fun x y H Q=>∃i j,x=.int i/\y=.int j/\Q (g i j) H
variable {r:R2}
section
variable {a:Expr} {tb tc:TE}
theorem wc (ha:PE X a ta) (hb:PE X b tb) {R:V->V->Hp->Prop} (I:Inv X pins σ H s)
  (h:ta σ H fun x H1=>tb σ H1 fun y H2=>R x y H2) {f:Value->Value->Sem Value} 
  (hf:∀v u s2 x y H2,Inv X pins σ H2 s2->bD x v->bD y u->R x y H2->aK .(r) X.A (f v u) Q X.xe s2) :
  aK .(r) X.A (eval a X.env) (fun v s₁=>aK .(r) X.A (eval b X.env) (fun u s₂=>aK .(r) X.A (f v u) Q X.xe s₂) X.xe s₁) X.xe s:=by
 refine thn (ha pins s σ H _ I h) fun v s1 ⟨x,H1,I1,r1,q1⟩=>?_;refine thn (hb pins s1 σ H1 _ I1 q1) fun u s2 ⟨y,H2,I2,r2,q2⟩=>?_;exact hf v u s2 x y H2 I2 r1 r2 q2
theorem Kr {op:Operator} (ho:OpR X (iM op) r) (ha:PE X a ta) (hb:PE X b tb):PE X (.BinOp a op b pos) (tOp r ta tb):=by intro pins s σ H Q I h;exact wpAny_BinOp (wc ha hb I h fun v u s2 x y H2 I2 rx ry q=>ho pins s2 σ H2 x y v u Q I2 rx ry q)
theorem opI {f:Value->Value->Sem Value} {C:ag->ag->Prop} {g:ag->ag->ag} 
  (rule:∀(i j:ag) (t u:Tok) (s:aG) (Q:Value->aG->Prop) (E:Value->aG->Prop),C i j->Q (.int (g i j) s.toks) {s with toks:=s.toks+1}->aK .(r) X.A (f (.int i t) (.int j u)) Q E s) :
  OpR X f (rI C fun i j=>.int (g i j)):=by
 intro pins s σ H x y v u Q I rx ry h;obtain⟨i,j,rfl,rfl,hc,q⟩:=h;obtain⟨t,rfl⟩:=rx;obtain⟨t',rfl⟩:=ry;exact rule i j t t' s _ _ hc ⟨.int (g i j),H,I.tok _,⟨_,rfl⟩,q⟩
theorem zk {f:Value->Value->Sem Value} {g:ag->ag->ag} 
  (rule:∀(i j:ag) (t u:Tok) (s:aG) (Q:Value->aG->Prop) (E:Value->aG->Prop),Q (.int (g i j) s.toks) {s with toks:=s.toks+1}->aK .(r) X.A (f (.int i t) (.int j u)) Q E s) :
  OpR X f (rI0 fun i j=>.int (g i j)):=by
 intro pins s σ H x y v u Q I rx ry h;obtain⟨i,j,rfl,rfl,q⟩:=h;obtain⟨t,rfl⟩:=rx;obtain⟨t',rfl⟩:=ry;exact rule i j t t' s _ _ ⟨.int (g i j),H,I.tok _,⟨_,rfl⟩,q⟩
theorem sD {f:Value->Value->Sem Value} {g:ag->ag->aN} 
  (rule:∀(i j:ag) (t u:Tok) (s:aG) (Q:Value->aG->Prop) (E:Value->aG->Prop),Q (.bool (g i j)) s->aK .(r) X.A (f (.int i t) (.int j u)) Q E s) :
  OpR X f (rI0 fun i j=>.bl (g i j)):=by
 intro pins s σ H x y v u Q I rx ry h;obtain⟨i,j,rfl,rfl,q⟩:=h;obtain⟨t,rfl⟩:=rx;obtain⟨t',rfl⟩:=ry;exact rule i j t t' s _ _ ⟨.bl (g i j),H,I,rfl,q⟩
noncomputable def Nd (i j:ag):Prop:=0<j/\j<1073741824
noncomputable def t8 (i j:ag):Prop:=(-(2 ^ 64)<i/\i<2 ^ 64)\/(-(2 ^ 64)<j/\j<2 ^ 64)
theorem t8.ok {i j:ag} (h:t8 i j):IntMulOk i j:=by
 rcases h with⟨h1,h2⟩|⟨h1,h2⟩
 .exact .of_left (intBits_le_64 h1 h2)
 .exact .of_right (intBits_le_64 h1 h2)
theorem Ib:OpR X (iM .Add) (rI0 fun i j=>.int (i+j)):=zk fun _ _ _ _ _ _ _ q=>add_int q
theorem GE:OpR X (iM .Sub) (rI0 fun i j=>.int (i-j)):=zk fun _ _ _ _ _ _ _ q=>sub_int q
theorem FX:OpR X (iM .Mult) (rI t8 fun i j=>.int (i*j)):=opI fun _ _ _ _ _ _ _ hc q=>mul_int q hc.ok
theorem IQ:OpR X (iM .FloorDiv) (rI Nd fun i j=>.int (i / j)):=opI fun i j _ _ _ _ _ hc q=>by have h1:(0:ag)<j:=hc.1;have h2:j<1073741824:=hc.2;exact floordiv_int .(e) (by rw[Int.fdiv_eq_ediv_of_nonneg i .(e)];exact q) (.inl (PyProof.noPylong_small .(e)))
theorem Om:OpR X (iM .Mod) (rI (fun _ j=>0<j) fun i j=>.int (i%j)):=opI fun i j _ _ _ _ _ hc q=>by have h1:(0:ag)<j:=hc;exact mod_int' .(e) (by rw[Int.fmod_eq_emod_of_nonneg i .(e)];exact q)
end
noncomputable def vT:V->V->aN
 |.non,.non=>ai|.non,.int _=>ai|.int _,.non=>ai|.non,.bl _=>ai|.bl _,.non=>ai|.non,.str _=>ai|.str _,.non=>ai
 |.int _,.int _=>ai|.bl _,.bl _=>ai|.str _,.str _=>ai|.byt _,.byt _=>ai
 |.int _,.str _=>ai|.str _,.int _=>ai|.bl _,.str _=>ai|.str _,.bl _=>ai
 |_,_=>ao
noncomputable def rEq:R2:=fun x y H Q=>vT x y=ai/\Q (.bl (decide (x=y))) H
noncomputable def rNe:R2:=fun x y H Q=>vT x y=ai/\Q (.bl (!decide (x=y))) H
theorem Ds {i j:ag} :decide (V.int i=V.int j)=(i==j):=by rw[mY];simp
theorem Cs {i j:aN} :decide (V.bl i=V.bl j)=(i==j):=by rw[mY];simp
theorem CW {i j:ah} :decide (V.str i=V.str j)=(i==j):=by rw[mY];simp
theorem AU {i j:bP UInt8} :decide (V.byt i=V.byt j)=(i.toList==j.toList):=by rw[mY];cases i;cases j;simp
variable {r':R2} {op':CmpOp}
section
variable {a:Expr} {tb tc:TE}
theorem cO {Q:VK} {k k':aN} (I:Inv X pins σ H s) (q:Q (.bl k) H) (e:k=k'):EP X pins σ Q (.bool k') s:=by subst e;exact⟨.bl k,H,I,rfl,q⟩
theorem Mh:OpR X (dq .Eq) rEq:=by
 intro pins s σ H x y v u Q I rx ry h;obtain⟨hs,q⟩:=h;cases x with
 |non=>
  cases rx;cases y with
  |non=>cases ry;exact RJ .(Z)
  |bl j=>cases ry;exact RK .(Z)
  |int j=>obtain⟨t',rfl⟩:=ry;exact RL .(Z)
  |str j=>obtain⟨t',rfl⟩:=ry;exact RM .(Z)
  |_=>exact bz (show ao=ai from hs) qr
 |bl i=>
  cases rx;cases y with
  |non=>cases ry;exact RN .(Z)
  |bl j=>cases ry;exact eq_bool (cO I q Cs)
  |str j=>obtain⟨t',rfl⟩:=ry;exact RO .(Z)
  |_=>exact bz (show ao=ai from hs) qr
 |int i=>
  obtain⟨t,rfl⟩:=rx;cases y with
  |non=>cases ry;exact RP .(Z)
  |int j=>obtain⟨t',rfl⟩:=ry;exact eq_int (cO I q Ds)
  |str j=>obtain⟨t',rfl⟩:=ry;exact RQ .(Z)
  |_=>exact bz (show ao=ai from hs) qr
 |str i=>
  obtain⟨t,rfl⟩:=rx;cases y with
  |non=>cases ry;exact RS .(Z)
  |bl j=>cases ry;exact RT .(Z)
  |int j=>obtain⟨t',rfl⟩:=ry;exact RU .(Z)
  |str j=>obtain⟨t',rfl⟩:=ry;exact eq_str (cO I q CW)
  |_=>exact bz (show ao=ai from hs) qr
 |byt i=>
  obtain⟨t,rfl⟩:=rx;cases y with
  |byt j=>obtain⟨t',rfl⟩:=ry;exact PySem.W.eq_bytes (cO I q AU)
  |_=>exact bz (show ao=ai from hs) qr
 |_=>cases y<;>exact bz (show ao=ai from hs) qr
theorem LZ:OpR X (dq .NotEq) rNe:=by
 intro pins s σ H x y v u Q I rx ry h;obtain⟨hs,q⟩:=h;cases x with
 |non=>
  cases rx;cases y with
  |non=>cases ry;exact RV .(Z)
  |bl j=>cases ry;exact RW .(Z)
  |int j=>obtain⟨t',rfl⟩:=ry;exact RX .(Z)
  |str j=>obtain⟨t',rfl⟩:=ry;exact RY .(Z)
  |_=>exact bz (show ao=ai from hs) qr
 |bl i=>
  cases rx;cases y with
  |non=>cases ry;exact RZ .(Z)
  |bl j=>cases ry;exact ne_bool (cO I q (cI not Cs))
  |str j=>obtain⟨t',rfl⟩:=ry;exact R0 .(Z)
  |_=>exact bz (show ao=ai from hs) qr
 |int i=>
  obtain⟨t,rfl⟩:=rx;cases y with
  |non=>cases ry;exact R1 .(Z)
  |int j=>obtain⟨t',rfl⟩:=ry;exact ne_int (cO I q (cI not Ds))
  |str j=>obtain⟨t',rfl⟩:=ry;exact R3 .(Z)
  |_=>exact bz (show ao=ai from hs) qr
 |str i=>
  obtain⟨t,rfl⟩:=rx;cases y with
  |non=>cases ry;exact R4 .(Z)
  |bl j=>cases ry;exact R5 .(Z)
  |int j=>obtain⟨t',rfl⟩:=ry;exact R6 .(Z)
  |str j=>obtain⟨t',rfl⟩:=ry;exact ne_str (cO I q (cI not CW))
  |_=>exact bz (show ao=ai from hs) qr
 |byt i=>
  obtain⟨t,rfl⟩:=rx;cases y with
  |byt j=>obtain⟨t',rfl⟩:=ry;exact PySem.W.ne_bytes (cO I q (cI not AU))
  |_=>exact bz (show ao=ai from hs) qr
 |_=>cases y<;>exact bz (show ao=ai from hs) qr
theorem Oa:OpR X (dq .Lt) (rI0 fun i j=>.bl (decide (i<j))):=sD fun _ _ _ _ _ _ _ q=>lt_int q
theorem Mq:OpR X (dq .LtE) (rI0 fun i j=>.bl (decide (i<=j))):=sD fun _ _ _ _ _ _ _ q=>le_int q
theorem FM:OpR X (dq .Gt) (rI0 fun i j=>.bl (decide (j<i))):=sD fun _ _ _ _ _ _ _ q=>gt_int q
theorem IK:OpR X (dq .GtE) (rI0 fun i j=>.bl (decide (j<=i))):=sD fun _ _ _ _ _ _ _ q=>ge_int q
theorem OV:OpR X (dq .Lt) (fun x y H Q=>∃i j,x=.str i/\y=.str j/\Q (.bl (decide (i.cps.toList<j.cps.toList))) H):=by intro pins s σ H x y v u Q I rx ry h;obtain⟨i,j,rfl,rfl,q⟩:=h;obtain⟨t,rfl⟩:=rx;obtain⟨t',rfl⟩:=ry;exact lt_str (cO I q rfl)
theorem MN:OpR X (dq .Is) (fun x y H Q=>y=.non/\Q (.bl (decide (x=.non))) H):=by
 intro pins s σ H x y v u Q I rx ry h;obtain⟨rfl,q⟩:=h;cases ry;refine is_none_gen (cO I q ?_);cases x<;>first
  |(cases rx;rfl)
  |(obtain⟨t,rfl⟩:=rx;rfl)
theorem JL:OpR X (dq .IsNot) (fun x y H Q=>y=.non/\Q (.bl (!decide (x=.non))) H):=by
 intro pins s σ H x y v u Q I rx ry h;obtain⟨rfl,q⟩:=h;cases ry;refine isnot_none_gen (cO I q ?_);cases x<;>first
  |(cases rx;rfl)
  |(obtain⟨t,rfl⟩:=rx;rfl)
theorem OpR.or {f:Value->Value->Sem Value} (h:OpR X f r) (h':OpR X f r'):OpR X f (fun x y H Q=>r x y H Q\/r' x y H Q):=by
 intro pins s σ H x y v u Q I rx ry q;rcases q with q|q
 .exact h pins s σ H x y v u Q I rx ry q
 .exact h' pins s σ H x y v u Q I rx ry q
theorem bj (b:Expr) (h:op≠.In:=by decide) (h2:op≠.NotIn:=by decide):lK op b=ao:=by
 have e1:(op==Pu)=ao:=by cases op<;>first|rfl|exact bz rfl h
 have e2:(op==Pv)=ao:=by cases op<;>first|rfl|exact bz rfl h2
 cases b<;>simp[lK,e1,e2]
theorem N9 (ho:OpR X (dq op) r) (ha:PE X a ta) (hb:PE X b tb) (hm:lK op b=ao):PE X (.Compare a [op] [b] pos) (tOp r ta tb):=by intro pins s σ H Q I h;exact wpAny_Compare1 (wc ha hb I h fun v u s2 x y H2 I2 rx ry q=>ho pins s2 σ H2 x y v u Q I2 rx ry q) hm
noncomputable def Bm (t:TE):TT:=fun σ H Q=>t σ H fun x H'=>∃k,x=.bl k/\Q k H'
theorem Il (ho:OpR X (dq op) r) (ha:PE X a ta) (hb:PE X b tb) (hm:lK op b=ao):PT X (.Compare a [op] [b] pos) (Bm (tOp r ta tb)):=by
 intro pins s σ H Q I h;refine Pw (thn (ha pins s σ H _ I h) fun v s1 ⟨x,H1,I1,r1,q1⟩=>thn (hb pins s1 σ H1 _ I1 q1) fun u s2 ⟨y,H2,I2,r2,q2⟩=>
  thn (ho pins s2 σ H2 x y v u _ I2 r1 r2 q2) fun c s3 ⟨z,H3,I3,r3,k,e,q3⟩=>?_) hm
 subst e;cases r3;exact kB ⟨H3,I3,q3⟩
noncomputable def xQ (r r':R2) (ta tb tc:TE):TE:=fun σ H Q=>ta σ H fun x H1=>tb σ H1 fun y H2=>r x y H2 fun z H3=>∃k,z=.bl k /\
 (if k=ai then tc σ H3 fun w' H4=>r' y w' H4 Q else Q (.bl ao) H3)
theorem On (ho:OpR X (dq op) r) (ho':OpR X (dq op') r') (ha:PE X a ta) (hb:PE X b tb) (hc:PE X c tc)
  (hm:yf [op,op'] [b,c]=ao:=by with_unfolding_all rfl):PE X (.Compare a [op,op'] [b,c] pos) (xQ r r' ta tb tc):=by
 intro pins s σ H Q I h;refine Compare_chain (thn (ha pins s σ H _ I h) fun v s1 ⟨x,H1,I1,r1,q1⟩=>chain_link (thn (hb pins s1 σ H1 _ I1 q1) fun u s2 ⟨y,H2,I2,r2,q2⟩=>
  thn (ho pins s2 σ H2 x y v u _ I2 r1 r2 q2) fun d s3 ⟨z,H3,I3,r3,k,e,q3⟩=>?_)) hm
 subst e;cases r3;refine kB ?_;cases k with
 |false=>exact ite_ff ⟨.bl ao,H3,I3,rfl,q3⟩
 |true=>exact ite_tt (chain_last (thn (hc pins s3 σ H3 _ I3 q3) fun w' s4 ⟨z',H4,I4,r4,q4⟩=>ho' pins s4 σ H4 y z' u w' Q I4 r2 r4 q4))
theorem O8 (ho:OpR X (dq op) r) (ho':OpR X (dq op') r') (ha:PE X a ta) (hb:PE X b tb) (hc:PE X c tc)
  (hm:yf [op,op'] [b,c]=ao:=by with_unfolding_all rfl):PT X (.Compare a [op,op'] [b,c] pos) (Bm (xQ r r' ta tb tc)):=by
 intro pins s σ H Q I h;refine isTrue_chain (thn (ha pins s σ H _ I h) fun v s1 ⟨x,H1,I1,r1,q1⟩=>test_link (thn (hb pins s1 σ H1 _ I1 q1) fun u s2 ⟨y,H2,I2,r2,q2⟩=>
  thn (ho pins s2 σ H2 x y v u _ I2 r1 r2 q2) fun d s3 ⟨z,H3,I3,r3,k,e,q3⟩=>?_)) hm
 subst e;cases r3;refine kB ?_;cases k with
 |false=>
  obtain⟨k',e',q'⟩:=q3;cases e';exact ite_ff ⟨H3,I3,q'⟩
 |true=>
  refine ite_tt (test_last (thn (hc pins s3 σ H3 _ I3 q3) fun w' s4 ⟨z',H4,I4,r4,q4⟩=>thn (ho' pins s4 σ H4 y z' u w' _ I4 r2 r4 q4) fun d' s5 ⟨z2,H5,I5,r5,k2,e2,q5⟩=>?_));subst e2;cases r5;exact kB ⟨H5,I5,q5⟩
theorem uj:(aT:al)<2 ^ 63:=by rw[fH];decide
theorem Nc:OpR X (iM .Add) (fun x y H Q=>∃i j,x=.str i/\y=.str j/\i.length+j.length<=aT/\Q (.str (i++j)) H):=by intro pins s σ H x y v u Q I rx ry h;obtain⟨i,j,rfl,rfl,hz,q⟩:=h;obtain⟨t,rfl⟩:=rx;obtain⟨t',rfl⟩:=ry;exact add_str (fun t' tk=>⟨.str (i++j),H,I.tok _,⟨_,rfl⟩,q⟩) hz
theorem fu {x:V} {us:ac Value} (r:bH [x] us):∃u,us=[u]/\bD x u:=by
 cases r with
 |cons r1 r2=>cases r2;exact⟨_,rfl,r1⟩
theorem wo {x y:V} {us:ac Value} (r:bH [x,y] us):∃u w',us=[u,w']/\bD x u/\bD y w':=by
 cases r with
 |cons r1 r2=>
  cases r2 with
  |cons r3 r4=>cases r4;exact⟨_,_,rfl,r1,r3⟩
theorem J':eQ X (.builtin "abs") (fun xs H Q=>∃i,xs=[.int i]/\Q (.int (if i<0 then -i else i)) H):=by intro pins s σ H xs us Q I r h;obtain⟨i,rfl,q⟩:=h;obtain⟨u,rfl,t,rfl⟩:=fu r;exact call_abs_int fun u tk=>⟨.int (if i<0 then -i else i),H,I.tok _,⟨_,rfl⟩,q⟩
theorem Lb (hc:X.calm=ai):eQ X (.builtin "max") (fun xs H Q=>∃i j,xs=[.int i,.int j]/\Q (.int (if j > i then j else i)) H):=by
 intro pins s σ H xs us Q I r h;obtain⟨i,j,rfl,q⟩:=h;obtain⟨u,w',rfl,⟨t,rfl⟩,⟨t',rfl⟩⟩:=wo r;refine max_two_ints (I.ok.hd hc) fun h' tk k=>⟨_,H,I.kept k,?_,q⟩;by_cases hj:j > i
 .rw[qW hj,qW hj];exact⟨_,rfl⟩
 .rw[qX hj,qX hj];exact⟨_,rfl⟩
theorem MJ (hc:X.calm=ai):eQ X (.builtin "min") (fun xs H Q=>∃i j,xs=[.int i,.int j]/\Q (.int (if j<i then j else i)) H):=by
 intro pins s σ H xs us Q I r h;obtain⟨i,j,rfl,q⟩:=h;obtain⟨u,w',rfl,⟨t,rfl⟩,⟨t',rfl⟩⟩:=wo r;refine min_two_ints (I.ok.hd hc) fun h' tk k=>⟨_,H,I.kept k,?_,q⟩;by_cases hj:j<i
 .rw[qW hj,qW hj];exact⟨_,rfl⟩
 .rw[qX hj,qX hj];exact⟨_,rfl⟩
theorem KF:eQ X (.type "int") (fun xs H Q=>(∃i,xs=[.int i]/\Q (.int i) H)\/∃k,xs=[.bl k]/\Q (.int (if k then 1 else 0)) H):=by
 intro pins s σ H xs us Q I r h;rcases h with⟨i,rfl,q⟩|⟨k,rfl,q⟩
 .obtain⟨u,rfl,t,rfl⟩:=fu r;exact call_int_int ⟨.int i,H,I,⟨_,rfl⟩,q⟩
 .obtain⟨u,rfl,r1⟩:=fu r;cases r1;exact call_int_bool ⟨.int (if k then 1 else 0),H,I.tok _,⟨_,rfl⟩,q⟩
noncomputable def JI (K:bh) (x:V) (H:Hp) (n:al):Prop:=
 match x with
 |.str y=>y.length<=aT/\n=y.length
 |.byt y=>y.size<=aT/\n=y.size
 |.ref p=>(∃xs,SqL K H p xs/\n=xs.length)\/∃xs,SqT K H p xs/\n=xs.length
 |_=>False
theorem Li:eQ X (.builtin "len") (fun xs H Q=>∃x n,xs=[x]/\JI X.K x H n/\Q (.int n) H):=by
 intro pins s σ H xs us Q I r h;obtain⟨x,n,rfl,e,q⟩:=h;obtain⟨u,rfl,rx⟩:=fu r;have hl:=uj;have hs:aT=16777216:=fH;cases x with
 |str y=>
  obtain⟨t,rfl⟩:=rx;obtain⟨hy,e'⟩:y.length<=aT/\n=y.length:=e;subst e';exact len_str .(e) ⟨.int _,H,I.tok _,⟨_,rfl⟩,q⟩
 |byt y=>
  obtain⟨t,rfl⟩:=rx;obtain⟨hy,e'⟩:y.size<=aT/\n=y.size:=e;subst e';exact PySem.W.len_bytes .(e) ⟨.int _,H,I.tok _,⟨_,rfl⟩,q⟩
 |ref p=>
  cases rx;have e':(∃xs,SqL X.K H p xs/\n=xs.length)\/∃xs,SqT X.K H p xs/\n=xs.length:=e;rcases e' with⟨xs,hx,e'⟩|⟨xs,hx,e'⟩
  .subst e';obtain⟨its,r',pl,hz⟩:=I.list hx;have hlen:=r'.length;exact Calls.call_len_list pl.isList (by simp only[qz];omega) ⟨.int xs.length,H,I.tok _,⟨_,by simp only[qz];rw[hlen]⟩,q⟩
  .subst e';obtain⟨its,r',pl,hz⟩:=I.tuple hx;have hlen:=r'.length;exact len_tuple pl (by simp only[qz];omega) ⟨.int xs.length,H,I.tok _,⟨_,by simp only[qz];rw[hlen]⟩,q⟩
 |_=>exact(show False from e).elim
end
structure ObjM (h:Heap) (x dx C:av) (mA:ah->ar Value):Prop where
 obj:h.get? x=aa (mV C dx)
 ns:h.Ns1 dx mA
 ne:dx≠x
variable {dx:av} {mA:ah->ar Value}
theorem Os {h:Heap} (n:h.Ns1 dx mA):∃od,h.get? dx=aa od/\∀name,yg name od=aa (mA name):=by
 obtain⟨o,es,ep,ho,hd,hk,_,hm⟩:=n;refine⟨o,ho,fun name=>?_⟩;have e:=hm name;unfold nsFind findBy at e;rw[←Array.find?_toList] at e;unfold yg;rw[hd];dsimp only;split
 .rename_i y q;rw[q] at e;exact cI aa e
 .rename_i q;rw[q] at e;have a:es.toList.any (·.refKey)=ao:=by rw[gD];intro y hy;obtain⟨z,t,hkey⟩:=hk y (D6.mp hy);simp[DictEntry.refKey,hkey]
  have a':¬es.toList.any (·.refKey)=ai:=by rw[a];exact qr
  rw[qX a'];exact cI aa e
variable {C:av}
theorem ObjM.look {h:Heap} {x:av} (I:ObjM h x dx C mA):∃od,PySem.W.InstAt h x (mV C dx) C (aa od)/\∀name,yg name od=aa (mA name):=
 let ⟨od,ho,hl⟩:=Os I.ns
 ⟨od,⟨I.obj,rfl,rfl,ho⟩,hl⟩
variable {prog:bU} {name:ah} {pl:Sem aN} {ns:ac ah} {R:Result->aG->Prop} {kw:ac (ah×Value)}
section
variable {E:Value->aG->Prop} {x f:av} {v:Value}
theorem GN {expr:aN} (X:K.In s.heap) (I:ObjM s.heap x dx C mA) (hg:uG K C name=ai) (hh:yh K C=ai)
  (ha:dD K (.ref C) name=aa ab) (hv:mA name=aa v) (hv':PJ v=ai) (h:Q v {s with toks:=s.toks+1}) :
  aK .(L) A (getAttr (.ref x) name expr) Q E s:=by
 obtain⟨od,J,hl⟩:=I.look;exact PySem.W.get_value X J (D7 hg).1 (PySem.W.findObj_own hh ha rfl (by rw[hl,hv])) hv' h
theorem Hy {Q:Value×ac Value->aG->Prop} (X:K.In s.heap) (I:ObjM s.heap x dx C mA) (hg:uG K C name=ai)
  (hf:dD K (.ref C) name=aa (aa (.ref f))) (ht:uH K (.ref f)=ai) (hv:mA name=ab) (h:Q (.ref f,[.ref x]) s) :
  aK .(L) A (oF (.ref x) name pl) Q E s:=by
 obtain⟨od,J,hl⟩:=I.look;exact PySem.W.method_fn X J (D7 hg).1 (D7 hg).2 hf (kF.mp ht) (by show(yg name od).map (·.isSome)=aa ao;rw[hl,hv];rfl) h
theorem Iz {Q:mW->aG->Prop} (X:K.In s.heap) (I:ObjM s.heap x dx C mA)
  (hs:dD K (.ref C) "__setattr__"=aa (aa (.builtin "object.__setattr__"))) (hp:D8 K C=ai) (ht:D9 K C name=aa ab) (hh:yh K C=ai)
  (hw:DU mA ns) (hsz:ns.length<=aT)
  (h:∀h',ObjM h' x dx C (fun y=>if y=name then aa v else mA y)->ii dx s.heap h'->Q () {s with heap:=h',toks:=s.toks+2}) :
  aK .(L) A (setAttr (.ref x) name v) Q E s:=by
 obtain⟨od,J,hl⟩:=I.look;refine PySem.W.set_plain X J hs (PySem.W.osa_open (s:={s with toks:=s.toks+1}) (r:=ab) X J hp ht fun b=>?_);obtain⟨cd,hc,hd'⟩:=PySem.W.any_some hh;have hx:s.heap.get? x=aa ⟨.ref C,aa dx,.plain,#[]⟩:=I.obj;refine qw (qy (qw (qw (wpAny_loadPart hx (qw (R7 (s:={s with toks:=s.toks+1}) (PySem.W.looks_clsIn X hc) ?_))))));rw[hd'];refine qy (a:=aa dx) (qw (qy (qw ?_)));refine wpAny_nsSet1 (s:={s with toks:=s.toks+1}) I.ns fun h' hn2 hs2=>?_;obtain⟨oD,esD,epD,hoD,hdD,hcD⟩:=hn2.count (R8 name v hw);refine qw (wpAny_lookBehind hoD (by rw[hdD];exact pastItsLine_dict (qK hcD (by rw[qi];omega))) ?_);exact qy (h _ ⟨(hs2.2 _ (df I.ne)).trans I.obj,hn2,I.ne⟩ hs2)
theorem Ov {vs:ac Value} (X:K.In s.heap) (hm:yi K C=ai)
  (hi:dD K (.ref C) "__init__"=aa (aa (.ref f))) (hf:PySem.W.typeIn K (.ref f)=aa (.type "function"))
  (h:ik .(L) (A.under (.builtin "type.__call__" ⟨.ref C::vs,kw⟩)) (.call (.ref f) ⟨.ref (s.heap.objs.size+1)::vs,kw⟩) (PySem.W.InitBack (s.heap.objs.size+1) R)
   {s with heap:=(s.heap.push lM).push (mV C s.heap.objs.size)}) :
  ik .(L) A (.call (.ref C) ⟨vs,kw⟩) R s:=by
 obtain⟨hh,g,d,t,os⟩:=s;exact PySem.W.make_core (PySem.W.makes_of X hm) (PySem.W.looks_findIn X hi) (fun self=>PySem.W.bind_fn X self hf) (.inl rfl) h
end
noncomputable def eX (f:ah) (v:V):ac (ah×V)->ac (ah×V)
 |[]=>[(f,v)]
 |(g,x)::r=>if g=f then (g,v)::r else (g,x)::eX f v r
theorem Du (f g:ah) (v:V):∀fs:ac (ah×V),(eX f v fs).lookup g=if g=f then aa v else fs.lookup g
 |[]=>by
  show dw g [(f,v)]=_;by_cases h:g=f
  .have hb:(g==f)=ai:=kF.mpr h;simp only[dw,hb,qW h]
  .have hb:(g==f)=ao:=lG.mpr h;simp only[dw,hb,qX h]
 |(k,x)::r=>by
  have ih:=Du f g v r;rw[show eX f v ((k,x)::r)=(if k=f then (k,v)::r else (k,x)::eX f v r) from rfl];by_cases hk:k=f
  .rw[qW hk];by_cases h:g=k
   .have hb:(g==k)=ai:=kF.mpr h;simp only[dw,hb,qW (h.trans hk)]
   .have hb:(g==k)=ao:=lG.mpr h;simp only[dw,hb,qX (fun e:g=f=>h (e.trans hk.symm))]
  .rw[qX hk];by_cases h:g=k
   .have hb:(g==k)=ai:=kF.mpr h;simp only[dw,hb,qX (fun e:g=f=>hk (h.symm.trans e))]
   .have hb:(g==k)=ao:=lG.mpr h;simp only[dw,hb];exact ih
theorem xz (f:ah) (v:V):∀fs:ac (ah×V),f∈(eX f v fs).map (·.1)/\∀g,g∈fs.map (·.1)->g∈(eX f v fs).map (·.1)
 |[]=>⟨by simp[eX],fun g h=>by simp at h⟩
 |(k,x)::r=>by
  obtain⟨i1,i2⟩:=xz f v r;rw[show eX f v ((k,x)::r)=(if k=f then (k,v)::r else (k,x)::eX f v r) from rfl];by_cases hk:k=f
  .rw[qW hk];subst hk;exact⟨by simp,fun g h=>by simpa using h⟩
  .rw[qX hk];refine⟨?_,fun g h=>?_⟩
   .rw[qm];exact qh _ i1
   .rw[qm] at h ⊢;rcases cA.mp h with e|e
    .exact cA.mpr (.inl e)
    .exact qh _ (i2 g e)
theorem B9 (f:ah) (v:V):∀fs:ac (ah×V),(eX f v fs).length<=fs.length+1
 |[]=>by simp[eX]
 |(k,x)::r=>by
  have ih:=B9 f v r;rw[show eX f v ((k,x)::r)=(if k=f then (k,v)::r else (k,x)::eX f v r) from rfl];by_cases hk:k=f
  .rw[qW hk,qi,qi];omega
  .rw[qX hk,qi,qi];omega
theorem fm.some_of {o:ar Value} (r:fm (aa v) o):∃u,o=aa u/\bD v u:=by
 cases o with
 |none=>exact(show False from r).elim
 |some u=>exact⟨u,rfl,r⟩
theorem fm.none_of {o:ar Value} (r:fm ab o):o=ab:=by
 cases o with
 |none=>rfl
 |some u=>exact(show False from r).elim
theorem Nu (r:bD v u):PJ u=ai:=by
 cases v with
 |non=>cases(show u=oA from r);rfl
 |bl b=>cases(show u=jF b from r);rfl
 |int i=>obtain⟨t,e⟩:=(show ∃t,u=c5 i t from r);cases e;rfl
 |str x=>obtain⟨t,e⟩:=(show ∃t,u=uz x t from r);cases e;rfl
 |byt b=>obtain⟨t,e⟩:=(show ∃t,u=Pq b t from r);cases e;rfl
 |flt b=>obtain⟨t,e⟩:=(show ∃t,u=DR b t from r);cases e;rfl
 |ref a=>cases(show u=ci a from r);rfl
 |ty n=>cases(show u=lH n from r);rfl
section
variable {P:bU} {h:Heap} {fs fs':ac (ah×V)}
theorem t4 (hok:HOk P w H h) (e:H a=aa (.ins C dx fs)):∃mA,ObjM h a dx C mA/\(∀f,fm (fs.lookup f) (mA f))/\DU mA (fs.map (·.1))/\fs.length<=1000/\H dx=aa (.own a):=by obtain⟨d,z,ne,ob,mA,n,r,q⟩:=(show cV P w H h a (.ins C dx fs) from hok a _ e);exact⟨mA,⟨ob,n,ne⟩,r,q,z,d⟩
end
structure Cls (K:bh) (C:av):Prop where
 pg:uG K C fX=ai
 hd:yh K C=ai
 po:D8 K C=ai
 sa:dD K (.ref C) "__setattr__"=aa (aa (.builtin "object.__setattr__"))
theorem Cls.get (c:Cls K C) (f:ah):uG K C f=ai:=c.pg
noncomputable def kO (K:bh) (C:av) (f:ah):Prop:=dD K (.ref C) f=aa ab
theorem kO.taker {K:bh} {C:av} {f:ah} (n:kO K C f):D9 K C f=aa ab:=by unfold D9;rw[show dD K (.ref C) f=aa ab from n];rfl
structure Meth (K:bh) (C:av) (m:ah) (f:av):Prop where
 at_:dD K (.ref C) m=aa (aa (.ref f))
 fn:uH K (.ref f)=ai
 kp:iN K (.ref f)=ai
variable {env:dc}
section
variable {fs:ac (ah×V)} {f:ah} {E:Value->aG->Prop}
theorem Oy {b:aN} (I:Inv X pins σ H s) (e:H a=aa (.ins C dx fs)) (c:Cls X.K C) (n:kO X.K C f) (l:fs.lookup f=aa v)
  (h:∀u s',Inv X pins σ H s'->bD v u->Q u s'):aK .(r) A (getAttr (.ref a) f b) Q E s:=by
 obtain⟨mA,O,r,_,_,_⟩:=t4 I.hok e;obtain⟨u,hu,ru⟩:=fm.some_of (v:=v) (o:=mA f) (by rw[←l];exact r f);exact GN I.kIn O (c.get f) c.hd n hu (Nu ru) (h u _ (I.tok _) ru)
theorem v9 {m:ah} {g:av} {Q:Value×ac Value->aG->Prop} (I:Inv X pins σ H s) (e:H a=aa (.ins C dx fs)) (c:Cls X.K C) (k:Meth X.K C m g) (l:fs.lookup m=ab)
  (h:Q (.ref g,[.ref a]) s):aK .(r) A (oF (.ref a) m pl) Q E s:=by
 obtain⟨mA,O,r,_,_,_⟩:=t4 I.hok e;have hn:mA m=ab:=fm.none_of (by rw[←l];exact r m);exact Hy I.kIn O (c.get m) k.at_ k.fn hn h
theorem KZ {y:V} {Q:mW->aG->Prop} (I:Inv X pins σ H s) (e:H a=aa (.ins C dx fs)) (c:Cls X.K C) (n:kO X.K C f) (hl:fs.length<1000) (ry:bD y u)
  (h:∀s',Inv X pins σ (upd H a (.ins C dx (eX f y fs))) s'->Q () s'):aK .(r) A (setAttr (.ref a) f u) Q E s:=by
 obtain⟨mA,O,r,wi,_,ho⟩:=t4 I.hok e;have hz:(fs.map (·.1)).length<=aT:=by rw[qf,fH];omega
 refine Iz I.kIn O c.sa c.po n.taker c.hd wi hz fun h' O' sb=>h _ ?_;have hd:∃o,h'.get? dx=aa o:=let ⟨o,_,_,e',_⟩:=O'.ns;⟨o,e'⟩
 refine I.write (x:=a) (e:=dx) (by rw[e];exact jJ) (.inr ho) (fun b q hb z=>(sb.2 b hb).trans z) hd ?_;refine⟨by rw[a6 O.ne];exact ho,?_,O.ne,O'.obj,_,O'.ns,fun g=>?_,fun g hg=>?_⟩
 .have:=B9 f y fs;omega
 .show fm ((eX f y fs).lookup g) (if g=f then aa u else mA g);rw[Du];by_cases q:g=f
  .rw[qW q,qW q];exact ry
  .rw[qX q,qX q];exact r g
 .by_cases q:g=f
  .rw[q];exact(xz f y fs).1
  .refine(xz f y fs).2 g (wi g fun z=>hg ?_);show(if g=f then aa u else mA g)=ab;rw[qX q];exact z
theorem Inv.made (I:Inv X pins σ H s):Inv X pins σ (upd (upd H s.heap.objs.size (.own (s.heap.objs.size+1))) (s.heap.objs.size+1) (.ins C s.heap.objs.size []))
  {s with heap:=(s.heap.push lM).push (mV C s.heap.objs.size)}:=by
 have e1:(s.heap.push lM).get? s.heap.objs.size=aa lM:=qE s.heap rfl;have e2:((s.heap.push lM).push (mV C s.heap.objs.size)).get? (s.heap.objs.size+1)=aa (mV C s.heap.objs.size):=by
  have:=qE (s.heap.push lM) (o:=mV C s.heap.objs.size) rfl
  rwa [mZ] at this
 have e3:(s.heap.push lM).Ns s.heap.objs.size (fun _=>ab):=⟨lM,#[],_,e1,rfl,(fun e he=>bz he (by simp)),fun _=>rfl⟩;have I1:=I.laid (a:=s.heap.objs.size) (o:=.own (s.heap.objs.size+1)) (h':=s.heap.push lM) (t':=s.toks) (fun b u q=>qt _ q) (qv _) ⟨_,e1⟩;refine I1.laid (a:=s.heap.objs.size+1) (o:=.ins C s.heap.objs.size []) (t':=s.toks) (fun b u q=>qt _ q) (yj (mZ _ _)) ?_;have ne:s.heap.objs.size≠s.heap.objs.size+1:=qA (uI _);refine⟨by rw[a6 ne,cc],gV _,ne,e2,fun _=>ab,(Heap.Ns1.of_empty e3).at fun o q=>qt _ q,fun _=>jJ,fun y hy=>bz rfl hy⟩
theorem ON (hb:jK e f env (eval e env)=eval e env)
  (h:aK .(L) A (eval e env) (fun o s₁=>aK .(L) A (getAttr o f ai) Q E s₁) E s):aK .(L) A (eval (.Attribute e f pos) env) Q E s:=
 Attribute_any_ h (by rw[arm_eval_Attribute,hb])
end
noncomputable def Kh (K:bh) (ta:TE) (f:ah):TE:=fun σ H Q=>ta σ H fun x H1=>∃a C dx fs v,x=.ref a/\H1 a=aa (.ins C dx fs)/\Cls K C/\kO K C f/\fs.lookup f=aa v/\Q v H1
noncomputable def N2 (K:bh) (ta tv:TE) (f:ah):TS:=fun D σ H=>tv σ H fun y H1=>ta σ H1 fun x H2=>∃a C dx fs,x=.ref a/\H2 a=aa (.ins C dx fs)/\Cls K C/\kO K C f/\fs.length<1000 /\
 D.nx σ (upd H2 a (.ins C dx (eX f y fs)))
variable {o value:Expr} {tpos apos:dn} {tv:TE}
section
variable {f:ah}
theorem xR (he:PE X e ta) (hb:jK e f X.env (eval e X.env)=eval e X.env):PE X (.Attribute e f pos) (Kh X.K ta f):=by intro pins s σ H Q I h;refine ON hb (thn (he pins s σ H _ I h) fun u s1 ⟨x,H1,I1,rx,a,C,dx,fs,v,ex,ea,c,n,l,q⟩=>?_);subst ex;obtain rfl:u=ci a:=rx;exact Oy I1 ea c n l fun u' s2 I2 ru=>⟨v,H1,I2,ru,q⟩
theorem As (ha:PE X o ta) (hv:PE X value tv) (hs:fW value (aa (.Attribute o f pos')) pos.line X.env=bA ao):PS X (.Assign [.Attribute o f pos'] value pos) (N2 X.K ta tv f):=by intro pins s σ H D I h;refine plainObj_wpAny_Assign_Attribute (thn (hv pins s σ H _ I h) fun u s1 ⟨y,H1,I1,ry,q⟩=>thn (ha pins s1 σ H1 _ I1 q) fun ov s2 ⟨x,H2,I2,rx,a,C,dx,fs,ex,ea,c,n,l,q2⟩=>?_) hs;subst ex;obtain rfl:ov=ci a:=rx;exact KZ I2 ea c n l ry fun s3 I3=>⟨σ,_,I3,q2⟩
theorem RG {m:ah} {args:ac Expr} (he:PE X e te) (I:Inv X pins σ H s)
  (h:te σ H fun x H1=>∃a C dx fs g,x=.ref a/\H1 a=aa (.ins C dx fs)/\Cls X.K C/\Meth X.K C m g/\fs.lookup m=ab /\
   ∀s1,Inv X pins σ H1 s1->aK .(r) X.A (rq pos (.ref g) [.ref a] (cE pos (a7 args X.env)) (iO pos (iP [] X.env))) Q X.xe s1)
  (ht:eval (.Call (.Attribute e m apos) args [] pos) X.env=(do
   let ov ←eval e X.env
   oB apos.atName
   let (f,first) ←jG [ov] (oF ov m pl)
   rq pos f first (cE pos (a7 args X.env)) (iO pos (iP [] X.env)))) :
  aK .(r) X.A (eval (.Call (.Attribute e m apos) args [] pos) X.env) Q X.xe s:=by
 refine D' (pl:=pl) (thn (he pins s σ H _ I h) fun u s1 ⟨x,H1,I1,rx,a,C,dx,fs,g,ex,ea,c,k,l,q⟩=>?_) ht;subst ex;obtain rfl:u=ci a:=rx;exact v9 I1 ea c k l (q s1 I1)
end
section
variable {E:Value->aG->Prop} {c:Value} {b:aN}
inductive TyOf (K:bh) (H:Hp):V->Value->Prop where
 |non:TyOf K H .non (.type "NoneType")
 |bl (x:aN):TyOf K H (.bl x) (.type "bool")
 |int (i:ag):TyOf K H (.int i) (.type "int")
 |str (x:ah):TyOf K H (.str x) (.type "str")
 |flt (x:UInt64):TyOf K H (.flt x) (.type "float")
 |lst {a:av} {xs:ac V} (e:H a=aa (.lst xs)):TyOf K H (.ref a) (.type "list")
 |frz {a:av} {o:a8} {xs:ac V} (e:H a=aa (.frz o (.lst xs))):TyOf K H (.ref a) (.type "list")
 |tup {a:av} {xs:ac V} (e:H a=aa (.tup xs)):TyOf K H (.ref a) (.type "tuple")
 |dK {a:av} {kvs:ac (Key×V)} (e:H a=aa (.dK kvs)):TyOf K H (.ref a) (.type "dict")
 |dT {a:av} {kvs:ac (ac Key×V)} (e:H a=aa (.dT kvs)):TyOf K H (.ref a) (.type "dict")
 |ins {a C dx:av} {fs:ac (ah×V)} (e:H a=aa (.ins C dx fs)) (cl:Cls K C) (ha:dD K (.ref C) "__class__"=aa (aa (.builtin "object.__class__")))
   (hn:PySem.W.specialIn K (.builtin "object.__class__") "__get__"=aa (aa (.builtin "getset_descriptor.__get__"))) (htk:PySem.W.takesIn K (.builtin "object.__class__")=aa ai)
   (hm:PySem.W.mroIn K C (.type "object")=aa ai):TyOf K H (.ref a) (.ref C)
theorem LX {x:V} {t:Value} (I:Inv X pins σ H s) (rx:bD x u) (ty:TyOf X.K H x t) (e:PK X.K t c=aa b) (h:∀tk,Q (.bool b) {s with toks:=tk}) :
  aK .(r) A (call (.builtin "isinstance") [u,c]) Q E s:=by
 cases ty with
 |non=>cases(show u=oA from rx);exact jL PySem.W.kitx_none I.kIn jJ e (fun z=>nomatch z) h
 |bl y=>cases(show u=jF y from rx);exact jL PySem.W.kitx_bool I.kIn jJ e (fun z=>nomatch z) h
 |int i=>obtain⟨t,q⟩:=(show ∃t,u=c5 i t from rx);cases q;exact jL PySem.W.kitx_int I.kIn jJ e (fun z=>nomatch z) h
 |str y=>obtain⟨t,q⟩:=(show ∃t,u=uz y t from rx);cases q;exact jL PySem.W.kitx_str I.kIn jJ e (fun z=>nomatch z) h
 |flt y=>obtain⟨t,q⟩:=(show ∃t,u=DR y t from rx);cases q;exact jL PySem.W.kitx_float I.kIn jJ e (fun z=>nomatch z) h
 | @lst a xs ea=>
  cases(show u=ci a from rx);obtain⟨_,_,n,_,h1⟩:=(show cV X.prog X.w H s.heap a (.lst xs) from I.hok a _ ea);exact jL PL I.kIn ⟨_,h1,rfl⟩ e (fun z=>nomatch z) h
 | @frz a ob xs ea=>
  cases(show u=ci a from rx);obtain⟨_,_,_,n,_,h1⟩:=(show cV X.prog X.w H s.heap a (.frz ob (.lst xs)) from I.hok a _ ea);exact jL PL I.kIn ⟨_,h1,rfl⟩ e (fun z=>nomatch z) h
 | @tup a xs ea=>
  cases(show u=ci a from rx);obtain⟨_,_,_,p⟩:=(show cV X.prog X.w H s.heap a (.tup xs) from I.hok a _ ea);obtain⟨o,h1,h2,_⟩:=p;exact jL PySem.W.kitx_tuple I.kIn ⟨o,h1,h2⟩ e (fun z=>nomatch z) h
 | @dK a kvs ea=>
  cases(show u=ci a from rx);obtain⟨_,_,vs,_,p⟩:=(show cV X.prog X.w H s.heap a (.dK kvs) from I.hok a _ ea);obtain⟨o,es,ep,h1,h2,_⟩:=p;exact jL PM I.kIn ⟨o,h1,h2.1⟩ e (fun z=>nomatch z) h
 | @dT a kvs ea=>
  cases(show u=ci a from rx);obtain⟨_,_,xs,_,o,es,ep,h1,h2,_⟩:=(show cV X.prog X.w H s.heap a (.dT kvs) from I.hok a _ ea);exact jL PM I.kIn ⟨o,h1,h2.1⟩ e (fun z=>nomatch z) h
 | @ins a C dx fs ea cl ha hn htk hm=>
  cases(show u=ci a from rx);obtain⟨mA,O,_⟩:=t4 I.hok ea;obtain⟨od,J,_⟩:=O.look;exact jL (PySem.W.kitx_own (cl.get _) cl.hd ha hn htk hm) I.kIn J e (fun z=>nomatch z) h
end
structure Room (k:al) (A:eF):Prop where
 hd:A.handled=ab
 dp:A.depth+3*k+5<recursionLimit
 un:A.units+16*k+200<cr
theorem Room.mono {k:al} (r:Room k A) (h:j<=k):Room j A:=⟨r.hd,by have:=r.dp;omega,by have:=r.un;omega⟩
theorem Room.deeper {k:al} (r:Room (k+1) A) (env:dc):Room k (A.deeper env):=
 ⟨r.hd,by have:=r.dp;show A.depth+1+3*k+5 < _;omega,by have:=r.un;show A.units+3+16*k+200 < _;omega⟩
theorem OA {us:ac Value} :(A.under (.builtin "type.__call__" ⟨.ref C::us,kw⟩)).depth=A.depth+1:=by
 first|rfl|simp[Ea,Code.weight,Code.isCreation,Code.isGuard,Code.isCaller,PN,Eb,guardIds]
theorem Jw {us:ac Value} :(A.under (.builtin "type.__call__" ⟨.ref C::us,kw⟩)).units=A.units+1:=by
 first|rfl|simp[Ea,Code.cUnits,PN,Eb]
theorem Room.make {k:al} (r:Room (k+1) A) (C:av) (us:ac Value) (kw:ac (ah×Value)):Room k (A.under (.builtin "type.__call__" ⟨.ref C::us,kw⟩)):=
 ⟨r.hd,by have:=r.dp;rw[OA];omega,by have:=r.un;rw[Jw];omega⟩
theorem Room.depth {k:al} (r:Room k A):A.depth<recursionLimit:=by have:=r.dp;omega
noncomputable def zy:TA:=fun _ H Q=>Q [] H
noncomputable def Ky (ta:TE) (tr:TA):TA:=fun σ H Q=>ta σ H fun x H1=>tr σ H1 fun xs H2=>Q (x::xs) H2
section
variable {t:TA}
theorem kx:PA X [] zy:=fun _ _ _ _ H Q I h=>Ec ⟨[],H,I,.nil,h⟩
theorem j9 (ha:PE X e te) (hr:PA X es t) (hs:a7 (e::es) X.env=(ao,eval e X.env)::a7 es X.env:=by rfl):PA X (e::es) (Ky te t):=by intro pos pins s σ H Q I h;rw[hs];show aK _ _ (spliced ((ao,eval e X.env)::cE pos (a7 es X.env))) _ _ s;refine yk (thn (ha pins s σ H _ I h) fun u s1 ⟨x,H1,I1,r1,q1⟩=>?_);exact thn (hr pos pins s1 σ H1 _ I1 q1) fun us s2 ⟨xs,H2,I2,r2,q2⟩=>⟨x::xs,H2,I2,.cons r1 r2,q2⟩
noncomputable def JT (t:TA):TE:=fun σ H Q=>t σ H fun xs H1=>xs.length<=aT/\∀p,H1 p=ab->Q (.ref p) (upd H1 p (.tup xs))
noncomputable def FC (t:TA):TE:=fun σ H Q=>t σ H fun xs H1=>xs.length<=aT/\∀p,H1 p=ab->Q (.ref p) (upd H1 p (.lst xs))
theorem LB {x1} (h:PA X es t):PE X (.Tuple es x1 pos) (JT t):=by intro pins s σ H Q I hq;refine wpAny_Tuple_spliced (thn (h pos pins s σ H _ I hq) fun us s1 ⟨xs,H1,I1,r,z,q⟩=>⟨by rw[←r.length];exact z,?_⟩);have hf:H1 s1.heap.objs.size=ab:=I1.hok.fresh (qv _);refine⟨.ref s1.heap.objs.size,upd H1 s1.heap.objs.size (.tup xs),I1.laid (t':=s1.toks) (fun b u e=>qt _ e) (qv _) ?_,rfl,q _ hf⟩;exact⟨z,us,r,⟨_,qE _ rfl,rfl,_,rfl⟩⟩
theorem Fm (h:PA X es t):PE X (.List es pos) (FC t):=by intro pins s σ H Q I hq;refine wpAny_List_spliced (thn (h pos pins s σ H _ I hq) fun us s1 ⟨xs,H1,I1,r,z,q⟩=>⟨by rw[←r.length];exact z,?_⟩);have hf:H1 s1.heap.objs.size=ab:=I1.hok.fresh (qv _);refine⟨.ref s1.heap.objs.size,upd H1 s1.heap.objs.size (.lst xs),I1.laid (t':=s1.toks) (fun b u e=>qt _ e) (qv _) ?_,rfl,q _ hf⟩;exact⟨z,us,0,r,qE _ rfl⟩
end
noncomputable abbrev Sp:=ac V->Hp->VK->XK->Prop
noncomputable abbrev CXT:=ac dc->Hp->aG->XK->Value->aG->Prop
structure Env0 (P:bU) (w:cQ) (K:bh) (mg:ah->ar Value) (base:Heap) (A:eF) (outer:ac dc) (s:aG) (H:Hp):Prop where
 frames:A.frames=aa outer
 mod:Mod K mg base
 bs:∀b o,base.get? b=aa o->s.heap.get? b=aa o/\H b=ab
 bsz:base.objs.size<=s.heap.objs.size
 funs:s.heap.FunFrames base outer
 frf:∀b∈frs outer,H b=ab
 hok:HOk P w H s.heap
 bare:kA s.gens
noncomputable def CE (outer:ac dc) (P:bU) (w:cQ) (H:Hp) (s:aG) (Q:VK) (u:Value) (s':aG):Prop:=
 ∃v H',s'.os=s.os/\kA s'.gens/\Un (frs outer) [] H H' s.heap s'.heap/\HOk P w H' s'.heap/\bD v u/\Q v H'
noncomputable def CR (CX:CXT) (outer:ac dc) (P:bU) (w:cQ) (H:Hp) (s:aG) (Q:VK) (E:XK) (r:Result) (s':aG):Prop:=
 match r with
 |.ok (.ret u)=>CE outer P w H s Q u s'
 |.ok _=>False
 |.error e=>CX outer H s E e s'
structure FnOk (P:bU) (w:cQ) (K:bh) (mg:ah->ar Value) (base:Heap) (CX:CXT) (k:al) (f:av) (fd:m4) (ps:ac ah) (sp:Sp):Prop where
 len:∀vs H Q E,sp vs H Q E->vs.length=ps.length
 run:∀(A:eF) (outer:ac dc) (s:aG) (H:Hp) (args:Args) (us:ac Value) (vs:ac V) (Q:VK) (E:XK),Room k A->Env0 P w K mg base A outer s H->rA s fd args (ps.zip us)->bH vs us->sp vs H Q E->
  ik (aQ P w) A (.call (.ref f) args) (CR CX outer P w H s Q E) s
variable {mg:ah->ar Value} {base:Heap} {CX:CXT} {fd:m4} {ps:ac ah} {sp:Sp}
theorem FnOk.imp {P:bU} {k:al} {f:av} {sp':Sp} (F:FnOk P w K mg base CX k f fd ps sp)
  (h:∀vs H Q E,sp' vs H Q E->sp vs H Q E):FnOk P w K mg base CX k f fd ps sp':=
 ⟨fun vs H Q E q=>F.len vs H Q E (h _ _ _ _ q),fun A outer s H args us vs Q E hr he hb hv hs=>F.run A outer s H args us vs Q E hr he hb hv (h _ _ _ _ hs)⟩
variable {outer:ac dc}
theorem Env0.make {P:bU} (e:Env0 P w K mg base A outer s H) (C:av) (us:ac Value) (kw:ac (ah×Value)) :
  Env0 P w K mg base (A.under (.builtin "type.__call__" ⟨.ref C::us,kw⟩)) outer s H:=⟨by first|exact e.frames|(simpa[Ea,Code.envs,Eb,pushEnvs] using e.frames),e.mod,e.bs,e.bsz,e.funs,e.frf,e.hok,e.bare⟩
theorem Inv.env0 (I:Inv X pins σ H s):Env0 X.prog X.w X.K X.mg X.base X.A X.stack s H:=
 ⟨I.ok.frames,I.ok.mod,I.bs,qK I.ok.bsz I.sz,I.stack,I.stkFree,I.hok,I.bare⟩
theorem Inv.after {Q:VK} (I:Inv X pins σ H s) (h:CE X.stack X.prog X.w H s Q u s'):EP X pins σ Q u s':=by obtain⟨v,H',os,bare,un,hok,r,q⟩:=h;obtain⟨hh,g,d,t,os'⟩:=s';obtain rfl:os'=s.os:=os;exact⟨v,H',I.call (h':=hh) (g':=g) (d':=d) (t':=t) (ch:=[]) un hok bare (fun b z=>bz z (by simp)),r,q⟩
noncomputable def NL (sp:Sp) (dvs:ac V) (E:XK) (t:TA):TE:=fun σ H Q=>t σ H fun vs H1=>sp (vs++dvs) H1 Q E
noncomputable def AE (C:av) (m:ah) (sp:Sp) (dvs:ac V) (E:XK) (ta:TE) (t:TA):TE:=fun σ H Q=>ta σ H fun x H1=>∃a dx fs,x=.ref a/\H1 a=aa (.ins C dx fs)/\fs.lookup m=ab /\
 t σ H1 fun vs H2=>sp (x::(vs++dvs)) H2 Q E
noncomputable def Gh (C:av) (sp:Sp) (dvs:ac V) (E:XK) (t:TA):TE:=fun σ H Q=>t σ H fun vs H1=>∀x dx,H1 x=ab->H1 dx=ab->dx≠x->
 sp (.ref x::(vs++dvs)) (upd (upd H1 dx (.own x)) x (.ins C dx [])) (fun v H2=>v=.non/\Q (.ref x) H2) E
noncomputable def gT (K:bh) (fd:m4) (ps:ac ah) (ds:ac Value):Prop:=
 ∀(s:aG) (us:ac Value),K.In s.heap->(us++ds).length=ps.length->rA s fd ⟨us,[]⟩ (ps.zip (us++ds))
theorem gT.all (h:∀us:ac Value,us.length=ps.length->lN fd ⟨us,[]⟩=bA (ps.zip us)):gT K fd ps []:=fun s us _ hl=>by rw[m5] at hl ⊢;exact .of_eq (h us hl)
noncomputable def mP (CX:CXT) (X:Cx) (E:XK):Prop:=∀(pins:ac (av×a8)) (σ:St) (H:Hp) (s:aG) (e:Value) (s':aG),Inv X pins σ H s->CX X.stack H s E e s'->X.xe e s'
variable {vs:ac V}
section
variable {k:al} {f:av} {dvs:ac V} {ds:ac Value} {E:XK} {m:ah} {t:TA}
theorem xL {Q:VK} {us:ac Value} (F:FnOk X.prog X.w X.K X.mg X.base CX k f fd ps sp) (hr:Room k X.A) (hb:gT X.K fd ps ds) (hd:bH dvs ds) (hx:mP CX X E)
  (I:Inv X pins σ H s) (r:bH vs us) (h:sp (vs++dvs) H Q E):aK .(r) X.A (call (.ref f) us) (EP X pins σ Q) X.xe s:=by
 have r2:bH (vs++dvs) (us++ds):=r.append hd;have hl:(us++ds).length=ps.length:=by rw[←r2.length];exact F.len _ _ _ _ h
 refine ym (rB (F.run X.A X.stack s H ⟨us,[]⟩ (us++ds) (vs++dvs) Q E hr I.env0 (hb s us I.kIn hl) r2 h) fun r s' hq=>?_);cases r with
 |error e=>exact hx pins σ H s e s' I hq
 |ok fl=>
  cases fl with
  |ret u=>exact I.after hq
  |next=>exact ij hq
  |brk=>exact ij hq
  |cont=>exact ij hq
theorem F1 (F:FnOk X.prog X.w X.K X.mg X.base CX k f fd ps sp) (hr:Room k X.A) (hg:Gl X x) (hm:X.mg x=aa (.ref f)) (hk:iN X.K (.ref f)=ai) (hb:gT X.K fd ps ds) (hd:bH dvs ds) (hx:mP CX X E)
  (ha:PA X (e::es) t) (hdb:.(H)=ao:=by decide) (he:a7 (e::es) X.env=(ao,eval e X.env)::a7 es X.env:=by rfl) (hpl:(cE pos (a7 es X.env)).any (·.1)=ao:=by rfl) :
  PE X (.Call (.Name x p) (e::es) [] pos) (NL sp dvs E t):=by
 intro pins s σ H Q I h;refine yn (vK I hg hm ?_ hdb);refine Ed (h₀:=X.base) I.ok.mod.kin hk (thn (ha pos pins s σ H _ I h) fun us s1 ⟨vs,H1,I1,r,q⟩=>⟨I1.kIn,?_⟩) he hpl;exact xL F hr hb hd hx I1 r q
theorem Ny (he:PE X o ta) (c:Cls X.K C) (hm:Meth X.K C m f) (F:FnOk X.prog X.w X.K X.mg X.base CX k f fd ps sp) (hr:Room k X.A) (hb:gT X.K fd ps ds) (hd:bH dvs ds) (hx:mP CX X E) (ha:PA X (e::es) t)
  (hst:a7 (e::es) X.env=(ao,eval e X.env)::a7 es X.env:=by rfl) (hpl:(cE pos (a7 es X.env)).any (·.1)=ao:=by rfl)
  (ht:eval (.Call (.Attribute o m apos) (e::es) [] pos) X.env=(do
   let ov ←eval o X.env
   oB apos.atName
   let (f,first) ←jG [ov] (oF ov m pl)
   rq pos f first (cE pos (a7 (e::es) X.env)) (iO pos (iP [] X.env))):=by rfl) :
  PE X (.Call (.Attribute o m apos) (e::es) [] pos) (AE C m sp dvs E ta t):=by
 intro pins s σ H Q I h;refine D' (pl:=pl) (thn (he pins s σ H _ I h) fun u s1 ⟨x,H1,I1,rx,a,dx,fs,ex,ea,l,q⟩=>?_) ht;subst ex;obtain rfl:u=ci a:=rx;refine v9 I1 ea c hm l ?_;refine Ed (first:=[.ref a]) (h₀:=X.base) I.ok.mod.kin hm.kp (thn (ha pos pins s1 σ H1 _ I1 q) fun us s2 ⟨vs,H2,I2,r,q2⟩=>⟨I2.kIn,?_⟩) hst hpl;exact xL (us:=.ref a::us) (vs:=.ref a::vs) F hr hb hd hx I2 (.cons rfl r) q2
theorem LN (he:PE X o ta) (c:Cls X.K C) (hm:Meth X.K C m f) (F:FnOk X.prog X.w X.K X.mg X.base CX k f fd ps sp) (hr:Room k X.A) (hb:gT X.K fd ps ds) (hd:bH dvs ds) (hx:mP CX X E)
  (ht:eval (.Call (.Attribute o m apos) [] [] pos) X.env=(do
   let ov ←eval o X.env
   oB apos.atName
   let (f,first) ←jG [ov] (oF ov m pl)
   rq pos f first (cE pos (a7 [] X.env)) (iO pos (iP [] X.env))):=by rfl) :
  PE X (.Call (.Attribute o m apos) [] [] pos) (AE C m sp dvs E ta zy):=by
 intro pins s σ H Q I h;refine D' (pl:=pl) (thn (he pins s σ H _ I h) fun u s1 ⟨x,H1,I1,rx,a,dx,fs,ex,ea,l,q⟩=>?_) ht;subst ex;obtain rfl:u=ci a:=rx;refine v9 I1 ea c hm l ?_;exact PySem.W.callWith_K0 (first:=[.ref a]) I1.kIn hm.kp (xL (us:=[.ref a]) (vs:=[.ref a]) F hr hb hd hx I1 (.cons rfl .nil) q)
structure Mk (K:bh) (C f:av):Prop where
 makes:yi K C=ai
 init:dD K (.ref C) "__init__"=aa (aa (.ref f))
 fn:uH K (.ref f)=ai
 kp:iN K (.ref C)=ai
theorem OO {Q:VK} {us:ac Value} (M:Mk X.K C f) (F:FnOk X.prog X.w X.K X.mg X.base CX k f fd ps sp) (hr:Room (k+1) X.A) (hb:gT X.K fd ps ds) (hd:bH dvs ds)
  (hx:mP CX X E) (I:Inv X pins σ H s) (r:bH vs us)
  (h:∀x dx,H x=ab->H dx=ab->dx≠x->sp (.ref x::(vs++dvs)) (upd (upd H dx (.own x)) x (.ins C dx [])) (fun v H2=>v=.non/\Q (.ref x) H2) E) :
  aK .(r) X.A (call (.ref C) us) (EP X pins σ Q) X.xe s:=by
 have hq:=h (s.heap.objs.size+1) s.heap.objs.size (I.hok.fresh (lO _)) (I.hok.fresh (qv _)) (qA (uI _));have I2:=Inv.made (C:=C) I;have r2:bH (V.ref (s.heap.objs.size+1)::(vs++dvs)) (ci (s.heap.objs.size+1)::(us++ds)):=.cons rfl (r.append hd);have hl:(ci (s.heap.objs.size+1)::us++ds).length=ps.length:=by have e:=r2.length;rw[F.len _ _ _ _ hq] at e;exact e.symm
 refine ym (Ov (f:=f) I.kIn M.makes M.init (kF.mp M.fn) (rB (F.run _ X.stack _ _ ⟨ci (s.heap.objs.size+1)::us,[]⟩ (ci (s.heap.objs.size+1)::(us++ds)) _ _ E (hr.make C us [])
  (I2.env0.make C us []) (hb _ (ci (s.heap.objs.size+1)::us) I2.kIn hl) r2 hq) fun r s' hq'=>?_))
 cases r with
 |error e=>exact hx pins σ _ _ e s' I2 hq'
 |ok fl=>
  cases fl with
  |ret u=>
   obtain⟨v,H',I3,rv,ev,q3⟩:=I2.after hq';subst ev;exact⟨rv,⟨V.ref (s.heap.objs.size+1),H',I3,rfl,q3⟩⟩
  |next=>exact ij hq'
  |brk=>exact ij hq'
  |cont=>exact ij hq'
theorem LI (M:Mk X.K C f) (F:FnOk X.prog X.w X.K X.mg X.base CX k f fd ps sp) (hr:Room (k+1) X.A) (hg:Gl X x) (hm:X.mg x=aa (.ref C)) (hb:gT X.K fd ps ds) (hd:bH dvs ds) (hx:mP CX X E)
  (ha:PA X (e::es) t) (hdb:.(H)=ao:=by decide) (he:a7 (e::es) X.env=(ao,eval e X.env)::a7 es X.env:=by rfl) (hpl:(cE pos (a7 es X.env)).any (·.1)=ao:=by rfl) :
  PE X (.Call (.Name x p) (e::es) [] pos) (Gh C sp dvs E t):=by
 intro pins s σ H Q I h;refine yn (vK I hg hm ?_ hdb);refine Ed (h₀:=X.base) I.ok.mod.kin M.kp (thn (ha pos pins s σ H _ I h) fun us s1 ⟨vs,H1,I1,r,q⟩=>⟨I1.kIn,?_⟩) he hpl;exact OO M F hr hb hd hx I1 r q
end
structure FnScope (N P:ac ah) (sc:Scope):Prop where
 kind:sc.kind=.function
 co:sc.isCoroutine=ao
 gen:sc.isGenerator=ao
 nd:N.Nodup
 pre:N.take P.length=P
 par:∀x∈P,sc.names.lookup x=aa .local\/sc.names.lookup x=aa .cell
 nofree:∀y∈sc.names,y.2≠.free
theorem zO {kindOf:ah->ar gW} {x:ah}:∀{binds:ac (ah×Value)} {m:ah->ar Value},(∀v,(x,v)∉binds)->lP kindOf binds m x=m x
 |[],_,_=>rfl
 |(n,v)::r,m,h=>by
  unfold lP;rw[zO fun w hw=>h w (qh _ hw)];split
  .have:x≠n:=by rintro rfl;exact h v qg
   simp[this]
  .rfl
theorem Bg {kindOf:ah->ar gW} {x:ah}:∀{binds:ac (ah×Value)} {m:ah->ar Value},(∀v,(x,v)∉binds)->lQ kindOf binds m x=m x
 |[],_,_=>rfl
 |(n,v)::r,m,h=>by
  unfold lQ;rw[Bg fun w hw=>h w (qh _ hw)];split
  .rfl
  .have:x≠n:=by rintro rfl;exact h v qg
   simp[this]
theorem C9 {kindOf:ah->ar gW} {x:ah} {v:Value}:∀{P:ac ah} {vs:ac Value} {i:al} {m:ah->ar Value},P.Nodup->P[i]?=aa x->vs[i]?=aa v->kindOf x=aa .local->
  lP kindOf (P.zip vs) m x=aa v
 |[],_,_,_,_,h,_,_=>by simp at h
 |_::_,[],_,_,_,_,h,_=>by simp at h
 |p::P,w::vs,0,m,nd,h1,h2,hk=>by
  simp at h1 h2;subst h1;subst h2;show lP kindOf ((p,w)::P.zip vs) m p=_;unfold lP;rw[zO fun v hv=>(il.mp nd).1 (Ee hv).1,qW hk];simp
 |p::P,w::vs,i+1,m,nd,h1,h2,hk=>by show lP kindOf ((p,w)::P.zip vs) m x=_;unfold lP;exact C9 (i:=i) (il.mp nd).2 (by simpa using h1) (by simpa using h2) hk
theorem BI {kindOf:ah->ar gW} {x:ah} {v:Value}:∀{P:ac ah} {vs:ac Value} {i:al} {m:ah->ar Value},P.Nodup->P[i]?=aa x->vs[i]?=aa v->kindOf x≠aa .local->
  lQ kindOf (P.zip vs) m x=aa v
 |[],_,_,_,_,h,_,_=>by simp at h
 |_::_,[],_,_,_,_,h,_=>by simp at h
 |p::P,w::vs,0,m,nd,h1,h2,hk=>by
  simp at h1 h2;subst h1;subst h2;show lQ kindOf ((p,w)::P.zip vs) m p=_;unfold lQ;rw[Bg fun v hv=>(il.mp nd).1 (Ee hv).1,qX hk];simp
 |p::P,w::vs,i+1,m,nd,h1,h2,hk=>by show lQ kindOf ((p,w)::P.zip vs) m x=_;unfold lQ;exact BI (i:=i) (il.mp nd).2 (by simpa using h1) (by simpa using h2) hk
noncomputable def gq (N:ac ah) (vs:ac V):St:=vs.map aa++b9 (N.length-vs.length) ab
noncomputable def hU (CX:CXT) (P:bU) (w:cQ) (K:bh) (mg:ah->ar Value) (base:Heap) (N:ac ah) (qual:ah) (scope:Scope) (f:av) (cd:Value) (A:eF) (outer:ac dc) (s:aG) (H:Hp) (E:XK):Cx where
 prog:=P
 w:=w
 K:=K
 mg:=mg
 base:=base
 A:=A.deeper (fy qual scope s.heap.objs.size f cd)
 N:=N
 s₀:=s
 H₀:=H
 env:=fy qual scope s.heap.objs.size f cd
 outer:=outer
 stack:=fy qual scope s.heap.objs.size f cd::outer
 ex:=[]
 calm:=ai
 fn:=fun _=>ai
 pn:=[]
 xe:=fun e s'=>aK (aQ P w) (A.deeper (fy qual scope s.heap.objs.size f cd)) (leaving (fy qual scope s.heap.objs.size f cd) e) (fun _ s''=>CX outer H s E e s'') (fun e' s''=>CX outer H s E e' s'') s'
variable {sc:Scope}
theorem CC (h:sc.names.lookup x=aa .cell):∃c,(yo n sc.names []).lookup x=aa c:=by have q:=PP sc.names n [] (.inl h);exact gm.mp q
variable {qual:ah} {scope:Scope} {cd:Value}
theorem HJ {P:bU} {f:av} {s1:aG} {E:XK} {us:ac Value} 
  (S:FnScope N ps scope) (hd:A.handled=ab) (e0:Env0 P w K mg base A outer s H) (hl:vs.length=ps.length) (r:bH vs us)
  (x:InCallC s s.heap.objs.size (lP (fy qual scope s.heap.objs.size f cd).kindOf (ps.zip us) fun _=>ab) (yo (s.heap.objs.size+1) scope.names []) (lQ (fy qual scope s.heap.objs.size f cd).kindOf (ps.zip us) fun _=>ab) s1) :
  Inv (hU CX P w K mg base N qual scope f cd A outer s H E) [] (gq N vs) H s1:=by
 have hpl:ps.length<=N.length:=by have:=cI gX S.pre;rw[qC] at this;omega
 obtain⟨h1,tk,rfl,hk⟩:=x.done;have noA:∀b:av,b∉(hU CX P w K mg base N qual scope f cd A outer s H E).ex:=fun b z=>bz (show b∈([]:ac av) from z) (by simp);refine⟨⟨e0.mod,S.kind,rfl,rfl,qv _,fun y z c h1 h2=>?_,fun y hy=>?_,fun y c _ h=>?_,fun _=>hd,Around.frames_deeper e0.frames,.inr ⟨rfl,rfl⟩,fun b z=>bz z (noA b),e0.bs,e0.bsz,fun b _ _=>noA b,fun b z=>bz z (noA b),e0.funs,e0.frf⟩,
  rfl,e0.bare,Un.kept hk,⟨_,x.toInCall.ns,fun i y v h1 h2 h3=>?_⟩,fun y c h=>⟨_,x.cell y c h⟩,e0.hok.fresh (qv _),fun y c h=>?_,fun p hp=>bz (show p∈([]:ac (av×a8)) from hp) (by simp),e0.hok.kept hk,?_⟩
 .exact name_of_addr x.apart (m6 h1) (m6 h2)
 .have hy:scope.names.lookup y=aa .cell\/scope.names.lookup y=aa .free:=hy;rcases hy with hy|hy
  .exact CC hy
  .exact bz rfl (S.nofree _ (m6 hy))
 .exact rm (x.above y c (m6 h))
 .have hi:i<vs.length:=by
   unfold gq at h2;by_cases hi:i<vs.length
   .exact hi
   .rw[qI (by simpa using hi)] at h2;rw[yp] at h2;split at h2<;>cases h2
  have ha:vs[i]?=aa v:=by
   unfold gq at h2;rw[qx (by simpa using hi),qk] at h2;cases e:vs[i]? with
   |none=>rw[e] at h2;cases h2
   |some a=>rw[e] at h2;cases h2;rfl
  obtain⟨u,hu,rv⟩:=r.get ha;have hp:ps[i]?=aa y:=by rw[←S.pre,oG .(e)];exact h1
  have ndP:ps.Nodup:=by rw[←S.pre];exact S.nd.sublist (Ef _ _)
  refine⟨u,rv,?_⟩;rcases S.par y (qN hp) with k|k
  .exact .inl ⟨k,C9 ndP hp hu k⟩
  .obtain⟨c,e⟩:=CC (n:=s.heap.objs.size+1) k;refine .inr ⟨.inl k,c,e,?_⟩;have q:=x.cell y c e;rw[BI ndP hp hu (by show scope.names.lookup y≠_;rw[k];decide)] at q;exact q
 .exact e0.hok.fresh (rm (x.above y c (m6 h)))
 .unfold gq;show _=N.length;rw[qj,qf,List.length_replicate];omega
variable {doc pm cdv ct oc:Value} {an od:ar av} {osl:bP (ar Value)}
theorem Nb {P:bU} {k:al} {f:av} {params:Arguments} {body:ac Stmt} {dV kV:Value} 
  (lk:K.lookup f=aa ⟨oc,od,.func (gY name qual params body scope dV kV doc pm an cdv ct),osl⟩) (hcd:rC K cdv qual=ai) (S:FnScope N ps scope)
  (len:∀vs H Q E,sp vs H Q E->vs.length=ps.length)
  (hbody:∀(A:eF) (outer:ac dc) (s:aG) (H:Hp) (vs:ac V) (Q:VK) (E:XK),Room k (A.deeper (fy qual scope s.heap.objs.size f cdv))->sp vs H Q E->
   ∃t,PSs (hU CX P w K mg base N qual scope f cdv A outer s H E) body t/\t {nx:=fun _ H'=>Q .non H',rt:=Q} (gq N vs) H) :
  FnOk P w K mg base CX (k+1) f (gY name qual params body scope dV kV doc pm an cdv ct) ps sp:=by
 refine⟨len,fun A outer s H args us vs Q E hr e0 hb r hsp=>?_⟩;have hl:=len _ _ _ _ hsp;have KX:K.In s.heap:=e0.mod.kin.keeps fun b o e=>(e0.bs b o e).1;have lim:s.heap.NoLimit:=e0.mod.nolimit.keeps fun b o e=>(e0.bs b o e).1;have hkind:∀y∈ps.zip us,scope.names.lookup y.1=aa .local\/(scope.names.lookup y.1=aa .cell/\((yo (s.heap.objs.size+1) scope.names []).lookup y.1).isSome=ai):=fun⟨n,v⟩ hy=>by
  rcases S.par n (Ee hy).1 with q|q
  .exact .inl q
  .exact .inr ⟨q,PP _ _ _ (.inl q)⟩
 refine codeAny_call_function hr.depth (KX _ _ lk) rfl S.co S.gen rfl (PySem.W.codeRec_of KX hcd) (hb _ _ _ _ ?_);refine wpAny_newFunctionEnv_cells S.kind hkind fun env he s1 x=>?_;subst he;refine⟨lim.keeps x.toInCall.keep,codeAny_func ?_⟩;obtain⟨t,ht,hq⟩:=hbody A outer s H vs Q E (hr.deeper _) hsp;have I:Inv (hU CX P w K mg base N qual scope f cdv A outer s H E) [] (gq N vs) H s1:=HJ S hr.hd e0 hl r x;refine gU (ht [] s1 (gq N vs) H _ I hq) (fun fl s' hs=>?_) fun e s' hs=>hs;have fin:∀{σ':St} {H':Hp} {v:V} {u:Value},Inv (hU CX P w K mg base N qual scope f cdv A outer s H E) [] σ' H' s'->bD v u->Q v H'->CE outer P w H s Q u s':=
  fun {σ' H' v u} J rv q=>⟨v,H',J.os,J.bare,J.base,J.hok,rv,q⟩
 cases fl with
 |ret u=>
  obtain⟨v,σ',H',J,rv,q⟩:=hs;exact fin J rv q
 |next=>
  obtain⟨σ',H',J,q⟩:=hs;exact fin (v:=V.non) (u:=oA) J rfl q
 |brk=>
  obtain⟨_,_,_,q⟩:=hs;exact ij q
 |cont=>
  obtain⟨_,_,_,q⟩:=hs;exact ij q
variable {T:db}
section
variable {t:TA} {id:db} {r:ac V->Hp->VK->Prop}
noncomputable def tCB (r:ac V->Hp->VK->Prop) (t:TA):TE:=fun σ H Q=>t σ H fun vs H1=>r vs H1 Q
theorem vq (hc:eQ X (.builtin id) r) (hg:Gl X x) (hm:X.mg x=ab) (hv:lJ x=aa (.builtin id)) (ha:PA X (e::es) t) (hn:x≠"__name__":=by decide) (hdb:.(H)=ao:=by decide)
  (he:a7 (e::es) X.env=(ao,eval e X.env)::a7 es X.env:=by rfl) (hpl:(cE pos (a7 es X.env)).any (·.1)=ao:=by rfl):PE X (.Call (.Name x p) (e::es) [] pos) (tCB r t):=by
 intro pins s σ H Q I h;refine yn (n8 I hg hm hv ?_ hn hdb);exact R9 (thn (ha pos pins s σ H _ I h) fun us s1 ⟨vs,H1,I1,r1,q1⟩=>hc pins s1 σ H1 vs us Q I1 r1 q1) he hpl
theorem tX (hc:eQ X (.type T) r) (hg:Gl X x) (hm:X.mg x=ab) (hv:lJ x=aa (.type T)) (ha:PA X (e::es) t) (hn:x≠"__name__":=by decide) (hdb:.(H)=ao:=by decide)
  (he:a7 (e::es) X.env=(ao,eval e X.env)::a7 es X.env:=by rfl) (hpl:(cE pos (a7 es X.env)).any (·.1)=ao:=by rfl):PE X (.Call (.Name x p) (e::es) [] pos) (tCB r t):=by
 intro pins s σ H Q I h;refine yn (n8 I hg hm hv ?_ hn hdb);exact ye (thn (ha pos pins s σ H _ I h) fun us s1 ⟨vs,H1,I1,r1,q1⟩=>hc pins s1 σ H1 vs us Q I1 r1 q1) he hpl
end
variable {sl:av} {vl vu:Value} {hi:ar ag} {items:bP Value}
namespace HT
section
variable {E:Value->aG->Prop}
noncomputable def sIx (n d:al):ar ag->al
 |none=>d
 |some v=>if v<0 then (v+(n:ag)).toNat else min v.toNat n
theorem Oo (n d:al) (hd:d<=n) (o:ar ag):sIx n d o<=n:=by
 cases o with
 |none=>exact hd
 |some v=>
  show(if v<0 then (v+(n:ag)).toNat else min v.toNat n)<=n;by_cases hv:v<0
  .rw[qW hv];omega
  .rw[qX hv];exact Eg _ _
theorem BY (v:ag) (n d:al):(if v<0 then max (v+(n:ag)) 0 else min v (n:ag))=((sIx n d (aa v):al):ag):=by
 show(if v<0 then max (v+(n:ag)) 0 else min v (n:ag))=(((if v<0 then (v+(n:ag)).toNat else min v.toNat n):al):ag);by_cases hv:v<0
 .simp only[qW hv];omega
 .simp only[qX hv];omega
theorem Ji (lo hi:ar ag) (n:al):Eh lo hi 1 (n:ag)=(((sIx n 0 lo:al):ag),((sIx n n hi:al):ag)):=by
 have h1:¬((1:ag)<0):=by omega
 unfold Eh;simp only[h1,c6];refine Prod.ext ?_ ?_
 .cases lo with
  |none=>rfl
  |some v=>exact BY v n 0
 .cases hi with
  |none=>rfl
  |some v=>exact BY v n n
theorem Nt (i j:al):yq (i:ag) (j:ag) 1=j-i:=by
 unfold yq;have h1:(1:ag) > 0:=by omega
 simp only[h1,cu,Int.ediv_one];split<;>omega
theorem zv {v:Value} {o:ar ag} {Q:ar ag->aG->Prop} (p:m8 v o) (h:Q o s):aK .(L) A (R' v) Q E s:=by
 cases p with
 |none=>exact PQ h
 |int i t=>exact slicePart_int h
theorem IF {lo:ar ag} {Q:ag×ag×al->aG->Prop} (hs:s.heap.IsSliceOf sl vl vu .none) (pl:m8 vl lo) (pu:m8 vu hi)
  (h:Q (((sIx n 0 lo:al):ag),1,sIx n n hi-sIx n 0 lo) s):aK .(L) A (PR (.ref sl) (bA (n:ag))) Q E s:=by
 obtain⟨os,hos,hcs,hds⟩:=id hs;unfold PR Sa;refine qw (qw (Ei hos hds (x:=vl) rfl (qw (Ei hos hds (x:=vu) rfl (qw (Ei hos hds (x:=.none) rfl (qy ?_)))))));refine qw (PQ ?_);show aK _ _ (if ((1:ag)==0)=ai then _ else _) _ _ s;rw[qX .(h)];refine qw (zv pl (qw (zv pu (qw (qy ?_)))));show aK _ _ (match Eh lo hi 1 (n:ag) with|(lo,hi)=>bA (lo,(1:ag),yq lo hi 1)) _ _ s;rw[Ji lo hi n];show aK _ _ (bA (((sIx n 0 lo:al):ag),(1:ag),yq ((sIx n 0 lo:al):ag) ((sIx n n hi:al):ag) 1)) _ _ s;rw[Nt];exact qy h
theorem Ol (xs:bP Value) (i k:al):((cG k).filterMap fun(m:al)=>xs[((i:ag)+(m:ag)*1).toNat]?).toArray=((xs.toList.drop i).take k).toArray:=by
 have e:(fun(m:al)=>xs[((i:ag)+(m:ag)*1).toNat]?)=fun m=>xs[i+m]?:=by
  funext m
  have:((i:ag)+(m:ag)*1).toNat=i+m:=by omega
  rw[this]
 rw[e];have:=yr xs i k;rw[List.filterMap_map] at this;have e2:((fun x=>xs[x]?) ∘ fun x=>i+x)=fun m=>xs[i+m]?:=rfl;rw[e2] at this;rw[this]
theorem getItem_tuple_cut {t:av} {lo:ar ag} (ht:IsTup s.heap t items) (hs:s.heap.IsSliceOf sl vl vu .none) (pl:m8 vl lo) (pu:m8 vu hi)
  (hw:¬(sIx items.size 0 lo=0/\sIx items.size items.size hi=items.size))
  (h:Q (.ref s.heap.objs.size) {s with heap:=s.heap.push {cls:=.type "tuple",data:=.seq ((items.toList.drop (sIx items.size 0 lo)).take (sIx items.size items.size hi-sIx items.size 0 lo)).toArray} })
  (hsz:items.size<=aT):aK .(L) A (m9 (.ref t) (.ref sl)) Q E s:=by
 have htake:sizeOk (.seq ((items.toList.drop (sIx items.size 0 lo)).take (sIx items.size items.size hi-sIx items.size 0 lo)).toArray):=by show((items.toList.drop (sIx items.size 0 lo)).take (sIx items.size items.size hi-sIx items.size 0 lo)).toArray.size<=aT;rw[qz,qC,iQ,fV];omega
 have hj:sIx items.size items.size hi<=items.size:=Oo _ _ (qv _) hi;obtain⟨os,hos,hcs,hds⟩:=id hs;have hTs:s.TypeIs (.ref sl) "slice":=⟨os,hos,hcs⟩;unfold m9
 try with_reducible refine im ?_
 first|refine qw (qy ?_)|skip
 refine qw (wpAny_sequenceKey ht.typeIs .(h) ?_);refine qw (Ej (name:=yt "__getitem__") ht.typeIs Ek
  (rD Ek ht.typeIs entry_tuple_getitem ?_ (args_tuple_getitem _ _)))
 show aK _ _ (Sb (.ref t) >>= _) _ _ s;refine qw (tupleItemsOf_ ht ?_);refine qw (rE hTs ?_);rw[qW .(h)];refine qw (IF hs pl pu ?_);have hno:¬((((sIx items.size 0 lo:al):ag)==0 && (1:ag)==1 && (sIx items.size items.size hi-sIx items.size 0 lo)==items.size)=ai):=by intro q;rw[cS,cS] at q;have q1:((sIx items.size 0 lo:al):ag)=0:=eq_of_beq q.1.1;have q2:sIx items.size items.size hi-sIx items.size 0 lo=items.size:=eq_of_beq q.2;exact hw ⟨by omega,by omega⟩
 show aK _ _ (if (((sIx items.size 0 lo:al):ag)==0 && (1:ag)==1 && (sIx items.size items.size hi-sIx items.size 0 lo)==items.size)=ai then _ else _) _ _ s;rw[qX hno,Ol]
 first
  |exact qw (m:=yu _) (lL (qy ⟨_,rfl,qy h⟩) htake)
  |exact qw (m:=yu _) (lL (qw (qy (qy ⟨_,rfl,qy h⟩))) htake)
  |exact qw (qw (m:=yu _) (lL (qy (qy ⟨_,rfl,qy h⟩)) htake))
  |exact qw (qw (m:=yu _) (lL (qy ⟨_,rfl,qy h⟩) htake))
end
end HT
noncomputable abbrev TO:=St->Hp->(ar ag->Hp->Prop)->Prop
noncomputable def PO (X:Cx) (e:ar Expr) (t:TO):Prop:=
 ∀(pins:ac (av×a8)) (s:aG) (σ:St) (H:Hp) (Q:ar ag->Hp->Prop),Inv X pins σ H s->t σ H Q->
  aK .(r) X.A (evalPart e X.env) (fun u s'=>∃o H',Inv X pins σ H' s'/\m8 u o/\Q o H') X.xe s
noncomputable def M5:TO:=fun _ H Q=>Q ab H
noncomputable def Iq (t:TE):TO:=fun σ H Q=>t σ H fun x H1=>∃i,x=.int i/\Q (aa i) H1
theorem Jt {ns:ac ag} :∀{us:ac Value},bH (ns.map V.int) us->jM us ns:=by
 induction ns with
 |nil=>intro us r;rw[qM] at r;cases r;exact .nil
 |cons n ns ih=>
  intro us r;rw[qm] at r;cases r with
  |cons r1 r2=>
   obtain⟨t,e⟩:=r1;subst e;exact .cons n t (ih r2)
variable {p2:dn}
section
variable {lo hi:ar Expr} {tl th:TO}
theorem MM:PO X ab M5:=by intro pins s σ H Q I h;rw[evalPart_none];exact qy ⟨ab,H,I,.none,h⟩
theorem FF (h:PE X e te):PO X (aa e) (Iq te):=by intro pins s σ H Q I hw;rw[evalPart_some];refine thn (h pins s σ H _ I hw) fun u s1 ⟨x,H1,I1,r1,q1⟩=>?_;obtain⟨i,rfl,q⟩:=q1;obtain⟨t,rfl⟩:=r1;exact⟨aa i,H1,I1,.int i t,q⟩
noncomputable def SlR (X:Cx) (r:V->ar ag->ar ag->Hp->VK->Prop):Prop:=
 ∀(pins:ac (av×a8)) (s:aG) (σ:St) (H:Hp) (x:V) (v vl vu:Value) (lo hi:ar ag) (sl:av) (Q:VK),Inv X pins σ H s->bD x v->s.heap.IsSliceOf sl vl vu .none->m8 vl lo->m8 vu hi->r x lo hi H Q->
  ∃T id,uJ (.type T) "__getitem__"=bA (aa (.builtin id))/\s.TypeIs v T/\aK .(r) X.A (m9 v (.ref sl)) (EP X pins σ Q) X.xe s
theorem SlR.or {r r':V->ar ag->ar ag->Hp->VK->Prop} (h:SlR X r) (h':SlR X r'):SlR X (fun x lo hi H Q=>r x lo hi H Q\/r' x lo hi H Q):=by
 intro pins s σ H x v vl vu lo hi sl Q I rx hs pl pu q;rcases q with q|q
 .exact h pins s σ H x v vl vu lo hi sl Q I rx hs pl pu q
 .exact h' pins s σ H x v vl vu lo hi sl Q I rx hs pl pu q
noncomputable def tSl (r:V->ar ag->ar ag->Hp->VK->Prop) (te:TE) (tl th:TO):TE:=fun σ H Q=>te σ H fun x H1=>tl σ H1 fun l H2=>th σ H2 fun u H3=>r x l u H3 Q
theorem Js {r:V->ar ag->ar ag->Hp->VK->Prop} (hr:SlR X r) (he:PE X e te) (hl:PO X lo tl) (hu:PO X hi th):PE X (.Subscript e (.Slice lo hi ab p2) pos) (tSl r te tl th):=by intro pins s σ H Q I h;refine El (thn (he pins s σ H _ I h) fun v s1 ⟨x,H1,I1,r1,q1⟩=>?_);refine wpAny_Slice (thn (hl pins s1 σ H1 _ I1 q1) fun vl s2 ⟨l,H2,I2,pl,q2⟩=>thn (hu pins s2 σ H2 _ I2 q2) fun vu s3 ⟨u,H3,I3,pu,q3⟩=>?_);rw[evalPart_none];refine qy ?_;have I4:Inv X pins σ H3 {s3 with heap:=s3.heap.push {cls:=.type "slice",data:=.fields #[vl,vu,.none]} }:=I3.kept (t':=s3.toks) fun b ob q=>qt _ q;obtain⟨T,id,hT,ht,hg⟩:=hr pins {s3 with heap:=s3.heap.push {cls:=.type "slice",data:=.fields #[vl,vu,.none]} } σ H3 x v vl vu l u s3.heap.objs.size Q I4 r1 (Sc ..) pl pu q3;show aK .(r) X.A (Em e (.Slice lo hi ab p2) v (.ref s3.heap.objs.size)) (EP X pins σ Q) X.xe {s3 with heap:=s3.heap.push {cls:=.type "slice",data:=.fields #[vl,vu,.none]} };exact tail_any (ops:=[.ref s3.heap.objs.size,v]) ht hT hg (by with_unfolding_all rfl)
noncomputable def kW (xs:ac V) (lo hi:ar ag):ac V:=(xs.drop (HT.sIx xs.length 0 lo)).take (HT.sIx xs.length xs.length hi-HT.sIx xs.length 0 lo)
theorem Bc (xs:ac V) (lo hi:ar ag):(kW xs lo hi).length<=xs.length:=by unfold kW;rw[qC,iQ];omega
noncomputable def F3 (K:bh):V->ar ag->ar ag->Hp->VK->Prop:=fun x lo hi H Q=>∃a xs,x=.ref a/\SqT K H a xs /\
 ¬(HT.sIx xs.length 0 lo=0/\HT.sIx xs.length xs.length hi=xs.length)/\∀p,H p=ab->Q (.ref p) (upd H p (.tup (kW xs lo hi)))
theorem Jg:SlR X (F3 X.K):=by
 intro pins s σ H x v vl vu lo hi sl Q I rx hs pl pu h;obtain⟨a,xs,rfl,hx,hw,q⟩:=h;cases rx;obtain⟨its,r,ht,hz⟩:=I.tuple hx;have hlen:its.toArray.size=xs.length:=by rw[qz];exact r.length.symm
 refine⟨"tuple",_,Ek.lookup,ht.typeIs,?_⟩;refine HT.getItem_tuple_cut ht hs pl pu (by rw[hlen];exact hw) ?_ (by rw[hlen];exact hz);rw[hlen];refine⟨.ref s.heap.objs.size,_,I.laid (t':=s.toks) (o:=.tup (kW xs lo hi)) (fun b ob q=>qt _ q) (qv _) ?_,rfl,q _ (I.hok.fresh (qv _))⟩;exact⟨qK (Bc xs lo hi) hz,_,(r.drop (HT.sIx xs.length 0 lo)).take (HT.sIx xs.length xs.length hi-HT.sIx xs.length 0 lo),D4 _ _⟩
end
noncomputable def ixN (n:al) (i:ag):ar al:=if 0<=i then (if i<n then aa i.toNat else ab) else if -(n:ag)<=i then aa (i+n).toNat else ab
noncomputable def atI (xs:ac α) (i:ag):ar α:=(ixN xs.length i).bind fun j=>xs[j]?
theorem JK {i:ag} (h:ixN n i=aa j):seqIndex? i n=aa j/\j<n /\ -(n:ag)<=i/\i<n:=by
 unfold ixN at h;by_cases h0:0<=i
 .rw[qW h0] at h;by_cases h1:i<n
  .rw[qW h1] at h;have e:i.toNat=j:=qF h;exact⟨by rw[seqIndex_of h0 h1,e],by omega,by omega,h1⟩
  .rw[qX h1] at h;cases h
 .rw[qX h0] at h;by_cases h1 : -(n:ag)<=i
  .rw[qW h1] at h;have e:(i+n).toNat=j:=qF h;exact⟨by rw[seqIndex_neg .(e) h1,e],by omega,h1,by omega⟩
  .rw[qX h1] at h;cases h
theorem wv {xs:ac α} {i:ag} {v:α} (h:atI xs i=aa v):∃j,seqIndex? i xs.length=aa j/\xs[j]?=aa v/\j<xs.length /\ -(xs.length:ag)<=i/\i<xs.length:=by
 unfold atI at h;cases e:ixN xs.length i with
 |none=>rw[e] at h;cases h
 |some j=>
  rw[e] at h;obtain⟨h1,h2,h3,h4⟩:=JK e;exact⟨j,h1,h,h2,h3,h4⟩
theorem li {xs:ac α} {v:α} (h:xs[j]?=aa v):atI xs (j:ag)=aa v:=by
 have hj:j<xs.length:=(cY.mp h).1;have e:ixN xs.length (j:ag)=aa j:=by unfold ixN;rw[qW .(e),qW .(e)];simp
 unfold atI;rw[e];exact h
noncomputable def CH (b:Expr):Prop:=∀o i,yv b ao o i=operate [o,i] (m9 o i)
noncomputable def IxR (X:Cx) (r:R2):Prop:=
 ∀(value slice:Expr) (pins:ac (av×a8)) (s:aG) (σ:St) (H:Hp) (x y:V) (v u:Value) (Q:VK),Inv X pins σ H s->bD x v->bD y u->r x y H Q->
  yv slice ao v u=operate [v,u] (m9 v u)->aK .(r) X.A (Em value slice v u) (EP X pins σ Q) X.xe s
noncomputable def MtR (X:Cx) (id:db) (r:V->ac V->Hp->VK->Prop):Prop:=
 ∀(pins:ac (av×a8)) (s:aG) (σ:St) (H:Hp) (x:V) (xs:ac V) (v:Value) (us:ac Value) (Q:VK),Inv X pins σ H s->bD x v->bH xs us->r x xs H Q->
  aK .(r) X.A (call (.builtin id) (v::us)) (EP X pins σ Q) X.xe s
variable {to:TE} {cpos:dn}
section
variable {a:Expr} {tb:TE}
theorem IxR.or (h:IxR X r) (h':IxR X r'):IxR X (fun x y H Q=>r x y H Q\/r' x y H Q):=by
 intro value slice pins s σ H x y v u Q I rx ry q hs;rcases q with q|q
 .exact h value slice pins s σ H x y v u Q I rx ry q hs
 .exact h' value slice pins s σ H x y v u Q I rx ry q hs
theorem OF (hr:IxR X r) (ha:PE X a ta) (hb:PE X b tb) (hs:CH b):PE X (.Subscript a b pos) (tOp r ta tb):=by intro pins s σ H Q I h;exact El (wc ha hb I h fun v u s2 x y H2 I2 rx ry q=>hr a b pins s2 σ H2 x y v u Q I2 rx ry q (hs _ _))
noncomputable def Az (K:bh):R2:=fun x y H Q=>∃p xs i v,x=.ref p/\y=.int i/\SqL K H p xs/\atI xs i=aa v/\Q v H
noncomputable def BB (K:bh):R2:=fun x y H Q=>∃p xs i v,x=.ref p/\y=.int i/\SqT K H p xs/\atI xs i=aa v/\Q v H
noncomputable def zK:R2:=fun x y H Q=>∃z i c,x=.str z/\y=.int i/\z.length<=aT/\atI z.cps.toList i=aa c/\Q (.str ⟨#[c]⟩) H
theorem KY:IxR X (Az X.K):=by
 intro value slice pins s σ H x y v u Q I rx ry h hs;obtain⟨p,xs,i,z,rfl,rfl,hq,he,q⟩:=h;cases rx;obtain⟨t,rfl⟩:=ry;obtain⟨its,r,pl,hz⟩:=I.list hq;obtain⟨j,h1,h2,h3,h4,h5⟩:=wv he;obtain⟨w,ew,rw'⟩:=r.get h2;have hl:=r.length;have hn:=uj;have fin:EP X pins σ Q w s:=⟨z,H,I,rw',q⟩;by_cases h0:0<=i
 .have hj:i.toNat=j:=by rw[seqIndex_of h0 h5] at h1;exact qF h1
  exact item_listR pl.isList h0 .(e) (by rw[hj];simpa using ew) fin hs
 .have hj:(i+(its.toArray.size:ag)).toNat=j:=by rw[seqIndex_neg .(e) h4] at h1;rw[qz,←hl];exact qF h1
  exact PU (x:=w) pl.isList.typeIs PV.lookup
   (wpAny_getItem_list_neg (Q:=fun r s'=>r=w/\EP X pins σ Q r s') pl.isList .(e) (by rw[qz]<;>omega) .(e) (by rw[hj];simpa using ew) ⟨rfl,fin⟩) hs
theorem Fc:IxR X (BB X.K):=by
 intro value slice pins s σ H x y v u Q I rx ry h hs;obtain⟨p,xs,i,z,rfl,rfl,hq,he,q⟩:=h;cases rx;obtain⟨t,rfl⟩:=ry;obtain⟨its,r,pl,hz⟩:=I.tuple hq;obtain⟨j,h1,h2,h3,h4,h5⟩:=wv he;obtain⟨w,ew,rw'⟩:=r.get h2;have hl:=r.length;have hn:=uj;have fin:EP X pins σ Q w s:=⟨z,H,I,rw',q⟩;exact PU (x:=w) pl.typeIs slot_tuple_getitem.lookup
  (getItem_tuple (j:=j) (Q:=fun r s'=>r=w/\EP X pins σ Q r s') pl .(e) .(e) (by rw[qz,←hl];exact h1) (by simpa using ew) ⟨rfl,fin⟩) hs
theorem Fs:IxR X zK:=by
 intro value slice pins s σ H x y v u Q I rx ry h hs;obtain⟨z,i,c,rfl,rfl,hz,he,q⟩:=h;obtain⟨t,rfl⟩:=rx;obtain⟨t',rfl⟩:=ry;obtain⟨j,h1,h2,h3,h4,h5⟩:=wv he;have hl:z.cps.toList.length=z.length:=by simp[rF]
 rw[hl] at h1 h4 h5;have hn:=uj;exact tail_any (uK s z t) slot_str_getitem.lookup (getItem_str (c:=c) (by have e1:decide (i < -(2 ^ 63:ag))=ao:=qL .(e);have e2:decide (i ≥ 2 ^ 63)=ao:=qL .(e);rw[e1,e2,rG]) (by rw[h1];simpa using h2) ⟨.str ⟨#[c]⟩,H,I.tok _,⟨_,rfl⟩,q⟩) hs
noncomputable def rIx (K:bh):R2:=fun x y H Q=>Az K x y H Q\/BB K x y H Q\/zK x y H Q
theorem Lw:IxR X (rIx X.K):=KY.or (Fc.or Fs)
theorem Inv.lst {p:av} {xs:ac V} (I:Inv X pins σ H s) (h:H p=aa (.lst xs)) :
  ∃(its:ac Value) (n:al),bH xs its/\s.heap.get? p=aa {cls:=.type "list",data:=.seq its.toArray n}/\xs.length<=aT:=by
 obtain⟨z,its,n,r,e⟩:=I.hok p _ h;exact⟨its,n,r,e,z⟩
theorem Gz (lo hi:ar ag) (n:al):(oH lo hi ab n).1=((HT.sIx n 0 lo:al):ag)/\(oH lo hi ab n).2.1=((HT.sIx n n hi:al):ag)/\(oH lo hi ab n).2.2=1:=by
 refine⟨?_,?_,rfl⟩
 .cases lo with
  |none=>simp[oH,HT.sIx]
  |some i=>
   simp only[oH,HT.sIx,PX,show(1:ag) > 0 by decide,cu];by_cases h:i<0
   .simp only[h,cu]<;>omega
   .simp only[h,c6]<;>omega
 .cases hi with
  |none=>simp[oH,HT.sIx]
  |some i=>
   simp only[oH,HT.sIx,PX,show(1:ag) > 0 by decide,cu];by_cases h:i<0
   .simp only[h,cu]<;>omega
   .simp only[h,c6]<;>omega
theorem Pc (its:ac Value) (lo hi:ar ag):slicePick its.toArray lo hi ab=((its.drop (HT.sIx its.length 0 lo)).take (HT.sIx its.length its.length hi-HT.sIx its.length 0 lo)).toArray:=by obtain⟨h1,h2,h3⟩:=Gz lo hi its.toArray.size;unfold slicePick;rw[h1,h2,h3];simp only[PY,yr,qz]<;>rfl
noncomputable def LK (K:bh):V->ar ag->ar ag->Hp->VK->Prop:=fun x lo hi H Q=>∃a xs,x=.ref a/\SqL K H a xs/\∀p,H p=ab->Q (.ref p) (upd H p (.lst (kW xs lo hi)))
theorem N0:SlR X (LK X.K):=by intro pins s σ H x v vl vu lo hi sl Q I rx hs pl pu h;obtain⟨a,xs,rfl,hx,q⟩:=h;cases rx;obtain⟨its,r,ht,hz⟩:=I.list hx;have hlen:=r.length;refine⟨"list",_,PV.lookup,ht.isList.typeIs,?_⟩;refine wpAny_getItem_list_slice ht.isList hs pl pu .none (by simp) ?_ (by rw[qz]<;>omega);rw[Pc,←hlen];refine⟨.ref s.heap.objs.size,_,I.laid (t':=s.toks) (o:=.lst (kW xs lo hi)) (fun b ob q=>qt _ q) (qv _) ?_,rfl,q _ (I.hok.fresh (qv _))⟩;exact⟨qK (Bc xs lo hi) hz,_,0,(r.drop (HT.sIx xs.length 0 lo)).take (HT.sIx xs.length xs.length hi-HT.sIx xs.length 0 lo),qE _ rfl⟩
theorem Kl:eQ X (.type "tuple") (fun xs H Q=>∃p ys,xs=[.ref p]/\((SqL X.K H p ys/\∀l,H l=ab->Q (.ref l) (upd H l (.tup ys)))\/(SqT X.K H p ys/\Q (.ref p) H))):=by
 intro pins s σ H xs us Q I r h;obtain⟨p,ys,rfl,h⟩:=h;obtain⟨u,rfl,rx⟩:=fu r;cases rx;rcases h with⟨hq,q⟩|⟨hq,q⟩
 .obtain⟨its,r',pl,hz⟩:=I.list hq;have hlen:=r'.length;refine call_tuple_list pl.isList (fun h' kp=>?_) (by simp only[qz]<;>omega);have I1:Inv X pins σ H {s with heap:=h'}:=I.kept (t':=s.toks) kp;have I2:Inv X pins σ (upd H h'.objs.size (.tup ys)) {s with heap:=h'.push {cls:=.type "tuple",data:=.seq its.toArray} } :=
   I1.laid (t':=s.toks) (fun b o e=>qt _ e) (qv _) (show cV X.prog X.w _ _ _ (.tup ys) from⟨hz,its,r',D4 _ _⟩)
  exact⟨.ref h'.objs.size,_,I2,rfl,q _ (I1.hok.fresh (qv _))⟩
 .obtain⟨its,r',pl,hz⟩:=I.tuple hq;exact call_tuple_same pl ⟨.ref p,H,I,rfl,q⟩
noncomputable def tyV (K:bh) (T:db) (x:V) (H:Hp):Prop:=match x with
 |.str _=>T="str"
 |.int _=>T="int"
 |.ref p=>(T="list"/\∃xs,SqL K H p xs)\/(T="tuple"/\∃o,K.lookup p=aa o/\o.cls=.type "tuple"/\o.dict=ab) \/
   (T="dict"/\((∃kvs,H p=aa (.dK kvs))\/∃kvs,H p=aa (.dT kvs)))\/(T="set"/\∃S n,H p=aa (.set S n))
 |_=>False
theorem Fe {x:V} {v:Value} (I:Inv X pins σ H s) (r:bD x v) (ty:tyV X.K T x H) :
  s.TypeIs v T/\∀a,v=.ref a->∃ob,s.heap.get? a=aa ob/\ob.dict=ab:=by
 cases x with
 |str z=>
  obtain⟨t,rfl⟩:=r;cases(show T="str" from ty);exact⟨uK s z t,fun _ e=>nomatch e⟩
 |int i=>
  obtain⟨t,rfl⟩:=r;cases(show T="int" from ty);exact⟨En s i t,fun _ e=>nomatch e⟩
 |ref p=>
  cases r;rcases ty with⟨rfl,xs,hq⟩|⟨rfl,o,hk,hc,hd⟩|⟨rfl,hk⟩|⟨rfl,S,n,hk⟩
  .obtain⟨its,_,pl,_⟩:=I.list hq;refine⟨pl.isList.typeIs,fun a e=>?_⟩;cases e;obtain⟨o,n,e,c,hd,_⟩:=pl;exact⟨o,e,hd⟩
  .refine⟨⟨o,I.kIn p o hk,hc⟩,fun a e=>?_⟩;cases e;exact⟨o,I.kIn _ o hk,hd⟩
  .have z:∃o,s.heap.get? p=aa o/\o.ExactDict:=by
    rcases hk with⟨kvs,hk⟩|⟨kvs,hk⟩
    .obtain⟨_,_,_,_,o,_,_,e,ex,_⟩:=I.hok p _ hk;exact⟨o,e,ex⟩
    .obtain⟨_,_,_,_,o,_,_,e,ex,_⟩:=I.hok p _ hk;exact⟨o,e,ex⟩
   obtain⟨o,e,ex⟩:=z;refine⟨⟨o,e,ex.1⟩,fun a e2=>?_⟩;cases e2;exact⟨o,e,ex.2.1⟩
  .obtain⟨o,_,_,_,e,ex,_⟩:=I.hok p _ hk;refine⟨⟨o,e,ex.1⟩,fun a e2=>?_⟩;cases e2;exact⟨o,e,ex.2.1⟩
 |_=>exact ij ty
noncomputable def tBM (K:bh) (T:db) (r:V->ac V->Hp->VK->Prop) (to:TE) (t:TA):TE:=fun σ H Q=>to σ H fun x H1=>tyV K T x H1/\t σ H1 fun xs H2=>r x xs H2 Q
variable {t:TA} {id:db} {r:V->ac V->Hp->VK->Prop}
theorem vE (pa:PlainAttrs T) (slot:Slot T name id) (hty:typeOf (.builtin id)=bA (.type "method_descriptor")) (hm:MtR X id r) (ho:PE X o to) (ha:PA X (e::es) t)
  (hbase:jK o name X.env (eval o X.env)=eval o X.env:=by rfl)
  (hfew:((cE cpos (a7 (e::es) X.env)).all (fun x=>!x.1) && (iO cpos (iP [] X.env)).all (fun x=>x.1.isSome)
   && decide ((e::es).length+([]:ac iR).length+(if ([]:ac iR).isEmpty then 0 else 1)<30))=ai:=by rfl)
  (hline:(apos.endLine==cpos.line)=ai:=by rfl) (hs:a7 (e::es) X.env=(ao,eval e X.env)::a7 es X.env:=by rfl) (hplain:(cE cpos (a7 es X.env)).any (·.1)=ao:=by rfl) :
  PE X (.Call (.Attribute o name apos) (e::es) [] cpos) (tBM X.K T r to t):=by
 intro pins s σ H Q I h;refine wpAny_Call_method_late hbase hfew hline rfl (thn (ho pins s σ H _ I h) fun v s1 ⟨x,H1,I1,r1,ty,q1⟩=>?_);obtain⟨h1,h2⟩:=Fe I1 r1 ty;refine⟨T,id,pa,slot,hty,h1,h2,?_⟩;have hA:=ha cpos pins s1 σ H1 _ I1 q1;rw[hs] at hA ⊢;refine Eo (by show(ao || (cE cpos (a7 es X.env)).any (·.1))=ao;rw[hplain]<;>rfl) (Ep ?_);exact thn hA fun us s2 ⟨vs,H2,I2,r2,q2⟩=>hm pins s2 σ H2 x vs v us Q I2 r1 r2 q2
end
noncomputable def MtM (X:Cx) (id:db) (r:V->ac V->Hp->VK->Prop):Prop:=
 ∀(pins:ac (av×a8)) (s:aG) (σ:St) (H:Hp) (x:V) (xs:ac V) (v:Value) (us:ac Value) (Q:VK),Inv X pins σ H s->bD x v->bH xs us->r x xs H Q->
  aK .(r) X.A (call (.builtin id) (v::us)) (EP X pins σ Q) X.xe s
theorem bH.one:∀{x:V} {us:ac Value},bH [x] us->∃u,us=[u]/\bD x u
 |_,_,.cons r .nil=>⟨_,rfl,r⟩
theorem bH.rep {xs:ac V} {us:ac Value} (h:bH xs us):∀k:al,bH (b9 k xs).flatten (b9 k us).flatten
 |0=>.nil
 |k+1=>by rw[lR,lR,oI,oI];exact bH.append h (bH.rep h k)
theorem CK (its:ac Value):∀(k:al) (acc:ac Value),
  Er (fun x1 x2=>x1++x2) acc.toArray (b9 k its.toArray)=(acc++(b9 k its).flatten).toArray
 |0,acc=>by simp
 |k+1,acc=>by
  have e:acc.toArray++its.toArray=(acc++its).toArray:=by simp
  have e2:(acc++its)++(b9 k its).flatten=acc++(b9 (k+1) its).flatten:=by rw[lR,oI,rH]
  rw[←e2,←CK its k (acc++its),←e,lR,iS]
variable {its:ac Value}
section
variable {l b:av} {xs zs:ac V}
theorem Inv.lset {its':ac Value} {f:bP Value->bP Value} (I:Inv X pins σ H s) (hH:H l=aa (.lst xs))
  (e:s.heap.get? l=aa {cls:=.type "list",data:=.seq its.toArray n}) (hf:f its.toArray=its'.toArray) (hv:bH ys its') (hz:ys.length<=aT) :
  Inv X pins σ (upd H l (.lst ys)) {s with heap:=s.heap.update l (PZ f),toks:=t'}:=by
 have q:=PySem.IsL.update e f;rw[hf] at q;refine I.write (x:=l) (e:=l) (by rw[hH];exact trivial) (.inl rfl) (fun b' u hb hu=>(Heap.get?_update_other s.heap (PZ f) (df hb)).trans hu) ⟨_,q⟩ ?_;exact⟨hz,its',_,hv,q⟩
theorem Inv.lnew (I:Inv X pins σ H s) (hv:bH ys its) (hz:ys.length<=aT) :
  Inv X pins σ (upd H s.heap.objs.size (.lst ys)) {s with heap:=s.heap.push {cls:=.type "list",data:=.seq its.toArray},toks:=t'} :=
 I.laid (fun _ _ q=>qt _ q) (qv _) ⟨hz,its,0,hv,qE _ rfl⟩
theorem Inv.fresh (I:Inv X pins σ H s):H s.heap.objs.size=ab:=I.hok.fresh (qv _)
theorem Inv.lstM (I:Inv X pins σ H s) (hH:H l=aa (.lst xs)):xs.length<=aT/\∃(its:ac Value) (n:al),bH xs its/\xs.length=its.length/\s.heap.get? l=aa {cls:=.type "list",data:=.seq its.toArray n}:=by obtain⟨z,its,n,r,e⟩:=I.hok l _ hH;exact⟨z,its,n,r,r.length,e⟩
theorem BG (h:n<=aT):yw n=ao:=by unfold yw;exact qL .(e)
end
noncomputable def IT:V->ac V->Hp->VK->Prop:=fun x vs H Q=>∃l xs y,x=.ref l/\vs=[y]/\H l=aa (.lst xs)/\xs.length<aT/\Q .non (upd H l (.lst (xs++[y])))
theorem Ct:MtM X "list.append" IT:=by intro pins s σ H x vs v us Q I rx rv h;obtain⟨l,xs,y,rfl,rfl,hH,hz,q⟩:=h;cases rx;obtain⟨u,rfl,ru⟩:=rv.one;obtain⟨z,its,n,r,hl,e⟩:=I.lstM hH;refine uL P0 ⟨_,e,rfl⟩ F.entry_list_append (F.args_list_append_2 _ _) (PySem.list_append l its.toArray n u (by rw[qz];omega)) ⟨e,?_⟩;refine⟨.non,_,I.lset (its':=its++[u]) hH e (by simp) (r.append (.cons ru .nil)) ?_,rfl,q⟩;rw[qj,qT];omega
noncomputable def Ix:V->ac V->Hp->VK->Prop:=fun x vs H Q=>∃l b xs zs,x=.ref l/\vs=[.ref b]/\H l=aa (.lst xs)/\H b=aa (.lst zs)/\xs.length+zs.length<=aT/\Q .non (upd H l (.lst (xs++zs)))
theorem OR:MtM X "list.extend" Ix:=by
 intro pins s σ H x vs v us Q I rx rv h;obtain⟨l,b,xs,zs,rfl,rfl,hH,hB,hz,q⟩:=h;cases rx;obtain⟨u,rfl,ru⟩:=rv.one;cases ru;obtain⟨z,its,n,r,hl,e⟩:=I.lstM hH;obtain⟨z2,its2,n2,r2,hl2,e2⟩:=I.lstM hB;have hsz:its.toArray.size+its2.toArray.size<=aT:=by rw[qz,qz];omega
 have hlong:¬(!its.toArray.isEmpty && yw (its.toArray.size+its2.toArray.size))=ai:=by rw[BG hsz,Es];exact qr
 refine uL P1 ⟨_,e,rfl⟩ F.entry_list_extend (F.args_list_extend_2 _ _)
  (AutoSeq1.list_extend_list_list_0 l its.toArray n b its2.toArray n2 hlong (by rw[qz];omega) .(e)) ⟨e,e2,?_⟩
 refine⟨.non,_,I.lset (its':=its++its2) hH e (by simp) (r.append r2) ?_,rfl,q⟩;rw[qj];omega
noncomputable def wa:R2:=fun x y H Q=>∃l b xs zs,x=.ref l/\y=.ref b/\H l=aa (.lst xs)/\H b=aa (.lst zs)/\xs.length+zs.length<=aT/\∀p,H p=ab->Q (.ref p) (upd H p (.lst (xs++zs)))
theorem MT:OpR X (iM .Add) wa:=by
 intro pins s σ H x y v u Q I rx ry h;obtain⟨l,b,xs,zs,rfl,rfl,hH,hB,hz,q⟩:=h;cases rx;cases ry;obtain⟨z,its,n,r,hl,e⟩:=I.lstM hH;obtain⟨z2,its2,n2,r2,hl2,e2⟩:=I.lstM hB;refine PySem.P.add_list e e2 ?_ (by rw[qz,qz];omega);have ea:its.toArray++its2.toArray=(its++its2).toArray:=by simp
 rw[ea];exact⟨.ref _,_,I.lnew (t':=s.toks) (r.append r2) (by rw[qj];omega),rfl,q _ I.fresh⟩
noncomputable def CI:R2:=fun x y H Q=>∃l k xs,x=.ref l/\y=.int k/\H l=aa (.lst xs) /\ -(2 ^ 63)<=k/\k<2 ^ 63/\xs.length*k.toNat<=aT /\
 ∀p,H p=ab->Q (.ref p) (upd H p (.lst (b9 k.toNat xs).flatten))
theorem B8 (xs:ac α) (k:al):(b9 k xs).flatten.length=k*xs.length:=by
 induction k with
 |zero=>simp
 |succ k ih=>rw[lR,oI,qj,ih,yx,Nat.add_comm]
theorem N7:OpR X (iM .Mult) CI:=by
 intro pins s σ H x y v u Q I rx ry h;obtain⟨l,k,xs,rfl,rfl,hH,h1,h2,hz,q⟩:=h;cases rx;obtain⟨t,rfl⟩:=ry;obtain⟨z,its,n,r,hl,e⟩:=I.lstM hH;have hlen:its.toArray.size*k.toNat<=aT:=by rw[qz,←hl];exact hz
 have hcap:¬its.toArray.size*k.toNat > (2 ^ 63-1) / 8:=by
  have:(aT:al)<=(2 ^ 63-1) / 8:=by decide
  omega
 have hfit:¬(!Sd k)=ai:=by rw[fitsIndex_both h1 h2];exact qr
 have hlong:¬yw (its.toArray.size*k.toNat)=ai:=by rw[BG hlen];exact qr
 have hnew:Er (fun x1 x2=>x1++x2) #[] (b9 (if its.toArray.isEmpty=ai then 0 else k.toNat) its.toArray)=(b9 k.toNat its).flatten.toArray:=by
  have f0:∀m:al,Er (fun x1 x2=>x1++x2) #[] (b9 m its.toArray)=(b9 m its).flatten.toArray:=fun m=>by have:=CK its m [];rw[qP] at this;exact this
  rw[f0];cases its with
  |nil=>simp
  |cons a r'=>rw[qX (by simp)]
 refine wpAny_binaryOp_repeat_ref (T:="list") (U:="int") .(h) ⟨_,e,rfl⟩ (fun s'=>En s' k t) noFill_list_mul F.fills_int_mul P2 repeat_list F.slot_int_index.lookup
  (uL P2 (En s k t) F.entry_int_rmul (F.args_int_rmul_2 _ _) (int___rmul___int_list k t l its.toArray n)
   ⟨e,rfl,⟨_,e,rfl⟩,uL F.slot_list_mul ⟨_,e,rfl⟩ F.entry_list_mul (F.args_list_mul_2 _ _) (AutoListH.list___mul___list_int_3 l its.toArray n k t hfit hcap hlong) ⟨e,?_⟩⟩)
 rw[hnew];exact⟨.ref _,_,I.lnew (t':=s.toks) (r.rep k.toNat) (by rw[B8,P3];exact hz),rfl,q _ I.fresh⟩
section
variable [eE κ]
noncomputable def gy (kvs:ac (κ×V)) (k:κ):ar V:=(kvs.find? fun kv=>decide (kv.1=k)).map (·.2)
noncomputable def dM (kvs:ac (κ×V)) (k:κ) (v:V):ac (κ×V):=
 if (kvs.any fun kv=>decide (kv.1=k))=ai then kvs.map (fun kv=>if kv.1=k then (kv.1,v) else kv) else kvs++[(k,v)]
theorem tt {p:κ×V} {r:ac (κ×V)} {k:κ} (e:p.1=k):gy (p::r) k=aa p.2:=by simp[gy,dL,e]
theorem tG {p:κ×V} {r:ac (κ×V)} {k:κ} (e:¬p.1=k):gy (p::r) k=gy r k:=by simp[gy,dL,e]
theorem zN (k:κ):∀kvs:ac (κ×V),(kvs.any fun kv=>decide (kv.1=k))=(gy kvs k).isSome
 |[]=>rfl
 |p::r=>by
  rw[kG];by_cases e:p.1=k
  .simp only[tt e,qQ e,Bool.true_or,Option.isSome_some]
  .rw[tG e,qL e,Et];exact zN k r
theorem Co (kvs:ac (κ×V)) (k:κ) (v:V):(dM kvs k v).length<=kvs.length+1:=by
 unfold dM;split
 .rw[qf];omega
 .rw[qj,qi,ql];omega
theorem fm.isSome_eq {o:ar V} {u:ar Value} (r:fm o u):o.isSome=u.isSome:=by
 cases o with
 |none=>cases u with
  |none=>rfl
  |some _=>exact(show False from r).elim
 |some _=>cases u with
  |none=>exact(show False from r).elim
  |some _=>rfl
theorem fm.getD {o:ar V} {u:ar Value} {d:V} {d':Value} (r:fm o u) (rd:bD d d'):bD (o.getD d) (u.getD d'):=by
 cases o with
 |none=>cases u with
  |none=>exact rd
  |some _=>exact(show False from r).elim
 |some _=>cases u with
  |none=>exact(show False from r).elim
  |some _=>exact r
theorem KV.val {kvs:ac (κ×V)} {vs:ac (κ×Value)} (r:KV kvs vs) (k:κ):fm (gy kvs k) (oJ vs k):=by
 unfold KV at r
 induction r with
 |nil=>exact jJ
 | @cons p q ps qs h t ih=>
  obtain⟨h1,h2⟩:=h;by_cases e:p.1=k
  .have e':q.1=k:=h1.symm.trans e;have b:oJ (q::qs) k=aa q.2:=by simp[oJ,dL,e']
   rw[tt e,b];exact h2
  .have e':¬q.1=k:=fun z=>e (h1.trans z);have b:oJ (q::qs) k=oJ qs k:=by simp[oJ,dL,e']
   rw[tG e,b];exact ih
theorem KV.any {kvs:ac (κ×V)} {vs:ac (κ×Value)} (r:KV kvs vs) (k:κ):(kvs.any fun kv=>decide (kv.1=k))=vs.any fun kv=>decide (kv.1=k):=by
 unfold KV at r
 induction r with
 |nil=>rfl
 |cons h t ih=>rw[kG,kG,ih,h.1]
theorem KV.repl {kvs:ac (κ×V)} {vs:ac (κ×Value)} (r:KV kvs vs) (k:κ) {y:V} (ry:bD y u) :
  KV (kvs.map fun kv=>if kv.1=k then (kv.1,y) else kv) (vs.map fun kv=>if kv.1=k then (kv.1,u) else kv):=by
 unfold KV at r ⊢
 induction r with
 |nil=>exact .nil
 | @cons p q ps qs h t ih=>
  rw[qm,qm];refine .cons ?_ ih;obtain⟨h1,h2⟩:=h;by_cases e:p.1=k
  .rw[qW e,qW (h1.symm.trans e)];exact⟨h1,ry⟩
  .rw[qX e,qX (fun z=>e (h1.trans z))];exact⟨h1,h2⟩
theorem KV.put {kvs:ac (κ×V)} {vs:ac (κ×Value)} (r:KV kvs vs) (k:κ) {y:V} (ry:bD y u):KV (dM kvs k y) (stored vs k u):=by
 unfold dM stored;rw[r.any k];by_cases e:(vs.any fun kv=>decide (kv.1=k))=ai
 .rw[qW e,qW e];exact r.repl k ry
 .rw[qX e,qX e];exact Paired.snoc r ⟨rfl,ry⟩
theorem KV.keys {kvs:ac (κ×V)} {vs:ac (κ×Value)} (r:KV kvs vs):kvs.map (·.1)=vs.map (·.1):=by
 unfold KV at r
 induction r with
 |nil=>rfl
 |cons h t ih=>rw[qm,qm,ih,h.1]
theorem KV.length {kvs:ac (κ×V)} {vs:ac (κ×Value)} (r:KV kvs vs):kvs.length=vs.length:=Paired.length r
end
theorem jT {P:bU} {k:Key} (r:bD (kV k) u):(cN P w).is k u=ai:=by
 cases k with
 |inl i=>obtain⟨t,e⟩:=(show ∃t,u=c5 i t from r);subst e;exact Ln P w i t
 |inr x=>obtain⟨t,e⟩:=(show ∃t,u=uz x t from r);subst e;exact LU P w x t
theorem Ao {P:bU} {w:cQ}:∀{ks:ac Key} {us:ac Value},bH (ks.map kV) us->ItemsAre (cN P w) ks us
 |[],_,r=>by rw[qM] at r;cases r;exact .nil
 |k::ks,_,r=>by
  rw[qm] at r;cases r with
  |cons h t=>exact .cons (jT h) (Ao t)
noncomputable abbrev KT (H:Hp):ac (ac Key×V)->ac (ac Key×av×Value)->Prop:=Paired fun p q=>p.1=q.1/\H q.2.1=aa (.tup (p.1.map kV))/\bD p.2 q.2.2
variable {kvs:ac (ac Key×V)}
theorem KT.val {xs:ac (ac Key×av×Value)} (r:KT H kvs xs) (k:ac Key):fm (gy kvs k) ((lS xs k).map (·.2)):=by
 induction r with
 |nil=>exact jJ
 | @cons p q ps qs h t ih=>
  obtain⟨h1,_,h2⟩:=h;by_cases e:p.1=k
  .have e':q.1=k:=h1.symm.trans e;have b:lS (q::qs) k=aa q.2:=by simp[lS,dL,e']
   rw[tt e,b];exact h2
  .have e':¬q.1=k:=fun z=>e (h1.trans z);have b:lS (q::qs) k=lS qs k:=by simp[lS,dL,e']
   rw[tG e,b];exact ih
theorem KT.repl {xs:ac (ac Key×av×Value)} (r:KT H kvs xs) (k:ac Key) {y:V} (ry:bD y u) :
  KT H (kvs.map fun kv=>if kv.1=k then (kv.1,y) else kv) (xs.map (putAt k u)):=by
 induction r with
 |nil=>exact .nil
 | @cons p q ps qs h t ih=>
  rw[qm,qm];refine .cons ?_ ih;obtain⟨h1,h2,h3⟩:=h;unfold putAt;by_cases e:p.1=k
  .rw[qW e,qW (h1.symm.trans e)];exact⟨h1,h2,ry⟩
  .rw[qX e,qX (fun z=>e (h1.trans z))];exact⟨h1,h2,h3⟩
theorem KT.put {xs:ac (ac Key×av×Value)} (r:KT H kvs xs) (k:ac Key) {b:av} {y:V} (hb:H b=aa (.tup (k.map kV))) (ry:bD y u) :
  KT H (dM kvs k y) (storedH xs k b u):=by
 have e:(kvs.any fun kv=>decide (kv.1=k))=(lS xs k).isSome:=by rw[zN,(r.val k).isSome_eq,oK]
 unfold dM storedH;rw[e];by_cases q:(lS xs k).isSome=ai
 .rw[qW q,qW q];exact r.repl k ry
 .rw[qX q,qX q];exact Paired.snoc r ⟨rfl,hb,ry⟩
theorem KT.keeps {xs:ac (ac Key×av×Value)} (r:KT H kvs xs) (ht:∀b ys,H b=aa (.tup ys)->H' b=aa (.tup ys)):KT H' kvs xs:=
 Paired.mapP r fun _ _ z=>⟨z.1,ht _ _ z.2.1,z.2.2⟩
section
variable {P:bU} {h:Heap}
theorem zI {u:HO} (ok:HOk P w H h) (e:Rd H a u):cV P w H h a u:=e.ok ok
theorem iX {kvs:ac (Key×V)} (ok:HOk P w H h) (e:Rd H a (.dK kvs)):kvs.length<=aT/\(a==ky)=ao/\∃vs,KV kvs vs/\h.DictOf (cN P w) a vs:=
 show cV P w H h a (.dK kvs) from zI ok e
theorem My {kvs:ac (Key×V)} (ok:HOk P w H h) (e:H a=aa (.dK kvs)):kvs.length<=aT/\(a==ky)=ao/\∃vs,KV kvs vs/\h.DictOf (cN P w) a vs:=iX ok (.inl e)
theorem kj {ks:ac Key} (ok:HOk P w H h) (e:H a=aa (.tup (ks.map kV))):(kz (cN P w)).is h ks a:=by obtain⟨_,its,r,o,h1,h2,n,h3⟩:=(show cV P w H h a (.tup (ks.map kV)) from ok a _ e);exact⟨o,its.toArray,n,h1,h2,h3,by simpa using Ao r⟩
theorem kZ (ok:HOk P w H h) (e:Rd H a (.dT kvs)):kvs.length<=aT/\(a==ky)=ao /\
  ∃xs,KT H kvs xs/\h.DictOfH (kz (cN P w)) a xs:=by
 obtain⟨z,y,xs,r,o,es,ep,h1,h2,h3,h4,h5⟩:=(show cV P w H h a (.dT kvs) from zI ok e);refine⟨z,y,xs,r,o,es,ep,h1,h2,h3,h4,fun x hx=>?_,h5⟩;have all:∀{l:ac (ac Key×V)} {m:ac (ac Key×av×Value)},KT H l m->∀x∈m,(kz (cN P w)).is h x.1 x.2.1:=by
  intro l m q
  induction q with
  |nil=>intro x hx;exact nomatch hx
  | @cons p q ps qs hq t ih=>
   intro x hx;rcases cA.mp hx with e|hx
   .subst e;exact kj ok (by rw[←hq.1];exact hq.2.1)
   .exact ih x hx
 exact all r x hx
theorem K4 (ok:HOk P w H h) (e:H a=aa (.dT kvs)):kvs.length<=aT/\(a==ky)=ao /\
  ∃xs,KT H kvs xs/\h.DictOfH (kz (cN P w)) a xs:=kZ ok (.inl e)
end
noncomputable def fM (H:Hp) (a:av) (y:V) (r:ar V):Prop:=
 (∃kvs k,Rd H a (.dK kvs)/\y=kV k/\r=gy kvs k)\/∃kvs k b,Rd H a (.dT kvs)/\y=.ref b/\H b=aa (.tup (k.map kV))/\r=gy kvs k
noncomputable def jU (H:Hp) (a:av) (y v:V) (H':Hp):Prop:=
 (∃kvs k,H a=aa (.dK kvs)/\y=kV k/\kvs.length<aT/\H'=upd H a (.dK (dM kvs k v))) \/
 ∃kvs k b,H a=aa (.dT kvs)/\y=.ref b/\H b=aa (.tup (k.map kV))/\kvs.length<aT/\H'=upd H a (.dT (dM kvs k v))
theorem fM.k {kvs:ac (Key×V)} {k:Key} (e:H a=aa (.dK kvs)):fM H a (kV k) (gy kvs k):=.inl ⟨kvs,k,.inl e,rfl,rfl⟩
theorem fM.t {b:av} {k:ac Key} (e:H a=aa (.dT kvs)) (eb:H b=aa (.tup (k.map kV))):fM H a (.ref b) (gy kvs k):=.inr ⟨kvs,k,b,.inl e,rfl,eb,rfl⟩
theorem jU.k {kvs:ac (Key×V)} {k:Key} (e:H a=aa (.dK kvs)) (hl:kvs.length<aT):jU H a (kV k) v (upd H a (.dK (dM kvs k v))):=.inl ⟨kvs,k,e,rfl,hl,rfl⟩
theorem jU.t {b:av} {k:ac Key} (e:H a=aa (.dT kvs)) (eb:H b=aa (.tup (k.map kV))) (hl:kvs.length<aT) :
  jU H a (.ref b) v (upd H a (.dT (dM kvs k v))):=.inr ⟨kvs,k,b,e,rfl,eb,hl,rfl⟩
section
variable {y:V} {r:Value} {o:ar V} {E:Value->aG->Prop}
theorem Inv.big (I:Inv X pins σ H s):ky<s.heap.objs.size:=by have h:fU<s.heap.objs.size:=(I.mod.glob.keeps I.bk).lt;exact rJ .(h) h
theorem LQ (hu:A.units+1<cr) (I:Inv X pins σ H s) (g:fM H a y (aa v)) (ry:bD y u) (h:∀w' s',Inv X pins σ H s'->bD v w'->Q w' s') :
  aK .(r) A (m9 (.ref a) u) Q E s:=by
 rcases g with⟨kvs,k,e,ey,l⟩|⟨kvs,k,b,e,ey,eb,l⟩
 .subst ey;obtain⟨z,hd,vs,rel,dd⟩:=iX I.hok e;obtain⟨w',hw,rw'⟩:=fm.some_of (v:=v) (o:=oJ vs k) (by rw[l];exact rel.val k);exact wpAny_getItem_of (jT ry) dd.mapOf hw (h w' _ (I.tok _) rw')
 .subst ey;cases(show u=ci b from ry);obtain⟨z,hd,xs,rel,dd⟩:=kZ I.hok e;obtain⟨w',hw,rw'⟩:=fm.some_of (v:=v) (o:=(lS xs k).map (·.2)) (by rw[l];exact rel.val k);obtain⟨p,hp,hp2⟩:=oMd hw;refine wpAny_getItem_heap (rK hu) (kj I.hok eb) dd hp ?_;rw[hp2];exact h w' _ (I.tok _) rw'
theorem HH (hu:A.units+1<cr) (I:Inv X pins σ H s) (g:fM H a y o) (ry:bD y u) (h:∀s',Inv X pins σ H s'->Q (.bool o.isSome) s') :
  aK .(r) A (dq .In u (.ref a)) Q E s:=by
 rcases g with⟨kvs,k,e,ey,l⟩|⟨kvs,k,b,e,ey,eb,l⟩
 .subst ey;obtain⟨z,hd,vs,rel,dd⟩:=iX I.hok e;refine wpAny_in_of (jT ry) hd dd.mapOf ?_;rw[←(rel.val k).isSome_eq,←l];exact h _ (I.tok _)
 .subst ey;cases(show u=ci b from ry);obtain⟨z,hd,xs,rel,dd⟩:=kZ I.hok e;refine wpAny_in_heap (rK hu) (kj I.hok eb) hd dd ?_;have q:=(rel.val k).isSome_eq;rw[oK] at q;rw[←q,←l];exact h _ (I.tok _)
theorem Ht (hu:A.units+1<cr) (I:Inv X pins σ H s) (g:fM H a y o) (ry:bD y u) (h:∀s',Inv X pins σ H s'->Q (.bool (!o.isSome)) s') :
  aK .(r) A (dq .NotIn u (.ref a)) Q E s:=by
 rcases g with⟨kvs,k,e,ey,l⟩|⟨kvs,k,b,e,ey,eb,l⟩
 .subst ey;obtain⟨z,hd,vs,rel,dd⟩:=iX I.hok e;refine wpAny_notIn_of (jT ry) hd dd.mapOf ?_;rw[←(rel.val k).isSome_eq,←l];exact h _ (I.tok _)
 .subst ey;cases(show u=ci b from ry);obtain⟨z,hd,xs,rel,dd⟩:=kZ I.hok e;refine wpAny_notIn_heap (rK hu) (kj I.hok eb) hd dd ?_;have q:=(rel.val k).isSome_eq;rw[oK] at q;rw[←q,←l];exact h _ (I.tok _)
theorem Ah {ob:HO} (I:Inv X pins σ H s) (mu:Mut (H a)) (hs:ii a s.heap h') (he:∃q,h'.get? a=aa q) (new:cV X.prog X.w (upd H a ob) h' a ob) :
  Inv X pins σ (upd H a ob) {s with heap:=h',toks:=t'} :=
 I.write (x:=a) (e:=a) mu (.inl rfl) (fun b q hb z=>(hs.2 b hb).trans z) he new
theorem M9 {P:bU} {kvs:ac (Key×V)} {vs:ac (Key×Value)} (z:kvs.length<=aT) (hd:(a==ky)=ao) (rel:KV kvs vs) (dd:h'.DictOf (cN P w) a vs) :
  cV P w H' h' a (.dK kvs):=⟨z,hd,vs,rel,dd⟩
theorem Hh {Q:mW->aG->Prop} (hu:A.units+1<cr) (I:Inv X pins σ H s) (g:jU H a y v H') (ry:bD y u) (rv:bD v r) (h:∀s',Inv X pins σ H' s'->Q () s') :
  aK .(r) A (setItem (.ref a) u r) Q E s:=by
 rcases g with⟨kvs,k,e,ey,l,eH⟩|⟨kvs,k,b,e,ey,eb,l,eH⟩
 .subst ey eH;obtain⟨z,hd,vs,rel,dd⟩:=My I.hok e;have hz:vs.length<=aT:=by rw[←rel.length];exact z
  have hl:(dM kvs k v).length<=aT:=by have:=Co kvs k v;omega
  refine wpAny_setItem_pairs (hsz:=hz) (jT ry) dd fun h' dd' hs=>h _ ?_;have he:∃q,h'.get? a=aa q:=let ⟨q,_,_,hq,_⟩:=dd';⟨q,hq⟩
  exact Ah I (by rw[e];exact jJ) hs he (M9 hl hd (rel.put k rv) dd')
 .subst ey eH;cases(show u=ci b from ry);obtain⟨z,hd,xs,rel,dd⟩:=K4 I.hok e;have hz:xs.length<=aT:=by rw[←Paired.length rel];exact z
  have hl:(dM kvs k v).length<=aT:=by have:=Co kvs k v;omega
  refine wpAny_setItem_heap (hsz:=hz) (rK hu) (kj I.hok eb) dd fun h' dd' hs=>h _ ?_;obtain⟨q,es,ep,hq,h2,h3,h4,_,h5⟩:=dd';refine Ah I (by rw[e];exact jJ) hs ⟨q,hq⟩ ⟨hl,hd,_,(rel.put k eb rv).keeps fun c ys ec=>?_,q,es,ep,hq,h2,h3,h4,h5⟩;rw[a6 (xx ec e (fun z=>nomatch z))];exact ec
end
noncomputable def tR (i:Expr):Prop:=∀ov iv,yv i ao ov iv=operate [ov,iv] (m9 ov iv)
theorem Ft {E:Value->aG->Prop} {slice:Expr} {id:db} 
  (hl:uJ (.type T) "__getitem__"=bA (aa (.builtin id))) (hs:tR slice)
  (h:aK .(L) A (eval value env) (fun o s₁=>aK .(L) A (eval slice env) (fun i s₂=>s₂.TypeIs o T/\aK .(L) A (m9 o i) Q E s₂) E s₁) E s) :
  aK .(L) A (eval (.Subscript value slice pos) env) Q E s:=by
 refine El (gU h (fun o s₁ h₁=>gU h₁ (fun i s₂ h₂=>?_) fun _ _ x=>x) fun _ _ x=>x);obtain⟨hT,h₂⟩:=h₂;unfold Em;refine qw ?_;rw[getitemInPython_of_ne hT.not_modules];refine qw (Eu hT hl ?_);have fin:aK .(L) A (yv slice ao o i) (fun r s₃=>aK .(L) A (letTemporaryGo value o r >>= fun _=>bA r) Q E s₃) E s₂:=by rw[hs o i];exact wpAny_operating (gU h₂ (fun r s₃ h₃=>qw (wpAny_letTemporaryGo (qy h₃))) fun _ _ x=>x)
 first
  |exact qy (qw fin)
  |exact qw (qy (qw fin))
  |exact qw fin
theorem NX {y:V} {o:ar V} (I:Inv X pins σ H s) (g:fM H a y o):s.TypeIs (.ref a) "dict":=by
 rcases g with⟨kvs,k,e,_,_⟩|⟨kvs,k,b,e,_,_,_⟩
 .obtain⟨_,_,vs,_,dd⟩:=iX I.hok e;exact dd.typeIs
 .obtain⟨_,_,xs,_,dd⟩:=kZ I.hok e;exact dd.typeIs
noncomputable def K5 (td ty:TE):TE:=fun σ H Q=>td σ H fun x H1=>ty σ H1 fun y H2=>∃a v,x=.ref a/\fM H2 a y (aa v)/\Q v H2
noncomputable def K7 (td ty tv:TE):TS:=fun D σ H=>tv σ H fun v H1=>td σ H1 fun x H2=>ty σ H2 fun y H3=>∃a H4,x=.ref a/\jU H3 a y v H4/\D.nx σ H4
variable {td ty:TE}
section
variable {i:Expr}
theorem By (hu:X.A.units+1<cr) (ho:PE X o td) (hi:PE X i ty) (hs:tR i):PE X (.Subscript o i pos) (K5 td ty):=by intro pins s σ H Q I h;refine Ft PySem.F.slot_dict_getitem.lookup hs (thn (ho pins s σ H _ I h) fun u s1 ⟨x,H1,I1,rx,q1⟩=>thn (hi pins s1 σ H1 _ I1 q1) fun iv s2 ⟨y,H2,I2,ry,a,v,ex,g,q2⟩=>?_);subst ex;obtain rfl:u=ci a:=rx;exact⟨NX I2 g,LQ hu I2 g ry fun w' s3 I3 rw'=>⟨v,H2,I3,rw',q2⟩⟩
theorem Ci (hu:X.A.units+1<cr) (ho:PE X o td) (hi:PE X i ty) (hv:PE X value tv) (hs:fW value (aa (.Subscript o i pos')) pos.line X.env=bA ao) :
  PS X (.Assign [.Subscript o i pos'] value pos) (K7 td ty tv):=by
 intro pins s σ H D I h;refine wpAny_Assign_Subscript (thn (hv pins s σ H _ I h) fun r s1 ⟨v,H1,I1,rv,q1⟩=>thn (ho pins s1 σ H1 _ I1 q1) fun u s2 ⟨x,H2,I2,rx,q2⟩=>thn (hi pins s2 σ H2 _ I2 q2) fun iv s3 ⟨y,H3,I3,ry,a,H4,ex,g,q3⟩=>?_) hs;subst ex;obtain rfl:u=ci a:=rx;exact Hh hu I3 g ry rv fun s4 I4=>⟨σ,H4,I4,q3⟩
end
theorem Jj {P:bU} (h:Heap) (hb:ky<h.objs.size):cV P w H (h.push {cls:=.type "dict",data:=.dict #[]}) h.objs.size (.dK []):=
 ⟨gV _,lG.mpr (df (qA hb)),[],.nil,P4 h⟩
noncomputable def Fj:TE:=fun _ H Q=>∀p,H p=ab->Q (.ref p) (upd H p (.dK []))
theorem wZ:PE X (.Dict [] [] pos) Fj:=fun pins s σ H Q I h=>
 wpAny_Dict_empty ⟨.ref s.heap.objs.size,_,I.laid (a:=s.heap.objs.size) (o:=.dK []) (t':=s.toks) (fun _ _ q=>qt _ q) (qv _) (Jj s.heap I.big),rfl,h _ (I.hok.fresh (qv _))⟩
structure M1 (X:Cx) (o:Expr) (m:ah) (apos:dn) (e:Expr) (cpos:dn):Prop where
 base:jK o m X.env (eval o X.env)=eval o X.env
 few:((cE cpos (a7 [e] X.env)).all (fun x=>!x.1) && (iO cpos (iP [] X.env)).all (fun x=>x.1.isSome)
  && decide (([e]:ac Expr).length+([]:ac iR).length+(if ([]:ac iR).isEmpty then 0 else 1)<30))=ai
 line:(apos.endLine==cpos.line)=ai
 trees:cE cpos (a7 [e] X.env)=[(ao,eval e X.env)]
structure M2 (X:Cx) (o:Expr) (m:ah) (apos:dn) (e f:Expr) (cpos:dn):Prop where
 base:jK o m X.env (eval o X.env)=eval o X.env
 few:((cE cpos (a7 [e,f] X.env)).all (fun x=>!x.1) && (iO cpos (iP [] X.env)).all (fun x=>x.1.isSome)
  && decide (([e,f]:ac Expr).length+([]:ac iR).length+(if ([]:ac iR).isEmpty then 0 else 1)<30))=ai
 line:(apos.endLine==cpos.line)=ai
 trees:cE cpos (a7 [e,f] X.env)=[(ao,eval e X.env),(ao,eval f X.env)]
noncomputable def IsD (H:Hp) (a:av):Prop:=(∃kvs,Rd H a (.dK kvs))\/∃kvs,Rd H a (.dT kvs)
theorem zE (I:Inv X pins σ H s) (d:IsD H a) :
  s.TypeIs (.ref a) "dict"/\(∀b,ci a=.ref b->∃ob,s.heap.get? b=aa ob/\ob.dict=ab)/\(a==ky)=ao:=by
 rcases d with⟨kvs,e⟩|⟨kvs,e⟩
 .obtain⟨_,hd,vs,_,dd⟩:=iX I.hok e;refine⟨dd.typeIs,fun b q=>?_,hd⟩;cases q;obtain⟨ob,_,_,h1,h2,_⟩:=dd;exact⟨ob,h1,h2.2.1⟩
 .obtain⟨_,hd,xs,_,dd⟩:=kZ I.hok e;refine⟨dd.typeIs,fun b q=>?_,hd⟩;cases q;obtain⟨ob,_,_,h1,h2,_⟩:=dd;exact⟨ob,h1,h2.2.1⟩
section
variable {y d:V} {r:Value} {o:ar V} {E:Value->aG->Prop}
theorem OS (hu:A.units+1<cr) (I:Inv X pins σ H s) (g:fM H a y o) (ry:bD y u) (h:∀w' s',Inv X pins σ H s'->bD (o.getD .non) w'->Q w' s') :
  aK .(r) A (call (.builtin "dict.get") [.ref a,u]) Q E s:=by
 rcases g with⟨kvs,k,e,ey,l⟩|⟨kvs,k,b,e,ey,eb,l⟩
 .subst ey;obtain⟨z,hd,vs,rel,dd⟩:=iX I.hok e;refine yy rL dd.typeIs yz (P5 _ _) (meets_dict_get (cN X.prog X.w) a (jT ry) hd) ⟨_,dd.mapOf,h _ _ (I.tok _) ?_⟩;rw[l];exact(rel.val k).getD rfl
 .subst ey;cases(show u=ci b from ry);obtain⟨z,hd,xs,rel,dd⟩:=kZ I.hok e;refine yy rL dd.typeIs yz (P5 _ _) (meetsH_dict_get (kz (cN X.prog X.w)) a b hd) ⟨rK hu,k,xs,kj I.hok eb,dd,h _ _ (I.tok _) ?_⟩;rw[l];exact(rel.val k).getD rfl
theorem Hs (hu:A.units+1<cr) (I:Inv X pins σ H s) (g:fM H a y o) (ry:bD y u) (rd:bD d r) (h:∀w' s',Inv X pins σ H s'->bD (o.getD d) w'->Q w' s') :
  aK .(r) A (call (.builtin "dict.get") [.ref a,u,r]) Q E s:=by
 rcases g with⟨kvs,k,e,ey,l⟩|⟨kvs,k,b,e,ey,eb,l⟩
 .subst ey;obtain⟨z,hd,vs,rel,dd⟩:=iX I.hok e;refine yy rL dd.typeIs yz (P6 _ _ _) (meets_dict_get_default (cN X.prog X.w) a (jT ry) hd r) ⟨_,dd.mapOf,h _ _ (I.tok _) ?_⟩;rw[l];exact(rel.val k).getD rd
 .subst ey;cases(show u=ci b from ry);obtain⟨z,hd,xs,rel,dd⟩:=kZ I.hok e;refine yy rL dd.typeIs yz (P6 _ _ _) (meetsH_dict_get_default (kz (cN X.prog X.w)) a b hd r) ⟨rK hu,k,xs,kj I.hok eb,dd,h _ _ (I.tok _) ?_⟩;rw[l];exact(rel.val k).getD rd
end
noncomputable def FZ (td ty:TE):TE:=fun σ H Q=>td σ H fun x H1=>∃a,x=.ref a/\IsD H1 a/\ty σ H1 fun y H2=>∃o,fM H2 a y o/\Q (o.getD .non) H2
noncomputable def O3 (td ty tx:TE):TE:=fun σ H Q=>td σ H fun x H1=>∃a,x=.ref a/\IsD H1 a/\ty σ H1 fun y H2=>tx σ H2 fun z H3=>∃o,fM H3 a y o/\Q (o.getD z) H3
section
variable {f:Expr} {tx:TE}
theorem JH (hu:X.A.units+1<cr) (ho:PE X o td) (he:PE X e ty) (m:M1 X o "get" apos e cpos):PE X (.Call (.Attribute o "get" apos) [e] [] cpos) (FZ td ty):=by intro pins s σ H Q I h;refine P7 m.base m.few m.line P8 rL P9 (thn (ho pins s σ H _ I h) fun u s1 ⟨x,H1,I1,rx,a,ex,d,q1⟩=>?_);subst ex;obtain rfl:u=ci a:=rx;obtain⟨t1,t2,_⟩:=zE I1 d;refine⟨t1,t2,?_⟩;rw[m.trees];refine Eo rfl (Ep (yk (thn (he pins s1 σ H1 _ I1 q1) fun iv s2 ⟨y,H2,I2,ry,ov,g,q2⟩=>Ec ?_)));exact OS hu I2 g ry fun w' s3 I3 rw'=>⟨_,H2,I3,rw',q2⟩
theorem JS (hu:X.A.units+1<cr) (ho:PE X o td) (he:PE X e ty) (hf:PE X f tx) (m:M2 X o "get" apos e f cpos):PE X (.Call (.Attribute o "get" apos) [e,f] [] cpos) (O3 td ty tx):=by
 intro pins s σ H Q I h;refine P7 m.base m.few m.line P8 rL P9 (thn (ho pins s σ H _ I h) fun u s1 ⟨x,H1,I1,rx,a,ex,d,q1⟩=>?_);subst ex;obtain rfl:u=ci a:=rx;obtain⟨t1,t2,_⟩:=zE I1 d;refine⟨t1,t2,?_⟩;rw[m.trees];refine Eo rfl (Ep (yk (thn (he pins s1 σ H1 _ I1 q1) fun iv s2 ⟨y,H2,I2,ry,q2⟩=>
  yk (thn (hf pins s2 σ H2 _ I2 q2) fun fv s3 ⟨z,H3,I3,rz,ov,g,q3⟩=>Ec ?_))))
 exact Hs hu I3 g ry rz fun w' s4 I4 rw'=>⟨_,H3,I4,rw',q3⟩
end
variable {loose:ac ah} {XP:(ah->ar Value)->Heap->Prop} {YP:cQ->Heap->Prop}
namespace Att
open PySem PySem.W PySem.Calls PyProof.Rows
theorem Mv {P:yA} {h:Heap} :∀(ns:ac ag) (vs:ac Value),WellAll P h vs (ns.map P')->jM vs ns:=by
 intro ns
 induction ns with
 |nil=>
  intro vs w;rw[qM] at w;cases w;exact .nil
 |cons n ns ih=>
  intro vs w;rw[qm] at w;cases w with
  |cons a b=>
   cases a;exact .cons _ _ (ih _ b)
theorem Bi {l:OpenLaw} (hn:l.most=aa n) {P:yA} {h:Heap} {args:ac WData} {vals:ac Value} 
  (hpre:l.row.toRowW.claim.pre args=ai) (hwl:WellAll P h vals args) :
  ∃a vs ns,vals=[ci a]/\args=[WData.list (ns.map P')]/\h.get? a=aa {cls:=.type "list",data:=.seq vs.toArray}/\jM vs ns/\ns.length<=n:=by
 have hsh:WShape.hasAll [] args [.list .int]=ai:=(pre_splitW hpre).1;have hc:l.pre.holds [] {args:=args}=ai:=(pre_splitW hpre).2;obtain⟨d,r,rfl,h1,h2⟩:=hasAllW_cons hsh;obtain rfl:=hasAllW_nil h2;obtain⟨xs,rfl,h3⟩:=hasW_list h1;obtain⟨ns,rfl⟩:=items_int h3;have hlen:ns.length<=n:=by
  unfold OpenLaw.pre at hc;have h4:(WTm.not (.lt (.lit (.int (n:ag))) (.len (.arg 0)))).holds [] {args:=[.list (ns.map .int)]}=ai:=by have h4:=(holds_andW hc).1;rw[hn] at h4;exact h4
  have h5:=condW_of h4 (w_not (w_lt w_lit (w_len_list (w_arg rfl))));rw[qf] at h5;refine Qa fun q=>?_;have q':(n:ag)<((ns.length:al):ag):=by omega
  first
   |(rw[qQ q'] at h5;exact bz h5 .(h))
   |(simp at h5;omega)
 cases hwl with
 |cons w1 w2=>
  cases w2;cases w1 with
  |list ho hall=>exact⟨_,_,ns,rfl,rfl,ho,Mv ns _ hall,hlen⟩
theorem zj (l:OpenLaw) (args:ac WData):l.row.toRowW.claim.post args (.bool ai) args=ai:=
 postW_of (r:=l.row.toRowW) (X:=(ai==ai))
  (show Qb [] (.bool ai) .bool=ai by first|rfl|decide|simp[Qb,WShape.arms,WShape.armsAll])
  (show(WTm.eq .res (.lit (.bool ai))).value [] {args:=args,res:=aa (.bool ai),after:=args}=aa (.bool (ai==ai)) from w_eq_bool (w_res rfl) w_lit) rfl
theorem RE {l:OpenLaw} {q:bU} {d:yB} 
  (hn:l.most=aa n) (hdf:d.params.defaults=[])
  (hbind:∀pm cd doc v:Value,lN (docDef d.name d.params d.body d.scope pm cd doc) ⟨[v],[]⟩=bA [(x,v)])
  (hx:d.scope.names.lookup x=aa .local\/d.scope.names.lookup x=aa .cell)
  (hk:d.scope.kind=.function) (hco:d.scope.isCoroutine=ao) (hgen:d.scope.isGenerator=ao)
  (body:∀(w:cQ) (s₀ s₁ s:aG) (mg mb:ah->ar Value) (fa:av) (o:a8) (pm cd doc:Value) (a:av) (vs:ac Value) (ns:ac ag),
   Ground q loose [] XP w s₀ mg mb s₁.heap->YP w s₁.heap->
   s₁.heap.get? fa=aa o->o.data=.func (docDef d.name d.params d.body d.scope pm cd doc)->s₁.heap.CodeRec cd d.name->mg d.name=aa (.ref fa)->
   s₁.heap.get? a=aa {cls:=.type "list",data:=.seq vs.toArray}->jM vs ns->ns.length<=n->
   s.gens=#[]->s.os=s₁.os->
   Fr s₁.heap s₁.heap.objs.size s.heap (lP (fy d.name d.scope s₁.heap.objs.size fa cd).kindOf [(x,.ref a)] fun _=>ab)->
   Cl s₁.heap.objs.size (yo (s₁.heap.objs.size+1) d.scope.names []) s.heap (lQ (fy d.name d.scope s₁.heap.objs.size fa cd).kindOf [(x,.ref a)] fun _=>ab)->
   aK (aQ l.prog w) (na.deeper (fy d.name d.scope s₁.heap.objs.size fa cd)) (execs d.body (fy d.name d.scope s₁.heap.objs.size fa cd))
    (fun f s'=>f=.ret (.bool ai)/\OldK s₁.heap s'.heap/\s'.os=s₁.os/\kA s'.gens) (fun _ _=>False) s) :
  WalkO q loose XP YP l.row.toRowW d [] (fun f vs=>yC f vs):=by
 intro w s₀ s₁ mg mb G Y fa o pm cd doc dV kV ho hd hcd hD hmg hg args vals as hpre hlay hrd hwl hlo;obtain rfl:dV=.none:=Qc hD hdf;obtain rfl:kV=.none:=Qd hD;obtain⟨a,vs,ns,rfl,rfl,hobj,hints,hlen⟩:=Bi hn hpre hwl;refine enter_call ?_;refine call_cells_ret (o:=o) (by rw[depth_caller];decide) ho (Ev hd) G.T.nolimit hcd (hbind pm cd doc (.ref a)) (fun y hy=>?_) (fun h₁ tk F X=>?_) hco hgen hk
 .obtain rfl:y=(x,ci a):=bW.mp hy;rcases hx with e|e
  .exact .inl e
  .exact .inr ⟨e,cellsFrom_some _ _ _ (.inl e)⟩
 .refine gU (body w s₀ s₁ {s₁ with heap:=h₁,toks:=tk} mg mb fa o pm cd doc a vs ns G Y ho (Ev hd) hcd hmg hobj hints hlen hg rfl F X) (fun f s' hq=>?_) (fun _ _ hq=>hq);obtain⟨rfl,h2,h3,h4⟩:=hq;exact⟨.inl ⟨.bool ai,.bool ai,[],rfl,fun _=>rfl,.bool ai,zj l _,fun _=>⟨Qe,fun _ hm=>(nomatch hm)⟩⟩,h2,h3,h4⟩
theorem attach_call {l:OpenLaw} {q:bU} {d:yB} 
  (hn:l.most=aa n) (hdf:d.params.defaults=[])
  (call:∀(w:cQ) (s₀ s₁:aG) (mg mb:ah->ar Value) (fa:av) (o:a8) (pm cd doc:Value) (a:av) (vs:ac Value) (ns:ac ag),
   Ground q loose [] XP w s₀ mg mb s₁.heap->YP w s₁.heap->
   s₁.heap.get? fa=aa o->o.data=.func (docDef d.name d.params d.body d.scope pm cd doc)->s₁.heap.CodeRec cd d.name->mg d.name=aa (.ref fa)->
   s₁.heap.get? a=aa {cls:=.type "list",data:=.seq vs.toArray}->jM vs ns->ns.length<=n->s₁.gens=#[]->
   ik (aQ l.prog w) na (.call (.ref fa) ⟨[.ref a],[]⟩) (fun r s'=>r=.ok (.ret (.bool ai))/\OldK s₁.heap s'.heap/\s'.os=s₁.os/\kA s'.gens) s₁) :
  WalkO q loose XP YP l.row.toRowW d [] (fun f vs=>yC f vs):=by
 intro w s₀ s₁ mg mb G Y fa o pm cd doc dV kV ho hd hcd hD hmg hg args vals as hpre hlay hrd hwl hlo;obtain rfl:dV=.none:=Qc hD hdf;obtain rfl:kV=.none:=Qd hD;obtain⟨a,vs,ns,rfl,rfl,hobj,hints,hlen⟩:=Bi hn hpre hwl;refine enter_call (rB (call w s₀ s₁ mg mb fa o pm cd doc a vs ns G Y ho (Ev hd) hcd hmg hobj hints hlen hg) fun r s' hq=>?_);obtain⟨rfl,h2,h3,h4⟩:=hq;exact⟨.inl ⟨.bool ai,.bool ai,[],rfl,fun _=>rfl,.bool ai,zj l _,fun _=>⟨Qe,fun _ hm=>(nomatch hm)⟩⟩,h2,h3,h4⟩
section
variable {E:Value->aG->Prop} {K:bh}
noncomputable def Rz (h:Heap) (L d:av):ac (av×a8):=(cG h.objs.size).filterMap fun a=>if a=L\/a=d then ab else (h.get? a).map fun o=>(a,o)
end
end Att
theorem CG:∀{vs:ac Value} {ns:ac ag},jM vs ns->bH (ns.map V.int) vs
 |_,_,.nil=>.nil
 |_,_,.cons n t h=>.cons ⟨t,rfl⟩ (CG h)
noncomputable def xT (H:Hp):Prop:=∀b,H b=ab\/∃o xs,H b=aa (.frz o (.lst xs))
theorem Ot {P:bU} {mb:ah->ar Value} {k:al} {fa:av} {s₁:aG} {vs:ac Value} {ns:ac ag} 
  (KX:K.In s₁.heap) (hns:s₁.heap.Ns fU mg) (hb:s₁.heap.Ns DX mb) (hbb:∀x:ah,x≠"__name__"->mb x=lJ x) (hlim:s₁.heap.NoLimit) (hg:s₁.gens=#[])
  (ha:s₁.heap.get? a=aa {cls:=.type "list",data:=.seq vs.toArray}) (hi:jM vs ns) (hl:ns.length<=aT) (hr:Room k na)
  (F:∀base:Heap,K.In base->base.Ns fU mg->FnOk P w K mg base CX k fa fd [x] sp) (hbind:∀(s:aG) (u:Value),rA s fd ⟨[u],[]⟩ [(x,u)])
  (hsp:∀H:Hp,xT H->SqL K H a (ns.map V.int)->sp [.ref a] H (fun v _=>v=.bl ai) fun _ _ _=>False)
  (hCX:∀H e s',CX [] H s₁ (fun _ _ _=>False) e s'->False) :
  ik (aQ P w) na (.call (.ref fa) ⟨[.ref a],[]⟩) (fun r s'=>r=.ok (.ret (.bool ai))/\OldK s₁.heap s'.heap/\s'.os=s₁.os/\kA s'.gens) s₁:=by
 have rv:=CG hi;have lenV:=hi.length;have core:∀H:Hp,xT H->SqL K H a (ns.map V.int)->HOk P w H s₁.heap->(∀b,H b≠ab->b=a)->(H a≠ab->K.lookup a=ab)->
   ik (aQ P w) na (.call (.ref fa) ⟨[.ref a],[]⟩) (fun r s'=>r=.ok (.ret (.bool ai))/\OldK s₁.heap s'.heap/\s'.os=s₁.os/\kA s'.gens) s₁:=by
  intro H hO hS hok hA hK;have base_of:∀{b:av} {o:a8},s₁.heap.get? b=aa o->H b=ab->(jY s₁.heap H).get? b=aa o:=fun e n=>IX e n;have noA:∀{b:av} {o:a8} {es:bP DictEntry} {ep:al},s₁.heap.get? b=aa o->o.data=.dict es ep->H b=ab:=fun {b o es ep} e d=>by
   cases q:H b with
   |none=>rfl
   |some u=>
    have e':b=a:=hA b (by rw[q];simp);subst e';rw[ha] at e;cases e;have d':Data.seq vs.toArray _=Data.dict es ep:=d;cases d'
  have nsK:∀{b:av} {m:ah->ar Value},s₁.heap.Ns b m->(jY s₁.heap H).Ns b m:=fun {b m} ⟨o,es,ep,e,d,r⟩=>⟨o,es,ep,base_of e (noA e d),d,r⟩;have hKb:K.In (jY s₁.heap H):=fun b o e=>base_of (KX b o e) (by
   cases q:H b with
   |none=>rfl
   |some u=>
    have e':b=a:=hA b (by rw[q];simp);subst e';rw[hK (by rw[q];simp)] at e;cases e)
  have hM:Mod K mg (jY s₁.heap H):=⟨hKb,nsK hns,⟨mb,nsK hb,hbb⟩,let ⟨mc,h1,h2⟩:=hlim;⟨mc,nsK h1,h2⟩⟩;have e0:Env0 P w K mg (jY s₁.heap H) na [] s₁ H:=⟨rfl,hM,fun b o e=>Fq e,yj (Jq _ _),trivial,fun b hb=>bz (show b∈([]:ac av) from hb) (by simp),hok,.of_eq hg⟩;refine rB ((F _ hKb (nsK hns)).run na [] s₁ H ⟨[.ref a],[]⟩ [.ref a] [.ref a] _ _ hr e0 (hbind s₁ (.ref a)) (.cons rfl .nil) (hsp H hO hS)) fun r s' h=>?_;cases r with
  |error e=>exact(hCX H e s' h).elim
  |ok fl=>
   cases fl with
   |next=>exact ij h
   |brk=>exact ij h
   |cont=>exact ij h
   |ret u=>
    obtain⟨v,H',os,bare,un,hok',r',q⟩:=h;have q':v=.bl ai:=q;subst q';obtain rfl:u=jF ai:=r';refine⟨rfl,OldK.of_keep fun b o e=>?_,os,bare⟩;cases q:H b with
    |none=>exact un.keep b o e q (by intro z;exact bz (show b∈([]:ac av) from z) (by simp)) (by simp)
    |some u=>
     rcases hO b with z|⟨ob,xs,z⟩
     .rw[q] at z;cases z
     .have z2:=un.frzs b ob _ z;obtain⟨e1,_⟩:=hok b _ z;obtain⟨e2,_⟩:=hok' b _ z2;rw[e] at e1;cases e1;exact e2
 cases hk:K.lookup a with
 |some o=>
  have e:=KX a o hk;rw[ha] at e;cases e;refine core (fun _=>ab) (fun _=>.inl rfl) (.inr ⟨_,vs.toArray,_,hk,rfl,rfl,rfl,by rw[qz,lenV];exact hl,by simpa using rv⟩) (fun b u z=>by have z':(ab:ar HO)=aa u:=z;cases z') (fun b z=>bz rfl z) fun z=>bz rfl z
 |none=>
  refine core (fun b=>if b=a then aa (.frz {cls:=.type "list",data:=.seq vs.toArray} (.lst (ns.map V.int))) else ab) (fun b=>?_) (.inl (.inr ⟨{cls:=.type "list",data:=.seq vs.toArray},qW rfl⟩)) (fun b u z=>?_) (fun b z=>?_) fun _=>hk
  .by_cases hb:b=a
   .exact .inr ⟨_,_,qW hb⟩
   .exact .inl (qX hb)
  .by_cases hb:b=a
   .have z':=(qW hb).symm.trans z;cases z';subst hb;exact⟨ha,by rw[qf];exact hl,vs,_,rv,ha⟩
   .have z':=(qX hb).symm.trans z;cases z'
  .by_cases hb:b=a
   .exact hb
   .exact bz (qX hb) z
noncomputable abbrev KOf {h:Heap} (_:K.In h):bh:=K
theorem walk_of {l:Ew} {k:al} {q:bU} {d:yB} {K:yA->bh} {CX:cQ->CXT} {sp:cQ->Sp} 
  (hn:l.most=aa n) (hn2:n<=aT) (hdf:d.params.defaults=[]) (hr:Room k na)
  (hY:∀(w:cQ) (h:Heap),YP w h->(K w.params).In h)
  (F:∀(w:cQ) (mg:ah->ar Value) (fa:av) (h:Heap),(K w.params).In h->h.Ns fU mg->mg d.name=aa (.ref fa)->
   ∃fd:m4,(∀(s:aG) (u:Value),rA s fd ⟨[u],[]⟩ [(x,u)]) /\
    ∀base:Heap,(K w.params).In base->base.Ns fU mg->FnOk l.prog w (K w.params) mg base (CX w) k fa fd [x] (sp w))
  (hsp:∀(w:cQ) (H:Hp) (a:av) (ns:ac ag),ns.length<=n->xT H->SqL (K w.params) H a (ns.map V.int)->sp w [.ref a] H (fun v _=>v=.bl ai) fun _ _ _=>False)
  (hCX:∀(w:cQ) (H:Hp) (s:aG) (e:Value) (s':aG),CX w [] H s (fun _ _ _=>False) e s'->False) :
  Qf q loose XP YP l.row.toRowW d [] (fun f vs=>yC f vs):=by
 refine Att.attach_call hn hdf fun w s₀ s₁ mg mb fa o pm cd doc a vs ns G Y ho hd hcd hmg hobj hints hlen hg=>?_;have KX:=hY w _ Y;obtain⟨fd,hb,hF⟩:=F w mg fa _ KX G.T.g hmg;exact Ot KX G.T.g G.T.b G.T.builtins G.T.nolimit hg hobj hints (qK hlen hn2) hr hF hb (fun H hO hS=>hsp w H a ns hlen hO hS) fun H e s'=>hCX w H s₁ e s'
noncomputable def dH (s:Stmt) (j:al):Stmt:=match s with
 |.ClassDef _ _ _ body _ _ _ _ _ _ _=>body.getD j (.Pass ⟨0,0,0,0⟩)
 |_=>.Pass ⟨0,0,0,0⟩
noncomputable def ig (s:Stmt):Arguments:=match s with
 |.FunctionDef _ a _ _ _ _ _ _ _ _=>a
 |_=>{posonlyargs:=[],args:=[],vararg:=ab,kwonlyargs:=[],kw_defaults:=[],kwarg:=ab,defaults:=[]}
noncomputable def eO (s:Stmt):ac Stmt:=match s with
 |.FunctionDef _ _ b _ _ _ _ _ _ _=>b
 |_=>[]
noncomputable def aU (s:Stmt):Scope:=match s with
 |.FunctionDef _ _ _ _ _ _ sc _ _ _=>sc
 |_=>{kind:=.function,names:=[],isGenerator:=ao,isCoroutine:=ao}
noncomputable abbrev CX0:CXT:=fun _ _ _ _ _ _=>False
noncomputable abbrev E0:XK:=fun _ _ _=>False
theorem sI :mP CX0 X E0:=fun _ _ _ _ _ _ _ h=>h.elim
structure Fun (K:bh) (x qual:ah) (st:Stmt) (f:av) (fd:m4):Prop where
 ex:∃(oc:Value) (od:ar av) (kV doc pm:Value) (an:ar av) (cdv ct:Value) (osl:bP (ar Value)),
  fd=gY x qual (ig st) (eO st) (aU st) .none kV doc pm an cdv ct/\K.lookup f=aa ⟨oc,od,.func fd,osl⟩/\rC K cdv qual=ai
 kp:iN K (.ref f)=ai
section
variable {P:bU}
theorem Fun.ok {f:av} {k:al} (F:Fun K x qual st f fd) (S:FnScope N ps (aU st)) (len:∀vs H Q E,sp vs H Q E->vs.length=ps.length)
  (hbody:∀(cdv:Value) (A:eF) (outer:ac dc) (s:aG) (H:Hp) (vs:ac V) (Q:VK) (E:XK),Room k (A.deeper (fy qual (aU st) s.heap.objs.size f cdv))->sp vs H Q E->
   ∃t,PSs (hU CX0 P w K mg base N qual (aU st) f cdv A outer s H E).nox (eO st) t/\t {nx:=fun _ H'=>Q .non H',rt:=Q} (gq N vs) H):FnOk P w K mg base CX0 (k+1) f fd ps sp:=by
 obtain⟨oc,od,kV,doc,pm,an,cdv,ct,osl,rfl,lk,hcd⟩:=F.ex;refine Nb lk hcd S len fun A outer s H vs Q E hr hsp=>?_;obtain⟨t,h,q⟩:=hbody cdv A outer s H vs Q E hr hsp;exact⟨t,h.nox,q⟩
theorem Fun.binds {f:av} (F:Fun K x qual st f fd)
  (h:∀(kV doc pm:Value) (an:ar av) (cdv ct:Value) (us:ac Value),us.length=ps.length->lN (gY x qual (ig st) (eO st) (aU st) .none kV doc pm an cdv ct) ⟨us,[]⟩=bA (ps.zip us)):gT K fd ps []:=by
 obtain⟨oc,od,kV,doc,pm,an,cdv,ct,osl,rfl,lk,hcd⟩:=F.ex;exact .all (h kV doc pm an cdv ct)
theorem v5 {f:av} {kV:Value} (l:K.lookup f=aa ⟨oc,od,.func (gY x qual (ig st) (eO st) (aU st) .none kV doc pm an cdv ct),osl⟩)
  (c:rC K cdv qual=ai) (k:iN K (.ref f)=ai):Fun K x qual st f (gY x qual (ig st) (eO st) (aU st) .none kV doc pm an cdv ct):=⟨⟨oc,od,kV,doc,pm,an,cdv,ct,osl,rfl,l,c⟩,k⟩
end
theorem pv (i:al) (hN:X.N[i]?=aa x:=by rfl) (hv:Vis X.env.scope x:=by first|exact dy rfl|exact cP (dy rfl)|exact cP (cP rfl)) (hd:.(H)=ao:=by decide)
  (hcd:(x==("__classdict__":ah))=ao:=by decide):PE X (.Name x pos) (Ch i):=i7 hN hv hd hcd
theorem mz {A B:Prop} (h:B):if ao=ai then A else B:=by rw[qX qr];exact h
theorem mq {A B:Prop} (h:A):if ai=ai then A else B:=by rw[qW rfl];exact h
noncomputable def bK (H H':Hp):Prop:=∀b o,H b=aa o->H' b=aa o
theorem bK.refl (H:Hp):bK H H:=fun _ _ h=>h
theorem bK.trans (a:bK H H1) (b:bK H1 H2):bK H H2:=fun c o h=>b c o (a c o h)
theorem bK.free (e:bK H H') {l:av} (h:H' l=ab):H l=ab:=by
 cases q:H l with
 |none=>rfl
 |some o=>
  rw[e l o q] at h;cases h
theorem bK.seq {xs:ac V} (e:bK H H') (h:SqL K H a xs):SqL K H' a xs:=by
 rcases h with(h|⟨o,h⟩)|h
 .exact .inl (.inl (e _ _ h))
 .exact .inl (.inr ⟨o,e _ _ h⟩)
 .exact .inr h
variable {elt:Expr} {ifs:ac Expr}
theorem Lg {target:Expr} {it acc:Value} (I:al->aG->Prop)
  (turn:∀n s,I n s->aK .(L) A (jI it) (fun r s₁=>match r with
   |none=>R (.ok .next) s₁
   |some v=>aK .(L) A (uD target it v) (fun _ s₁'=>aK .(L) A (kC target env v) (fun _ s₂ =>
     aK .(L) A (uM ifs ai fun c r=>if r=ai then do let ok ←isTrue c env (eval c env);bA (rN ok) else bA (rN r)) (fun ok s₃ =>
      if ok=ai then aK .(L) A (eval elt env) (fun x s₄ =>
       aK .(L) A (call (.builtin "list.append") [acc,x]) (fun _ s₅=>∃m,m<n/\I m s₅) (fun _ _=>False) s₄) (fun _ _=>False) s₃
      else ∃m,m<n/\I m s₃) (fun _ _=>False) s₂) (fun _ _=>False) s₁') (fun _ _=>False) s₁) (fun _ _=>False) s)
  (n:al) (h:I n s) :
  ik .(L) A (.compLoop (.ListComp elt [⟨target,iter,ifs,0⟩] scope pos) 0 it acc env) R s:=by
 refine codeAny_loop rfl I (fun n s hI=>?_) n h;show aK _ A ((compTurn (.ListComp elt [⟨target,iter,ifs,0⟩] scope pos) 0 it acc env).onRaise (fun x=>do noteFrame x env;theTreesLotGoes x)) _ _ s;refine wpAny_noted ?_;rw[compTurn_list];refine qw (D2 (qw (gU (turn n s hI) (fun r s₁ h₁=>?_) fun _ _ h'=>h'.elim)));cases r with
 |none=>exact qy h₁
 |some v=>
  refine qw (gU h₁ (fun _ s₁' h₁'=>?_) fun _ _ h'=>h'.elim);refine qw (gU h₁' (fun _ s₂ h₂=>qw (gU h₂ (fun ok s₃ h₃=>?_) fun _ _ h'=>h'.elim)) fun _ _ h'=>h'.elim);cases ok with
  |false=>exact qy ⟨rfl,h₃⟩
  |true=>
   exact qw (qw (gU h₃ (fun x s₄ h₄=>qw (gU h₄ (fun _ s₅ h₅=>qy (qy ⟨rfl,h₅⟩)) fun _ _ h'=>h'.elim)) fun _ _ h'=>h'.elim))
noncomputable def ix (X:Cx) (N':ac ah) (scope:Scope) (cl:ac (ah×av)) (C:av) (s₀:aG) (H₀:Hp) (fp:ac av):Cx:=
 {X with N:=N',s₀:=s₀,H₀:=H₀,env:=Ex scope cl C X.env,outer:=X.stack,stack:=X.stack,ex:=fp,fn:=fun _=>ao,pn:=[],xe:=fun _ _=>False}
noncomputable def ff (env:dc):ac (ah×gW)->ac (ah×av)->ac (ah×av)
 |[],acc=>acc
 |(n,k)::r,acc=>ff env r (if k==.free then (match env.cells.lookup n with|some c=>(n,c)::acc|none=>acc) else acc)
theorem Mm (h:∀y∈scope.names,y.2=.free->∃c,env.cells.lookup y.1=aa c):closureFor scope env=bA (ff env scope.names []):=by
 have all:∀(l:ac (ah×gW)) (acc:ac (ah×av)),(∀y∈l,y.2=.free->∃c,env.cells.lookup y.1=aa c)->
   (uM l acc fun x r=>match x with
    |(name,kind)=>if kind==.free then do let c ←cellOf env name;bA (rN ((name,c)::r)) else bA (rN r):Sem (ac (ah×av)))=bA (ff env l acc):=by
  intro l
  induction l with
  |nil=>intro acc _;rfl
  |cons y r ih=>
   intro acc hl;obtain⟨n,k⟩:=y;rw[List.forIn_cons];have hr:∀y∈r,y.2=.free->∃c,env.cells.lookup y.1=aa c:=fun y hy=>hl y (qh _ hy);unfold ff;cases hk:(k==nc) with
   |false=>
    simp only[hk,qq,c6,pure_bind];exact ih acc hr
   |true=>
    obtain⟨c,hc⟩:=hl (n,k) qg (by simpa using hk);have hc':env.cells.lookup n=aa c:=hc;simp only[hk,cu,cellOf,hc',pure_bind];exact ih _ hr
 have e:=all scope.names [] h;exact Ey (bind_pure _) e
theorem wm {env:dc}:∀(l:ac (ah×gW)) (acc:ac (ah×av)),(∀x c,acc.lookup x=aa c->env.cells.lookup x=aa c)->∀x c,(ff env l acc).lookup x=aa c->env.cells.lookup x=aa c
 |[],_,h=>h
 |(n,k)::r,acc,h=>by
  unfold ff;refine wm r _ ?_;split
  .split
   .rename_i c hc;intro x d hx;rw[oM] at hx;cases e:x==n with
    |true=>
     rw[e] at hx;have e':x=n:=by simpa using e
     have e2:c=d:=qF hx;rw[e',←e2];exact hc
    |false=>rw[e] at hx;exact h x d hx
   .exact h
  .exact h
theorem Ak {env:dc}:∀(l:ac (ah×gW)) (acc:ac (ah×av)) (x:ah),(acc.lookup x).isSome=ai->((ff env l acc).lookup x).isSome=ai
 |[],_,_,h=>h
 |(n,k)::r,acc,x,h=>by
  unfold ff;refine Ak r _ x ?_;split
  .split
   .rw[oM];split
    .rfl
    .exact h
   .exact h
  .exact h
theorem xr {env:dc}:∀(l:ac (ah×gW)) (acc:ac (ah×av)) (x:ah) (c:av),(x,nc)∈l->env.cells.lookup x=aa c->((ff env l acc).lookup x).isSome=ai
 |[],_,_,_,h,_=>nomatch h
 |(n,k)::r,acc,x,c,h,hc=>by
  unfold ff;rcases cA.mp h with e|h
  .injection e with e1 e2;subst e1;subst e2;refine Ak r _ _ ?_;rw[qW (by rfl),hc];simp
  .exact xr r _ x c h hc
theorem ua {env:dc}:∀(names:ac (ah×gW)) (x:ah) (k':gW),
  (names.map fun(n,k)=>if .(ab) then (n,yD) else (n,k)).lookup x=aa k'->
  names.lookup x=aa k'\/(k'=.cell/\names.lookup x=aa .free)
 |[],_,_,h=>by simp at h
 |(n,k)::r,x,k',h=>by
  have ih:=@ua env r x k';have h':dw x ((if .(ab)=ai then (n,yD) else (n,k))::(r.map fun(n,k)=>if .(ab) then (n,yD) else (n,k)))=aa k':=h;cases hx:x==n with
  |true=>
   by_cases hc:.(ab)=ai
   .rw[qW hc] at h';simp only[oM,hx] at h' ⊢;have hk:k=.free:=by simp only[cS,kF] at hc;exact hc.1.1
    right
    exact⟨(qF h').symm,by rw[hk]⟩
   .rw[qX hc] at h';simp only[oM,hx] at h' ⊢;exact .inl h'
  |false=>
   have h2:dw x (r.map fun(n,k)=>if .(ab) then (n,yD) else (n,k))=aa k':=by
    by_cases hc:.(ab)=ai
    .rw[qW hc] at h';simpa only[oM,hx] using h'
    .rw[qX hc] at h';simpa only[oM,hx] using h'
   simp only[oM,hx];exact ih h2
structure CompScope (X:Cx) (scope:Scope):Prop where
 kind:scope.kind=.function
 nocell:∀y∈scope.names,y.2≠.cell
 names:∀y∈scope.names,y.2=.local->scope.names.lookup y.1=aa .local
 free:∀y∈scope.names,y.2=.free->X.env.kindOf y.1=aa .cell\/X.env.kindOf y.1=aa .free
noncomputable def iK (fv:ac (ar al)) (σ:St):St:=fv.map fun o=>o.bind fun j=>(σ[j]?).join
variable {N':ac ah} {fv:ac (ar al)}
theorem AY (I:Inv X pins σ H s) (S:CompScope X scope):closureFor scope X.env=bA (ff X.env scope.names []):=
 Mm fun y hy hf=>I.ok.has y.1 (S.free y hy hf)
theorem HS (I:Inv X pins σ H s) (S:CompScope X scope) (hf:∀b∈fp,gL X pins H b) (hlt:∀b∈fp,b<s.heap.objs.size) (hC:s.heap.objs.size<=C) :
  (ix X N' scope (ff X.env scope.names []) C s H fp).Ok:=by
 have sub:=wm (env:=X.env) scope.names [] (fun x c h=>by simp at h);refine⟨I.ok.mod,S.kind,I.ok.glob,I.ok.blt,hC,fun x y c h1 h2=>I.ok.inj x y c (sub x c h1) (sub y c h2),fun x hx=>?_,fun x c h _=>by simp[ix] at h,I.ok.hd,I.ok.frames,.inl rfl,fun b hb=>⟨?_,fun x c e=>?_⟩,I.bs,qK I.ok.bsz I.sz,
  fun b o e hb=>?_,fun b hb=>?_,I.stack,I.stkFree⟩
 .have hx':((yE scope X.env).names.lookup x=aa .cell\/(yE scope X.env).names.lookup x=aa .free):=hx;have hfr:scope.names.lookup x=aa .free:=by
   rcases hx' with h|h
   .rcases ua _ _ _ h with h|⟨_,h⟩
    .exact bz rfl (S.nocell _ (m6 h))
    .exact h
   .rcases ua _ _ _ h with h|⟨h,_⟩
    .exact h
    .cases h
  have hm:=m6 hfr;obtain⟨c,hc⟩:=I.ok.has x (S.free _ hm rfl);exact gm.mp (xr _ _ x c hm hc)
 .exact qA (qD (hlt b hb) hC)
 .exact(hf b hb).2.2.2.2.1 x c (sub x c e)
 .rcases(hf b hb).2.2.2.1 with z|z
  .exact I.ok.noex b o e z
  .exact bz (qD (qu e) I.ok.bsz) (Ez.mpr z)
 .intro z;rcases cA.mp (I.stkSub b z) with e|e
  .exact(hf b hb).2.1 e
  .exact(hf b hb).2.2.1 e
theorem Pj (I:Inv X pins σ H s) (S:CompScope X scope) (hf:∀b∈fp,gL X pins H b) (hlt:∀b∈fp,b<s.heap.objs.size) (hC:C=s.heap.objs.size) (hlen:fv.length=N'.length)
  (hfv:∀(i j:al) x,N'[i]?=aa x->fv[i]?=aa (aa j)->X.N[j]?=aa x/\(X.env.kindOf x=aa .cell\/X.env.kindOf x=aa .free)/\scope.names.lookup x=aa .free) {m:ah->ar Value} (hn:h'.Ns C m) (hk:∀b o,s.heap.get? b=aa o->h'.get? b=aa o) :
  Inv (ix X N' scope (ff X.env scope.names []) C s H fp) [] (iK fv σ) H {s with heap:=h',toks:=t'}:=by
 have ok:=HS (N':=N') I S hf hlt (C:=C) (yj hC.symm);have sub:=wm (env:=X.env) scope.names [] (fun x c h=>by simp at h);refine⟨ok,rfl,I.bare,Un.kept hk,⟨m,hn,fun i x v e1 e2 e3=>?_⟩,fun x c e=>?_,?_,fun x c e=>I.freeC x c (sub x c e),fun p hp=>?_,I.hok.kept hk,?_⟩
 .have e1':N'[i]?=aa x:=e1;have e2':(iK fv σ)[i]?=aa (aa v):=e2;unfold iK at e2';rw[qk] at e2';cases q:fv[i]? with
  |none=>rw[q] at e2';cases e2'
  |some o=>
   rw[q] at e2';cases o with
   |none=>cases e2'
   |some j=>
    have e2'':(σ[j]?).join=aa v:=by simpa using e2'
    obtain⟨hN,hkk,hfree⟩:=hfv i j x e1' q;have hσ:σ[j]?=aa (aa v):=by
     cases z:σ[j]? with
     |none=>rw[z] at e2'';cases e2''
     |some w=>rw[z] at e2'';cases w with
      |none=>cases e2''
      |some w'=>simp at e2'';rw[e2'']
    obtain⟨m0,hn0,hl⟩:=I.loc;obtain⟨u,r,l⟩:=hl j x v hN hσ (.inr hkk);refine⟨u,r,.inr ⟨?_,?_⟩⟩
    .rcases e3 with z|z|z
     .have z':(yE scope X.env).names.lookup x=aa .local:=z;rcases ua _ _ _ z' with y|⟨y,_⟩
      .rw[hfree] at y;cases y
      .cases y
     .exact .inl z
     .exact .inr z
    .rcases l with⟨k,_⟩|⟨_,c,hc,hcell⟩
     .rcases hkk with y|y
      .rw[k] at y;cases y
      .rw[k] at y;cases y
     .obtain⟨c',hc'⟩:=gm.mp (xr scope.names [] x c (m6 hfree) hc);have e:=sub x c' hc';rw[hc] at e;cases e;obtain⟨oc,ho,hd⟩:=hcell;exact⟨c,hc',oc,hk _ _ ho,hd⟩
 .obtain⟨v,oc,ho,hd⟩:=I.cell x c (sub x c e);exact⟨v,oc,hk _ _ ho,hd⟩
 .exact I.hok.fresh (yj hC.symm)
 .exact bz (show p∈([]:ac (av×a8)) from hp) (by simp)
 .show(iK fv σ).length=N'.length;unfold iK;rw[qf,hlen]
theorem NW (I:Inv X pins σ H s) {cl:ac (ah×av)} (hf:∀b∈fp,gL X pins H b) (hC:s.heap.objs.size<=C) {σ':St} {pl:ac (av×a8)} 
  (J:Inv (ix X N' scope cl C s H fp) pl σ' H' s') (hs:ii C s'.heap h'):Inv X pins σ H' {s' with heap:=h'}:=by
 have hCn:H' C=ab:=J.free;refine I.call' (ch:=fp) (s':={s' with heap:=h'}) J.os ?_ ?_ J.bare fun b hb=>⟨(hf b hb).2.2.2.1,(hf b hb).2.1,(hf b hb).2.2.2.2.1,(hf b hb).2.2.2.2.2⟩
 .have U:Un (frs X.stack) fp H H' s.heap s'.heap:=J.base;have neC:∀b o,s.heap.get? b=aa o->b≠C:=fun b o e=>qA (qD (qu e) hC);refine⟨fun b o e n h1 h2=>?_,fun b o e n h1 h2=>?_,U.free,fun b o e h2=>?_,U.tups,U.frzs,U.tbls⟩
  .exact(hs.2 b (neC b o e)).trans (U.keep b o e n h1 h2)
  .obtain⟨sl,q⟩:=U.slot b o e n h1 h2;exact⟨sl,(hs.2 b (neC b o e)).trans q⟩
  .obtain⟨o',q⟩:=U.there b o e h2;exact⟨o',(hs.2 b (neC b o e)).trans q⟩
 .intro b u e;refine(J.hok b u e).stay (fun c v hc q=>(hs.2 c ?_).trans q) (fun _ q=>q) fun _ _ q=>q;rintro rfl;rcases hc with z|z
  .rw[←z,hCn] at e;cases e
  .rw[hCn] at z;cases z
noncomputable def PTs (X:Cx) (es:ac Expr) (t:TT):Prop:=
 ∀(pins:ac (av×a8)) (s:aG) (σ:St) (H:Hp) (Q:aN->Hp->Prop),Inv X pins σ H s->t σ H Q->
  aK .(r) X.A (uM es ai fun c r=>if r=ai then do let ok ←isTrue c X.env (eval c X.env);bA (rN ok) else bA (rN r)) (TP X pins σ Q) X.xe s
noncomputable def Fu:TT:=fun _ H Q=>Q ai H
theorem Oq :PTs X [] Fu:=fun _ _ _ H _ I h=>wpAny_tests_nil ⟨H,I,h⟩
theorem Ff {t:TT} (hc:PT X c t):PTs X [c] t:=fun pins s σ H Q I h=>wpAny_tests_one (hc pins s σ H Q I h)
noncomputable def LcW (J:It) (g:TG) (tc:TT) (te:TE) (acc:av) (Q:V->Hp->Prop) (σ0:St) (H1:Hp):Prop:=
 ∃W:al->al->ac V->St->Hp->Prop,(∃m,W 0 m [] σ0 (upd H1 acc (.lst [])))/\∀i m ys σ' H',W i m ys σ' H'->H' acc=aa (.lst ys) /\
  ((J.stop i H'/\Q (.ref acc) H')\/(J.go i H'/\∀x H2,J.yld i H' x H2->g x σ' H2 fun σ2 H3=>tc σ2 H3 fun b H4=>
   if b=ai then te σ2 H4 fun v H5=>H5 acc=aa (.lst ys)/\ys.length<aT/\∃m',m'<m/\W (i+1) m' (ys++[v]) σ2 (upd H5 acc (.lst (ys++[v])))
   else ∃m',m'<m/\W (i+1) m' ys σ2 H4))
noncomputable def tLC (wi:TI) (g:TG) (tc:TT) (te:TE) (fv:ac (ar al)):TE:=fun σ H Q=>wi σ H fun J H1=>∀acc,H1 acc=ab->LcW J g tc te acc Q (iK fv σ) H1
noncomputable def PB (X:Cx) (N':ac ah) (scope:Scope) (tg:Expr) (ifs:ac Expr) (elt:Expr) (g:TG) (tc:TT) (te:TE):Prop:=
 ∀(cl:ac (ah×av)) (C:av) (s₀:aG) (H₀:Hp) (fp:ac av),PG (ix X N' scope cl C s₀ H₀ fp) tg g/\PTs (ix X N' scope cl C s₀ H₀ fp) ifs tc/\PE (ix X N' scope cl C s₀ H₀ fp) elt te
structure FvOk (X:Cx) (N':ac ah) (scope:Scope) (fv:ac (ar al)):Prop where
 len:fv.length=N'.length
 at':∀(i j:al) x,N'[i]?=aa x->fv[i]?=aa (aa j)->X.N[j]?=aa x/\(X.env.kindOf x=aa .cell\/X.env.kindOf x=aa .free)/\scope.names.lookup x=aa .free
variable {spos:dn}
section
variable {g:TG}
theorem A8 {s2:aG} {it:av} {tn:al->Heap->Prop} {J:It} {Q:VK} {RR:Value->av->Result->aG->Prop} (hc:X.calm=ai) (S:CompScope X scope) (F:FvOk X N' scope fv) (hb:PB X N' scope tg ifs elt g tc te)
  (I2:Inv X pins σ H1 s2) (T:Turn X.prog X.w X.K tg J fp it tn) (st2:tn 0 s2.heap) (f2:∀b∈fp,gL X pins H1 b) (q:∀acc,H1 acc=ab->LcW J g tc te acc Q (iK fv σ) H1)
  (hRR:∀(a C:av) (H':Hp) (s':aG) (m:ah->ar Value),s'.heap.Ns C m->(∀h',ii C s'.heap h'->Inv X pins σ H' {s' with heap:=h'})->gL X pins H' C->Q (.ref a) H'->RR (.ref a) C (.ok .next) s') :
  aK .(r) X.A (newList []) (fun acc s₃=>aK .(r) X.A (newFunctionEnv scope X.env.globals (ff X.env scope.names []) [] X.env.qual ab .none (aa X.env)) (fun cenv s₄ =>
   ik .(r) X.A (.compStart .(G) 0 (.ref it) acc {cenv with scope:=yE scope X.env}) (RR acc cenv.locals) s₄) X.xe s₃) X.xe s2:=by
 refine lL ?_;have hacc:H1 s2.heap.objs.size=ab:=I2.fresh;have I3:Inv X pins σ (upd H1 s2.heap.objs.size (.lst [])) {s2 with heap:=s2.heap.push {cls:=.type "list",data:=.seq ([]:ac Value).toArray} }:=I2.lnew (t':=s2.toks) .nil (gV _);generalize hs3:({s2 with heap:=s2.heap.push {cls:=.type "list",data:=.seq ([]:ac Value).toArray} }:aG)=s3 at I3 ⊢;have up:∀b o,s2.heap.get? b=aa o->s3.heap.get? b=aa o:=fun b o e=>by rw[←hs3];exact qt _ e
 have lt2:∀b∈fp,b<s2.heap.objs.size:=fun b hb=>by obtain⟨o,e,_⟩:=T.obj 0 _ st2 b hb;exact qu e
 have sz3:s2.heap.objs.size<s3.heap.objs.size:=by rw[←hs3];show _<(s2.heap.push _).objs.size;rw[mZ];exact uI _
 have lt3:∀b∈fp,b<s3.heap.objs.size:=fun b hb=>rJ (lt2 b hb) sz3;have f3:∀b∈fp,gL X pins (upd H1 s2.heap.objs.size (.lst [])) b:=fun b hb=>⟨by rw[a6 (qA (lt2 b hb))];exact(f2 b hb).1,(f2 b hb).2⟩;have st3:tn 0 s3.heap:=T.keep _ _ _ st2 fun b _ o e=>up b o e;refine wpAny_newFunctionEnv S.nocell (by intro y hy;simp at hy) (fun h4 hn4 sb4=>?_) S.kind;have k4:∀b o,s3.heap.get? b=aa o->h4.get? b=aa o:=fun b o e=>(sb4.2 b (qA (qu e))).trans (qt _ e);have st4:tn 0 h4:=T.keep _ _ _ st3 fun b _ o e=>k4 b o e;have I4:=Pj I3 S f3 lt3 (C:=s3.heap.objs.size) rfl F.len F.at' hn4 k4 (t':=s3.toks+([]:ac (ah×Value)).length);generalize hX:ix X N' scope (ff X.env scope.names []) s3.heap.objs.size s3 (upd H1 s2.heap.objs.size (.lst [])) fp=X' at I4;obtain⟨bg,bt,be⟩:=hb (ff X.env scope.names []) s3.heap.objs.size s3 (upd H1 s2.heap.objs.size (.lst [])) fp;rw[hX] at bg bt be;have hprog:X'.prog=X.prog:=by rw[←hX];rfl
 have hw:X'.w=X.w:=by rw[←hX];rfl
 have hK:X'.K=X.K:=by rw[←hX];rfl
 have hA:X'.A=X.A:=by rw[←hX];rfl
 have hcalm:X'.calm=ai:=by rw[←hX];exact hc
 have hxe:X'.xe=fun _ _=>False:=by rw[←hX];rfl
 have henv:X'.env=Ex scope (ff X.env scope.names []) s3.heap.objs.size X.env:=by rw[←hX];rfl
 have stat:∀{H':Hp},(∀b∈fp,H' b=ab)->∀b∈fp,gL X' [] H' b:=fun {H'} hn b hb=>by have f:=f3 b hb;have ok:=I4.ok;refine⟨hn b hb,(ok.exf b (by rw[←hX];exact hb)).1,ok.exfs b (by rw[←hX];exact hb),.inl (by rw[←hX];exact hb),fun x c e=>(ok.exf b (by rw[←hX];exact hb)).2 x c e,fun p hp=>?_⟩;rw[←hX] at hp;exact bz (show p∈([]:ac (av×a8)) from hp) (by simp)
 obtain⟨W,⟨m0,w0⟩,turn⟩:=q s2.heap.objs.size hacc;have loop:∀s5:aG,s5={s3 with heap:=h4,toks:=s3.toks+([]:ac (ah×Value)).length} ->
   ik .(r) X.A (.compLoop .(G) 0 (.ref it) (.ref s2.heap.objs.size) (Ex scope (ff X.env scope.names []) s3.heap.objs.size X.env))
    (RR (.ref s2.heap.objs.size) s3.heap.objs.size) s5:=by
  intro s5 hs5;refine Lg (fun n s'=>∃i ys σ' H',Inv X' [] σ' H' s'/\tn i s'.heap/\(∀b∈fp,H' b=ab)/\W i n ys σ' H') ?_ m0 ⟨0,[],iK fv σ,_,hs5▸I4,hs5▸st4,fun b hb=>(f3 b hb).1,w0⟩;rintro n s6 ⟨i,ys,σ6,H6,I6,st6,fr6,w6⟩;obtain⟨ha6,turn6⟩:=turn i n ys σ6 H6 w6;rw[←henv];rcases turn6 with⟨stop,qn⟩|⟨go,step⟩
  .have d:=T.done X' hprog hw hK hcalm i [] s6 σ6 H6 (fun _ _=>False) I6 (stat fr6) st6 stop;rw[hA] at d;refine thn d fun r s7 ⟨hr,I7⟩=>?_;subst hr;obtain⟨m7,hn7,_⟩:=I7.loc;have hl:X'.env.locals=s3.heap.objs.size:=by rw[henv];rfl
   refine hRR _ _ H6 s7 m7 (hl▸hn7) (fun h' hs'=>?_) ?_ qn
   .rw[←hX] at I7;exact NW I3 f3 (qv _) I7 hs'
   .exact I3.fpOk (qv _) (by have:=I7.free;rw[hl] at this;exact this)
  .have d:=T.item X' hprog hw hK hcalm i [] s6 σ6 H6 (fun _ _=>False) I6 (stat fr6) st6 go;rw[hA] at d;refine thn d fun r s7 ⟨u,hr,h7⟩=>?_;subst hr;refine thn h7 fun _ s8 ⟨x,H8,I8,r8,y8,st8,fr8⟩=>?_;have I8':=I8.pinned (stat fr8) (T.obj _ _ st8);have dg:=bg _ s8 σ6 H8 x u _ I8' r8 (step x H8 y8);rw[hprog,hw,hA,hxe] at dg;refine thn dg fun _ s9 ⟨σ9,H9,I9,q9⟩=>?_;have dt:=bt _ s9 σ9 H9 _ I9 q9;rw[hprog,hw,hA,hxe] at dt;refine thn dt fun b s10 ⟨H10,I10,q10⟩=>?_;have again:∀{σ7:St} {H7:Hp} {s7:aG} {ys':ac V},Inv X' ([]++pd fp s8.heap) σ7 H7 s7->(∃m',m'<n/\W (i+1) m' ys' σ7 H7)->∃m,m<n/\∃i ys σ' H',Inv X' [] σ' H' s7/\tn i s7.heap/\(∀b∈fp,H' b=ab)/\W i m ys σ' H':=fun {σ7 H7 s7 ys'} I7 n7=>by obtain⟨m',hm,w7⟩:=n7;refine⟨m',hm,i+1,ys',σ7,H7,I7.unpinned,T.keep _ _ _ st8 fun b hb o e=>(I7.pin (b,o) (qO _ (qO _ (ti hb e)))).1,fun b hb=>?_,w7⟩;obtain⟨o,e,_⟩:=T.obj _ _ st8 b hb;exact(I7.pin (b,o) (qO _ (qO _ (ti hb e)))).2.1
   cases b with
   |false=>
    rw[qX qr] at q10 ⊢;exact again I10 q10
   |true=>
    rw[qW rfl] at q10 ⊢;have de:=be _ s10 σ9 H10 _ I10 q10;rw[hprog,hw,hA,hxe] at de;refine thn de fun v s11 ⟨y,H11,I11,r11,ha11,hz11,n11⟩=>?_;have da:=Ct _ s11 σ9 H11 (.ref s2.heap.objs.size) [y] (.ref s2.heap.objs.size) [v] (fun _ H'=>H'=upd H11 s2.heap.objs.size (.lst (ys++[y]))) I11 rfl (.cons r11 .nil) ⟨_,ys,y,rfl,rfl,ha11,hz11,rfl⟩;rw[hprog,hw,hA,hxe] at da;refine thn da fun _ s12 ⟨_,H12,I12,_,e12⟩=>?_;subst e12;exact again I12 n11
 exact codeAny_compStart_list (loop _ rfl) (T.self _ 0 _ _ _ st4 (loop _ rfl))
theorem MX (hc:X.calm=ai) (S:CompScope X scope) (F:FvOk X N' scope fv) (hi:PI X tg iter wi) (hb:PB X N' scope tg ifs elt g tc te) (hs:∀x,oE iter X.env x=bA x:=by intro _;rfl) :
  PE X .(G) (tLC wi g tc te fv):=by
 intro pins s σ H Q I h;rw[eval_ListComp];refine Qg (use:=ab) rfl hs (AY I S) S.kind S.names (thn (hi pins s σ H _ I h) fun x s1 h1=>thn h1 fun itv s2 h2=>?_);obtain⟨it,fp,tn,J,H1,e,I2,T,st2,f2,q⟩:=h2;subst e;refine A8 (RR:=fun acc C=>compPost .(r) X.A X.xe ab (EP X pins σ Q) acc C) hc S F hb I2 T st2 f2 q ?_;intro a C H' s' m hn hI hCL hq;exact⟨m,hn,fun h' hs'=>⟨.ref a,H',hI h' hs',rfl,hq⟩⟩
theorem BS {y:ah} (hN:X.N.Nodup) (hy:X.N[i]?=aa y) (hyl:X.env.scope.names.lookup y=aa .local) (hc:X.calm=ai) (S:CompScope X scope) (F:FvOk X N' scope fv) (hi:PI X tg iter wi) (hb:PB X N' scope tg ifs elt g tc te)
  (hsw:fW .(G) (aa (.Name y py)) spos.line X.env=bA ai)
  (hs:∀x,oE iter X.env x=bA x:=by intro _;rfl) :
  PS X (.Assign [.Name y py] .(G) spos) (pi (tLC wi g tc te fv) (o4 i)):=by
 intro pins s σ H D I h;rw[exec_Assign_Name_used _ _ _ _ hsw];refine qw (D2 (qw ?_));show aK _ _ (do let _ ←comprehension .(G) scope X.env _ (newList []) ao (eval iter X.env) (aa (kC (.Name y py) X.env))) _ _ s;refine qw (gU (Qg (use:=aa (kC (.Name y py) X.env)) (Q:=fun _ s'=>SP X pins D .next s') rfl hs (AY I S) S.kind S.names
  (thn (hi pins s σ H _ I h) fun x s1 h1=>thn h1 fun itv s2 h2=>?_)) (fun _ s' hq=>qy (qy hq)) fun _ _ e=>e)
 obtain⟨it,fp,tn,J,H1,e,I2,T,st2,f2,q⟩:=h2;subst e;refine A8 (RR:=fun acc C=>compPost .(r) X.A X.xe (aa (kC (.Name y py) X.env)) (fun _ s'=>SP X pins D .next s') acc C) hc S F hb I2 T st2 f2 q ?_;intro a C H' s' m hn hI hCL hq;show aK _ _ (kC (.Name y py) X.env (.ref a)) _ _ _;have I':Inv X pins σ H' s':=hI s'.heap (EA _ _);refine Pz ?_;refine Cq (v:=.ref a) I' hN hy (.inl hyl) rfl (fun s'' I'' hch=>?_) (.inr hyl);obtain⟨ad,hsb,had⟩:=hch;obtain⟨f0,f1,f2',f3,f4,f5⟩:=hCL;have hne:C≠ad:=by
  rcases had with z|z
  .rw[z];exact f1
  .exact fun e=>f4 y ad z e.symm
 refine⟨m,hn.sameBut hsb hne,fun h' hs'=>?_⟩;exact⟨_,H',I''.turned (t':=s''.toks) (fun b o hb e=>(hs'.2 b hb).trans e) f0 f1 f3 f4 f5,hq⟩
end
noncomputable def Its (x:ah):It:=⟨fun i _=>i<x.cps.size,fun i H v H'=>H'=H/\∃c,x.cps[i]?=aa c/\v=.str ⟨#[c]⟩,fun i _=>i=x.cps.size⟩
theorem IV {M:uB} {E:Value->aG->Prop} {n:ah} {it:Value} {Q:mW->aG->Prop} (hQ:Q () s):aK M A (uD (.Name n p) it u) Q E s:=qy hQ
theorem Di {P:bU} {n:ah} {ty:db} (it:av) (x:ah) (t:Tok)
  (W:∀A:eF,A.handled=ab->Walks P w A it [it] [it] x.cps.size (SignAt x) (fun i h=>h.IsStrIter it ty x t i))
  (sf:∀(A:eF) (i:al) (s:aG) (Q:Value->aG->Prop) (E:Value->aG->Prop),s.heap.IsStrIter it ty x t i->Q (.ref it) s->aK (aQ P w) A (oC (.ref it)) Q E s):Turn P w K (.Name n p) (Its x) [it] it (fun i h=>h.IsStrIter it ty x t i) where
 mem:=by simp
 obj:=fun i h st b hb=>by
  have e:b=it:=by simpa using hb
  subst e;obtain⟨o,e,c,d⟩:=st;exact⟨o,e,fun v z=>by rw[d] at z;cases z⟩
 keep:=fun i h h' st k=>by obtain⟨o,e,r⟩:=st;exact⟨o,k it (by simp) o e,r⟩
 item:=by intro X hP hw hK hc i pins s σ H E I hf st hg;subst hP hw hK;obtain⟨f0,f1,f2,f3,f4,f5⟩:=hf it (by simp);refine(W X.A (I.ok.hd hc)).item i s _ _ hg st fun v h' tk hv st' kk=>?_;obtain⟨c,u,hcc,rfl⟩:=hv;have I1:Inv X pins σ H {s with heap:=h',toks:=tk}:=I.turned (fun b o hb e=>kk b o (by simpa using hb) e) f0 f1 f3 f4 f5;exact⟨_,rfl,IV ⟨.str ⟨#[c]⟩,H,I1,⟨_,rfl⟩,⟨rfl,c,hcc,rfl⟩,st',fun b hb=>(hf b hb).1⟩⟩
 done:=by intro X hP hw hK hc i pins s σ H E I hf st hg;subst hP hw hK;obtain⟨f0,f1,f2,f3,f4,f5⟩:=hf it (by simp);have hi:i=x.cps.size:=hg;subst hi;exact(W X.A (I.ok.hd hc)).done s _ _ st fun h' tk kk=>⟨rfl,I.turned (fun b o hb e=>kk b o (by simpa using hb) e) f0 f1 f3 f4 f5⟩
 self:=sf
noncomputable def Jn (te:TE):TI:=fun σ H R=>te σ H fun v H1=>∃x,v=.str x/\R (Its x) H1
theorem Ni {n:ah} (he:PE X e te):PI X (.Name n p) e (Jn te):=by
 intro pins s σ H R I h;refine thn (he pins s σ H _ I h) fun v s1 ⟨y,H1,I1,r1,q1⟩=>?_;obtain⟨x,e,q⟩:=q1;subst e;obtain⟨t,rfl⟩:=r1;have fin:∀(ty:db) (o:a8),(s1.heap.push o).IsStrIter s1.heap.objs.size ty x t 0->Turn X.prog X.w X.K (.Name n p) (Its x) [s1.heap.objs.size] s1.heap.objs.size (fun i h=>h.IsStrIter s1.heap.objs.size ty x t i)->
   PIE X pins σ (.Name n p) R (.ref s1.heap.objs.size) {s1 with heap:=s1.heap.push o}:=fun ty o st T=>by
  refine⟨s1.heap.objs.size,[s1.heap.objs.size],_,_,H1,rfl,I1.kept (t':=s1.toks) fun b o e=>qt _ e,T,st,fun b hb=>?_,q⟩;have e:b=s1.heap.objs.size:=by simpa using hb
  subst e;exact I1.fpOk (qv _) (I1.hok.fresh (qv _))
 cases ha:x.cps.all (· < 128)
 .exact wpAny_pyIter_wide ha (fin _ _ ⟨_,qE _ rfl,rfl,rfl⟩ (Di _ x t (fun A' hA=>Walks.strWide hA _ x t) fun _ _ _ _ _ st h=>wpAny_pyIter_striter_wide st h))
 .exact wpAny_pyIter_ascii ha (fin _ _ ⟨_,qE _ rfl,rfl,rfl⟩ (Di _ x t (fun A' hA=>Walks.strAscii hA _ x t) fun _ _ _ _ _ st h=>wpAny_pyIter_striter_ascii st h))
noncomputable def Ite (K:bh) (a:av):It:=
 ⟨fun i H=>∃xs x,SqL K H a xs/\xs[i]?=aa x,fun i H v H'=>∃T x,v=.ref T/\H T=ab/\H'=upd H T (.tup [.int i,x])/\∀xs,SqL K H a xs->xs[i]?=aa x,fun i H=>∃xs,SqL K H a xs/\xs.length<=i⟩
variable {elts:ac Expr}
theorem G6 {P:bU} {k1:al} (e it a:av) (hei:e≠it) :
  Turn P w K (.Tuple elts k1 pos) (Ite K a) [e,it] e (fun i h=>(∃old,IsEnum h e it i old)/\h.IsListIter it a i) where
 mem:=by simp
 obj:=fun i h st b hb=>by
  obtain⟨⟨old,he⟩,o,ho,c,d⟩:=st;rcases cA.mp hb with z|z
  .subst z;exact⟨_,he,fun v z=>by cases z⟩
  .have z':b=it:=by simpa using z
   subst z';exact⟨o,ho,fun v z=>by rw[d] at z;cases z⟩
 keep:=fun i h h' st k=>by obtain⟨⟨old,he⟩,hi⟩:=st;exact⟨⟨old,k e (by simp) _ he⟩,hi.at fun o x=>k it (by simp) o x⟩
 item:=by
  intro X hP hw hK hc i pins s σ H E I hf st hg;subst hP hw hK;obtain⟨xs,x,hq,hx⟩:=hg;obtain⟨its,rv,p,hz⟩:=I.list hq;obtain⟨u,hu,ru⟩:=rv.get hx;obtain⟨⟨old,he⟩,hit⟩:=st;obtain⟨e0,e1,e2,e3,e4,e5⟩:=hf e (by simp);obtain⟨f0,f1,f2,f3,f4,f5⟩:=hf it (by simp);have helt:e<s.heap.objs.size:=qu he;have hilt:it<s.heap.objs.size:=by obtain⟨_,x,_⟩:=hit;exact qu x
  refine wpAny_pyNext_enum_item he hit p.isList (x:=u) (by simpa using hu) hei fun h' ho hit' hT hsz hk=>?_;refine⟨_,rfl,wpAny_letOwnedTupleGo_enum ho fun h2 he2 hs2=>?_⟩;have hs2':ii e h' h2:=hs2;have kk:∀b o,b≠e->b≠it->s.heap.get? b=aa o->h2.get? b=aa o:=fun b o h1 h3 q=>(hs2'.2 b h1).trans (hk b o h1 h3 q);have hT2:h2.get? s.heap.objs.size=aa {cls:=.type "tuple",data:=.seq #[.int i s.toks,u]}:=(hs2'.2 _ (yd helt)).trans hT;have nH:H s.heap.objs.size=ab:=I.fresh;have I1:Inv X pins σ (upd H s.heap.objs.size (.tup [.int i,x])) {s with heap:=h2,toks:=s.toks+1}:=by
   have ne:∀b o,H b=aa o->b≠e/\b≠it:=fun b o q=>⟨fun z=>(by rw[z,e0] at q;cases q),fun z=>(by rw[z,f0] at q;cases q)⟩;refine I.step (g':=s.gens) (d':=s.drawn) (ch:=[e,it]) (fun b hb=>?_) (fun b o _ _ hc q _=>kk b o (fun z=>hc (by simp[z])) (fun z=>hc (by simp[z])) q) (fun b o _ _ hc q _=>⟨o.slots,kk b o (fun z=>hc (by simp[z])) (fun z=>hc (by simp[z])) q⟩) (fun b o _ q n=>?_)
    (fun b o hc q=>⟨o,kk b o (fun z=>hc (by simp[z])) (fun z=>hc (by simp[z])) q⟩) (fun b ys q=>?_) (fun b o y q=>?_) (fun b ps q=>⟨#[],?_⟩) (fun m hm=>?_) (fun b v q=>?_) I.bare
   .rcases cA.mp hb with z|z
    .subst z;exact⟨e3,e1,e4,e5⟩
    .have z':b=it:=by simpa using z
     subst z';exact⟨f3,f1,f4,f5⟩
   .rw[a6 (qA (qu q))];exact n
   .rw[a6 (ce q nH)];exact q
   .rw[a6 (ce q nH)];exact q
   .rw[a6 (ce q nH),q];simp
   .obtain⟨o,es,ep,q,r⟩:=hm;exact⟨o,es,ep,kk _ o (df e1) (df f1) q,r⟩
   .by_cases hb:b=s.heap.objs.size
    .subst hb;rw[cc] at q;cases q;exact⟨by show 2<=aT;decide,[.int i s.toks,u],.cons ⟨_,rfl⟩ (.cons ru .nil),⟨_,hT2,rfl,_,rfl⟩⟩
    .rw[a6 hb] at q;refine(I.hok b v q).stay (fun c v hc r=>?_) (fun c r=>by rw[a6 (ce r nH)];exact r) fun c ys r=>by rw[a6 (ce r nH)];exact r
     rcases hc with z|z
     .rw[z] at r ⊢;exact kk b v (ne b _ q).1 (ne b _ q).2 r
     .exact kk c v (ne c _ z).1 (ne c _ z).2 r
  refine⟨.ref s.heap.objs.size,_,I1,rfl,⟨_,x,rfl,nH,rfl,fun ys hy=>by rw[I.list_inj hy hq];exact hx⟩,⟨⟨_,by simpa using he2⟩,hit'.at fun o y=>(hs2'.2 it hei.symm).trans y⟩,fun b hb=>?_⟩;rcases cA.mp hb with z|z
  .subst z;rw[a6 (qA helt)];exact e0
  .have z':b=it:=by simpa using z
   subst z';rw[a6 (qA hilt)];exact f0
 done:=by intro X hP hw hK hc i pins s σ H E I hf st hg;subst hP hw hK;obtain⟨xs,hq,hx⟩:=hg;obtain⟨its,rv,p,hz⟩:=I.list hq;obtain⟨⟨old,he⟩,hit⟩:=st;obtain⟨f0,f1,f2,f3,f4,f5⟩:=hf it (by simp);have hl:=rv.length;exact wpAny_pyNext_enum_end (I.ok.hd hc) he hit p.isList (by simp;omega) fun h' eb=>⟨rfl,I.turned (t':=s.toks) (fun b o hb e=>eb b o hb e) f0 f1 f3 f4 f5⟩
 self:=fun A i s Q E st h=>by obtain⟨⟨old,he⟩,_⟩:=st;exact Qh he h
noncomputable def Gx (K:bh) (ta:TA):TI:=fun σ H R=>ta σ H fun vs H1=>∃a,vs=[.ref a]/\(∃xs,SqL K H1 a xs)/\R (Ite K a) H1
theorem G7 {a:Expr} {ta:TA} {k1:al} (hg:Gl X "enumerate") (hm:X.mg "enumerate"=ab) (ha:PA X [a] ta) (hs:a7 [a] X.env=[(ao,eval a X.env)]:=by rfl) :
  PI X (.Tuple elts k1 tpos) (.Call (.Name "enumerate" p) [a] [] pos) (Gx X.K ta):=by
 intro pins s σ H R I h;refine Call_ (n8 I hg hm Se (ye (thn (ha pos pins s σ H _ I h) fun us s1 ⟨vs,H1,I1,r1,q1⟩=>?_) hs rfl));obtain⟨l,e,⟨xs,hq⟩,q⟩:=q1;subst e;obtain⟨u,rfl,r2⟩:=fu r1;cases r2;obtain⟨its,rv,pl,hz⟩:=I1.list hq;refine call_enumerate_list pl.isList fun h' he hit hsz hk=>?_;have I2:Inv X pins σ H1 {s1 with heap:=h'}:=I1.kept (t':=s1.toks) hk;refine Qh he ?_;refine⟨s1.heap.objs.size+1,[s1.heap.objs.size+1,s1.heap.objs.size],_,_,H1,rfl,I2,G6 _ _ l (Nat.succ_ne_self _),⟨⟨_,he⟩,hit⟩,fun b hb=>?_,q⟩;rcases cA.mp hb with z|z
 .subst z;exact I1.fpOk (lO _) (I1.hok.fresh (lO _))
 .have z':b=s1.heap.objs.size:=by simpa using z
  subst z';exact I1.fpOk (qv _) (I1.hok.fresh (qv _))
inductive D where
 |non|bl (b:aN)|int (i:ag)|str (x:ah)|tup (l:ac D)|lst (l:ac D)|scr (ns:ac ag)
 |dk (l:ac (Key×D))|fdk (l:ac (Key×D))|dt (l:ac (ac Key×D))|ins (c:ah) (fs:ac (ah×D))|ty (n:db)
noncomputable def xl:Key->D
 |.inl i=>.int i
 |.inr x=>.str x
structure Cn where
 cls:ah->ar av
 self:ar av:=ab
mutual
inductive Rep (Γ:Cn) (K:bh) (G:Hp):V->D->Prop where
 |non:Rep Γ K G .non .non
 |bl (b:aN):Rep Γ K G (.bl b) (.bl b)
 |int (i:ag):Rep Γ K G (.int i) (.int i)
 |str (x:ah):Rep Γ K G (.str x) (.str x)
 |ty (n:db):Rep Γ K G (.ty n) (.ty n)
 |tup {a:av} {vs:ac V} {ds:ac D}:G a=aa (.tup vs)->Reps Γ K G vs ds->Rep Γ K G (.ref a) (.tup ds)
 |lst {a:av} {vs:ac V} {ds:ac D}:G a=aa (.lst vs)->Reps Γ K G vs ds->Rep Γ K G (.ref a) (.lst ds)
 |scr {a:av} {ns:ac ag}:SqL K G a (ns.map V.int)->Rep Γ K G (.ref a) (.scr ns)
 |dk {a:av} {us:ac (Key×V)} {kvs:ac (Key×D)}:G a=aa (.dK us)->us.map (·.1)=kvs.map (·.1)->Reps Γ K G (us.map (·.2)) (kvs.map (·.2))->Rep Γ K G (.ref a) (.dk kvs)
 |fdk {a:av} {o:a8} {us:ac (Key×V)} {kvs:ac (Key×D)}:G a=aa (.frz o (.dK us))->us.map (·.1)=kvs.map (·.1)->Reps Γ K G (us.map (·.2)) (kvs.map (·.2))->Rep Γ K G (.ref a) (.fdk kvs)
 |dt {a:av} {us:ac (ac Key×V)} {kvs:ac (ac Key×D)}:G a=aa (.dT us)->us.map (·.1)=kvs.map (·.1)->Reps Γ K G (us.map (·.2)) (kvs.map (·.2))->Rep Γ K G (.ref a) (.dt kvs)
 |ins {a C dx:av} {c:ah} {us:ac (ah×V)} {fs:ac (ah×D)}:G a=aa (.ins C dx us)->Γ.cls c=aa C->us.map (·.1)=fs.map (·.1)->Reps Γ K G (us.map (·.2)) (fs.map (·.2))->Rep Γ K G (.ref a) (.ins c fs)
inductive Reps (Γ:Cn) (K:bh) (G:Hp):ac V->ac D->Prop where
 |nil:Reps Γ K G [] []
 |cons {v:V} {d:D} {vs:ac V} {ds:ac D}:Rep Γ K G v d->Reps Γ K G vs ds->Reps Γ K G (v::vs) (d::ds)
end
variable {Γ:Cn} {G G' G1:Hp}
section
variable {G2:Hp}
mutual
theorem Rep.mono:∀{v:V} {d:D},Rep Γ K G v d->bK G G'->Rep Γ K G' v d
 |_,_,.non,_=>.non
 |_,_,.bl b,_=>.bl b
 |_,_,.int i,_=>.int i
 |_,_,.str x,_=>.str x
 |_,_,.ty x,_=>.ty x
 |_,_,.tup h r,s=>.tup (s _ _ h) (r.mono s)
 |_,_,.lst h r,s=>.lst (s _ _ h) (r.mono s)
 |_,_,.scr h,s=>.scr (s.seq h)
 |_,_,.dk h e r,s=>.dk (s _ _ h) e (r.mono s)
 |_,_,.fdk h e r,s=>.fdk (s _ _ h) e (r.mono s)
 |_,_,.dt h e r,s=>.dt (s _ _ h) e (r.mono s)
 |_,_,.ins h c e r,s=>.ins (s _ _ h) c e (r.mono s)
theorem Reps.mono:∀{vs:ac V} {ds:ac D},Reps Γ K G vs ds->bK G G'->Reps Γ K G' vs ds
 |_,_,.nil,_=>.nil
 |_,_,.cons h r,s=>.cons (h.mono s) (r.mono s)
end
mutual
theorem Rep.re {Γ':Cn} (hc:Γ'.cls=Γ.cls):∀{v:V} {d:D},Rep Γ K G v d->Rep Γ' K G v d
 |_,_,.non=>.non
 |_,_,.bl b=>.bl b
 |_,_,.int i=>.int i
 |_,_,.str x=>.str x
 |_,_,.ty x=>.ty x
 |_,_,.tup h r=>.tup h (r.re hc)
 |_,_,.lst h r=>.lst h (r.re hc)
 |_,_,.scr h=>.scr h
 |_,_,.dk h e r=>.dk h e (r.re hc)
 |_,_,.fdk h e r=>.fdk h e (r.re hc)
 |_,_,.dt h e r=>.dt h e (r.re hc)
 |_,_,.ins h c e r=>.ins h (by rw[hc];exact c) e (r.re hc)
theorem Reps.re {Γ':Cn} (hc:Γ'.cls=Γ.cls):∀{vs:ac V} {ds:ac D},Reps Γ K G vs ds->Reps Γ' K G vs ds
 |_,_,.nil=>.nil
 |_,_,.cons h r=>.cons (h.re hc) (r.re hc)
end
theorem Reps.length:∀{vs:ac V} {ds:ac D},Reps Γ K G vs ds->vs.length=ds.length
 |_,_,.nil=>rfl
 |_,_,.cons _ r=>by rw[qi,qi,r.length]
theorem Reps.get:∀{vs:ac V} {ds:ac D} {i:al} {d:D},Reps Γ K G vs ds->ds[i]?=aa d->∃v,vs[i]?=aa v/\Rep Γ K G v d
 |_,_,_,_,.nil,e=>by simp at e
 |_,_,0,_,.cons r _,e=>by simp at e;subst e;exact⟨_,rfl,r⟩
 |_,_,i+1,d,.cons _ t,e=>by obtain⟨u,h1,h2⟩:=Reps.get (i:=i) (d:=d) t (by simpa using e);exact⟨u,by simpa using h1,h2⟩
theorem Reps.append:∀{vs ws:ac V} {ds es:ac D},Reps Γ K G vs ds->Reps Γ K G ws es->Reps Γ K G (vs++ws) (ds++es)
 |_,_,_,_,.nil,s=>s
 |_,_,_,_,.cons r t,s=>.cons r (t.append s)
theorem Reps.take:∀{vs:ac V} {ds:ac D} (n:al),Reps Γ K G vs ds->Reps Γ K G (vs.take n) (ds.take n)
 |_,_,0,_=>.nil
 |_,_,_+1,.nil=>.nil
 |_,_,n+1,.cons r t=>.cons r (t.take n)
theorem Reps.drop:∀{vs:ac V} {ds:ac D} (n:al),Reps Γ K G vs ds->Reps Γ K G (vs.drop n) (ds.drop n)
 |_,_,0,r=>r
 |_,_,_+1,.nil=>.nil
 |_,_,n+1,.cons _ t=>t.drop n
theorem Reps.ints:∀(ns:ac ag),Reps Γ K G (ns.map V.int) (ns.map D.int)
 |[]=>.nil
 |n::r=>.cons (.int n) (Reps.ints r)
theorem Reps.rep {vs:ac V} {ds:ac D} (h:Reps Γ K G vs ds):∀k:al,Reps Γ K G (b9 k vs).flatten (b9 k ds).flatten
 |0=>.nil
 |k+1=>by rw[lR,lR,oI,oI];exact h.append (Reps.rep h k)
structure Step (G H G' H':Hp):Prop where
 hh:bK H H'
 gg:bK G G'
 gh:bK G' H'
 out:∀a o,H a=aa o->G' a=G a
theorem Step.refl (gh:bK G H):Step G H G H:=⟨.refl _,.refl _,gh,fun _ _ _=>rfl⟩
theorem Step.trans (a:Step G H G1 H1) (b:Step G1 H1 G2 H2):Step G H G2 H2:=
 ⟨a.hh.trans b.hh,a.gg.trans b.gg,b.gh,fun c o e=>(b.out c o (a.hh c o e)).trans (a.out c o e)⟩
theorem Step.new {p:av} {o:HO} (gh:bK G H) (hp:H p=ab):Step G H (upd G p o) (upd H p o):=by
 have gp:G p=ab:=gh.free hp;refine⟨fun b u e=>?_,fun b u e=>?_,fun b u e=>?_,fun b u e=>?_⟩
 .rw[a6 (ce e hp)];exact e
 .rw[a6 (ce e gp)];exact e
 .by_cases hb:b=p
  .subst hb;rw[cc] at e ⊢;exact e
  .rw[a6 hb] at e ⊢;exact gh b u e
 .rw[a6 (ce e hp)]
theorem Step.newOwn {p:av} {o:HO} (gh:bK G H) (hp:H p=ab):Step G H G (upd H p o):=by
 refine⟨fun b u e=>?_,.refl _,fun b u e=>?_,fun _ _ _=>rfl⟩
 .rw[a6 (ce e hp)];exact e
 .rw[a6 (ce (gh b u e) hp)];exact gh b u e
end
inductive Slot where
 |sh (d:D)
 |own (ds:ac D)
 |obj (c:ah) (fs:ac (ah×D))
 |objd (c:ah) (fs:ac (ah×D)) (n:ah) (kvs:ac (Key×D))
 |odk (kvs:ac (Key×D))
 |odt (kvs:ac (ac Key×D))
 |tlo (ds es:ac D)
 |pin (a:av)
 |oll (dss:ac (ac D))
noncomputable abbrev bf:=ac (ar Slot)
noncomputable def NM:D->aN
 |.non=>ai
 |.bl _=>ai
 |.int _=>ai
 |.str _=>ai
 |_=>ao
noncomputable def mE (H:Hp):ac av->ac (ac V)->Prop
 |[],[]=>True
 |p::ps,vs::vss=>H p=aa (.lst vs)/\mE H ps vss
 |_,_=>False
noncomputable def pO (Γ:Cn) (K:bh) (G:Hp):ac (ac V)->ac (ac D)->Prop
 |[],[]=>True
 |vs::vss,ds::dss=>Reps Γ K G vs ds/\pO Γ K G vss dss
 |_,_=>False
theorem mE.mem {H:Hp}:∀{ps:ac av} {vss:ac (ac V)},mE H ps vss->∀b∈ps,∃o,H b=aa o
 |[],_,_,b,hb=>by cases hb
 |p::ps,[],h,b,hb=>h.elim
 |p::ps,vs::vss,h,b,hb=>by
  rcases cA.mp hb with rfl|hb
  .exact⟨_,h.1⟩
  .exact h.2.mem b hb
theorem mE.stay {H H':Hp}:∀{ps:ac av} {vss:ac (ac V)},mE H ps vss->(∀b∈ps,H' b=H b)->mE H' ps vss
 |[],[],_,_=>trivial
 |[],_::_,h,_=>h.elim
 |p::ps,[],h,_=>h.elim
 |p::ps,vs::vss,h,e=>⟨(e p qg).trans h.1,h.2.stay fun b hb=>e b (qh _ hb)⟩
theorem pO.map {Γ:Cn} {K:bh} {G G':Hp} (f:∀{vs:ac V} {ds:ac D},Reps Γ K G vs ds->Reps Γ K G' vs ds):∀{vss:ac (ac V)} {dss:ac (ac D)},pO Γ K G vss dss->pO Γ K G' vss dss
 |[],[],_=>trivial
 |[],_::_,h=>h.elim
 |_::_,[],h=>h.elim
 |_::_,_::_,h=>⟨f h.1,h.2.map f⟩
theorem CY:∀{ps qs:ac av},ps.map V.ref=qs.map V.ref->ps=qs
 |[],[],_=>rfl
 |[],_::_,h=>by cases h
 |_::_,[],h=>by cases h
 |p::ps,q::qs,h=>by have h1:=jN h;rw[V.ref.inj h1.1,CY h1.2]
inductive SR (Γ:Cn) (K:bh) (H₀ G H:Hp):Slot->V->ac av->Prop where
 |sh {d:D} {v:V}:Rep Γ K G v d->SR Γ K H₀ G H (.sh d) v []
 |own {a:av} {vs:ac V} {ds:ac D}:H₀ a=ab->G a=ab->H a=aa (.lst vs)->Reps Γ K G vs ds->SR Γ K H₀ G H (.own ds) (.ref a) [a]
 |obj {c:ah} {a C dx:av} {vs:ac (ah×V)} {fs:ac (ah×D)}:Γ.cls c=aa C->H₀ a=ab->G a=ab->H a=aa (.ins C dx vs)->vs.map (·.1)=fs.map (·.1)->Reps Γ K G (vs.map (·.2)) (fs.map (·.2))->Γ.self=aa a->SR Γ K H₀ G H (.obj c fs) (.ref a) [a]
 |objd {c n:ah} {a C dx p:av} {vs:ac (ah×V)} {fs:ac (ah×D)} {us:ac (Key×V)} {kvs:ac (Key×D)}:Γ.cls c=aa C->H₀ a=ab->G a=ab->H a=aa (.ins C dx (vs++[(n,.ref p)]))->vs.map (·.1)=fs.map (·.1)->Reps Γ K G (vs.map (·.2)) (fs.map (·.2))->
   H₀ p=ab->G p=ab->H p=aa (.dK us)->us.map (·.1)=kvs.map (·.1)->Reps Γ K G (us.map (·.2)) (kvs.map (·.2))->Γ.self=aa a->SR Γ K H₀ G H (.objd c fs n kvs) (.ref a) [a,p]
 |odk {a:av} {us:ac (Key×V)} {kvs:ac (Key×D)}:H₀ a=ab->G a=ab->H a=aa (.dK us)->us.map (·.1)=kvs.map (·.1)->Reps Γ K G (us.map (·.2)) (kvs.map (·.2))->SR Γ K H₀ G H (.odk kvs) (.ref a) [a]
 |odt {a:av} {us:ac (ac Key×V)} {kvs:ac (ac Key×D)}:H₀ a=ab->G a=ab->H a=aa (.dT us)->us.map (·.1)=kvs.map (·.1)->Reps Γ K G (us.map (·.2)) (kvs.map (·.2))->SR Γ K H₀ G H (.odt kvs) (.ref a) [a]
 |tlo {t p:av} {vs ws:ac V} {ds es:ac D}:H₀ p=ab->G p=ab->H p=aa (.lst ws)->G t=aa (.tup (vs++[.ref p]))->Reps Γ K G vs ds->Reps Γ K G ws es->SR Γ K H₀ G H (.tlo ds es) (.ref t) [p]
 |pin (a:av):SR Γ K H₀ G H (.pin a) (.ref a) []
 |oll {a:av} {ps:ac av} {vss:ac (ac V)} {dss:ac (ac D)}:(∀b∈a::ps,H₀ b=ab/\G b=ab)->(a::ps).Nodup->H a=aa (.lst (ps.map V.ref))->mE H ps vss->pO Γ K G vss dss->SR Γ K H₀ G H (.oll dss) (.ref a) (a::ps)
variable {H₀:Hp}
section
variable {s:Slot}
theorem SR.fpt (r:SR Γ K H₀ G H s v fp):∀b∈fp,H₀ b=ab/\G b=ab/\∃o,H b=aa o:=by
 cases r with
 |sh r=>intro b hb;cases hb
 |own h1 h2 h3 _=>intro b hb;rw[bW.mp hb];exact⟨h1,h2,_,h3⟩
 |obj _ h1 h2 h3 _ _ _=>intro b hb;rw[bW.mp hb];exact⟨h1,h2,_,h3⟩
 |objd _ h1 h2 h3 _ _ q1 q2 q3 _ _ _=>
  intro b hb;rcases cA.mp hb with rfl|hb
  .exact⟨h1,h2,_,h3⟩
  .rw[bW.mp hb];exact⟨q1,q2,_,q3⟩
 |odk h1 h2 h3 _ _=>intro b hb;rw[bW.mp hb];exact⟨h1,h2,_,h3⟩
 |odt h1 h2 h3 _ _=>intro b hb;rw[bW.mp hb];exact⟨h1,h2,_,h3⟩
 |tlo h1 h2 h3 _ _ _=>intro b hb;rw[bW.mp hb];exact⟨h1,h2,_,h3⟩
 |pin a=>intro b hb;cases hb
 |oll h1 h2 h3 h4 _=>
  intro b hb;refine⟨(h1 b hb).1,(h1 b hb).2,?_⟩;rcases cA.mp hb with rfl|hb
  .exact⟨_,h3⟩
  .exact h4.mem b hb
theorem SR.stay (r:SR Γ K H₀ G H s v fp) (gg:bK G G') (hg:∀b∈fp,G' b=ab) (hh:∀b∈fp,H' b=H b):SR Γ K H₀ G' H' s v fp:=by
 cases r with
 |sh r=>exact .sh (r.mono gg)
 |own h1 h2 h3 h4=>exact .own h1 (hg _ (bW.mpr rfl)) ((hh _ (bW.mpr rfl)).trans h3) (h4.mono gg)
 |obj c h1 h2 h3 h4 h5 hs=>exact .obj c h1 (hg _ (bW.mpr rfl)) ((hh _ (bW.mpr rfl)).trans h3) h4 (h5.mono gg) hs
 |objd c h1 h2 h3 h4 h5 q1 q2 q3 q4 q5 hs=>
  exact .objd c h1 (hg _ qg) ((hh _ qg).trans h3) h4 (h5.mono gg) q1 (hg _ (qh _ qg)) ((hh _ (qh _ qg)).trans q3) q4 (q5.mono gg) hs
 |odk h1 h2 h3 h4 h5=>exact .odk h1 (hg _ (bW.mpr rfl)) ((hh _ (bW.mpr rfl)).trans h3) h4 (h5.mono gg)
 |odt h1 h2 h3 h4 h5=>exact .odt h1 (hg _ (bW.mpr rfl)) ((hh _ (bW.mpr rfl)).trans h3) h4 (h5.mono gg)
 |pin a=>exact .pin a
 |oll h1 h2 h3 h4 h5=>exact .oll (fun b hb=>⟨(h1 b hb).1,hg b hb⟩) h2 ((hh _ qg).trans h3) (h4.stay fun b hb=>hh b (qh _ hb)) (h5.map fun r=>r.mono gg)
 |tlo h1 h2 h3 h4 h5 h6=>exact .tlo h1 (hg _ (bW.mpr rfl)) ((hh _ (bW.mpr rfl)).trans h3) (gg _ _ h4) (h5.mono gg) (h6.mono gg)
theorem SR.stepS (r:SR Γ K H₀ G H s v fp) (t:Step G H G' H'):SR Γ K H₀ G' H' s v fp:=r.stay t.gg (fun b hb=>by
 obtain⟨_,h2,o,h3⟩:=r.fpt b hb;exact(t.out b o h3).trans h2) (fun b hb=>by
 obtain⟨_,_,o,h3⟩:=r.fpt b hb;rw[h3];exact t.hh b o h3)
end
theorem SR.uniq {s:Slot} {fq:ac av} (r:SR Γ K H₀ G H s v fp) (q:SR Γ K H₀ G H s v fq):fp=fq:=by
 cases r with
 |sh r=>cases q;rfl
 |own h1 h2 h3 _=>cases q;rfl
 |obj _ h1 h2 h3 _ _ _=>cases q;rfl
 |objd _ h1 h2 h3 _ _ q1 q2 q3 _ _ _=>
  cases q with
  |objd _ _ _ k3 _ _ _ _ _ _ _ _=>
   rw[h3] at k3;have z:=(HO.ins.inj (qF k3)).2.2;have z2:=(Qi z rfl).2;cases z2;rfl
 |odk h1 h2 h3 _ _=>cases q;rfl
 |odt h1 h2 h3 _ _=>cases q;rfl
 |pin a=>cases q;rfl
 |oll _ _ h3 _ _=>
  cases q with
  |oll _ _ k3 _ _=>
   rw[h3] at k3;rw[CY (HO.lst.inj (qF k3))]
 |tlo _ _ _ h4 _ _=>
  cases q with
  |tlo _ _ _ k4 _ _=>
   rw[h4] at k4;have z:=HO.tup.inj (qF k4);have z2:=(Qi z rfl).2;cases z2;rfl
structure EnvRel (Γ:Cn) (K:bh) (H₀ G H:Hp) (ρ:bf) (σ:St):Prop where
 len:ρ.length=σ.length
 sl:∃fps:al->ac av,(∀(i:al) s,ρ[i]?=aa (aa s)->∃v,σ[i]?=aa (aa v)/\SR Γ K H₀ G H s v (fps i)) /\
  ∀(i j:al) s t,i≠j->ρ[i]?=aa (aa s)->ρ[j]?=aa (aa t)->∀b∈fps i,b∉fps j
structure At (Γ:Cn) (K:bh) (G₀ H₀ G H:Hp) (ρ:bf) (σ:St):Prop where
 st:Step G₀ H₀ G H
 env:EnvRel Γ K H₀ G H ρ σ
noncomputable def gN (ρ:bf):Prop:=∀(i:al) s,ρ[i]?=aa (aa s)->∃d,s=.sh d
variable {G₀:Hp} {ρ:bf} {fp':ac av} {d:D} {ds:ac D}
theorem EnvRel.ofSh (len:ρ.length=σ.length) (no:gN ρ) (sh:∀(i:al) d,ρ[i]?=aa (aa (.sh d))->∃v,σ[i]?=aa (aa v)/\Rep Γ K G v d):EnvRel Γ K H₀ G H ρ σ :=
 ⟨len,fun _=>[],fun i s e=>by obtain⟨d,rfl⟩:=no i s e;obtain⟨v,h1,h2⟩:=sh i d e;exact⟨v,h1,.sh h2⟩,fun _ _ _ _ _ _ _ b hb=>by cases hb⟩
theorem EnvRel.sh (E:EnvRel Γ K H₀ G H ρ σ) (i:al) (d:D) (e:ρ[i]?=aa (aa (.sh d))):∃v,σ[i]?=aa (aa v)/\Rep Γ K G v d:=by
 obtain⟨fps,h,_⟩:=E.sl;obtain⟨v,h1,h2⟩:=h i _ e;generalize fps i=fp at h2;cases h2 with
 |sh r=>exact⟨v,h1,r⟩
theorem EnvRel.own (E:EnvRel Γ K H₀ G H ρ σ) (i:al) (ds:ac D) (e:ρ[i]?=aa (aa (.own ds))):∃a vs,σ[i]?=aa (aa (.ref a))/\H₀ a=ab/\G a=ab/\H a=aa (.lst vs)/\Reps Γ K G vs ds:=by
 obtain⟨fps,h,_⟩:=E.sl;obtain⟨v,h1,h2⟩:=h i _ e;generalize fps i=fp at h2;cases h2 with
 |own q1 q2 q3 q4=>exact⟨_,_,h1,q1,q2,q3,q4⟩
theorem At.gh (A:At Γ K G₀ H₀ G H ρ σ):bK G H:=A.st.gh
theorem At.step (A:At Γ K G₀ H₀ G H ρ σ) (s:Step G H G' H'):At Γ K G₀ H₀ G' H' ρ σ:=by
 obtain⟨fps,h,ap⟩:=A.env.sl;exact⟨A.st.trans s,A.env.len,fps,fun i t e=>by obtain⟨v,h1,h2⟩:=h i t e;exact⟨v,h1,h2.stepS s⟩,ap⟩
theorem At.put (A:At Γ K G₀ H₀ G H ρ σ) {s':Slot} {v':V} 
  (hfp:fp=[]\/∃s v,ρ[i]?=aa (aa s)/\σ[i]?=aa (aa v)/\SR Γ K H₀ G H s v fp)
  (hH:∀b o,H b=aa o->b∉fp->H' b=aa o) (hS:SR Γ K H₀ G' H' s' v' fp') (hn:∀b∈fp',b∈fp\/H b=ab)
  (gg:bK G G') (gh:bK G' H') (out:∀b o,H b=aa o->b∉fp->G' b=G b) (out2:∀b∈fp,H₀ b=ab):At Γ K G₀ H₀ G' H' (ρ.set i (aa s')) (σ.set i (aa v')):=by
 obtain⟨fps,h,ap⟩:=A.env.sl;have hl:=A.env.len;have old:∀b∈fp,∀j t,j≠i->ρ[j]?=aa (aa t)->b∉fps j:=fun b hb j t hj e=>by
  rcases hfp with rfl|⟨s,v,h1,h2,h3⟩
  .cases hb
  .obtain⟨v2,h4,h5⟩:=h i s h1;rw[h2] at h4;cases h4;have efp:fp=fps i:=h3.uniq h5;subst efp;exact ap i j s t (df hj) h1 e b hb
 have slj:∀(j:al) t,j≠i->ρ[j]?=aa (aa t)->∃v,σ[j]?=aa (aa v)/\SR Γ K H₀ G' H' t v (fps j):=fun j t hj e=>by
  obtain⟨v,h1,h2⟩:=h j t e;refine⟨v,h1,h2.stay gg (fun b hb=>?_) (fun b hb=>?_)⟩
  .obtain⟨_,q2,o,q3⟩:=h2.fpt b hb;exact(out b o q3 fun z=>old b z j t hj e hb).trans q2
  .obtain⟨_,_,o,q3⟩:=h2.fpt b hb;rw[q3];exact hH b o q3 fun z=>old b z j t hj e hb
 have no2:∀b o,H₀ b=aa o->b∉fp:=fun b o e z=>by rw[out2 b z] at e;cases e
 have hst:Step G₀ H₀ G' H':=⟨fun b o e=>hH b o (A.st.hh b o e) (no2 b o e),A.st.gg.trans gg,gh,fun b o e=>(out b o (A.st.hh b o e) (no2 b o e)).trans (A.st.out b o e)⟩;refine⟨hst,by simp[hl],fun j=>if j=i then fp' else fps j,fun j t e=>?_,fun j k t u hjk e1 e2 b hb=>?_⟩
 .by_cases hj:j=i
  .subst hj;have hlt:j < ρ.length:=by
    rcases io j ρ.length with q|q
    .exact q
    .rw[yF (by simp;omega)] at e;cases e
   rw[uC hlt] at e;cases e;show ∃v,_/\SR _ _ _ _ _ _ v (if j=j then fp' else fps j);rw[qW rfl];exact⟨v',by rw[uC .(e)],hS⟩
  .rw[mX (df hj)] at e ⊢;show ∃v,_/\SR _ _ _ _ _ _ v (if j=i then fp' else fps j);rw[qX hj];exact slj j t hj e
 .have cross:∀{k:al} {u:Slot},k≠i->ρ[k]?=aa (aa u)->∀b∈fp',b∉fps k:=fun {k u} hk e b hb hb2=>by
   rcases hn b hb with z|z
   .exact old b z k u hk e hb2
   .obtain⟨v,_,q⟩:=h k u e;obtain⟨_,_,o,q3⟩:=q.fpt b hb2;rw[z] at q3;cases q3
  replace hb:b∈(if j=i then fp' else fps j):=hb
  show b∉(if k=i then fp' else fps k);by_cases hj:j=i
  .subst hj;have hk:k≠j:=df hjk;rw[qW rfl] at hb;rw[qX hk];rw[mX hjk] at e2;exact cross hk e2 b hb
  .rw[qX hj] at hb;rw[mX (df hj)] at e1;by_cases hk:k=i
   .subst hk;rw[qW rfl];exact fun z=>cross hj e1 b z hb
   .rw[qX hk];rw[mX (df hk)] at e2;exact ap j k t u hjk e1 e2 b hb
theorem At.setSh (A:At Γ K G₀ H₀ G H ρ σ) (r:Rep Γ K G v d):At Γ K G₀ H₀ G H (ρ.set i (aa (.sh d))) (σ.set i (aa v)):=
 A.put (fp:=[]) (fp':=[]) (.inl rfl) (fun b o e _=>e) (.sh r) (fun b hb=>by cases hb) (.refl _) A.gh (fun _ _ _ _=>rfl) (fun b hb=>by cases hb)
theorem At.setOwn (A:At Γ K G₀ H₀ G H ρ σ) (ha:H a=ab) (r:Reps Γ K G vs ds):At Γ K G₀ H₀ G (upd H a (.lst vs)) (ρ.set i (aa (.own ds))) (σ.set i (aa (.ref a))):=by have h0:H₀ a=ab:=A.st.hh.free ha;have hg:G a=ab:=A.gh.free ha;refine A.put (fp:=[]) (fp':=[a]) (.inl rfl) (fun b o e _=>by rw[a6 (ce e ha)];exact e) (.own h0 hg cc r) (fun b hb=>.inr (by rw[bW.mp hb];exact ha)) (.refl _) (fun b o e=>?_) (fun _ _ _ _=>rfl) (fun b hb=>by cases hb);rw[a6 (ce e hg)];exact A.gh b o e
theorem OU {l:ac α} {x:α} (h:l[i]?=aa x):l.set i x=l:=by
 apply List.ext_getElem?;intro j;by_cases hj:j=i
 .subst hj;rw[uC (cY.mp h).1,h]
 .rw[mX (df hj)]
theorem At.ch (A:At Γ K G₀ H₀ G H ρ σ) {s s':Slot} (hi:ρ[i]?=aa (aa s)) (hv:σ[i]?=aa (aa v)) (hs:SR Γ K H₀ G H s v fp)
  (hH:∀b o,H b=aa o->b∉fp->H' b=aa o) (hS:SR Γ K H₀ G' H' s' v fp') (hn:∀b∈fp',b∈fp\/H b=ab)
  (gg:bK G G') (gh:bK G' H') (out:∀b o,H b=aa o->b∉fp->G' b=G b):At Γ K G₀ H₀ G' H' (ρ.set i (aa s')) σ:=by
 have:=A.put (i:=i) (.inr ⟨s,v,hi,hv,hs⟩) hH hS hn gg gh out fun b hb=>(hs.fpt b hb).1
 rwa [OU hv] at this
theorem At.get (A:At Γ K G₀ H₀ G H ρ σ) {s:Slot} (hi:ρ[i]?=aa (aa s)):∃v fp,σ[i]?=aa (aa v)/\SR Γ K H₀ G H s v fp:=by obtain⟨fps,h,_⟩:=A.env.sl;obtain⟨v,h1,h2⟩:=h i s hi;exact⟨v,_,h1,h2⟩
theorem At.chOwn (A:At Γ K G₀ H₀ G H ρ σ) {es:ac D} {ws:ac V} (hi:ρ[i]?=aa (aa (.own ds))) (ha:σ[i]?=aa (aa (.ref a))) (r:Reps Γ K G ws es):At Γ K G₀ H₀ G (upd H a (.lst ws)) (ρ.set i (aa (.own es))) σ:=by
 obtain⟨v,fp,h1,h2⟩:=A.get hi;rw[ha] at h1;cases h1;cases h2 with
 |own q1 q2 q3 q4=>
  refine A.ch hi ha (.own q1 q2 q3 q4) (fun b o e hb=>?_) (.own q1 q2 cc r) (fun b hb=>.inl hb) (.refl _) (fun b o e=>?_) (fun _ _ _ _=>rfl)
  .rw[a6 (fun z=>hb (bW.mpr z))];exact e
  .rw[a6 (ce e q2)];exact A.gh b o e
theorem At.freeze (A:At Γ K G₀ H₀ G H ρ σ) (hi:ρ[i]?=aa (aa (.own ds))):∃G',bK G G'/\At Γ K G₀ H₀ G' H (ρ.set i (aa (.sh (.lst ds)))) σ:=by
 obtain⟨v,fp,h1,h2⟩:=A.get hi;cases h2 with
 |own q1 q2 q3 q4=>
  rename_i a vs;have sm:bK G (upd G a (.lst vs)):=fun b o e=>by rw[a6 (ce e q2)];exact e
  refine⟨upd G a (.lst vs),sm,A.ch hi h1 (.own q1 q2 q3 q4) (fun b o e hb=>e) (.sh (.lst cc (q4.mono sm))) (fun b hb=>by cases hb) sm (fun b o e=>?_) (fun b o e hb=>?_)⟩
  .by_cases hb:b=a
   .subst hb;rw[cc] at e;cases e;exact q3
   .rw[a6 hb] at e;exact A.gh b o e
  .rw[a6 (fun z=>hb (bW.mpr z))]
mutual
inductive NewL (H G:Hp):V->D->Prop where
 |flat {v:V} {d:D}:NM d=ai->NewL H G v d
 |tup {a:av} {vs:ac V} {ds:ac D}:G a=aa (.tup vs)->NewLs H G vs ds->NewL H G (.ref a) (.tup ds)
 |lst {a:av} {vs:ac V} {ds:ac D}:G a=aa (.lst vs)->H a=ab->NewLs H G vs ds->NewL H G (.ref a) (.lst ds)
inductive NewLs (H G:Hp):ac V->ac D->Prop where
 |nil:NewLs H G [] []
 |cons {v:V} {d:D} {vs:ac V} {ds:ac D}:NewL H G v d->NewLs H G vs ds->NewLs H G (v::vs) (d::ds)
end
inductive Fl where
 |nx|bk|ct|rt (d:D)|ow (ds:ac D)|nw (d:D)|od (kvs:ac (Key×D))
noncomputable abbrev FE:=bf->ar D
noncomputable abbrev FT:=bf->ar aN
noncomputable abbrev FA:=bf->ar (ac D)
noncomputable abbrev FS:=bf->ar (Fl×bf)
inductive TD (Γ:Cn) (K:bh) (f:FE) (σ:St) (H:Hp) (Q:VK):Prop where
 |mk:∀G₀ H₀ G ρ d,At Γ K G₀ H₀ G H ρ σ->f ρ=aa d->(∀v G' H',Step G H G' H'->Rep Γ K G' v d->Q v H')->TD Γ K f σ H Q
inductive TDt (Γ:Cn) (K:bh) (f:FT) (σ:St) (H:Hp) (Q:aN->Hp->Prop):Prop where
 |mk:∀G₀ H₀ G ρ b,At Γ K G₀ H₀ G H ρ σ->f ρ=aa b->(∀G' H',Step G H G' H'->Q b H')->TDt Γ K f σ H Q
inductive TDa (Γ:Cn) (K:bh) (f:FA) (σ:St) (H:Hp) (Q:ac V->Hp->Prop):Prop where
 |mk:∀G₀ H₀ G ρ ds,At Γ K G₀ H₀ G H ρ σ->f ρ=aa ds->(∀vs G' H',Step G H G' H'->Reps Γ K G' vs ds->Q vs H')->TDa Γ K f σ H Q
noncomputable def O1 (Γ:Cn) (K:bh) (E:Ends) (H₀ G' H':Hp) (σ':St):Fl->Prop
 |.nx=>E.nx σ' H'
 |.bk=>E.bk σ' H'
 |.ct=>E.ct σ' H'
 |.rt d=>∀v,Rep Γ K G' v d->E.rt v H'
 |.ow ds=>∀p vs,H₀ p=ab->G' p=ab->H' p=aa (.lst vs)->Reps Γ K G' vs ds->E.rt (.ref p) H'
 |.nw d=>∀v,Rep Γ K G' v d->NewL H₀ G' v d->E.rt v H'
 |.od kvs=>∀p us,H₀ p=ab->G' p=ab->H' p=aa (.dK us)->us.map (·.1)=kvs.map (·.1)->Reps Γ K G' (us.map (·.2)) (kvs.map (·.2))->E.rt (.ref p) H'
inductive TDs (Γ:Cn) (K:bh) (g:FS) (E:Ends) (σ:St) (H:Hp):Prop where
 |mk:∀G₀ H₀ G ρ fl ρ',At Γ K G₀ H₀ G H ρ σ->g ρ=aa (fl,ρ')->(∀σ' G' H',bK G G'->At Γ K G₀ H₀ G' H' ρ' σ'->O1 Γ K E H₀ G' H' σ' fl)->TDs Γ K g E σ H
inductive TDo (Γ:Cn) (K:bh) (f:FA) (σ:St) (H:Hp) (Q:VK):Prop where
 |mk:∀G₀ H₀ G ρ ds,At Γ K G₀ H₀ G H ρ σ->f ρ=aa ds->(∀p vs G' H',Step G H G' H'->H' p=ab->Reps Γ K G' vs ds->Q (.ref p) (upd H' p (.lst vs)))->TDo Γ K f σ H Q
structure DE (Γ:Cn) (X:Cx) (e:Expr) (f:FE):Prop where
 out:PE X e (TD Γ X.K f)
structure DT (Γ:Cn) (X:Cx) (e:Expr) (f:FT):Prop where
 out:PT X e (TDt Γ X.K f)
structure DW (Γ:Cn) (X:Cx) (e:Expr) (f:FT):Prop where
 out:PW X e (TDt Γ X.K f)
structure DA (Γ:Cn) (X:Cx) (es:ac Expr) (f:FA):Prop where
 out:PA X es (TDa Γ X.K f)
structure DS (Γ:Cn) (X:Cx) (st:Stmt) (g:FS):Prop where
 out:PS X st (TDs Γ X.K g)
structure DSs (Γ:Cn) (X:Cx) (st:ac Stmt) (g:FS):Prop where
 out:PSs X st (TDs Γ X.K g)
structure DO (Γ:Cn) (X:Cx) (e:Expr) (f:FA):Prop where
 out:PE X e (TDo Γ X.K f)
variable {fa fb fc f:FE}
section
variable {a:Expr}
theorem PE.imp {t t':TE} (h:PE X e t) (i:∀σ H Q,t' σ H Q->t σ H Q):PE X e t':=fun pins s σ H Q I q=>h pins s σ H Q I (i _ _ _ q)
theorem PT.imp {t t':TT} (h:PT X e t) (i:∀σ H Q,t' σ H Q->t σ H Q):PT X e t':=fun pins s σ H Q I q=>h pins s σ H Q I (i _ _ _ q)
theorem PW.imp {t t':TT} (h:PW X e t) (i:∀σ H Q,t' σ H Q->t σ H Q):PW X e t':=fun wh pins s σ H Q I q=>h wh pins s σ H Q I (i _ _ _ q)
theorem PA.imp {t t':TA} (h:PA X es t) (i:∀σ H Q,t' σ H Q->t σ H Q):PA X es t':=fun p pins s σ H Q I q=>h p pins s σ H Q I (i _ _ _ q)
theorem PS.imp {t t':TS} (h:PS X st t) (i:∀E σ H,t' E σ H->t E σ H):PS X st t':=fun pins s σ H E I q=>h pins s σ H E I (i _ _ _ q)
theorem PSs.imp {st:ac Stmt} {t t':TS} (h:PSs X st t) (i:∀E σ H,t' E σ H->t E σ H):PSs X st t':=fun pins s σ H E I q=>h pins s σ H E I (i _ _ _ q)
noncomputable def vSh (i:al):FE:=fun ρ=>match ρ[i]? with
 |some (aa (.sh d))=>aa d
 |_=>ab
theorem F' (h:vSh i ρ=aa d):ρ[i]?=aa (aa (.sh d)):=by
 unfold vSh at h;split at h
 .rename_i e;cases h;exact e
 .cases h
theorem af (i:al) (hN:X.N[i]?=aa x:=by rfl) (hv:Vis X.env.scope x:=by first|exact dy rfl|exact cP (dy rfl)|exact cP (cP rfl)) (hd:.(H)=ao:=by decide)
  (hcd:(x==("__classdict__":ah))=ao:=by decide):DE Γ X (.Name x pos) (vSh i):=⟨(i7 hN hv hd hcd).imp fun σ H Q ⟨G₀,H₀,G,ρ,d,A,h,k⟩=>by
 obtain⟨v,h1,h2⟩:=A.env.sh i d (F' h);exact⟨v,h1,k v G H (.refl A.gh) h2⟩⟩
noncomputable def vC (d:D):FE:=fun _=>aa d
theorem TD.const (r:∀G,Rep Γ X.K G v d) (h:PE X e (tC v)):DE Γ X e (vC d):=⟨h.imp fun σ H Q ⟨G₀,H₀,G,ρ,d',A,h,k⟩=>by cases h;exact k v G H (.refl A.gh) (r G)⟩
theorem aq {i j}:DE Γ X (.Constant (.int i) j pos) (vC (.int i)):=TD.const (fun _=>.int i) NA
theorem cg {i j}:DE Γ X (.Constant (.bool i) j pos) (vC (.bl i)):=TD.const (fun _=>.bl i) Nl
theorem dS {j}:DE Γ X (.Constant .none j pos) (vC .non):=TD.const (fun _=>.non) IL
theorem dA {i j}:DE Γ X (.Constant (.str i) j pos) (vC (.str i)):=TD.const (fun _=>.str i) LH
theorem ia {i:ag} {t:Tok} (hg:Gl X x) (hm:X.mg x=aa (.int i t)) (hd:.(H)=ao:=by decide):DE Γ X (.Name x pos) (vC (.int i)):=TD.const (fun _=>.int i) (Ox hg hm ⟨t,rfl⟩ hd)
noncomputable def b2 (g:D->D->ar D) (fa fb:FE):FE:=fun ρ=>(fa ρ).bind fun x=>(fb ρ).bind fun y=>g x y
noncomputable def b1 (g:D->ar D) (fa:FE):FE:=fun ρ=>(fa ρ).bind g
noncomputable def fZ (Γ:Cn) (K:bh) (g:D->D->ar D) (r:R2):Prop:=
 ∀{G H v u x y z},bK G H->Rep Γ K G v x->Rep Γ K G u y->g x y=aa z->∀Q:VK,(∀w G' H',Step G H G' H'->Rep Γ K G' w z->Q w H')->r v u H Q
theorem TD.two {g:D->D->ar D} (hr:fZ Γ X.K g r):∀σ H Q,TD Γ X.K (b2 g fa fb) σ H Q->tOp r (TD Γ X.K fa) (TD Γ X.K fb) σ H Q:=by
 rintro σ H Q ⟨G₀,H₀,G,ρ,d,A,h,k⟩;unfold b2 at h;cases ha:fa ρ with
 |none=>rw[ha] at h;cases h
 |some x=>
  cases hb:fb ρ with
  |none=>rw[ha] at h;simp only[qb,hb,Qj] at h;cases h
  |some y=>
   simp only[ha,hb,qb] at h;refine⟨G₀,H₀,G,ρ,x,A,ha,fun v G1 H1 s1 r1=>⟨G₀,H₀,G1,ρ,y,A.step s1,hb,fun u G2 H2 s2 r2=>?_⟩⟩;exact hr s2.gh (r1.mono s2.gg) r2 h Q fun w G' H' s r=>k w G' H' ((s1.trans s2).trans s) r
theorem pU {op:Operator} {g:D->D->ar D} (ho:OpR X (iM op) r) (hr:fZ Γ X.K g r) (ha:DE Γ X a fa) (hb:DE Γ X b fb):DE Γ X (.BinOp a op b pos) (b2 g fa fb):=⟨(Kr ho ha.1 hb.1).imp (TD.two hr)⟩
noncomputable def aV:D->D->ar D
 |.int i,.int j=>aa (.int (i+j))
 |.str x,.str y=>if x.length+y.length<=aT then aa (.str (x++y)) else ab
 |.lst x,.lst y=>if x.length+y.length<=aT then aa (.lst (x++y)) else ab
 |_,_=>ab
noncomputable def gH:D->D->ar D
 |.int i,.int j=>aa (.int (i-j))
 |_,_=>ab
noncomputable def jw (x:ah) (n:al):ah:=⟨(b9 n x.cps.toList).flatten.toArray⟩
noncomputable def cT:D->D->ar D
 |.int i,.int j=>if (-(2 ^ 64)<i/\i<2 ^ 64)\/(-(2 ^ 64)<j/\j<2 ^ 64) then aa (.int (i*j)) else ab
 |.lst x,.int j=>if -(2 ^ 63)<=j/\j<2 ^ 63/\x.length*j.toNat<=aT then aa (.lst (b9 j.toNat x).flatten) else ab
 |.str x,.int j=>if 0<=j/\j<1000/\x.length<1000 then aa (.str (jw x j.toNat)) else ab
 |_,_=>ab
noncomputable def eY:D->D->ar D
 |.int i,.int j=>if 0<j/\j<1073741824 then aa (.int (i / j)) else ab
 |_,_=>ab
noncomputable def bQ:D->D->ar D
 |.int i,.int j=>if 0<j then aa (.int (i%j)) else ab
 |_,_=>ab
theorem Rep.int_inv {i:ag} (r:Rep Γ K G v (.int i)):v=.int i:=by cases r;rfl
theorem Rep.str_inv {i:ah} (r:Rep Γ K G v (.str i)):v=.str i:=by cases r;rfl
theorem Rep.bl_inv {i:aN} (r:Rep Γ K G v (.bl i)):v=.bl i:=by cases r;rfl
theorem Rep.lst_inv (r:Rep Γ K G v (.lst ds)):∃a vs,v=.ref a/\G a=aa (.lst vs)/\Reps Γ K G vs ds:=by cases r;exact⟨_,_,rfl,by assumption,by assumption⟩
theorem Rep.tup_inv (r:Rep Γ K G v (.tup ds)):∃a vs,v=.ref a/\G a=aa (.tup vs)/\Reps Γ K G vs ds:=by cases r;exact⟨_,_,rfl,by assumption,by assumption⟩
theorem Rep.scr_inv {ns:ac ag} (r:Rep Γ K G v (.scr ns)):∃a,v=.ref a/\SqL K G a (ns.map V.int):=by cases r;exact⟨_,rfl,by assumption⟩
theorem oy {Q:VK} (gh:bK G H) (r:Reps Γ K G vs ds) (k:∀w G' H',Step G H G' H'->Rep Γ K G' w (.lst ds)->Q w H'):∀p,H p=ab->Q (.ref p) (upd H p (.lst vs)):=fun p hp=>by have s:=Step.new (o:=.lst vs) gh hp;exact k _ _ _ s (.lst cc (r.mono s.gg))
theorem wd {Q:VK} (gh:bK G H) (r:Reps Γ K G vs ds) (k:∀w G' H',Step G H G' H'->Rep Γ K G' w (.tup ds)->Q w H'):∀p,H p=ab->Q (.ref p) (upd H p (.tup vs)):=fun p hp=>by have s:=Step.new (o:=.tup vs) gh hp;exact k _ _ _ s (.tup cc (r.mono s.gg))
theorem Ll :fZ Γ K aV (fun x y H Q=>(rI0 (fun i j=>V.int (i+j)) x y H Q\/(∃i j,x=.str i/\y=.str j/\i.length+j.length<=aT/\Q (.str (i++j)) H))\/wa x y H Q):=by
 intro G H v u x y z gh r1 r2 h Q k;unfold aV at h;split at h
 .cases h;cases r1.int_inv;cases r2.int_inv;exact .inl (.inl ⟨_,_,rfl,rfl,k _ G H (.refl gh) (.int _)⟩)
 .split at h
  .cases h;cases r1.str_inv;cases r2.str_inv;exact .inl (.inr ⟨_,_,rfl,rfl,by assumption,k _ G H (.refl gh) (.str _)⟩)
  .cases h
 .split at h
  .rename_i hz;cases h;obtain⟨a,vs,rfl,ha,ra⟩:=r1.lst_inv;obtain⟨b,us,rfl,hb,rb⟩:=r2.lst_inv;exact .inr ⟨a,b,vs,us,rfl,rfl,gh _ _ ha,gh _ _ hb,by rw[ra.length,rb.length];exact hz,oy gh (ra.append rb) k⟩
  .cases h
 .cases h
theorem OE:OpR X (iM .Add) (fun x y H Q=>(rI0 (fun i j=>V.int (i+j)) x y H Q\/(∃i j,x=.str i/\y=.str j/\i.length+j.length<=aT/\Q (.str (i++j)) H))\/wa x y H Q):=(Ib.or Nc).or MT
theorem b6 (ha:DE Γ X a fa) (hb:DE Γ X b fb):DE Γ X (.BinOp a .Add b pos) (b2 aV fa fb):=pU OE Ll ha hb
theorem Je {g:D->D->ar D} {o:ag->ag->ag} (hg:∀x y z,g x y=aa z->∃i j,x=.int i/\y=.int j/\z=.int (o i j)):fZ Γ K g (rI0 fun i j=>V.int (o i j)):=by intro G H v u x y z gh r1 r2 h Q k;obtain⟨i,j,rfl,rfl,rfl⟩:=hg x y z h;cases r1.int_inv;cases r2.int_inv;exact⟨_,_,rfl,rfl,k _ G H (.refl gh) (.int _)⟩
theorem zB {g:D->D->ar D} {C:ag->ag->Prop} {o:ag->ag->ag} (hg:∀x y z,g x y=aa z->∃i j,x=.int i/\y=.int j/\C i j/\z=.int (o i j)):fZ Γ K g (rI C fun i j=>V.int (o i j)):=by intro G H v u x y z gh r1 r2 h Q k;obtain⟨i,j,rfl,rfl,hc,rfl⟩:=hg x y z h;cases r1.int_inv;cases r2.int_inv;exact⟨_,_,rfl,rfl,hc,k _ G H (.refl gh) (.int _)⟩
theorem pC (ha:DE Γ X a fa) (hb:DE Γ X b fb):DE Γ X (.BinOp a .Sub b pos) (b2 gH fa fb):=pU GE (Je fun x y z h=>by unfold gH at h;split at h<;>cases h;exact⟨_,_,rfl,rfl,rfl⟩) ha hb
theorem mC (ha:DE Γ X a fa) (hb:DE Γ X b fb):DE Γ X (.BinOp a .FloorDiv b pos) (b2 eY fa fb):=pU IQ (zB fun x y z h=>by
 unfold eY at h;split at h
 .split at h<;>cases h;exact⟨_,_,rfl,rfl,by assumption,rfl⟩
 .cases h) ha hb
theorem dj (ha:DE Γ X a fa) (hb:DE Γ X b fb):DE Γ X (.BinOp a .Mod b pos) (b2 bQ fa fb):=pU Om (zB fun x y z h=>by
 unfold bQ at h;split at h
 .split at h<;>cases h;exact⟨_,_,rfl,rfl,by assumption,rfl⟩
 .cases h) ha hb
theorem zm (a:bP al):∀(k:al) (acc:ac al),(b9 k a).foldl (·++·) acc.toArray=(acc++(b9 k a.toList).flatten).toArray
 |0,acc=>by simp
 |k+1,acc=>by
  rw[lR,iS,lR,oI,←rH,←zm a k (acc++a.toList)]
  congr 1
  simp
noncomputable def zw:R2:=fun x y H Q=>∃z n,x=.str z/\y=.int n/\0<=n/\n<1000/\z.length<1000/\Q (.str (jw z n.toNat)) H
theorem JY:OpR X (iM .Mult) zw:=by
 intro pins s σ H x y v u Q I rx ry h;obtain⟨z,n,rfl,rfl,h0,h1,h2,q⟩:=h;obtain⟨t,rfl⟩:=rx;obtain⟨t',rfl⟩:=ry;have hl:z.length*n.toNat<=1000000:=qK (Nat.mul_le_mul (rm h2) (show n.toNat<=1000 by omega)) .(h);have e0:(b9 n.toNat z.cps).foldl (·++·) #[]=(jw z n.toNat).cps:=by have:=zm z.cps n.toNat [];simpa[jw] using this
 refine PySem.P.mul_str ?_ (fun h _=>?_) (fun _ _=>?_) ?_
 .rw[qL .(e),qL .(e)];rfl
 .have e:(z.length:ag)*n=((z.length*n.toNat:al):ag):=by rw[Int.natCast_mul];congr 1;omega
  have:(z.length:ag)<=(2 ^ 63-1:ag) / n:=Int.le_ediv_of_mul_le .(e) (by rw[e];omega);omega
 .unfold Sf;exact qL (by have:=fH;omega)
 .split
  .have:n=0:=by omega
   subst this;exact⟨by decide,⟨.str _,H,I.tok _,⟨_,rfl⟩,by simpa[jw,fX] using q⟩⟩
  .split
   .rename_i hc;have ez:jw z n.toNat=z:=by
     rcases gE _ _▸hc with e|e
     .have:n=1:=by simpa using e
      subst this;simp[jw]
     .have hz:z.cps=#[]:=by
       have:z.cps.size=0:=by simpa[rF] using e
       exact Array.eq_empty_of_size_eq_zero this
      cases z;simp only at hz;subst hz;simp[jw]
    exact⟨.str _,H,I,⟨_,rfl⟩,by rw[←ez];exact q⟩
   .rw[e0];refine⟨?_,⟨.str _,H,I.tok _,⟨_,rfl⟩,q⟩⟩;have e1:(jw z n.toNat).length=n.toNat*z.length:=by show(b9 n.toNat z.cps.toList).flatten.toArray.size=_;rw[qz,B8];simp[rF]
    show(jw z n.toNat).length<=aT;rw[e1,P3];have:=fH;omega
theorem F0 :fZ Γ K cT (fun x y H Q=>(rI t8 (fun i j=>V.int (i*j)) x y H Q\/CI x y H Q)\/zw x y H Q):=by
 intro G H v u x y z gh r1 r2 h Q k;unfold cT at h;split at h
 .split at h
  .cases h;cases r1.int_inv;cases r2.int_inv;exact .inl (.inl ⟨_,_,rfl,rfl,by assumption,k _ G H (.refl gh) (.int _)⟩)
  .cases h
 .split at h
  .rename_i hz;cases h;obtain⟨a,vs,rfl,ha,ra⟩:=r1.lst_inv;cases r2.int_inv;exact .inl (.inr ⟨a,_,vs,rfl,rfl,gh _ _ ha,hz.1,hz.2.1,by rw[ra.length];exact hz.2.2,oy gh (ra.rep _) k⟩)
  .cases h
 .split at h
  .rename_i hz;cases h;cases r1.str_inv;cases r2.int_inv;exact .inr ⟨_,_,rfl,rfl,hz.1,hz.2.1,hz.2.2,k _ G H (.refl gh) (.str _)⟩
  .cases h
 .cases h
theorem ju (ha:DE Γ X a fa) (hb:DE Γ X b fb):DE Γ X (.BinOp a .Mult b pos) (b2 cT fa fb):=pU ((FX.or N7).or JY) F0 ha hb
end
variable {y:D} {ft gt:FT} {fr:FA}
section
variable {a:Expr}
theorem Rep.non_inv (r:Rep Γ K G v .non):v=.non:=by cases r;rfl
noncomputable def ltS (x y:ah):aN:=decide (x.cps.toList<y.cps.toList)
noncomputable def ltD:D->D->ar D
 |.int i,.int j=>aa (.bl (decide (i<j)))
 |.str x,.str y=>aa (.bl (ltS x y))
 |_,_=>ab
noncomputable def leD:D->D->ar D
 |.int i,.int j=>aa (.bl (decide (i<=j)))
 |.str x,.str y=>aa (.bl (!ltS y x))
 |_,_=>ab
noncomputable def gtD:D->D->ar D
 |.int i,.int j=>aa (.bl (decide (j<i)))
 |_,_=>ab
noncomputable def geD:D->D->ar D
 |.int i,.int j=>aa (.bl (decide (j<=i)))
 |_,_=>ab
noncomputable def eqS:D->D->ar aN
 |.int i,.int j=>aa (decide (i=j))
 |.bl i,.bl j=>aa (decide (i=j))
 |.str i,.str j=>aa (decide (i=j))
 |.non,.non=>aa ai
 |.non,.int _=>aa ao|.int _,.non=>aa ao|.non,.bl _=>aa ao|.bl _,.non=>aa ao|.non,.str _=>aa ao|.str _,.non=>aa ao
 |.int _,.str _=>aa ao|.str _,.int _=>aa ao|.bl _,.str _=>aa ao|.str _,.bl _=>aa ao
 |_,_=>ab
noncomputable def eqD (x y:D):ar D:=(eqS x y).map D.bl
noncomputable def neD (x y:D):ar D:=(eqS x y).map fun b=>D.bl (!b)
theorem C3 {u:V} {x:D} {k:aN} (r1:Rep Γ K G v x) (r2:Rep Γ K G u y) (h:eqS x y=aa k):vT v u=ai/\decide (v=u)=k:=by
 unfold eqS at h;split at h<;>cases h
 .cases r1.int_inv;cases r2.int_inv;exact⟨rfl,by simp⟩
 .cases r1.bl_inv;cases r2.bl_inv;exact⟨rfl,by simp⟩
 .cases r1.str_inv;cases r2.str_inv;exact⟨rfl,by simp⟩
 .cases r1.non_inv;cases r2.non_inv;exact⟨rfl,by simp⟩
 .cases r1.non_inv;cases r2.int_inv;exact⟨rfl,by simp⟩
 .cases r1.int_inv;cases r2.non_inv;exact⟨rfl,by simp⟩
 .cases r1.non_inv;cases r2.bl_inv;exact⟨rfl,by simp⟩
 .cases r1.bl_inv;cases r2.non_inv;exact⟨rfl,by simp⟩
 .cases r1.non_inv;cases r2.str_inv;exact⟨rfl,by simp⟩
 .cases r1.str_inv;cases r2.non_inv;exact⟨rfl,by simp⟩
 .cases r1.int_inv;cases r2.str_inv;exact⟨rfl,by simp⟩
 .cases r1.str_inv;cases r2.int_inv;exact⟨rfl,by simp⟩
 .cases r1.bl_inv;cases r2.str_inv;exact⟨rfl,by simp⟩
 .cases r1.str_inv;cases r2.bl_inv;exact⟨rfl,by simp⟩
theorem Fy :fZ Γ K eqD rEq:=by
 intro G H v u x y z gh r1 r2 h Q k;unfold eqD at h;cases e:eqS x y with
 |none=>rw[e] at h;cases h
 |some b=>
  rw[e] at h;cases h;obtain⟨h1,h2⟩:=C3 r1 r2 e;exact⟨h1,by rw[h2];exact k _ G H (.refl gh) (.bl _)⟩
theorem M' :fZ Γ K neD rNe:=by
 intro G H v u x y z gh r1 r2 h Q k;unfold neD at h;cases e:eqS x y with
 |none=>rw[e] at h;cases h
 |some b=>
  rw[e] at h;cases h;obtain⟨h1,h2⟩:=C3 r1 r2 e;exact⟨h1,by rw[h2];exact k _ G H (.refl gh) (.bl _)⟩
theorem Bj {g:D->D->ar D} {o:ag->ag->aN} (hg:∀x y z,g x y=aa z->∃i j,x=.int i/\y=.int j/\z=.bl (o i j)):fZ Γ K g (rI0 fun i j=>V.bl (o i j)):=by intro G H v u x y z gh r1 r2 h Q k;obtain⟨i,j,rfl,rfl,rfl⟩:=hg x y z h;cases r1.int_inv;cases r2.int_inv;exact⟨_,_,rfl,rfl,k _ G H (.refl gh) (.bl _)⟩
theorem LW:OpR X (dq .LtE) (fun x y H Q=>∃i j,x=.str i/\y=.str j/\Q (.bl (!ltS j i)) H):=by intro pins s σ H x y v u Q I rx ry h;obtain⟨i,j,rfl,rfl,q⟩:=h;obtain⟨t,rfl⟩:=rx;obtain⟨t',rfl⟩:=ry;exact PySem.P.le_str (cO I q (by simp[ltS]))
theorem HB :fZ Γ K ltD (fun x y H Q=>rI0 (fun i j=>V.bl (decide (i<j))) x y H Q\/∃i j,x=.str i/\y=.str j/\Q (.bl (decide (i.cps.toList<j.cps.toList))) H):=by
 intro G H v u x y z gh r1 r2 h Q k;unfold ltD at h;split at h<;>cases h
 .cases r1.int_inv;cases r2.int_inv;exact .inl ⟨_,_,rfl,rfl,k _ G H (.refl gh) (.bl _)⟩
 .cases r1.str_inv;cases r2.str_inv;exact .inr ⟨_,_,rfl,rfl,k _ G H (.refl gh) (.bl _)⟩
theorem IR :fZ Γ K leD (fun x y H Q=>rI0 (fun i j=>V.bl (decide (i<=j))) x y H Q\/∃i j,x=.str i/\y=.str j/\Q (.bl (!ltS j i)) H):=by
 intro G H v u x y z gh r1 r2 h Q k;unfold leD at h;split at h<;>cases h
 .cases r1.int_inv;cases r2.int_inv;exact .inl ⟨_,_,rfl,rfl,k _ G H (.refl gh) (.bl _)⟩
 .cases r1.str_inv;cases r2.str_inv;exact .inr ⟨_,_,rfl,rfl,k _ G H (.refl gh) (.bl _)⟩
structure CmpD (Γ:Cn) (X:Cx) (op:CmpOp) (g:D->D->ar D):Prop where
 ex:∃r,OpR X (dq op) r/\fZ Γ X.K g r
theorem di:CmpD Γ X .Lt ltD:=⟨_,Oa.or OV,HB⟩
theorem fB:CmpD Γ X .LtE leD:=⟨_,Mq.or LW,IR⟩
theorem kX:CmpD Γ X .Gt gtD:=⟨_,FM,Bj fun x y z h=>by unfold gtD at h;split at h<;>cases h;exact⟨_,_,rfl,rfl,rfl⟩⟩
theorem vH:CmpD Γ X .GtE geD:=⟨_,IK,Bj fun x y z h=>by unfold geD at h;split at h<;>cases h;exact⟨_,_,rfl,rfl,rfl⟩⟩
theorem g0:CmpD Γ X .Eq eqD:=⟨_,Mh,Fy⟩
theorem JV:CmpD Γ X .NotEq neD:=⟨_,LZ,M'⟩
theorem eJ {g:D->D->ar D} (h:CmpD Γ X op g) (ha:DE Γ X a fa) (hb:DE Γ X b fb) (hm:lK op b=ao):DE Γ X (.Compare a [op] [b] pos) (b2 g fa fb):=⟨by obtain⟨r,ho,hr⟩:=h.ex;exact(N9 ho ha.1 hb.1 hm).imp (TD.two hr)⟩
noncomputable def chD (g g':D->D->ar D) (fa fb fc:FE):FE:=fun ρ=>(fa ρ).bind fun x=>(fb ρ).bind fun y=>(g x y).bind fun z=>match z with
 |.bl ai=>(fc ρ).bind fun w=>g' y w
 |.bl ao=>aa (.bl ao)
 |_=>ab
theorem TD.chain {g g':D->D->ar D} (hr:fZ Γ X.K g r) (hr':fZ Γ X.K g' r'):∀σ H Q,TD Γ X.K (chD g g' fa fb fc) σ H Q->xQ r r' (TD Γ X.K fa) (TD Γ X.K fb) (TD Γ X.K fc) σ H Q:=by
 rintro σ H Q ⟨G₀,H₀,G,ρ,d,A,h,k⟩;unfold chD at h;obtain⟨x,ha,h⟩:=oBd h;obtain⟨y,hb,h⟩:=oBd h;obtain⟨z,hz,h⟩:=oBd h;refine⟨G₀,H₀,G,ρ,x,A,ha,fun v G1 H1 s1 r1=>⟨G₀,H₀,G1,ρ,y,A.step s1,hb,fun u G2 H2 s2 r2=>?_⟩⟩;refine hr s2.gh (r1.mono s2.gg) r2 hz _ fun w G3 H3 s3 r3=>?_;split at h
 .cases r3.bl_inv;obtain⟨w,hc,h⟩:=oBd h;refine⟨ai,rfl,mq ⟨G₀,H₀,G3,ρ,w,((A.step s1).step s2).step s3,hc,fun q G4 H4 s4 r4=>?_⟩⟩;exact hr' s4.gh ((r2.mono s3.gg).mono s4.gg) r4 h Q fun w' G' H' s r=>k w' G' H' ((((s1.trans s2).trans s3).trans s4).trans s) r
 .cases r3.bl_inv;cases h;exact⟨ao,rfl,mz (k _ G3 H3 ((s1.trans s2).trans s3) (.bl _))⟩
 .cases h
theorem wX {g g':D->D->ar D} (h:CmpD Γ X op g) (h':CmpD Γ X op' g') (ha:DE Γ X a fa) (hb:DE Γ X b fb) (hc:DE Γ X c fc) (hm:yf [op,op'] [b,c]=ao:=by with_unfolding_all rfl) :
  DE Γ X (.Compare a [op,op'] [b,c] pos) (chD g g' fa fb fc):=⟨by
 obtain⟨r,ho,hr⟩:=h.ex;obtain⟨r',ho',hr'⟩:=h'.ex;exact(On ho ho' ha.1 hb.1 hc.1 hm).imp (TD.chain hr hr')⟩
noncomputable def toB (f:FE):FT:=fun ρ=>(f ρ).bind fun d=>match d with
 |.bl b=>aa b
 |_=>ab
theorem TDt.val :∀σ H Q,TDt Γ X.K (toB f) σ H Q->TD Γ X.K f σ H fun x H'=>∃k,x=.bl k/\Q k H':=by rintro σ H Q ⟨G₀,H₀,G,ρ,b,A,h,k⟩;unfold toB at h;obtain⟨d,hd,h⟩:=oBd h;split at h<;>cases h;exact⟨G₀,H₀,G,ρ,_,A,hd,fun v G' H' s r=>⟨b,r.bl_inv,k G' H' s⟩⟩
theorem bx {g:D->D->ar D} (h:CmpD Γ X op g) (ha:DE Γ X a fa) (hb:DE Γ X b fb) (hm:lK op b=ao):DT Γ X (.Compare a [op] [b] pos) (toB (b2 g fa fb)):=⟨by obtain⟨r,ho,hr⟩:=h.ex;exact(Il ho ha.1 hb.1 hm).imp fun σ H Q q=>TD.two hr σ H _ (TDt.val σ H Q q)⟩
theorem Bf {g g':D->D->ar D} (h:CmpD Γ X op g) (h':CmpD Γ X op' g') (ha:DE Γ X a fa) (hb:DE Γ X b fb) (hc:DE Γ X c fc) (hm:yf [op,op'] [b,c]=ao:=by with_unfolding_all rfl) :
  DT Γ X (.Compare a [op,op'] [b,c] pos) (toB (chD g g' fa fb fc)):=⟨by
 obtain⟨r,ho,hr⟩:=h.ex;obtain⟨r',ho',hr'⟩:=h'.ex;exact(O8 ho ho' ha.1 hb.1 hc.1 hm).imp fun σ H Q q=>TD.chain hr hr' σ H _ (TDt.val σ H Q q)⟩
theorem bL (h:DE Γ X e f) (he:∀whole,isTrue e X.env whole=(do let v ←whole;oB e.pos;jG [v] (truthy v)):=by intro _;rfl):DT Γ X e (toB f):=⟨(Pg h.1 he).imp TDt.val⟩
noncomputable def bu (f:FT):FT:=fun ρ=>(f ρ).map (!·)
noncomputable def cm (f g:FT):FT:=fun ρ=>(f ρ).bind fun b=>if b=ai then g ρ else aa ao
noncomputable def orT (f g:FT):FT:=fun ρ=>(f ρ).bind fun b=>if b=ai then aa ai else g ρ
variable {bX:ac Expr}
theorem DW.dt (h:DW Γ X e ft):DT Γ X e ft:=⟨h.1.pt⟩
theorem bV (h:DT Γ X a ft):DT Γ X (.UnaryOp .Not a pos) (bu ft):=⟨(Od h.1).imp fun σ H Q=>by rintro⟨G₀,H₀,G,ρ,b,A,h,k⟩;unfold bu at h;obtain⟨c,hc,h⟩:=oMd h;exact⟨G₀,H₀,G,ρ,c,A,hc,fun G' H' s=>by show Q (!c) H';rw[h];exact k G' H' s⟩⟩
theorem gd (h:DT Γ X a ft):DW Γ X (.BoolOp .And [a] pos) ft:=⟨Pk h.1⟩
theorem c9 (h:DT Γ X a ft):DW Γ X (.BoolOp .Or [a] pos) ft:=⟨F2 h.1⟩
theorem fS (h:DT Γ X a ft) (h':DW Γ X (.BoolOp .And (b::bX) pos) gt):DW Γ X (.BoolOp .And (a::b::bX) pos) (cm ft gt):=⟨(N3 h.1 h'.1).imp fun σ H Q=>by
 rintro⟨G₀,H₀,G,ρ,r,A,h,k⟩;unfold cm at h;obtain⟨c,hc,h⟩:=oBd h;refine⟨G₀,H₀,G,ρ,c,A,hc,fun G1 H1 s1=>?_⟩;cases c with
 |true=>exact mq ⟨G₀,H₀,G1,ρ,r,A.step s1,by simpa using h,fun G' H' s=>k G' H' (s1.trans s)⟩
 |false=>
  rw[qX qr] at h;cases h;exact mz (k _ _ s1)⟩
theorem cJ (h:DT Γ X a ft) (h':DW Γ X (.BoolOp .Or (b::bX) pos) gt):DW Γ X (.BoolOp .Or (a::b::bX) pos) (orT ft gt):=⟨(Oe h.1 h'.1).imp fun σ H Q=>by
 rintro⟨G₀,H₀,G,ρ,r,A,h,k⟩;unfold orT at h;obtain⟨c,hc,h⟩:=oBd h;refine⟨G₀,H₀,G,ρ,c,A,hc,fun G1 H1 s1=>?_⟩;cases c with
 |false=>exact mz ⟨G₀,H₀,G1,ρ,r,A.step s1,by simpa using h,fun G' H' s=>k G' H' (s1.trans s)⟩
 |true=>
  rw[qW rfl] at h;cases h;exact mq (k _ _ s1)⟩
noncomputable def cD (fa fb:FE):FE:=fun ρ=>(fa ρ).bind fun d=>match d with
 |.bl ai=>fb ρ
 |.bl ao=>aa (.bl ao)
 |_=>ab
noncomputable def orD (fa fb:FE):FE:=fun ρ=>(fa ρ).bind fun d=>match d with
 |.bl ai=>aa (.bl ai)
 |.bl ao=>fb ρ
 |_=>ab
noncomputable def ut (fa:FE):FE:=fun ρ=>(fa ρ).bind fun d=>match d with
 |.bl b=>aa (.bl (!b))
 |_=>ab
theorem fL {op} (h:DE Γ X a fa):DE Γ X (.BoolOp op [a] pos) fa:=⟨O7 h.1⟩
theorem eG (ha:DE Γ X a fa) (hb:DE Γ X (.BoolOp .And (b::bX) pos) fb):DE Γ X (.BoolOp .And (a::b::bX) pos) (cD fa fb):=⟨(MK ha.1 hb.1).imp fun σ H Q=>by
 rintro⟨G₀,H₀,G,ρ,d,A,h,k⟩;unfold cD at h;obtain⟨x,hx,h⟩:=oBd h;refine⟨G₀,H₀,G,ρ,x,A,hx,fun v G1 H1 s1 r1=>?_⟩;split at h
 .cases r1.bl_inv;exact⟨ai,rfl,mq ⟨G₀,H₀,G1,ρ,d,A.step s1,h,fun w G' H' s r=>k w G' H' (s1.trans s) r⟩⟩
 .cases r1.bl_inv;cases h;exact⟨ao,rfl,mz (k _ G1 H1 s1 (.bl _))⟩
 .cases h⟩
theorem Oc (ha:DE Γ X a fa) (hb:DE Γ X (.BoolOp .Or (b::bX) pos) fb):DE Γ X (.BoolOp .Or (a::b::bX) pos) (orD fa fb):=⟨(OL ha.1 hb.1).imp fun σ H Q=>by
 rintro⟨G₀,H₀,G,ρ,d,A,h,k⟩;unfold orD at h;obtain⟨x,hx,h⟩:=oBd h;refine⟨G₀,H₀,G,ρ,x,A,hx,fun v G1 H1 s1 r1=>?_⟩;split at h
 .cases r1.bl_inv;cases h;exact⟨ai,rfl,mq (k _ G1 H1 s1 (.bl _))⟩
 .cases r1.bl_inv;exact⟨ao,rfl,mz ⟨G₀,H₀,G1,ρ,d,A.step s1,h,fun w G' H' s r=>k w G' H' (s1.trans s) r⟩⟩
 .cases h⟩
theorem FV (ha:DE Γ X a fa):DE Γ X (.UnaryOp .Not a pos) (ut fa):=⟨(GV ha.1).imp fun σ H Q=>by
 rintro⟨G₀,H₀,G,ρ,d,A,h,k⟩;unfold ut at h;obtain⟨x,hx,h⟩:=oBd h;refine⟨G₀,H₀,G,ρ,x,A,hx,fun v G1 H1 s1 r1=>?_⟩;split at h
 .cases r1.bl_inv;cases h;exact⟨_,rfl,k _ G1 H1 s1 (.bl _)⟩
 .cases h⟩
noncomputable def ak:FA:=fun _=>aa []
noncomputable def ae (fa:FE) (fr:FA):FA:=fun ρ=>(fa ρ).bind fun x=>(fr ρ).map (x::·)
theorem aw:DA Γ X [] ak:=⟨kx.imp fun σ H Q=>by rintro⟨G₀,H₀,G,ρ,d,A,h,k⟩;cases h;exact k _ G H (.refl A.gh) .nil⟩
theorem aj (ha:DE Γ X e fa) (hr:DA Γ X es fr) (hs:a7 (e::es) X.env=(ao,eval e X.env)::a7 es X.env:=by rfl):DA Γ X (e::es) (ae fa fr):=⟨(j9 ha.1 hr.1 hs).imp fun σ H Q=>by rintro⟨G₀,H₀,G,ρ,d,A,h,k⟩;unfold ae at h;obtain⟨x,hx,h⟩:=oBd h;obtain⟨xs,hxs,h⟩:=oMd h;subst h;exact⟨G₀,H₀,G,ρ,x,A,hx,fun v G1 H1 s1 r1=>⟨G₀,H₀,G1,ρ,xs,A.step s1,hxs,fun vs G2 H2 s2 r2=>k _ G2 H2 (s1.trans s2) (.cons (r1.mono s2.gg) r2)⟩⟩⟩
noncomputable def szF (fr:FA):FA:=fun ρ=>(fr ρ).bind fun l=>if l.length<=aT then aa l else ab
noncomputable def aP (fr:FA):FE:=fun ρ=>(fr ρ).map D.lst
noncomputable def bi (fr:FA):FE:=fun ρ=>(fr ρ).map D.tup
theorem DO.de (h:DO Γ X e fr):DE Γ X e (aP fr):=⟨h.1.imp fun σ H Q=>by rintro⟨G₀,H₀,G,ρ,d,A,h,k⟩;unfold aP at h;obtain⟨ds,hd,rfl⟩:=oMd h;exact⟨G₀,H₀,G,ρ,ds,A,hd,fun p vs G' H' s hp r=>oy s.gh r (fun w G2 H2 s2 r2=>k w G2 H2 (s.trans s2) r2) p hp⟩⟩
theorem dv (h:DA Γ X es fr):DO Γ X (.List es pos) (szF fr):=⟨(Fm h.1).imp fun σ H Q=>by
 rintro⟨G₀,H₀,G,ρ,d,A,h,k⟩;unfold szF at h;obtain⟨ds,hd,h⟩:=oBd h;split at h
 .rename_i hz;cases h;exact⟨G₀,H₀,G,ρ,d,A,hd,fun vs G' H' s r=>⟨by rw[r.length];exact hz,fun p hp=>k p vs G' H' s hp r⟩⟩
 .cases h⟩
theorem cK {x1} (h:DA Γ X es fr):DE Γ X (.Tuple es x1 pos) (bi (szF fr)):=⟨(LB h.1).imp fun σ H Q=>by
 rintro⟨G₀,H₀,G,ρ,d,A,h,k⟩;unfold bi szF at h;obtain⟨ds',hd',rfl⟩:=oMd h;obtain⟨ds,hd,h⟩:=oBd hd';split at h
 .rename_i hz;cases h;exact⟨G₀,H₀,G,ρ,ds',A,hd,fun vs G' H' s r=>⟨by rw[r.length];exact hz,wd s.gh r fun w G2 H2 s2 r2=>k w G2 H2 (s.trans s2) r2⟩⟩
 .cases h⟩
noncomputable def xu (Γ:Cn) (K:bh) (g:ac D->ar D) (r:ac V->Hp->VK->Prop):Prop:=
 ∀{G H vs ds z},bK G H->Reps Γ K G vs ds->g ds=aa z->∀Q:VK,(∀w G' H',Step G H G' H'->Rep Γ K G' w z->Q w H')->r vs H Q
noncomputable def cF (g:ac D->ar D) (fr:FA):FE:=fun ρ=>(fr ρ).bind g
theorem TD.call {g:ac D->ar D} {r:ac V->Hp->VK->Prop} (hr:xu Γ X.K g r):∀σ H Q,TD Γ X.K (cF g fr) σ H Q->tCB r (TDa Γ X.K fr) σ H Q:=by rintro σ H Q ⟨G₀,H₀,G,ρ,d,A,h,k⟩;unfold cF at h;obtain⟨ds,hd,h⟩:=oBd h;exact⟨G₀,H₀,G,ρ,ds,A,hd,fun vs G1 H1 s1 r1=>hr s1.gh r1 h Q fun w G' H' s r=>k w G' H' (s1.trans s) r⟩
structure BltD (Γ:Cn) (X:Cx) (id:db) (g:ac D->ar D):Prop where
 ex:∃r,eQ X (.builtin id) r/\xu Γ X.K g r
structure TyD (Γ:Cn) (X:Cx) (id:db) (g:ac D->ar D):Prop where
 ex:∃r,eQ X (.type id) r/\xu Γ X.K g r
theorem b5 {id:db} {g:ac D->ar D} (hc:BltD Γ X id g) (hg:Gl X x) (hm:X.mg x=ab) (hv:lJ x=aa (.builtin id)) (ha:DA Γ X (e::es) fr) (hn:x≠"__name__":=by decide) (hdb:.(H)=ao:=by decide)
  (he:a7 (e::es) X.env=(ao,eval e X.env)::a7 es X.env:=by rfl) (hpl:(cE pos (a7 es X.env)).any (·.1)=ao:=by rfl):DE Γ X (.Call (.Name x p) (e::es) [] pos) (cF g fr):=⟨by
 obtain⟨r,h1,h2⟩:=hc.ex;exact(vq h1 hg hm hv ha.1 hn hdb he hpl).imp (TD.call h2)⟩
theorem jy {id:db} {g:ac D->ar D} (hc:TyD Γ X id g) (hg:Gl X x) (hm:X.mg x=ab) (hv:lJ x=aa (.type id)) (ha:DA Γ X (e::es) fr) (hn:x≠"__name__":=by decide) (hdb:.(H)=ao:=by decide)
  (he:a7 (e::es) X.env=(ao,eval e X.env)::a7 es X.env:=by rfl) (hpl:(cE pos (a7 es X.env)).any (·.1)=ao:=by rfl):DE Γ X (.Call (.Name x p) (e::es) [] pos) (cF g fr):=⟨by
 obtain⟨r,h1,h2⟩:=hc.ex;exact(tX h1 hg hm hv ha.1 hn hdb he hpl).imp (TD.call h2)⟩
theorem lB {n:db} (hg:Gl X x) (hm:X.mg x=ab) (hv:lJ x=aa (.type n)) (hn:x≠"__name__":=by decide) (hd:.(H)=ao:=by decide):DE Γ X (.Name x pos) (vC (.ty n)):=TD.const (fun _=>.ty n) (Na hg hm hv rfl hn hd)
theorem Reps.one (r:Reps Γ K G vs [d]):∃v,vs=[v]/\Rep Γ K G v d:=by
 cases r with
 |cons h t=>cases t;exact⟨_,rfl,h⟩
theorem Reps.two {d':D} (r:Reps Γ K G vs [d,d']):∃v u,vs=[v,u]/\Rep Γ K G v d/\Rep Γ K G u d':=by
 cases r with
 |cons h t=>cases t with
  |cons h2 t2=>cases t2;exact⟨_,_,rfl,h,h2⟩
noncomputable def uu:ac D->ar D
 |[.int i]=>aa (.int (if i<0 then -i else i))
 |_=>ab
theorem K2:BltD Γ X "abs" uu:=⟨_,J',fun {G H vs ds z} gh r h Q k=>by unfold uu at h;split at h<;>cases h;obtain⟨v,rfl,r1⟩:=r.one;cases r1.int_inv;exact⟨_,rfl,k _ G H (.refl gh) (.int _)⟩⟩
noncomputable def ic:ac D->ar D
 |[.int i,.int j]=>aa (.int (if j > i then j else i))
 |_=>ab
theorem wL (hc:X.calm=ai):BltD Γ X "max" ic:=⟨_,Lb hc,fun {G H vs ds z} gh r h Q k=>by unfold ic at h;split at h<;>cases h;obtain⟨v,u,rfl,r1,r2⟩:=r.two;cases r1.int_inv;cases r2.int_inv;exact⟨_,_,rfl,k _ G H (.refl gh) (.int _)⟩⟩
noncomputable def ib:ac D->ar D
 |[.int i,.int j]=>aa (.int (if j<i then j else i))
 |_=>ab
theorem tz (hc:X.calm=ai):BltD Γ X "min" ib:=⟨_,MJ hc,fun {G H vs ds z} gh r h Q k=>by unfold ib at h;split at h<;>cases h;obtain⟨v,u,rfl,r1,r2⟩:=r.two;cases r1.int_inv;cases r2.int_inv;exact⟨_,_,rfl,k _ G H (.refl gh) (.int _)⟩⟩
noncomputable def b8:ac D->ar D
 |[.str x]=>if x.length<=aT then aa (.int (x.length:al)) else ab
 |[.lst l]=>aa (.int (l.length:al))
 |[.tup l]=>aa (.int (l.length:al))
 |[.scr l]=>aa (.int (l.length:al))
 |_=>ab
theorem fR:BltD Γ X "len" b8:=⟨_,Li,fun {G H vs ds z} gh r h Q k=>by
 unfold b8 at h;split at h
 .split at h
  .cases h;obtain⟨v,rfl,r1⟩:=r.one;cases r1.str_inv;exact⟨_,_,rfl,⟨by assumption,rfl⟩,k _ G H (.refl gh) (.int _)⟩
  .cases h
 .cases h;obtain⟨v,rfl,r1⟩:=r.one;obtain⟨a,vs,rfl,ha,rv⟩:=r1.lst_inv;exact⟨_,_,rfl,.inl ⟨vs,.inl (.inl (gh _ _ ha)),rfl⟩,k _ G H (.refl gh) (by rw[rv.length];exact .int _)⟩
 .cases h;obtain⟨v,rfl,r1⟩:=r.one;obtain⟨a,vs,rfl,ha,rv⟩:=r1.tup_inv;exact⟨_,_,rfl,.inr ⟨vs,.inl (.inl (gh _ _ ha)),rfl⟩,k _ G H (.refl gh) (by rw[rv.length];exact .int _)⟩
 .cases h;obtain⟨v,rfl,r1⟩:=r.one;obtain⟨a,rfl,ha⟩:=r1.scr_inv;exact⟨_,_,rfl,.inl ⟨_,gh.seq ha,rfl⟩,k _ G H (.refl gh) (by rw[qf];exact .int _)⟩
 .cases h⟩
noncomputable def tyD:D->ar db
 |.non=>aa "NoneType"
 |.bl _=>aa "bool"
 |.int _=>aa "int"
 |.str _=>aa "str"
 |.lst _=>aa "list"
 |.tup _=>aa "tuple"
 |.dk _=>aa "dict"
 |.dt _=>aa "dict"
 |_=>ab
noncomputable def gc (t c:db):ar aN:=if (lH t==lH c)=ai then aa ai else if PySem.W.kitMeta c=ai then rO (fun x=>x.contains (lH c)) (PySem.fastBuiltinMro t) else ab
noncomputable def dR:ac D->ar D
 |[d,.ty c]=>(tyD d).bind fun t=>(gc t c).map D.bl
 |_=>ab
theorem JA {t:db} (gh:bK G H) (r:Rep Γ K G v d) (h:tyD d=aa t):TyOf K H v (.type t):=by
 unfold tyD at h;split at h<;>cases h
 .cases r.non_inv;exact .non
 .cases r.bl_inv;exact .bl _
 .cases r.int_inv;exact .int _
 .cases r.str_inv;exact .str _
 .obtain⟨a,vs,rfl,ha,_⟩:=r.lst_inv;exact .lst (gh _ _ ha)
 .obtain⟨a,vs,rfl,ha,_⟩:=r.tup_inv;exact .tup (gh _ _ ha)
 .cases r with
  |dk h _ _=>exact .dK (gh _ _ h)
 .cases r with
  |dt h _ _=>exact .dT (gh _ _ h)
theorem kS:BltD Γ X "isinstance" dR:=by
 refine⟨fun vs H Q=>∃v t c b,vs=[v,.ty c]/\TyOf X.K H v (.type t)/\PK X.K (.type t) (.type c)=aa b/\Q (.bl b) H,?_,?_⟩
 .intro pins s σ H xs us Q I r h;obtain⟨v,t,c,b,rfl,ty,hk,q⟩:=h;obtain⟨u,w',rfl,r1,r2⟩:=wo r;cases r2;exact LX I r1 ty hk fun tk=>⟨.bl b,H,I.tok tk,rfl,q⟩
 .intro G H vs ds z gh r h Q k;unfold dR at h;split at h
  .obtain⟨t,ht,h⟩:=oBd h;obtain⟨b,hb,rfl⟩:=oMd h;obtain⟨v,u,rfl,r1,r2⟩:=r.two;cases r2;exact⟨v,t,_,b,rfl,JA gh r1 ht,hb,k _ G H (.refl gh) (.bl _)⟩
  .cases h
end
variable {β:Type} {fo:FE}
section
variable {a:Expr}
theorem Reps.atI {K:bh} {G:Hp} {vs:ac V} {ds:ac D} {i:ag} {d:D} (r:Reps Γ K G vs ds) (h:L2.atI ds i=aa d):∃v,L2.atI vs i=aa v/\Rep Γ K G v d:=by
 unfold L2.atI at h ⊢;rw[r.length];cases e:ixN ds.length i with
 |none=>rw[e] at h;cases h
 |some j=>
  rw[e] at h;obtain⟨v,h1,h2⟩:=r.get (i:=j) (d:=d) h;exact⟨v,h1,h2⟩
theorem L' (g:α->β) (xs:ac α) (i:ag):L2.atI (xs.map g) i=(L2.atI xs i).map g:=by
 unfold L2.atI;rw[qf];cases ixN xs.length i with
 |none=>rfl
 |some j=>simp
noncomputable def ixD:D->D->ar D
 |.lst l,.int i=>atI l i
 |.tup l,.int i=>atI l i
 |.scr l,.int i=>(atI l i).map D.int
 |.str x,.int i=>if x.length<=aT then (atI x.cps.toList i).map fun c=>D.str ⟨#[c]⟩ else ab
 |_,_=>ab
theorem GP :fZ Γ K ixD (rIx K):=by
 intro G H v u x y z gh r1 r2 h Q k;unfold ixD at h;split at h
 .obtain⟨a,vs,rfl,ha,rv⟩:=r1.lst_inv;cases r2.int_inv;obtain⟨w,hw,rw'⟩:=rv.atI h;exact .inl ⟨a,vs,_,w,rfl,rfl,.inl (.inl (gh _ _ ha)),hw,k w G H (.refl gh) rw'⟩
 .obtain⟨a,vs,rfl,ha,rv⟩:=r1.tup_inv;cases r2.int_inv;obtain⟨w,hw,rw'⟩:=rv.atI h;exact .inr (.inl ⟨a,vs,_,w,rfl,rfl,.inl (.inl (gh _ _ ha)),hw,k w G H (.refl gh) rw'⟩)
 .obtain⟨a,rfl,ha⟩:=r1.scr_inv;cases r2.int_inv;obtain⟨n,hn,rfl⟩:=oMd h;exact .inl ⟨a,_,_,.int n,rfl,rfl,gh.seq ha,by rw[L',hn];rfl,k _ G H (.refl gh) (.int _)⟩
 .split at h
  .cases r1.str_inv;cases r2.int_inv;obtain⟨n,hn,rfl⟩:=oMd h;exact .inr (.inr ⟨_,_,n,rfl,rfl,by assumption,hn,k _ G H (.refl gh) (.str _)⟩)
  .cases h
 .cases h
theorem aB (ha:DE Γ X a fa) (hb:DE Γ X b fb) (hs:CH b:=by intro _ _;rfl):DE Γ X (.Subscript a b pos) (b2 ixD fa fb):=⟨(OF Lw ha.1 hb.1 hs).imp (TD.two GP)⟩
noncomputable def dO (xs:ac α) (lo hi:ar ag):ac α:=(xs.drop (HT.sIx xs.length 0 lo)).take (HT.sIx xs.length xs.length hi-HT.sIx xs.length 0 lo)
theorem F8 (g:α->β) (xs:ac α) (lo hi:ar ag):dO (xs.map g) lo hi=(dO xs lo hi).map g:=by unfold dO;simp
theorem Reps.cut (r:Reps Γ K G vs ds) (lo hi:ar ag):Reps Γ K G (kW vs lo hi) (dO ds lo hi):=by unfold kW dO;rw[r.length];exact(r.drop _).take _
noncomputable def oo (x:ah) (lo hi:ar ag):ah:=⟨(dO x.cps.toList lo hi).toArray⟩
theorem Dh (lo hi:ar ag) (n:al):yG lo hi 1 n=(cG (HT.sIx n n hi-HT.sIx n 0 lo)).map (HT.sIx n 0 lo+·):=by
 rw[←PY];unfold yG;have h1:∀(o:ar ag) (d:al),d<=n->(match o with|none=>(d:ag)|some i=>if (1:ag) > 0 then max 0 (min (if i<0 then i+(n:ag) else i) n) else max (-1) (min (if i<0 then i+(n:ag) else i) ((n:ag)-1)))=((HT.sIx n d o:al):ag):=fun o d hd=>by
  cases o with
  |none=>simp[HT.sIx]
  |some i=>
   simp only[HT.sIx,show(1:ag) > 0 by decide,cu];by_cases h:i<0
   .simp only[h,cu];omega
   .simp only[h,c6];omega
 have e0:=h1 lo 0 (gV _);have e1:=h1 hi n (qv _);rw[←e0,←e1];rfl
theorem C2 (x:ah) (lo hi:ar ag):EB x lo hi=oo x lo hi:=by
 have key:(yG lo hi 1 x.length).filterMap (x.cps[·]?)=dO x.cps.toList lo hi:=by rw[Dh,yr];unfold dO;rw[show x.cps.toList.length=x.length by simp[rF]]
 unfold EB oo;split
 .rename_i h;rw[←key];have hl:(yG lo hi 1 x.length).length=x.length:=by simpa using h
  rw[Dh] at hl ⊢;rw[yr];rw[qf,qR] at hl;have hb:HT.sIx x.length x.length hi<=x.length:=by
   cases hi with
   |none=>simp[HT.sIx]
   |some i=>simp only[HT.sIx];split<;>omega
  have h0:HT.sIx x.length 0 lo=0\/x.length=0:=by omega
  have hx:x.cps.toList.length=x.length:=by simp[rF]
  have e:(x.cps.toList.drop (HT.sIx x.length 0 lo)).take (HT.sIx x.length x.length hi-HT.sIx x.length 0 lo)=x.cps.toList:=by
   rcases h0 with h0|h0
   .rw[h0,yH];rw[h0] at hl;exact rP .(e)
   .have:x.cps.toList=[]:=List.length_eq_zero_iff.mp .(e);rw[this];simp
  rw[e]
 .rw[key]
noncomputable def pN:bf->ar (ar ag):=fun _=>aa ab
noncomputable def pS (f:FE):bf->ar (ar ag):=fun ρ=>(f ρ).bind fun d=>match d with
 |.int i=>aa (aa i)
 |_=>ab
inductive TDp (Γ:Cn) (K:bh) (f:bf->ar (ar ag)) (σ:St) (H:Hp) (Q:ar ag->Hp->Prop):Prop where
 |mk:∀G₀ H₀ G ρ o,At Γ K G₀ H₀ G H ρ σ->f ρ=aa o->(∀G' H',Step G H G' H'->Q o H')->TDp Γ K f σ H Q
structure DP (Γ:Cn) (X:Cx) (e:ar Expr) (f:bf->ar (ar ag)):Prop where
 out:PO X e (TDp Γ X.K f)
theorem fY:DP Γ X ab pN:=⟨fun pins s σ H Q I ⟨G₀,H₀,G,ρ,o,A,h,k⟩=>by cases h;exact MM pins s σ H Q I (k G H (.refl A.gh))⟩
theorem fA (h:DE Γ X e f):DP Γ X (aa e) (pS f):=⟨fun pins s σ H Q I ⟨G₀,H₀,G,ρ,o,A,q,k⟩=>by unfold pS at q;obtain⟨d,hd,q⟩:=oBd q;split at q<;>cases q;exact FF h.1 pins s σ H Q I ⟨G₀,H₀,G,ρ,_,A,hd,fun v G' H' s r=>⟨_,r.int_inv,k G' H' s⟩⟩⟩
theorem L7:SlR X (fun x lo hi H Q=>∃z,x=.str z/\z.length<=aT/\Q (.str (oo z lo hi)) H):=by
 intro pins s σ H x v vl vu lo hi sl Q I rx hs pl pu h;obtain⟨z,rfl,hz,q⟩:=h;obtain⟨t,rfl⟩:=rx;refine⟨"str",_,PySem.F.slot_str_getitem.lookup,uK _ _ _,?_⟩;obtain⟨l,rfl,el⟩:∃l:ar (ag×Tok),vl=partValue l/\l.map (·.1)=lo:=by
  cases pl with
  |none=>exact⟨ab,rfl,rfl⟩
  |int i t=>exact⟨aa (i,t),rfl,rfl⟩
 obtain⟨u,rfl,eu⟩:∃l:ar (ag×Tok),vu=partValue l/\l.map (·.1)=hi:=by
  cases pu with
  |none=>exact⟨ab,rfl,rfl⟩
  |int i t=>exact⟨aa (i,t),rfl,rfl⟩
 refine wpAny_getItem_str_slice (l:=l) (u:=u) (st:=ab) hs rfl ?_;have e:(if ((rO (fun x=>x.fst) (ab:ar (ag×Tok))).getD 1==1 && (slicePicked z l u ab).length==z.length)=ai then z else {cps:=(List.filterMap (fun x=>z.cps[x]?) (slicePicked z l u ab)).toArray})=oo z lo hi:=by
  have e0:EB z (l.map (·.1)) (u.map (·.1))=oo z lo hi:=by rw[el,eu];exact C2 z lo hi
  exact e0
 refine post_val_or_str ⟨?_,fun t' k=>?_⟩
 .rw[e,←C2];exact qK (Txt.slice_le z _ _) hz
 .rw[e];exact⟨.str _,H,I.tok k,⟨_,rfl⟩,q⟩
noncomputable def nD (lo hi:ar ag):D->ar D
 |.lst l=>aa (.lst (dO l lo hi))
 |.scr l=>aa (.lst ((dO l lo hi).map D.int))
 |.tup l=>if HT.sIx l.length 0 lo=0/\HT.sIx l.length l.length hi=l.length then ab else aa (.tup (dO l lo hi))
 |.str x=>if x.length<=aT then aa (.str (oo x lo hi)) else ab
 |_=>ab
noncomputable def slF (f:FE) (fl fh:bf->ar (ar ag)):FE:=fun ρ=>(f ρ).bind fun d=>(fl ρ).bind fun l=>(fh ρ).bind fun h=>nD l h d
variable {fl fh:bf->ar (ar ag)} {lo hi:ar Expr}
theorem fO (he:DE Γ X e f) (hl:DP Γ X lo fl) (hh:DP Γ X hi fh):DE Γ X (.Subscript e (.Slice lo hi ab p2) pos) (slF f fl fh):=⟨(Js (N0.or (Jg.or L7)) he.1 hl.1 hh.1).imp fun σ H Q=>by
 rintro⟨G₀,H₀,G,ρ,d,A,h,k⟩;unfold slF at h;obtain⟨x,hx,h⟩:=oBd h;obtain⟨l,hl,h⟩:=oBd h;obtain⟨u,hu,h⟩:=oBd h;refine⟨G₀,H₀,G,ρ,x,A,hx,fun v G1 H1 s1 r1=>⟨G₀,H₀,G1,ρ,l,A.step s1,hl,fun G2 H2 s2=>⟨G₀,H₀,G2,ρ,u,(A.step s1).step s2,hu,fun G3 H3 s3=>?_⟩⟩⟩;have s:=(s1.trans s2).trans s3;have r:=r1.mono (s2.gg.trans s3.gg);have gh:=s3.gh;unfold nD at h;split at h
 .cases h;obtain⟨a,vs,rfl,ha,rv⟩:=r.lst_inv;exact .inl ⟨a,vs,rfl,.inl (.inl (gh _ _ ha)),oy gh (rv.cut l u) fun w G4 H4 s4 r4=>k w G4 H4 (s.trans s4) r4⟩
 .cases h;obtain⟨a,rfl,ha⟩:=r.scr_inv;refine .inl ⟨a,_,rfl,gh.seq ha,oy gh ?_ fun w G4 H4 s4 r4=>k w G4 H4 (s.trans s4) r4⟩;show Reps Γ X.K G3 (dO _ l u) _;rw[F8];exact Reps.ints _
 .split at h
  .cases h
  .rename_i hw;cases h;obtain⟨a,vs,rfl,ha,rv⟩:=r.tup_inv;exact .inr (.inl ⟨a,vs,rfl,.inl (.inl (gh _ _ ha)),by rw[rv.length];exact hw,wd gh (rv.cut l u) fun w G4 H4 s4 r4=>k w G4 H4 (s.trans s4) r4⟩)
 .split at h
  .cases h;cases r.str_inv;exact .inr (.inr ⟨_,rfl,by assumption,k _ _ _ s (.str _)⟩)
  .cases h
 .cases h⟩
structure MtD (Γ:Cn) (X:Cx) (T id:db) (g:D->ac D->ar D):Prop where
 ex:∃r,MtR X id r/\∀{G H v x vs ds z},bK G H->Rep Γ X.K G v x->Reps Γ X.K G vs ds->g x ds=aa z->∀Q:VK,(∀w G' H',Step G H G' H'->Rep Γ X.K G' w z->Q w H')->r v vs H Q
 ty:∀{G H v x ds z},bK G H->Rep Γ X.K G v x->g x ds=aa z->tyV X.K T v H
noncomputable def mF (g:D->ac D->ar D) (f:FE) (fr:FA):FE:=fun ρ=>(f ρ).bind fun d=>(fr ρ).bind fun ds=>g d ds
theorem AO {id:db} {g:D->ac D->ar D} (pa:PlainAttrs T) (slot:yI T name id) (hty:typeOf (.builtin id)=bA (.type "method_descriptor")) (hm:MtD Γ X T id g) (ho:DE Γ X o fo) (ha:DA Γ X (e::es) fr)
  (hbase:jK o name X.env (eval o X.env)=eval o X.env:=by rfl)
  (hfew:((cE cpos (a7 (e::es) X.env)).all (fun x=>!x.1) && (iO cpos (iP [] X.env)).all (fun x=>x.1.isSome)
   && decide ((e::es).length+([]:ac iR).length+(if ([]:ac iR).isEmpty then 0 else 1)<30))=ai:=by rfl)
  (hline:(apos.endLine==cpos.line)=ai:=by rfl) (hs:a7 (e::es) X.env=(ao,eval e X.env)::a7 es X.env:=by rfl) (hplain:(cE cpos (a7 es X.env)).any (·.1)=ao:=by rfl) :
  DE Γ X (.Call (.Attribute o name apos) (e::es) [] cpos) (mF g fo fr):=⟨by
 obtain⟨r,h1,h2⟩:=hm.ex;refine(vE pa slot hty h1 ho.1 ha.1 hbase hfew hline hs hplain).imp fun σ H Q=>?_;rintro⟨G₀,H₀,G,ρ,d,A,h,k⟩;unfold mF at h;obtain⟨x,hx,h⟩:=oBd h;obtain⟨ds,hd,h⟩:=oBd h;exact⟨G₀,H₀,G,ρ,x,A,hx,fun v G1 H1 s1 r1=>⟨hm.ty s1.gh r1 h,G₀,H₀,G1,ρ,ds,A.step s1,hd,fun vs G2 H2 s2 r2=>h2 s2.gh (r1.mono s2.gg) r2 h Q fun w G3 H3 s3 r3=>k w G3 H3 ((s1.trans s2).trans s3) r3⟩⟩⟩
noncomputable def iF:ac D->ar (ac ah)
 |[]=>aa []
 |.str x::r=>(iF r).map (x::·)
 |_::_=>ab
noncomputable def RF:D->ac D->ar D
 |.str sep,[.lst l]=>(iF l).bind fun ys=>if (ys.map (·.length)).sum+ys.length*sep.length<=16777216 then aa (.str (Txt.join sep ys)) else ab
 |_,_=>ab
theorem xS {K:bh} {G:Hp}:∀{vs:ac V} {ds:ac D} {ys:ac ah},Reps Γ K G vs ds->iF ds=aa ys->vs=ys.map V.str
 |_,[],ys,r,h=>by cases r;cases h;rfl
 |_,d::ds,ys,.cons h1 h2,h=>by
  cases d with
  |str x=>
   obtain⟨zs,hz,rfl⟩:=oMd (show(iF ds).map (x::·)=aa ys from h);rw[h1.str_inv,xS h2 hz];rfl
  |_=>cases h
theorem zx:∀{ys:ac ah} {us:ac Value},bH (ys.map V.str) us->StrsAre us ys
 |[],_,r=>by rw[qM] at r;cases r;exact .nil
 |y::ys,_,r=>by
  rw[qm] at r;cases r with
  |cons r1 r2=>
   obtain⟨t,e⟩:=r1;subst e;exact .cons y t (zx r2)
noncomputable def i8:ac D->ar (ac aN)
 |[]=>aa []
 |.bl x::r=>(i8 r).map (x::·)
 |_::_=>ab
theorem vk {K:bh} {G:Hp}:∀{vs:ac V} {ds:ac D} {ys:ac aN},Reps Γ K G vs ds->i8 ds=aa ys->vs=ys.map V.bl
 |_,[],ys,r,h=>by cases r;cases h;rfl
 |_,d::ds,ys,.cons h1 h2,h=>by
  cases d with
  |bl x=>
   obtain⟨zs,hz,rfl⟩:=oMd (show(i8 ds).map (x::·)=aa ys from h);rw[h1.bl_inv,vk h2 hz];rfl
  |_=>cases h
noncomputable def fE:ac D->ar D
 |[.lst l]=>(i8 l).map fun bs=>D.bl (bs.all id)
 |_=>ab
noncomputable def wK:ac D->ar D
 |[.lst l]=>(i8 l).map fun bs=>D.bl (bs.any id)
 |_=>ab
theorem wI:∀{bs:ac aN} {us:ac Value},bH (bs.map V.bl) us->us=bs.map jF
 |[],_,r=>by rw[qM] at r;cases r;rfl
 |y::ys,_,r=>by
  rw[qm] at r;cases r with
  |cons r1 r2=>cases r1;rw[wI r2];rfl
theorem GK (bs:ac aN):(cG bs.length).all (fun i=>bs.getD i ao)=bs.all id:=by
 rw[mY,rQ,rQ];constructor
 .intro h x hx;obtain⟨i,hi,e⟩:=yJ.mp hx;have:=h i (dX.mpr hi);simp[oN,hi] at this;rw[←e];exact this
 .intro h i hi;have hi':=dX.mp hi;have:=h (bs[i]) (uN hi');simp[oN,hi'];exact this
theorem Gd (bs:ac aN):(cG bs.length).any (fun i=>bs.getD i ao)=bs.any id:=by
 rw[mY,ip,ip];constructor
 .rintro⟨i,hi,h⟩;have hi':=dX.mp hi;refine⟨bs[i],uN hi',?_⟩;simpa[oN,hi'] using h
 .rintro⟨x,hx,h⟩;obtain⟨i,hi,e⟩:=yJ.mp hx;refine⟨i,dX.mpr hi,?_⟩;simp[oN,hi,e];exact h
theorem A7 {bs:ac aN} :TruthOf prog w A (fun i v=>(bs.map jF).toArray[i]?=aa v) (fun i=>bs.getD i ao):=fun i v s Q E hP hQ=>by
 have hP':(bs.map jF)[i]?=aa v:=by simpa using hP
 rw[qk] at hP';obtain⟨b,hb,rfl⟩:=oMd hP';have:bs.getD i ao=b:=by simp[oN,hb]
 have hQ':Q (bs.getD i ao) s:=hQ;rw[this] at hQ';exact kB hQ'
theorem hV (hc:X.calm=ai):BltD Γ X "all" fE:=by
 refine⟨fun vs H Q=>∃(a:av) (bs:ac aN),vs=[.ref a]/\H a=aa (.lst (bs.map V.bl))/\Q (.bl (bs.all id)) H,?_,?_⟩
 .intro pins s σ H xs us Q I r h;obtain⟨a,bs,rfl,ha,q⟩:=h;obtain⟨u,rfl,ru⟩:=fu r;cases ru;obtain⟨its,rv,pl,_⟩:=I.list (.inl (.inl ha));have e:=wI rv;subst e;refine call_all_walk (rR pl.isList ?_);have ne:a≠s.heap.objs.size:=by obtain⟨o,_,h1,_⟩:=pl;exact qA (qu h1)
  refine⟨s.heap.objs.size,_,_,_,_,_,fun i=>bs.getD i ao,rfl,uO (A:=X.A.in1) (show X.A.in1.handled=ab from I.ok.hd hc) s.heap.objs.size a ne (bs.map jF).toArray,⟨⟨_,qE _ rfl,rfl,rfl⟩,pl.isList.at fun o q=>qt _ q⟩,A7,fun h' tk hk=>?_⟩;have e2:(bs.map jF).toArray.size=bs.length:=by simp
  rw[e2,GK];refine⟨.bl _,H,I.kept fun b o z=>hk b o ?_ (qt _ z),rfl,q⟩;intro z';have:b=s.heap.objs.size:=by simpa using z'
  exact bz (qu z) (by rw[this];exact lI _)
 .intro G H vs ds z gh r h Q k;unfold fE at h;split at h
  .obtain⟨bs,hb,rfl⟩:=oMd h;obtain⟨v,rfl,r1⟩:=r.one;obtain⟨a,ws,rfl,ha,rw'⟩:=r1.lst_inv;refine⟨a,bs,rfl,?_,k _ G H (.refl gh) (.bl _)⟩;rw[←vk rw' hb];exact gh _ _ ha
  .cases h
theorem Pd (hc:X.calm=ai):BltD Γ X "any" wK:=by
 refine⟨fun vs H Q=>∃(a:av) (bs:ac aN),vs=[.ref a]/\H a=aa (.lst (bs.map V.bl))/\Q (.bl (bs.any id)) H,?_,?_⟩
 .intro pins s σ H xs us Q I r h;obtain⟨a,bs,rfl,ha,q⟩:=h;obtain⟨u,rfl,ru⟩:=fu r;cases ru;obtain⟨its,rv,pl,_⟩:=I.list (.inl (.inl ha));have e:=wI rv;subst e;refine call_any_walk (rR pl.isList ?_);have ne:a≠s.heap.objs.size:=by obtain⟨o,_,h1,_⟩:=pl;exact qA (qu h1)
  refine⟨s.heap.objs.size,_,_,_,_,_,fun i=>bs.getD i ao,rfl,uO (A:=X.A.in1) (show X.A.in1.handled=ab from I.ok.hd hc) s.heap.objs.size a ne (bs.map jF).toArray,⟨⟨_,qE _ rfl,rfl,rfl⟩,pl.isList.at fun o q=>qt _ q⟩,A7,fun h' tk hk=>?_⟩;have e2:(bs.map jF).toArray.size=bs.length:=by simp
  rw[e2,Gd];refine⟨.bl _,H,I.kept fun b o z=>hk b o ?_ (qt _ z),rfl,q⟩;intro z';have:b=s.heap.objs.size:=by simpa using z'
  exact bz (qu z) (by rw[this];exact lI _)
 .intro G H vs ds z gh r h Q k;unfold wK at h;split at h
  .obtain⟨bs,hb,rfl⟩:=oMd h;obtain⟨v,rfl,r1⟩:=r.one;obtain⟨a,ws,rfl,ha,rw'⟩:=r1.lst_inv;refine⟨a,bs,rfl,?_,k _ G H (.refl gh) (.bl _)⟩;rw[←vk rw' hb];exact gh _ _ ha
  .cases h
end
structure Yd (Γ:Cn) (K:bh) (J:It) (G:Hp) (ds:ac D):Prop where
 go:∀(i:al) d G2 H2,ds[i]?=aa d->bK G G2->bK G2 H2->J.go i H2/\∀x H3,J.yld i H2 x H3->∃G3,Step G2 H2 G3 H3/\Rep Γ K G3 x d
 stop:∀G2 H2,bK G G2->bK G2 H2->J.stop ds.length H2
inductive TDi (Γ:Cn) (K:bh) (f:FA) (σ:St) (H:Hp) (R:It->Hp->Prop):Prop where
 |mk:∀G₀ H₀ G ρ ds,At Γ K G₀ H₀ G H ρ σ->f ρ=aa ds->(∀J G' H',Step G H G' H'->Yd Γ K J G' ds->R J H')->TDi Γ K f σ H R
structure DI (Γ:Cn) (X:Cx) (tg e:Expr) (f:FA):Prop where
 out:PI X tg e (TDi Γ X.K f)
theorem PI.imp {t t':TI} (h:PI X tg e t) (i:∀σ H R,t' σ H R->t σ H R):PI X tg e t':=fun pins s σ H R I q=>h pins s σ H R I (i _ _ _ q)
variable {fi:FA} {ts:ac Expr} {gs:FGs} {fe:FE}
section
variable {a:Expr}
theorem NV {a:av} (h:G a=aa (.tup vs)) (r:Reps Γ K G vs ds):Yd Γ K (Itt K a) G ds:=by refine⟨fun i d G2 H2 hd g1 g2=>?_,fun G2 H2 g1 g2=>⟨vs,.inl (.inl (g2 _ _ (g1 _ _ h))),by rw[r.length];exact qv _⟩⟩;obtain⟨v,hv,rv⟩:=r.get hd;refine⟨⟨vs,v,.inl (.inl (g2 _ _ (g1 _ _ h))),hv⟩,fun x H3 ⟨e1,e2⟩=>?_⟩;subst e1;have:=e2 vs (.inl (.inl (g2 _ _ (g1 _ _ h))));rw[hv] at this;cases this;exact⟨G2,.refl g2,rv.mono g1⟩
theorem An {a:av} (h:SqL K G a vs) (r:Reps Γ K G vs ds):Yd Γ K (Ite K a) G (ds.mapIdx fun i d=>D.tup [.int i,d]):=by refine⟨fun i d G2 H2 hd g1 g2=>?_,fun G2 H2 g1 g2=>⟨vs,g2.seq (g1.seq h),by rw[ng,r.length];exact qv _⟩⟩;rw[Qk] at hd;obtain⟨d',hd',rfl⟩:=oMd hd;obtain⟨v,hv,rv⟩:=r.get hd';refine⟨⟨vs,v,g2.seq (g1.seq h),hv⟩,fun x H3 ⟨T,y,e0,hT,e1,e2⟩=>?_⟩;subst e0;have:=e2 vs (g2.seq (g1.seq h));rw[hv] at this;cases this;subst e1;have s:=Step.new (o:=.tup [.int i,v]) g2 hT;exact⟨_,s,.tup cc (.cons (.int _) (.cons ((rv.mono g1).mono s.gg) .nil))⟩
noncomputable def rf:D->ar (ac D)
 |.lst l=>aa l
 |.tup l=>aa l
 |.scr l=>aa (l.map D.int)
 |_=>ab
noncomputable def itF (f:FE):FA:=fun ρ=>(f ρ).bind rf
theorem K' {l:Expr} {tl:TE} (hl:PE X l tl):PI X tg l (fun σ H R=>tl σ H fun x H1=>(∃a,x=.ref a/\(∃xs,SqL X.K H1 a xs)/\R (Itl X.K a) H1)\/(∃a,x=.ref a/\(∃xs,SqT X.K H1 a xs)/\R (Itt X.K a) H1)):=by
 intro pins s σ H R I h;refine thn (hl pins s σ H _ I h) fun v s1 ⟨x,H1,I1,r1,q1⟩=>?_;rcases q1 with⟨a,e,⟨xs,hq⟩,q⟩|⟨a,e,⟨xs,hq⟩,q⟩
 .subst e;cases r1;obtain⟨its,rv,p,hz⟩:=I1.list hq;refine rR p.isList ?_;refine⟨s1.heap.objs.size,[s1.heap.objs.size],_,_,H1,rfl,I1.kept (t':=s1.toks) fun b o e=>qt _ e,Np a _,⟨_,qE _ rfl,rfl,rfl⟩,fun b hb=>?_,q⟩;have e:b=s1.heap.objs.size:=by simpa using hb
  subst e;exact I1.fpOk (qv _) (I1.hok.fresh (qv _))
 .subst e;cases r1;obtain⟨its,rv,p,hz⟩:=I1.tuple hq;refine wpAny_pyIter_tuple (show s1.heap.IsTuple a its.toArray from p) ?_;refine⟨s1.heap.objs.size,[s1.heap.objs.size],_,_,H1,rfl,I1.kept (t':=s1.toks) fun b o e=>qt _ e,IE a _,⟨_,qE _ rfl,rfl,rfl⟩,fun b hb=>?_,q⟩;have e:b=s1.heap.objs.size:=by simpa using hb
  subst e;exact I1.fpOk (qv _) (I1.hok.fresh (qv _))
theorem bB (h:DE Γ X iter f):DI Γ X tg iter (itF f):=⟨(K' h.1).imp fun σ H R=>by
 rintro⟨G₀,H₀,G,ρ,ds,A,h,k⟩;unfold itF at h;obtain⟨d,hd,h⟩:=oBd h;refine⟨G₀,H₀,G,ρ,d,A,hd,fun v G' H' s r=>?_⟩;unfold rf at h;split at h
 .cases h;obtain⟨a,vs,rfl,ha,rv⟩:=r.lst_inv;refine .inl ⟨a,rfl,⟨vs,.inl (.inl (s.gh _ _ ha))⟩,k _ G' H' s ?_⟩;refine⟨fun i d G2 H2 hd g1 g2=>?_,fun G2 H2 g1 g2=>⟨vs,.inl (.inl (g2 _ _ (g1 _ _ ha))),by rw[rv.length];exact qv _⟩⟩;obtain⟨v,hv,rv'⟩:=rv.get hd;refine⟨⟨vs,v,.inl (.inl (g2 _ _ (g1 _ _ ha))),hv⟩,fun x H3 ⟨e1,e2⟩=>?_⟩;subst e1;have:=e2 vs (.inl (.inl (g2 _ _ (g1 _ _ ha))));rw[hv] at this;cases this;exact⟨G2,.refl g2,rv'.mono g1⟩
 .cases h;obtain⟨a,vs,rfl,ha,rv⟩:=r.tup_inv;exact .inr ⟨a,rfl,⟨vs,.inl (.inl (s.gh _ _ ha))⟩,k _ G' H' s (NV ha rv)⟩
 .rename_i l;cases h;obtain⟨a,rfl,ha⟩:=r.scr_inv;refine .inl ⟨a,rfl,⟨_,s.gh.seq ha⟩,k _ G' H' s ?_⟩;refine⟨fun i d G2 H2 hd g1 g2=>?_,fun G2 H2 g1 g2=>⟨_,g2.seq (g1.seq ha),by simp⟩⟩;rw[qk] at hd;obtain⟨n,hn,rfl⟩:=oMd hd;have hv:(List.map V.int l)[i]?=aa (V.int n):=by rw[qk,hn];rfl
  refine⟨⟨_,_,g2.seq (g1.seq ha),hv⟩,fun x H3 ⟨e1,e2⟩=>?_⟩;subst e1;have:=e2 _ (g2.seq (g1.seq ha));rw[hv] at this;cases this;exact⟨G2,.refl g2,.int _⟩
 .cases h⟩
noncomputable def wR:D->ar (ac D)
 |.str x=>aa (x.cps.toList.map fun c=>D.str ⟨#[c]⟩)
 |_=>ab
noncomputable def itS (f:FE):FA:=fun ρ=>(f ρ).bind wR
theorem MD {n:ah} {q:dn} (h:DE Γ X iter f):DI Γ X (.Name n q) iter (itS f):=⟨(Ni h.1).imp fun σ H R=>by
 rintro⟨G₀,H₀,G,ρ,ds,A,h,k⟩;unfold itS at h;obtain⟨d,hd,h⟩:=oBd h;refine⟨G₀,H₀,G,ρ,d,A,hd,fun v G' H' s r=>?_⟩;unfold wR at h;split at h<;>cases h;cases r.str_inv;rename_i x;refine⟨x,rfl,k _ G' H' s ⟨fun i d G2 H2 hd g1 g2=>?_,fun G2 H2 g1 g2=>?_⟩⟩
 .rw[qk] at hd;obtain⟨c,hc,rfl⟩:=oMd hd;have hc':x.cps[i]?=aa c:=by simpa using hc
  refine⟨(gF.mp hc').1,fun y H3 ⟨e1,c2,h2,e2⟩=>?_⟩;subst e1;subst e2;rw[hc'] at h2;cases h2;exact⟨G2,.refl g2,.str _⟩
 .show _=x.cps.size;simp⟩
noncomputable def Df:D->ar (ac D)
 |.lst l=>aa (l.mapIdx fun i d=>D.tup [.int i,d])
 |.scr l=>aa ((l.map D.int).mapIdx fun i d=>D.tup [.int i,d])
 |_=>ab
noncomputable def itE (f:FE):FA:=fun ρ=>(f ρ).bind Df
theorem kT {k1:al} (hg:Gl X "enumerate") (hm:X.mg "enumerate"=ab) (h:DE Γ X a f) (hs:a7 [a] X.env=[(ao,eval a X.env)]:=by rfl) (hs0:a7 ([a]:ac Expr) X.env=(ao,eval a X.env)::a7 [] X.env:=by rfl) :
  DI Γ X (.Tuple elts k1 tpos) (.Call (.Name "enumerate" p) [a] [] pos) (itE f):=⟨(G7 hg hm (j9 h.1 kx hs0) hs).imp fun σ H R=>by
 rintro⟨G₀,H₀,G,ρ,ds,A,h,k⟩;unfold itE at h;obtain⟨d,hd,h⟩:=oBd h;refine⟨G₀,H₀,G,ρ,d,A,hd,fun v G' H' s r=>?_⟩;unfold Df at h;split at h
 .cases h;obtain⟨a,vs,rfl,ha,rv⟩:=r.lst_inv;exact⟨a,rfl,⟨vs,.inl (.inl (s.gh _ _ ha))⟩,k _ G' H' s (An (.inl (.inl ha)) rv)⟩
 .cases h;obtain⟨a,rfl,ha⟩:=r.scr_inv;exact⟨a,rfl,⟨_,s.gh.seq ha⟩,k _ G' H' s (An ha (Reps.ints _))⟩
 .cases h⟩
theorem DL :Yd Γ K (Itr lo n) G ((cG n).map fun i:al=>D.int (lo+i)):=by
 refine⟨fun i d G2 H2 hd g1 g2=>?_,fun G2 H2 g1 g2=>?_⟩
 .rw[qk] at hd;obtain⟨j,hj,rfl⟩:=oMd hd;have hi:i<n:=by have:=(cY.mp hj).1;simpa using this
  have e:j=i:=by simpa[hi] using hj.symm
  subst e;refine⟨hi,fun x H3 ⟨e1,e2⟩=>?_⟩;subst e1;subst e2;exact⟨G2,.refl g2,.int _⟩
 .show n<=_;simp
noncomputable def eV:ac D->ar (ac D)
 |[.int j]=>if -(2 ^ 62)<=j/\j<2 ^ 62 then aa ((cG j.toNat).map fun i:al=>D.int (0+i)) else ab
 |_=>ab
noncomputable def lD:ac D->ar (ac D)
 |[.int i,.int j]=>if -(2 ^ 62)<=i/\i<2 ^ 62 /\ -(2 ^ 62)<=j/\j<2 ^ 62 then aa ((cG (j-i).toNat).map fun k:al=>D.int (i+k)) else ab
 |_=>ab
noncomputable def itR (g:ac D->ar (ac D)) (fr:FA):FA:=fun ρ=>(fr ρ).bind g
theorem l9 (hg:Gl X "range") (hm:X.mg "range"=ab) (h:DA Γ X [a] fr) (hs:a7 [a] X.env=[(ao,eval a X.env)]:=by rfl):DI Γ X tg (.Call (.Name "range" p) [a] [] pos) (itR eV fr):=⟨(IB hg hm h.1 hs).imp fun σ H R=>by
 rintro⟨G₀,H₀,G,ρ,ds,A,h,k⟩;unfold itR at h;obtain⟨d,hd,h⟩:=oBd h;refine⟨G₀,H₀,G,ρ,d,A,hd,fun v G' H' s r=>?_⟩;unfold eV at h;split at h
 .split at h
  .rename_i hz;cases h;obtain⟨v,rfl,r1⟩:=r.one;cases r1.int_inv;exact⟨_,rfl,hz.1,hz.2,k _ G' H' s DL⟩
  .cases h
 .cases h⟩
theorem AB (hg:Gl X "range") (hm:X.mg "range"=ab) (h:DA Γ X [a,b] fr) (hs:a7 [a,b] X.env=[(ao,eval a X.env),(ao,eval b X.env)]:=by rfl) (hs2:a7 [b] X.env=[(ao,eval b X.env)]:=by rfl):DI Γ X tg (.Call (.Name "range" p) [a,b] [] pos) (itR lD fr):=⟨(Nz hg hm h.1 hs hs2).imp fun σ H R=>by
 rintro⟨G₀,H₀,G,ρ,ds,A,h,k⟩;unfold itR at h;obtain⟨d,hd,h⟩:=oBd h;refine⟨G₀,H₀,G,ρ,d,A,hd,fun v G' H' s r=>?_⟩;unfold lD at h;split at h
 .split at h
  .rename_i hz;cases h;obtain⟨v,u,rfl,r1,r2⟩:=r.two;cases r1.int_inv;cases r2.int_inv;exact⟨_,_,rfl,hz,k _ G' H' s DL⟩
  .cases h
 .cases h⟩
noncomputable abbrev FG:=D->bf->ar bf
noncomputable abbrev FGs:=ac D->bf->ar bf
inductive TDg (Γ:Cn) (K:bh) (g:FG) (v:V) (σ:St) (H:Hp) (Q:St->Hp->Prop):Prop where
 |mk:∀G₀ H₀ G ρ d ρ',At Γ K G₀ H₀ G H ρ σ->Rep Γ K G v d->g d ρ=aa ρ'->(∀σ',At Γ K G₀ H₀ G H ρ' σ'->Q σ' H)->TDg Γ K g v σ H Q
inductive TDgs (Γ:Cn) (K:bh) (g:FGs) (vs:ac V) (σ:St) (H:Hp) (Q:St->Hp->Prop):Prop where
 |mk:∀G₀ H₀ G ρ ds ρ',At Γ K G₀ H₀ G H ρ σ->Reps Γ K G vs ds->g ds ρ=aa ρ'->(∀σ',At Γ K G₀ H₀ G H ρ' σ'->Q σ' H)->TDgs Γ K g vs σ H Q
structure DG (Γ:Cn) (X:Cx) (tg:Expr) (g:FG):Prop where
 pg:PG X tg (TDg Γ X.K g)
 no:∀d ρ ρ',g d ρ=aa ρ'->gN ρ->gN ρ'
structure DGs (Γ:Cn) (X:Cx) (ts:ac Expr) (g:FGs):Prop where
 pg:PGs X ts (TDgs Γ X.K g)
 no:∀d ρ ρ',g d ρ=aa ρ'->gN ρ->gN ρ'
theorem PG.imp {t t':TG} (h:PG X tg t) (i:∀v σ H Q,t' v σ H Q->t v σ H Q):PG X tg t':=fun pins s σ H v u Q I r q=>h pins s σ H v u Q I r (i _ _ _ _ q)
theorem PGs.imp {t t':TGs} (h:PGs X ts t) (i:∀v σ H Q,t' v σ H Q->t v σ H Q):PGs X ts t':=fun pins s σ H v u Q I r q=>h pins s σ H v u Q I r (i _ _ _ _ q)
noncomputable def ay (i:al):FG:=fun d ρ=>aa (ρ.set i (aa (.sh d)))
theorem Ms (h:gN ρ):gN (ρ.set i (aa (.sh d))):=fun j ds e=>by
 by_cases hj:j=i
 .subst hj;rw[List.getElem?_set,qW rfl] at e;split at e<;>cases e;exact⟨_,rfl⟩
 .rw[mX (df hj)] at e;exact h j ds e
theorem aL (i:al) (hN:X.N.Nodup) (hi:X.N[i]?=aa x:=by rfl) (hx:Loc X.env.scope x:=by first|exact dy rfl|exact cP rfl) (hf:X.fn x=ai\/X.env.scope.names.lookup x=aa .local:=by first|exact .inl rfl|exact .inr rfl|assumption):DG Γ X (.Name x pos) (ay i):=by
 refine⟨(Gu hN hi hx hf).imp fun v σ H Q=>?_,fun d ρ ρ' e h=>?_⟩
 .rintro⟨G₀,H₀,G,ρ,d,ρ',A,r,h,k⟩;cases h;exact k _ (A.setSh r)
 .cases e;exact Ms h
noncomputable def bM:FGs:=fun ds ρ=>match ds with
 |[]=>aa ρ
 |_=>ab
noncomputable def aI (g:FG) (gs:FGs):FGs:=fun ds ρ=>match ds with
 |d::r=>(g d ρ).bind fun ρ'=>gs r ρ'
 |_=>ab
theorem cZ:DGs Γ X [] bM:=by
 refine⟨Gb.imp fun vs σ H Q=>?_,fun d ρ ρ' e h=>?_⟩
 .rintro⟨G₀,H₀,G,ρ,ds,ρ',A,r,h,k⟩;unfold bM at h;split at h<;>cases h;cases r;exact⟨rfl,k σ A⟩
 .unfold bM at e;split at e<;>cases e;exact h
theorem bF {g:FG} (h1:DG Γ X e g) (h2:DGs Γ X ts gs) (hs:(jH (e::ts) X.env).map (·.2)=kC e X.env::(jH ts X.env).map (·.2):=by rfl):DGs Γ X (e::ts) (aI g gs):=by
 refine⟨(Nk h1.pg h2.pg hs).imp fun vs σ H Q=>?_,fun ds ρ ρ' e h=>?_⟩
 .rintro⟨G₀,H₀,G,ρ,ds,ρ',A,r,h,k⟩;unfold aI at h;split at h
  .obtain⟨ρ1,h1,h⟩:=oBd h;cases r with
   |cons r1 r2=>exact⟨_,_,rfl,G₀,H₀,G,ρ,_,ρ1,A,r1,h1,fun σ1 A1=>⟨G₀,H₀,G,ρ1,_,ρ',A1,r2,h,k⟩⟩
  .cases h
 .unfold aI at e;split at e
  .obtain⟨ρ1,e1,e⟩:=oBd e;exact h2.no _ _ _ e (h1.no _ _ _ e1 h)
  .cases e
noncomputable def bN (n:al) (gs:FGs):FG:=fun d ρ=>match d with
 |.tup ds=>if ds.length=n then gs ds ρ else ab
 |_=>ab
theorem c4 {k:al} (hc:X.calm=ai) (h:DGs Γ X ts gs) (hn:(jH ts X.env).length=n:=by rfl) (hst:(jH ts X.env).findIdx? (·.1)=ab:=by rfl):DG Γ X (.Tuple ts k pos) (bN n gs):=by
 refine⟨(Ir hc h.pg hn hst).imp fun v σ H Q=>?_,fun ds ρ ρ' e q=>?_⟩
 .rintro⟨G₀,H₀,G,ρ,d,ρ',A,r,h,k⟩;unfold bN at h;split at h
  .split at h
   .rename_i hl;obtain⟨a,vs,rfl,ha,rv⟩:=r.tup_inv;exact⟨a,vs,rfl,.inl (.inl (A.gh _ _ ha)),by rw[rv.length];exact hl,G₀,H₀,G,ρ,_,ρ',A,rv,h,k⟩
   .cases h
  .cases h
 .unfold bN at e;split at e
  .split at e
   .exact h.no _ _ _ e q
   .cases e
  .cases e
noncomputable def gf (g:FG) (ft:FT) (fe:FE):ac D->bf->ar (ac D)
 |[],_=>aa []
 |x::xs,ρ=>(g x ρ).bind fun ρ1=>(ft ρ1).bind fun b=>if b=ai then (fe ρ1).bind fun d=>(gf g ft fe xs ρ1).map (d::·) else gf g ft fe xs ρ1
noncomputable def fC (fv:ac (ar al)) (ρ:bf):bf:=fv.map fun o=>o.bind fun j=>match ρ[j]? with
 |some (aa (.sh d))=>aa (.sh d)
 |_=>ab
noncomputable def bd (fi:FA) (g:FG) (ft:FT) (fe:FE) (fv:ac (ar al)):FA:=fun ρ=>(fi ρ).bind fun xs=>if xs.length<=aT then gf g ft fe xs (fC fv ρ) else ab
structure DTs (Γ:Cn) (X:Cx) (es:ac Expr) (f:FT):Prop where
 out:PTs X es (TDt Γ X.K f)
theorem PTs.imp {t t':TT} (h:PTs X es t) (i:∀σ H Q,t' σ H Q->t σ H Q):PTs X es t':=fun pins s σ H Q I q=>h pins s σ H Q I (i _ _ _ q)
noncomputable def tT:FT:=fun _=>aa ai
theorem cw:DTs Γ X [] tT:=⟨Oq.imp fun σ H Q=>by rintro⟨G₀,H₀,G,ρ,b,A,h,k⟩;cases h;exact k G H (.refl A.gh)⟩
theorem mi (h:DT Γ X c ft):DTs Γ X [c] ft:=⟨Ff h.1⟩
variable {g:FG}
structure DB (Γ:Cn) (X:Cx) (N':ac ah) (scope:Scope) (tg:Expr) (ifs:ac Expr) (elt:Expr) (g:FG) (ft:FT) (fe:FE):Prop where
 out:∀(cl:ac (ah×av)) (C:av) (s₀:aG) (H₀:Hp) (fp:ac av),DG Γ (ix X N' scope cl C s₀ H₀ fp) tg g/\DTs Γ (ix X N' scope cl C s₀ H₀ fp) ifs ft/\DE Γ (ix X N' scope cl C s₀ H₀ fp) elt fe
theorem DB.pb (h:DB Γ X N' scope tg ifs elt g ft fe):PB X N' scope tg ifs elt (TDg Γ X.K g) (TDt Γ X.K ft) (TD Γ X.K fe):=fun cl C s₀ H₀ fp=>⟨(h.1 cl C s₀ H₀ fp).1.pg,(h.1 cl C s₀ H₀ fp).2.1.1,(h.1 cl C s₀ H₀ fp).2.2.1⟩
theorem Nw (A:At Γ K G₀ H₀ G H ρ σ):At Γ K G H G H (fC fv ρ) (iK fv σ)/\gN (fC fv ρ):=by
 have no:gN (fC fv ρ):=fun i ds e=>by
  unfold fC at e;rw[qk] at e;obtain⟨o,ho,e⟩:=oMd e;cases o with
  |none=>cases e
  |some j=>
   simp only[qb] at e;split at e<;>cases e;exact⟨_,rfl⟩
 refine⟨⟨.refl A.gh,.ofSh (by simp[fC,iK]) no fun i d e=>?_⟩,no⟩;unfold fC at e;unfold iK;rw[qk] at e ⊢;obtain⟨o,ho,e⟩:=oMd e;rw[ho];cases o with
 |none=>cases e
 |some j=>
  simp only[qb] at e;split at e
  .rename_i d' hd';cases e;obtain⟨v,h1,h2⟩:=A.env.sh j d hd';exact⟨v,by simp[h1],h2⟩
  .cases e
theorem wP (no:∀d ρ ρ',g d ρ=aa ρ'->gN ρ->gN ρ'):∀σ H Q,TDo Γ X.K (bd fi g ft fe fv) σ H Q->tLC (TDi Γ X.K fi) (TDg Γ X.K g) (TDt Γ X.K ft) (TD Γ X.K fe) fv σ H Q:=by
 rintro σ H Q ⟨G₀,H₀,G,ρ,ds,A,h,k⟩;unfold bd at h;obtain⟨xs,hx,h⟩:=oBd h;split at h
 case isFalse=>cases h
 rename_i hz;refine⟨G₀,H₀,G,ρ,xs,A,hx,fun J G1 H1 s1 Y acc hacc=>?_⟩;have gacc:G1 acc=ab:=s1.gh.free hacc;obtain⟨A0,no0⟩:=Nw (fv:=fv) (A.step s1);refine⟨fun i m ys σ' H'=>m=xs.length-i/\i<=xs.length/\ys.length<=i/\∃G' ρ' done bX,At Γ X.K G1 H1 G' H' ρ' σ'/\gN ρ'/\H' acc=aa (.lst ys)/\G' acc=ab/\Reps Γ X.K G' ys done/\gf g ft fe (xs.drop i) ρ'=aa bX/\done++bX=ds,?_,?_⟩
 .refine⟨xs.length,rfl,gV _,qv _,G1,fC fv ρ,[],ds,?_,no0,cc,gacc,.nil,by rw[yH];exact h,rfl⟩;have sn:=Step.newOwn (o:=.lst []) s1.gh hacc;exact⟨sn,.ofSh A0.env.len no0 A0.env.sh⟩
 .rintro i m ys σ' H' ⟨hm,hi,hyi,G',ρ',done,bX,A',no',hacc',gacc',ry,hr,hd⟩;subst hm;refine⟨hacc',?_⟩;by_cases hlt:i<xs.length
  .right
   have hxi:xs[i]?=aa xs[i]:=by simp[hlt]
   obtain⟨go,yl⟩:=Y.go i _ G' H' hxi A'.st.gg A'.gh;refine⟨go,fun x H2 hy=>?_⟩;obtain⟨G2,s2,r2⟩:=yl x H2 hy;have A2:=A'.step s2;have hdr:xs.drop i=xs[i]::xs.drop (i+1):=uP hlt;rw[hdr] at hr;unfold gf at hr;obtain⟨ρ1,h1,hr⟩:=oBd hr;obtain⟨b,h2,hr⟩:=oBd hr;refine⟨G1,H1,G2,ρ',_,ρ1,A2,r2,h1,fun σ2 A3=>⟨G1,H1,G2,ρ1,b,A3,h2,fun G4 H4 s4=>?_⟩⟩;have no1:=no _ _ _ h1 no';have hH4:H4 acc=aa (.lst ys):=s4.hh _ _ (s2.hh _ _ hacc');have hG4:G4 acc=ab:=(s4.out _ _ (s2.hh _ _ hacc')).trans ((s2.out _ _ hacc').trans gacc');cases b with
   |false=>
    rw[qX qr] at hr;refine mz ⟨xs.length-(i+1),by omega,rfl,hlt,by omega,G4,ρ1,done,bX,A3.step s4,no1,hH4,hG4,(ry.mono s2.gg).mono s4.gg,hr,hd⟩
   |true=>
    rw[qW rfl] at hr;obtain⟨d,h3,hr⟩:=oBd hr;obtain⟨zs,h5,rfl⟩:=oMd hr;refine mq ⟨G1,H1,G4,ρ1,d,A3.step s4,h3,fun v G5 H5 s5 r5=>?_⟩;have A5:=(A3.step s4).step s5;have hH5:H5 acc=aa (.lst ys):=s5.hh _ _ hH4;have hG5:G5 acc=ab:=(s5.out _ _ hH4).trans hG4;refine⟨hH5,by omega,xs.length-(i+1),by omega,rfl,hlt,by rw[qj,qT];omega,G5,ρ1,done++[d],zs,?_,no1,cc,hG5,((((ry.mono s2.gg).mono s4.gg).mono s5.gg).append (.cons r5 .nil)),h5,by rw[rH];exact hd⟩;refine⟨⟨fun b o e=>?_,A5.st.gg,fun b o e=>?_,A5.st.out⟩,.ofSh A5.env.len no1 A5.env.sh⟩
    .rw[a6 (ce e hacc)];exact A5.st.hh b o e
    .rw[a6 (ce e hG5)];exact A5.st.gh b o e
  .left
   have e:i=xs.length:=by omega
   subst e;rw[EC] at hr;cases hr;rw[m5] at hd;subst hd;refine⟨Y.stop G' H' A'.st.gg A'.gh,?_⟩;have hf:H'=upd (fun b=>if b=acc then ab else H' b) acc (.lst ys):=by
    funext b
    by_cases hb:b=acc
    .subst hb;rw[cc];exact hacc'
    .rw[a6 hb,qX hb]
   rw[hf];refine k acc ys G' (fun b=>if b=acc then ab else H' b) (s1.trans ⟨fun b o e=>?_,A'.st.gg,fun b o e=>?_,A'.st.out⟩) (qW rfl) ry
   .show(if b=acc then ab else H' b)=aa o;rw[qX (ce e hacc)];exact A'.st.hh b o e
   .show(if b=acc then ab else H' b)=aa o;rw[qX (ce e gacc')];exact A'.st.gh b o e
theorem cz (hc:X.calm=ai) (S:CompScope X scope) (F:FvOk X N' scope fv) (hi:DI Γ X tg iter fi) (hb:DB Γ X N' scope tg ifs elt g ft fe) (hs:∀x,oE iter X.env x=bA x:=by intro _;rfl) :
  DO Γ X .(G) (bd fi g ft fe fv):=⟨(MX hc S F hi.1 hb.pb hs).imp (wP (hb.1 [] 0 X.s₀ X.H₀ []).1.no)⟩
end
variable {g g':FS} {sts:ac Stmt} {gg:FG} {vp:dn}
section
variable {a:Expr}
noncomputable def aH:FS:=fun ρ=>aa (.nx,ρ)
noncomputable def ax (g g':FS):FS:=fun ρ=>(g ρ).bind fun r=>match r.1 with
 |.nx=>g' r.2
 |fl=>aa (fl,r.2)
theorem bc:DSs Γ X [] aH:=⟨Mo.imp fun E σ H=>by rintro⟨G₀,H₀,G,ρ,fl,ρ',A,h,k⟩;cases h;exact k σ G H (.refl _) A⟩
theorem aC (h:DS Γ X st g):DSs Γ X [st] g:=⟨MZ h.1⟩
theorem aD (h1:DS Γ X st g) (h2:DSs Γ X sts g'):DSs Γ X (st::sts) (ax g g'):=⟨(K8 h1.1 h2.1).imp fun E σ H=>by
 rintro⟨G₀,H₀,G,ρ,fl,ρ',A,h,k⟩;unfold ax at h;obtain⟨⟨fl1,ρ1⟩,h1,h⟩:=oBd h;refine⟨G₀,H₀,G,ρ,fl1,ρ1,A,h1,fun σ1 G1 H1 sm A1=>?_⟩;cases fl1 with
 |nx=>exact⟨G₀,H₀,G1,ρ1,fl,ρ',A1,h,fun σ' G' H' sm' A'=>k σ' G' H' (sm.trans sm') A'⟩
 |bk=>cases h;exact k σ1 G1 H1 sm A1
 |ct=>cases h;exact k σ1 G1 H1 sm A1
 |rt d=>cases h;exact k σ1 G1 H1 sm A1
 |ow d=>cases h;exact k σ1 G1 H1 sm A1
 |nw d=>cases h;exact k σ1 G1 H1 sm A1
 |od d=>cases h;exact k σ1 G1 H1 sm A1⟩
noncomputable def aE (f:FE):FS:=fun ρ=>(f ρ).map fun d=>(.rt d,ρ)
theorem aJ (h:DE Γ X e f):DS Γ X (.Return (aa e) pos) (aE f):=⟨(K1 h.1).imp fun E σ H=>by rintro⟨G₀,H₀,G,ρ,fl,ρ',A,h,k⟩;unfold aE at h;obtain⟨d,hd,h⟩:=oMd h;cases h;exact⟨G₀,H₀,G,ρ,d,A,hd,fun v G' H' s r=>k σ G' H' s.gg (A.step s) v r⟩⟩
noncomputable def aM (i:al) (f:FE):FS:=fun ρ=>(f ρ).map fun d=>(.nx,ρ.set i (aa (.sh d)))
theorem bw (i:al) (hN:X.N.Nodup) (h:DE Γ X e f) (hi:X.N[i]?=aa x:=by rfl) (hx:Loc X.env.scope x:=by first|exact dy rfl|exact cP rfl) (hs:fW e (aa (.Name x pos')) pos.line X.env=bA ao:=by rfl) (hf:X.fn x=ai\/X.env.scope.names.lookup x=aa .local:=by first|exact .inl rfl|exact .inr rfl|assumption) :
  DS Γ X (.Assign [.Name x pos'] e pos) (aM i f):=⟨(t6 hN hi hx h.1 hs hf).imp fun E σ H=>by
 rintro⟨G₀,H₀,G,ρ,fl,ρ',A,h,k⟩;unfold aM at h;obtain⟨d,hd,h⟩:=oMd h;cases h;exact⟨G₀,H₀,G,ρ,d,A,hd,fun v G' H' s r=>k _ G' H' s.gg ((A.step s).setSh r)⟩⟩
noncomputable def dI (i:al) (f:FA):FS:=fun ρ=>(f ρ).map fun d=>(.nx,ρ.set i (aa (.own d)))
theorem DM :∀E σ H,TDs Γ X.K (dI i fr) E σ H->pi (TDo Γ X.K fr) (o4 i) E σ H:=by rintro E σ H ⟨G₀,H₀,G,ρ,fl,ρ',A,h,k⟩;unfold dI at h;obtain⟨d,hd,h⟩:=oMd h;cases h;exact⟨G₀,H₀,G,ρ,d,A,hd,fun p vs G' H' s hp r=>k _ G' _ s.gg ((A.step s).setOwn hp r)⟩
theorem iH (i:al) (hN:X.N.Nodup) (h:DO Γ X e fr) (hi:X.N[i]?=aa x:=by rfl) (hx:Loc X.env.scope x:=by first|exact dy rfl|exact cP rfl) (hs:fW e (aa (.Name x pos')) pos.line X.env=bA ao:=by rfl) (hf:X.fn x=ai\/X.env.scope.names.lookup x=aa .local:=by first|exact .inl rfl|exact .inr rfl|assumption) :
  DS Γ X (.Assign [.Name x pos'] e pos) (dI i fr):=⟨(t6 hN hi hx h.1 hs hf).imp DM⟩
theorem Oi :∀E σ H,TDs Γ X.K (aM i (aP fr)) E σ H->pi (TDo Γ X.K fr) (o4 i) E σ H:=by rintro E σ H ⟨G₀,H₀,G,ρ,fl,ρ',A,h,k⟩;unfold aM aP at h;obtain⟨d,hd,h⟩:=oMd h;obtain⟨ds,hd',rfl⟩:=oMd hd;cases h;refine⟨G₀,H₀,G,ρ,ds,A,hd',fun p vs G' H' s hp r=>?_⟩;have s2:=Step.new (o:=.lst vs) s.gh hp;exact k _ _ _ (s.gg.trans s2.gg) (((A.step s).step s2).setSh (.lst cc (r.mono s2.gg)))
theorem nB (i:al) {y:ah} (hN:X.N.Nodup) (hc:X.calm=ai) (S:CompScope X scope) (F:FvOk X N' scope fv) (hi:DI Γ X tg iter fi) (hb:DB Γ X N' scope tg ifs elt gg ft fe)
  (hy:X.N[i]?=aa y:=by rfl) (hyl:X.env.scope.names.lookup y=aa .local:=by rfl) (hsw:fW .(G) (aa (.Name y py)) spos.line X.env=bA ai:=by rfl) (hs:∀x,oE iter X.env x=bA x:=by intro _;rfl) :
  DS Γ X (.Assign [.Name y py] .(G) spos) (aM i (aP (bd fi gg ft fe fv))):=⟨(BS hN hy hyl hc S F hi.1 hb.pb hsw hs).imp fun E σ H q=>wP (hb.1 [] 0 X.s₀ X.H₀ []).1.no σ H _ (Oi E σ H q)⟩
theorem Jb (i:al) {y:ah} (hN:X.N.Nodup) (hc:X.calm=ai) (S:CompScope X scope) (F:FvOk X N' scope fv) (hi:DI Γ X tg iter fi) (hb:DB Γ X N' scope tg ifs elt gg ft fe)
  (hy:X.N[i]?=aa y:=by rfl) (hyl:X.env.scope.names.lookup y=aa .local:=by rfl) (hsw:fW .(G) (aa (.Name y py)) spos.line X.env=bA ai:=by rfl) (hs:∀x,oE iter X.env x=bA x:=by intro _;rfl) :
  DS Γ X (.Assign [.Name y py] .(G) spos) (dI i (bd fi gg ft fe fv)):=⟨(BS hN hy hyl hc S F hi.1 hb.pb hsw hs).imp fun E σ H q=>wP (hb.1 [] 0 X.s₀ X.H₀ []).1.no σ H _ (DM E σ H q)⟩
noncomputable def c8 (i:al) (f:FE):FS:=fun ρ=>match ρ[i]? with
 |some (aa (.own ds))=>(f ρ).bind fun d=>if ds.length<aT then aa (.nx,ρ.set i (aa (.own (ds++[d])))) else ab
 |_=>ab
theorem i6 (i:al) (h:DE Γ X e f) (hN:X.N[i]?=aa x:=by rfl) (hv:Vis X.env.scope x:=by first|exact dy rfl|exact cP (dy rfl)|exact cP (cP rfl)) (hd:.(H)=ao:=by decide)
  (hcd:(x==("__classdict__":ah))=ao:=by decide)
  (hbase:jK (.Name x vp) "append" X.env (eval (.Name x vp) X.env)=eval (.Name x vp) X.env:=by rfl)
  (hfew:((cE cpos (a7 [e] X.env)).all (fun x=>!x.1) && (iO cpos (iP [] X.env)).all (fun x=>x.1.isSome)
   && decide ([e].length+([]:ac iR).length+(if ([]:ac iR).isEmpty then 0 else 1)<30))=ai:=by rfl)
  (hline:(apos.endLine==cpos.line)=ai:=by rfl) (hs:a7 [e] X.env=(ao,eval e X.env)::a7 [] X.env:=by rfl) (hplain:(cE cpos (a7 [] X.env)).any (·.1)=ao:=by rfl)
  (hsw:fW (.Call (.Attribute (.Name x vp) "append" apos) [e] [] cpos) ab pos.line X.env=bA ao:=by rfl) :
  DS Γ X (.Expr (.Call (.Attribute (.Name x vp) "append" apos) [e] [] cpos) pos) (c8 i f):=⟨(BC (vE yK P0 PySem.F.type_list_append Ct (i7 hN hv hd hcd) (j9 h.1 kx hs) hbase hfew hline hs hplain) hsw).imp fun E σ H=>by
  rintro⟨G₀,H₀,G,ρ,fl,ρ',A,h,k⟩;unfold c8 at h;split at h
  .rename_i ds hi;obtain⟨d,hd,h⟩:=oBd h;split at h
   .rename_i hz;cases h;obtain⟨a,vs,h1,h2,h3,h4,h5⟩:=A.env.own i ds hi;refine⟨.ref a,h1,.inl ⟨rfl,vs,.inl (.inl h4)⟩,G₀,H₀,G,ρ,d,A,hd,fun v G1 H1 s1 r1=>?_⟩;have A1:=A.step s1;refine⟨a,vs,v,rfl,rfl,s1.hh _ _ h4,by rw[h5.length];exact hz,?_⟩;exact k σ G1 _ s1.gg (A1.chOwn hi h1 ((h5.mono s1.gg).append (.cons r1 .nil)))
   .cases h
  .cases h⟩
noncomputable def eB (i:al) (g:FS):FS:=fun ρ=>match ρ[i]? with
 |some (aa (.own ds))=>g (ρ.set i (aa (.sh (.lst ds))))
 |_=>ab
theorem TDs.frz (i:al):∀E σ H,TDs Γ X.K (eB i g) E σ H->TDs Γ X.K g E σ H:=by
 rintro E σ H ⟨G₀,H₀,G,ρ,fl,ρ',A,h,k⟩;unfold eB at h;split at h
 .rename_i ds hi;obtain⟨G',sm,A'⟩:=A.freeze hi;exact⟨G₀,H₀,G',_,fl,ρ',A',h,fun σ1 G1 H1 sm1 A1=>k σ1 G1 H1 (sm.trans sm1) A1⟩
 .cases h
theorem hG (i:al) (h:DSs Γ X sts g):DSs Γ X sts (eB i g):=⟨h.1.imp (TDs.frz i)⟩
noncomputable def sIf (ft:FT) (g g':FS):FS:=fun ρ=>(ft ρ).bind fun c=>if c=ai then g ρ else g' ρ
theorem a9 {sa sb:ac Stmt} (hc:DT Γ X c ft) (ha:DSs Γ X sa g) (hb:DSs Γ X sb g'):DS Γ X (.If c sa sb pos) (sIf ft g g'):=⟨(Gk hc.1 ha.1 hb.1).imp fun E σ H=>by
 rintro⟨G₀,H₀,G,ρ,fl,ρ',A,h,k⟩;unfold sIf at h;obtain⟨x,hx,h⟩:=oBd h;refine⟨G₀,H₀,G,ρ,x,A,hx,fun G1 H1 s1=>?_⟩;cases x with
 |true=>exact mq ⟨G₀,H₀,G1,ρ,fl,ρ',A.step s1,by simpa using h,fun σ2 G2 H2 sm2 A2=>k σ2 G2 H2 (s1.gg.trans sm2) A2⟩
 |false=>exact mz ⟨G₀,H₀,G1,ρ,fl,ρ',A.step s1,by simpa using h,fun σ2 G2 H2 sm2 A2=>k σ2 G2 H2 (s1.gg.trans sm2) A2⟩⟩
noncomputable def eZ (gg:FG) (f:FE):FS:=fun ρ=>(f ρ).bind fun d=>(gg d ρ).map fun ρ'=>(.nx,ρ')
theorem qZ (h:DE Γ X e f) (hg:DG Γ X tg gg) (hs:ya [tg] e pos.line X.env=bA ao:=by rfl) (hw:yb [tg] e X.env=bA ab:=by rfl)
  (h1:(jH [tg] X.env).map (·.2)=[kC tg X.env]:=by rfl):DS Γ X (.Assign [tg] e pos) (eZ gg f):=⟨(J3 h.1 hg.pg hs hw h1).imp fun E σ H=>by
 rintro⟨G₀,H₀,G,ρ,fl,ρ',A,h,k⟩;unfold eZ at h;obtain⟨d,hd,h⟩:=oBd h;obtain⟨ρ1,h1,h⟩:=oMd h;cases h;exact⟨G₀,H₀,G,ρ,d,A,hd,fun v G' H' s r=>⟨G₀,H₀,G',ρ,d,ρ',A.step s,r,h1,fun σ' A'=>k σ' G' H' s.gg A'⟩⟩⟩
noncomputable def dB (gg:FG) (body:FS):ac D->FS
 |[],ρ=>aa (.nx,ρ)
 |x::xs,ρ=>(gg x ρ).bind fun ρ1=>(body ρ1).bind fun r=>match r.1 with
  |.nx=>dB gg body xs r.2
  |.ct=>dB gg body xs r.2
  |.bk=>aa (.nx,r.2)
  |.rt d=>aa (.rt d,r.2)
  |.ow d=>aa (.ow d,r.2)
  |.nw d=>aa (.nw d,r.2)
  |.od d=>aa (.od d,r.2)
noncomputable def bC (fi:FA) (gg:FG) (body:FS):FS:=fun ρ=>(fi ρ).bind fun xs=>dB gg body xs ρ
theorem b7 {body:ac Stmt} (hp:PassesOwn .(r) X.A X.env X.xe) (hc:X.calm=ai) (hi:DI Γ X tg iter fi) (hg:DG Γ X tg gg) (hb:DSs Γ X body g) (hs:∀x,oE iter X.env x=bA x:=by intro _;rfl) :
  DS Γ X (.For tg iter body [] pos) (bC fi gg g):=⟨(Ng hp hc hi.1 hg.pg hb.1 hs).imp fun E σ H=>by
 rintro⟨G₀,H₀,G,ρ,fl,ρ',A,h,k⟩;unfold bC at h;obtain⟨xs,hx,h⟩:=oBd h;refine⟨G₀,H₀,G,ρ,xs,A,hx,fun J G1 H1 s1 Y=>?_⟩;refine⟨fun i m σ' H'=>m=xs.length-i/\i<=xs.length/\∃G' ρ1,bK G1 G'/\At Γ X.K G₀ H₀ G' H' ρ1 σ'/\dB gg g (xs.drop i) ρ1=aa (fl,ρ'),⟨xs.length,rfl,gV _,G1,ρ,.refl _,A.step s1,by rw[yH];exact h⟩,?_⟩;rintro i m σ' H' ⟨rfl,hi,G',ρ1,sm,A',hr⟩;by_cases hlt:i<xs.length
 .right
  have hxi:xs[i]?=aa xs[i]:=by simp[hlt]
  obtain⟨go,yl⟩:=Y.go i _ G' H' hxi sm A'.gh;have hdr:xs.drop i=xs[i]::xs.drop (i+1):=uP hlt;rw[hdr] at hr;unfold dB at hr;obtain⟨ρ2,h2,hr⟩:=oBd hr;obtain⟨⟨fl3,ρ3⟩,h3,hr⟩:=oBd hr;refine⟨go,fun σ3 H3=>(fl3=.nx\/fl3=.ct)/\∃G3,bK G1 G3/\At Γ X.K G₀ H₀ G3 H3 ρ3 σ3,fun σ3 H3 ⟨hfl,G3,sm3,A3⟩=>?_,fun x H2 hy=>?_⟩
  .refine⟨xs.length-(i+1),by omega,rfl,hlt,G3,ρ3,sm3,A3,?_⟩;rcases hfl with e|e<;>subst e<;>exact hr
  .obtain⟨G2,s2,r2⟩:=yl x H2 hy;refine⟨G₀,H₀,G2,ρ1,_,ρ2,A'.step s2,r2,h2,fun σ2 A2=>⟨G₀,H₀,G2,ρ2,fl3,ρ3,A2,h3,fun σ3 G3 H3 sm3 A3=>?_⟩⟩;have smm:bK G1 G3:=(sm.trans s2.gg).trans sm3;cases fl3 with
   |nx=>exact⟨.inl rfl,G3,smm,A3⟩
   |ct=>exact⟨.inr rfl,G3,smm,A3⟩
   |bk=>cases hr;exact k σ3 G3 H3 (s1.gg.trans smm) A3
   |rt d=>cases hr;exact k σ3 G3 H3 (s1.gg.trans smm) A3
   |ow d=>cases hr;exact k σ3 G3 H3 (s1.gg.trans smm) A3
   |nw d=>cases hr;exact k σ3 G3 H3 (s1.gg.trans smm) A3
   |od d=>cases hr;exact k σ3 G3 H3 (s1.gg.trans smm) A3
 .left
  have e:i=xs.length:=by omega
  subst e;rw[EC] at hr;cases hr;exact⟨Y.stop G' H' sm A'.gh,k σ' G' H' (s1.gg.trans sm) A'⟩⟩
end
variable {fk:FE} {F:ac D->ar D}
section
variable {a:Expr} {fw:FE}
inductive spF (Γ:Cn) (K:bh) (n:al) (F:ac D->ar D) (vs:ac V) (H:Hp) (Q:VK) (_e3:XK):Prop where
 |mk:∀G ds d,bK G H->Reps Γ K G vs ds->ds.length=n->F ds=aa d->(∀v G' H',Step G H G' H'->Rep Γ K G' v d->Q v H')->spF Γ K n F vs H Q _e3
noncomputable def aY (n:al) (g:FS):ac D->ar D:=fun ds=>(g (ds.map (fun d=>aa (Slot.sh d))++b9 n ab)).bind fun r=>match r.1 with
 |.rt d=>aa d
 |.nx=>aa .non
 |_=>ab
theorem LY {m:al} (gh:bK G H) (r:Reps Γ K G vs ds) (hm:m=N.length-vs.length):At Γ K G H G H (ds.map (fun d=>aa (Slot.sh d))++b9 m ab) (gq N vs):=by
 have no:gN (ds.map (fun d=>aa (Slot.sh d))++b9 m ab):=fun i es e=>by
  by_cases hi:i<ds.length
  .rw[qx (by simpa using hi),qk] at e;obtain⟨d,_,e⟩:=oMd e;cases e;exact⟨_,rfl⟩
  .rw[qI (by simpa using hi),yp] at e;split at e<;>cases e
 refine⟨.refl gh,.ofSh (by simp[gq,r.length,hm]) no fun i d e=>?_⟩;by_cases hi:i<ds.length
 .rw[qx (by simpa using hi),qk] at e;obtain⟨d',hd,e⟩:=oMd e;cases e;obtain⟨v,hv,rv⟩:=r.get hd;refine⟨v,?_,rv⟩;unfold gq;rw[qx (by rw[qf,r.length];exact hi),qk,hv];rfl
 .rw[qI (by simpa using hi),yp] at e;split at e<;>cases e
theorem Fun.okD {P:bU} {f:av} {k:al} (F:Fun K x qual st f fd) (S:FnScope N ps (aU st))
  (hbody:∀(cdv:Value) (A:eF) (outer:ac dc) (s:aG) (H:Hp) (E:XK),Room k (A.deeper (fy qual (aU st) s.heap.objs.size f cdv))->
   DSs Γ (hU CX0 P w K mg base N qual (aU st) f cdv A outer s H E).nox (eO st) g):FnOk P w K mg base CX0 (k+1) f fd ps (spF Γ K ps.length (aY (N.length-ps.length) g)):=by
 refine F.ok S (fun vs H Q E h=>?_) (fun cdv A outer s H vs Q E hr h=>?_)
 .obtain⟨G,ds,d,_,r,hl,_⟩:=h;rw[r.length,hl]
 .obtain⟨G,ds,d,gh,r,hl,hd,k⟩:=h;refine⟨_,(hbody cdv A outer s H E hr).1,?_⟩;unfold aY at hd;obtain⟨⟨fl,ρ'⟩,hg,hd⟩:=oBd hd;refine⟨G,H,G,_,fl,ρ',LY gh r (by rw[r.length,hl]),hg,fun σ' G' H' sm A'=>?_⟩;cases fl with
  |rt d'=>cases hd;exact fun v rv=>k v G' H' A'.st rv
  |nx=>cases hd;exact k .non G' H' A'.st .non
  |bk=>cases hd
  |ct=>cases hd
  |ow d=>cases hd
  |nw d=>cases hd
  |od d=>cases hd
theorem IH {k:al} {fx:av} (Fo:FnOk X.prog X.w X.K X.mg X.base CX0 k fx fd ps (spF Γ X.K n F)) (hr:Room k X.A) (hg:Gl X x) (hm:X.mg x=aa (.ref fx)) (hk:iN X.K (.ref fx)=ai) (hb:gT X.K fd ps [])
  (ha:DA Γ X (e::es) fr) (hn:∀ρ ds,fr ρ=aa ds->ds.length=n) (hdb:.(H)=ao:=by decide) (he:a7 (e::es) X.env=(ao,eval e X.env)::a7 es X.env:=by rfl) (hpl:(cE pos (a7 es X.env)).any (·.1)=ao:=by rfl) :
  DE Γ X (.Call (.Name x p) (e::es) [] pos) (cF F fr):=⟨(F1 Fo hr hg hm hk hb .nil sI ha.1 hdb he hpl).imp fun σ H Q=>by
 rintro⟨G₀,H₀,G,ρ,d,A,h,k⟩;unfold cF at h;obtain⟨ds,hd,h⟩:=oBd h;refine⟨G₀,H₀,G,ρ,ds,A,hd,fun vs G1 H1 s1 r1=>?_⟩;show spF Γ X.K n F (vs++[]) H1 Q E0;rw[m5];exact⟨G1,ds,d,s1.gh,r1,hn ρ ds hd,h,fun v G' H' s r=>k v G' H' (s1.trans s) r⟩⟩
theorem HA (h:ak ρ=aa ds):ds.length=0:=by cases h;rfl
theorem my (hn:∀ρ ds,fr ρ=aa ds->ds.length=n):∀ρ ds,ae fa fr ρ=aa ds->ds.length=n+1:=fun ρ ds h=>by unfold ae at h;obtain⟨x,hx,h⟩:=oBd h;obtain⟨xs,hxs,rfl⟩:=oMd h;rw[qi,hn ρ xs hxs]
end
structure Cal (Γ:Cn) (P:bU) (w:cQ) (K:bh) (mg:ah->ar Value) (base:Heap) (x:ah) (n k:al) (F:ac D->ar D):Prop where
 ex:∃f fd ps,FnOk P w K mg base CX0 k f fd ps (spF Γ K n F)/\mg x=aa (.ref f)/\iN K (.ref f)=ai/\gT K fd ps []
structure Dfn (K:bh) (mg:ah->ar Value) (x:ah) (st:Stmt):Prop where
 ex:∃f fd,Fun K x x st f fd/\mg x=aa (.ref f)
theorem jb {k:al} (C:Cal Γ X.prog X.w X.K X.mg X.base x n k F) (hr:Room j X.A) (hk:k<=j) (hg:Gl X x) (ha:DA Γ X (e::es) fr) (hn:∀ρ ds,fr ρ=aa ds->ds.length=n)
  (hdb:.(H)=ao:=by decide) (he:a7 (e::es) X.env=(ao,eval e X.env)::a7 es X.env:=by rfl) (hpl:(cE pos (a7 es X.env)).any (·.1)=ao:=by rfl) :
  DE Γ X (.Call (.Name x p) (e::es) [] pos) (cF F fr):=by
 obtain⟨f,fd,ps,h1,h2,h3,h4⟩:=C.ex;exact IH h1 (hr.mono hk) hg h2 h3 h4 ha hn hdb he hpl
theorem Dfn.cal {P:bU} {k:al} (F:Dfn K mg x st) (S:FnScope N ps (aU st))
  (hb:∀(kV doc pm:Value) (an:ar av) (cdv ct:Value) (us:ac Value),us.length=ps.length->lN (gY x x (ig st) (eO st) (aU st) .none kV doc pm an cdv ct) ⟨us,[]⟩=bA (ps.zip us))
  (hbody:∀(f:av) (cdv:Value) (A:eF) (outer:ac dc) (s:aG) (H:Hp) (E:XK),Room k (A.deeper (fy x (aU st) s.heap.objs.size f cdv))->
   DSs Γ (hU CX0 P w K mg base N x (aU st) f cdv A outer s H E).nox (eO st) g):Cal Γ P w K mg base x ps.length (k+1) (aY (N.length-ps.length) g):=by
 obtain⟨f,fd,h1,h2⟩:=F.ex;exact⟨f,fd,ps,h1.okD S (hbody f),h2,h1.kp,h1.binds hb⟩
theorem Dfn.mk' {h:Heap} {f:av} {kV:Value} (X:K.In h) (G:h.Ns fU mg) (a:yL K fU x=aa (aa (.ref f)))
  (l:K.lookup f=aa ⟨oc,od,.func (gY x x (ig st) (eO st) (aU st) .none kV doc pm an cdv ct),osl⟩) (c:rC K cdv x=ai) (k:iN K (.ref f)=ai):Dfn K mg x st:=
 ⟨f,_,v5 l c k,yM X G a⟩
noncomputable def Av (names:ac (ah×gW)) (outer:ac (ah×gW)):aN:=
 names.all fun y=>y.2 != .cell && (y.2 != .local || names.lookup y.1==aa .local) && (y.2 != .free || outer.lookup y.1==aa .cell || outer.lookup y.1==aa .free)
theorem CompScope.of (hk:scope.kind=.function) (h:Av scope.names X.env.scope.names=ai):CompScope X scope:=by
 unfold Av at h;rw[rQ] at h;refine⟨hk,fun y hy e=>?_,fun y hy e=>?_,fun y hy e=>?_⟩
 .have:=h y hy;rw[e] at this;simp at this
 .have:=h y hy;rw[e] at this;simpa using this
 .have:=h y hy;rw[e] at this;simpa[Env.kindOf] using this
noncomputable def zH (N':ac ah) (fv:ac (ar al)) (N:ac ah) (outer names:ac (ah×gW)):aN:=
 fv.length==N'.length && (N'.zip fv).all fun y=>match y.2 with
  |none=>ai
  |some j=>N[j]?==aa y.1 && (outer.lookup y.1==aa .cell || outer.lookup y.1==aa .free) && names.lookup y.1==aa .free
theorem FvOk.of (h:zH N' fv X.N X.env.scope.names scope.names=ai):FvOk X N' scope fv:=by
 unfold zH at h;rw[cS,rQ] at h;obtain⟨h1,h2⟩:=h;refine⟨by simpa using h1,fun i j x e1 e2=>?_⟩;have hm:(x,aa j)∈N'.zip fv:=by refine uQ.mpr ⟨i,?_⟩;rw[List.getElem?_zip_eq_some];exact⟨e1,e2⟩
 have:=h2 _ hm;simp only[cS,gE,kF] at this;exact⟨this.1.1,this.1.2,this.2⟩
mutual
def pdD:D->ar uR
 |.non=>aa .none
 |.bl b=>aa (.bool b)
 |.int i=>aa (.int i)
 |.str x=>aa (.str x)
 |.tup l=>(gK l).map Ql
 |.lst l=>(gK l).map PyData.list
 |.scr ns=>aa (.list (ns.map Qm))
 |_=>ab
def gK:ac D->ar (ac uR)
 |[]=>aa []
 |d::r=>(pdD d).bind fun p=>(gK r).map (p::·)
end
theorem BW {h:Heap}:∀{ns:ac ag} {us:ac Value},bH (ns.map V.int) us->∃as,ReadsAll h us (ns.map Qm) as
 |[],_,r=>by rw[qM] at r;cases r;exact⟨_,.nil⟩
 |n::ns,_,r=>by
  rw[qm] at r;cases r with
  |cons r1 r2=>
   obtain⟨t,e⟩:=r1;subst e;obtain⟨as,q⟩:=BW r2;exact⟨_,.cons (.int n t) q⟩
mutual
theorem Rep.reads (I:Inv X pins σ H s) (gh:bK G H):∀{v:V} {d:D} {u:Value} {p:uR},Rep Γ X.K G v d->bD v u->pdD d=aa p->∃as,Reads s.heap u p as
 |_,_,u,p,.non,r,h=>by cases r;rw[pdD] at h;cases h;exact⟨_,.none⟩
 |_,_,u,p,.bl b,r,h=>by cases r;rw[pdD] at h;cases h;exact⟨_,.bool b⟩
 |_,_,u,p,.int i,r,h=>by obtain⟨t,rfl⟩:=r;rw[pdD] at h;cases h;exact⟨_,.int i t⟩
 |_,_,u,p,.str x,r,h=>by obtain⟨t,rfl⟩:=r;rw[pdD] at h;cases h;exact⟨_,.str x t⟩
 |_,_,u,p,.ty n,r,h=>by rw[pdD] at h;cases h;all_goals (intros;contradiction)
 |_,_,u,p,.tup ha rs,r,h=>by
  cases r;rw[pdD] at h;obtain⟨ps,hp,rfl⟩:=oMd h;obtain⟨its,rv,⟨o,e1,e2,n,e3⟩,_⟩:=I.tuple (.inl (.inl (gh _ _ ha)));obtain⟨as,q⟩:=Reps.reads I gh rs rv hp;exact⟨_,.tuple e1 e2 e3 (by simpa using q)⟩
 |_,_,u,p,.lst ha rs,r,h=>by
  cases r;rw[pdD] at h;obtain⟨ps,hp,rfl⟩:=oMd h;obtain⟨its,rv,⟨o,n,e1,e2,_,e3⟩,_⟩:=I.list (.inl (.inl (gh _ _ ha)));obtain⟨as,q⟩:=Reps.reads I gh rs rv hp;exact⟨_,.list e1 e2 e3 (by simpa using q)⟩
 |_,_,u,p,.scr hs,r,h=>by
  cases r;rw[pdD] at h;cases h;obtain⟨its,rv,⟨o,n,e1,e2,_,e3⟩,_⟩:=I.list (gh.seq hs);obtain⟨as,q⟩:=BW (h:=s.heap) rv;exact⟨_,.list e1 e2 e3 (by simpa using q)⟩
 |_,_,u,p,.dk ha _ _,r,h=>by rw[pdD] at h;cases h;all_goals (intros;contradiction)
 |_,_,u,p,.fdk ha _ _,r,h=>by rw[pdD] at h;cases h;all_goals (intros;contradiction)
 |_,_,u,p,.dt ha _ _,r,h=>by rw[pdD] at h;cases h;all_goals (intros;contradiction)
 |_,_,u,p,.ins ha _ _ _,r,h=>by rw[pdD] at h;cases h;all_goals (intros;contradiction)
theorem Reps.reads (I:Inv X pins σ H s) (gh:bK G H):∀{vs:ac V} {ds:ac D} {us:ac Value} {ps:ac uR},Reps Γ X.K G vs ds->bH vs us->gK ds=aa ps->∃as,ReadsAll s.heap us ps as
 |_,_,_,_,.nil,r,h=>by cases r;rw[gK] at h;cases h;exact⟨_,.nil⟩
 |_,_,_,_,.cons r1 r2,r,h=>by
  cases r with
  |cons q1 q2=>
   rw[gK] at h;obtain⟨p,hp,h⟩:=oBd h;obtain⟨ps,hps,rfl⟩:=oMd h;obtain⟨as,a1⟩:=Rep.reads I gh r1 q1 hp;obtain⟨bs,a2⟩:=Reps.reads I gh r2 q2 hps;exact⟨_,.cons a1 a2⟩
end
section
variable {a:Expr}
noncomputable def eqX (x y:D):ar aN:=(pdD x).bind fun p=>(pdD y).bind fun q=>if eR p=ai/\eR q=ai then aa (jO p q) else ab
noncomputable def ph (x y:D):ar D:=(eqX x y).map D.bl
noncomputable def pA (x y:D):ar D:=(eqX x y).map fun b=>D.bl (!b)
noncomputable def rX (Γ:Cn) (K:bh) (neg:aN):R2:=fun x y H Q=>∃G d e b,bK G H/\Rep Γ K G x d/\Rep Γ K G y e/\eqX d e=aa b/\Q (.bl (if neg then !b else b)) H
theorem Cv {x:D} {b:aN} (h:eqX x y=aa b):∃p q,pdD x=aa p/\pdD y=aa q/\eR p=ai/\eR q=ai/\b=jO p q:=by
 unfold eqX at h;obtain⟨p,hp,h⟩:=oBd h;obtain⟨q,hq,h⟩:=oBd h;split at h
 .rename_i hz;cases h;exact⟨p,q,hp,hq,hz.1,hz.2,rfl⟩
 .cases h
theorem L1 (hu:X.A.units+64<cr):OpR X (dq .Eq) (rX Γ X.K ao):=by intro pins s σ H x y v u Q I rx ry h;obtain⟨G,d,e,b,gh,r1,r2,hb,q⟩:=h;obtain⟨p,q',hp,hq,s1,s2,rfl⟩:=Cv hb;obtain⟨as,a1⟩:=r1.reads I gh rx hp;obtain⟨bs,a2⟩:=r2.reads I gh ry hq;exact eq_dataH a1 a2 s1 s2 hu ⟨.bl _,H,I,rfl,q⟩
theorem Kx (hu:X.A.units+64<cr):OpR X (dq .NotEq) (rX Γ X.K ai):=by intro pins s σ H x y v u Q I rx ry h;obtain⟨G,d,e,b,gh,r1,r2,hb,q⟩:=h;obtain⟨p,q',hp,hq,s1,s2,rfl⟩:=Cv hb;obtain⟨as,a1⟩:=r1.reads I gh rx hp;obtain⟨bs,a2⟩:=r2.reads I gh ry hq;exact ne_dataH a1 a2 s1 s2 hu ⟨.bl _,H,I,rfl,q⟩
theorem Nr (hu:X.A.units+64<cr):CmpD Γ X .Eq ph:=⟨_,L1 (Γ:=Γ) hu,fun {G H v u x y z} gh r1 r2 h Q k=>by unfold ph at h;obtain⟨b,hb,rfl⟩:=oMd h;exact⟨G,x,y,b,gh,r1,r2,hb,k _ G H (.refl gh) (.bl _)⟩⟩
theorem Mt (hu:X.A.units+64<cr):CmpD Γ X .NotEq pA:=⟨_,Kx (Γ:=Γ) hu,fun {G H v u x y z} gh r1 r2 h Q k=>by unfold pA at h;obtain⟨b,hb,rfl⟩:=oMd h;exact⟨G,x,y,b,gh,r1,r2,hb,k _ G H (.refl gh) (.bl _)⟩⟩
noncomputable def inX (x y:D):ar aN:=(pdD x).bind fun p=>(pdD y).bind fun q=>match q with
 |.list l=>if eR p=ai/\lT l=ai then aa (l.any fun z=>jO z p) else ab
 |_=>ab
noncomputable def dz (x y:D):ar D:=(inX x y).map D.bl
noncomputable def gx (x y:D):ar D:=(inX x y).map fun b=>D.bl (!b)
noncomputable def Ck (Γ:Cn) (K:bh) (neg:aN):R2:=fun x y H Q=>∃G d e b,bK G H/\Rep Γ K G x d/\Rep Γ K G y e/\inX d e=aa b/\Q (.bl (if neg then !b else b)) H
theorem AG {x:D} {b:aN} (h:inX x y=aa b):∃p l,pdD x=aa p/\pdD y=aa (.list l)/\eR p=ai/\lT l=ai/\b=l.any fun z=>jO z p:=by
 unfold inX at h;obtain⟨p,hp,h⟩:=oBd h;obtain⟨q,hq,h⟩:=oBd h;split at h
 .split at h
  .rename_i hz;cases h;exact⟨p,_,hp,hq,hz.1,hz.2,rfl⟩
  .cases h
 .cases h
theorem Do {p:uR} (h:eR p=ai):p.canLay0=ai/\p.depth<=64:=by unfold eR at h;rw[cS] at h;exact⟨h.1,eU h.2⟩
theorem LL (hu:X.A.units+66<cr):OpR X (dq .In) (Ck Γ X.K ao):=by intro pins s σ H x y v u Q I rx ry h;obtain⟨G,d,e,b,gh,r1,r2,hb,q⟩:=h;obtain⟨p,l,hp,hq,s1,s2,rfl⟩:=AG hb;obtain⟨as,a1⟩:=r1.reads I gh rx hp;obtain⟨bs,a2⟩:=r2.reads I gh ry hq;obtain⟨c1,c2⟩:=Do s1;have:=Eg (rS l) p.depth;exact SeqAt.in_list_reads a2 a1 s2 c1 .(e) ⟨.bl _,H,I,rfl,q⟩
theorem MO (hu:X.A.units+66<cr):OpR X (dq .NotIn) (Ck Γ X.K ai):=by intro pins s σ H x y v u Q I rx ry h;obtain⟨G,d,e,b,gh,r1,r2,hb,q⟩:=h;obtain⟨p,l,hp,hq,s1,s2,rfl⟩:=AG hb;obtain⟨as,a1⟩:=r1.reads I gh rx hp;obtain⟨bs,a2⟩:=r2.reads I gh ry hq;obtain⟨c1,c2⟩:=Do s1;have:=Eg (rS l) p.depth;exact SeqAt.notIn_list_reads a2 a1 s2 c1 .(e) ⟨.bl _,H,I,rfl,q⟩
theorem mI (hu:X.A.units+66<cr):CmpD Γ X .In dz:=⟨_,LL (Γ:=Γ) hu,fun {G H v u x y z} gh r1 r2 h Q k=>by unfold dz at h;obtain⟨b,hb,rfl⟩:=oMd h;exact⟨G,x,y,b,gh,r1,r2,hb,k _ G H (.refl gh) (.bl _)⟩⟩
theorem vI (hu:X.A.units+66<cr):CmpD Γ X .NotIn gx:=⟨_,MO (Γ:=Γ) hu,fun {G H v u x y z} gh r1 r2 h Q k=>by unfold gx at h;obtain⟨b,hb,rfl⟩:=oMd h;exact⟨G,x,y,b,gh,r1,r2,hb,k _ G H (.refl gh) (.bl _)⟩⟩
theorem aZ {k:al} (hr:Room k X.A):X.A.units+66<cr:=by have:=hr.un;omega
theorem f8 {k:al} (hr:Room k X.A):X.A.units+64<cr:=by have:=hr.un;omega
noncomputable def lC (d:D):aN:=match d with
 |.non=>ai
 |_=>ao
noncomputable def isD (x y:D):ar D:=match y with
 |.non=>aa (.bl (lC x))
 |_=>ab
noncomputable def pM (x y:D):ar D:=match y with
 |.non=>aa (.bl (!lC x))
 |_=>ab
theorem BR (r:Rep Γ K G v d):decide (v=.non)=lC d:=by cases r<;>simp[lC]
theorem lw:CmpD Γ X .Is isD:=⟨_,MN,fun {G H v u x y z} gh r1 r2 h Q k=>by unfold isD at h;split at h<;>cases h;exact⟨r2.non_inv,by rw[BR r1];exact k _ G H (.refl gh) (.bl _)⟩⟩
theorem xH:CmpD Γ X .IsNot pM:=⟨_,JL,fun {G H v u x y z} gh r1 r2 h Q k=>by unfold pM at h;split at h<;>cases h;exact⟨r2.non_inv,by rw[BR r1];exact k _ G H (.refl gh) (.bl _)⟩⟩
end
variable {fx:FE}
section
variable {a i:Expr}
noncomputable def bwT (i:al) (ft:FT):FT:=fun ρ=>match ρ[i]? with
 |some (aa (.own ds))=>ft (ρ.set i (aa (.sh (.lst ds))))
 |_=>ab
theorem Step.back (gh:bK G H) (s1:bK G G1) (s:Step G1 H G' H'):Step G H G H':=⟨s.hh,.refl _,(s1.trans s.gg).trans s.gh,fun _ _ _=>rfl⟩
theorem DF (i:al) (h:DT Γ X c ft):DT Γ X c (bwT i ft):=⟨h.1.imp fun σ H Q=>by
 rintro⟨G₀,H₀,G,ρ,b,A,h,k⟩;unfold bwT at h;split at h
 .rename_i ds hi;obtain⟨G1,sm,A1⟩:=A.freeze hi;exact⟨G₀,H₀,G1,_,b,A1,h,fun G' H' s=>k G H' (s.back A.gh sm)⟩
 .cases h⟩
noncomputable def iw (i:al) (f:FE):FS:=fun ρ=>match ρ[i]? with
 |some (aa (.own ds))=>(f ρ).bind fun d=>match d with
  |.lst l=>if ds.length+l.length<=aT then aa (.nx,ρ.set i (aa (.own (ds++l)))) else ab
  |_=>ab
 |_=>ab
theorem wS (i:al) (h:DE Γ X e f) (hN:X.N[i]?=aa x:=by rfl) (hv:Vis X.env.scope x:=by first|exact dy rfl|exact cP (dy rfl)|exact cP (cP rfl)) (hd:.(H)=ao:=by decide)
  (hcd:(x==("__classdict__":ah))=ao:=by decide)
  (hbase:jK (.Name x vp) "extend" X.env (eval (.Name x vp) X.env)=eval (.Name x vp) X.env:=by rfl)
  (hfew:((cE cpos (a7 [e] X.env)).all (fun x=>!x.1) && (iO cpos (iP [] X.env)).all (fun x=>x.1.isSome)
   && decide ([e].length+([]:ac iR).length+(if ([]:ac iR).isEmpty then 0 else 1)<30))=ai:=by rfl)
  (hline:(apos.endLine==cpos.line)=ai:=by rfl) (hs:a7 [e] X.env=(ao,eval e X.env)::a7 [] X.env:=by rfl) (hplain:(cE cpos (a7 [] X.env)).any (·.1)=ao:=by rfl)
  (hsw:fW (.Call (.Attribute (.Name x vp) "extend" apos) [e] [] cpos) ab pos.line X.env=bA ao:=by rfl) :
  DS Γ X (.Expr (.Call (.Attribute (.Name x vp) "extend" apos) [e] [] cpos) pos) (iw i f):=⟨(BC (vE yK P1 PySem.F.type_list_extend OR (i7 hN hv hd hcd) (j9 h.1 kx hs) hbase hfew hline hs hplain) hsw).imp fun E σ H=>by
  rintro⟨G₀,H₀,G,ρ,fl,ρ',A,h,k⟩;unfold iw at h;split at h
  .rename_i ds hi;obtain⟨d,hd,h⟩:=oBd h;split at h
   .rename_i l;split at h
    .rename_i hz;cases h;obtain⟨a,vs,h1,h2,h3,h4,h5⟩:=A.env.own i ds hi;refine⟨.ref a,h1,.inl ⟨rfl,vs,.inl (.inl h4)⟩,G₀,H₀,G,ρ,_,A,hd,fun v G1 H1 s1 r1=>?_⟩;have A1:=A.step s1;obtain⟨b,us,rfl,hb,rb⟩:=r1.lst_inv;refine⟨a,b,vs,us,rfl,rfl,s1.hh _ _ h4,s1.gh _ _ hb,by rw[h5.length,rb.length];exact hz,?_⟩;exact k σ G1 _ s1.gg (A1.chOwn hi h1 ((h5.mono s1.gg).append rb))
    .cases h
   .cases h
  .cases h⟩
noncomputable def ko:ac D->ar D
 |[.int i]=>aa (.int i)
 |[.bl k]=>aa (.int (if k then 1 else 0))
 |_=>ab
theorem Cu:TyD Γ X "int" ko:=⟨_,KF,fun {G H vs ds z} gh r h Q k=>by
 unfold ko at h;split at h<;>cases h
 .obtain⟨v,rfl,r1⟩:=r.one;cases r1.int_inv;exact .inl ⟨_,rfl,k _ G H (.refl gh) (.int _)⟩
 .obtain⟨v,rfl,r1⟩:=r.one;cases r1.bl_inv;exact .inr ⟨_,rfl,k _ G H (.refl gh) (.int _)⟩⟩
noncomputable def x5:ac D->ar D
 |[.lst l]=>aa (.tup l)
 |[.tup l]=>aa (.tup l)
 |_=>ab
theorem Hq:TyD Γ X "tuple" x5:=⟨_,Kl,fun {G H vs ds z} gh r h Q k=>by
 unfold x5 at h;split at h<;>cases h
 .obtain⟨v,rfl,r1⟩:=r.one;obtain⟨a,us,rfl,ha,ra⟩:=r1.lst_inv;exact⟨a,us,rfl,.inl ⟨.inl (.inl (gh _ _ ha)),wd gh ra k⟩⟩
 .obtain⟨v,rfl,r1⟩:=r.one;obtain⟨a,us,rfl,ha,ra⟩:=r1.tup_inv;exact⟨a,us,rfl,.inr ⟨.inl (.inl (gh _ _ ha)),k _ G H (.refl gh) (.tup ha ra)⟩⟩⟩
noncomputable def cv [eE κ] (kvs:ac (κ×α)) (k:κ):ar α:=(kvs.find? fun kv=>decide (kv.1=k)).map (·.2)
noncomputable def eC [eE κ] (kvs:ac (κ×α)) (k:κ) (v:α):ac (κ×α):=
 if (kvs.any fun kv=>decide (kv.1=k))=ai then kvs.map (fun kv=>if kv.1=k then (kv.1,v) else kv) else kvs++[(k,v)]
theorem o7 {κ:Type} [eE κ] {K:bh} {G:Hp} {k:κ}:∀{us:ac (κ×V)} {kvs:ac (κ×D)},us.map (·.1)=kvs.map (·.1)->Reps Γ K G (us.map (·.2)) (kvs.map (·.2))->
  (cv kvs k=ab/\gy us k=ab)\/∃d v,cv kvs k=aa d/\gy us k=aa v/\Rep Γ K G v d
 |[],[],_,_=>.inl ⟨rfl,rfl⟩
 |[],_::_,e,_=>by cases e
 |_::_,[],e,_=>by cases e
 |(k1,v)::us,(k2,d)::kvs,e,r=>by
  have e1:k1=k2:=(jN e).1;have e2:us.map (·.1)=kvs.map (·.1):=(jN e).2;subst e1;have r:Reps Γ K G (v::us.map (·.2)) (d::kvs.map (·.2)):=r;cases r with
  |cons r1 r2=>
   by_cases h:k1=k
   .exact .inr ⟨d,v,by simp[cv,dL,h],tt h,r1⟩
   .have:=o7 (k:=k) e2 r2;rw[tG (p:=(k1,v)) h];simpa[cv,dL,h] using this
theorem Aw {κ:Type} [eE κ] {k:κ} {α β:Type}:∀{us:ac (κ×α)} {kvs:ac (κ×β)},us.map (·.1)=kvs.map (·.1)->(us.any fun kv=>decide (kv.1=k))=(kvs.any fun kv=>decide (kv.1=k))
 |[],[],_=>rfl
 |[],_::_,e=>by cases e
 |_::_,[],e=>by cases e
 |(k1,v)::us,(k2,d)::kvs,e=>by have e1:k1=k2:=(jN e).1;subst e1;rw[kG,kG,Aw (us:=us) (kvs:=kvs) (jN e).2]
theorem Bu {κ:Type} [eE κ] {K:bh} {G:Hp} {k:κ} {v:V} {d:D} (rv:Rep Γ K G v d):∀{us:ac (κ×V)} {kvs:ac (κ×D)},us.map (·.1)=kvs.map (·.1)->Reps Γ K G (us.map (·.2)) (kvs.map (·.2))->
  (us.map fun kv=>if kv.1=k then (kv.1,v) else kv).map (·.1)=(kvs.map fun kv=>if kv.1=k then (kv.1,d) else kv).map (·.1)/\Reps Γ K G ((us.map fun kv=>if kv.1=k then (kv.1,v) else kv).map (·.2)) ((kvs.map fun kv=>if kv.1=k then (kv.1,d) else kv).map (·.2))
 |[],[],_,_=>⟨rfl,.nil⟩
 |[],_::_,e,_=>by cases e
 |_::_,[],e,_=>by cases e
 |(k1,u)::us,(k2,x)::kvs,e,r=>by
  have e1:k1=k2:=(jN e).1;have e2:us.map (·.1)=kvs.map (·.1):=(jN e).2;subst e1;have r:Reps Γ K G (u::us.map (·.2)) (x::kvs.map (·.2)):=r;cases r with
  |cons r1 r2=>
   obtain⟨h1,h2⟩:=Bu (k:=k) rv e2 r2;by_cases h:k1=k
   .subst h;simp only[qm,cu];exact⟨by rw[h1],.cons rv h2⟩
   .simp only[qm,qX h];exact⟨by rw[h1],.cons r1 h2⟩
theorem sK [eE κ] {k:κ} (rv:Rep Γ K G v d) {us:ac (κ×V)} {kvs:ac (κ×D)} (e:us.map (·.1)=kvs.map (·.1)) (r:Reps Γ K G (us.map (·.2)) (kvs.map (·.2))) :
  (dM us k v).map (·.1)=(eC kvs k d).map (·.1)/\Reps Γ K G ((dM us k v).map (·.2)) ((eC kvs k d).map (·.2)):=by
 unfold dM eC;rw[Aw (k:=k) e];split
 .exact Bu rv e r
 .simp only[iT,qm,qM];exact⟨by rw[e],r.append (.cons rv .nil)⟩
noncomputable def gG:D->ar Key
 |.int i=>aa (.inl i)
 |.str x=>aa (.inr x)
 |_=>ab
noncomputable def gz:ac D->ar (ac Key)
 |[]=>aa []
 |d::r=>(gG d).bind fun k=>(gz r).map (k::·)
theorem mO {k:Key} (r:Rep Γ K G v d) (h:gG d=aa k):v=kV k:=by
 unfold gG at h;split at h<;>cases h
 .exact r.int_inv
 .exact r.str_inv
theorem mx {K:bh} {G:Hp}:∀{vs:ac V} {ds:ac D} {ks:ac Key},Reps Γ K G vs ds->gz ds=aa ks->vs=ks.map kV
 |_,[],ks,r,h=>by cases r;cases h;rfl
 |_,d::ds,ks,.cons h1 h2,h=>by unfold gz at h;obtain⟨k,hk,h⟩:=oBd h;obtain⟨zs,hz,rfl⟩:=oMd h;rw[mO h1 hk,mx h2 hz];rfl
noncomputable def jD (d k:D):ar (ar D):=match d,k with
 |.dk l,k=>(gG k).map (cv l)
 |.fdk l,k=>(gG k).map (cv l)
 |.dt l,.tup t=>(gz t).map (cv l)
 |_,_=>ab
theorem zT {k:D} {r:ar D} (gh:bK G H) (rv:Rep Γ K G v d) (h:jD d k=aa r):∃a,v=.ref a/\IsD H a:=by
 unfold jD at h;split at h
 .cases rv with
  |dk h _ _=>exact⟨_,rfl,.inl ⟨_,.inl (gh _ _ h)⟩⟩
 .cases rv with
  |fdk h _ _=>exact⟨_,rfl,.inl ⟨_,.inr ⟨_,gh _ _ h⟩⟩⟩
 .cases rv with
  |dt h _ _=>exact⟨_,rfl,.inr ⟨_,.inl (gh _ _ h)⟩⟩
 .cases h
theorem pF {y:V} {k:D} {r:ar D} (gh:bK G H) (rv:Rep Γ K G v d) (ry:Rep Γ K G y k) (h:jD d k=aa r) :
  ∃a o,v=.ref a/\fM H a y o/\((r=ab/\o=ab)\/∃w z,r=aa z/\o=aa w/\Rep Γ K G w z):=by
 unfold jD at h;split at h
 .obtain⟨kk,hk,rfl⟩:=oMd h;cases rv with
  |dk h1 h2 h3=>
   have ey:=mO ry hk;subst ey;refine⟨_,_,rfl,fM.k (gh _ _ h1),?_⟩;rcases o7 (k:=kk) h2 h3 with⟨q1,q2⟩|⟨z,w,q1,q2,q3⟩
   .exact .inl ⟨q1,q2⟩
   .exact .inr ⟨w,z,q1,q2,q3⟩
 .obtain⟨kk,hk,rfl⟩:=oMd h;cases rv with
  |fdk h1 h2 h3=>
   have ey:=mO ry hk;subst ey;refine⟨_,_,rfl,.inl ⟨_,kk,.inr ⟨_,gh _ _ h1⟩,rfl,rfl⟩,?_⟩;rcases o7 (k:=kk) h2 h3 with⟨q1,q2⟩|⟨z,w,q1,q2,q3⟩
   .exact .inl ⟨q1,q2⟩
   .exact .inr ⟨w,z,q1,q2,q3⟩
 .obtain⟨kk,hk,rfl⟩:=oMd h;cases rv with
  |dt h1 h2 h3=>
   obtain⟨b,ys,rfl,hb,rb⟩:=ry.tup_inv;have ey:=mx rb hk;subst ey;refine⟨_,_,rfl,fM.t (gh _ _ h1) (gh _ _ hb),?_⟩;rcases o7 (k:=kk) h2 h3 with⟨q1,q2⟩|⟨z,w,q1,q2,q3⟩
   .exact .inl ⟨q1,q2⟩
   .exact .inr ⟨w,z,q1,q2,q3⟩
 .cases h
noncomputable def aO (d k:D):ar D:=(jD d k).bind id
theorem bI (hu:X.A.units+66<cr) (ho:DE Γ X o fo) (hi:DE Γ X i fi') (hs:tR i:=by intro _ _;rfl):DE Γ X (.Subscript o i pos) (b2 aO fo fi'):=⟨(By .(e) ho.1 hi.1 hs).imp fun σ H Q=>by
 rintro⟨G₀,H₀,G,ρ,d,A,h,k⟩;unfold b2 at h;obtain⟨x,hx,h⟩:=oBd h;obtain⟨y,hy,h⟩:=oBd h;refine⟨G₀,H₀,G,ρ,x,A,hx,fun v G1 H1 s1 r1=>⟨G₀,H₀,G1,ρ,y,A.step s1,hy,fun u G2 H2 s2 r2=>?_⟩⟩;unfold aO at h;obtain⟨r,hr,h⟩:=oBd h;obtain⟨a,ov,rfl,hg,hc⟩:=pF s2.gh (r1.mono s2.gg) r2 hr;rcases hc with⟨rfl,_⟩|⟨w,z,rfl,rfl,rw'⟩
 .cases h
 .cases h;exact⟨a,w,rfl,hg,k w G2 H2 (s1.trans s2) rw'⟩⟩
noncomputable def vD (d k:D):ar D:=(jD d k).map fun r=>r.getD .non
theorem Gv (hu:X.A.units+66<cr) (ho:DE Γ X o fo) (he:DE Γ X e f) (m:M1 X o "get" apos e cpos:=by exact⟨rfl,rfl,rfl,rfl⟩):DE Γ X (.Call (.Attribute o "get" apos) [e] [] cpos) (b2 vD fo f):=⟨(JH .(e) ho.1 he.1 m).imp fun σ H Q=>by
 rintro⟨G₀,H₀,G,ρ,d,A,h,k⟩;unfold b2 at h;obtain⟨x,hx,h⟩:=oBd h;obtain⟨y,hy,h⟩:=oBd h;unfold vD at h;obtain⟨r,hr,rfl⟩:=oMd h;refine⟨G₀,H₀,G,ρ,x,A,hx,fun v G1 H1 s1 r1=>?_⟩;obtain⟨a0,e0,d0⟩:=zT s1.gh r1 hr;refine⟨a0,e0,d0,G₀,H₀,G1,ρ,y,A.step s1,hy,fun u G2 H2 s2 r2=>?_⟩;obtain⟨a,ov,e1,hg,hc⟩:=pF s2.gh (r1.mono s2.gg) r2 hr;subst e0;cases e1;rcases hc with⟨rfl,rfl⟩|⟨w,z,rfl,rfl,rw'⟩
 .exact⟨ab,hg,k _ G2 H2 (s1.trans s2) .non⟩
 .exact⟨aa w,hg,k w G2 H2 (s1.trans s2) rw'⟩⟩
noncomputable def j6 (d k x:D):ar D:=(jD d k).map fun r=>r.getD x
noncomputable def b3 (g:D->D->D->ar D) (fa fb fc:FE):FE:=fun ρ=>(fa ρ).bind fun x=>(fb ρ).bind fun y=>(fc ρ).bind fun z=>g x y z
theorem AT (hu:X.A.units+66<cr) (ho:DE Γ X o fo) (he:DE Γ X e f) (hf:DE Γ X c fc) (m:M2 X o "get" apos e c cpos:=by exact⟨rfl,rfl,rfl,rfl⟩):DE Γ X (.Call (.Attribute o "get" apos) [e,c] [] cpos) (b3 j6 fo f fc):=⟨(JS .(e) ho.1 he.1 hf.1 m).imp fun σ H Q=>by
 rintro⟨G₀,H₀,G,ρ,d,A,h,k⟩;unfold b3 at h;obtain⟨x,hx,h⟩:=oBd h;obtain⟨y,hy,h⟩:=oBd h;obtain⟨z,hz,h⟩:=oBd h;unfold j6 at h;obtain⟨r,hr,rfl⟩:=oMd h;refine⟨G₀,H₀,G,ρ,x,A,hx,fun v G1 H1 s1 r1=>?_⟩;obtain⟨a0,e0,d0⟩:=zT s1.gh r1 hr;refine⟨a0,e0,d0,G₀,H₀,G1,ρ,y,A.step s1,hy,fun u G2 H2 s2 r2=>⟨G₀,H₀,G2,ρ,z,(A.step s1).step s2,hz,fun w3 G3 H3 s3 r3=>?_⟩⟩;obtain⟨a,ov,e1,hg,hc⟩:=pF s3.gh (r1.mono (s2.gg.trans s3.gg)) (r2.mono s3.gg) hr;subst e0;cases e1;rcases hc with⟨rfl,rfl⟩|⟨w,z,rfl,rfl,rw'⟩
 .exact⟨ab,hg,k _ G3 H3 ((s1.trans s2).trans s3) r3⟩
 .exact⟨aa w,hg,k w G3 H3 ((s1.trans s2).trans s3) rw'⟩⟩
noncomputable def fz (k d:D):ar D:=(jD d k).map fun r=>.bl r.isSome
noncomputable def pr (k d:D):ar D:=(jD d k).map fun r=>.bl (!r.isSome)
noncomputable def z5 (Γ:Cn) (K:bh) (neg:aN):R2:=fun y x H Q=>∃G k d r,bK G H/\Rep Γ K G y k/\Rep Γ K G x d/\jD d k=aa r/\Q (.bl (if neg then !r.isSome else r.isSome)) H
theorem Kk (hu:X.A.units+66<cr):OpR X (dq .In) (z5 Γ X.K ao):=by
 intro pins s σ H x y v u Q I rx ry h;obtain⟨G,kd,d,r,gh,r1,r2,hr,q⟩:=h;obtain⟨a,ov,rfl,hg,hc⟩:=pF gh r2 r1 hr;cases ry;have e:ov.isSome=r.isSome:=by rcases hc with⟨rfl,rfl⟩|⟨w,z,rfl,rfl,_⟩<;>rfl
 exact HH .(e) I hg rx fun s3 I3=>⟨.bl _,H,I3,rfl,by rw[e];exact q⟩
theorem Kb (hu:X.A.units+66<cr):OpR X (dq .NotIn) (z5 Γ X.K ai):=by
 intro pins s σ H x y v u Q I rx ry h;obtain⟨G,kd,d,r,gh,r1,r2,hr,q⟩:=h;obtain⟨a,ov,rfl,hg,hc⟩:=pF gh r2 r1 hr;cases ry;have e:ov.isSome=r.isSome:=by rcases hc with⟨rfl,rfl⟩|⟨w,z,rfl,rfl,_⟩<;>rfl
 exact Ht .(e) I hg rx fun s3 I3=>⟨.bl _,H,I3,rfl,by rw[e];exact q⟩
theorem sA (hu:X.A.units+66<cr):CmpD Γ X .In fz:=⟨_,Kk (Γ:=Γ) hu,fun {G H v u x y z} gh r1 r2 h Q k=>by unfold fz at h;obtain⟨r,hr,rfl⟩:=oMd h;exact⟨G,x,y,r,gh,r1,r2,hr,k _ G H (.refl gh) (.bl _)⟩⟩
theorem OK (hu:X.A.units+66<cr):CmpD Γ X .NotIn pr:=⟨_,Kb (Γ:=Γ) hu,fun {G H v u x y z} gh r1 r2 h Q k=>by unfold pr at h;obtain⟨r,hr,rfl⟩:=oMd h;exact⟨G,x,y,r,gh,r1,r2,hr,k _ G H (.refl gh) (.bl _)⟩⟩
noncomputable def sNo:FS:=fun _=>ab
theorem Hg :DS Γ X st sNo:=⟨fun pins s σ H E I q=>by obtain⟨G₀,H₀,G,ρ,fl,ρ',A,h,k⟩:=q;cases h⟩
end
structure CF (Γ:Cn) (K:bh) (c:ah) (attrs:ac ah):Prop where
 ex:∃C,Γ.cls c=aa C/\Cls K C/\∀f∈attrs,kO K C f
variable {attrs:ac ah} {ke:Expr}
section
variable {a i:Expr} {fv:FE} {cl fl n m:ah}
theorem kh {K:bh} {G:Hp} {k:ah}:∀{us:ac (ah×V)} {fs:ac (ah×D)},us.map (·.1)=fs.map (·.1)->Reps Γ K G (us.map (·.2)) (fs.map (·.2))->
  (fs.lookup k=ab/\us.lookup k=ab)\/∃d v,fs.lookup k=aa d/\us.lookup k=aa v/\Rep Γ K G v d
 |[],[],_,_=>.inl ⟨rfl,rfl⟩
 |[],_::_,e,_=>by cases e
 |_::_,[],e,_=>by cases e
 |(k1,v)::us,(k2,d)::fs,e,r=>by
  have e1:k1=k2:=(jN e).1;have e2:us.map (·.1)=fs.map (·.1):=(jN e).2;subst e1;have r:Reps Γ K G (v::us.map (·.2)) (d::fs.map (·.2)):=r;cases r with
  |cons r1 r2=>
   by_cases h:k=k1
   .subst h;exact .inr ⟨d,v,by simp[dw],by simp[dw],r1⟩
   .have hb:(k==k1)=ao:=by simpa using h
    have:=kh (k:=k) e2 r2;simpa[dw,hb] using this
theorem vt {f:ah} {v:V}:∀{fs:ac (ah×V)},fs.lookup f=ab->eX f v fs=fs++[(f,v)]
 |[],_=>rfl
 |(g,x)::r,h=>by
  by_cases e:f=g
  .subst e;simp[dw] at h
  .have hb:(f==g)=ao:=by simpa using e
   rw[eX,qX (fun z=>e z.symm),vt (by simpa[dw,hb] using h)];rfl
noncomputable def Ac (c f:ah):D->ar D
 |.ins c' fs=>if c'=c then fs.lookup f else ab
 |_=>ab
noncomputable def ga (c f:ah) (fo:FE):FE:=fun ρ=>(fo ρ).bind (Ac c f)
theorem jp (hc:CF Γ X.K cl attrs) (hf:fl∈attrs) (ho:DE Γ X o fo) (hb:jK o fl X.env (eval o X.env)=eval o X.env:=by rfl):DE Γ X (.Attribute o fl pos) (ga cl fl fo):=⟨(xR ho.1 hb).imp fun σ H Q=>by
 rintro⟨G₀,H₀,G,ρ,d,A,h,k⟩;unfold ga at h;obtain⟨x,hx,hq⟩:=oBd h;clear h;refine⟨G₀,H₀,G,ρ,x,A,hx,fun v G1 H1 s1 r1=>?_⟩;unfold Ac at hq;split at hq
 .split at hq
  .rename_i ec;subst ec;obtain⟨C,q1,q2,q3⟩:=hc.ex;cases r1 with
   |ins h1 h2 h3 h4=>
    rw[q1] at h2;cases h2;rcases kh (k:=fl) h3 h4 with⟨z1,_⟩|⟨d',v',z1,z2,z3⟩
    .rw[z1] at hq;cases hq
    .rw[z1] at hq;cases hq;exact⟨_,C,_,_,v',rfl,s1.gh _ _ h1,q2,q3 fl hf,z2,k v' G1 H1 s1 z3⟩
  .cases hq
 .cases hq⟩
noncomputable def Ad (f:ah):Slot->ar D
 |.obj _ fs=>fs.lookup f
 |.objd _ fs n _=>if f=n then ab else fs.lookup f
 |_=>ab
noncomputable def HL:Slot->ar ah
 |.obj c _=>aa c
 |.objd c _ _ _=>aa c
 |_=>ab
noncomputable def jq (c f:ah) (i:al):FE:=fun ρ=>match ρ[i]? with
 |some (aa s)=>if HL s=aa c then Ad f s else ab
 |_=>ab
theorem MA {vs:ac (ah×V)} {f:ah} {w:V} (h:vs.lookup f=aa v):(vs++[(n,w)]).lookup f=aa v:=by
 induction vs with
 |nil=>cases h
 |cons p r ih=>
  obtain⟨g,x⟩:=p;by_cases e:f=g
  .subst e;simpa[dw] using h
  .have hb:(f==g)=ao:=by simpa using e
   simp only[qp,dw,hb] at h ⊢;exact ih h
theorem sF (i:al) (hc:CF Γ X.K cl attrs) (hf:fl∈attrs) (hN:X.N[i]?=aa x:=by rfl) (hv:Vis X.env.scope x:=by first|exact dy rfl|exact cP (dy rfl)|exact cP (cP rfl)) (hd:.(H)=ao:=by decide)
  (hcd:(x==("__classdict__":ah))=ao:=by decide) (hb:jK (.Name x vp) fl X.env (eval (.Name x vp) X.env)=eval (.Name x vp) X.env:=by rfl):DE Γ X (.Attribute (.Name x vp) fl pos) (jq cl fl i):=⟨(xR (i7 hN hv hd hcd) hb).imp fun σ H Q=>by
 rintro⟨G₀,H₀,G,ρ,d,A,h,k⟩;unfold jq at h;split at h
 .rename_i s hi;split at h
  .rename_i hcl;obtain⟨C,q1,q2,q3⟩:=hc.ex;obtain⟨v,fp,h1,h2⟩:=A.get hi;cases h2 with
   |sh _=>cases h
   |own _ _ _ _=>cases h
   |odk _ _ _ _ _=>cases h
   |odt _ _ _ _ _=>cases h
   |tlo _ _ _ _ _ _=>cases h
   |oll _ _ _ _ _=>cases h
   |pin _=>cases h
   |obj g1 g2 g3 g4 g5 g6 g7=>
    cases hcl;rw[q1] at g1;cases g1;have h:dw fl _=aa d:=h;rcases kh (k:=fl) g5 g6 with⟨z1,_⟩|⟨d',v',z1,z2,z3⟩
    .rw[z1] at h;cases h
    .rw[z1] at h;cases h;exact⟨_,h1,_,C,_,_,v',rfl,g4,q2,q3 fl hf,z2,k v' G H (.refl A.gh) z3⟩
   |objd g1 g2 g3 g4 g5 g6 _ _ _ _ _ g7=>
    cases hcl;rw[q1] at g1;cases g1;unfold Ad at h;simp only at h;split at h
    .cases h
    .rcases kh (k:=fl) g5 g6 with⟨z1,_⟩|⟨d',v',z1,z2,z3⟩
     .rw[z1] at h;cases h
     .rw[z1] at h;cases h;exact⟨_,h1,_,C,_,_,v',rfl,g4,q2,q3 fl hf,MA z2,k v' G H (.refl A.gh) z3⟩
  .cases h
 .cases h⟩
noncomputable def gw (c f:ah) (i:al) (fv:FE):FS:=fun ρ=>(fv ρ).bind fun d=>match ρ[i]? with
 |some (aa (.obj c' fs))=>if c'=c/\fs.lookup f=ab/\fs.length<100 then aa (.nx,ρ.set i (aa (.obj c (fs++[(f,d)])))) else ab
 |_=>ab
theorem jg (i:al) (hc:CF Γ X.K cl attrs) (hf:fl∈attrs) (hv':DE Γ X value fv) (hN:X.N[i]?=aa x:=by rfl) (hv:Vis X.env.scope x:=by first|exact dy rfl|exact cP (dy rfl)|exact cP (cP rfl)) (hd:.(H)=ao:=by decide)
  (hcd:(x==("__classdict__":ah))=ao:=by decide) (hs:fW value (aa (.Attribute (.Name x vp) fl pos')) pos.line X.env=bA ao:=by rfl):DS Γ X (.Assign [.Attribute (.Name x vp) fl pos'] value pos) (gw cl fl i fv):=⟨(As (i7 hN hv hd hcd) hv'.1 hs).imp fun E σ H=>by
 rintro⟨G₀,H₀,G,ρ,flw,ρ',A,h,k⟩;unfold gw at h;obtain⟨d,hd,h⟩:=oBd h;split at h
 .rename_i c' fs hi;split at h
  .rename_i hz;obtain⟨rfl,hz2,hz3⟩:=hz;cases h;obtain⟨C,q1,q2,q3⟩:=hc.ex;refine⟨G₀,H₀,G,ρ,d,A,hd,fun v G1 H1 s1 r1=>?_⟩;have A1:=A.step s1;obtain⟨w,fp,h1,h2⟩:=A1.get hi;cases h2 with
   |obj g1 g2 g3 g4 g5 g6 g7=>
    rename_i a C' dx vs;have g1':=g1;rw[q1] at g1;cases g1;have hl:vs.lookup fl=ab:=by
     rcases kh (k:=fl) g5 g6 with⟨_,z2⟩|⟨d',v',z1,_,_⟩
     .exact z2
     .rw[z1] at hz2;cases hz2
    have hlen:vs.length=fs.length:=by simpa using cI gX g5
    refine⟨_,h1,a,C,dx,vs,rfl,g4,q2,q3 fl hf,by omega,?_⟩;rw[vt hl];refine k σ G1 _ s1.gg (A1.ch hi h1 (.obj g1' g2 g3 g4 g5 g6 g7) (fun b o e hb=>?_) (.obj (vs:=vs++[(fl,v)]) g1' g2 g3 cc (by simp[g5]) (by simpa using g6.append (.cons r1 .nil)) g7) (fun b hb=>.inl hb) (.refl _) (fun b o e=>?_) (fun _ _ _ _=>rfl))
    .rw[a6 (fun z=>hb (bW.mpr z))];exact e
    .rw[a6 (ce e g3)];exact A1.gh b o e
  .cases h
 .cases h⟩
noncomputable def nE (c f:ah) (i:al):FS:=fun ρ=>match ρ[i]? with
 |some (aa (.obj c' fs))=>if c'=c/\fs.lookup f=ab/\fs.length<100 then aa (.nx,ρ.set i (aa (.objd c fs f []))) else ab
 |_=>ab
theorem Mi (i:al) (hc:CF Γ X.K cl attrs) (hf:fl∈attrs) {dp:dn} (hN:X.N[i]?=aa x:=by rfl) (hv:Vis X.env.scope x:=by first|exact dy rfl|exact cP (dy rfl)|exact cP (cP rfl)) (hd:.(H)=ao:=by decide)
  (hcd:(x==("__classdict__":ah))=ao:=by decide) (hs:fW (.Dict [] [] dp) (aa (.Attribute (.Name x vp) fl pos')) pos.line X.env=bA ao:=by rfl):DS Γ X (.Assign [.Attribute (.Name x vp) fl pos'] (.Dict [] [] dp) pos) (nE cl fl i):=⟨(As (i7 hN hv hd hcd) wZ hs).imp fun E σ H=>by
 rintro⟨G₀,H₀,G,ρ,flw,ρ',A,h,k⟩ p hp;unfold nE at h;split at h
 .rename_i c' fs hi;split at h
  .rename_i hz;obtain⟨rfl,hz2,hz3⟩:=hz;cases h;obtain⟨C,q1,q2,q3⟩:=hc.ex;obtain⟨w,fp,h1,h2⟩:=A.get hi;cases h2 with
   |obj g1 g2 g3 g4 g5 g6 g7=>
    rename_i a C' dx vs;have g1':=g1;rw[q1] at g1;cases g1;have hl:vs.lookup fl=ab:=by
     rcases kh (k:=fl) g5 g6 with⟨_,z2⟩|⟨d',v',z1,_,_⟩
     .exact z2
     .rw[z1] at hz2;cases hz2
    have hlen:vs.length=fs.length:=by simpa using cI gX g5
    have npa:a≠p:=ce g4 hp;refine⟨_,h1,a,C,dx,vs,rfl,by rw[a6 npa];exact g4,q2,q3 fl hf,by omega,?_⟩;rw[vt hl];have hp0:H₀ p=ab:=A.st.hh.free hp;have hpg:G p=ab:=A.gh.free hp;refine k σ G _ (.refl _) (A.ch hi h1 (.obj g1' g2 g3 g4 g5 g6 g7) (fun b o e hb=>?_) (.objd (vs:=vs) (p:=p) (us:=[]) (kvs:=[]) g1' g2 g3 cc g5 g6 hp0 hpg (by rw[a6 npa.symm,cc]) rfl .nil g7) (fun b hb=>?_) (.refl _) (fun b o e=>?_) (fun _ _ _ _=>rfl))
    .rw[a6 (fun z=>hb (bW.mpr z)),a6 (ce e hp)];exact e
    .rcases cA.mp hb with rfl|hb
     .exact .inl (bW.mpr rfl)
     .rw[bW.mp hb];exact .inr hp
    .rw[a6 (ce e g3),a6 (ce e hpg)];exact A.gh b o e
  .cases h
 .cases h⟩
noncomputable def jo (c f:ah) (i:al) (fk fv:FE):FS:=fun ρ=>(fv ρ).bind fun d=>(fk ρ).bind fun kd=>(gG kd).bind fun k=>match ρ[i]? with
 |some (aa (.objd c' fs n kvs))=>if c'=c/\n=f/\fs.lookup f=ab/\kvs.length<100000 then aa (.nx,ρ.set i (aa (.objd c fs n (eC kvs k d)))) else ab
 |_=>ab
theorem Ld {vs:ac (ah×V)} {f:ah} {w:V} (h:vs.lookup f=ab):(vs++[(f,w)]).lookup f=aa w:=by
 induction vs with
 |nil=>simp[dw]
 |cons p r ih=>
  obtain⟨g,x⟩:=p;by_cases e:f=g
  .subst e;simp[dw] at h
  .have hb:(f==g)=ao:=by simpa using e
   simp only[qp,dw,hb] at h ⊢;exact ih h
theorem LD (i:al) (hu:X.A.units+66<cr) (hc:CF Γ X.K cl attrs) (hf:fl∈attrs) {ap:dn} (hk:DE Γ X ke fk) (hv':DE Γ X value fv) (hN:X.N[i]?=aa x:=by rfl) (hv:Vis X.env.scope x:=by first|exact dy rfl|exact cP (dy rfl)|exact cP (cP rfl)) (hd:.(H)=ao:=by decide)
  (hcd:(x==("__classdict__":ah))=ao:=by decide) (hb:jK (.Name x vp) fl X.env (eval (.Name x vp) X.env)=eval (.Name x vp) X.env:=by rfl) (hs:fW value (aa (.Subscript (.Attribute (.Name x vp) fl ap) ke pos')) pos.line X.env=bA ao:=by rfl) :
  DS Γ X (.Assign [.Subscript (.Attribute (.Name x vp) fl ap) ke pos'] value pos) (jo cl fl i fk fv):=⟨(Ci .(e) (xR (i7 hN hv hd hcd) hb) hk.1 hv'.1 hs).imp fun E σ H=>by
 rintro⟨G₀,H₀,G,ρ,flw,ρ',A,h,k⟩;unfold jo at h;obtain⟨d,hd,ha⟩:=oBd h;clear h;obtain⟨kd,hkd,hb1⟩:=oBd ha;clear ha;obtain⟨kk,hkk,hq⟩:=oBd hb1;clear hb1;split at hq
 .rename_i c' fs n kvs hi;split at hq
  .rename_i hz;obtain⟨rfl,rfl,hz2,hz3⟩:=hz;cases hq;obtain⟨C,q1,q2,q3⟩:=hc.ex;refine⟨G₀,H₀,G,ρ,d,A,hd,fun v G1 H1 s1 r1=>?_⟩;have A1:=A.step s1;obtain⟨w,fp,h1,h2⟩:=A1.get hi;cases h2 with
   |objd g1 g2 g3 g4 g5 g6 y1 y2 y3 y4 y5 g7=>
    rename_i a C' dx p vs us;have g1':=g1;rw[q1] at g1;cases g1;have hl:vs.lookup n=ab:=by
     rcases kh (k:=n) g5 g6 with⟨_,z2⟩|⟨d',v',z1,_,_⟩
     .exact z2
     .rw[z1] at hz2;cases hz2
    refine⟨_,h1,a,C,dx,_,.ref p,rfl,g4,q2,q3 n hf,Ld hl,G₀,H₀,G1,ρ,kd,A1,hkd,fun u G2 H2 s2 r2=>?_⟩;have A2:=A1.step s2;have eu:=mO r2 hkk;subst eu;have hp2:H2 p=aa (.dK us):=s2.hh _ _ y3;have ha2:H2 a=aa (.ins C dx (vs++[(n,.ref p)])):=s2.hh _ _ g4;have ga2:G2 a=ab:=(s2.out _ _ g4).trans g3;have gp2:G2 p=ab:=(s2.out _ _ y3).trans y2;have npa:a≠p:=xx ha2 hp2 (by intro z;cases z);have hlen:us.length=kvs.length:=by simpa using cI gX y4
    obtain⟨w1,w2⟩:=sK (k:=kk) (r1.mono s2.gg) y4 (y5.mono s2.gg);refine⟨p,_,rfl,jU.k hp2 (by have:=fH;omega),?_⟩;refine k σ G2 _ (s1.gg.trans s2.gg) (A2.ch hi h1 (.objd g1' g2 ga2 ha2 g5 (g6.mono s2.gg) y1 gp2 hp2 y4 (y5.mono s2.gg) g7) (fun b o e hb=>?_) (.objd (p:=p) g1' g2 ga2 (by rw[a6 npa];exact ha2) g5 (g6.mono s2.gg) y1 gp2 cc w1 w2 g7) (fun b hb=>.inl hb) (.refl _) (fun b o e=>?_) (fun _ _ _ _=>rfl))
    .rw[a6 (fun z=>hb (by rw[z];exact qh _ qg))];exact e
    .rw[a6 (ce e gp2)];exact A2.gh b o e
  .cases hq
 .cases hq⟩
noncomputable def zF:Slot->ar D
 |.obj c fs=>aa (.ins c fs)
 |.objd c fs n kvs=>aa (.ins c (fs++[(n,.dk kvs)]))
 |_=>ab
theorem At.done (A:At Γ K G₀ H₀ G H ρ σ) {i:al} {s:Slot} (hi:ρ[i]?=aa (aa s)) (hd:zF s=aa d):∃a G',Γ.self=aa a/\Step G₀ H₀ G' H/\Rep Γ K G' (.ref a) d:=by
 obtain⟨v,fp,h1,h2⟩:=A.get hi;cases h2 with
 |sh _=>cases hd
 |own _ _ _ _=>cases hd
 |odk _ _ _ _ _=>cases hd
 |odt _ _ _ _ _=>cases hd
 |tlo _ _ _ _ _ _=>cases hd
 |oll _ _ _ _ _=>cases hd
 |pin _=>cases hd
 |obj g1 g2 g3 g4 g5 g6 g7=>
  cases hd;rename_i a C dx vs fs;have sm:bK G (upd G a (.ins C dx vs)):=fun b o e=>by rw[a6 (ce e g3)];exact e
  refine⟨a,upd G a (.ins C dx vs),g7,⟨A.st.hh,A.st.gg.trans sm,fun b o e=>?_,fun b o e=>?_⟩,.ins cc g1 g5 (g6.mono sm)⟩
  .by_cases hb:b=a
   .subst hb;rw[cc] at e;cases e;exact g4
   .rw[a6 hb] at e;exact A.gh b o e
  .rw[a6 (ce e g2)];exact A.st.out b o e
 |objd g1 g2 g3 g4 g5 g6 y1 y2 y3 y4 y5 g7=>
  cases hd;rename_i n a C dx p vs fs us kvs;have npa:a≠p:=xx g4 y3 (by intro z;cases z);have sm:bK G (upd (upd G p (.dK us)) a (.ins C dx (vs++[(n,.ref p)]))):=fun b o e=>by rw[a6 (ce e g3),a6 (ce e y2)];exact e
  refine⟨a,_,g7,⟨A.st.hh,A.st.gg.trans sm,fun b o e=>?_,fun b o e=>?_⟩,.ins (us:=vs++[(n,.ref p)]) (fs:=fs++[(n,.dk kvs)]) cc g1 (by simp[g5]) ?_⟩
  .by_cases hb:b=a
   .subst hb;rw[cc] at e;cases e;exact g4
   .rw[a6 hb] at e;by_cases hb':b=p
    .subst hb';rw[cc] at e;cases e;exact y3
    .rw[a6 hb'] at e;exact A.gh b o e
  .rw[a6 (ce e g2),a6 (ce e y1)];exact A.st.out b o e
  .have r2:Rep Γ K (upd (upd G p (.dK us)) a (.ins C dx (vs++[(n,.ref p)]))) (.ref p) (.dk kvs):=.dk (us:=us) (by rw[a6 npa.symm,cc]) y4 (y5.mono sm);simpa using(g6.mono sm).append (.cons r2 .nil)
end
noncomputable def Cn.mk1 (Γ:Cn) (x:av):Cn:=⟨Γ.cls,aa x⟩
section
variable {P:bU} {c:ah} {x:av}
theorem Rep.to1 (x:av) (r:Rep Γ K G v d):Rep (Γ.mk1 x) K G v d:=Rep.re (Γ:=Γ) (Γ':=Γ.mk1 x) rfl r
theorem Rep.of1 (r:Rep (Γ.mk1 x) K G v d):Rep Γ K G v d:=Rep.re (Γ:=Γ.mk1 x) (Γ':=Γ) rfl r
theorem Reps.of1 {v:ac V} {d:ac D} (r:Reps (Γ.mk1 x) K G v d):Reps Γ K G v d:=Reps.re (Γ:=Γ.mk1 x) (Γ':=Γ) rfl r
theorem CF.re (h:CF Γ K c attrs) (x:av):CF (Γ.mk1 x) K c attrs:=⟨h.ex⟩
theorem Mg {Q:VK} {E:XK} (x:av) (h:spF (Γ.mk1 x) K n F vs H Q E):spF Γ K n F vs H Q E:=by obtain⟨G,ds,d,h1,h2,h3,h4,k⟩:=h;exact⟨G,ds,d,h1,h2.of1,h3,h4,fun v G' H' s r=>k v G' H' s (r.to1 x)⟩
theorem Cal.re {y:ah} {k:al} (C:Cal Γ P w K mg base y n k F) (x:av):Cal (Γ.mk1 x) P w K mg base y n k F:=by obtain⟨f,fd,ps,h1,h2,h3,h4⟩:=C.ex;exact⟨f,fd,ps,h1.imp fun vs H Q E q=>Mg x q,h2,h3,h4⟩
structure CalM (Γ:Cn) (P:bU) (w:cQ) (K:bh) (mg:ah->ar Value) (base:Heap) (c m:ah) (n k:al) (F:ac D->ar D):Prop where
 ex:∃C f fd ps,Γ.cls c=aa C/\Cls K C/\Meth K C m f/\FnOk P w K mg base CX0 k f fd ps (spF Γ K n F)/\gT K fd ps []
inductive spI (Γ:Cn) (K:bh) (C:av) (n:al) (F:ac D->ar D) (vs:ac V) (H:Hp) (Q:VK) (_e3:XK):Prop where
 |mk:∀x dx H1 G ds d us,vs=.ref x::us->H=upd (upd H1 dx (.own x)) x (.ins C dx [])->H1 x=ab->H1 dx=ab->dx≠x->bK G H1->Reps Γ K G us ds->ds.length=n->F ds=aa d->(∀G' H',Step G H1 G' H'->Rep Γ K G' (.ref x) d->Q .non H')->spI Γ K C n F vs H Q _e3
structure CalI (Γ:Cn) (P:bU) (w:cQ) (K:bh) (mg:ah->ar Value) (base:Heap) (c:ah) (n k:al) (F:ac D->ar D):Prop where
 ex:∃C f fd ps,Γ.cls c=aa C/\Mk K C f/\mg c=aa (.ref C)/\FnOk P w K mg base CX0 k f fd ps (spI Γ K C n F)/\gT K fd ps []
end
section
variable {c m:ah}
noncomputable def c7 (c m:ah) (F:ac D->ar D) (fo:FE) (fr:FA):FE:=fun ρ=>(fo ρ).bind fun d=>match d with
 |.ins c' fs=>if c'=c/\fs.lookup m=ab then (fr ρ).bind fun ds=>F (d::ds) else ab
 |_=>ab
theorem nR {k:al} (C:CalM Γ X.prog X.w X.K X.mg X.base c m (n+1) k F) (hr:Room j X.A) (hk:k<=j) (ho:DE Γ X o fo) (ha:DA Γ X (e::es) fr) (hn:∀ρ ds,fr ρ=aa ds->ds.length=n)
  (hst:a7 (e::es) X.env=(ao,eval e X.env)::a7 es X.env:=by rfl) (hpl:(cE pos (a7 es X.env)).any (·.1)=ao:=by rfl)
  (ht:eval (.Call (.Attribute o m apos) (e::es) [] pos) X.env=(do
   let ov ←eval o X.env
   oB apos.atName
   let (f,first) ←jG [ov] (oF ov m pl)
   rq pos f first (cE pos (a7 (e::es) X.env)) (iO pos (iP [] X.env))):=by rfl) :
  DE Γ X (.Call (.Attribute o m apos) (e::es) [] pos) (c7 c m F fo fr):=⟨by
 obtain⟨Ca,f,fd,ps,h0,h1,h2,h3,h4⟩:=C.ex;refine(Ny ho.1 h1 h2 h3 (hr.mono hk) h4 .nil sI ha.1 hst hpl ht).imp fun σ H Q=>?_;rintro⟨G₀,H₀,G,ρ,d,A,h,k⟩;unfold c7 at h;obtain⟨x,hx,hq⟩:=oBd h;clear h;refine⟨G₀,H₀,G,ρ,x,A,hx,fun v G1 H1 s1 r1=>?_⟩;split at hq
 .rename_i c' fs;split at hq
  .rename_i hz;obtain⟨rfl,hz2⟩:=hz;obtain⟨ds,hds,hF⟩:=oBd hq;have r1':=r1;cases r1 with
   |ins g1 g2 g3 g4=>
    rw[h0] at g2;cases g2;rename_i _ _ us0;have hl:dw m us0=ab:=by
     rcases kh (k:=m) g3 g4 with⟨_,z2⟩|⟨d',v',z1,_,_⟩
     .exact z2
     .rw[z1] at hz2;cases hz2
    refine⟨_,_,_,rfl,s1.gh _ _ g1,hl,G₀,H₀,G1,ρ,ds,A.step s1,hds,fun vs G2 H2 s2 r2=>?_⟩;show spF Γ X.K (n+1) F (_::(vs++[])) H2 Q E0;rw[m5];exact⟨G2,_,d,s2.gh,.cons (r1'.mono s2.gg) r2,by rw[qi,hn ρ ds hds],hF,fun v G' H' s r=>k v G' H' ((s1.trans s2).trans s) r⟩
  .cases hq
 .cases hq⟩
theorem iW {k:al} (C:CalM Γ X.prog X.w X.K X.mg X.base c m 1 k F) (hr:Room j X.A) (hk:k<=j) (ho:DE Γ X o fo)
  (ht:eval (.Call (.Attribute o m apos) [] [] pos) X.env=(do
   let ov ←eval o X.env
   oB apos.atName
   let (f,first) ←jG [ov] (oF ov m pl)
   rq pos f first (cE pos (a7 [] X.env)) (iO pos (iP [] X.env))):=by rfl) :
  DE Γ X (.Call (.Attribute o m apos) [] [] pos) (c7 c m F fo ak):=⟨by
 obtain⟨Ca,f,fd,ps,h0,h1,h2,h3,h4⟩:=C.ex;refine(LN ho.1 h1 h2 h3 (hr.mono hk) h4 .nil sI ht).imp fun σ H Q=>?_;rintro⟨G₀,H₀,G,ρ,d,A,h,k⟩;unfold c7 at h;obtain⟨x,hx,hq⟩:=oBd h;clear h;refine⟨G₀,H₀,G,ρ,x,A,hx,fun v G1 H1 s1 r1=>?_⟩;split at hq
 .rename_i c' fs;split at hq
  .rename_i hz;obtain⟨rfl,hz2⟩:=hz;obtain⟨ds,hds,hF⟩:=oBd hq;cases hds;have r1':=r1;cases r1 with
   |ins g1 g2 g3 g4=>
    rw[h0] at g2;cases g2;rename_i _ _ us0;have hl:dw m us0=ab:=by
     rcases kh (k:=m) g3 g4 with⟨_,z2⟩|⟨d',v',z1,_,_⟩
     .exact z2
     .rw[z1] at hz2;cases hz2
    refine⟨_,_,_,rfl,s1.gh _ _ g1,hl,?_⟩;exact⟨G1,_,d,s1.gh,.cons r1' .nil,rfl,hF,fun v G' H' s r=>k v G' H' (s1.trans s) r⟩
  .cases hq
 .cases hq⟩
theorem Kq {k:al} (C:CalI Γ X.prog X.w X.K X.mg X.base c n k F) (hr:Room j X.A) (hk:k+1<=j) (hg:Gl X c) (ha:DA Γ X (e::es) fr) (hn:∀ρ ds,fr ρ=aa ds->ds.length=n)
  (hdb:(c==("__debug__":ah))=ao:=by decide) (he:a7 (e::es) X.env=(ao,eval e X.env)::a7 es X.env:=by rfl) (hpl:(cE pos (a7 es X.env)).any (·.1)=ao:=by rfl) :
  DE Γ X (.Call (.Name c p) (e::es) [] pos) (cF F fr):=⟨by
 obtain⟨Ca,f,fd,ps,h0,h1,h2,h3,h4⟩:=C.ex;refine(LI h1 h3 (hr.mono hk) hg h2 h4 .nil sI ha.1 hdb he hpl).imp fun σ H Q=>?_;rintro⟨G₀,H₀,G,ρ,d,A,h,k⟩;unfold cF at h;obtain⟨ds,hd,hq⟩:=oBd h;refine⟨G₀,H₀,G,ρ,ds,A,hd,fun vs G1 H1 s1 r1 x dx hx hdx hne=>?_⟩;rw[m5];exact⟨x,dx,H1,G1,ds,d,vs,rfl,rfl,hx,hdx,hne,s1.gh,r1,hn ρ ds hd,hq,fun G' H' s r=>⟨rfl,k _ G' H' (s1.trans s) r⟩⟩⟩
end
noncomputable def nJ (n:al) (c:ah) (g:FS):ac D->ar D:=fun ds=>(g (aa (.obj c [])::ds.map (fun d=>aa (Slot.sh d))++b9 n ab)).bind fun r=>match r.1 with
 |.nx=>match r.2[0]? with
  |some (aa s)=>zF s
  |_=>ab
 |_=>ab
variable {s0:ah}
section
variable {P:bU} {c:ah}
theorem Fun.okI {f:av} {k:al} (F:Fun K x qual st f fd) (S:FnScope N (s0::ps) (aU st)) (hC:Γ.cls c=aa C)
  (hbody:∀(y:av) (cdv:Value) (A:eF) (outer:ac dc) (s:aG) (H:Hp) (E:XK),Room k (A.deeper (fy qual (aU st) s.heap.objs.size f cdv))->
   DSs (Γ.mk1 y) (hU CX0 P w K mg base N qual (aU st) f cdv A outer s H E).nox (eO st) g):FnOk P w K mg base CX0 (k+1) f fd (s0::ps) (spI Γ K C ps.length (nJ (N.length-(ps.length+1)) c g)):=by
 refine F.ok S (fun vs H Q E h=>?_) (fun cdv A outer s H vs Q E hr h=>?_)
 .obtain⟨y,dx,H1,G,ds,d,us,rfl,_,_,_,_,_,r,hl,_⟩:=h;rw[qi,r.length,hl,qi]
 .obtain⟨y,dx,H1,G,ds,d,us,rfl,rfl,hx,hdx,hne,gh,r,hl,hd,k⟩:=h;refine⟨_,(hbody y cdv A outer s _ E hr).1,?_⟩;unfold nJ at hd;obtain⟨⟨fl,ρ'⟩,hg,hd⟩:=oBd hd;have s1:=Step.newOwn (o:=.own y) gh hdx;have hx1:(upd H1 dx (.own y)) y=ab:=by rw[a6 (df hne)];exact hx
  have s2:=s1.trans (Step.newOwn (o:=.ins C dx []) s1.gh hx1);have hlen:us.length=ds.length:=r.length;have A0:At (Γ.mk1 y) K G H1 G (upd (upd H1 dx (.own y)) y (.ins C dx [])) (aa (.obj c [])::ds.map (fun d=>aa (Slot.sh d))++b9 (N.length-(ps.length+1)) ab) (gq N (.ref y::us)):=by
   refine⟨s2,by simp[gq,hlen,hl],fun i=>if i=0 then [y] else [],fun i t e=>?_,fun i j t u hij e1 e2 b hb=>?_⟩
   .cases i with
    |zero=>
     cases e;exact⟨.ref y,rfl,.obj (vs:=[]) (fs:=[]) hC hx (gh.free hx) cc rfl .nil rfl⟩
    |succ i=>
     have e:(ds.map (fun d=>aa (Slot.sh d))++b9 (N.length-(ps.length+1)) ab)[i]?=aa (aa t):=e;by_cases hi:i<ds.length
     .rw[qx (by simpa using hi),qk] at e;obtain⟨d',hd',e⟩:=oMd e;cases e;obtain⟨v,hv,rv⟩:=r.get hd';refine⟨v,?_,.sh (rv.to1 y)⟩;unfold gq;show((us.map aa)++_)[i]?=aa (aa v);rw[qx (by rw[qf,hlen];exact hi),qk,hv];rfl
     .rw[qI (by simpa using hi),yp] at e;split at e<;>cases e
   .have hb:b∈(if i=0 then [y] else []):=hb;show b∉(if j=0 then [y] else []);by_cases hi:i=0
    .subst hi;rw[qX (df hij)];exact fun z=>by cases z
    .rw[qX hi] at hb;cases hb
  refine⟨G,H1,G,_,fl,ρ',A0,hg,fun σ' G' H' sm A'=>?_⟩;cases fl with
  |nx=>
   simp only at hd;split at hd
   .rename_i sl hs;obtain⟨a,G2,e1,st2,rp⟩:=A'.done hs hd;cases e1;exact k G2 H' st2 rp.of1
   .cases hd
  |rt d'=>cases hd
  |ow d'=>cases hd
  |nw d'=>cases hd
  |od d'=>cases hd
  |bk=>cases hd
  |ct=>cases hd
structure DfnM (K:bh) (C:av) (c m qual:ah) (st:Stmt):Prop where
 ex:∃f fd,Fun K m qual st f fd/\dD K (.ref C) m=aa (aa (.ref f))/\uH K (.ref f)=ai
structure ClsOk (Γ:Cn) (K:bh) (mg:ah->ar Value) (c:ah) (C:av):Prop where
 cn:Γ.cls c=aa C
 cl:Cls K C
 mgC:mg c=aa (.ref C)
 makes:yi K C=ai
 kp:iN K (.ref C)=ai
theorem DfnM.cal {m:ah} {k:al} (O:ClsOk Γ K mg c C) (F:DfnM K C c m qual st) (S:FnScope N ps (aU st))
  (hb:∀(kV doc pm:Value) (an:ar av) (cdv ct:Value) (us:ac Value),us.length=ps.length->lN (gY m qual (ig st) (eO st) (aU st) .none kV doc pm an cdv ct) ⟨us,[]⟩=bA (ps.zip us))
  (hbody:∀(f:av) (cdv:Value) (A:eF) (outer:ac dc) (s:aG) (H:Hp) (E:XK),Room k (A.deeper (fy qual (aU st) s.heap.objs.size f cdv))->
   DSs Γ (hU CX0 P w K mg base N qual (aU st) f cdv A outer s H E).nox (eO st) g):CalM Γ P w K mg base c m ps.length (k+1) (aY (N.length-ps.length) g):=by
 obtain⟨f,fd,h1,h2,h3⟩:=F.ex;exact⟨C,f,fd,ps,O.cn,O.cl,⟨h2,h3,h1.kp⟩,h1.okD S (hbody f),h1.binds hb⟩
theorem DfnM.calI {k:al} (O:ClsOk Γ K mg c C) (F:DfnM K C c "__init__" qual st) (S:FnScope N (s0::ps) (aU st))
  (hb:∀(kV doc pm:Value) (an:ar av) (cdv ct:Value) (us:ac Value),us.length=(s0::ps).length->lN (gY "__init__" qual (ig st) (eO st) (aU st) .none kV doc pm an cdv ct) ⟨us,[]⟩=bA ((s0::ps).zip us))
  (hbody:∀(f y:av) (cdv:Value) (A:eF) (outer:ac dc) (s:aG) (H:Hp) (E:XK),Room k (A.deeper (fy qual (aU st) s.heap.objs.size f cdv))->
   DSs (Γ.mk1 y) (hU CX0 P w K mg base N qual (aU st) f cdv A outer s H E).nox (eO st) g):CalI Γ P w K mg base c ps.length (k+1) (nJ (N.length-(ps.length+1)) c g):=by
 obtain⟨f,fd,h1,h2,h3⟩:=F.ex;exact⟨C,f,fd,s0::ps,O.cn,⟨O.makes,h2,h3,O.kp⟩,O.mgC,h1.okI S O.cn (hbody f),h1.binds hb⟩
theorem ClsOk.cf (O:ClsOk Γ K mg c C) (h:∀f∈attrs,kO K C f):CF Γ K c attrs:=⟨C,O.cn,O.cl,h⟩
end
variable {M n0 ep:al} {h:ag} {owner:bP (ar al)} {hs:ac ag} {I S:av} {wr:ac av} {hashAt:al->ag} {h0:Heap} {es':bP (ag×Value)}
namespace ST
structure Pr where
 j:al
 more:al
 i:al
 pt:al
noncomputable def adv (M:al) (p:Pr):Pr:=if p.more > 0 then {p with j:=p.j+1,more:=p.more-1} else
 {j:=(iU M p.i p.pt).1,more:=dh M (iU M p.i p.pt).1-(iU M p.i p.pt).1,i:=(iU M p.i p.pt).1,pt:=(iU M p.i p.pt).2}
noncomputable def st0 (M:al) (h:ag):Pr:={j:=fJ h%(M+1),more:=dh M (fJ h%(M+1))-fJ h%(M+1),i:=fJ h%(M+1),pt:=fJ h}
noncomputable def it (M:al) (h:ag):al->Pr
 |0=>st0 M h
 |n+1=>adv M (it M h n)
noncomputable def J (M:al) (h:ag) (n:al):al:=(it M h n).j
noncomputable def lp (M:al) (h:ag):al->al×al
 |0=>(fJ h%(M+1),fJ h)
 |r+1=>iU M .(T).1 .(T).2
noncomputable def lW (M:al) (x:al×al):Pr:={j:=x.1,more:=dh M x.1-x.1,i:=x.1,pt:=x.2}
theorem sG (M:al) (h:ag) (n:al):∀k,it M h (n+k)=(Nat.repeat (adv M) k (it M h n))
 |0=>rfl
 |k+1=>by rw[←ED,it,sG M h n k];rfl
theorem Fn (M i:al):dh M i-i<=9:=by unfold dh;split<;>omega
theorem tJ (M:al):∀(k:al) (p:Pr),k<=p.more->Nat.repeat (adv M) k p={p with j:=p.j+k,more:=p.more-k}
 |0,p,_=>rfl
 |k+1,p,h=>by rw[Nat.repeat,tJ M k p .(e)];unfold adv;rw[qW (by show p.more-k > 0;omega)];simp only[Nat.sub_sub,ED]
theorem DD (M:al) (h:ag):∀r,∃n,n<=10*r/\it M h n=lW M .(T)
 |0=>⟨0,qv _,rfl⟩
 |r+1=>by obtain⟨n,hn,e⟩:=DD M h r;have hl:=Fn M .(T).1;refine⟨n+(dh M .(T).1-.(T).1)+1,by omega,?_⟩;have e2:=tJ M (dh M .(T).1-.(T).1) (lW M .(T)) (qv _);rw[it,sG,e,e2];unfold adv;rw[qX (by show ¬((dh M .(T).1-.(T).1)-(dh M .(T).1-.(T).1) > 0);omega)];rfl
theorem L6 (h:ag):fJ h<2 ^ 64:=by unfold fJ;have h1:=qV h (show(2 ^ 64:ag)≠0 by decide);have h2:=qS h (show(0:ag)<2 ^ 64 by decide);omega
theorem AH (M:al) (h:ag):∀r,.(T).2=fJ h / 32 ^ r
 |0=>by simp[lp]
 |r+1=>by show.(T).2 / 32=_;rw[AH M h r,Nat.div_div_eq_div_mul,Nat.pow_succ]
theorem IJ (M:al) (h:ag) {r:al} (hr:13<=r):.(T).2=0:=by rw[AH];refine Nat.div_eq_of_lt (qD (L6 h) ?_);exact qK (show 2 ^ 64<=32 ^ 13 by decide) (Nat.pow_le_pow_right .(h) hr)
noncomputable def fl (M i:al):al:=(i*5+1)%(M+1)
noncomputable def orb (M:al):al->al->al
 |0,i=>i
 |m+1,i=>fl M (orb M m i)
theorem vy (M:al) (h:ag):∀m,(lp M h (13+m)).1=orb M m (lp M h 13).1
 |0=>rfl
 |m+1=>by show(iU M (lp M h (13+m)).1 (lp M h (13+m)).2).1=_;rw[IJ M h .(e),vy M h m];simp[iU,orb,fl]
theorem sY (M i:al) (a:al):∀b,orb M (a+b) i=orb M b (orb M a i)
 |0=>rfl
 |b+1=>by rw[←ED,orb,sY M i a b];rfl
noncomputable def xG (M:al):al->al->ac al
 |0,_=>[]
 |n+1,i=>i::xG M n (fl M i)
theorem AX (M:al):∀m i,orb M (m+1) i=orb M m (fl M i)
 |0,_=>rfl
 |m+1,i=>by rw[orb,AX M m i];rfl
theorem B6 (M:al):∀(n i j:al),j∈xG M n i->∃m,m<n/\orb M m i=j
 |0,_,_,h=>nomatch h
 |n+1,i,j,h=>by
  rcases cA.mp h with e|h
  .exact⟨0,uS _,e.symm⟩
  .obtain⟨m,hm,e⟩:=B6 M n (fl M i) j h;exact⟨m+1,by omega,by rw[AX];exact e⟩
structure Full (M:al):Prop where
 all:∀j,j<=M->∃m,m<M+1/\orb M m 0=j
 back:orb M (M+1) 0=0
noncomputable def chk (M:al):aN:=(cG (M+1)).all (fun j=>(xG M (M+1) 0).contains j) && orb M (M+1) 0==0
theorem tm (h:chk M=ai):Full M:=by unfold chk at h;rw[cS,rQ] at h;refine⟨fun j hj=>?_,by simpa using h.2⟩;have:=h.1 j (dX.mpr .(e));exact B6 M (M+1) 0 j (by simpa using this)
theorem xY:Full 7:=tm .(p)
theorem JJ:Full 31:=tm .(p)
theorem JG:Full 127:=tm .(p)
theorem OY:Full 511:=tm .(p)
theorem Full.reach (F:Full M) (hi:i<=M) (hj:j<=M):∃m,m<=M/\orb M m i=j:=by
 obtain⟨a,ha,ea⟩:=F.all i hi;obtain⟨b,hb,eb⟩:=F.all j hj;by_cases h:a<=b
 .refine⟨b-a,by omega,?_⟩;rw[←ea,←sY,show a+(b-a)=b by omega,eb]
 .refine⟨M+1-a+b,by omega,?_⟩;rw[←ea,←sY,show a+(M+1-a+b)=(M+1)+b by omega,sY,F.back,eb]
theorem vB (M:al) (h:ag):∀r,.(T).1<=M
 |0=>EE.mp (yN _ (uS _))
 |r+1=>EE.mp (yN _ (uS _))
theorem Full.covers (F:Full M) (h:ag) (hj:j<=M):∃n,n<10*(M+15)/\J M h n=j:=by obtain⟨m,hm,e⟩:=F.reach (vB M h 13) hj;obtain⟨n,hn,en⟩:=DD M h (13+m);refine⟨n,by omega,?_⟩;unfold J;rw[en];show(lp M h (13+m)).1=j;rw[vy,e]
theorem zZ (M:al) (h:ag):∀n,(it M h n).j+(it M h n).more<=M
 |0=>by
  have:=vB M h 0;show(lp M h 0).1+(dh M (lp M h 0).1-(lp M h 0).1)<=M;unfold dh;split<;>omega
 |n+1=>by
  have ih:=zZ M h n;rw[it];unfold adv;split
  .show(it M h n).j+1+((it M h n).more-1)<=M;omega
  .show(iU M (it M h n).i (it M h n).pt).1+(dh M (iU M (it M h n).i (it M h n).pt).1-(iU M (it M h n).i (it M h n).pt).1)<=M;have:(iU M (it M h n).i (it M h n).pt).1<=M:=EE.mp (yN _ (uS _));unfold dh;split<;>omega
theorem wN (M:al) (h:ag) (n:al):J M h n<=M:=qK (EF _ _) (zZ M h n)
theorem Full.first (F:Full M) (h:ag) (occ:al->aN) (hf:∃j,j<=M/\occ j=ao):∃n,n<10*(M+15)/\occ (J M h n)=ao/\∀m,m<n->occ (J M h m)=ai:=by
 obtain⟨j,hj,hof⟩:=hf;obtain⟨n,hn,e⟩:=F.covers h hj;have key:∀n,n<10*(M+15)->occ (J M h n)=ao->∃n,n<10*(M+15)/\occ (J M h n)=ao/\∀m,m<n->occ (J M h m)=ai:=by
  intro n
  induction n using Nat.strongRecOn with
  |ind n ih=>
   intro hn ho;by_cases hx:∃m,m<n/\occ (J M h m)=ao
   .obtain⟨m,hm,hm2⟩:=hx;exact ih m hm .(e) hm2
   .refine⟨n,hn,ho,fun m hm=>?_⟩;cases q:occ (J M h m) with
    |true=>rfl
    |false=>exact bz ⟨m,hm,q⟩ hx
 exact key n hn (by rw[e];exact hof)
theorem vS (xs:bP al) (j:al) (hs:xs.toList.Pairwise (· < ·)):∀(fuel lo hi:al),hi-lo<=fuel->lo<=hi->hi<=xs.size->(∀i,i<lo->∀v,xs[i]?=aa v->v<j)->(∀i,hi<=i->∀v,xs[i]?=aa v->j<=v)->
  (yO xs j fuel lo hi<=xs.size)/\(∀i,i<yO xs j fuel lo hi->∀v,xs[i]?=aa v->v<j)/\∀i,yO xs j fuel lo hi<=i->∀v,xs[i]?=aa v->j<=v
 |0,lo,hi,hf,hl,hh,h1,h2=>by
  have e:lo=hi:=by omega
  subst e;exact⟨hh,h1,h2⟩
 |fuel+1,lo,hi,hf,hl,hh,h1,h2=>by
  have mono:∀a b va vb,a<b->xs[a]?=aa va->xs[b]?=aa vb->va<vb:=fun a b va vb hab ha hb=>by have:=yP.mp hs a b;obtain⟨a1,a2⟩:=gF.mp ha;obtain⟨b1,b2⟩:=gF.mp hb;have q:=this (by simpa using a1) (by simpa using b1) hab;simpa[a2,b2] using q
  unfold yO;by_cases hlt:lo<hi
  .rw[qW hlt];have hm1:lo<=(lo+hi) / 2:=by omega
   have hm2:(lo+hi) / 2<hi:=by omega
   have hget:∃v,xs[(lo+hi) / 2]?=aa v:=⟨xs[(lo+hi) / 2]'.(e),by simp[show(lo+hi) / 2<xs.size by omega]⟩;obtain⟨v,hv⟩:=hget;have hd:xs.getD ((lo+hi) / 2) j=v:=by simp[yQ,hv]
   dsimp only;rw[hd];by_cases hvj:v<j
   .rw[qW hvj];refine vS xs j hs fuel _ _ .(e) .(e) hh (fun i hi' w hw=>?_) h2;rcases io i ((lo+hi) / 2) with hi2|hi2
    .exact rJ (mono i _ w v hi2 hw hv) hvj
    .have e:i=(lo+hi) / 2:=by omega
     subst e;rw[hv] at hw;cases hw;exact hvj
   .rw[qX hvj];refine vS xs j hs fuel _ _ .(e) .(e) .(e) h1 fun i hi' w hw=>?_;rcases io ((lo+hi) / 2) i with hi2|hi2
    .exact qK .(e) (rm (mono _ i v w hi2 hv hw))
    .have e:i=(lo+hi) / 2:=by omega
     subst e;rw[hv] at hw;cases hw;omega
  .rw[qX hlt];have e:lo=hi:=by omega
   subst e;exact⟨hh,h1,h2⟩
theorem og (xs:bP al) (j:al) (hs:xs.toList.Pairwise (· < ·)):bZ xs j<=xs.size/\(∀i,i<bZ xs j->∀v,xs[i]?=aa v->v<j)/\∀i,bZ xs j<=i->∀v,xs[i]?=aa v->j<=v:=
 vS xs j hs xs.size 0 xs.size (qv _) (gV _) (qv _) (fun i h=>bz h (EG _)) fun i h v hv=>by have:=(gF.mp hv).1;omega
theorem xI (xs:bP al) (j i:al) (hs:xs.toList.Pairwise (· < ·)) (h:xs[i]?=aa j):bZ xs j=i:=by
 obtain⟨h0,h1,h2⟩:=og xs j hs;rcases EH (bZ xs j) i with hl|hl|hl
 .have hi:=(gF.mp h).1;have hg:xs[bZ xs j]?=aa (xs[bZ xs j]'.(e)):=by simp[show bZ xs j<xs.size by omega]
  have q1:=h2 _ (qv _) _ hg;have:=yP.mp hs (bZ xs j) i (by simp;omega) (by simpa using hi) hl;obtain⟨_,e⟩:=gF.mp h;simp only[Qn] at this;omega
 .exact hl
 .have:=h1 i hl j h;omega
structure Tb (t:gZ) (es:bP (ag×Value)):Prop where
 full:Full t.mask
 sz:t.place.size=es.size
 dm:t.dummies=#[]
 ri:t.place.toList.Pairwise (· < ·)
 le:∀j∈t.place.toList,j<=t.mask
 few:es.size*5<t.mask*3
 rc:∀(i j:al) (h:ag) (x:Value),t.place[i]?=aa j->es[i]?=aa (h,x)->∃n,J t.mask h n=j/\∀m,m<n->J t.mask h m∈t.place.toList
section
variable {t:gZ} {es:bP (ag×Value)}
theorem Tb.live (T:Tb t es) (h:t.place[i]?=aa j):t.slot j=.live i:=by unfold Qo;rw[xI _ _ _ T.ri h];simp[h]
theorem Tb.empty (T:Tb t es) (h:j∉t.place.toList):t.slot j=.empty:=by
 unfold Qo;have h1:t.place[bZ t.place j]?≠aa j:=fun e=>h (by rw[←qG] at e;exact qN e)
 have h2:yR t.dummies j=ao:=by rw[T.dm];rfl
 simp[h1,h2]
theorem Tb.occ (T:Tb t es) (h:j∈t.place.toList):∃i:al,t.place[i]?=aa j:=by obtain⟨i,hi⟩:=uQ.mp h;exact⟨i,by rw[←qG];exact hi⟩
theorem Tb.fits (T:Tb t es):t.fits es.size=ai:=by have h1:=T.sz;have h2:=T.few;simp only[oO,EI,T.dm,Array.size_empty,cS,kF,dF];omega
theorem rg:∀(a b:ac al),a.Nodup->(∀x∈a,x∈b)->a.length<=b.length
 |[],_,_,_=>gV _
 |x::r,b,nd,h=>by have hx:=h x qg;have nd':=il.mp nd;have:=rg r (b.erase x) nd'.2 fun y hy=>(List.mem_erase_of_ne (show y≠x from fun e=>nd'.1 (by rw[←e];exact hy))).mpr (h y (qh _ hy));have hl:=List.length_erase_of_mem hx;have hp:0<b.length:=List.length_pos_of_mem hx;rw[qi];omega
theorem Tb.free (T:Tb t es):∃j,j<=t.mask/\decide (j∈t.place.toList)=ao:=by
 by_cases hx:∃j,j<=t.mask/\j∉t.place.toList
 .obtain⟨j,h1,h2⟩:=hx;exact⟨j,h1,qL h2⟩
 .exfalso;have all:∀j,j<=t.mask->j∈t.place.toList:=fun j hj=>Classical.byContradiction fun hn=>hx ⟨j,hj,hn⟩;have h1:=rg (cG (t.mask+1)) t.place.toList yS fun j hj=>all j (by have:=dX.mp hj;omega);have h2:=T.sz;have h3:=T.few;simp only[qR,fV] at h1;omega
theorem Tb.first (T:Tb t es) (h:ag):∃n,n<10*(t.mask+15)/\J t.mask h n∉t.place.toList/\∀m,m<n->J t.mask h m∈t.place.toList:=by obtain⟨n,h1,h2,h3⟩:=T.full.first h (fun j=>decide (j∈t.place.toList)) T.free;exact⟨n,h1,rT h2,fun m hm=>eU (h3 m hm)⟩
noncomputable def gn (p:Pr):yT:={j:=p.j,more:=p.more,i:=p.i,perturb:=p.pt,dummy:=ab}
theorem Ii (t:gZ) (h:ag):t.probeStart h=gn (it t.mask h 0):=rfl
theorem Bh (t:gZ) (p:Pr):t.advance (gn p)=gn (adv t.mask p):=by
 unfold SetTable.advance adv gn;by_cases h:p.more > 0
 .simp only[h,cu]
 .simp only[h,c6]
theorem Tb.probe_go (T:Tb t es) (hashAt:al->ag) (h:ag) {n0:al} (hf:J t.mask h n0∉t.place.toList) (ho:∀m,m<n0->J t.mask h m∈t.place.toList):∀(fuel n:al),n<=n0->n0<n+fuel->
  (∃n' i,n<=n'/\n'<n0/\t.place[i]?=aa (J t.mask h n')/\hashAt i=h/\(∀m i,n<=m->m<n'->t.place[i]?=aa (J t.mask h m)->hashAt i≠h)/\EJ t hashAt h fuel (gn (it t.mask h n))=aa (.candidate (J t.mask h n') i (gn (it t.mask h (n'+1))))) \/
  ((∀m i,n<=m->m<n0->t.place[i]?=aa (J t.mask h m)->hashAt i≠h)/\EJ t hashAt h fuel (gn (it t.mask h n))=aa (.empty (J t.mask h n0) ab))
 |0,n,h1,h2=>by omega
 |fuel+1,n,h1,h2=>by
  unfold EJ;by_cases hn:n=n0
  .subst hn
   right
   refine⟨fun m i a b=>by omega,?_⟩;have hs:t.slot (gn (it t.mask h n)).j=.empty:=T.empty hf;rw[hs];rfl
  .obtain⟨i,hi⟩:=T.occ (ho n .(e));have hs:t.slot (gn (it t.mask h n)).j=.live i:=T.live hi;rw[hs];dsimp only;by_cases hh:hashAt i=h
   .left
    refine⟨n,i,qv _,by omega,hi,hh,fun m i a b=>by omega,?_⟩;rw[qW (by simpa using hh),Bh];rfl
   .rw[qX (by simpa using hh),Bh];have inj:∀i',t.place[i']?=aa (J t.mask h n)->i'=i:=fun i' h'=>by rw[←xI _ _ _ T.ri h',←xI _ _ _ T.ri hi]
    have ext:∀{b:al},(∀m i,n+1<=m->m<b->t.place[i]?=aa (J t.mask h m)->hashAt i≠h)->∀m i,n<=m->m<b->t.place[i]?=aa (J t.mask h m)->hashAt i≠h:=fun {b} q m i' a c d=>by
     by_cases e:m=n
     .subst e;rw[inj i' d];exact hh
     .exact q m i' .(e) c d
    rcases T.probe_go hashAt h hf ho fuel (n+1) .(e) .(e) with⟨n',i',a,b,c,d,e,f⟩|⟨e,f⟩
    .exact .inl ⟨n',i',by omega,b,c,d,ext e,f⟩
    .exact .inr ⟨ext e,f⟩
theorem kQ (xs:bP α) (p:al) (x:α) (hp:p<=xs.size):(ck xs p x).toList=xs.toList.take p++x::xs.toList.drop p:=by unfold ck;simp[Array.toList_extract,List.extract_eq_take_drop];exact rP (by simp)
theorem CA (l:ac α) (p:al) (x:α) (hp:p<=l.length) (i:al):(l.take p++x::l.drop p)[i]?=if i<p then l[i]? else if i=p then aa x else l[i-1]?:=by
 by_cases h1:i<p
 .rw[qW h1,qx (by rw[qC];omega),oG h1]
 .rw[qX h1,qI (by rw[qC];omega),qC,Qp hp];by_cases h2:i=p
  .rw[qW h2,h2];simp
  .rw[qX h2];obtain⟨k,hk⟩:∃k,i-p=k+1:=⟨i-p-1,by omega⟩;rw[hk,qd,Qq]
   congr 1
   omega
theorem x6 (l:ac α) (p:al) (x y:α):y∈l.take p++x::l.drop p↔y=x\/y∈l:=by
 rw[cR,qJ];constructor
 .rintro(h|h|h)
  .exact .inr (nh h)
  .exact .inl h
  .exact .inr (List.mem_of_mem_drop h)
 .rintro(h|h)
  .exact .inr (.inl h)
  .have:y∈l.take p++l.drop p:=by rw[rU];exact h
   rcases cR.mp this with h|h
   .exact .inl h
   .exact .inr (.inr h)
theorem Tb.put (T:Tb t es) {x:Value} (hf:J t.mask h n0∉t.place.toList) (ho:∀m,m<n0->J t.mask h m∈t.place.toList) (few:(es.size+1)*5<t.mask*3) (pl:aN) :
  Tb { (t.put (J t.mask h n0)).1 with plain:=pl} (ck es (t.put (J t.mask h n0)).2 (h,x)):=by
 obtain⟨b0,b1,b2⟩:=og t.place (J t.mask h n0) T.ri;have bes:bZ t.place (J t.mask h n0)<=es.size:=by rw[←T.sz];exact b0
 have pl1:(ck t.place .(K) (J t.mask h n0)).toList=t.place.toList.take .(K)++J t.mask h n0::t.place.toList.drop .(K):=kQ _ _ _ b0;have el1:(ck es .(K) (h,x)).toList=es.toList.take .(K)++(h,x)::es.toList.drop .(K):=kQ _ _ _ bes;have szp:(ck t.place .(K) (J t.mask h n0)).size=t.place.size+1:=by rw[←fV,pl1];simp;omega
 have sze:(ck es .(K) (h,x)).size=es.size+1:=by rw[←fV,el1];simp;omega
 refine⟨T.full,?_,?_,?_,?_,?_,?_⟩
 .show(ck t.place _ _).size=_;rw[szp];show _=(ck es .(K) (h,x)).size;rw[sze,T.sz]
 .show(if yR t.dummies (J t.mask h n0)=ai then _ else t.dummies)=#[];rw[T.dm];rfl
 .show(ck t.place .(K) (J t.mask h n0)).toList.Pairwise (· < ·);rw[pl1,List.pairwise_append,Qr];have tk:∀a∈t.place.toList.take .(K),a<J t.mask h n0:=fun a ha=>by
   obtain⟨i,hi⟩:=uQ.mp ha;have hi':i<bZ t.place (J t.mask h n0):=by have:=(cY.mp hi).1;rw[qC] at this;omega
   rw[oG hi',qG] at hi;exact b1 i hi' a hi
  have dr:∀a∈t.place.toList.drop .(K),J t.mask h n0<a:=fun a ha=>by
   obtain⟨i,hi⟩:=uQ.mp ha;rw[Qq,qG] at hi;have h1:=b2 _ (EF _ i) a hi;rcases io (J t.mask h n0) a with q|q
   .exact q
   .exact bz (by rw[←qG] at hi;have e:a=J t.mask h n0:=.(e);rw[e] at hi;exact qN hi) hf
  refine⟨T.ri.sublist (Ef _ _),⟨dr,T.ri.sublist (List.drop_sublist _ _)⟩,fun a ha b hb=>?_⟩;rcases cA.mp hb with e|hb
  .rw[e];exact tk a ha
  .exact rJ (tk a ha) (dr b hb)
 .intro j hj;have hj':j∈(ck t.place .(K) (J t.mask h n0)).toList:=hj;rw[pl1,x6] at hj';rcases hj' with e|hj'
  .rw[e];exact wN _ _ _
  .exact T.le j hj'
 .show(ck es .(K) (h,x)).size*5<t.mask*3;rw[sze];exact few
 .intro i j h' x' e1 e2;have e1':(ck t.place .(K) (J t.mask h n0)).toList[i]?=aa j:=by rw[qG];exact e1
  have e2':(ck es .(K) (h,x)).toList[i]?=aa (h',x'):=by rw[qG];exact e2
  rw[pl1,CA _ _ _ (by simpa using b0)] at e1';rw[el1,CA _ _ _ (by simpa using bes)] at e2';have up:∀{n:al},(∀m,m<n->J t.mask h' m∈t.place.toList)->∀m,m<n->J t.mask h' m∈(ck t.place .(K) (J t.mask h n0)).toList:=fun q m hm=>by rw[pl1,x6];exact .inr (q m hm)
  by_cases c1:i<bZ t.place (J t.mask h n0)
  .rw[qW c1] at e1' e2';rw[qG] at e1' e2';obtain⟨n,hn,q⟩:=T.rc i j h' x' e1' e2';exact⟨n,hn,up q⟩
  .rw[qX c1] at e1' e2';by_cases c2:i=bZ t.place (J t.mask h n0)
   .rw[qW c2] at e1' e2';cases e1';cases e2';exact⟨n0,rfl,up ho⟩
   .rw[qX c2] at e1' e2';rw[qG] at e1' e2';obtain⟨n,hn,q⟩:=T.rc _ j h' x' e1' e2';exact⟨n,hn,up q⟩
end
noncomputable def eN (owner:bP (ar al)) (j:al):aN:=(owner.getD j (aa 0)).isNone
theorem pR {r:al} (e:it M h n=lW M .(T)) {k:al} (hk:k<dh M .(T).1+1-.(T).1):J M h (n+k)=.(T).1+k:=by unfold J;rw[sG,e,tJ M k _ (by show k<=dh M .(T).1-.(T).1;omega)];rfl
theorem LR {r:al} (e:it M h n=lW M .(T)):it M h (n+(dh M .(T).1+1-.(T).1))=lW M (lp M h (r+1)):=by
 have hge:.(T).1<=dh M .(T).1:=by unfold dh;split<;>omega
 have e2:=tJ M (dh M .(T).1-.(T).1) (lW M .(T)) (qv _);rw[show n+(dh M .(T).1+1-.(T).1)=n+(dh M .(T).1-.(T).1)+1 by omega,it,sG,e,e2];unfold adv;rw[qX (by show ¬((dh M .(T).1-.(T).1)-(dh M .(T).1-.(T).1) > 0);omega)];rfl
theorem CB {M:al} {h:ag} (owner:bP (ar al)) {rs:al} (hfr:eN owner (lp M h rs).1=ai):∀(fuel r n:al),it M h n=lW M .(T)->r<=rs->rs<r+fuel->(∀m,m<n->eN owner (J M h m)=ao)->
  ∃n',eN owner (J M h n')=ai/\(∀m,m<n'->eN owner (J M h m)=ao)/\rV M owner fuel .(T).1 .(T).2=aa (J M h n')
 |0,r,n,_,h1,h2,_=>by omega
 |fuel+1,r,n,e,h1,h2,h3=>by
  unfold rV;cases hf:(cG (dh M .(T).1+1-.(T).1)).find? (fun k=>(owner.getD (.(T).1+k) (aa 0)).isNone) with
  |some k=>
   have hk:=dX.mp (uT hf);have hp:eN owner (.(T).1+k)=ai:=by have:=yU hf;exact this
   refine⟨n+k,by rw[pR e hk];exact hp,fun m hm=>?_,?_⟩
   .rcases io m n with c|c
    .exact h3 m c
    .obtain⟨d,rfl⟩:∃d,m=n+d:=⟨m-n,by omega⟩;rw[pR e .(e)];obtain⟨as,bs,hab,hno⟩:=(List.find?_eq_some_iff_append.mp hf).2;have hd:d∈as:=by
      have hl:as=cG k:=by
       have hlen:as.length=k:=by
        have:(cG (dh M .(T).1+1-.(T).1))[as.length]?=aa k:=by rw[hab];simp
        rw[List.getElem?_range] at this
        .exact qF this
        .have:=cI gX hab;simp at this;omega
       have:=cI (uU k) hab;rw[List.take_range,Qp .(e),←hlen,List.take_left'] at this
       .rw[hlen] at this;exact this.symm
       .rfl
      rw[hl];exact dX.mpr .(e)
     have:=hno d hd;exact EK.mpr (fun z=>by rw[show(owner.getD (.(T).1+d) (aa 0)).isNone=ai from z] at this;cases this)
   .rw[pR e hk]
  |none=>
   have hn:∀k,k<dh M .(T).1+1-.(T).1->eN owner (J M h (n+k))=ao:=fun k hk=>by rw[pR e hk];have:=oP.mp hf k (dX.mpr hk);exact EK.mpr this
   have hge:.(T).1<=dh M .(T).1:=by unfold dh;split<;>omega
   have hr:r≠rs:=fun z=>by subst z;have:=hn 0 .(e);rw[pR e .(e),Nat.add_zero,hfr] at this;cases this
   exact CB owner hfr fuel (r+1) _ (LR e) .(e) .(e) fun m hm=>by
    rcases io m n with c|c
    .exact h3 m c
    .obtain⟨d,rfl⟩:∃d,m=n+d:=⟨m-n,by omega⟩;exact hn d .(e)
theorem Full.free (F:Full M) (h:ag) (owner:bP (ar al)) (hf:∃j,j<=M/\eN owner j=ai) :
  ∃n,eN owner (J M h n)=ai/\(∀m,m<n->eN owner (J M h m)=ao)/\rV M owner (ni M) (fJ h%(M+1)) (fJ h)=aa (J M h n):=by
 obtain⟨j,hj,hjf⟩:=hf;obtain⟨m,hm,e⟩:=F.reach (vB M h 13) hj;have hl:(lp M h (13+m)).1=j:=by rw[vy,e]
 exact CB owner (rs:=13+m) (by rw[hl];exact hjf) (ni M) 0 0 rfl (gV _) (by unfold ni;omega) fun m hm=>bz hm (EG _)
structure Own (M:al) (hs:ac ag) (owner:bP (ar al)):Prop where
 sz:owner.size=M+1
 lt:∀(j k:al),owner[j]?=aa (aa k)->k<hs.length
 on:∀k,k<hs.length->∃j:al,owner[j]?=aa (aa k)
 inj:∀(j j' k:al),owner[j]?=aa (aa k)->owner[j']?=aa (aa k)->j=j'
 rc:∀(j k:al) h,owner[j]?=aa (aa k)->hs[k]?=aa h->∃n,J M h n=j/\∀m,m<n->eN owner (J M h m)=ao
theorem rj :eN owner j=ai↔owner[j]?=aa ab:=by
 unfold eN;rw[yQ];cases e:owner[j]? with
 |none=>simp
 |some o=>cases o<;>simp
theorem Own.empty (M:al):Own M [] (Qs (M+1) ab):=by
 have no:∀(j k:al),(Qs (M+1) (ab:ar al))[j]?=aa (aa k)->False:=fun j k h=>by rw[Array.getElem?_replicate] at h;split at h<;>cases h
 exact⟨by simp,fun j k h=>(no j k h).elim,fun k h=>bz h (EG _),fun j _ k h _=>(no j k h).elim,fun j k _ h _=>(no j k h).elim⟩
theorem Own.room (O:Own M hs owner) (hr:hs.length<=M):∃j,j<=M/\eN owner j=ai:=by
 by_cases hx:∃j,j<=M/\eN owner j=ai
 .exact hx
 .exfalso;have all:∀j,j<=M->∃k,owner[j]?=aa (aa k):=fun j hj=>by
   have h1:eN owner j≠ai:=fun z=>hx ⟨j,hj,z⟩;have h2:j<owner.size:=by rw[O.sz];omega
   cases q:owner[j] with
   |none=>exact bz (rj.mpr (by simp[h2,q])) h1
   |some k=>exact⟨k,by simp[h2,q]⟩
  have pig:=rg ((cG (M+1)).map fun j=>((owner[j]?).join).getD 0) (cG hs.length) ?_ ?_
  .rw[qf,qR,qR] at pig;omega
  .refine EL.mpr (yV.mpr (Qt ?_ yS));intro a b ha hb hab e;obtain⟨k,hk⟩:=all a (by have:=dX.mp ha;omega);obtain⟨k',hk'⟩:=all b (by have:=dX.mp hb;omega);simp only[hk,hk',Qu,Qv] at e;subst e;exact hab (O.inj a b k hk hk')
  .intro x hx';obtain⟨j,hj,rfl⟩:=a5.mp hx';obtain⟨k,hk⟩:=all j (by have:=dX.mp hj;omega);simp only[hk,Qu,Qv];exact dX.mpr (O.lt j k hk)
theorem Own.more (O:Own M hs owner) (hf:eN owner (J M h n)=ai) (ho:∀m,m<n->eN owner (J M h m)=ao) :
  Own M (hs++[h]) (owner.setIfInBounds (J M h n) (aa hs.length)):=by
 have hlt:J M h n<owner.size:=by rw[O.sz];have:=wN M h n;omega
 have hold:=rj.mp hf;have get:∀j:al,(owner.setIfInBounds (J M h n) (aa hs.length))[j]?=if j=J M h n then aa (aa hs.length) else owner[j]?:=fun j=>by
  rw[Array.getElem?_setIfInBounds];by_cases e:J M h n=j
  .subst e;simp[hlt]
  .rw[qX e,qX (df e)]
 have stay:∀{j k:al},owner[j]?=aa (aa k)->(owner.setIfInBounds (J M h n) (aa hs.length))[j]?=aa (aa k):=fun {j k} q=>by
  rw[get,qX]
  .exact q
  .intro e;rw[e,hold] at q;cases q
 have notfree:∀{j:al},eN owner j=ao->eN (owner.setIfInBounds (J M h n) (aa hs.length)) j=ao:=fun {j} q=>by
  refine EK.mpr fun z=>?_;have z':=rj.mp z;rw[get] at z';split at z'
  .cases z'
  .rw[rj.mpr z'] at q;cases q
 refine⟨by simp[O.sz],fun j k q=>?_,fun k hk=>?_,fun j j' k q q'=>?_,fun j k h' q q'=>?_⟩
 .rw[get] at q;rw[qj,qT];split at q
  .cases q;omega
  .have:=O.lt j k q;omega
 .rw[qj,qT] at hk;by_cases e:k=hs.length
  .exact⟨J M h n,by rw[get,qW rfl,e]⟩
  .obtain⟨j,hj⟩:=O.on k .(e);exact⟨j,stay hj⟩
 .rw[get] at q q';split at q
  .rename_i c;cases q;split at q'
   .rename_i c';rw[c,c']
   .have:=O.lt j' _ q';omega
  .split at q'
   .cases q';have:=O.lt j _ q;omega
   .exact O.inj j j' k q q'
 .rw[get] at q;split at q
  .rename_i c;cases q;rw[qI (qv _)] at q';simp at q';subst q';exact⟨n,c.symm,fun m hm=>notfree (ho m hm)⟩
  .have hk:=O.lt j k q;rw[qx hk] at q';obtain⟨n',e,r⟩:=O.rc j k h' q q';exact⟨n',e,fun m hm=>notfree (r m hm)⟩
theorem Full.lays (F:Full M) (hs:bP ag) (hr:hs.size<=M):∃owner,Qw M hs=aa owner/\Own M hs.toList owner:=by
 have all:∀(bX done:ac ag) (owner:bP (ar al)),Own M done owner->(done++bX).length<=M->∃owner',Own M (done++bX) owner' /\
   bX.foldl (fun(acc:ar (bP (ar al)×al)) h=>do
    let (owner,k) ←acc
    let j ←rV M owner (ni M) (fJ h%(M+1)) (fJ h)
    bA (owner.setIfInBounds j (aa k),k+1)) (aa (owner,done.length))=aa (owner',(done++bX).length):=by
  intro bX
  induction bX with
  |nil=>intro done owner O _;exact⟨owner,by rw[m5];exact O,by simp⟩
  |cons h r ih=>
   intro done owner O hl;obtain⟨n,h1,h2,h3⟩:=F.free h owner (O.room (by simp at hl;omega));have O':=O.more h1 h2;obtain⟨owner',O2,e⟩:=ih (done++[h]) _ O' (by simpa using hl);refine⟨owner',by simpa using O2,?_⟩;rw[iS];have e1:(do
    let (owner,k) ←aa (owner,done.length)
    let j ←rV M owner (ni M) (fJ h%(M+1)) (fJ h)
    bA (owner.setIfInBounds j (aa k),k+1):ar (bP (ar al)×al))=aa (owner.setIfInBounds (J M h n) (aa done.length),done.length+1):=by
    show(rV M owner (ni M) (fJ h%(M+1)) (fJ h) >>= fun j=>bA (owner.setIfInBounds j (aa done.length),done.length+1))=_;rw[h3];rfl
   rw[e1];rw[qj,qT] at e;rw[e];simp
 obtain⟨owner',O,e⟩:=all hs.toList [] _ (Own.empty M) (by simpa using hr);refine⟨owner',?_,by simpa using O⟩;unfold Qw;rw[←Array.foldl_toList];have e':=cI (rO (·.1)) e;exact e'
theorem Ce {α β:Type} (f:α->ar β):∀(l:ac α),(∀k∈l,∃y,f k=aa y)->∀i:al,(l.filterMap f)[i]?=(l[i]?).bind f
 |[],_,i=>by simp
 |k::r,h,i=>by
  obtain⟨y,hy⟩:=h k qg;rw[Qx hy];cases i with
  |zero=>simp[hy]
  |succ i=>simp only[qd];exact Ce f r (fun k hk=>h k (qh _ hk)) i
theorem Bz {α β:Type} (f:α->ar β):∀(l:ac α),(∀k∈l,∃y,f k=aa y)->(l.filterMap f).length=l.length
 |[],_=>rfl
 |k::r,h=>by obtain⟨y,hy⟩:=h k qg;rw[Qx hy,qi,qi,Bz f r fun k hk=>h k (qh _ hk)]
noncomputable def dG (M:al) (owner:bP (ar al)):ac (al×al):=(cG (M+1)).filterMap fun j=>(owner.getD j ab).map (j,·)
theorem iE (hsz:owner.size=M+1) {k:al} :(j,k)∈dG M owner↔owner[j]?=aa (aa k):=by
 unfold dG;rw[ro];constructor
 .rintro⟨j',hj',e⟩;rw[yQ] at e;cases q:owner[j']? with
  |none=>rw[q] at e;cases e
  |some o=>
   rw[q] at e;cases o with
   |none=>cases e
   |some k'=>cases e;exact q
 .intro q;have hj:j<owner.size:=(gF.mp q).1;exact⟨j,dX.mpr .(e),by rw[yQ,q];rfl⟩
theorem BN (M:al) (owner:bP (ar al)):((dG M owner).map (·.1)).Pairwise (· < ·):=by unfold dG;rw[yV];refine Sg _ ?_ (List.pairwise_lt_range (n:=M+1));intro a a' haa b hb b' hb';obtain⟨k,_,rfl⟩:=oMd hb;obtain⟨k',_,rfl⟩:=oMd hb';exact haa
theorem CQ (O:Own M hs owner):((dG M owner).map (·.2)).Nodup:=by have h1:=yV.mp (BN M owner);refine EL.mpr (yV.mpr (Qt ?_ h1));rintro⟨j,k⟩ ⟨j',k'⟩ ha hb hlt e;have e':k=k':=e;subst e';have:=O.inj j j' k ((iE O.sz).mp ha) ((iE O.sz).mp hb);have hlt':j<j':=hlt;omega
theorem BL (O:Own M hs owner):(dG M owner).length=hs.length:=by
 have h1:=rg ((dG M owner).map (·.2)) (cG hs.length) (CQ O) fun k hk=>by obtain⟨⟨j,k'⟩,hm,rfl⟩:=a5.mp hk;exact dX.mpr (O.lt j k' ((iE O.sz).mp hm))
 have h2:=rg (cG hs.length) ((dG M owner).map (·.2)) yS fun k hk=>by obtain⟨j,hj⟩:=O.on k (dX.mp hk);exact a5.mpr ⟨(j,k),(iE O.sz).mpr hj,rfl⟩
 rw[qf,qR] at h1 h2;omega
theorem Full.relaid {t:gZ} {es:bP (ag×Value)} {wanted:al} (F:Full (kH wanted-1)) (few:es.size*5<(kH wanted-1)*3) :
  ∃t' order,t.relaid (es.map (·.1)) wanted=aa (t',order)/\(order.filterMap (es[·]?)).size=es.size/\Tb t' (order.filterMap (es[·]?))/\(∀e,e∈(order.filterMap (es[·]?)).toList↔e∈es.toList)/\t'.mask=kH wanted-1/\t'.led=t.led:=by
 generalize hM:kH wanted-1=M at F few;obtain⟨owner,hl,O⟩:=F.lays (es.map (·.1)) (by simp;omega);have hlen:(es.map (·.1)).toList.length=es.size:=by simp
 have llen:(dG M owner).length=es.size:=by rw[BL O,hlen]
 refine⟨{mask:=M,place:=((dG M owner).map (·.1)).toArray,dummies:=#[],finger:=t.finger,led:=t.led,moves:=t.movedTo M,plain:=t.plain},((dG M owner).map (·.2)).toArray,?_,?_⟩
 .unfold Qy;rw[hM];unfold Qz;rw[hl];rfl
 .have hall:∀k∈(dG M owner).map (·.2),∃y,es[k]?=aa y:=fun k hk=>by obtain⟨⟨j,k'⟩,hm,rfl⟩:=a5.mp hk;have:=O.lt j k' ((iE O.sz).mp hm);rw[hlen] at this;exact⟨es[k'],by simp[this]⟩
  have etl:(QA (fun x=>es[x]?) ((dG M owner).map (·.2)).toArray).toList=((dG M owner).map (·.2)).filterMap (fun x=>es[x]?):=by simp
  have esz:(QA (fun x=>es[x]?) ((dG M owner).map (·.2)).toArray).size=es.size:=by rw[←fV,etl,Bz _ _ hall,qf,llen]
  refine⟨esz,⟨F,?_,rfl,?_,?_,?_,?_⟩,fun e=>?_,rfl,rfl⟩
  .rw[esz];simp[llen]
  .show((dG M owner).map (·.1)).toArray.toList.Pairwise (· < ·);exact BN M owner
  .intro j hj;have hj':j∈(dG M owner).map (·.1):=hj;obtain⟨⟨j',k⟩,hm,rfl⟩:=a5.mp hj';have:=(gF.mp ((iE O.sz).mp hm)).1;rw[O.sz] at this;show j'<=M;omega
  .rw[esz];exact few
  .intro i j h x e1 e2;have e1':((dG M owner).map (·.1))[i]?=aa j:=by simpa using e1
   rw[←qG,etl,Ce _ _ hall,qk] at e2;rw[qk] at e1';obtain⟨⟨j',k⟩,hm,rfl⟩:=oMd e1';rw[hm] at e2;have e2':es[k]?=aa (h,x):=e2;have ho:=(iE O.sz).mp (qN hm);obtain⟨n,hn,q⟩:=O.rc j' k h ho (by simp[e2']);refine⟨n,hn,fun m hm'=>?_⟩;have hnf:=q m hm';have hle:=wN M h m;have hlt:J M h m<owner.size:=by rw[O.sz];omega
   cases c:owner[J M h m] with
   |none=>
    rw[rj.mpr (by simp[hlt,c])] at hnf;cases hnf
   |some k'=>
    show J M h m∈(dG M owner).map (·.1);exact a5.mpr ⟨(J M h m,k'),(iE O.sz).mpr (by simp[hlt,c]),rfl⟩
  .rw[etl,ro];constructor
   .rintro⟨k,_,hk⟩;rw[←qG] at hk;exact qN hk
   .intro he;obtain⟨k,hk⟩:=uQ.mp he;rw[qG] at hk;have hlt:=(gF.mp hk).1;obtain⟨j,hj⟩:=O.on k (by rw[hlen];exact hlt);exact⟨k,a5.mpr ⟨(j,k),(iE O.sz).mpr hj,rfl⟩,hk⟩
noncomputable def Mk (M:al):Prop:=M=7\/M=31\/M=127\/M=511
theorem Mk.full (h:Mk M):Full M:=by
 rcases h with h|h|h|h<;>subst h
 .exact xY
 .exact JJ
 .exact JG
 .exact OY
theorem Mk.grow (h:Mk M) (h1:n*5<M*3) (h2:¬(n+1)*5<M*3) (hn:n<=300):Mk (kH (rW (n+1))-1)/\(n+1)*5<(kH (rW (n+1))-1)*3/\kH (rW (n+1))<=512:=by
 rcases h with h|h|h|h<;>subst h
 .have:n=4:=by omega
  subst this;exact⟨.inr (.inl .(h)),by decide,by decide⟩
 .have:n=18:=by omega
  subst this;exact⟨.inr (.inr (.inl .(h))),by decide,by decide⟩
 .have:n=76:=by omega
  subst this;exact⟨.inr (.inr (.inr .(h))),by decide,by decide⟩
 .omega
section
variable {G:bP rn->bP rn->Prop} {P:al->Value->Prop} {St:al->aG->Prop}
noncomputable def Bx (prog:bU) (w:cQ) (A:eF) (S:av) (Ba:Heap->Prop) (P:al->Value->Prop) (n:al) (J:al->a8->Prop):Prop:=
 ∀(i:al) (v:Value) (s:aG) (o:a8) (Q:aN->aG->Prop) (E:Value->aG->Prop),i<n->P i v->s.heap.get? S=aa o->J i o->Ba s.heap->
  (∀b h' tk o',s.toks<=tk->ii S s.heap h'->h'.get? S=aa o'->J (i+1) o'->Q b {s with heap:=h',toks:=tk})->aK .(L) A (oQ S v) Q E s
theorem Gm (W:WalksS prog w A.in1 I fp wr G n P St) (S:av) (hSf:S∉fp) (Ba:Heap->Prop) (hBa:∀h h',Ba h->(∀b o,b∉S::wr->h.get? b=aa o->h'.get? b=aa o)->Ba h') (J:al->a8->Prop) (hadd:Bx prog w A.in1 S Ba P n J) :
  ∀(k i:al) (s:aG) (o:a8),n-i=k->i<=n->St i s->s.heap.get? S=aa o->J i o->Ba s.heap->
   (∀s' o',Moved (S::wr) G s s'->s'.heap.get? S=aa o'->J n o'->R (.ok (.ret .none)) s')->
   ik .(L) A (.builtin "set.update.loop" ⟨[.ref S,.ref I],[]⟩) R s:=by
 have hSw:S∉wr:=fun h=>hSf (W.sub _ h);have hsub:∀b∈wr,b∈S::wr:=fun b hb=>qh _ hb;intro k
 induction k with
 |zero=>
  intro i s o hk hi hst hS hJ hB hR;have hin:i=n:=by omega
  subst hin;refine rY QB ?_;rw[uV EM _];show aK _ A.in1 (jI (.ref I) >>= _) _ _ s;refine qw (W.done s _ _ hst fun s' hm=>?_);show aK _ A.in1 (ret oA) _ _ s';exact qy (hR s' o (hm.mono hsub) (hm.heap S _ hSw hS) hJ)
 |succ k ih=>
  intro i s o hk hi hst hS hJ hB hR;have hlt:i<n:=by omega
  refine rY QB ?_;rw[uV EM _];show aK _ A.in1 (jI (.ref I) >>= _) _ _ s;refine qw (W.item i s _ _ hlt hst fun v s' hP hst' hm=>?_);show aK _ A.in1 (jG [v] (oQ S v) >>= _) _ _ s';refine qw (im ?_);refine hadd i v s' o _ _ hlt hP (hm.heap S _ hSw hS) hJ (hBa _ _ hB fun b o hb e=>hm.heap b o (fun z=>hb (hsub b z)) e) fun b h' tk o' htk hsb hS' hJ'=>?_;refine qy ⟨yW EM _,ih (i+1) _ o' .(e) hlt (W.frame _ s' _ _ hst' htk fun b hb o e=>?_) hS' hJ' ?_ fun s'' o'' hm'' hS'' hJ''=>?_⟩
  .rw[hsb.2 b (fun h:b=S=>hSf (by rw[←h];exact hb))];exact e
  .refine hBa _ _ (hBa _ _ hB fun b o hb e=>hm.heap b o (fun z=>hb (hsub b z)) e) fun b o hb e=>?_;show h'.get? b=aa o;rw[hsb.2 b (fun h:b=S=>hb (by rw[h];exact qg))];exact e
  .refine hR s'' o'' (QC W.gtrans ((hm.mono hsub).then_heap htk fun b o hb e=>?_) hm'') hS'' hJ'';rw[hsb.2 b (fun h:b=S=>hb (by rw[h];exact qg))];exact e
end
section
variable {E:Value->aG->Prop}
theorem Iy (a:Value) {Q₁:Value->aG->Prop} 
  (h:Q₁ (.ref s.heap.objs.size) {s with heap:=s.heap.push {cls:=.type "set",dict:=ab,data:=.set #[] 0 (.fresh 0 0 (!w.params.followText "set-order"))} }) :
  ik .(L) A (.call (.builtin "set.__new__") ⟨[.type "set",a],[]⟩) (wants Q₁ E) s:=by
 refine QD ?_;show aK _ A.in1 (do checkBuiltinCall "set.__new__" ⟨[.type "set",a],[]⟩;again (.builtin "set.__new__" ⟨[.type "set",a],[]⟩)) _ _ s;refine qw (uW (F.newCall_set_1 a) (qy ⟨yW QE _,rY F.entry_set_new ?_⟩));rw[uV QE _];unfold Builtin.«set.__new__» Sh;have hsub:=sub_set_self;obtain⟨hp,g,d,tk,os⟩:=s;dsimp only
 wp_walk
 refine uX (qy ?_);dsimp only;simp only[newObj];exact qw (wpAny_alloc (qy (qy h)))
set_option maxRecDepth 100000 in
set_option maxHeartbeats 3200000 in
theorem xE {l:av} (hh:A.handled=ab) (hl:s.heap.IsList l items) (J:al->a8->Prop)
  (hJ0:J 0 {cls:=.type "set",dict:=ab,data:=.set #[] 0 (.fresh 0 0 (!w.params.followText "set-order"))})
  (hadd:∀A':eF,A'.units<=A.units+16->Bx prog w A' s.heap.objs.size (fun h=>∀b o,b<s.heap.objs.size->s.heap.get? b=aa o->h.get? b=aa o) (fun i v=>items[i]?=aa v) items.size J)
  (h:∀(h':Heap) (tk:al) (o:a8),h'.get? s.heap.objs.size=aa o->J items.size o->
   (∀b o,b<s.heap.objs.size->s.heap.get? b=aa o->h'.get? b=aa o)->Q (.ref s.heap.objs.size) {s with heap:=h',toks:=tk}) :
  aK .(L) A (call (.type "set") [.ref l]) Q E s:=by
 obtain⟨c,tl,hmro⟩:=nj.mro;have hmade:=nj.made;have hsub:=nj.sub;refine ym (QD ?_);show aK _ _ (callAny (.type "set") _) _ _ _;refine qy ⟨Code.quiet_builtin _ .(p),rY F.entry_type_call ?_⟩;rw[Around.under_plain (weight_type_call_type "set" [.ref l] []) rfl];have h1:=nj.notType;have h2:=nj.canCreate;have hct:=F.typeCall_set_1 (.ref l)
 repeat (any_goals (first|assumption|wp_step))
 refine rB (Iy (.ref l) (E:=E) (Q₁:=fun obj s₁=>∃led:aN,led=(!w.params.followText "set-order")/\obj=.ref s.heap.objs.size/\s₁={s with heap:=s.heap.push {cls:=.type "set",dict:=ab,data:=.set #[] 0 (.fresh 0 0 led)} }) ⟨_,rfl,rfl,rfl⟩) fun r s₁ hr=>?_;cases r with
 |error e=>exact hr
 |ok fl=>
  cases fl with
  |ret obj=>
   obtain⟨led,hled,rfl,rfl⟩:=hr;rw[←hled] at hJ0;have hS:.(C).get? s.heap.objs.size=aa {cls:=.type "set",dict:=ab,data:=.set #[] 0 (.fresh 0 0 led)}:=qE _ rfl;have hT:yX {s with heap:=s.heap.push {cls:=.type "set",dict:=ab,data:=.set #[] 0 (.fresh 0 0 led)} } (.ref s.heap.objs.size) "set":=⟨_,hS,rfl⟩;have hli:=nj.init.lookup;have hbi:=nj.init.bind (.ref s.heap.objs.size)
   repeat (any_goals (first|assumption|wp_step))
   refine rB (QF (R:=wants (fun r s₂=>r=.none/\∃h' tk o,s₂={s with heap:=h',toks:=tk}/\h'.get? s.heap.objs.size=aa o/\J items.size o /\
     (∀b o,b<s.heap.objs.size->s.heap.get? b=aa o->h'.get? b=aa o)) E) nj.init.plain F.entry_set_init (check_set_init_1 hT ?_)) fun r₂ s₂ hr₂=>?_
   .obtain⟨ol,hol,hcl,nl,hdl⟩:=hl;obtain⟨ocls,odict,odata,oslots⟩:=ol;simp only at hcl hdl;subst hcl;subst hdl;have hol':.(C).get? l=aa {cls:=.type "list",dict:=odict,data:=.seq items nl,slots:=oslots}:=qt _ hol;have hsls:=F.sub_list_set;have hslf:=F.sub_list_frozenset;have hne:(lH "list"==lH "dict")=ao:=by decide
    have hl1:.(C).IsList l items:=⟨_,hol',rfl,nl,rfl⟩;unfold Builtin.«set.__init__» noKeywords Si;generalize hPI:oC=PI
    wp_walk
    subst hPI;refine rR hl1 ?_;refine qw (wpAny_runValue ?_);have hlS:l<s.heap.objs.size:=qu hol;have hh3:A.in1.in1.in1.handled=ab:=by simp[hh]
    have hneI:l≠.(C).objs.size:=by rw[mZ];exact qA (uY hlS)
    have hSf:s.heap.objs.size∉[.(C).objs.size,l]:=by rw[mZ];simp only[qJ,bW,qH,or_false,rZ];exact⟨qA (uI _),yd hlS⟩
    have hget:(.(C).push {cls:=.type "list_iterator",data:=.fields #[.ref l,.int 0 0]}).get? s.heap.objs.size
       = aa {cls:=.type "set",dict:=ab,data:=.set #[] 0 (.fresh 0 0 led)}:=qt _ hS
    refine Gm ((uO hh3 _ l hneI items).toS) s.heap.objs.size
     hSf (fun h=>∀b o,b<s.heap.objs.size->s.heap.get? b=aa o->h.get? b=aa o) (fun h h' hB hk b o hb e=>hk b o ?_ (hB b o hb e)) J (hadd _ (by show A.units+3<=_;omega)) (items.size-0) 0 _ _ .(e) (gV _)
     ⟨⟨_,qE _ rfl,rfl,rfl⟩,(hl1.push _)⟩ hget hJ0 (fun b o hb e=>qt _ (qt _ e)) ?hR
    .have hb1:b≠s.heap.objs.size:=qA hb;have hb2:b≠.(C).objs.size:=by rw[mZ];exact qA (uY hb)
     simp only[qJ,bW,qH,or_false,rZ];exact⟨hb1,hb2⟩
    case hR=>
     intro s' o' hm hS' hJ';obtain⟨h',g',d',tk',os'⟩:=s';have eg:g'=s.gens:=hm.gens;have ed:d'=s.drawn:=hm.drawn;have eo:os'=s.os:=hm.os;subst eg;subst ed;subst eo;show aK _ _ _ _ _ _;refine qy ?_;show aK _ _ (ret oA) _ _ _;refine qy ⟨rfl,h',tk',o',rfl,hS',hJ',fun b o hb e=>?_⟩;have hb1:b≠s.heap.objs.size:=qA hb;have hb2:b≠.(C).objs.size:=by rw[mZ];exact qA (uY hb)
     exact hm.heap b o (by simp only[qJ,bW,qH,or_false,rZ];exact⟨hb1,hb2⟩) (qt _ (qt _ e))
   .cases r₂ with
    |error e=>exact hr₂
    |ok fl₂ =>
     cases fl₂ with
     |ret r=>
      obtain⟨rfl,h',tk,o',rfl,hS',hJ',hk'⟩:=hr₂
      repeat (any_goals (first|assumption|wp_step))
      exact h _ _ _ hS' hJ' hk'
     |_=>exact hr₂.elim
  |_=>exact hr.elim
end
noncomputable def dd [eE κ] (l:ac κ):ac κ:=l.foldl (fun a k=>if k∈a then a else a++[k]) []
theorem pc [eE κ] (l:ac κ) (k:κ):dd (l++[k])=if k∈dd l then dd l else dd l++[k]:=by unfold dd;rw[yY];rfl
theorem l0 [eE κ] (l:ac κ):(dd l).length<=l.length:=by
 have key:∀(l a:ac κ),(l.foldl (fun a k=>if k∈a then a else a++[k]) a).length<=a.length+l.length:=by
  intro l
  induction l with
  |nil=>intro a;exact qv _
  |cons k r ih=>
   intro a;rw[iS];refine qK (ih _) ?_;split
   .simp only[qi];omega
   .simp only[qj,qi,ql];omega
 have:=key l [];simpa[dd] using this
section
variable [eE κ] {knd:KeyKind prog w κ} {E:Value->aG->Prop}
theorem KO {ks:ac κ} {Q:aN->aG->Prop} (hk:IsTupleKey knd s.heap ks a) (hsc:∀v k,knd.is k v=ai->v.scannable=ai) (h:∀b,Q b s):aK .(L) A (hashByValue 8 (.ref a)) Q E s:=by
 have hT:=hk.typeIs;obtain⟨o,items,n,ho,_,hd,hi⟩:=hk;unfold hashByValue;refine qw (Eu hT F.slot_tuple_hash.lookup ?_);refine qw (EN ho hd ?_);refine qw ?_;show aK _ _ (uM items _ _) _ _ s;rw[←QG];have hall:∀v∈items.toList,v.scannable=ai:=by
  have:∀{x:ac κ} {vs:ac Value},ItemsAre knd x vs->∀v∈vs,v.scannable=ai:=by
   intro x vs q
   induction q with
   |nil=>intro v hv;cases hv
   |cons h1 _ ih=>
    intro v hv;rcases cA.mp hv with rfl|hv
    .exact hsc _ _ h1
    .exact ih v hv
  exact this hi
 refine EO _ (fun bX r s'=>s'=s/\∀v∈bX,v.scannable=ai) _ ?_ ?_ _ _ ⟨rfl,hall⟩
 .rintro v bX r s' ⟨rfl,hv⟩;rw[QH _ (hv v qg)];refine qw (qy ?_);cases hp:plainKind v with
  |true=>
   simp only[iq,qq,c6];exact qy ⟨rfl,fun u hu'=>hv u (qh _ hu')⟩
  |false=>
   simp only[lU,cu]
   first|exact qy (qy (h _))|exact qy (h _)|exact qw (qy (qy (qy (h _))))
 .rintro⟨r1,r2⟩ s' ⟨rfl,_⟩
  first|exact qy (h _)|(cases r1<;>exact qy (h _))
theorem Dz {ks:ac κ} {Q:aN->aG->Prop} (hk:IsTupleKey knd s.heap ks a) (h:Q ao s):aK .(L) A (EQ 8 (.ref a)) Q E s:=by
 have hT:=hk.typeIs;obtain⟨o,items,n,ho,_,hd,hi⟩:=hk;unfold EQ;refine qw (rE hT ?_);dsimp only;rw[qW .(h)];refine qw (qy ?_);simp only[iq,qq,c6];refine qw (EN ho hd ?_);refine qw ?_;show aK _ _ (uM items _ _) _ _ s;rw[←QG];refine EO _ (fun bX r s'=>r.1=ab/\s'=s/\∀v∈bX,QI v=ai) _ ?_ ?_ _ _ ⟨rfl,rfl,hi.byValue⟩
 .rintro v bX r s' ⟨hr,rfl,hv⟩;have e:EQ 7 v=bA ao:=by
   have:=hv v qg;cases v with
   |ref b=>simp[QI] at this
   |_=>rfl
  rw[e];refine qw (qy ?_);simp only[qq,c6];exact qy ⟨rfl,rfl,fun u hu'=>hv u (qh _ hu')⟩
 .rintro⟨r1,r2⟩ s' ⟨hr,rfl,_⟩;simp only at hr;subst hr;exact qy h
theorem FO {ks:ac κ} {Q:aN->aG->Prop} (hk:IsTupleKey knd s.heap ks a) (st:ac Value) (hst:∀y∈st,∃k b,y=.ref b/\IsTupleKey knd s.heap k b) (h:Q ao s):aK .(L) A (QJ (.ref a) st) Q E s:=by
 unfold QJ;refine qw ?_;refine EO _ (fun bX r s'=>r.1=ab/\s'=s/\∀y∈bX,∃k b,y=.ref b/\IsTupleKey knd s.heap k b) _ ?_ ?_ _ _ ⟨rfl,rfl,hst⟩
 .rintro v bX r s' ⟨hr,rfl,hv⟩;obtain⟨k,b,rfl,hb⟩:=hv v qg;dsimp only;split
  .exact qy ⟨rfl,rfl,fun u hu'=>hv u (qh _ hu')⟩
  .refine qw (QK hk ?_);simp only[iq,qq,c6];refine qw (QK hb ?_);simp only[iq,qq,c6];refine qw (Dz hk ?_);simp only[qq,c6];refine qw (Dz hb ?_);simp only[qq,c6];exact qy ⟨rfl,rfl,fun u hu'=>hv u (qh _ hu')⟩
 .rintro⟨r1,r2⟩ s' ⟨hr,rfl,_⟩;simp only at hr;subst hr;exact qy h
end
theorem wM {t:gZ} {es:bP (ag×Value)} (T:Tb t es) {p:yT} {r:ar SetTable.Met} (hp:t.probe hashAt h p=r) (hpp:p=gn (it t.mask h n)) (hn:n<=n0) (hn0:n0<10*(t.mask+15))
  (hf:J t.mask h n0∉t.place.toList) (ho:∀m,m<n0->J t.mask h m∈t.place.toList) :
  (∃n' i,n<=n'/\n'<n0/\t.place[i]?=aa (J t.mask h n')/\hashAt i=h/\(∀m i,n<=m->m<n'->t.place[i]?=aa (J t.mask h m)->hashAt i≠h)/\r=aa (.candidate (J t.mask h n') i (gn (it t.mask h (n'+1))))) \/
  ((∀m i,n<=m->m<n0->t.place[i]?=aa (J t.mask h m)->hashAt i≠h)/\r=aa (.empty (J t.mask h n0) ab)):=by
 subst hpp;subst hp;unfold SetTable.probe;exact T.probe_go hashAt h hf ho (10*ni t.mask) n hn (by unfold ni;omega)
theorem Hw {t:gZ} {es:bP (ag×Value)} (T:Tb t es) {p:yT} (hp:∀met,t.probe hashAt h p=aa met->False) (hpp:p=gn (it t.mask h n)) (hn:n<=n0) (hn0:n0<10*(t.mask+15))
  (hf:J t.mask h n0∉t.place.toList) (ho:∀m,m<n0->J t.mask h m∈t.place.toList):False:=by
 rcases wM T (r:=t.probe hashAt h p) rfl hpp hn hn0 hf ho with⟨n',i,_,_,_,_,_,g6⟩|⟨_,g2⟩
 .exact hp _ g6
 .exact hp _ g2
section
variable [eE κ] {knd:KeyKind prog w κ} {E:Value->aG->Prop}
noncomputable def pV (knd:KeyKind prog w κ) (h:Heap) (es:bP (ag×Value)):Prop:=∀(i:al) e,es[i]?=aa e->∃k b,e=(bJ knd k,.ref b)/\IsTupleKey knd h k b
theorem Mk.odd (h:Mk M):(M%2==0)=ao:=by rcases h with rfl|rfl|rfl|rfl<;>rfl
theorem Lh {o:a8} {es:bP (ag×Value)} {t:gZ} {k:ac κ} {Q:SetFound->aG->Prop} (hu:A.units<cr) (ho:s.heap.get? S=aa o) (hd:o.data=.set es ep t) (T:Tb t es) (hM:Mk t.mask)
  (hk:IsTupleKey knd s.heap k a) (he:pV knd s.heap es) (hf:J t.mask (bJ knd k) n0∉t.place.toList) (hocc:∀m,m<n0->J t.mask (bJ knd k) m∈t.place.toList) (hn0:n0<10*(t.mask+15))
  (hyes:∀(i:al) (b:av),es[i]?=aa (bJ knd k,.ref b)->IsTupleKey knd s.heap k b->Q (.there ab) s)
  (hno:(∀(i:al) (b:av),es[i]?=aa (bJ knd k,.ref b)->¬IsTupleKey knd s.heap k b)->Q (.free .(A) ao) s) :
  ∀(fuel n:al) (stand:ar yT),n0-n<fuel->n<=n0->(stand.getD (t.probeStart (bJ knd k))=gn (it t.mask (bJ knd k) n))->
   (∀(m i:al) (b:av),m<n->t.place[i]?=aa (J t.mask (bJ knd k) m)->es[i]?=aa (bJ knd k,.ref b)->¬IsTupleKey knd s.heap k b)->
   aK .(L) A (yZ S (.ref a) (bJ knd k) ai fuel stand) Q E s:=by
 intro fuel
 induction fuel with
 |zero=>intro n stand h1;omega
 |succ fuel ih=>
  intro n stand h1 h2 hs hw;unfold yZ;refine qw (kI ho hd T.fits ?_);dsimp only;have hg:t.gaveWay=ao:=hM.odd;rw[hg];simp only[qq,c6];split
  .rename_i met hp;rcases wM T hp hs h2 hn0 hf hocc with⟨n',i,g1,g2,g3,g4,g5,g6⟩|⟨g1,g2⟩
   .cases g6;have hi:i<es.size:=by have:=(gF.mp g3).1;rw[T.sz] at this;exact this
    have hei:es[i]?=aa es[i]:=by simp[hi]
    obtain⟨k',b,e1,hb⟩:=he i _ hei;rw[e1] at hei;have hh:bJ knd k'=bJ knd k:=by have g4':((es[i]?).map (·.1)).getD 0=bJ knd k:=g4;rw[hei] at g4';exact g4'
    rw[hh] at hei;have bX:aK .(L) A (do
      let aa (_,y):=es[i]? | unsupported "internal:set-entry"
      let equal ←jG [y] (eqBool y (.ref a))
      let (es',_,t') ←setState S
      if ai && equal then return .there ab
      let aa same:=t'.sameMemory t.moves t.mask|unsupported "set.changed-during-lookup:is-the-new-block-at-the-old-address"
      let still ←match (if same then t'.slot (J t.mask (bJ knd k) n') else .empty) with
       |.live i'=>match es'[i']? with
        |some (_,y')=>do bA (if ←isSame y' y then aa i' else ab)
        |none=>bA ab
       |_=>bA ab
      match still with
      |none=>rule "set.search.anew";yZ S (.ref a) (bJ knd k) ai fuel ab
      |some i'=>if equal then return .there (aa i') else yZ S (.ref a) (bJ knd k) ai fuel (aa (gn (it t.mask (bJ knd k) (n'+1))))) Q E s:=by
     rw[hei];dsimp only;refine qw (im (wpAny_eqBool_tuple hu hb hk ?_));refine qw (kI ho hd T.fits ?_);dsimp only;by_cases hkk:k'=k
     .subst hkk;rw[qQ rfl];simp only[ir,cu];exact qy (hyes i b hei hb)
     .rw[qL hkk];simp only[ir,qq,c6];have hsm:t.sameMemory t.moves t.mask=aa ai:=by unfold SetTable.sameMemory;simp
      rw[hsm];dsimp only;simp only[cu];rw[T.live g3];dsimp only;rw[hei];dsimp only;refine qw (wpAny_isSame_ref_self ?_);simp only[cu];refine qw (qy ?_);dsimp only;refine ih (n'+1) _ .(e) .(e) rfl ?_;intro m i2 b2 hm hp2 he2;by_cases h3:m<n
      .exact hw m i2 b2 h3 hp2 he2
      .by_cases h4:m=n'
       .subst h4;have ei:i2=i:=by have q1:=T.live hp2;have q2:=T.live g3;rw[q1] at q2;injection q2
        subst ei;rw[hei] at he2;cases he2;exact fun z=>hkk (hb.inj z)
       .exfalso;refine g5 m i2 .(e) .(e) hp2 ?_;show((es[i2]?).map (·.1)).getD 0=_;rw[he2];rfl
    cases hled:t.led with
    |true=>
     simp only[iq,qq,c6];exact bX
    |false=>
     simp only[lU,cu];refine qw (FO hk _ (fun y hy=>?_) ?_)
     .obtain⟨e,he1,rfl⟩:=a5.mp hy;have he2:e∈es.toList:=by have:=D6.mp he1;rw[Array.mem_filter] at this;exact D6.mpr this.1
      obtain⟨j,hj,ej⟩:=yJ.mp he2;obtain⟨k2,b2,q1,q2⟩:=he j e (by rw[←qG,qB hj,ej]);exact⟨k2,b2,by rw[q1],q2⟩
     .simp only[qq,c6];exact bX
   .cases g2;dsimp only;refine qy (hno fun i b hei hb=>?_);have hi:i<es.size:=(gF.mp hei).1;have hpi:t.place[i]?=aa t.place[i]! := by
     have:i<t.place.size:=by rw[T.sz];exact hi
     simp[this]
    obtain⟨m,q1,q2⟩:=T.rc i _ _ _ hpi hei;have hmem:J t.mask (bJ knd k) m∈t.place.toList:=by rw[q1];rw[←qG] at hpi;exact qN hpi
    have hm:m<n0:=by
     rcases EH m n0 with z|z|z
     .exact z
     .subst z;exact bz hmem hf
     .exact bz (q2 n0 z) hf
    by_cases h3:m<n
    .exact hw m i b h3 (by rw[q1];exact hpi) hei hb
    .refine g1 m i .(e) hm (by rw[q1];exact hpi) ?_;show((es[i]?).map (·.1)).getD 0=_;rw[hei];rfl
  .rename_i hp;exact(Hw T hp hs h2 hn0 hf hocc).elim
structure TS (knd:KeyKind prog w κ) (h:Heap) (ks:ac (ac κ)) (o:a8):Prop where
 cls:o.ExactSet
 ex:∃es ep t,o.data=.set es ep t/\Tb t es/\Mk t.mask/\pV knd h es/\es.size=(dd ks).length/\(∀k∈dd ks,∃(i:al) (b:av),es[i]?=aa (bJ knd k,.ref b)/\IsTupleKey knd h k b)/\∀(i:al) (k:ac κ) (b:av),es[i]?=aa (bJ knd k,.ref b)->IsTupleKey knd h k b->k∈dd ks
theorem IsTupleKey.mono {h:Heap} {k:ac κ} (x:IsTupleKey knd h k a) (q:∀o,h.get? a=aa o->h'.get? a=aa o):IsTupleKey knd h' k a:=by obtain⟨o,items,n,h1,h2⟩:=x;exact⟨o,items,n,q o h1,h2⟩
theorem mj {es:bP (ag×Value)} {e:ag×Value} :e∈es.toList↔∃i:al,es[i]?=aa e:=by
 constructor
 .intro h;obtain⟨i,hi,q⟩:=yJ.mp h;exact⟨i,by rw[←qG,qB hi,q]⟩
 .rintro⟨i,h⟩;rw[←qG] at h;exact qN h
theorem NN {ks:ac (ac κ)} {k:ac κ} {es:bP (ag×Value)} (hk:IsTupleKey knd h0 k a) (hE:pV knd h0 es) (hsz:es.size=(dd ks).length) (hin:∀k∈dd ks,∃(i:al) (b:av),es[i]?=aa (bJ knd k,.ref b)/\IsTupleKey knd h0 k b)
  (hout:∀(i:al) (k:ac κ) (b:av),es[i]?=aa (bJ knd k,.ref b)->IsTupleKey knd h0 k b->k∈dd ks) (hnew:k∉dd ks) (mem:∀e,e∈es'.toList↔e=(bJ knd k,.ref a)\/e∈es.toList) (size:es'.size=es.size+1) :
  pV knd h0 es'/\es'.size=(dd (ks++[k])).length/\(∀k'∈dd (ks++[k]),∃(i:al) (b:av),es'[i]?=aa (bJ knd k',.ref b)/\IsTupleKey knd h0 k' b)/\∀(i:al) (k':ac κ) (b:av),es'[i]?=aa (bJ knd k',.ref b)->IsTupleKey knd h0 k' b->k'∈dd (ks++[k]):=by
 rw[pc,qX hnew];refine⟨fun i e he=>?_,by rw[size,hsz,qj,qT],fun k' hk'=>?_,fun i k' b he hb=>?_⟩
 .rcases(mem e).mp (mj.mpr ⟨i,he⟩) with rfl|q
  .exact⟨k,a,rfl,hk⟩
  .obtain⟨j,q⟩:=mj.mp q;exact hE j e q
 .rcases cR.mp hk' with q|q
  .obtain⟨i,b,q1,q2⟩:=hin k' q;obtain⟨j,q3⟩:=mj.mp ((mem _).mpr (.inr (mj.mpr ⟨i,q1⟩)));exact⟨j,b,q3,q2⟩
  .rw[bW.mp q];obtain⟨j,q3⟩:=mj.mp ((mem _).mpr (.inl rfl));exact⟨j,a,q3,hk⟩
 .rcases(mem _).mp (mj.mpr ⟨i,he⟩) with q|q
  .have e:b=a:=by have:=(QL q).2;injection this
   subst e;exact cR.mpr (.inr (bW.mpr (hb.inj hk)))
  .obtain⟨j,q⟩:=mj.mp q;exact cR.mpr (.inl (hout j k' b q hb))
theorem t9 {h:Heap} {o:a8} {es:bP (ag×Value)} {t t':gZ} (ho:h.get? S=aa o) (hd:o.data=.set es ep t):(h.update S (y0 es' t')).get? S=aa {o with data:=.set es' (ep+1) t'}:=by
 have q:=ER (y0 es' t') ho (by rw[putSet_of es' t' hd];rfl)
 rwa [putSet_of es' t' hd] at q
set_option maxHeartbeats 1000000 in
theorem G8 {o:a8} {ks:ac (ac κ)} {k:ac κ} {Q:aN->aG->Prop} (hsc:∀v k,knd.is k v=ai->v.scannable=ai) (hu:A.units<cr) (ho:s.heap.get? S=aa o) (T:TS knd h0 ks o) (hk:IsTupleKey knd h0 k a)
  (hB:∀b o,h0.get? b=aa o->s.heap.get? b=aa o) (hlen:ks.length<=300)
  (h:∀b h' tk o',s.toks<=tk->ii S s.heap h'->h'.get? S=aa o'->TS knd h0 (ks++[k]) o'->Q b {s with heap:=h',toks:=tk}):aK .(L) A (oQ S (.ref a)) Q E s:=by
 obtain⟨hc,es,ep,t,hd,TB,hM,hE,hsz,hin,hout⟩:=T;have up:∀{k:ac κ} {b:av},IsTupleKey knd h0 k b->IsTupleKey knd s.heap k b:=fun q=>IsTupleKey.mono q fun o e=>hB _ _ e;have down:∀{k k':ac κ} {b:av},IsTupleKey knd h0 k' b->IsTupleKey knd s.heap k b->k=k':=fun q1 q2=>q2.inj (up q1);have hE':pV knd s.heap es:=fun i e he=>by obtain⟨k,b,q1,q2⟩:=hE i e he;exact⟨k,b,q1,up q2⟩
 have hddl:=l0 ks;obtain⟨n0,f1,f2,f3⟩:=TB.first (bJ knd k);unfold oQ;refine im (qw (wpAny_pyHash_tuple hu (up hk) ?_));unfold setAddHashed QM;refine im (qw (kI (s:={s with toks:=s.toks+(k.length+1)}) ho hd TB.fits ?_));dsimp only;rw[show byScan (.ref a) es=ao from rfl];simp only[qq,c6];unfold setSearch;refine qw (Lh (s:={s with toks:=s.toks+(k.length+1)}) hu ho hd TB hM (up hk) hE' f2 f3 f1 (fun i b hei hb=>?_) (fun hall=>?_) 100000 0 ab ?_ (gV _) rfl (fun m i b hm=>by omega))
 ·
  dsimp only;obtain⟨k',b',q1,q2⟩:=hE i _ hei;have:b'=b:=by have:=(QL q1).2;injection this with e;exact e.symm
  subst this;have ek:=down q2 hb;subst ek;have hmem:=hout i k _ hei q2;refine qy (h ao s.heap _ o (by show s.toks<=s.toks+(k.length+1);omega) (EA S s.heap) ho ⟨hc,es,ep,t,hd,TB,hM,hE,?_⟩);rw[pc,qW hmem];exact⟨hsz,hin,hout⟩
 ·
  dsimp only;have hnew:k∉dd ks:=fun hm=>by obtain⟨i,b,q1,q2⟩:=hin k hm;exact hall i b q1 (up q2)
  have hpl:bZ t.place .(A)<=es.size:=by have:=(og t.place .(A) TB.ri).1;rw[TB.sz] at this;exact this
  have hmaskle:t.mask<=511:=by rcases hM with e|e|e|e<;>omega
  have hmem:∀e,e∈(ck es (bZ t.place .(A)) (bJ knd k,ci a)).toList↔e=(bJ knd k,ci a)\/e∈es.toList:=fun e=>by rw[kQ _ _ _ hpl];exact x6 _ _ _ _
  have hsize:(ck es (bZ t.place .(A)) (bJ knd k,ci a)).size=es.size+1:=by have:=cI gX (kQ es _ (bJ knd k,ci a) hpl);simp only[fV,qj,qi,qC,iQ] at this;omega
  have hpsz:(ck t.place (bZ t.place .(A)) .(A)).size=es.size+1:=by have:=cI gX (kQ t.place _ .(A) (by rw[TB.sz];exact hpl));have h3:=TB.sz;simp only[fV,qj,qi,qC,iQ] at this;omega
  refine qw (kI (s:={s with toks:=s.toks+(k.length+1)}) ho hd TB.fits ?_);dsimp only;have fin:∀(es':bP (ag×Value)) (t':gZ) (h':Heap) (o':a8),Tb t' es'->Mk t'.mask->(∀e,e∈es'.toList↔e=(bJ knd k,ci a)\/e∈es.toList)->es'.size=es.size+1->ii S s.heap h'->h'.get? S=aa o'->o'.ExactSet->(∃ep',o'.data=.set es' ep' t')->Q ai {s with heap:=h',toks:=s.toks+(k.length+1)}:=fun es' t' h' o' q1 q2 q3 q4 q5 q6 q7 q8=>by obtain⟨ep',q8⟩:=q8;obtain⟨w1,w2,w3,w4⟩:=NN hk hE hsz hin hout hnew q3 q4;exact h ai h' _ o' .(e) q5 q6 ⟨q7,es',ep',t',q8,q1,q2,w1,w2,w3,w4⟩
  have bX:∀pl:aN,aK .(L) A (do
    storeSet S (ck es (t.put .(A)).2 (bJ knd k,ci a)) { (t.put .(A)).1 with plain:=pl}
    if (!ao && lV { (t.put .(A)).1 with plain:=pl})=ai then do
     setRelay S (rW (es.size+1))
     bA ai
    else bA ai) Q E {s with toks:=s.toks+(k.length+1)}:=fun pl=>by
   refine qw (y6 (s:={s with toks:=s.toks+(k.length+1)}) ho hd ?_ (by show(ck es (bZ t.place .(A)) (bJ knd k,ci a)).size<=aT;rw[hsize,fH];omega));have hg1:=t9 (es':=ck es (t.put .(A)).2 (bJ knd k,ci a)) (t':={ (t.put .(A)).1 with plain:=pl}) ho hd;have hsb1:=oR s.heap S (y0 (ck es (t.put .(A)).2 (bJ knd k,ci a)) { (t.put .(A)).1 with plain:=pl});have hdum:(t.put .(A)).1.dummies=#[]:=by show(if yR t.dummies _ then _ else t.dummies)=#[];rw[TB.dm];rfl
   have hfill:EI { (t.put .(A)).1 with plain:=pl}=es.size+1:=by show(ck t.place _ _).size+(t.put .(A)).1.dummies.size=_;rw[hdum];exact hpsz
   by_cases few:(es.size+1)*5<t.mask*3
   .have hfull:lV { (t.put .(A)).1 with plain:=pl}=ao:=by unfold lV;rw[hfill];exact qL (by show ¬((es.size+1)*5 ≥ t.mask*3);omega)
    rw[hfull];simp only[lU,Es,qq,c6];refine qy (fin _ _ _ _ (TB.put (x:=.ref a) f2 f3 few pl) hM hmem hsize hsb1 hg1 hc ⟨_,rfl⟩)
   .have hfull:lV { (t.put .(A)).1 with plain:=pl}=ai:=by unfold lV;rw[hfill];exact qQ (by show((es.size+1)*5 ≥ t.mask*3);omega)
    rw[hfull];simp only[lU,oT,cu];obtain⟨m1,m2,m3⟩:=hM.grow TB.few few .(e);have hes1:(ck es (t.put .(A)).2 (bJ knd k,ci a)).size=es.size+1:=hsize;obtain⟨t',order,r1,r2,r3,r4,r5,r6⟩:=Full.relaid (t:={ (t.put .(A)).1 with plain:=pl}) (es:=ck es (t.put .(A)).2 (bJ knd k,ci a)) m1.full (by rw[hes1];exact m2);unfold setRelay;have hfits:oO { (t.put .(A)).1 with plain:=pl} (ck es (t.put .(A)).2 (bJ knd k,ci a)).size=ai:=by unfold oO;rw[hfill,hes1,cS];have:=TB.few;exact⟨by rw[kF];exact hpsz,qQ (by show es.size+1<=t.mask;omega)⟩
    refine qw ?_;refine qw (kI (s:={s with heap:=_,toks:=s.toks+(k.length+1)}) hg1 rfl hfits ?_);dsimp only;rw[qX (by rw[fH];omega),r1];refine qw ?_;show aK _ _ (if ((order.filterMap ((ck es (t.put .(A)).2 (bJ knd k,ci a))[·]?)).size != (ck es (t.put .(A)).2 (bJ knd k,ci a)).size)=ai then _ else _) _ _ _;rw[qX (by rw[r2];simp)];refine qy ?_;dsimp only;refine y6 (s:={s with heap:=_,toks:=s.toks+(k.length+1)}) hg1 rfl ?_ (by rw[r2,hes1,fH];omega);refine qy (fin _ t' _ _ r3 (by rw[r5];exact m1) (fun e=>(r4 e).trans (hmem e)) (by rw[r2,hes1]) (hsb1.trans (oR _ S _)) (t9 hg1 rfl) hc ⟨_,rfl⟩)
  split
  .refine qw (KO (s:={s with toks:=s.toks+(k.length+1)}) (up hk) hsc fun bv=>?_);cases bv
   .exact bX ao
   .exact bX _
  .refine qw (qy ?_);exact bX _
 .show n0-0<100000;have:t.mask<=511:=by rcases hM with e|e|e|e<;>omega
  omega
end
end ST
section
open ST
instance (priority:=high) keyBEq:BEq Key:=QN
instance (priority:=high) keyLaw:LawfulBEq Key:=inferInstanceAs (@LawfulBEq Key QN)
noncomputable def BK (n:al) (o:a8):Prop:=o.ExactSet/\∃es ep t,o.data=.set es ep t/\t.fits es.size=ai/\es.size=n
noncomputable def lF (p:av) (n:al):HO:=.ext fun h=>∃o,h.get? p=aa o/\BK n o
theorem AS {P:bU} (v:Value) (k:Key) (h:(cN P w).is k v=ai):v.scannable=ai:=by rcases iB h with⟨i,t,rfl,rfl⟩|⟨x,t,rfl,rfl⟩<;>rfl
noncomputable def Mr:ac V->Hp->VK->Prop:=fun xs H Q=>∃a vs,xs=[.ref a]/\H a=aa (.lst vs)/\vs.length<=300 /\
 ((∃ks:ac Key,vs=ks.map kV/\∀p,H p=ab->Q (.ref p) (upd H p (lF p (dd ks).length))) \/
 (∃ts:ac (ac Key),vs.length=ts.length/\(∀(i:al) t,ts[i]?=aa t->∃b,vs[i]?=aa (.ref b)/\H b=aa (.tup (t.map kV)))/\∀p,H p=ab->Q (.ref p) (upd H p (lF p (dd ts).length))))
theorem xJ [eE κ] (l:ac κ) (k:κ):k∈dd l↔k∈l:=by
 have key:∀(l a:ac κ),k∈l.foldl (fun a k=>if k∈a then a else a++[k]) a↔k∈a\/k∈l:=by
  intro l
  induction l with
  |nil=>intro a;simp
  |cons x r ih=>
   intro a;rw[iS,ih];by_cases h:x∈a
   .rw[qW h];constructor
    .rintro(q|q)
     .exact .inl q
     .exact .inr (qh _ q)
    .rintro(q|q)
     .exact .inl q
     .rcases cA.mp q with rfl|q
      .exact .inl h
      .exact .inr q
   .rw[qX h,cR,bW,qJ];constructor
    .rintro((q|q)|q)
     .exact .inl q
     .exact .inr (.inl q)
     .exact .inr (.inr q)
    .rintro(q|q|q)
     .exact .inl (.inl q)
     .exact .inl (.inr q)
     .exact .inr q
 have:=key l [];unfold dd;rw[this];simp
theorem KM (hc:X.calm=ai) (hu:X.A.units+66<cr):eQ X (.type "set") Mr:=by
 intro pins s σ H xs us Q I r h;obtain⟨a,vs,rfl,ha,hl,h⟩:=h;obtain⟨u,rfl,ru⟩:=fu r;cases ru;obtain⟨its,rv,pl,hz⟩:=I.list (.inl (.inl ha));have hlen:=rv.length;have hsz:its.toArray.size=vs.length:=by rw[qz,hlen]
 have fin:∀(n:al) (h':Heap) (tk:al) (o:a8),h'.get? s.heap.objs.size=aa o->BK n o->(∀b o,b<s.heap.objs.size->s.heap.get? b=aa o->h'.get? b=aa o)->
   (∀p,H p=ab->Q (.ref p) (upd H p (lF p n)))->EP X pins σ Q (.ref s.heap.objs.size) {s with heap:=h',toks:=tk}:=fun n h' tk o ho hn hk q=>by
  refine⟨.ref s.heap.objs.size,_,I.laid (a:=s.heap.objs.size) (o:=lF s.heap.objs.size n) (fun b u e=>hk b u (qu e) e) (qv _) ?_,rfl,q _ I.fresh⟩;refine⟨⟨o,ho,hn⟩,⟨o,ho⟩,fun h1 h2 hp hk2=>?_⟩;obtain⟨o1,q1,q2⟩:=hp;exact⟨o1,hk2 o1 q1,q2⟩
 rcases h with⟨ks,rfl,q⟩|⟨ts,ht,hts,q⟩
 ·
  have hkl:ks.length=its.length:=by rw[←hlen,qf]
  refine xE (I.ok.hd hc) pl.isList (fun i o=>o.SetObjOf (cN X.prog X.w) (fun k=>decide (k∈dd (ks.take i))) (dd (ks.take i)).length) ?_ (fun A' hA' i v sh o Q' E' hi hv ho hJ hB hQ=>?_) fun h' tk o ho hJ hk=>?_
  .have:=setObjOf_fresh (knd:=cN X.prog X.w) (!X.w.params.followText "set-order");simpa[dd] using this
  .have hi':i<ks.length:=by rw[qz] at hi;omega
   obtain⟨u2,hu2,ru2⟩:=rv.get (i:=i) (x:=kV ks[i]) (by simp[hi']);have ev:v=u2:=by
    have hv':its[i]?=aa v:=by simpa using hv
    rw[hu2] at hv';exact(qF hv').symm
   subst ev;have hkey:=jT (P:=X.prog) (w:=X.w) ru2;have hle:(dd (ks.take i)).length<=300:=by have h1:=l0 (ks.take i);rw[qC] at h1;rw[qf] at hl;omega
   unfold oQ;refine im (qw ((cN X.prog X.w).pyHash hkey ?_));refine wpAny_setAddHashed_of (knd:=cN X.prog X.w) (s:={sh with toks:=sh.toks+1}) hkey (AS _ _ hkey) (hJ.setOf ho (by unfold scanBound;omega)) (by unfold scanBound;omega) fun h' hsb hS2=>?_;obtain⟨o',ho',hso⟩:=hS2.objOf;refine hQ _ h' _ o' (lO _) hsb ho' ?_;have htk:ks.take (i+1)=ks.take i++[ks[i]]:=by rw[nk,qB hi'];rfl
   show Obj.SetObjOf (cN X.prog X.w) o' (fun k=>decide (k∈dd (uU (i+1) ks))) (dd (uU (i+1) ks)).length;rw[htk,pc];by_cases hm:ks[i]∈dd (ks.take i)
   .rw[qW hm];rw[qW (by simpa using hm)] at hso;have e:(fun k'=>decide (k'∈dd (ks.take i)) || decide (k'=ks[i]))=fun k'=>decide (k'∈dd (ks.take i)):=by
     funext k'
     by_cases hk':k'=ks[i]
     .subst hk';simp[hm]
     .simp[hk']
    rw[e] at hso;exact hso
   .rw[qX hm];rw[qX (by simpa using hm)] at hso;have e:(fun k'=>decide (k'∈dd (ks.take i)) || decide (k'=ks[i]))=fun k'=>decide (k'∈dd (ks.take i)++[ks[i]]):=by
     funext k'
     rw[mY];simp
    rw[e] at hso;simpa using hso
  .have e:ks.take its.toArray.size=ks:=by rw[qz,←hkl];exact jP
   rw[e] at hJ;have hS:=hJ.setOf ho (by have:=l0 ks;rw[qf] at hl;unfold scanBound;omega);obtain⟨o1,es,ep,t,v0,v1,v2,_,_,_,v3,v4⟩:=hS;rw[ho] at v0;cases v0;exact fin _ h' tk o ho ⟨v1,es,ep,t,v2,v3,v4⟩ hk q
 ·
  have hkl:ts.length=its.length:=by rw[←hlen,ht]
  refine xE (I.ok.hd hc) pl.isList (fun i o=>ST.TS (cN X.prog X.w) s.heap (ts.take i) o) ?_ (fun A' hA' i v sh o Q' E' hi hv ho hJ hB hQ=>?_) fun h' tk o ho hJ hk=>?_
  .refine⟨⟨rfl,rfl,rfl⟩,#[],0,kJ 0 0 (!X.w.params.followText "set-order"),rfl,?_,.inl rfl,fun i e he=>by simp at he,rfl,fun k hk=>by simp[dd] at hk,fun i k b he=>by simp at he⟩;exact⟨xY,rfl,rfl,by simp[kJ],by simp[kJ],by simp[kJ],fun i j h x hp=>by simp[kJ] at hp⟩
  .have hi':i<ts.length:=by rw[qz] at hi;omega
   obtain⟨b,hb1,hb2⟩:=hts i ts[i] (by simp[hi']);obtain⟨u2,hu2,ru2⟩:=rv.get hb1;have ev:v=u2:=by
    have hv':its[i]?=aa v:=by simpa using hv
    rw[hu2] at hv';exact(qF hv').symm
   subst ev;cases ru2;have hkey:=kj I.hok hb2;have htk:ts.take (i+1)=ts.take i++[ts[i]]:=by rw[nk,qB hi'];rfl
   refine G8 (fun v k=>AS v k) .(e) ho hJ hkey (fun b' o' e=>hB b' o' (qu e) e) (by rw[qC];have:=hl;omega) fun bb h' tk o' h1 h2 h3 h4=>hQ bb h' tk o' h1 h2 h3 (by show ST.TS _ _ (uU (i+1) ts) o';rw[htk];exact h4)
  .have e:ts.take its.toArray.size=ts:=by rw[qz,←hkl];exact jP
   rw[e] at hJ;obtain⟨hc',es,ep,t,w1,w2,w3,w4,w5,w6,w7⟩:=hJ;exact fin _ h' tk o ho ⟨hc',es,ep,t,w1,w2.fits,w5⟩ hk q
theorem Kf:eQ X (.builtin "len") (fun xs H Q=>∃p n,xs=[.ref p]/\H p=aa (lF p n)/\n<=300/\Q (.int n) H):=by intro pins s σ H xs us Q I r h;obtain⟨p,n,rfl,hp,hn,q⟩:=h;obtain⟨u,rfl,ru⟩:=fu r;cases ru;obtain⟨⟨o,ho,hex,es,ep,t,w1,w2,w3⟩,_,_⟩:=I.hok p _ hp;exact call_len_set ho hex w1 w2 .(e) ⟨.int n,H,I.tok _,⟨_,by rw[w3]⟩,q⟩
end
variable {pos2:dn}
section
open ST
noncomputable def mM:ac D->ar (ac (ac Key))
 |[]=>aa []
 |.tup t::r=>(gz t).bind fun k=>(mM r).map (k::·)
 |_::_=>ab
theorem C5 {Γ:Cn} {K:bh} {G H:Hp} (gh:bK G H):∀{vs:ac V} {ds:ac D} {ts:ac (ac Key)},Reps Γ K G vs ds->mM ds=aa ts->vs.length=ts.length/\∀(i:al) t,ts[i]?=aa t->∃b,vs[i]?=aa (.ref b)/\H b=aa (.tup (t.map kV))
 |_,[],ts,r,h=>by cases r;cases h;exact⟨rfl,fun i t e=>by simp at e⟩
 |_,d::ds,ts,.cons h1 h2,h=>by
  cases d with
  |tup t=>
   unfold mM at h;obtain⟨k,hk,h⟩:=oBd h;obtain⟨zs,hz,rfl⟩:=oMd h;obtain⟨a,us,rfl,ha,ra⟩:=h1.tup_inv;have e:=mx ra hk;subst e;obtain⟨q1,q2⟩:=C5 gh h2 hz;refine⟨by rw[qi,qi,q1],fun i t' e=>?_⟩;cases i with
   |zero=>cases e;exact⟨a,rfl,gh _ _ ha⟩
   |succ i=>exact q2 i t' e
  |_=>cases h
noncomputable def nY:D->ar D
 |.lst l=>if l.length<=300 then match gz l with
  |some ks=>aa (.int (dd ks).length)
  |none=>(mM l).map fun ts=>.int (dd ts).length
  else ab
 |_=>ab
theorem O6 (hc:X.calm=ai) (hu:X.A.units+66<cr) (hgl:Gl X "len") (hml:X.mg "len"=ab) (hgs:Gl X "set") (hms:X.mg "set"=ab) (h:DE Γ X e f)
  (h1:a7 ([.Call (.Name "set" p2) [e] [] pos2]:ac Expr) X.env=(ao,eval (.Call (.Name "set" p2) [e] [] pos2) X.env)::a7 [] X.env:=by rfl) (h2:(cE pos (a7 [] X.env)).any (·.1)=ao:=by rfl)
  (h3:a7 ([e]:ac Expr) X.env=(ao,eval e X.env)::a7 [] X.env:=by rfl) (h4:(cE pos2 (a7 [] X.env)).any (·.1)=ao:=by rfl) :
  DE Γ X (.Call (.Name "len" p) [.Call (.Name "set" p2) [e] [] pos2] [] pos) (b1 nY f):=⟨by
 refine(vq Kf hgl hml (by rfl) (j9 (tX (KM hc hu) hgs hms (by rfl) (j9 h.1 kx h3) .(h) .(h) h3 h4) kx h1) .(h) .(h) h1 h2).imp fun σ H Q=>?_;rintro⟨G₀,H₀,G,ρ,d,A,hq,k⟩;unfold b1 at hq;obtain⟨x,hx,hl⟩:=oBd hq;clear hq;refine⟨G₀,H₀,G,ρ,x,A,hx,fun v G1 H1 s1 r1=>?_⟩;unfold nY at hl;split at hl
 .rename_i l;split at hl
  .rename_i hz;obtain⟨a,vs,rfl,ha,ra⟩:=r1.lst_inv;have go:∀(n:al),n<=300->d=.int n->∀p,H1 p=ab->∃p' n',[V.ref p]=[V.ref p']/\(upd H1 p (lF p n)) p'=aa (lF p' n')/\n'<=300/\Q (.int n') (upd H1 p (lF p n)):=fun n hn ed p hp=>by subst ed;refine⟨p,n,rfl,cc,hn,k _ G1 _ (s1.trans (Step.newOwn s1.gh hp)) (.int _)⟩
   refine⟨a,vs,rfl,s1.gh _ _ ha,by rw[ra.length];exact hz,?_⟩;split at hl
   .rename_i ks hk;refine .inl ⟨ks,mx ra hk,go _ ?_ (qF hl).symm⟩;have h5:=l0 ks;have h6:ks.length=l.length:=by have:=mx ra hk;rw[←ra.length,this,qf]
    omega
   .obtain⟨ts,ht,e1⟩:=oMd hl;obtain⟨q1,q2⟩:=C5 s1.gh ra ht;refine .inr ⟨ts,q1,q2,go _ ?_ e1.symm⟩;have h5:=l0 ts;have h6:=ra.length;omega
  .cases hl
 .cases hl⟩
end
namespace DT
theorem Ie:uJ (.type "list") "keys"=bA ab:=by rw[sd,se];kernel_rfl
theorem GY:uJ (.type "list") "__getattr__"=bA ab:=by rw[sd,se];kernel_rfl
theorem JP {l:av} {u:Tok} {xs:bP Value} (hx:s.heap.get? l=aa {cls:=.type "list",data:=.seq xs n}) (hA:A.handled=ab)
  (h:∀h' tk e,Heap.NewAttrErr s.heap h' e (.ref l) "keys"->R (.error (.ref e)) {s with heap:=h',toks:=tk}) :
  ik .(L) A (.call (.builtin "list.__getattribute__") ⟨[.ref l,.str "keys" u],[]⟩) R s:=by
 obtain⟨hp,g,d,tk,os⟩:=s;have hT:(⟨hp,g,d,tk,os⟩:aG).TypeIs (.ref l) "list":=⟨_,hx,rfl⟩;have f1:=Ie;refine QF y7.plain F.entry_list_ga (y7.check _ _ _ _ _ _ _ _ hT (F.args_list_getattribute_2 _ _) ?_);unfold Builtin.«object.__getattribute__»
 repeat (any_goals (first|assumption|wp_step))
 have hsz:(yt "keys").length+100<=aT:=by rw[PySem.ofString_length];decide
 refine wpAny_raiseAttrError (A:=A.in1) hA h ?_;exact attrMsg_fits .(p) hsz
set_option maxHeartbeats 4000000 in
theorem Mz {l:av} {Q:ar Value->aG->Prop} {E:Value->aG->Prop} {xs:bP Value} (hx:s.heap.get? l=aa {cls:=.type "list",data:=.seq xs n}) (hA:A.handled=ab)
  (h:∀h' tk,(∀b ob,s.heap.get? b=aa ob->h'.get? b=aa ob)->Q ab {s with heap:=h',toks:=tk}) :
  aK .(L) A (getAttr? (.ref l) "keys") Q E s:=by
 obtain⟨hp,g,d,tk,os⟩:=s;have hT:∀tk',(⟨hp,g,d,tk',os⟩:aG).TypeIs (.ref l) "list":=fun _=>⟨_,hx,rfl⟩;have f1:=sub_AttributeError;have f2:=y7.lookup;have f3:=y7.bind (.ref l);have f5:=GY;unfold getAttr? getAttrBy?;refine qw (wpAny_mkText ?_);refine qw (y9 ?_);unfold getAttrBy;refine im (qw (rE (hT _) (qw (uW f2 ?_))));show aK _ _ (QO _ _ _ _ _ _) _ _ _;unfold QO;refine qw (m:=hookBefore (lH "list")) (qy ?_);refine qw (y9 (im ?_));show aK _ _ (QP _ _ _) _ _ _;unfold QP;refine qw (uW f3 ?_);refine ym (JP (s:=⟨hp,g,d,tk+1,os⟩) hx hA fun h' tk' e hn=>?_);obtain⟨t',u',he⟩:=hn.there;have hE:yX ⟨h',g,d,tk',os⟩ (.ref e) "AttributeError":=⟨_,he,rfl⟩;show aK _ _ (QQ _ _ _ _ _ _ _) _ _ _;unfold QQ;refine qw (za hE f1 ?_);simp only[cu];refine qw (m:=hookBehind (lH "list") ab) (uW f5 ?_);unfold hookOrError attributeErrorLeaves;simp only[lU,cu];refine qw (wpAny_throw ?_);refine qw (za hE f1 ?_);simp only[cu];exact qy (h h' tk' hn.keeps)
theorem DH:zb table "dict.update.loop"=aa Builtin.«dict.update.loop»:=QR (by kernel_rfl)
theorem sL:plainId "dict.update.loop"=ai:=by decide +kernel
section
variable {G:bP rn->bP rn->Prop} {P:al->Value->Prop} {St:al->aG->Prop}
noncomputable def AK (prog:bU) (w:cQ) (A:eF) (S:av) (h0:Heap) (P:al->Value->Prop) (n:al) (J:al->a8->Prop):Prop:=
 ∀(i:al) (b:av) (kv vv:Value) (s:aG) (o:a8) (Q:mW->aG->Prop) (E:Value->aG->Prop),i<n->P i (.ref b)->h0.IsTuple b #[kv,vv]->s.heap.get? S=aa o->J i o->(∀b o,b<h0.objs.size->h0.get? b=aa o->s.heap.get? b=aa o)->
  (∀h' tk o',s.toks<=tk->ii S s.heap h'->h'.get? S=aa o'->J (i+1) o'->Q () {s with heap:=h',toks:=tk})->aK .(L) A (dictSet S kv vv) Q E s
theorem Oz (W:WalksS prog w A.in1 I fp wr G n P St) (S:av) (hSf:S∉fp) (h0:Heap) (hS0:h0.objs.size<=S) (hw0:∀b∈wr,h0.objs.size<=b) (J:al->a8->Prop) (hadd:AK prog w A.in1 S h0 P n J) (hP:∀i v,P i v->∃b kv vv,v=.ref b/\h0.IsTuple b #[kv,vv]) :
  ∀(k i:al) (c:ag) (s:aG) (o:a8),n-i=k->i<=n->St i s->s.heap.get? S=aa o->J i o->(∀b o,b<h0.objs.size->h0.get? b=aa o->s.heap.get? b=aa o)->
   (∀s' o',Moved (S::wr) G s s'->s'.heap.get? S=aa o'->J n o'->R (.ok (.ret .none)) s')->
   ik .(L) A (.builtin "dict.update.loop" ⟨[.ref S,.ref I,kD c,.none],[]⟩) R s:=by
 have hSw:S∉wr:=fun h=>hSf (W.sub _ h);have hsub:∀b∈wr,b∈S::wr:=fun b hb=>qh _ hb;have keep:∀{h h':Heap},(∀b o,b<h0.objs.size->h0.get? b=aa o->h.get? b=aa o)->(∀b o,b∉S::wr->h.get? b=aa o->h'.get? b=aa o)->∀b o,b<h0.objs.size->h0.get? b=aa o->h'.get? b=aa o:=fun q1 q2 b o hb e=>q2 b o (fun z=>by
  rcases cA.mp z with z|z
  .rw[z] at hb;exact bz hb (Ez.mpr hS0)
  .exact bz hb (Ez.mpr (hw0 b z))) (q1 b o hb e)
 intro k
 induction k with
 |zero=>
  intro i c s o hk hi hst hS hJ hB hR;have hin:i=n:=by omega
  subst hin;refine rY DH ?_;rw[uV sL _];show aK _ A.in1 (jI (.ref I) >>= _) _ _ s;refine qw (W.done s _ _ hst fun s' hm=>?_);show aK _ A.in1 (Sj S [] >>= _) _ _ s';exact qw (qy (qy (hR s' o (hm.mono hsub) (hm.heap S _ hSw hS) hJ)))
 |succ k ih=>
  intro i c s o hk hi hst hS hJ hB hR;have hlt:i<n:=by omega
  refine rY DH ?_;rw[uV sL _];show aK _ A.in1 (jI (.ref I) >>= _) _ _ s;refine qw (W.item i s _ _ hlt hst fun v s' hPv hst' hm=>?_);obtain⟨b,kv,vv,rfl,hb⟩:=hP i v hPv;have hB':=keep hB fun b o hb e=>hm.heap b o (fun z=>hb (hsub b z)) e;obtain⟨ob,hob,hoc,nn,hod⟩:=hb;have hob':s'.heap.get? b=aa ob:=hB' b ob (qu hob) hob;have hTb:s'.TypeIs (.ref b) "tuple":=⟨_,hob',hoc⟩;show aK _ A.in1 (jG [ci b] _ >>= _) _ _ s';refine qw (im ?_);refine qw ?_;refine wpAny_tryCatch ?_;unfold Sk;refine qw (rE hTb ?_);rw[qW .(h)];refine qw (EN hob' hod (qy ?_));show aK _ A.in1 (jG [kv,vv] (dictSet S kv vv)) _ _ s';refine im (hadd i b kv vv s' o _ _ hlt hPv ⟨ob,hob,hoc,nn,hod⟩ (hm.heap S _ hSw hS) hJ hB' fun h' tk o' htk hsb hS' hJ'=>?_);refine qy ⟨yW sL _,ih (i+1) (c+1) _ o' .(e) hlt (W.frame _ s' _ _ hst' htk fun b hb o e=>?_) hS' hJ' ?_ fun s'' o'' hm'' hS'' hJ''=>?_⟩
  .rw[hsb.2 b (fun h:b=S=>hSf (by rw[←h];exact hb))];exact e
  .refine keep hB' fun b o hb e=>?_;show h'.get? b=aa o;rw[hsb.2 b (fun h:b=S=>hb (by rw[h];exact qg))];exact e
  .refine hR s'' o'' (QC W.gtrans ((hm.mono hsub).then_heap htk fun b o hb e=>?_) hm'') hS'' hJ'';rw[hsb.2 b (fun h:b=S=>hb (by rw[h];exact qg))];exact e
end
section
variable {E:Value->aG->Prop}
theorem call_dict_gen {l:av} {c:al} (hh:A.handled=ab) (hl:s.heap.get? l=aa {cls:=.type "list",data:=.seq items c}) (J:al->a8->Prop)
  (hJ0:J 0 {cls:=.type "dict",data:=.dict #[]})
  (hadd:∀A':eF,A'.units<=A.units+16->AK prog w A' s.heap.objs.size s.heap (fun i v=>items[i]?=aa v) items.size J)
  (hP:∀(i:al) (v:Value),items[i]?=aa v->∃b kv vv,v=.ref b/\s.heap.IsTuple b #[kv,vv])
  (h:∀(h':Heap) (tk:al) (o:a8),h'.get? s.heap.objs.size=aa o->J items.size o->
   (∀b o,b<s.heap.objs.size->s.heap.get? b=aa o->h'.get? b=aa o)->Q (.ref s.heap.objs.size) {s with heap:=h',toks:=tk}) :
  aK .(L) A (call (.type "dict") [.ref l]) Q E s:=by
 refine callType_codes (Q₁:=fun obj s₁=>obj=.ref s.heap.objs.size/\s₁={s with heap:=s.heap.push {cls:=.type "dict",data:=.dict #[]} }) F.kt_called_dict (F.kt_typeCall_dict_1 _) F.entry_dict_init (kt_code_dict_new _ ⟨rfl,rfl⟩) ?_;rintro obj s₁ ⟨rfl,rfl⟩;have hnew:(s.heap.push {cls:=.type "dict",data:=.dict #[]}).get? s.heap.objs.size=aa {cls:=.type "dict",data:=.dict #[]}:=qE _ rfl;have hl1:(s.heap.push {cls:=.type "dict",data:=.dict #[]}).get? l=aa {cls:=.type "list",data:=.seq items c}:=qt _ hl;have hT:yX {s with heap:=s.heap.push {cls:=.type "dict",data:=.dict #[]} } (.ref s.heap.objs.size) "dict":=⟨_,hnew,rfl⟩;have hTl:yX {s with heap:=s.heap.push {cls:=.type "dict",data:=.dict #[]} } (.ref l) "list":=⟨_,hl1,rfl⟩;refine⟨hT,F.args_dict_init_2 _ _,?_⟩;unfold Builtin.«dict.__init__»;refine qw ?_;unfold Sl;refine qw (wpAny_notOrdered_dict hT ?_);show aK _ _ (bA (s.heap.objs.size,[ci l])) _ _ _;refine qy ?_;show aK _ _ (QS "dict.__init__" s.heap.objs.size (.ref l) [] .none) _ _ _;unfold QS;refine qw (rE hTl ?_);rw[qW .(h)];refine qw (Mz (s:={s with heap:=s.heap.push {cls:=.type "dict",data:=.dict #[]} }) (A:=A.in1.in1) hl1 hh fun h1 tk1 hk1=>?_);simp only[Option.isNone_none,cu];refine qw (D3 ?_);have hl2:h1.IsList l items:=⟨_,hk1 _ _ hl1,rfl,_,rfl⟩;refine qw (rR (s:={s with heap:=h1,toks:=tk1}) hl2 ?_);refine qy ⟨yW sL _,?_⟩;have hlS:l<s.heap.objs.size:=qu hl;have hsz1:s.heap.objs.size<h1.objs.size:=qu (hk1 _ _ hnew);have hneI:l≠h1.objs.size:=qA (rJ hlS hsz1);have hSf:s.heap.objs.size∉[h1.objs.size,l]:=by simp only[qJ,bW,qH,or_false,rZ];exact⟨qA hsz1,yd hlS⟩
 have old:∀b o,b<s.heap.objs.size->s.heap.get? b=aa o->h1.get? b=aa o:=fun b o _ e=>hk1 _ _ (qt _ e);refine Oz ((uO (A:=A.in1.in1) (by simpa using hh) _ l hneI items).toS) s.heap.objs.size hSf s.heap (qv _) (fun b hb=>?_) J (hadd _ (by show A.units+2<=_;omega)) hP (items.size-0) 0 0 _ _ .(e) (gV _)
  ⟨⟨_,qE _ rfl,rfl,rfl⟩,hl2.push _⟩ (qt _ (hk1 _ _ hnew)) hJ0 (fun b o hb e=>qt _ (old b o hb e)) fun s' o' hm hS' hJ'=>?_
 .have:b=h1.objs.size:=by simpa using hb
  rw[this];exact rm hsz1
 .obtain⟨h',g',d',tk',os'⟩:=s';have eg:g'=s.gens:=hm.gens;have ed:d'=s.drawn:=hm.drawn;have eo:os'=s.os:=hm.os;subst eg;subst ed;subst eo;refine⟨rfl,h h' tk' o' hS' hJ' fun b o hb e=>hm.heap b o ?_ (qt _ (old b o hb e))⟩;simp only[qJ,bW,qH,or_false,rZ];exact⟨qA hb,qA (rJ hb hsz1)⟩
end
end DT
section
variable [eE κ]
noncomputable def mrg (kvs ps:ac (κ×V)):ac (κ×V):=ps.foldl (fun acc kv=>dM acc kv.1 kv.2) kvs
theorem A6 (kvs ps:ac (κ×V)) (p:κ×V):mrg kvs (ps++[p])=dM (mrg kvs ps) p.1 p.2:=by unfold mrg;rw[yY];rfl
theorem NO (kvs:ac (κ×V)) (k:κ) (v:V):(dM kvs k v).length<=kvs.length+1:=by
 unfold dM;split
 .rw[qf];omega
 .rw[qj,qT];omega
theorem pP:∀(ps kvs:ac (κ×V)),(mrg kvs ps).length<=kvs.length+ps.length
 |[],kvs=>qv _
 |p::ps,kvs=>by have h1:=pP ps (dM kvs p.1 p.2);have h2:=NO kvs p.1 p.2;show(mrg (dM kvs p.1 p.2) ps).length<=_;rw[qi];omega
end
noncomputable def II:ac V->Hp->VK->Prop:=fun xs H Q=>∃(a:av) (vs:ac V) (ps:ac (Key×V)),xs=[.ref a]/\H a=aa (.lst vs)/\vs.length=ps.length/\ps.length<=1000/\(∀(i:al) p,ps[i]?=aa p->∃b,vs[i]?=aa (.ref b)/\H b=aa (.tup [kV p.1,p.2])) /\
 ∀q,H q=ab->Q (.ref q) (upd H q (.dK (mrg [] ps)))
theorem Cw {b:av} {x y:V} (I:Inv X pins σ H s) (hb:H b=aa (.tup [x,y])):∃u v,bD x u/\bD y v/\s.heap.IsTuple b #[u,v]:=by
 obtain⟨its,r,p,_⟩:=I.tuple (.inl (.inl hb));cases r with
 |cons r1 r2=>
  cases r2 with
  |cons r2 r3=>
   cases r3;exact⟨_,_,r1,r2,p⟩
theorem tuple_inj {h:Heap} {b:av} {x y:bP Value} (p:h.IsTuple b x) (q:h.IsTuple b y):x=y:=by obtain⟨o,h1,_,n,h2⟩:=p;obtain⟨o',g1,_,m,g2⟩:=q;rw[h1] at g1;cases g1;rw[h2] at g2;cases g2;rfl
theorem JF (hc:X.calm=ai) (hu:X.A.units+66<cr):eQ X (.type "dict") II:=by
 intro pins s σ H xs us Q I r h;obtain⟨a,vs,ps,rfl,ha,hl,hz,hp,q⟩:=h;obtain⟨u,rfl,ru⟩:=fu r;cases ru;obtain⟨z,its,n,rv,hlen,e⟩:=I.lstM ha;have hsz:its.toArray.size=ps.length:=by rw[qz,←hlen,hl]
 have hit:∀(i:al) (v:Value),its.toArray[i]?=aa v->∃p b u w,ps[i]?=aa p/\v=.ref b/\bD (kV p.1) u/\bD p.2 w/\s.heap.IsTuple b #[u,w]:=fun i v hv=>by
  have hi:i<ps.length:=by rw[←hsz];exact(gF.mp hv).1
  obtain⟨b,hb1,hb2⟩:=hp i ps[i] (by simp[hi]);obtain⟨u2,hu2,ru2⟩:=rv.get hb1;have hv':its[i]?=aa v:=by simpa using hv
  rw[hu2] at hv';cases hv';cases ru2;obtain⟨u,w,r1,r2,r3⟩:=Cw I hb2;exact⟨ps[i],b,u,w,by simp[hi],rfl,r1,r2,r3⟩
 refine DT.call_dict_gen (I.ok.hd hc) e (fun i o=>∃vs',KV (mrg [] (ps.take i)) vs'/\o.IsDictOf (cN X.prog X.w) vs') ?_ (fun A' hA' i b kv vv sh o Q' E' hi hv hb ho hJ hB hQ=>?_) (fun i v hv=>?_) fun h' tk o ho hJ hk=>?_
 .obtain⟨o,ho,hd⟩:=zc.mp (P4 (knd:=cN X.prog X.w) s.heap);have:o={cls:=.type "dict",data:=.dict #[]}:=by have:=qE s.heap (o:={cls:=.type "dict",data:=.dict #[]}) rfl;rw[this] at ho;exact(qF ho).symm
  subst this;exact⟨[],.nil,hd⟩
 .obtain⟨p,b',u,w,h1,h2,h3,h4,h5⟩:=hit i _ hv;cases h2;have e2:=tuple_inj hb h5;have e3:kv=u/\vv=w:=by simpa using e2
  obtain⟨rfl,rfl⟩:=e3;obtain⟨vs',k1,k2⟩:=hJ;have hle:vs'.length<=1000:=by have q1:=k1.length;have q2:=pP (ps.take i) ([]:ac (Key×V));rw[qC,ql] at q2;omega
  refine wpAny_dictSet_pairs (jT h3) (zc.mpr ⟨o,ho,k2⟩) (fun h' hd' hsb=>?_) (by rw[fH];omega);obtain⟨o',ho',hd''⟩:=zc.mp hd';refine hQ h' _ o' (lO _) hsb ho' ⟨_,?_,hd''⟩;have htk:ps.take (i+1)=ps.take i++[p]:=by rw[nk,h1];rfl
  rw[htk,A6];exact k1.put p.1 h4
 .obtain⟨p,b,u,w,h1,h2,h3,h4,h5⟩:=hit i v hv;exact⟨b,u,w,h2,h5⟩
 .obtain⟨vs',k1,k2⟩:=hJ;rw[hsz,jP] at k1;refine⟨.ref s.heap.objs.size,_,I.laid (a:=s.heap.objs.size) (o:=.dK (mrg [] ps)) (fun b u e=>hk b u (qu e) e) (qv _) ⟨?_,?_,vs',k1,zc.mpr ⟨o,ho,k2⟩⟩,rfl,q _ I.fresh⟩
  .have:=pP ps ([]:ac (Key×V));rw[ql] at this;rw[fH];omega
  .exact lG.mpr (df (qA I.big))
noncomputable def Kn:ac V->Hp->VK->Prop:=fun xs H Q=>∃(a:av) (vs:ac V) (ps:ac (ac Key×V)),xs=[.ref a]/\H a=aa (.lst vs)/\vs.length=ps.length/\ps.length<=1000/\(∀(i:al) p,ps[i]?=aa p->∃b kb,vs[i]?=aa (.ref b)/\H b=aa (.tup [.ref kb,p.2])/\H kb=aa (.tup (p.1.map kV))) /\
 ∀q,H q=ab->Q (.ref q) (upd H q (.dT (mrg [] ps)))
theorem HC {P:ac Key->av->Prop} (hP:∀k b,H b=aa (.tup (k.map kV))->P k b):∀{kvs:ac (ac Key×V)} {xs:ac (ac Key×av×Value)},KT H kvs xs->∀x∈xs,P x.1 x.2.1:=by
 intro kvs xs q
 induction q with
 |nil=>intro x hx;cases hx
 | @cons p y ps ys hq t ih=>
  intro x hx;rcases cA.mp hx with rfl|hx
  .exact hP _ _ (by rw[←hq.1];exact hq.2.1)
  .exact ih x hx
theorem O9 (hc:X.calm=ai) (hu:X.A.units+66<cr):eQ X (.type "dict") Kn:=by
 intro pins s σ H xs us Q I r h;obtain⟨a,vs,ps,rfl,ha,hl,hz,hp,q⟩:=h;obtain⟨u,rfl,ru⟩:=fu r;cases ru;obtain⟨z,its,n,rv,hlen,e⟩:=I.lstM ha;have hsz:its.toArray.size=ps.length:=by rw[qz,←hlen,hl]
 have hit:∀(i:al) (v:Value),its.toArray[i]?=aa v->∃p b kb w,ps[i]?=aa p/\v=.ref b/\H kb=aa (.tup (p.1.map kV))/\bD p.2 w/\s.heap.IsTuple b #[.ref kb,w]:=fun i v hv=>by
  have hi:i<ps.length:=by rw[←hsz];exact(gF.mp hv).1
  obtain⟨b,kb,hb1,hb2,hb3⟩:=hp i ps[i] (by simp[hi]);obtain⟨u2,hu2,ru2⟩:=rv.get hb1;have hv':its[i]?=aa v:=by simpa using hv
  rw[hu2] at hv';cases hv';cases ru2;obtain⟨u,w,r1,r2,r3⟩:=Cw I hb2;cases r1;exact⟨ps[i],b,kb,w,by simp[hi],rfl,hb3,r2,r3⟩
 have isk:∀{h':Heap},(∀b o,b<s.heap.objs.size->s.heap.get? b=aa o->h'.get? b=aa o)->∀k b,H b=aa (.tup (k.map kV))->(kz (cN X.prog X.w)).is h' k b:=fun hB k b hb=>ST.IsTupleKey.mono (kj I.hok hb) fun o e=>hB _ _ (qu e) e;refine DT.call_dict_gen (I.ok.hd hc) e (fun i o=>∃xs',KT H (mrg [] (ps.take i)) xs'/\∃es ep,o.ExactDict/\o.data=.dict es ep/\es.toList=xs'.map (entryOfKey (kz (cN X.prog X.w)))/\(xs'.map (·.1)).Nodup) ?_ (fun A' hA' i b kv vv sh o Q' E' hi hv hb ho hJ hB hQ=>?_) (fun i v hv=>?_) fun h' tk o ho hJ hk=>?_
 .exact⟨[],.nil,#[],0,⟨rfl,rfl,rfl⟩,rfl,rfl,List.nodup_nil⟩
 .obtain⟨p,b',kb,w,h1,h2,h3,h4,h5⟩:=hit i _ hv;cases h2;have e2:=tuple_inj hb h5;have e3:kv=.ref kb/\vv=w:=by simpa using e2
  obtain⟨rfl,rfl⟩:=e3;obtain⟨xs',k1,es,ep,k2,k3,k4,k5⟩:=hJ;have hle:xs'.length<=1000:=by have q1:=Paired.length k1;have q2:=pP (ps.take i) ([]:ac (ac Key×V));rw[qC,ql] at q2;omega
  refine wpAny_dictSet_heap (knd:=kz (cN X.prog X.w)) (show A'.units<cr by omega) (isk hB _ _ h3) ⟨o,es,ep,ho,k2,k3,k4,HC (isk hB) k1,k5⟩ (fun h' hd' hsb=>?_) (by rw[fH];omega);obtain⟨o',es',ep',ho',w2,w3,w4,_,w5⟩:=hd';refine hQ h' _ o' (EF _ _) hsb ho' ⟨_,?_,es',ep',w2,w3,w4,w5⟩;have htk:ps.take (i+1)=ps.take i++[p]:=by rw[nk,h1];rfl
  rw[htk,A6];exact k1.put p.1 h3 h4
 .obtain⟨p,b,kb,w,h1,h2,h3,h4,h5⟩:=hit i v hv;exact⟨b,_,w,h2,h5⟩
 .obtain⟨xs',k1,es,ep,k2,k3,k4,k5⟩:=hJ;rw[hsz,jP] at k1;refine⟨.ref s.heap.objs.size,_,I.laid (a:=s.heap.objs.size) (o:=.dT (mrg [] ps)) (fun b u e=>hk b u (qu e) e) (qv _) ⟨?_,?_,xs',k1.keeps fun b ys e=>?_,o,es,ep,ho,k2,k3,k4,k5⟩,rfl,q _ I.fresh⟩
  .have:=pP ps ([]:ac (ac Key×V));rw[ql] at this;rw[fH];omega
  .exact lG.mpr (df (qA I.big))
  .rw[a6 (ce e I.fresh)];exact e
noncomputable def nG:ac D->ar (ac (Key×D))
 |[]=>aa []
 |.tup [k,v]::r=>(gG k).bind fun kk=>(nG r).map ((kk,v)::·)
 |_::_=>ab
noncomputable def mr:ac D->ar (ac (ac Key×D))
 |[]=>aa []
 |.tup [.tup t,v]::r=>(gz t).bind fun kk=>(mr r).map ((kk,v)::·)
 |_::_=>ab
noncomputable def sS [eE κ] (ps:ac (κ×D)):ac (κ×D):=ps.foldl (fun acc kv=>eC acc kv.1 kv.2) []
noncomputable def fT:ac D->ar D
 |[.lst l]=>if l.length<=1000 then (nG l).map fun ps=>.dk (sS ps) else ab
 |_=>ab
noncomputable def tP:ac D->ar D
 |[.lst l]=>if l.length<=1000 then (mr l).map fun ps=>.dt (sS ps) else ab
 |_=>ab
theorem vF {κ:Type} [eE κ] {K:bh} {G:Hp}:∀{us:ac (κ×V)} {kvs:ac (κ×D)} {acc:ac (κ×V)} {acd:ac (κ×D)},us.map (·.1)=kvs.map (·.1)->Reps Γ K G (us.map (·.2)) (kvs.map (·.2))->acc.map (·.1)=acd.map (·.1)->Reps Γ K G (acc.map (·.2)) (acd.map (·.2))->
  (mrg acc us).map (·.1)=(kvs.foldl (fun acc kv=>eC acc kv.1 kv.2) acd).map (·.1)/\Reps Γ K G ((mrg acc us).map (·.2)) ((kvs.foldl (fun acc kv=>eC acc kv.1 kv.2) acd).map (·.2))
 |[],[],_,_,_,_,e,r=>⟨e,r⟩
 |[],_::_,_,_,e,_,_,_=>by cases e
 |_::_,[],_,_,e,_,_,_=>by cases e
 |(k1,v)::us,(k2,d)::kvs,acc,acd,e,r,e0,r0=>by
  have e1:k1=k2:=(jN e).1;subst e1;have r:Reps Γ K G (v::us.map (·.2)) (d::kvs.map (·.2)):=r;cases r with
  |cons r1 r2=>
   obtain⟨w1,w2⟩:=sK (k:=k1) r1 e0 r0;exact vF (us:=us) (kvs:=kvs) (jN e).2 r2 w1 w2
theorem Am {K:bh} {G H:Hp} (gh:bK G H):∀{vs:ac V} {ds:ac D} {ps:ac (Key×D)},Reps Γ K G vs ds->nG ds=aa ps->
  ∃us:ac (Key×V),vs.length=us.length/\us.map (·.1)=ps.map (·.1)/\Reps Γ K G (us.map (·.2)) (ps.map (·.2))/\∀(i:al) p,us[i]?=aa p->∃b,vs[i]?=aa (.ref b)/\H b=aa (.tup [kV p.1,p.2])
 |_,[],ps,r,h=>by cases r;cases h;exact⟨[],rfl,rfl,.nil,fun i p e=>by simp at e⟩
 |_,d::ds,ps,.cons h1 h2,h=>by
  unfold nG at h;split at h
  .rename_i heq;cases heq
  .rename_i heq;cases heq;obtain⟨kk,hk,h⟩:=oBd h;obtain⟨zs,hz,rfl⟩:=oMd h;obtain⟨us,q1,q2,q3,q4⟩:=Am gh h2 hz;obtain⟨a,ws,rfl,ha,ra⟩:=h1.tup_inv;obtain⟨x,y,rfl,rx,ry⟩:=ra.two;have ex:=mO rx hk;subst ex;refine⟨(kk,y)::us,by rw[qi,qi,q1],by simp[q2],.cons ry q3,fun i p e=>?_⟩;cases i with
   |zero=>cases e;exact⟨a,rfl,gh _ _ ha⟩
   |succ i=>exact q4 i p e
  .cases h
theorem Dm {K:bh} {G H:Hp} (gh:bK G H):∀{vs:ac V} {ds:ac D} {ps:ac (ac Key×D)},Reps Γ K G vs ds->mr ds=aa ps->
  ∃us:ac (ac Key×V),vs.length=us.length/\us.map (·.1)=ps.map (·.1)/\Reps Γ K G (us.map (·.2)) (ps.map (·.2))/\∀(i:al) p,us[i]?=aa p->∃b kb,vs[i]?=aa (.ref b)/\H b=aa (.tup [.ref kb,p.2])/\H kb=aa (.tup (p.1.map kV))
 |_,[],ps,r,h=>by cases r;cases h;exact⟨[],rfl,rfl,.nil,fun i p e=>by simp at e⟩
 |_,d::ds,ps,.cons h1 h2,h=>by
  unfold mr at h;split at h
  .rename_i heq;cases heq
  .rename_i heq;cases heq;obtain⟨kk,hk,h⟩:=oBd h;obtain⟨zs,hz,rfl⟩:=oMd h;obtain⟨us,q1,q2,q3,q4⟩:=Dm gh h2 hz;obtain⟨a,ws,rfl,ha,ra⟩:=h1.tup_inv;obtain⟨x,y,rfl,rx,ry⟩:=ra.two;obtain⟨kb,ks,rfl,hkb,rk⟩:=rx.tup_inv;have ex:=mx rk hk;subst ex;refine⟨(kk,y)::us,by rw[qi,qi,q1],by simp[q2],.cons ry q3,fun i p e=>?_⟩;cases i with
   |zero=>cases e;exact⟨a,kb,rfl,gh _ _ ha,gh _ _ hkb⟩
   |succ i=>exact q4 i p e
  .cases h
theorem nP (hc:X.calm=ai) (hu:X.A.units+66<cr):TyD Γ X "dict" fT:=⟨_,JF hc hu,fun {G H vs ds z} gh r h Q k=>by
 unfold fT at h;split at h
 .split at h
  .rename_i hz;obtain⟨ps,hp,rfl⟩:=oMd h;obtain⟨v,rfl,r1⟩:=r.one;obtain⟨a,ws,rfl,ha,ra⟩:=r1.lst_inv;obtain⟨us,q1,q2,q3,q4⟩:=Am gh ra hp;refine⟨a,ws,us,rfl,gh _ _ ha,q1,by rw[←q1,ra.length];exact hz,q4,fun p hp=>?_⟩;have s:=Step.new (o:=.dK (mrg [] us)) gh hp;obtain⟨w1,w2⟩:=vF (acc:=[]) (acd:=[]) q2 q3 rfl .nil;exact k _ _ _ s (.dk cc w1 (w2.mono s.gg))
  .cases h
 .cases h⟩
theorem HK (hc:X.calm=ai) (hu:X.A.units+66<cr):TyD Γ X "dict" tP:=⟨_,O9 hc hu,fun {G H vs ds z} gh r h Q k=>by
 unfold tP at h;split at h
 .split at h
  .rename_i hz;obtain⟨ps,hp,rfl⟩:=oMd h;obtain⟨v,rfl,r1⟩:=r.one;obtain⟨a,ws,rfl,ha,ra⟩:=r1.lst_inv;obtain⟨us,q1,q2,q3,q4⟩:=Dm gh ra hp;refine⟨a,ws,us,rfl,gh _ _ ha,q1,by rw[←q1,ra.length];exact hz,q4,fun p hp=>?_⟩;have s:=Step.new (o:=.dT (mrg [] us)) gh hp;obtain⟨w1,w2⟩:=vF (acc:=[]) (acd:=[]) q2 q3 rfl .nil;exact k _ _ _ s (.dt cc w1 (w2.mono s.gg))
  .cases h
 .cases h⟩
theorem Dfn.none {P:bU} {k:al} (F:Dfn K mg x st)
  (hb:∀(kV doc pm:Value) (an:ar av) (cdv ct:Value) (us:ac Value),us.length=ps.length->lN (gY x x (ig st) (eO st) (aU st) .none kV doc pm an cdv ct) ⟨us,[]⟩=bA (ps.zip us))
 : Cal Γ P w K mg base x ps.length k (fun _=>ab):=by
 obtain⟨f,fd,h1,h2⟩:=F.ex;refine⟨f,fd,ps,⟨fun vs H Q E h=>?_,fun A outer s H args us vs Q E hr I b v h=>?_⟩,h2,h1.kp,h1.binds hb⟩
 .obtain⟨_,_,_,_,_,_,z,_⟩:=h;cases z
 .obtain⟨_,_,_,_,_,_,z,_⟩:=h;cases z
noncomputable def orG (g g':D->D->ar D) (x y:D):ar D:=match g x y with
 |some z=>aa z
 |none=>g' x y
variable {z:D}
section
variable {a:Expr} {g g':D->D->ar D}
theorem HR {x:D} (h:orG g g' x y=aa z):g x y=aa z\/g' x y=aa z:=by
 unfold orG at h;split at h
 .rename_i q;cases h;exact .inl q
 .exact .inr h
theorem CmpD.or (h:CmpD Γ X op g) (h':CmpD Γ X op g'):CmpD Γ X op (orG g g'):=by
 obtain⟨r,o,d⟩:=h.ex;obtain⟨r',o',d'⟩:=h'.ex;refine⟨_,o.or o',fun {G H v u x y z} gh r1 r2 q Q k=>?_⟩;rcases HR q with q|q
 .exact .inl (d gh r1 r2 q Q k)
 .exact .inr (d' gh r1 r2 q Q k)
noncomputable def eqA:=orG eqD ph
noncomputable def neA:=orG neD pA
theorem mR (hu:X.A.units+64<cr):CmpD Γ X .Eq eqA:=g0.or (Nr hu)
theorem kY (hu:X.A.units+64<cr):CmpD Γ X .NotEq neA:=JV.or (Mt hu)
theorem DfnM.mk' {f:av} {c m:ah} {kV:Value} (a:dD K (.ref C) m=aa (aa (.ref f))) (i:uH K (.ref f)=ai)
  (l:K.lookup f=aa ⟨oc,od,.func (gY m qual (ig st) (eO st) (aU st) .none kV doc pm an cdv ct),osl⟩) (cd:rC K cdv qual=ai) (k:iN K (.ref f)=ai):DfnM K C c m qual st:=⟨f,_,v5 l cd k,a,i⟩
end
section
variable {f1 f2 f3 f4 f5 f6 f7:FE}
theorem ln1:∀ρ ds,ae f1 ak ρ=aa ds->ds.length=1:=my fun _ _ h=>HA h
theorem ln2:∀ρ ds,ae f1 (ae f2 ak) ρ=aa ds->ds.length=2:=my ln1
theorem ln3:∀ρ ds,ae f1 (ae f2 (ae f3 ak)) ρ=aa ds->ds.length=3:=my ln2
theorem ln4:∀ρ ds,ae f1 (ae f2 (ae f3 (ae f4 ak))) ρ=aa ds->ds.length=4:=my ln3
theorem ln5:∀ρ ds,ae f1 (ae f2 (ae f3 (ae f4 (ae f5 ak)))) ρ=aa ds->ds.length=5:=my ln4
theorem ln6:∀ρ ds,ae f1 (ae f2 (ae f3 (ae f4 (ae f5 (ae f6 ak))))) ρ=aa ds->ds.length=6:=my ln5
theorem ln7:∀ρ ds,ae f1 (ae f2 (ae f3 (ae f4 (ae f5 (ae f6 (ae f7 ak)))))) ρ=aa ds->ds.length=7:=my ln6
end
theorem At.setOdk (A:At Γ K G₀ H₀ G H ρ σ) (ha:H a=ab):At Γ K G₀ H₀ G (upd H a (.dK [])) (ρ.set i (aa (.odk []))) (σ.set i (aa (.ref a))):=by have h0:H₀ a=ab:=A.st.hh.free ha;have hg:G a=ab:=A.gh.free ha;refine A.put (fp:=[]) (fp':=[a]) (.inl rfl) (fun b o e _=>by rw[a6 (ce e ha)];exact e) (.odk (us:=[]) (kvs:=[]) h0 hg cc rfl .nil) (fun b hb=>.inr (by rw[bW.mp hb];exact ha)) (.refl _) (fun b o e=>?_) (fun _ _ _ _=>rfl) (fun b hb=>by cases hb);rw[a6 (ce e hg)];exact A.gh b o e
theorem At.chOdt (A:At Γ K G₀ H₀ G H ρ σ) {kvs kvs':ac (ac Key×D)} {us':ac (ac Key×V)} (hi:ρ[i]?=aa (aa (.odt kvs))) (ha:σ[i]?=aa (aa (.ref a))) (e:us'.map (·.1)=kvs'.map (·.1)) (r:Reps Γ K G (us'.map (·.2)) (kvs'.map (·.2))):At Γ K G₀ H₀ G (upd H a (.dT us')) (ρ.set i (aa (.odt kvs'))) σ:=by
 obtain⟨v,fp,h1,h2⟩:=A.get hi;rw[ha] at h1;cases h1;cases h2 with
 |odt q1 q2 q3 q4 q5=>
  refine A.ch hi ha (.odt q1 q2 q3 q4 q5) (fun b o e hb=>?_) (.odt q1 q2 cc e r) (fun b hb=>.inl hb) (.refl _) (fun b o e=>?_) (fun _ _ _ _=>rfl)
  .rw[a6 (fun z=>hb (bW.mpr z))];exact e
  .rw[a6 (ce e q2)];exact A.gh b o e
theorem At.chOdk (A:At Γ K G₀ H₀ G H ρ σ) {kvs kvs':ac (Key×D)} {us':ac (Key×V)} (hi:ρ[i]?=aa (aa (.odk kvs))) (ha:σ[i]?=aa (aa (.ref a))) (e:us'.map (·.1)=kvs'.map (·.1)) (r:Reps Γ K G (us'.map (·.2)) (kvs'.map (·.2))):At Γ K G₀ H₀ G (upd H a (.dK us')) (ρ.set i (aa (.odk kvs'))) σ:=by
 obtain⟨v,fp,h1,h2⟩:=A.get hi;rw[ha] at h1;cases h1;cases h2 with
 |odk q1 q2 q3 q4 q5=>
  refine A.ch hi ha (.odk q1 q2 q3 q4 q5) (fun b o e hb=>?_) (.odk q1 q2 cc e r) (fun b hb=>.inl hb) (.refl _) (fun b o e=>?_) (fun _ _ _ _=>rfl)
  .rw[a6 (fun z=>hb (bW.mpr z))];exact e
  .rw[a6 (ce e q2)];exact A.gh b o e
noncomputable def GM:Slot->ar D
 |.odt kvs=>aa (.dt kvs)
 |.odk kvs=>aa (.dk kvs)
 |_=>ab
theorem At.frzD (A:At Γ K G₀ H₀ G H ρ σ) {s:Slot} (hi:ρ[i]?=aa (aa s)) (hd:GM s=aa d):∃G',bK G G'/\At Γ K G₀ H₀ G' H (ρ.set i (aa (.sh d))) σ:=by
 obtain⟨v,fp,h1,h2⟩:=A.get hi;cases h2 with
 |sh _=>cases hd
 |own _ _ _ _=>cases hd
 |obj _ _ _ _ _ _ _=>cases hd
 |tlo _ _ _ _ _ _=>cases hd
 |oll _ _ _ _ _=>cases hd
 |pin _=>cases hd
 |objd _ _ _ _ _ _ _ _ _ _ _ _=>cases hd
 |odk q1 q2 q3 q4 q5=>
  cases hd;rename_i a us kvs;have sm:bK G (upd G a (.dK us)):=fun b o e=>by rw[a6 (ce e q2)];exact e
  refine⟨upd G a (.dK us),sm,A.ch hi h1 (.odk q1 q2 q3 q4 q5) (fun b o e hb=>e) (.sh (.dk cc q4 (q5.mono sm))) (fun b hb=>by cases hb) sm (fun b o e=>?_) (fun b o e hb=>?_)⟩
  .by_cases hb:b=a
   .subst hb;rw[cc] at e;cases e;exact q3
   .rw[a6 hb] at e;exact A.gh b o e
  .rw[a6 (fun z=>hb (bW.mpr z))]
 |odt q1 q2 q3 q4 q5=>
  cases hd;rename_i a us kvs;have sm:bK G (upd G a (.dT us)):=fun b o e=>by rw[a6 (ce e q2)];exact e
  refine⟨upd G a (.dT us),sm,A.ch hi h1 (.odt q1 q2 q3 q4 q5) (fun b o e hb=>e) (.sh (.dt cc q4 (q5.mono sm))) (fun b hb=>by cases hb) sm (fun b o e=>?_) (fun b o e hb=>?_)⟩
  .by_cases hb:b=a
   .subst hb;rw[cc] at e;cases e;exact q3
   .rw[a6 hb] at e;exact A.gh b o e
  .rw[a6 (fun z=>hb (bW.mpr z))]
section
variable {a:Expr} {fv:FE} {dp:dn}
noncomputable def p7 (i:al):FS:=fun ρ=>aa (.nx,ρ.set i (aa (.odk [])))
theorem uk (i:al) (hN:X.N.Nodup) (hi:X.N[i]?=aa x:=by rfl) (hx:Loc X.env.scope x:=by first|exact dy rfl|exact cP rfl) (hs:fW (.Dict [] [] dp) (aa (.Name x pos')) pos.line X.env=bA ao:=by rfl) (hf:X.fn x=ai\/X.env.scope.names.lookup x=aa .local:=by first|exact .inl rfl|exact .inr rfl|assumption) :
  DS Γ X (.Assign [.Name x pos'] (.Dict [] [] dp) pos) (p7 i):=⟨(t6 hN hi hx wZ hs hf).imp fun E σ H=>by
 rintro⟨G₀,H₀,G,ρ,fl,ρ',A,h,k⟩ p hp;cases h;exact k _ G _ (.refl _) (A.setOdk hp)⟩
noncomputable def fD (i:al) (fk fv:FE):FS:=fun ρ=>(fv ρ).bind fun d=>(fk ρ).bind fun kd=>match ρ[i]? with
 |some (aa (.odt kvs))=>match kd with
  |.tup t=>(gz t).bind fun ks=>if kvs.length<100000 then aa (.nx,ρ.set i (aa (.odt (eC kvs ks d)))) else ab
  |_=>ab
 |some (aa (.odk kvs))=>(gG kd).bind fun k=>if kvs.length<100000 then aa (.nx,ρ.set i (aa (.odk (eC kvs k d)))) else ab
 |_=>ab
theorem lX (i:al) (hu:X.A.units+66<cr) (hk:DE Γ X ke fk) (hv':DE Γ X value fv) (hN:X.N[i]?=aa x:=by rfl) (hv:Vis X.env.scope x:=by first|exact dy rfl|exact cP (dy rfl)|exact cP (cP rfl)) (hd:.(H)=ao:=by decide)
  (hcd:(x==("__classdict__":ah))=ao:=by decide) (hs:fW value (aa (.Subscript (.Name x vp) ke pos')) pos.line X.env=bA ao:=by rfl) :
  DS Γ X (.Assign [.Subscript (.Name x vp) ke pos'] value pos) (fD i fk fv):=⟨(Ci .(e) (i7 hN hv hd hcd) hk.1 hv'.1 hs).imp fun E σ H=>by
 rintro⟨G₀,H₀,G,ρ,flw,ρ',A,h,k⟩;unfold fD at h;obtain⟨d,hd,ha⟩:=oBd h;clear h;obtain⟨kd,hkd,hq⟩:=oBd ha;clear ha;refine⟨G₀,H₀,G,ρ,d,A,hd,fun v G1 H1 s1 r1=>?_⟩;have A1:=A.step s1;split at hq
 .rename_i kvs hi;split at hq
  .rename_i t;obtain⟨ks,hks,hq⟩:=oBd hq;split at hq
   .rename_i hz;cases hq;obtain⟨w,fp,h1,h2⟩:=A1.get hi;cases h2 with
    |odt q1 q2 q3 q4 q5=>
     rename_i a us;refine⟨_,h1,G₀,H₀,G1,ρ,_,A1,hkd,fun u G2 H2 s2 r2=>?_⟩;have A2:=A1.step s2;obtain⟨bb,vs,rfl,hb,rb⟩:=r2.tup_inv;have ev:=mx rb hks;subst ev;have ha2:H2 a=aa (.dT us):=s2.hh _ _ q3;have hlen:us.length=kvs.length:=by simpa using cI gX q4
     obtain⟨w1,w2⟩:=sK (k:=ks) (r1.mono s2.gg) q4 (q5.mono s2.gg);exact⟨a,_,rfl,jU.t ha2 (s2.gh _ _ hb) (by have:=fH;omega),k σ G2 _ (s1.gg.trans s2.gg) (A2.chOdt hi h1 w1 w2)⟩
   .cases hq
  .cases hq
 .rename_i kvs hi;obtain⟨kk,hkk,hq⟩:=oBd hq;split at hq
  .rename_i hz;cases hq;obtain⟨w,fp,h1,h2⟩:=A1.get hi;cases h2 with
   |odk q1 q2 q3 q4 q5=>
    rename_i a us;refine⟨_,h1,G₀,H₀,G1,ρ,_,A1,hkd,fun u G2 H2 s2 r2=>?_⟩;have A2:=A1.step s2;have eu:=mO r2 hkk;subst eu;have ha2:H2 a=aa (.dK us):=s2.hh _ _ q3;have hlen:us.length=kvs.length:=by simpa using cI gX q4
    obtain⟨w1,w2⟩:=sK (k:=kk) (r1.mono s2.gg) q4 (q5.mono s2.gg);exact⟨a,_,rfl,jU.k ha2 (by have:=fH;omega),k σ G2 _ (s1.gg.trans s2.gg) (A2.chOdk hi h1 w1 w2)⟩
  .cases hq
 .cases hq⟩
end
section
variable {c m:ah}
end
section
open PyProof
noncomputable def jX:ac D->ar (ac ag)
 |[]=>aa []
 |.int x::r=>(jX r).map (x::·)
 |_::_=>ab
theorem vd {K:bh} {G:Hp}:∀{vs:ac V} {ds:ac D} {ys:ac ag},Reps Γ K G vs ds->jX ds=aa ys->vs=ys.map V.int
 |_,[],ys,r,h=>by cases r;cases h;rfl
 |_,d::ds,ys,.cons h1 h2,h=>by
  cases d with
  |int x=>
   obtain⟨zs,hz,rfl⟩:=oMd (show(jX ds).map (x::·)=aa ys from h);rw[h1.int_inv,vd h2 hz];rfl
  |_=>cases h
noncomputable def btI (ns:ac ag) (i j:al):aN:=decide (ns.getD i 0 > ns.getD j 0)
noncomputable def mxI (ns:ac ag):D:=if ns=[] then .non else .int (ns.getD (jQ (btI ns) (ns.length-1)) 0)
noncomputable def RD:D->ar D
 |.lst l=>(jX l).map mxI
 |_=>ab
noncomputable def mf:D->ac D->ar D
 |.lst l,[.str x]=>(iF l).bind fun ys=>if ys.findIdx (·==x)<ys.length then aa (.int (ys.findIdx (·==x):al)) else ab
 |_,_=>ab
theorem Bq:∀{ns:ac ah} {us:ac Value},bH (ns.map V.str) us->us.length=ns.length/\∀(i:al) v,us[i]?=aa v->∃y t,ns[i]?=aa y/\v=.str y t
 |[],_,r=>by rw[qM] at r;cases r;exact⟨rfl,fun i v h=>by simp at h⟩
 |n::ns,_,r=>by
  rw[qm] at r;cases r with
  |cons r1 r2=>
   obtain⟨h1,h2⟩:=Bq r2;refine⟨by simp[h1],fun i v h=>?_⟩;cases i with
   |zero=>
    obtain⟨t,rfl⟩:=r1;cases h;exact⟨n,t,rfl,rfl⟩
   |succ i=>exact h2 i v h
theorem zW:MtD Γ X "list" "list.index" mf:=by
 refine⟨⟨fun v vs H Q=>∃(a:av) (ys:ac ah) (x:ah),v=.ref a/\vs=[.str x]/\H a=aa (.lst (ys.map V.str))/\ys.findIdx (·==x)<ys.length/\Q (.int (ys.findIdx (·==x):al)) H,?_,?_⟩,?_⟩
 .intro pins s σ H x xs v us Q I rx rs h;obtain⟨a,ys,x,rfl,rfl,ha,hj,q⟩:=h;cases rx;obtain⟨u,rfl,ru⟩:=fu rs;obtain⟨tu,rfl⟩:=ru;obtain⟨its,n,rv,eo,hz⟩:=I.lst ha;rw[qf] at hz;obtain⟨vl,vi⟩:=Bq rv;have hsz:its.toArray.size=ys.length:=by simp[vl]
  have hat:∀(m:al) (hm:m<its.toArray.size),∃y t,ys[m]?=aa y/\its.toArray[m]=.str y t:=fun m hm=>vi m _ (by rw[qB (by simpa using hm)];simp)
  let ef:Value->aN:=fun z=>match z with|.str y _=>y==x|_=>ao
  refine uL ES ⟨_,eo,rfl⟩ F.entry_list_index (F.args_list_index_2 _ _) (SeqAt.list_indexAt a its.toArray n ab #[] (.str x tu) ef (ys.findIdx (·==x)) (by rw[hsz];exact hj) (by unfold aT at hz;omega) ?_ ?_) ⟨eo,fun y hy=>?_,?_⟩
  .obtain⟨y,t,e1,e2⟩:=hat _ (by rw[hsz];exact hj);rw[e2];have:=List.findIdx_getElem (w:=hj);rw[qB hj] at e1;cases e1;exact this
  .intro m hm hlt;obtain⟨y,t,e1,e2⟩:=hat m hm;rw[e2];have hm':m<ys.length:=by rw[←hsz];exact hm
   rw[qB hm'] at e1;cases e1;have:=List.not_of_lt_findIdx hlt;show(ys[m]==x)=ao;simpa using this
  .obtain⟨m,hm,rfl⟩:=Array.mem_iff_getElem.mp hy;obtain⟨z,t,e1,e2⟩:=hat m hm;rw[e2];exact SeqAt.EqAt.str_str z t x tu
  .exact⟨.int _,H,I.tok _,⟨_,rfl⟩,q⟩
 .intro G H v x vs ds z gh r1 r2 h Q k;unfold mf at h;split at h
  .obtain⟨ys,hy,h⟩:=oBd h;split at h
   .rename_i hl;cases h;obtain⟨a,ws,rfl,ha,rw'⟩:=r1.lst_inv;obtain⟨v,rfl,r3⟩:=r2.one;cases r3.str_inv;refine⟨a,ys,_,rfl,rfl,?_,hl,k _ G H (.refl gh) (.int _)⟩;rw[←xS rw' hy];exact gh _ _ ha
   .cases h
  .cases h
 .intro G H v x ds z gh r h;unfold mf at h;split at h
  .obtain⟨a,ws,rfl,ha,rw'⟩:=r.lst_inv;exact .inl ⟨rfl,ws,.inl (.inl (gh _ _ ha))⟩
  .cases h
end
section
variable {a i:Expr}
end
section
variable {a i:Expr}
end
theorem cV.there {P:bU} {h:Heap} {o:HO} (x:cV P w H h a o):∃u,h.get? a=aa u:=by
 cases o with
 |lst xs=>obtain⟨_,_,_,_,e⟩:=x;exact⟨_,e⟩
 |tup xs=>obtain⟨_,_,_,p,e,_⟩:=x;exact⟨_,e⟩
 |dK kvs=>obtain⟨_,_,_,_,o,_,_,e,_⟩:=x;exact⟨_,e⟩
 |dT kvs=>obtain⟨_,_,_,_,o,_,_,e,_⟩:=x;exact⟨_,e⟩
 |set S n=>obtain⟨o,_,_,_,e,_⟩:=x;exact⟨_,e⟩
 |ins C dx fs=>obtain⟨_,_,_,e,_⟩:=x;exact⟨_,e⟩
 |own y=>obtain⟨_,e⟩:=x;exact⟨_,e⟩
 |xd fs=>obtain⟨_,⟨_,_,_,e,_⟩,_⟩:=x;exact⟨_,e⟩
 |rng lo hi=>obtain⟨_,_,_,e⟩:=x;exact⟨_,e⟩
 |frz ob u=>obtain⟨e,_⟩:=x;exact⟨_,e⟩
 |tbl ps=>exact⟨_,(show h.get? a=aa _ from x)⟩
 |met f y=>exact⟨_,(show h.get? a=aa _ from x)⟩
 |ext φ=>obtain⟨_,⟨_,e⟩,_⟩:=x;exact⟨_,e⟩
theorem Inv.none_of (I:Inv X pins σ H s) (h:∀u,s.heap.get? a=aa u->False):H a=ab:=by
 cases e:H a with
 |none=>rfl
 |some o=>
  obtain⟨u,hu⟩:=(I.hok a o e).there;exact(h u hu).elim
theorem Inv.many (I:Inv X pins σ H s) (k:∀b u,s.heap.get? b=aa u->h'.get? b=aa u) (hs:bK H H') (new:∀b o,H b=ab->H' b=aa o->(∀u,s.heap.get? b=aa u->False)/\cV X.prog X.w H' h' b o) :
  Inv X pins σ H' {s with heap:=h',toks:=t'}:=by
 refine I.un ⟨fun b ob q _ _ _=>k b ob q,fun b ob q _ _ _=>⟨ob.slots,k b ob q⟩,fun b ob q n _=>?_,fun b ob q _=>⟨ob,k b ob q⟩,fun b xs q=>hs _ _ q,fun b o u q=>hs _ _ q,fun b ps q=>⟨#[],by rw[hs _ _ q];simp⟩⟩ fun b o q=>?_
 .cases e:H' b with
  |none=>rfl
  |some o=>exact((new b o n e).1 ob q).elim
 .cases e:H b with
  |none=>exact(new b o e q).2
  |some o'=>
   have:=hs _ _ e;rw[q] at this;cases this;exact(I.hok b o e).stay (fun c v _ r=>k c v r) (fun c r=>hs _ _ r) fun c xs r=>hs _ _ r
variable {p3 p4:dn}
section
variable {a i:Expr}
noncomputable def leS (x y:ah):aN:=!ltS y x
noncomputable def oj (l:ac ah):ac ah:=l.mergeSort leS
theorem iI {y:ah} :leS x y=ai↔x.cps.toList<=y.cps.toList:=by unfold leS ltS;rw[kK,oU,QT]
theorem Au (x y z:ah) (h1:leS x y=ai) (h2:leS y z=ai):leS x z=ai:=iI.mpr (List.le_trans (iI.mp h1) (iI.mp h2))
theorem Mn (x y:ah):(leS x y || leS y x)=ai:=by rw[gE];exact(List.le_total x.cps.toList y.cps.toList).imp iI.mpr iI.mpr
theorem Jd {y:ah} (h1:leS x y=ai) (h2:leS y x=ai):x=y:=by have e:=List.le_antisymm (iI.mp h1) (iI.mp h2);cases x;cases y;simp only at e;rw[Array.toList_inj.mp e]
end
section
variable {a i:Expr}
theorem Nv {P:bU} {k:Key} (h:(cN P w).is k u=ai):bD (kV k) u:=by
 rcases iB (k:=k) (v:=u) h with⟨i,t,rfl,rfl⟩|⟨x,t,rfl,rfl⟩
 .exact⟨t,rfl⟩
 .exact⟨t,rfl⟩
theorem M7 (k:Key):Rep Γ K G (kV k) (xl k):=by
 cases k with
 |inl i=>exact .int i
 |inr x=>exact .str x
end
noncomputable def RB (i:al):FS:=fun ρ=>match ρ[i]? with
 |some (aa (.odk kvs))=>aa (.od kvs,ρ)
 |_=>ab
theorem At.setOdkV (A:At Γ K G₀ H₀ G H ρ σ) {us:ac (Key×V)} {kvs:ac (Key×D)} (ha:H a=ab) (ek:us.map (·.1)=kvs.map (·.1)) (rr:Reps Γ K G (us.map (·.2)) (kvs.map (·.2))):At Γ K G₀ H₀ G (upd H a (.dK us)) (ρ.set i (aa (.odk kvs))) (σ.set i (aa (.ref a))):=by have h0:H₀ a=ab:=A.st.hh.free ha;have hg:G a=ab:=A.gh.free ha;refine A.put (fp:=[]) (fp':=[a]) (.inl rfl) (fun b o e _=>by rw[a6 (ce e ha)];exact e) (.odk h0 hg cc ek rr) (fun b hb=>.inr (by rw[bW.mp hb];exact ha)) (.refl _) (fun b o e=>?_) (fun _ _ _ _=>rfl) (fun b hb=>by cases hb);rw[a6 (ce e hg)];exact A.gh b o e
noncomputable def lx (i:al) (ft:FT):FT:=fun ρ=>match ρ[i]? with
 |some (aa (.odk kvs))=>ft (ρ.set i (aa (.sh (.dk kvs))))
 |_=>ab
theorem Ai (i:al) (h:DT Γ X c ft):DT Γ X c (lx i ft):=⟨h.1.imp fun σ H Q=>by
 rintro⟨G₀,H₀,G,ρ,b,A,h,k⟩;unfold lx at h;split at h
 .rename_i kvs hi;obtain⟨G1,sm,A1⟩:=A.frzD hi (d:=.dk kvs) rfl;exact⟨G₀,H₀,G1,_,b,A1,h,fun G' H' s=>k G H' (s.back A.gh sm)⟩
 .cases h⟩
theorem Inv.frz {a:av} {us:ac (Key×V)} {o:a8} (I:Inv X pins σ H s) (e:H a=aa (.dK us)) (ho:s.heap.get? a=aa o):Inv X pins σ (upd H a (.frz o (.dK us))) s:=by
 have ne:∀b u,H b=aa u->u≠.dK us->b≠a:=fun b u q n z=>by rw[z,e] at q;cases q;exact n rfl
 have st:∀{b:av} {u:HO},cV X.prog X.w H s.heap b u->cV X.prog X.w (upd H a (.frz o (.dK us))) s.heap b u:=fun x=>
  x.stay (fun c v _ r=>r) (fun c r=>by rw[a6 (ne c _ r (by intro z;cases z))];exact r) fun c xs r=>by rw[a6 (ne c _ r (by intro z;cases z))];exact r
 refine I.un (t':=s.toks) (h':=s.heap) ⟨fun b ob q _ _ _=>q,fun b ob q _ _ _=>⟨ob.slots,q⟩,fun b ob q n _=>?_,fun b ob q _=>⟨ob,q⟩,fun b xs q=>?_,fun b o u q=>?_,fun b ps q=>⟨#[],?_⟩⟩ fun b u q=>?_
 .rw[a6 (fun z=>by rw[z,e] at n;cases n)];exact n
 .rw[a6 (ne b _ q (by intro z;cases z))];exact q
 .rw[a6 (ne b _ q (by intro z;cases z))];exact q
 .rw[a6 (ne b _ q (by intro z;cases z)),q];simp
 .by_cases hb:b=a
  .subst hb;rw[cc] at q;cases q;exact⟨ho,st (I.hok b _ e)⟩
  .rw[a6 hb] at q;exact st (I.hok b u q)
namespace Law
noncomputable abbrev oS (d:D):ar Slot:=aa (.sh d)
end Law
noncomputable abbrev FQ:=ac D->ar D
namespace Law
theorem dC {k:al} {F:FQ} (C:Cal Γ X.prog X.w X.K X.mg X.base x n k F) (hr:Room j X.A) (ha:DA Γ X (e::es) fr) (hn:∀ρ ds,fr ρ=aa ds->ds.length=n) (hk:k<=j:=by decide) (hg:Gl X x:=by exact rfl) (hdb:.(H)=ao:=by decide) (he:a7 (e::es) X.env=(ao,eval e X.env)::a7 es X.env:=by rfl) (hpl:(cE pos (a7 es X.env)).any (·.1)=ao:=by rfl):DE Γ X (.Call (.Name x p) (e::es) [] pos) (cF F fr):=jb C hr hk hg ha hn hdb he hpl
theorem bo {P:ac ah} (a:sc.kind=.function:=by rfl) (b:sc.isCoroutine=ao:=by rfl) (c:sc.isGenerator=ao:=by rfl) (d:N.Nodup:=by decide +kernel) (e:N.take P.length=P:=by rfl) (f:∀x∈P,sc.names.lookup x=aa .local∨sc.names.lookup x=aa .cell:=by decide +kernel) (g:∀y∈sc.names,y.2≠.free:=by decide +kernel):FnScope N P sc:=⟨a,b,c,d,e,f,g⟩
end Law
variable {s₀:aG}
section
variable {P:bU} {f:av} {E:XK}
 {pins:ac (av×a8)} {σ:St} {H:Hp} {s:aG} {h1:Heap} {e:av} {cls:Value} {vs:ac Value}
end
section
variable {P:bU} {f:av} {E:XK}
 {R:Hp->Prop} {n:db} {x:ah} {np cpos pos:dn} {e₀:Expr} {bX:ac Expr} {fr:FA} {Bn newId initId:db} {bmB:ac Value}
end
section
open PySem.W Builtin Builtin.ObjectAttr Builtin.Getset_descriptor
end
section
variable {a i:Expr}
end
section
variable {a:Expr}
end
noncomputable def del (G:Hp) (a:av):Hp:=fun b=>if b=a then ab else G b
section
variable {P:bU} {f:av} {E:XK}
 {pins:ac (av×a8)} {σ:St} {H:Hp} {s:aG} {e C t dx:av}
end
section
variable {P:bU} {f CS fI:av} {E:XK}
 {R:ah->Hp->Prop} {x fl:ah} {np cpos pos:dn} {e₀:Expr} {fr:FA} {k j:al}
end
section
open PyProof
end
section
open PyProof
end
section
variable {a:Expr}
end
section
open PyProof
end
section
open PyProof
end
section
open PyProof
end
section
open PyProof
noncomputable def Itk (a:av) (o:a8) (us:ac (Key×V)):It:=
 ⟨fun i H=>H a=aa (.frz o (.dK us))/\i<us.length,fun i H v H'=>H'=H/\∃kv,us[i]?=aa kv/\v=kV kv.1,fun i H=>H a=aa (.frz o (.dK us))/\i=us.length⟩
theorem K9 {P:bU} (a it:av) (o:a8) (us:ac (Key×V)) (va:ac (Key×Value)) (ep:al) (hne:a≠it) (hd:∀h:Heap,h.get? a=aa o->h.DictAt (cN P w) a va ep) (kv:KV us va) :
  Turn P w K tg (Itk a o us) [it] it (fun i h=>h.IsKeyIter it a i va.length ep) where
 mem:=by simp
 obj:=fun i h st b hb=>by
  have e:b=it:=by simpa using hb
  subst e;obtain⟨o,e,c,d⟩:=st;exact⟨o,e,fun v z=>by rw[d] at z;cases z⟩
 keep:=fun i h h' st k=>by obtain⟨o,e,r⟩:=st;exact⟨o,k it (by simp) o e,r⟩
 item:=by
  intro X hP hw hK hc i pins s σ H E I hf st hg;subst hP hw hK;obtain⟨hfr,hi⟩:=hg;obtain⟨f0,f1,f2,f3,f4,f5⟩:=hf it (by simp);have ho:s.heap.get? a=aa o:=(I.hok a _ hfr).1;refine(QU (knd:=cN X.prog X.w) (I.ok.hd hc) it a hne va ep).item i s _ _ (by rw[←kv.length];exact hi) ⟨st,hd _ ho⟩ fun v h' tk hv st' kk=>?_;obtain⟨k,x,hk,hr⟩:=hv;have hp:(us.map (·.1))[i]?=(va.map (·.1))[i]?:=by rw[kv.keys]
  rw[qk,qk,hk] at hp;obtain⟨p,hp1,hp2⟩:=oMd hp;have hp3:p.1=k:=hp2;have I1:Inv X pins σ H {s with heap:=h',toks:=tk}:=I.turned (fun b o hb e=>kk b o (by simpa using hb) e) f0 f1 f3 f4 f5;obtain⟨oi,e,c,d⟩:=id st'.1;exact⟨v,rfl,t5 (s:={s with heap:=h',toks:=tk}) e c d .(h) ⟨kV p.1,H,I1,by rw[hp3];exact Nv hr,⟨rfl,p,hp1,rfl⟩,st'.1,fun b hb=>(hf b hb).1⟩⟩
 done:=by
  intro X hP hw hK hc i pins s σ H E I hf st hg;subst hP hw hK;obtain⟨hfr,hi⟩:=hg;obtain⟨f0,f1,f2,f3,f4,f5⟩:=hf it (by simp);have ho:s.heap.get? a=aa o:=(I.hok a _ hfr).1;have hi':i=va.length:=by rw[←kv.length];exact hi
  subst hi';exact(QU (knd:=cN X.prog X.w) (I.ok.hd hc) it a hne va ep).done s _ _ ⟨st,hd _ ho⟩ fun h' tk kk=>⟨rfl,I.turned (fun b o hb e=>kk b o (by simpa using hb) e) f0 f1 f3 f4 f5⟩
 self:=fun _ _ _ _ _ st h=>wpAny_pyIter_keyiter st h
noncomputable def xj:D->ar (ac D)
 |.fdk kvs=>aa (kvs.map fun kv=>xl kv.1)
 |_=>ab
noncomputable def itK (f:FE):FA:=fun ρ=>(f ρ).bind xj
theorem GB (he:PE X iter te):PI X tg iter (fun σ H R=>te σ H fun x H1=>∃(a:av) (o:a8) (us:ac (Key×V)),x=.ref a/\H1 a=aa (.frz o (.dK us))/\R (Itk a o us) H1):=by
 intro pins s σ H R I h;refine thn (he pins s σ H _ I h) fun v s1 ⟨x,H1,I1,r1,a,o,us,e,ha,q⟩=>?_;subst e;cases r1;obtain⟨z,md,va,qa,da⟩:=iX I1.hok (.inr ⟨o,ha⟩);obtain⟨ep,hat⟩:=da.dictAt;have ho:s1.heap.get? a=aa o:=(I1.hok a _ ha).1;refine wpAny_pyIter_dict md hat ?_;refine⟨s1.heap.objs.size,[s1.heap.objs.size],_,_,H1,rfl,I1.kept (t':=s1.toks) fun b u e=>qt _ e,K9 a s1.heap.objs.size o us va ep (qA (qu ho)) (fun h' e=>hat.at' fun o' e'=>by rw[ho] at e';cases e';exact e) qa,⟨_,qE _ rfl,rfl,rfl⟩,fun b hb=>?_,q⟩;have e:b=s1.heap.objs.size:=by simpa using hb
 subst e;exact I1.fpOk (qv _) (I1.hok.fresh (qv _))
theorem rh (h:DE Γ X iter f):DI Γ X tg iter (itK f):=⟨(GB h.1).imp fun σ H R=>by
 rintro⟨G₀,H₀,G,ρ,ds,A,h,k⟩;unfold itK at h;obtain⟨d,hd,h⟩:=oBd h;refine⟨G₀,H₀,G,ρ,d,A,hd,fun v G' H' s r=>?_⟩;unfold xj at h;split at h
 .cases h;cases r with
  |fdk h1 h2 h3=>
   rename_i kvs a o us;have hln:us.length=kvs.length:=by simpa using cI gX h2
   refine⟨_,_,_,rfl,s.gh _ _ h1,k _ G' H' s ⟨fun i d G2 H2 hd g1 g2=>?_,fun G2 H2 g1 g2=>⟨g2 _ _ (g1 _ _ h1),by rw[qf,hln]⟩⟩⟩;rw[qk] at hd;obtain⟨kd,hkd,rfl⟩:=oMd hd;have hi:i<us.length:=by rw[hln];exact(cY.mp hkd).1
   refine⟨⟨g2 _ _ (g1 _ _ h1),hi⟩,fun x H3 ⟨e1,kv,hkv,ev⟩=>?_⟩;subst e1 ev;have ek:kv.1=kd.1:=by have:=cI (fun l=>l[i]?) h2;simp only[qk,hkv,hkd,qe,QV] at this;exact this
   exact⟨G2,.refl g2,by rw[ek];exact M7 _⟩
 .cases h⟩
end
section
open PyProof
theorem J7 (hc:X.calm=ai):eQ X (.type "dict") (fun xs H Q=>∃(a:av) (us:ac (Key×V)),xs=[.ref a]/\Rd H a (.dK us)/\∀p,H p=ab->Q (.ref p) (upd H p (.dK us))):=by
 intro pins s σ H xs vs Q I r h;obtain⟨a,us,rfl,ha,q⟩:=h;obtain⟨u,rfl,ru⟩:=fu r;cases ru;obtain⟨z,md,va,qa,da⟩:=iX I.hok ha;have hlen:us.length=va.length:=qa.length;refine kt_call_dict (knd:=cN X.prog X.w) (more:=va) md da .(e) fun h' hd hs=>?_;refine⟨.ref s.heap.objs.size,_,I.laid (a:=s.heap.objs.size) (o:=.dK us) (fun b u e=>?_) (qv _) ⟨z,?_,va,qa,hd⟩,rfl,q _ I.fresh⟩
 .exact(hs.2 b (qA (qu e))).trans (qt _ e)
 .exact lG.mpr (df (qA I.big))
noncomputable def RA:FQ
 |[.dk l]=>aa (.fdk l)
 |[.fdk l]=>aa (.fdk l)
 |_=>ab
noncomputable def nX (i:al) (f:FE):FS:=fun ρ=>(f ρ).bind fun d=>match d with
 |.dk l=>aa (.nx,ρ.set i (aa (.odk l)))
 |.fdk l=>aa (.nx,ρ.set i (aa (.odk l)))
 |_=>ab
theorem wq (i:al) (hN:X.N.Nodup) (hc:X.calm=ai) (hg:Gl X "dict") (hm:X.mg "dict"=ab) (h:DE Γ X e f) (he:a7 [e] X.env=(ao,eval e X.env)::a7 [] X.env:=by rfl) (hpl:(cE p2 (a7 [] X.env)).any (·.1)=ao:=by rfl)
  (hi:X.N[i]?=aa x:=by rfl) (hx:Loc X.env.scope x:=by first|exact dy rfl|exact cP rfl) (hs:fW (.Call (.Name "dict" p) [e] [] p2) (aa (.Name x pos')) pos.line X.env=bA ao:=by rfl) (hf:X.fn x=ai\/X.env.scope.names.lookup x=aa .local:=by first|exact .inl rfl|exact .inr rfl|assumption) :
  DS Γ X (.Assign [.Name x pos'] (.Call (.Name "dict" p) [e] [] p2) pos) (nX i f):=⟨(t6 hN hi hx (tX (J7 hc) hg hm (by rfl) (j9 h.1 kx he) .(h) .(h) he hpl) hs hf).imp fun E σ H=>by
 rintro⟨G₀,H₀,G,ρ,fl,ρ',A,h,k⟩;unfold nX at h;obtain⟨d,hd,h⟩:=oBd h;refine⟨G₀,H₀,G,ρ,d,A,hd,fun v G1 H1 s1 r1=>?_⟩;have A2:=A.step s1;split at h
 .cases h;cases r1 with
  |dk h1 h2 h3=>exact⟨_,_,rfl,.inl (A2.gh _ _ h1),fun p hp=>k _ G1 _ s1.gg (A2.setOdkV hp h2 h3)⟩
 .cases h;cases r1 with
  |fdk h1 h2 h3=>exact⟨_,_,rfl,.inr ⟨_,A2.gh _ _ h1⟩,fun p hp=>k _ G1 _ s1.gg (A2.setOdkV hp h2 h3)⟩
 .cases h⟩
noncomputable def ja (i:al) (g:FS):FS:=fun ρ=>match ρ[i]? with
 |some (aa (.odk kvs))=>g (ρ.set i (aa (.sh (.fdk kvs))))
 |_=>ab
theorem pX (i:al) (h:DSs Γ X sts g):DSs Γ X sts (ja i g):=⟨fun pins s σ H E I q=>by
 obtain⟨G₀,H₀,G,ρ,fl,ρ',A,hq,k⟩:=q;unfold ja at hq;split at hq
 .rename_i kvs hi;obtain⟨v,fp,h1,h2⟩:=A.get hi;cases h2 with
  |odk q1 q2 q3 q4 q5=>
   rename_i a us;obtain⟨ob,hob⟩:=(I.hok a _ q3).there;have I1:=I.frz q3 hob;have sm1:bK G (upd G a (.frz ob (.dK us))):=fun b u e=>by rw[a6 (ce e q2)];exact e
   have hH1:∀b u,b≠a->H b=aa u->upd H a (.frz ob (.dK us)) b=aa u:=fun b u hb e=>by rw[a6 hb];exact e
   have A1:At Γ X.K G₀ H₀ (upd G a (.frz ob (.dK us))) (upd H a (.frz ob (.dK us))) (ρ.set i (aa (.sh (.fdk kvs)))) σ:=by
    refine A.ch hi h1 (.odk q1 q2 q3 q4 q5) (fun b u e hb=>hH1 b u (fun z=>hb (bW.mpr z)) e) (.sh (.fdk cc q4 (q5.mono sm1))) (fun b hb=>by cases hb) sm1 (fun b u e=>?_) (fun b u e hb=>?_)
    .by_cases hba:b=a
     .subst hba;rw[cc] at e ⊢;exact e
     .rw[a6 hba] at e;exact hH1 b u hba (A.gh b u e)
    .rw[a6 (fun z=>hb (bW.mpr z))]
   exact h.1 pins s σ _ E I1 ⟨G₀,H₀,_,_,fl,ρ',A1,hq,fun σ1 G1 H1 sm2 A2=>k σ1 G1 H1 (sm1.trans sm2) A2⟩
 .cases hq⟩
end
section
open PyProof
section
variable {id:db} {r:V->ac V->Hp->VK->Prop}
end
end
variable {wanted:al}
namespace ST
theorem Full.relaid2 {t:gZ} {es:bP (ag×Value)} (F:Full (kH wanted-1)) (few:es.size*5<(kH wanted-1)*3) {t':gZ} {order:bP al} (h:t.relaid (es.map (·.1)) wanted=aa (t',order)):coversAll order es.size=ai/\t'.plain=t.plain:=by
 generalize hM:kH wanted-1=M at F few;obtain⟨owner,hl,O⟩:=F.lays (es.map (·.1)) (by simp;omega);have hlen:(es.map (·.1)).toList.length=es.size:=by simp
 have llen:(dG M owner).length=es.size:=by rw[BL O,hlen]
 unfold Qy at h;rw[hM] at h;unfold Qz at h;rw[hl] at h;cases h;refine⟨?_,rfl⟩;unfold coversAll;rw[List.isPerm_iff,List.perm_ext_iff_of_nodup (by exact CQ O) yS];intro k;rw[dX];constructor
 .intro hk;obtain⟨⟨j,k'⟩,hm,rfl⟩:=a5.mp (show k∈(dG M owner).map (·.2) from hk);have:=O.lt j k' ((iE O.sz).mp hm);rw[hlen] at this;exact this
 .intro hk;obtain⟨j,hj⟩:=O.on k (by rw[hlen];exact hk);exact(show k∈(dG M owner).map (·.2) from a5.mpr ⟨(j,k),(iE O.sz).mpr hj,rfl⟩)
noncomputable def iG (es:bP (ag×Value)):ac ag:=es.toList.map fun e=>match e.2 with
 |.int m _=>m
 |_=>0
structure IS (prog:bU) (w:cQ) (led:aN) (ks:ac ag) (o:a8):Prop where
 cls:o.ExactSet
 ex:∃es ep t,o.data=.set es ep t/\Tb t es/\Mk t.mask/\t.plain=ai/\t.led=led/\(∀e∈es.toList,∃m t,e=((dU prog w).hash m,c5 m t))/\(iG es).Perm (dd ks)
section
variable {E:Value->aG->Prop}
theorem z7 {es:bP (ag×Value)} (h:∀e∈es.toList,∃m t,e=((dU prog w).hash m,c5 m t)):ElemsOf (dU prog w) es.toList:=fun e he=>by obtain⟨m,t,rfl⟩:=h e he;exact⟨⟨m,ET _ _ _ _,rfl⟩,rfl⟩
theorem OM {es:bP (ag×Value)} (h:es'.toList.Perm es.toList):(iG es').Perm (iG es):=h.map _
theorem AC {es:bP (ag×Value)} {k:ag} (hE:∀e∈es.toList,∃m t,e=((dU prog w).hash m,c5 m t)):zd (fun e=>(dU prog w).is k e.2) es.toList=ab↔k∉iG es:=by
 rw[List.findIdx?_eq_none_iff];constructor
 .intro h hk;obtain⟨e,he,e2⟩:=a5.mp hk;obtain⟨m,t,rfl⟩:=hE e he;have:=h _ he;have e2:m=k:=e2;subst e2;rw[ET] at this;cases this
 .intro h e he;obtain⟨m,t,rfl⟩:=hE e he;have hne:m≠k:=fun z=>h (a5.mpr ⟨_,he,z⟩);show x8 k (.int m t)=ao;simp[x8,hne]
set_option maxHeartbeats 1000000 in
theorem KR {o:a8} {led:aN} {ks:ac ag} {k:ag} {tk0:Tok} {Q:aN->aG->Prop} (ho:s.heap.get? S=aa o) (T:IS prog w led ks o) (hlen:ks.length<=300)
  (h:∀b h' tk o',s.toks<=tk->ii S s.heap h'->h'.get? S=aa o'->IS prog w led (ks++[k]) o'->Q b {s with heap:=h',toks:=tk}):aK .(L) A (oQ S (.int k tk0)) Q E s:=by
 obtain⟨hc,es,ep,t,hd,TB,hM,hpl,hled,hE,hp⟩:=T;have hkey:=ET prog w k tk0;have hddl:=l0 ks;have hsz:es.size=(dd ks).length:=by have:=hp.length_eq;unfold iG at this;rw[qf,fV] at this;exact this
 have hb:es.size<scanBound:=by unfold scanBound;omega
 obtain⟨n0,f1,f2,f3⟩:=TB.first ((dU prog w).hash k);unfold oQ;refine im (qw ((dU prog w).pyHash hkey ?_));unfold setAddHashed QM;refine im (qw (kI (s:={s with toks:=s.toks+1}) ho hd TB.fits ?_));dsimp only;rw[byScan_of (knd:=dU prog w) (x:=.int k tk0) rfl hb (z7 hE)];simp only[↓reduceIte];unfold setAddByScan;refine qw ?_;refine qw (D3 ?_);refine qw (wpAny_setScan_of (knd:=dU prog w) (s:={s with toks:=s.toks+1}) hkey ho hd TB.fits (z7 hE) ?_);by_cases hk:k∈dd ks
 .have hne:zd (fun e=>(dU prog w).is k e.2) es.toList≠ab:=fun z=>(AC hE).mp z (hp.mem_iff.mpr hk);cases hr:zd (fun e=>(dU prog w).is k e.2) es.toList with
  |none=>exact bz hr hne
  |some j=>
   dsimp only;refine qy (qy ?_);refine h ao s.heap (s.toks+1) o (lO _) (EA S s.heap) ho ⟨hc,es,ep,t,hd,TB,hM,hpl,hled,hE,?_⟩;rw[pc,qW hk];exact hp
 .have hr:zd (fun e=>(dU prog w).is k e.2) es.toList=ab:=(AC hE).mpr fun z=>hk (hp.mem_iff.mp z);rw[hr];dsimp only;have hslot:t.freeSlot ((dU prog w).hash k)=aa (J t.mask ((dU prog w).hash k) n0,ao):=by
   unfold SetTable.freeSlot;rcases wM TB (hashAt:=fun _=>(dU prog w).hash k+1) (r:=_) rfl (Ii t _) (gV _) f1 f2 f3 with⟨n',i,_,_,_,g4,_⟩|⟨_,g2⟩
   .omega
   .rw[g2];rfl
  have hplc:bZ t.place (J t.mask ((dU prog w).hash k) n0)<=es.size:=by have:=(og t.place (J t.mask ((dU prog w).hash k) n0) TB.ri).1;rw[TB.sz] at this;exact this
  have hH:(J t.mask ((dU prog w).hash k) n0)=(J t.mask ((dU prog w).hash k) n0):=rfl;generalize hHk:(dU prog w).hash k=Hk at *;clear hH;have hsize:(ck es (bZ t.place (J t.mask Hk n0)) (Hk,c5 k tk0)).size=es.size+1:=by have:=cI gX (kQ es _ (Hk,c5 k tk0) hplc);simp only[fV,qj,qi,qC,iQ] at this;omega
  have hpsz:(ck t.place (bZ t.place (J t.mask Hk n0)) (J t.mask Hk n0)).size=es.size+1:=by have:=cI gX (kQ t.place _ (J t.mask Hk n0) (by rw[TB.sz];exact hplc));have h3:=TB.sz;simp only[fV,qj,qi,qC,iQ] at this;omega
  have hdum:.(x).1.dummies=#[]:=by show(if yR t.dummies _ then _ else t.dummies)=#[];rw[TB.dm];rfl
  have hfill:EI .(x).1=es.size+1:=by show(ck t.place _ _).size+.(x).1.dummies.size=_;rw[hdum];exact hpsz
  have hfits:oO .(x).1 (ck es .(x).2 (Hk,c5 k tk0)).size=ai:=by unfold oO;rw[hfill,show(ck es .(x).2 (Hk,c5 k tk0)).size=es.size+1 from hsize,cS];have:=TB.few;exact⟨by rw[kF];exact hpsz,qQ (by show es.size+1<=t.mask;omega)⟩
  have hlay:layNew t es Hk (.int k tk0)=(ck es .(x).2 (Hk,c5 k tk0),.(x).1,ao,ao):=by unfold layNew;rw[hslot];show(ck es .(x).2 (Hk,c5 k tk0),QW .(x).1 _,ao,!oO .(x).1 _)=_;have hfits':oO .(x).1 (ck es (bZ t.place (J t.mask Hk n0)) (Hk,c5 k tk0)).size=ai:=hfits;unfold QW;rw[hfits'];rfl
  rw[hlay];dsimp only;refine qw (qy (a:=()) ?_);rw[qW (show.(x).1.plain=ai from hpl)];refine qw ?_;rw[QH 8 (show(c5 k tk0).scannable=ai from rfl)];refine qy ?_;rw[qW (show plainKind (c5 k tk0)=ai from rfl)];have hms:∀es':bP (ag×Value),es'.toList.Perm (ck es .(x).2 (Hk,c5 k tk0)).toList->(iG es').Perm (dd (ks++[k]))/\∀e∈es'.toList,∃m t,e=((dU prog w).hash m,c5 m t):=fun es' pe=>by
   have e1:=kQ es (bZ t.place (J t.mask Hk n0)) (Hk,c5 k tk0) hplc;have e1:(ck es .(x).2 (Hk,c5 k tk0)).toList=_:=e1;rw[e1] at pe;have pe2:=pe.trans (QX);rw[rU] at pe2;refine⟨?_,fun e he=>?_⟩
   .rw[pc,qX hk];refine(pe2.map _).trans ?_;refine(List.Perm.cons k hp).trans ?_;exact(List.perm_append_singleton k (dd ks)).symm
   .rcases cA.mp (pe2.mem_iff.mp he) with rfl|he
    .exact⟨k,tk0,by rw[hHk]⟩
    .exact hE e he
  refine qw (y6 (s:={s with toks:=s.toks+1}) ho hd ?_ (by show(ck es (bZ t.place (J t.mask Hk n0)) (Hk,c5 k tk0)).size<=aT;rw[hsize,fH];omega));have hg1:=t9 (es':=ck es .(x).2 (Hk,c5 k tk0)) (t':=.(x).1) ho hd;have hsb1:=oR s.heap S (y0 (ck es .(x).2 (Hk,c5 k tk0)) .(x).1);by_cases few:(es.size+1)*5<t.mask*3
  .have hfull:lV .(x).1=ao:=by unfold lV;rw[hfill];exact qL (by show ¬((es.size+1)*5 ≥ t.mask*3);omega)
   rw[hfull];simp only[lU,Es,qq,c6];refine qy (qy ?_);obtain⟨m1,m2⟩:=hms _ (List.Perm.refl _);exact h ai _ _ _ (lO _) hsb1 hg1 ⟨hc,_,_,_,rfl,TB.put (x:=.int k tk0) f2 f3 few t.plain,hM,hpl,hled,m2,m1⟩
  .have hfull:lV .(x).1=ai:=by unfold lV;rw[hfill];exact qQ (by show((es.size+1)*5 ≥ t.mask*3);omega)
   rw[hfull];simp only[lU,oT,cu];obtain⟨m1,m2,m3⟩:=hM.grow TB.few few .(e);have hes1:(ck es .(x).2 (Hk,c5 k tk0)).size=es.size+1:=hsize;rw[hes1];obtain⟨t',order,r1,r2,r3,r4,r5,r6⟩:=Full.relaid (t:=.(x).1) (es:=ck es .(x).2 (Hk,c5 k tk0)) m1.full (by rw[hes1];exact m2);obtain⟨c1,c2⟩:=Full.relaid2 m1.full (by rw[hes1];exact m2) r1;have hpm:=relayAll_perm .(x).1 (ck es .(x).2 (Hk,c5 k tk0)) (rW (es.size+1));have hrel:relayAll .(x).1 (ck es .(x).2 (Hk,c5 k tk0)) (rW (es.size+1))=(order.filterMap ((ck es .(x).2 (Hk,c5 k tk0))[·]?),t',ao):=by unfold relayAll;rw[r1];dsimp only;rw[c1,r3.fits];rfl
   rw[hrel] at hpm ⊢;dsimp only at hpm ⊢;refine qw (qy (a:=()) ?_);refine qw (y6 (s:={s with heap:=_,toks:=s.toks+1}) hg1 rfl ?_ (by rw[r2,hes1,fH];omega));refine qy (qy ?_);obtain⟨q1,q2⟩:=hms _ hpm;exact h ai _ _ _ (lO _) (hsb1.trans (oR _ S _)) (t9 hg1 rfl) ⟨hc,_,_,t',rfl,r3,by rw[r5];exact m1,c2.trans hpl,r6.trans hled,q2,q1⟩
end
end ST
namespace ST
open PySem PySem.Calls PyProof.Rows PyProof.V PySem.Spec PySem.W
theorem nO:yI "set_iterator" "__next__" "set_iterator.__next__" :=
 .of (owner:="set_iterator") (n:="__next__") (by rw[sd,se];kernel_rfl) .(p) .(p) .(p)
  (by first|exact .inl .(p)|exact .inr .(p)) (by rw[ze];kernel_rfl)
theorem Be:yI "set_iterator" "__iter__" "set_iterator.__iter__" :=
 .of (owner:="set_iterator") (n:="__iter__") (by rw[sd,se];kernel_rfl) .(p) .(p) .(p)
  (by first|exact .inl .(p)|exact .inr .(p)) (by rw[ze];kernel_rfl)
theorem zU:yI "set" "__iter__" "set.__iter__" :=
 .of (owner:="set") (n:="__iter__") (by rw[sd,se];kernel_rfl) .(p) .(p) .(p)
  (by first|exact .inl .(p)|exact .inr .(p)) (by rw[ze];kernel_rfl)
theorem zr:zb table "set_iterator.__next__"=aa Builtin.«set_iterator.__next__»:=QR (by kernel_rfl)
theorem HI:zb table "set_iterator.__iter__"=aa Builtin.«dict_keyiterator.__iter__»:=QY (id':="dict_keyiterator.__iter__") (by kernel_rfl) rfl .(p) (by kernel_rfl)
theorem MP:zb table "set.__iter__"=aa Builtin.«frozenset.__iter__»:=QY (id':="frozenset.__iter__") (by kernel_rfl) rfl .(p) (by kernel_rfl)
theorem BQ:QZ.lookup (Q0 ['r','o','t','a','r','e','t','i','_','t','e','s'].reverse)=aa Manifest.sig_set_iterator:=by kernel_rfl
theorem M6:QZ.lookup (Q0 ['t','e','s'].reverse)=aa Manifest.sig_set:=by kernel_rfl
theorem Bd (a:Value):sg "set_iterator.__next__" ⟨[a],[]⟩:=by unfold sg;rw[EU (id:="set_iterator.__next__") (n:=['_','_','t','x','e','n','_','_']) (o:=['r','o','t','a','r','e','t','i','_','t','e','s']) (by kernel_rfl) BQ];kernel_rfl
theorem N6 (a:Value):sg "set_iterator.__iter__" ⟨[a],[]⟩:=by unfold sg;rw[EU (id:="set_iterator.__iter__") (n:=['_','_','r','e','t','i','_','_']) (o:=['r','o','t','a','r','e','t','i','_','t','e','s']) (by kernel_rfl) BQ];kernel_rfl
theorem Mf (a:Value):sg "set.__iter__" ⟨[a],[]⟩:=by unfold sg;rw[EU (id:="set.__iter__") (n:=['_','_','r','e','t','i','_','_']) (o:=['t','e','s']) (by kernel_rfl) M6];kernel_rfl
theorem KG:uJ (.type "set") "__len__"=bA (aa (.builtin "set.__len__")):=by rw[sd,se];kernel_rfl
theorem CV {α:Type} (next:al->al):∀(fuel k:al) (left:ac α) (out:bP α),left.length<=fuel->(Q1 next fuel k left out).toList.Perm (out.toList++left)
 |0,k,left,out,h=>by
  have:left=[]:=List.eq_nil_of_length_eq_zero .(e);subst this;rw[m5];exact .refl _
 |fuel+1,k,left,out,h=>by
  unfold Q1;cases hl:left with
  |nil=>
   simp
  |cons a l=>
   rw[←hl];have hpos:0<left.length:=by rw[hl];exact uS _
   have hlt:=yN (next k) hpos;rw[qB hlt];dsimp only;refine(CV next fuel (k+1) _ _ (by rw[List.length_eraseIdx_of_lt hlt];omega)).trans ?_;rw[Array.toList_push,rH];refine Q2 _ ?_;show(left[next k%left.length]::left.eraseIdx (next k%left.length)).Perm left;rw[List.eraseIdx_eq_take_drop_succ];refine QX.symm.trans ?_;rw[←uP hlt,rU]
theorem IM (next:al->al) (xs:bP α):(si next xs).toList.Perm xs.toList:=by
 have:=CV next xs.size 0 xs.toList #[] (by simp)
 simpa[si] using this
end ST
variable {slot:al}
namespace ST
open PySem PySem.Calls PyProof.Rows PyProof.V PySem.Spec PySem.W
noncomputable def SIt (h:Heap) (it S:av) (slot i n ep:al):Prop:=∃o,h.get? it=aa o/\o.cls=.type "set_iterator"/\o.data=.fields #[.int slot 0,.int i 0,.ref S,.int n 0,.int ep 0]
theorem SIt.typeIs {it:av} (x:SIt s.heap it S slot i n ep):s.TypeIs (.ref it) "set_iterator":=let ⟨o,ho,hc,_⟩:=x;⟨o,ho,hc⟩
noncomputable def dJ (w:cQ) (S:av) (es:bP (ag×Value)) (ep:al):ac (ag×Value):=if w.params.followText "set-order"=ai then (si (w.params.setOrder S ep) es).toList else es.toList
theorem pI (w:cQ) (S:av) (es:bP (ag×Value)) (ep:al):(dJ w S es ep).Perm es.toList:=by
 unfold dJ;split
 .exact IM _ _
 .exact .refl _
theorem FB {xs:bP al} (hs:xs.toList.Pairwise (· < ·)) (h:xs[i]?=aa j):bZ xs (j+1)=i+1:=by
 obtain⟨b0,b1,b2⟩:=og xs (j+1) hs;have hi:=(gF.mp h).1;rcases io (bZ xs (j+1)) (i+1) with q|q
 .have:=b2 i .(e) j h;omega
 .rcases io (i+1) (bZ xs (j+1)) with q2|q2
  .have hlt:i+1<xs.size:=by omega
   have h1:xs[i+1]?=aa xs[i+1]:=by simp[hlt]
   have:=b1 (i+1) q2 _ h1;have h3:=yP.mp hs i (i+1) (by simpa using hi) (by simpa using hlt) .(e);have h4:xs[i]=j:=by rw[Q3 hi] at h;injection h
   simp only[Qn] at h3;omega
  .omega
section
variable {E:Value->aG->Prop} {it:av} {o:a8} {es:bP (ag×Value)} {t:gZ}
theorem zl {Q:ar (Value×al)->aG->Prop} (ho:s.heap.get? S=aa o) (hd:o.data=.set es ep t) (T:Tb t es) (hpl:t.plain=ai) (hled:t.led=!w.params.followText "set-order") (hb:w.params.followText "set-order"=ao->bZ t.place slot=i)
  (h1:∀e slot',(dJ w S es ep)[i]?=aa e->(w.params.followText "set-order"=ao->bZ t.place slot'=i+1)->Q (aa (e.2,slot')) s) (h2:(dJ w S es ep)[i]?=ab->Q ab s):aK .(L) A (setNext S slot i ep) Q E s:=by
 unfold setNext;refine qw (kI ho hd T.fits ?_);dsimp only;unfold EV;refine qw (qw (uX (qy ?_)));dsimp only;cases hf:w.params.followText "set-order" with
 |true=>
  rw[qW (show.(L).w.params.followText "set-order"=ai from hf)];rw[qX (by simp)];unfold setWalk;refine qw ?_;refine qw (kI ho hd T.fits ?_);dsimp only;unfold EV;refine qw (qw (uX (qy ?_)));dsimp only;rw[qW (show.(L).w.params.followText "set-order"=ai from hf)];refine qw (uX (qy ?_));dsimp only;have e:dJ w S es ep=(si (w.params.setOrder S ep) es).toList:=by unfold dJ;rw[qW hf]
  cases hx:(dJ w S es ep)[i]? with
  |none=>
   have hx':(si (.(L).w.params.setOrder S ep) es)[i]?=ab:=by rw[←qG];rw[e] at hx;exact hx
   rw[hx'];exact qy (h2 hx)
  |some p=>
   have hx':(si (.(L).w.params.setOrder S ep) es)[i]?=aa p:=by rw[←qG];rw[e] at hx;exact hx
   rw[hx'];exact qy (h1 p slot hx (fun z=>by rw[hf] at z;cases z))
 |false=>
  rw[qX (show ¬.(L).w.params.followText "set-order"=ai from by rw[show.(L).w.params.followText "set-order"=ao from hf];simp)];have e:dJ w S es ep=es.toList:=by unfold dJ;rw[qX (by rw[hf];simp)]
  refine zf (fun hz=>?_) (fun _=>?_)
  .have hz':(!t.plain && decide (es.size > 1))=ai:=hz;rw[hpl] at hz';cases hz'
  refine qw ?_;show aK _ _ (if (!t.led && !es.isEmpty)=ai then _ else _) _ _ _;rw[hled,hf];rw[qX (by simp)];refine qy ?_;rw[hb hf];cases hx:es[i]? with
  |none=>
   dsimp only;exact qy (h2 (by rw[e,qG];exact hx))
  |some p=>
   have hlt:i<t.place.size:=by rw[T.sz];exact(gF.mp hx).1
   have hj:t.place[i]?=aa t.place[i]:=by simp[hlt]
   rw[hj];dsimp only;exact qy (h1 p _ (by rw[e,qG];exact hx) fun _=>FB T.ri hj)
end
end ST
namespace ST
open PySem PySem.Calls PyProof.Rows PyProof.V PySem.Spec PySem.W
section
variable {E:Value->aG->Prop} {it:av} {o:a8} {es:bP (ag×Value)} {t:gZ}
theorem Io {Q:ar Value->aG->Prop} {e:ag×Value} (hit:SIt s.heap it S slot i es.size ep) (ho:s.heap.get? S=aa o) (hd:o.data=.set es ep t) (T:Tb t es) (hpl:t.plain=ai) (hled:t.led=!w.params.followText "set-order") (hb:w.params.followText "set-order"=ao->bZ t.place slot=i)
  (hx:(dJ w S es ep)[i]?=aa e)
  (hQ:∀h' slot',SIt h' it S slot' (i+1) es.size ep->(w.params.followText "set-order"=ao->bZ t.place slot'=i+1)->ii it s.heap h'->Q (aa e.2) {s with heap:=h'}):aK .(L) A (jI (.ref it)) Q E s:=by
 obtain⟨oi,hoi,hci,hdi⟩:=id hit;unfold jI;refine qw (y9 (Ej (name:=yt "__next__") hit.typeIs nO (rD nO hit.typeIs zr ?_ (Bd _))));unfold Builtin.«set_iterator.__next__»;refine qw (qy ?_);refine qw (Q4 hoi hdi ?_);dsimp only;refine qw (EW ho hd T.fits ?_);rw[qX (by simp)];refine qw (zl (S:=S) (slot:=((slot:ag).toNat)) (i:=((i:ag).toNat)) ho hd T hpl hled (by rw[kL,kL];exact hb) (fun e' slot' q1 q2=>?_) (fun q=>?_))
 .simp only[kL] at q1 q2;rw[hx] at q1;cases q1;dsimp only;refine qw (EX hoi hdi (by simp) ?_);have h1:=ER (uZ (·.setIfInBounds 0 (kD (slot':ag)))) hoi (Q5 (sj hdi _));refine qw (EX h1 (sj hdi _) (by simp) ?_);have h2:=ER (uZ (·.setIfInBounds 1 (kD ((i:ag)+1)))) h1 (Q5 (sj (sj hdi _) _));have hs:=(oR s.heap it (uZ (·.setIfInBounds 0 (kD (slot':ag))))).trans (oR (s.heap.update it (uZ (·.setIfInBounds 0 (kD (slot':ag))))) it (uZ (·.setIfInBounds 1 (kD ((i:ag)+1)))));exact qy ⟨_,rfl,qy (hQ _ slot' ⟨_,h2,((Q6 ..).trans (Q6 ..)).trans hci,by rw[sj (sj hdi _)];simp[kD]⟩ q2 hs)⟩
 .simp only[kL] at q;rw[hx] at q;cases q
theorem I0 {Q:ar Value->aG->Prop} (hh:A.handled=ab) (hit:SIt s.heap it S slot i es.size ep) (ho:s.heap.get? S=aa o) (hd:o.data=.set es ep t) (T:Tb t es) (hpl:t.plain=ai) (hled:t.led=!w.params.followText "set-order") (hb:w.params.followText "set-order"=ao->bZ t.place slot=i)
  (hx:(dJ w S es ep)[i]?=ab)
  (hQ:∀h',Heap.ExtBut it s.heap h'->Q ab {s with heap:=h'}):aK .(L) A (jI (.ref it)) Q E s:=by
 obtain⟨oi,hoi,hci,hdi⟩:=id hit;unfold jI;refine qw (y9 (Ej (name:=yt "__next__") hit.typeIs nO (rD nO hit.typeIs zr ?_ (Bd _))));unfold Builtin.«set_iterator.__next__»;refine qw (qy ?_);refine qw (Q4 hoi hdi ?_);dsimp only;refine qw (EW ho hd T.fits ?_);rw[qX (by simp)];refine qw (zl (S:=S) (slot:=((slot:ag).toNat)) (i:=((i:ag).toNat)) ho hd T hpl hled (by rw[kL,kL];exact hb) (fun e' slot' q1 q2=>?_) (fun q=>?_))
 .simp only[kL] at q1;rw[hx] at q1;cases q1
 .dsimp only;refine qw (EX hoi hdi (by simp) ?_);refine qw ?_;simp only[newExc,newTuple];refine qw (lL ?_ (by size_fits));refine qw (m:=Q7 _ _) (uW (a:=oA) (by first|rfl|(simp only[Q7];rfl)) ?_);refine lL ?_ (by size_fits);simp only[raiseNew];refine qw (wpAny_handled ?_);rw[show A.in1.handled=ab from hh];refine qw (qy (wpAny_throw ?_));refine qw (za (T:="StopIteration") (b:=ai) ⟨_,qE _ rfl,rfl⟩ isSubtype_stop ?_);exact qy (hQ _ (((oR ..).extBut.push _).push _))
theorem HZ (hit:SIt s.heap it S slot i n ep) (h:Q (.ref it) s):aK .(L) A (oC (.ref it)) Q E s:=by refine Q8 hit.typeIs Be (rD Be hit.typeIs HI ?_ (N6 _));show aK _ _ (ret (.ref it)) _ _ s;exact qy ⟨_,rfl,"set_iterator",_,hit.typeIs,nO.lookup,h⟩
theorem H0 (ho:s.heap.get? S=aa o) (hc:o.ExactSet) (hd:o.data=.set es ep t) (T:Tb t es) (hpl:t.plain=ai)
  (hQ:Q (.ref s.heap.objs.size) {s with heap:=s.heap.push {cls:=.type "set_iterator",data:=.fields #[.int 0 0,.int 0 0,.ref S,.int es.size 0,.int ep 0]} }):aK .(L) A (oC (.ref S)) Q E s:=by
 have hT:s.TypeIs (.ref S) "set":=⟨o,ho,hc.1⟩;refine Q8 hT zU (rD zU hT MP ?_ (Mf _));unfold Builtin.«frozenset.__iter__»;refine qw ?_;unfold Sm;refine qw (qy ?_);refine qy ?_;refine qw ?_;unfold Sn;refine qw (EW ho hd T.fits (qy ?_));refine qw ?_;unfold setDrawn;refine qw (kI ho hd T.fits ?_);dsimp only;unfold EV;refine qw (qw (uX (qy ?_)));refine qy ?_;refine zf (fun hz=>?_) (fun _=>?_)
 .have hz':(!w.params.followText "set-order" && (!t.plain && decide (es.size > 1)))=ai:=hz;rw[hpl] at hz';simp at hz'
 refine qw (qy ?_);refine qw ?_;unfold setEpoch;refine qw (kI ho hd T.fits (qy ?_));refine qw ?_;unfold newFields;refine lL (qy ⟨_,rfl,"set_iterator",_,⟨_,qE _ rfl,rfl⟩,nO.lookup,?_⟩);exact hQ
theorem NG (hh:A.handled=ab) (I S:av) (hne:S≠I) (o:a8) (hd:o.data=.set es ep t) (T:Tb t es) (hpl:t.plain=ai) (hled:t.led=!w.params.followText "set-order") :
  Walks prog w A I [I,S] [I] es.size (fun i v=>∃e,(dJ w S es ep)[i]?=aa e/\v=e.2) (fun i h=>h.get? S=aa o/\∃slot,SIt h I S slot i es.size ep/\(w.params.followText "set-order"=ao->bZ t.place slot=i)) where
 sub:=fun b hb=>by simp at hb;simp[hb]
 frame:=fun _ _ _ st hk=>by obtain⟨h1,slot,⟨oi,h2,h3⟩,h4⟩:=st;exact⟨hk S (by simp) o h1,slot,⟨oi,hk I (by simp) oi h2,h3⟩,h4⟩
 item:=fun i s Q E hi st hQ=>by obtain⟨h1,slot,h2,h4⟩:=st;have hl:(dJ w S es ep).length=es.size:=(pI w S es ep).length_eq.trans (fV);have hx:(dJ w S es ep)[i]?=aa ((dJ w S es ep)[i]'.(e)):=qB _;refine Io h2 h1 hd T hpl hled h4 hx fun h' slot' q1 q2 q3=>?_;exact hQ _ h' s.toks ⟨_,hx,rfl⟩ ⟨(q3.extBut S o hne h1),slot',q1,q2⟩ fun b o hb e=>q3.extBut b o (fun h=>hb (by simp[h])) e
 done:=fun s Q E st hQ=>by obtain⟨h1,slot,h2,h4⟩:=st;have hl:(dJ w S es ep).length=es.size:=(pI w S es ep).length_eq.trans (fV);exact I0 hh h2 h1 hd T hpl hled h4 (yF .(e)) fun h' he'=>hQ h' s.toks fun b o hb e=>he' b o (fun h=>hb (by simp[h])) e
 self:=fun _ _ _ _ st hQ=>by obtain⟨h1,slot,h2,h4⟩:=st;exact HZ h2 hQ
theorem HW {r:av} {Q:aN->aG->Prop} (hT:s.TypeIs (.ref r) "set") (h:Q ao s):aK .(L) A (Q9 (.ref r)) Q E s:=by
 unfold Q9;refine qw (Eu hT KG ?_);generalize hid:("set.__len__":db)=id0
 wp_delta
 rw[show splitId id0=aa ("set","__len__") from by subst hid;decide +kernel];subst hid;refine qw (za (T:="set") (b:=ai) hT (by rw[ze];kernel_rfl) ?_);refine zf (fun hab=>bz hab .(h)) (fun _=>?_);refine zf (fun _=>?_) (fun hab=>bz .(p) hab);refine qw (rE hT ?_);exact qy h
theorem src (S:av) (o:a8) (hc:o.ExactSet) (hd:o.data=.set es ep t) (T:Tb t es) (hpl:t.plain=ai) (hled:t.led=!w.params.followText "set-order") :
  KdlSrc prog w "set" S S es.size (fun i v=>∃e,(dJ w S es ep)[i]?=aa e/\v=e.2) (fun h=>h.get? S=aa o) where
 type:=fun s h=>⟨o,h,hc.1⟩
 there:=fun h ho=>⟨qu ho,qu ho⟩
 keep:=fun _ _ h hk=>hk S (.inl rfl) o h
 notList:=by decide
 notTuple:=by decide
 hint:=fun _ _ _ _ h hq=>HW ⟨o,h,hc.1⟩ hq
 iter:=fun A s hh h=>⟨_,_,(fun _ _ hq=>H0 h hc hd T hpl hq),NG hh _ S (qA (qu h)) o hd T hpl hled,⟨qt _ h,0,⟨_,qE _ rfl,rfl,rfl⟩,fun _=>by
  obtain⟨b0,b1,b2⟩:=og t.place 0 T.ri;rcases Nat.eq_zero_or_pos (bZ t.place 0) with q|q
  .exact q
  .have hlt:0<t.place.size:=by omega
   have:=b1 0 q _ (Q3 hlt);omega⟩⟩
end
end ST
section
open ST
noncomputable def leZ (a b:ag):aN:=decide (a<=b)
noncomputable def lz (l:ac ag):ac ag:=l.mergeSort leZ
theorem Jf {l l':ac ag} (hp:l'.Perm l) (hs:l'.Pairwise (·<=·)):l'=lz l:=
 List.Perm.eq_of_pairwise (le:=fun a b=>leZ a b=ai) (fun a b _ _ h1 h2=>Int.le_antisymm (eU h1) (eU h2)) (hs.imp fun h=>qQ h)
  (Ra (le:=leZ) (fun a b c h1 h2=>qQ (EY (eU h1) (eU h2))) (fun a b=>by
   rcases Int.le_total a b with h|h
   .rw[show leZ a b=ai from qQ h];rfl
   .rw[show leZ b a=ai from qQ h];exact EZ _) l) (hp.trans (u0 l leZ).symm)
noncomputable def tD (P:bU) (w:cQ) (p:av) (ns:ac ag):HO:=.ext fun h=>∃o,h.get? p=aa o/\IS P w (!w.params.followText "set-order") ns o
theorem Jv (hc:X.calm=ai):eQ X (.type "set") (fun xs H Q=>∃(a:av) (ns:ac ag),xs=[.ref a]/\H a=aa (.lst (ns.map V.int))/\ns.length<=300/\∀p,H p=ab->Q (.ref p) (upd H p (tD X.prog X.w p ns))):=by
 intro pins s σ H xs us Q I r h;obtain⟨a,ns,rfl,ha,hl,q⟩:=h;obtain⟨u,rfl,ru⟩:=fu r;cases ru;obtain⟨its,rv,pl,hz⟩:=I.list (.inl (.inl ha));have hkl:ns.length=its.length:=by have:=rv.length;rwa [qf] at this
 refine xE (I.ok.hd hc) pl.isList (fun i o=>IS X.prog X.w (!X.w.params.followText "set-order") (ns.take i) o) ?_ (fun A' hA' i v sh o Q' E' hi hv ho hJ hB hQ=>?_) fun h' tk o ho hJ hk=>?_
 .refine⟨⟨rfl,rfl,rfl⟩,#[],0,kJ 0 0 (!X.w.params.followText "set-order"),rfl,?_,.inl rfl,rfl,rfl,fun e he=>by simp at he,?_⟩
  .exact⟨xY,rfl,rfl,by simp[kJ],by simp[kJ],by simp[kJ],fun i j h x hp=>by simp[kJ] at hp⟩
  .simp[iG,dd]
 .have hi':i<ns.length:=by rw[qz] at hi;omega
  obtain⟨u2,hu2,ru2⟩:=rv.get (i:=i) (x:=V.int ns[i]) (by simp[hi']);have ev:v=u2:=by
   have hv':its[i]?=aa v:=by simpa using hv
   rw[hu2] at hv';exact(qF hv').symm
  subst ev;obtain⟨t0,rfl⟩:=ru2;have htk:ns.take (i+1)=ns.take i++[ns[i]]:=by rw[nk,qB hi'];rfl
  exact KR ho hJ (by rw[qC];omega) fun bb h' tk o' h1 h2 h3 h4=>hQ bb h' tk o' h1 h2 h3 (by show IS _ _ _ (uU (i+1) ns) o';rw[htk];exact h4)
 .have e:ns.take its.toArray.size=ns:=by rw[qz,←hkl];exact jP
  rw[e] at hJ;refine⟨.ref s.heap.objs.size,_,I.laid (a:=s.heap.objs.size) (o:=tD X.prog X.w s.heap.objs.size ns) (fun b u e=>hk b u (qu e) e) (qv _) ?_,rfl,q _ I.fresh⟩;refine⟨⟨o,ho,hJ⟩,⟨o,ho⟩,fun h1 h2 hp hk2=>?_⟩;obtain⟨o1,q1,q2⟩:=hp;exact⟨o1,hk2 o1 q1,q2⟩
theorem Bb {P:al->Value->Prop}:∀{vs:ac Value} {ms:ac ag},vs.length=ms.length->(∀(j:al) v,vs[j]?=aa v->∃m t,ms[j]?=aa m/\v=c5 m t)->jM vs ms
 |[],[],_,_=>.nil
 |v::vs,m::ms,hl,h=>by obtain⟨m',t,h1,rfl⟩:=h 0 v rfl;cases h1;exact .cons _ _ (Bb (P:=P) (by simpa using hl) fun j v e=>h (j+1) v e)
theorem Dq:∀{vs:ac Value} {ms:ac ag},jM vs ms->bH (ms.map V.int) vs
 |_,_,.nil=>.nil
 |_,_,.cons x t r=>.cons ⟨t,rfl⟩ (Dq r)
theorem ID (hc:X.calm=ai):eQ X (.builtin "sorted") (fun xs H Q=>∃(a:av) (ns:ac ag),xs=[.ref a]/\H a=aa (tD X.prog X.w a ns)/\ns.length<64/\∀p,H p=ab->Q (.ref p) (upd H p (.lst ((lz (dd ns)).map V.int)))):=by
 intro pins s σ H xs us Q I r h;obtain⟨a,ns,rfl,ha,h64,q⟩:=h;obtain⟨u,rfl,ru⟩:=fu r;cases ru;obtain⟨⟨o,ho,hex,es,ep,t,hd,T,hM,hpl,hled,hE,hp⟩,_,_⟩:=I.hok a _ ha;have hh:X.A.handled=ab:=I.ok.hd hc;have hsl:=fH;have hdl:=l0 ns;have hsz:es.size=(dd ns).length:=by have:=hp.length_eq;unfold iG at this;rw[qf,fV] at this;exact this
 refine Calls.call_function_entry kind_sorted plain_sorted entry_sorted (args_sorted1 _) ?_;unfold Builtin.«sorted»;refine qw (m:=checkCount "sorted" 1 1 _) (qy ?_);refine qw (PySem.W.kdu_collect (A:=X.A.in1) (src (prog:=X.prog) (w:=X.w) a o hex hd T hpl hled) hh ho .(e) fun h' tk acc hkp hacc=>?_);have hl:acc.toList.length=es.size:=by rw[fV];exact hacc.1
 refine qw (wpAny_newList ?_ (by rw[hl];omega));have hol:(dJ X.w a es ep).length=es.size:=(pI X.w a es ep).length_eq.trans (fV);have hS:jM acc.toList (iG (dJ X.w a es ep).toArray):=Bb (P:=fun _ _=>True) (by rw[hl];simp[iG,hol]) fun j v e=>by obtain⟨e2,q1,rfl⟩:=hacc.2 j v (by rw[←qG];exact e);obtain⟨m,t,he⟩:=hE e2 ((pI X.w a es ep).mem_iff.mp (qN q1));refine⟨m,t,?_,by rw[he]⟩;unfold iG;rw[qk,show(dJ X.w a es ep).toArray.toList=dJ X.w a es ep from rfl,q1,he];rfl
 have hoL:(h'.push (seqObj "list" acc.toList.toArray 0)).get? h'.objs.size=aa (seqObj "list" acc.toList.toArray 0):=qE _ rfl;refine qw (im (rD slot_list_sort ⟨_,hoL,rfl⟩ entry_list_sort (list_sort_tree hoL hS (by rw[hl];omega) fun out ns' a1 a2 a3=>⟨_,rfl,?_⟩) (args_list_sort _)));have hpp:ns'.Perm (dd ns):=a2.trans ((OM (es':=(dJ X.w a es ep).toArray) (pI X.w a es ep)).trans hp);have es':=Jf hpp a3;subst es';refine qy ⟨_,rfl,?_⟩;obtain⟨ee,he⟩:=sortedHeap_at (h:=h'.push (seqObj "list" acc.toList.toArray 0)) (out:=out) hoL;have hls:(lz (dd ns)).length=(dd ns).length:=(u0 (dd ns) leZ).length_eq;have hno:∀u,s.heap.get? h'.objs.size=aa u->False:=fun u e=>lI _ (qu (hkp _ _ e));have hn:=I.none_of hno;refine⟨.ref h'.objs.size,upd H h'.objs.size (.lst ((lz (dd ns)).map V.int)),I.many (t':=tk) (fun b o e=>?_) (fun b o e=>by rw[a6 (ce e hn)];exact e) (fun b o e1 e2=>?_),rfl,q _ hn⟩
 .have hb:b<h'.objs.size:=qu (hkp b o e);rw[sortedHeap_old (qA hb) (by rw[size_push'];exact uY hb)];exact qt _ (hkp b o e)
 .by_cases hb:b=h'.objs.size
  .subst hb;rw[cc] at e2;cases e2;exact⟨hno,by rw[qf,hls];omega,_,ee,Dq a1,by rw[Array.toArray_toList];exact he⟩
  .rw[a6 hb,e1] at e2;cases e2
noncomputable def wp:D->ar D
 |.lst l=>if l.length<64 then (jX l).map fun ns=>.lst ((lz (dd ns)).map D.int) else ab
 |_=>ab
theorem Jy (hc:X.calm=ai) (hgl:Gl X "sorted") (hml:X.mg "sorted"=ab) (hgs:Gl X "set") (hms:X.mg "set"=ab) (h:DE Γ X e f)
  (h1:a7 ([.Call (.Name "set" p2) [e] [] pos2]:ac Expr) X.env=(ao,eval (.Call (.Name "set" p2) [e] [] pos2) X.env)::a7 [] X.env:=by rfl) (h2:(cE pos (a7 [] X.env)).any (·.1)=ao:=by rfl)
  (h3:a7 ([e]:ac Expr) X.env=(ao,eval e X.env)::a7 [] X.env:=by rfl) (h4:(cE pos2 (a7 [] X.env)).any (·.1)=ao:=by rfl) :
  DE Γ X (.Call (.Name "sorted" p) [.Call (.Name "set" p2) [e] [] pos2] [] pos) (b1 wp f):=⟨by
 refine(vq (ID hc) hgl hml (by rfl) (j9 (tX (Jv hc) hgs hms (by rfl) (j9 h.1 kx h3) .(h) .(h) h3 h4) kx h1) .(h) .(h) h1 h2).imp fun σ H Q=>?_;rintro⟨G₀,H₀,G,ρ,d,A,hq,k⟩;unfold b1 at hq;obtain⟨x,hx,hl⟩:=oBd hq;clear hq;refine⟨G₀,H₀,G,ρ,x,A,hx,fun v G1 H1 s1 r1=>?_⟩;unfold wp at hl;split at hl
 .rename_i l;split at hl
  .rename_i hz;obtain⟨ns,hn,rfl⟩:=oMd hl;obtain⟨a,vs,rfl,ha,ra⟩:=r1.lst_inv;have ev:=vd ra hn;subst ev;have hln:ns.length=l.length:=by have:=ra.length;rwa [qf] at this
   refine⟨a,ns,rfl,s1.gh _ _ ha,by omega,fun p hp=>⟨p,ns,rfl,cc,by omega,fun q hq=>?_⟩⟩;have s2:=s1.trans (Step.newOwn (o:=tD X.prog X.w p ns) s1.gh hp);exact oy s2.gh (Reps.ints _) (fun w G' H' st r=>k w G' H' (s2.trans st) r) q hq
  .cases hl
 .cases hl⟩
end
noncomputable def bt (p:av) (H:Hp):Hp:=fun a=>if a=p then ab else H a
noncomputable abbrev FR:=bf->ag->ar (D×ag)
noncomputable abbrev FRt:=bf->ag->ar (aN×ag)
noncomputable abbrev FRa:=bf->ag->ar (ac D×ag)
noncomputable abbrev FRs:=bf->ag->ar (Fl×bf×ag)
noncomputable def rb (f:bf->ag->ar (α×ag)) (g:bf->α->ag->ar (β×ag)):bf->ag->ar (β×ag):=fun ρ r=>(f ρ r).bind fun x=>g ρ x.1 x.2
noncomputable def rM (f:bf->ag->ar (α×ag)) (g:α->ar β):bf->ag->ar (β×ag):=fun ρ r=>(f ρ r).bind fun x=>(g x.1).map fun d=>(d,x.2)
section
variable {a:Expr} {bX:ac Expr} {fa fb f:FR} {fr fi:FRa} {ft gt:FRt} {F:FE}
noncomputable def r2 (g:D->D->ar D) (fa fb:FR):FR:=rb fa fun ρ x r=>rM fb (fun y=>g x y) ρ r
end
section
variable {a:Expr} {bX:ac Expr} {fa fb f:FR} {fr fi:FRa} {ft gt:FRt} {y:ah} {g g':FRs}
end
section
variable {a:Expr} {fa fb f:FR} {fr:FRa} {y:ah}
end
noncomputable def bl (T H:Hp):Hp:=fun a=>if (T a).isSome=ai then ab else H a
noncomputable def jn (T H:Hp):Hp:=fun a=>if (T a).isSome=ai then T a else H a
noncomputable def OD (c':av) (qual:ah):Heap->Prop:=fun h=>h.CodeRec (.ref c') qual
noncomputable def Ku (pos:dn) (c':av):bP Value:=#[kD pos.line,kD pos.col,.ref c']
noncomputable def T1 (P:av) (qual:ah) (pos:dn) (c':av):Hp:=upd (upd (fun _=>ab) P (.tbl (Ku pos c'))) c' (.ext (OD c' qual))
section
open PyProof
end
section
variable {J:Hp->Prop} {a:Expr} {y:ah}
end
section
variable {J:Hp->Prop} {p1:dn}
end
section
open PyProof
noncomputable def btS (ss:ac ah) (i j:al):aN:=decide ((ss.getD i fX).cps.toList<(ss.getD j fX).cps.toList)
noncomputable def mnS (ss:ac ah):ah:=ss.getD (jQ (btS ss) (ss.length-1)) fX
noncomputable def xg:FQ
 |[.lst l]=>(iF l).bind fun ss=>if ss=[] then ab else aa (.str (mnS ss))
 |_=>ab
theorem GZ {P:al->Value->Prop} (ss:ac ah) (hval:∀i v,P i v->∃t,v=.str (ss.getD i fX) t):CmpOf prog w A .Lt P (btS ss):=fun i j vi vj s Q E hi hj h=>by obtain⟨t,rfl⟩:=hval i vi hi;obtain⟨u,rfl⟩:=hval j vj hj;exact richCompare_gives (op:=.Lt) (uK s _ t) (uK s _ u) F.slot_str_lt F.entry_str_lt (F.args_str_lt_2 _ _) (gives_str_lt _ _ t u) (fun x=>nomatch x) h
theorem CP:∀{vs:ac Value} {ss:ac ah},StrsAre vs ss->∀(i:al) v,vs[i]?=aa v->∃t,v=.str (ss.getD i fX) t
 |_,_,.cons x t r,0,v,e=>by cases e;exact⟨t,rfl⟩
 |_,_,.cons x t r,i+1,v,e=>by obtain⟨t,h⟩:=CP r i v e;exact⟨t,h⟩
theorem OG (hc:X.calm=ai):eQ X (.builtin "min") (fun xs H Q=>∃(a:av) (ss:ac ah),xs=[.ref a]/\H a=aa (.lst (ss.map V.str))/\ss≠[]/\Q (.str (mnS ss)) H):=by
 intro pins s σ H xs us Q I r h;obtain⟨a,ss,rfl,ha,e0,q2⟩:=h;obtain⟨u,rfl,ru⟩:=fu r;cases ru;obtain⟨its,rv,pl,_⟩:=I.list (.inl (.inl ha));have hS:=zx rv;have vl:its.length=ss.length:=by have:=rv.length;simpa using this.symm
 refine call_min_walk (rR pl.isList ?_);have la:a<s.heap.objs.size:=by obtain⟨o,_,h1,_⟩:=pl;exact qu h1
 have hP:∀(i:al) v,its.toArray[i]?=aa v->∃t,v=.str (ss.getD i fX) t:=fun i v hv=>CP hS i v (by simpa using hv);have sz:its.toArray.size=ss.length:=by simp[vl]
 refine⟨s.heap.objs.size,_,_,_,_,_,btS ss,rfl,uO (A:=X.A.in1) (show X.A.in1.handled=ab from I.ok.hd hc) s.heap.objs.size a (qA la) its.toArray,⟨⟨_,qE _ rfl,rfl,rfl⟩,pl.isList.at fun o q=>qt _ q⟩,fun b hb=>?_,?_,GZ ss hP,fun v h' tk pv hk=>?_⟩
 .rw[mZ];simp only[qJ,qH,or_false] at hb;rcases hb with z|z
  .rw[z];exact uI _
  .rw[z];exact uY la
 .rw[sz];exact E1.mpr e0
 .obtain⟨t,rfl⟩:=hP _ _ pv;refine⟨.str (mnS ss),H,I.kept fun b o z=>hk b o ?_ (qt _ z),?_,q2⟩
  .intro z';have:b=s.heap.objs.size:=by simpa using z'
   exact bz (qu z) (by rw[this];exact lI _)
  .unfold mnS;rw[sz];exact⟨t,rfl⟩
theorem JQ (hc:X.calm=ai):BltD Γ X "min" xg:=⟨_,OG hc,fun {G H vs ds z} gh r h Q k=>by
 unfold xg at h;split at h
 .obtain⟨ns,hn,h⟩:=oBd h;split at h
  .cases h
  .rename_i hne;cases h;obtain⟨v,rfl,r1⟩:=r.one;obtain⟨a,us,rfl,ha,ra⟩:=r1.lst_inv;exact⟨a,ns,rfl,by rw[←xS ra hn];exact gh _ _ ha,hne,k _ G H (.refl gh) (.str _)⟩
 .cases h⟩
end
section
open PyProof
end
section
open PyProof
theorem Jp:PE X (.Dict [] [] pos) (fun σ H Q=>∀p o,H p=ab->Q (.ref p) (upd H p (.frz o (.dK [])))):=by intro pins s σ H Q I h;refine thn (wZ pins s σ H (fun v H'=>∃p,v=.ref p/\H p=ab/\H'=upd H p (.dK [])) I fun p hp=>⟨p,rfl,hp,rfl⟩) fun v s1 ⟨x,H1,I1,r1,p,e1,hp,e2⟩=>?_;subst e1 e2;obtain⟨o,ho⟩:=(I1.hok p _ cc).there;have I2:=I1.frz cc ho;rw[GX] at I2;exact⟨.ref p,_,I2,r1,h p o hp⟩
theorem GL:DE Γ X (.Dict [] [] pos) (vC (.fdk [])):=⟨Jp.imp fun σ H Q=>by rintro⟨G₀,H₀,G,ρ,d,A,h,k⟩;cases h;intro p o hp;have s:=Step.new (o:=.frz o (.dK [])) A.gh hp;exact k _ _ _ s (.fdk cc rfl .nil)⟩
end
section
open PyProof
noncomputable def o6 (i:al) (fk:FE):FE:=fun ρ=>match ρ[i]? with
 |some (aa (.odk kvs))=>(fk ρ).bind fun kd=>(gG kd).bind fun k=>cv kvs k
 |_=>ab
section
theorem JU (i:al) (hu:X.A.units+66<cr) (hk:DE Γ X ke fk) (hs:tR ke:=by intro _ _;rfl) (hN:X.N[i]?=aa x:=by rfl) (hv:Vis X.env.scope x:=by first|exact dy rfl|exact cP (dy rfl)|exact cP (cP rfl)) (hd:.(H)=ao:=by decide)
  (hcd:(x==("__classdict__":ah))=ao:=by decide):DE Γ X (.Subscript (.Name x vp) ke pos) (o6 i fk):=⟨(By .(e) (i7 hN hv hd hcd) hk.1 hs).imp fun σ H Q=>by
 rintro⟨G₀,H₀,G,ρ,d,A,h,k⟩;unfold o6 at h;split at h
 .rename_i kvs hi;obtain⟨kd,hkd,h⟩:=oBd h;obtain⟨kk,hkk,h⟩:=oBd h;obtain⟨w,fp,h1,h2⟩:=A.get hi;cases h2 with
  |odk q1 q2 q3 q4 q5=>
   rename_i a us;refine⟨_,h1,G₀,H₀,G,ρ,_,A,hkd,fun u G2 H2 s2 r2=>?_⟩;have eu:=mO r2 hkk;subst eu;rcases o7 (k:=kk) q4 (q5.mono s2.gg) with⟨n1,n2⟩|⟨y,u,n1,n2,n3⟩
   .rw[n1] at h;cases h
   .rw[n1] at h;cases h;exact⟨a,u,rfl,.inl ⟨us,kk,.inl (s2.hh _ _ q3),rfl,n2.symm⟩,k u G2 H2 s2 n3⟩
 .cases h⟩
noncomputable def pH (i j:al) (fa:FA):FS:=fun ρ=>(fa ρ).bind fun ds=>match ds with
 |[a,b]=>aa (.nx,(ρ.set i (aa (.sh a))).set j (aa (.sh b)))
 |_=>ab
variable {y:ah} {a:Expr} {pt pt2:dn} {kt k2:al}
theorem C0 (i j:al) (hc:X.calm=ai) (hN:X.N.Nodup) (ha:DA Γ X [a,b] fr) (hi:X.N[i]?=aa x:=by rfl) (hj:X.N[j]?=aa y:=by rfl) (hij:i≠j:=by decide) (hx:X.env.scope.names.lookup x=aa .local:=by rfl) (hy:X.env.scope.names.lookup y=aa .local:=by rfl)
  (hw:yb [.Tuple [.Name x px,.Name y py] kt pt] (.Tuple [a,b] k2 pt2) X.env=bA (aa [x,y]):=by rfl)
  (hs:ya [.Tuple [.Name x px,.Name y py] kt pt] (.Tuple [a,b] k2 pt2) pos.line X.env=bA ao:=by rfl) :
  DS Γ X (.Assign [.Tuple [.Name x px,.Name y py] kt pt] (.Tuple [a,b] k2 pt2) pos) (pH i j fr):=⟨(Fp hc hN hi hj hij hx hy ha.1 hw hs).imp fun E σ H=>by
 rintro⟨G₀,H₀,G,ρ,fl,ρ',A,h,k⟩;unfold pH at h;obtain⟨ds,hd,h⟩:=oBd h;split at h
 .cases h;refine⟨G₀,H₀,G,ρ,_,A,hd,fun vs G1 H1 s1 r1=>?_⟩;cases r1 with
  |cons q1 q2=>
   cases q2 with
   |cons q2 q3=>
    cases q3;exact⟨_,_,rfl,k _ G1 H1 s1.gg (((A.step s1).setSh q1).setSh q2)⟩
 .cases h⟩
end
end
theorem Fv (us:ac Value):us=(cG us.length).map fun i=>us.getD i .none:=by
 apply List.ext_getElem
 .simp
 .intro i h1 h2;simp[oV,qB h1]
theorem bn {F:Value->Value->Value->ar av->Value->Value->m4} (h:∀a b c d e f (v:al->Value),lN (F a b c d e f) ⟨(cG ps.length).map v,[]⟩=bA (ps.zip ((cG ps.length).map v))) (a b c:Value) (d:ar av) (e f:Value) (us:ac Value) (hl:us.length=ps.length) :
  lN (F a b c d e f) ⟨us,[]⟩=bA (ps.zip us):=by
 have:=h a b c d e f fun i=>us.getD i .none;rw[←hl,←Fv us] at this;exact this
section
open PyProof
noncomputable def j5:FQ
 |[.lst l]=>(jX l).map fun ns=>.int ns.sum
 |_=>ab
theorem HV (hc:X.calm=ai):eQ X (.builtin "sum") (fun xs H Q=>∃(a:av) (ns:ac ag),xs=[.ref a]/\H a=aa (.lst (ns.map V.int))/\Q (.int ns.sum) H):=by
 intro pins s σ H xs us Q I r h;obtain⟨a,ns,rfl,ha,q2⟩:=h;obtain⟨u,rfl,ru⟩:=fu r;cases ru;obtain⟨its,rv,pl,_⟩:=I.list (.inl (.inl ha));have hi:jM its ns:=Jt rv;obtain⟨xs,e⟩:=hi.allInts.items;have hl:=pl.isList;rw[e] at hl;refine sum_intListG (I.ok.hd hc) hl fun h' tk t' hk=>?_;have en:preSum (numAt xs) xs.size=ns.sum:=by rw[preSum_eq,rP (by simp),←nums_intItems,←e,show its.toArray.toList=its from rfl,hi.numsOf]
 rw[en];exact⟨.int ns.sum,H,I.kept fun b o z=>hk b o z,⟨t',rfl⟩,q2⟩
theorem sr (hc:X.calm=ai):BltD Γ X "sum" j5:=⟨_,HV hc,fun {G H vs ds z} gh r h Q k=>by
 unfold j5 at h;split at h
 .obtain⟨ns,hn,h⟩:=oMd h;cases h;obtain⟨v,rfl,r1⟩:=r.one;obtain⟨a,us,rfl,ha,ra⟩:=r1.lst_inv;exact⟨a,ns,rfl,by rw[←vd ra hn];exact gh _ _ ha,k _ G H (.refl gh) (.int _)⟩
 .cases h⟩
end
section
open PyProof
end
namespace Law
noncomputable def top (i:al):Stmt:=So.main.body.getD i (.Pass ⟨0,0,0,0⟩)
noncomputable def C6:ac ah:=["benches","steps","jobs","setups","links","stocks","horizon","bench_by_name","step_by_name","setup_by_names","job_by_step"]
noncomputable def Gam (C_Shop:av):Cn:=⟨fun c=>if c="Shop" then aa C_Shop else ab,ab⟩
noncomputable def fg:FQ:=aY 0
  (ax (sIf (toB (b2 ltD (vSh 1) (cF b8 .(ad)))) (aE (b2 ixD (vSh 0) (vSh 1))) aH) (aE .(c)))
noncomputable def eh:FQ:=aY 4
  (ax (aM 3 (b2 eY (cF uu .(ad)) .(l))) (ax (dI 4 (szF ak)) (ax (bC (itE (vSh 2)) (bN 2 (aI (ay 5) (aI (ay 6) bM))) (sIf (orT (toB (b2 eqD (b2 bQ (vSh 0) .(l)) .(d))) (toB (b2 eqD (vSh 3) .(c)))) .(S) (ax (c8 4 (b2 bQ (vSh 3) (vSh 6))) (aM 3 (b2 eY (vSh 3) (vSh 6)))))) (eB 4 (aE (vSh 4))))))
noncomputable def tI:FQ:=aY 6
  (ax (dI 2 (szF ak)) (ax (aM 3 .(c)) (ax (bC (itF (vSh 0)) (bN 2 (aI (ay 4) (aI (ay 5) bM))) (ax (aM 6 (b2 aV (vSh 3) (vSh 4))) (ax (aM 7 (b2 aV (b2 aV (vSh 6) .(d)) (vSh 5))) (sIf (toB (b2 leD (vSh 7) (vSh 1))) (ax (c8 2 (bi (szF (ae (vSh 6) (ae (vSh 7) ak))))) (aM 3 (b2 aV (vSh 7) .(d)))) aH)))) (eB 2 (aE (vSh 2))))))
noncomputable def fN:FQ:=aY 1
  (ax (aM 1 (b2 ixD (vC (.str "abcdefghijklmnopqrstuvwxyz")) (b2 bQ (vSh 0) (vC (.int 26))))) (aE (b2 aV (vSh 1) (b2 cT (b2 ixD (vC (.str "qrstuvw")) (b2 eY (vSh 0) (vC (.int 26)))) (b2 bQ (vSh 0) .(j))))))
noncomputable def wy:FQ:=aY 5
  (ax (dI 2 (szF ak)) (ax (bC (itE (vSh 0)) (bN 2 (aI (ay 3) (aI (ay 4) bM))) (ax (aM 5 (cF eh (ae (vSh 4) (ae (vSh 3) (ae (aP (szF (ae .(j) (ae (vC (.int 5)) (ae .(i) (ae (vC (.int 7)) (ae .(j) (ae (vC (.int 9)) (ae (vC (.int 5)) ak))))))))) ak))))) .(I))) (eB 2 (aE (vSh 2)))))
noncomputable def vo:FQ:=aY 5
  (ax (dI 4 (szF ak)) (ax (bC (itE (vSh 0)) (bN 2 (aI (ay 5) (aI (ay 6) bM))) (ax (aM 7 (cF eh .(af))) .(B))) (eB 4 (aE (vSh 4)))))
noncomputable def wj:FQ:=aY 8
  (ax (dI 3 (szF ak)) (ax (aM 4 (aP (bd (itF (vSh 1)) (ay 0) tT .(t) [ab]))) (ax (bC (itE (vSh 0)) (bN 2 (aI (ay 5) (aI (ay 6) bM))) .(R)) (eB 3 (aE (vSh 3))))))
noncomputable def xK:FQ:=aY 5
  (ax (dI 3 (szF ak)) (ax (bC (itE (cF eh (ae (vSh 0) (ae .(i) (ae (b2 cT (aP (szF (ae .(j) ak))) (vC (.int 6))) ak))))) (bN 2 (aI (ay 4) (aI (ay 5) bM))) .(E)) (eB 3 (aE (vSh 3)))))
noncomputable def wt:FQ:=aY 5
  (ax (dI 3 (szF ak)) (ax (aM 4 (cF eh (ae (vSh 0) (ae (vC (.int 5)) (ae (aP (szF (ae .(i) (ae (vC (.int 9)) (ae (vC (.int 9)) (ae .(j) (ae (vC (.int 9)) (ae (vC (.int 9)) (ae .(j) ak))))))))) ak))))) (ax (bC (itR eV (ae (b2 ixD (vSh 4) .(c)) ak)) (ay 5) .(y)) (eB 3 (aE (vSh 3))))))
noncomputable def vX:FQ:=aY 6
  (ax (aM 2 (cF eh (ae (vSh 0) (ae (vC (.int 9)) (ae (aP (szF (ae (vC (.int 7)) (ae .(j) (ae (vC (.int 5)) (ae (vC (.int 8)) (ae (vC (.int 8)) (ae .(j) (ae .(j) ak))))))))) ak))))) (ax (dI 3 (szF ak)) (ax (bC (itR eV (ae (b2 ixD (vSh 2) .(c)) ak)) (ay 4) .(O)) (eB 3 (aE (vSh 3))))))
noncomputable def wE:FQ:=aY 6
  (ax (aM 4 (cF wy (ae (aP (bd (itR eV (ae (b2 aV .(d) (b2 bQ (cF fg (ae (vSh 0) (ae .(c) ak))) .(i))) ak)) (ay 0) tT (cF fg (ae (vSh 1) (ae (b2 aV .(d) (vSh 0)) ak))) [ab,aa 0])) .(X)))) (ax (aM 5 (cF vo (ae (aP (bd (itR eV .(N)) (ay 0) tT (cF fg (ae (vSh 1) (ae (b2 aV .(j) (vSh 0)) ak))) [ab,aa 0])) (ae (vSh 4) (ae (vSh 2) .(U)))))) (ax (aM 6 (cF wj (ae (aP (bd (itR eV (ae .(i) ak)) (ay 0) tT (cF fg (ae (vSh 1) (ae (b2 aV (vC (.int 14)) (vSh 0)) ak))) [ab,aa 0])) (ae (vSh 5) .(X))))) (ax (aM 7 (cF xK (ae (cF fg (ae (vSh 0) (ae (vC (.int 17)) ak))) (ae (vSh 4) .(X))))) (ax (aM 8 (cF wt (ae (cF fg (ae (vSh 0) (ae (vC (.int 18)) ak))) (ae (vSh 5) .(X))))) (ax (aM 9 (cF vX (ae (cF fg (ae (vSh 0) (ae (vC (.int 19)) ak))) (ae (vSh 5) ak)))) (aE (aP (szF (ae (vSh 4) (ae (vSh 5) (ae (vSh 6) (ae (vSh 7) (ae (vSh 8) (ae (vSh 9) .(X))))))))))))))))
noncomputable def ux:FQ:=aY 0
  (aE (cD (cF dR (ae (vSh 0) (ae (vC (.ty "int")) ak))) (ut (cF dR (ae (vSh 0) (ae (vC (.ty "bool")) ak))))))
noncomputable def gB:FQ:=aY 0
  (aE (cD (cF ux .(ad)) (chD leD leD (vSh 1) (vSh 0) (vSh 2))))
noncomputable def fQ:FQ:=aY 0
  (aE (cD (cF dR (ae (vSh 0) (ae (vC (.ty "tuple")) ak))) (b2 eqD (cF b8 .(ad)) (vSh 1))))
noncomputable def t7:FQ:=aY 0
  (ax (sIf (orT (bu (toB (cF fQ (ae (vSh 0) (ae .(l) ak))))) (orT (bu (toB (cF gB (ae .(t) (ae .(c) .(N)))))) (bu (toB (cF gB (ae .(ac) (ae .(c) .(N)))))))) .(k) aH) (aE (b2 ltD .(t) .(ac))))
noncomputable def gR:FQ:=aY 0
  (aE (cD (cF dR (ae (vSh 0) (ae (vC (.ty "list")) ak))) (chD leD leD (vSh 1) (cF b8 .(ad)) (vSh 2))))
noncomputable def w8:FQ:=aY 0
  (ax (sIf (orT (bu (toB (cF gR (ae (vSh 0) (ae .(c) (ae (vC (.int 10)) ak)))))) (bu (toB (cF fE (ae (aP (bd (itF (vSh 0)) (ay 0) tT (cF t7 (ae (vSh 0) .(N))) [ab,aa 1])) ak))))) .(k) aH) (aE (cF fE (ae (aP (bd (itR lD (ae .(d) (ae (cF b8 .(ad)) ak))) (ay 0) tT (b2 ltD (b2 ixD (b2 ixD (vSh 1) (b2 gH (vSh 0) .(d))) .(d)) (b2 ixD (b2 ixD (vSh 1) (vSh 0)) .(c))) [ab,aa 0])) ak))))
noncomputable def iY:FQ:=aY 0
  (ax (sIf (orT (bu (toB (cF dR (ae (vSh 0) (ae (vC (.ty "str")) ak))))) (bu (toB (chD leD leD .(d) (cF b8 .(ad)) (vC (.int 8)))))) .(k) aH) (aE (cF fE (ae (aP (bd (itS (vSh 0)) (ay 0) tT (chD leD leD (vC (.str "a")) (vSh 0) (vC (.str "z"))) [ab])) ak))))
noncomputable def ub:FQ:=aY 0
  (aE (cD (cF fQ (ae (vSh 0) (ae .(l) ak))) (cD (cF iY (ae .(t) ak)) (cF w8 (ae .(ac) .(N))))))
noncomputable def fG:FQ:=aY 0
  (aE (b2 eqD (b1 nY (vSh 0)) (cF b8 .(ad))))
noncomputable def v6:FQ:=aY 0
  (ax (sIf (orT (bu (toB (cF gR (ae (vSh 0) (ae .(d) (ae (vC (.int 8)) ak)))))) (bu (toB (cF fE (ae (aP (bd (itF (vSh 0)) (ay 0) tT (cF ub (ae (vSh 0) .(N))) [ab,aa 1])) ak))))) .(k) aH) (aE (cF fG (ae (aP (bd (itF (vSh 0)) (ay 0) tT .(t) [ab])) ak))))
noncomputable def kg:FQ:=aY 0
  (aE (cD (cF iY .(ad)) (b2 dz (vSh 0) (vSh 1))))
noncomputable def uy:FQ:=aY 0
  (aE (cD (cF fQ (ae (vSh 0) (ae .(l) ak))) (cD (cF kg (ae .(t) .(N))) (cF gB (ae .(ac) (ae .(d) .(X)))))))
noncomputable def w9:FQ:=aY 0
  (ax (sIf (orT (bu (toB (cF gR (ae (vSh 0) (ae .(d) (ae .(j) ak)))))) (bu (toB (cF fE (ae (aP (bd (itF (vSh 0)) (ay 0) tT (cF uy (ae (vSh 0) (ae (vSh 1) .(X)))) [ab,aa 1,aa 2])) ak))))) .(k) aH) (aE (cF fG (ae (aP (bd (itF (vSh 0)) (ay 0) tT .(t) [ab])) ak))))
noncomputable def uh:FQ:=aY 0
  (ax (sIf (orT (bu (toB (cF fQ (ae (vSh 0) (ae .(i) ak))))) (orT (bu (toB (cF iY (ae .(t) ak)))) (bu (toB (cF iY (ae .(ac) ak)))))) .(k) aH) (aE (cF w9 (ae (b2 ixD (vSh 0) .(l)) (ae (vSh 1) .(X))))))
noncomputable def xc:FQ:=aY 0
  (ax (sIf (orT (bu (toB (cF gR (ae (vSh 0) (ae .(d) (ae (vC (.int 40)) ak)))))) (bu (toB (cF fE (ae (aP (bd (itF (vSh 0)) (ay 0) tT (cF uh (ae (vSh 0) (ae (vSh 1) .(X)))) [ab,aa 1,aa 2])) ak))))) .(k) aH) (aE (cF fG (ae (aP (bd (itF (vSh 0)) (ay 0) tT .(t) [ab])) ak))))
noncomputable def ve:FQ:=aY 0
  (ax (sIf (orT (bu (toB (cF fQ (ae (vSh 0) (ae (vC (.int 5)) ak))))) (orT (bu (toB (cF iY (ae .(t) ak)))) (bu (toB (cF dR (ae (b2 ixD (vSh 0) .(i)) (ae (vC (.ty "bool")) ak))))))) .(k) aH) (ax (sIf (orT (bu (toB (cF gB (ae .(ac) (ae .(c) .(X)))))) (bu (toB (cF gB (ae (b2 ixD (vSh 0) .(l)) (ae .(c) .(X))))))) .(k) aH) (aE (cD (cF gR (ae (b2 ixD (vSh 0) .(j)) (ae .(d) (ae (cF b8 .(N)) ak)))) (cF fE (ae (aP (bd (itF (b2 ixD (vSh 0) .(j))) (ay 0) tT (cF kg (ae (vSh 0) .(N))) [ab,aa 1])) ak))))))
noncomputable def wg:FQ:=aY 2
  (ax (sIf (orT (bu (toB (cF gR (ae (vSh 0) (ae .(c) (ae (vC (.int 40)) ak)))))) (bu (toB (cF fE (ae (aP (bd (itF (vSh 0)) (ay 0) tT (cF ve (ae (vSh 0) (ae (vSh 1) .(X)))) [ab,aa 1,aa 2])) ak))))) .(k) aH) (ax (dI 3 (szF ak)) (ax (bC (itF (vSh 0)) (ay 4) (iw 3 (b2 ixD (vSh 4) .(j)))) (eB 3 (aE (cD (cF fG (ae (aP (bd (itF (vSh 0)) (ay 0) tT .(t) [ab])) ak)) (cF fG .(U))))))))
noncomputable def sO:FQ:=aY 0
  (ax (sIf (orT (bu (toB (cF fQ (ae (vSh 0) (ae .(j) ak))))) (bu (toB (cF kg (ae .(t) .(N)))))) .(k) aH) (aE (cD (cF iY (ae .(ac) ak)) (cD (cF iY (ae (b2 ixD (vSh 0) .(l)) ak)) (cF gB (ae (b2 ixD (vSh 0) .(i)) (ae .(d) .(X))))))))
noncomputable def v7:FQ:=aY 0
  (ax (sIf (orT (bu (toB (cF gR (ae (vSh 0) (ae .(c) (ae (vC (.int 100)) ak)))))) (bu (toB (cF fE (ae (aP (bd (itF (vSh 0)) (ay 0) tT (cF sO (ae (vSh 0) (ae (vSh 1) .(X)))) [ab,aa 1,aa 2])) ak))))) .(k) aH) (aE (cF fG (ae (aP (bd (itF (vSh 0)) (ay 0) tT (slF (vSh 0) pN (pS .(i))) [ab])) ak))))
noncomputable def sq:FQ:=aY 0
  (ax (sIf (orT (bu (toB (cF fQ (ae (vSh 0) (ae .(i) ak))))) (orT (bu (toB (cF kg (ae .(t) .(N))))) (bu (toB (cF kg (ae .(ac) .(N))))))) .(k) aH) (aE (cD (b2 neA .(t) .(ac)) (cF gB (ae (b2 ixD (vSh 0) .(l)) (ae .(c) .(X)))))))
noncomputable def xW:FQ:=aY 0
  (ax (sIf (orT (bu (toB (cF gR (ae (vSh 0) (ae .(c) (ae (vC (.int 100)) ak)))))) (bu (toB (cF fE (ae (aP (bd (itF (vSh 0)) (ay 0) tT (cF sq (ae (vSh 0) (ae (vSh 1) .(X)))) [ab,aa 1,aa 2])) ak))))) .(k) aH) (aE (cF fG (ae (aP (bd (itF (vSh 0)) (ay 0) tT (slF (vSh 0) pN (pS .(l))) [ab])) ak))))
noncomputable def ue:FQ:=aY 0
  (aE (cD (cF fQ (ae (vSh 0) (ae .(l) ak))) (cD (cF kg (ae .(t) .(N))) (cF gB (ae .(ac) (ae .(d) (ae (vC (.int 1000000)) ak)))))))
noncomputable def uc:FQ:=aY 0
  (ax (sIf (orT (bu (toB (cF gR (ae (vSh 0) (ae .(c) (ae (cF b8 .(N)) ak)))))) (bu (toB (cF fE (ae (aP (bd (itF (vSh 0)) (ay 0) tT (cF ue (ae (vSh 0) .(N))) [ab,aa 1])) ak))))) .(k) aH) (aE (cF fG (ae (aP (bd (itF (vSh 0)) (ay 0) tT .(t) [ab])) ak))))
noncomputable def tM:FQ:=aY 0
  (ax (sIf (orT (bu (toB (cF fQ (ae (vSh 0) (ae (vC (.int 5)) ak))))) (bu (toB (cF iY (ae .(t) ak))))) .(k) aH) (ax (sIf (orT (bu (toB (cF gB (ae (b2 ixD (vSh 0) .(l)) (ae .(c) (ae (vC (.int 1000000)) ak)))))) (bu (toB (cF gB (ae .(ac) (ae .(c) (ae (b2 ixD (vSh 0) .(l)) ak))))))) .(k) aH) (aE (cD (cF uc (ae (b2 ixD (vSh 0) .(i)) .(N))) (cF uc (ae (b2 ixD (vSh 0) .(j)) .(N)))))))
noncomputable def vM:FQ:=aY 0
  (ax (sIf (orT (bu (toB (cF gR (ae (vSh 0) (ae .(c) (ae (vC (.int 6)) ak)))))) (bu (toB (cF fE (ae (aP (bd (itF (vSh 0)) (ay 0) tT (cF tM (ae (vSh 0) .(N))) [ab,aa 1])) ak))))) .(k) aH) (aE (cF fG (ae (aP (bd (itF (vSh 0)) (ay 0) tT .(t) [ab])) ak))))
noncomputable def vh:FQ:=aY 2
  (ax (sIf (bu (toB (cF gB (ae (vSh 6) (ae .(d) (ae (vC (.int 1000000)) ak)))))) (aE (vC (.str "horizon"))) aH) (ax (sIf (bu (toB (cF v6 (ae (vSh 0) (ae (vSh 6) ak))))) (aE (vC (.str "benches"))) aH) (ax (aM 7 (aP (bd (itF (vSh 0)) (ay 0) tT .(t) [ab]))) (ax (sIf (bu (toB (cF xc (ae (vSh 1) (ae (vSh 7) (ae (vSh 6) ak)))))) (aE (vC (.str "steps"))) aH) (ax (aM 8 (aP (bd (itF (vSh 1)) (ay 0) tT .(t) [ab]))) (ax (sIf (bu (toB (cF wg (ae (vSh 2) (ae (vSh 8) (ae (vSh 6) ak)))))) (aE (vC (.str "jobs"))) aH) (ax (sIf (bu (toB (cF v7 (ae (vSh 3) (ae (vSh 7) (ae (vSh 6) ak)))))) (aE (vC (.str "setups"))) aH) (ax (sIf (bu (toB (cF xW (ae (vSh 4) (ae (vSh 8) (ae (vSh 6) ak)))))) (aE (vC (.str "links"))) aH) (ax (sIf (bu (toB (cF vM (ae (vSh 5) (ae (vSh 8) ak))))) (aE (vC (.str "stocks"))) aH) (aE (vC .non)))))))))))
noncomputable def jA (dY:FQ):FQ:=aY 0
  (ax (sIf (toB (cF dR (ae (vSh 0) (ae (vC (.ty "list")) ak)))) (aE (aP (bd (itF (vSh 0)) (ay 0) tT (cF dY .(ad)) [ab]))) aH) (ax (sIf (toB (cF dR (ae (vSh 0) (ae (vC (.ty "tuple")) ak)))) (aE (cF x5 (ae (aP (bd (itF (vSh 0)) (ay 0) tT (cF dY .(ad)) [ab])) ak))) aH) (aE (vSh 0))))
noncomputable def i4:al->FQ
 |0=>fun _=>ab
 |n+1=>jA (i4 n)
noncomputable def dY:FQ:=i4 8
noncomputable def wx:FQ:=nJ 3 "Shop"
  (ax (aM 8 (cF vh (ae (vSh 1) (ae (vSh 2) (ae (vSh 3) (ae (vSh 4) (ae (vSh 5) (ae (vSh 6) (ae (vSh 7) ak))))))))) (ax (sIf (toB (b2 pM (vSh 8) (vC .non))) sNo aH) (ax (gw "Shop" "benches" 0 (cF dY .(N))) (ax (gw "Shop" "steps" 0 (cF dY .(X))) (ax (gw "Shop" "jobs" 0 (cF dY .(U))) (ax (gw "Shop" "setups" 0 (cF dY (ae (vSh 4) ak))) (ax (gw "Shop" "links" 0 (cF dY (ae (vSh 5) ak))) (ax (gw "Shop" "stocks" 0 (cF dY (ae (vSh 6) ak))) (ax (gw "Shop" "horizon" 0 (vSh 7)) (ax (gw "Shop" "bench_by_name" 0 (cF fT (ae (aP (bd (itF (jq "Shop" "benches" 0)) (ay 0) tT (bi (szF (ae .(t) .(ad)))) [ab])) ak))) (ax (gw "Shop" "step_by_name" 0 (cF fT (ae (aP (bd (itF (jq "Shop" "steps" 0)) (ay 0) tT (bi (szF (ae .(t) .(ad)))) [ab])) ak))) (ax (gw "Shop" "setup_by_names" 0 (cF tP (ae (aP (bd (itF (jq "Shop" "setups" 0)) (ay 0) tT (bi (szF (ae (slF (vSh 0) pN (pS .(i))) (ae (b2 ixD (vSh 0) .(i)) ak)))) [ab])) ak))) (ax (nE "Shop" "job_by_step" 0) (bC (itF (jq "Shop" "jobs" 0)) (ay 9) (bC (itF (b2 ixD (vSh 9) .(j))) (ay 10) (jo "Shop" "job_by_step" 0 (vSh 10) (vSh 9)))))))))))))))))
noncomputable def vR:FQ:=aY 0
  (aE (cF wx (ae .(t) (ae .(ac) (ae (b2 ixD (vSh 0) .(l)) (ae (b2 ixD (vSh 0) .(i)) (ae (b2 ixD (vSh 0) .(j)) (ae (b2 ixD (vSh 0) (vC (.int 5))) (ae (b2 ixD (vSh 0) (vC (.int 6))) ak)))))))))
noncomputable def oe:FQ:=aY 6
  (ax (p7 2) (ax (bC (itF (b2 ixD (vSh 1) .(d))) (bN 3 (aI (ay 3) (aI (ay 4) (aI (ay 5) bM)))) (sIf (toB (b2 fz (vSh 3) (vSh 0))) (ax (eZ (bN 2 (aI (ay 6) (aI (ay 7) bM))) .(ae)) (fD 2 (vSh 3) (b2 aV (vSh 7) (b2 aO (cF fT (ae (vSh 5) ak)) (vSh 6))))) aH)) (ja 2 (aE (vSh 2)))))
noncomputable def sx:FQ:=aY 6
  (ax (aM 3 .(c)) (ax (bC (itF (b2 ixD (vSh 0) .(j))) (bN 3 (aI (ay 4) (aI (ay 5) (aI (ay 6) bM)))) (sIf (cm (toB (b2 eqA (vSh 5) (vSh 2))) (toB (b2 fz (vSh 4) (vSh 1)))) (aM 3 (cF ic (ae (vSh 3) (ae (b2 aV (b2 aO (vSh 1) (vSh 4)) (vSh 6)) ak)))) aH)) (ax (bC (itF (b2 ixD (vSh 0) .(l))) (ay 7) (sIf (cm (toB (b2 ixD (vSh 7) .(i))) (toB (b2 dz (vSh 2) (b2 ixD (vSh 7) .(j))))) (bC (itF (slF (b2 ixD (vSh 7) .(j)) pN (pS (mF mf (b2 ixD (vSh 7) .(j)) .(X))))) (ay 8) (aM 3 (cF ic (ae (vSh 3) (ae (b3 j6 (vSh 1) (vSh 8) .(c)) ak))))) aH)) (aE (vSh 3)))))
noncomputable def sT:FQ:=aY 1
  (ax (bC (itF (b2 ixD (vSh 2) .(l))) (ay 4) (sIf (toB (b2 dz (vSh 3) (b2 ixD (vSh 4) .(j)))) (sIf (orT (toB (b2 ltD (b2 ixD .(ae) .(d)) (b2 ixD (vSh 4) .(d)))) (toB (b2 gtD .(V) (b2 ixD (vSh 4) .(l))))) (aE (vC (.bl ai))) aH) aH)) .(k))
noncomputable def tK:FQ:=aY 2
  (ax (bC (itF (b2 aO (cF fT (ae (b2 ixD (vSh 2) .(c)) ak)) (b2 ixD .(ae) .(c)))) (bN 2 (aI (ay 4) (aI (ay 5) bM))) (sIf (cm (toB (b2 ltD (b2 ixD .(ae) .(d)) (vSh 5))) (toB (b2 ltD (vSh 4) .(V)))) (aE (vC (.bl ai))) aH)) .(k))
noncomputable def mK:FQ:=aY 2
  (ax (aM 4 (cF fT (ae (aP (bd (itF .(ac)) (ay 0) tT (bi (szF (ae .(t) (ae .(ac) ak)))) [ab])) ak))) (ax (bC (itF (b2 ixD (vSh 0) .(i))) (ay 5) (sIf (toB (b2 eqA (slF (vSh 5) pN (pS .(i))) (bi (szF (ae (vSh 1) (ae (b2 aO (vSh 4) (vSh 2)) (ae (b2 aO (vSh 4) (vSh 3)) ak))))))) (aE (b2 ixD (vSh 5) .(i))) aH)) (aE .(c))))
noncomputable def pJ:FQ:=aY 5
  (ax (eZ (bN 2 (aI (ay 5) (aI (ay 6) bM))) .(ae)) (ax (sIf (toB (b2 neA (vSh 5) (b2 ixD (b2 aO (vSh 0) (vSh 4)) .(c)))) .(k) aH) (ax (pH 7 8 (ae (vSh 3) (ae (vSh 4) ak))) (ax (sIf (toB (b2 ltD (b2 ixD (b2 aO (vSh 0) (vSh 4)) .(d)) (vSh 6))) (pH 7 8 (ae (vSh 4) .(U))) aH) (ax (aM 9 (b2 aV (b2 aO (vSh 1) (vSh 7)) (cF mK (ae (vSh 2) (ae (vSh 5) (ae (vSh 7) (ae (vSh 8) ak))))))) (aE (orD (b2 eqA (b2 ixD (b2 aO (vSh 0) (vSh 7)) .(d)) (b2 ixD (b2 aO (vSh 0) (vSh 8)) .(d))) (b2 ltD (b2 ixD (b2 aO (vSh 0) (vSh 8)) .(d)) (vSh 9)))))))))
noncomputable def pQ:FQ:=aY 0
  (aE (cD (b2 ltD (b2 ixD (b2 aO (vSh 0) (vSh 2)) .(d)) .(V)) (b2 ltD (b2 ixD .(ae) .(d)) (b2 aO (vSh 1) (vSh 2)))))
noncomputable def mH:FQ:=aY 1
  (ax (sIf (toB (cF pJ (ae (vSh 0) (ae (vSh 1) (ae (vSh 2) (ae (vSh 3) (ae (vSh 4) ak))))))) .(k) aH) (ax (bC (itF (b2 ixD (vSh 2) .(l))) (ay 5) (sIf (cm (toB (b2 dz (vSh 3) (b2 ixD (vSh 5) .(j)))) (toB (b2 dz (vSh 4) (b2 ixD (vSh 5) .(j))))) (sIf (toB (cF pQ (ae (vSh 0) (ae (vSh 1) (ae (vSh 3) (ae (vSh 4) ak)))))) .(k) aH) aH)) (aE (vC (.bl ai)))))
noncomputable def vQ:FQ:=aY 2
  (ax (aM 3 (cF oe (ae (vSh 0) .(N)))) (ax (sIf (orT (toB (b2 gtD (b2 aO (vSh 3) (vSh 2)) (b2 ixD (vSh 1) (vC (.int 6))))) (orT (toB (cF tK (ae (vSh 0) (ae (vSh 3) (ae (vSh 1) .(X)))))) (toB (cF sT (ae (vSh 0) (ae (vSh 3) (ae (vSh 1) .(X)))))))) .(k) aH) (ax (bC (itK (vSh 0)) (ay 4) (sIf (toB (b2 neA (vSh 4) (vSh 2))) (sIf (bu (toB (cF mH (ae (vSh 0) (ae (vSh 3) (ae (vSh 1) (ae (vSh 2) (ae (vSh 4) ak)))))))) .(k) aH) aH)) (aE (vC (.bl ai))))))
noncomputable def tS:FQ:=aY 4
  (ax (bC (itF (b2 ixD (vSh 2) .(l))) (bN 2 (aI (ay 4) (aI (ay 5) bM))) (bC (itR lD (ae (vSh 3) (ae (cF ib (ae (b2 ixD (vSh 1) (vC (.int 6))) (ae (b2 aV (vSh 3) (vC (.int 40))) ak))) ak))) (ay 6) (ax (nX 7 (vSh 0)) (ax (fD 7 (b2 ixD (vSh 2) .(c)) (bi (szF (ae (vSh 4) (ae (vSh 6) ak))))) (ja 7 (sIf (toB (cF vQ (ae (vSh 7) (ae (vSh 1) (ae (b2 ixD (vSh 2) .(c)) ak))))) (aE (vSh 7)) aH)))))) (ax (nX 7 (vSh 0)) (ax (fD 7 (b2 ixD (vSh 2) .(c)) (bi (szF (ae (b2 ixD (b2 ixD (b2 ixD (vSh 2) .(l)) .(c)) .(c)) .(U))))) (ja 7 (aE (vSh 7))))))
noncomputable def wl:FQ:=aY 3
  (ax (aM 1 (vC (.fdk []))) (ax (bC (itF .(ac)) (ay 2) (ax (aM 3 (cF sx (ae (vSh 0) (ae (cF oe (ae (vSh 1) .(ad))) (ae (b2 ixD (vSh 2) .(c)) ak))))) (aM 1 (cF tS (ae (vSh 1) (ae (vSh 0) (ae (vSh 2) .(U)))))))) (aE (vSh 1))))
noncomputable def sw:FQ:=aY 8
  (ax (nX 3 (vSh 0)) (ax (bC (itR eV (ae (b2 bQ (vSh 2) .(i)) ak)) (ay 4) .(v)) (ja 3 (aE (vSh 3)))))
noncomputable def kf:FQ:=aY 0
  (aE (aP (bd (itF (ga "Shop" "steps" (vSh 0))) (ay 0) tT .(t) [ab])))
noncomputable def vJ:FQ:=aY 3
  (ax (aM 2 (c7 "Shop" "step_names" kf (vSh 0) ak)) (ax (bC (itF (vSh 2)) (ay 3) (sIf (toB (b2 pr (vSh 3) (vSh 1))) (aE (bi (szF (ae (vC (.str "step")) .(U))))) aH)) (ax (aM 4 (aP (bd (itK (vSh 1)) (ay 0) (toB (b2 gx (vSh 0) (vSh 1))) (vSh 0) [ab,aa 2]))) (ax (sIf (toB (b2 gtD (cF b8 (ae (vSh 4) ak)) .(c))) (aE (bi (szF (ae (vC (.str "step")) (ae (cF xg (ae (vSh 4) ak)) ak))))) aH) (aE (vC .non))))))
noncomputable def uw:FQ:=aY 0
  (aE (cF dY (ae (b2 ixD (b2 aO (ga "Shop" "step_by_name" (vSh 0)) (vSh 1)) .(l)) ak)))
noncomputable def pZ:FQ:=aY 2
  (ax (bC (itF (c7 "Shop" "ways_of" uw (vSh 0) .(N))) (bN 2 (aI (ay 3) (aI (ay 4) bM))) (sIf (toB (b2 eqA (vSh 3) (vSh 2))) (aE (vSh 4)) aH)) (aE (vC .non)))
noncomputable def tp:FQ:=aY 0
  (aE (ga "Shop" "horizon" (vSh 0)))
noncomputable def xy:FQ:=aY 3
  (ax (bC (itF (c7 "Shop" "step_names" kf (vSh 0) ak)) (ay 2) (ax (aM 3 (b2 ixD (b2 aO (vSh 1) (vSh 2)) .(d))) (ax (aM 4 (cF pZ (ae (vSh 0) (ae (vSh 2) (ae (b2 ixD (b2 aO (vSh 1) (vSh 2)) .(c)) ak))))) (sIf (orT (toB (b2 isD (vSh 4) (vC .non))) (orT (toB (b2 ltD (vSh 3) .(c))) (toB (b2 gtD (b2 aV (vSh 3) (vSh 4)) (c7 "Shop" "last_moment" tp (vSh 0) ak))))) (aE (bi (szF (ae (vC (.str "way")) .(X))))) aH)))) (aE (vC .non)))
noncomputable def xN:FQ:=aY 3
  (ax (p7 2) (ax (bC (itF (c7 "Shop" "step_names" kf (vSh 0) ak)) (ay 3) (ax (aM 4 .(V)) (fD 2 (vSh 3) (b2 aV (b2 ixD (vSh 4) .(d)) (cF pZ (ae (vSh 0) (ae (vSh 3) (ae (b2 ixD (vSh 4) .(c)) ak)))))))) (ja 2 (aE (vSh 2)))))
noncomputable def wb:FQ:=aY 0
  (aE (cF dY (ae (b2 vD (ga "Shop" "job_by_step" (vSh 0)) (vSh 1)) ak)))
noncomputable def vU:FQ:=aY 2
  (ax (bC (itF (c7 "Shop" "step_names" kf (vSh 0) ak)) (ay 3) (ax (aM 4 (c7 "Shop" "job_of" wb (vSh 0) .(U))) (sIf (cm (toB (b2 pM (vSh 4) (vC .non))) (orT (toB (b2 ltD (b2 ixD .(V) .(d)) (b2 ixD (vSh 4) .(d)))) (toB (b2 gtD (b2 aO (vSh 2) (vSh 3)) (b2 ixD (vSh 4) .(l)))))) (aE (bi (szF (ae (vC (.str "job")) .(U))))) aH))) (aE (vC .non)))
noncomputable def xb:FQ:=aY 0
  (aE (cF dY (ae (b2 ixD (b2 aO (ga "Shop" "bench_by_name" (vSh 0)) (vSh 1)) .(d)) ak)))
noncomputable def wQ:FQ:=aY 3
  (ax (bC (itF (c7 "Shop" "step_names" kf (vSh 0) ak)) (ay 3) (ax (aM 4 (b2 ixD .(V) .(d))) (ax (aM 5 (c7 "Shop" "breaks_of" xb (vSh 0) (ae (b2 ixD .(V) .(c)) ak))) (sIf (toB (cF wK (ae (aP (bd (itF (vSh 5)) (bN 2 (aI (ay 0) (aI (ay 1) bM))) tT (cD (b2 ltD (vSh 2) (vSh 1)) (b2 ltD (vSh 0) (b2 aO (vSh 3) (vSh 4)))) [ab,ab,aa 4,aa 2,aa 3])) ak))) (aE (bi (szF (ae (vC (.str "break")) .(U))))) aH)))) (aE (vC .non)))
noncomputable def sR:FQ:=aY 3
  (ax (dI 1 (szF ak)) (ax (bC (itE (vSh 0)) (bN 2 (aI (ay 2) (aI (ay 3) bM))) (iw 1 (aP (bd (itF (slF (vSh 0) (pS (b2 aV (vSh 2) .(d))) pN)) (ay 0) tT (bi (szF (ae (vSh 1) .(ad)))) [ab,aa 3])))) (eB 1 (aE (vSh 1)))))
noncomputable def sB:FQ:=aY 0
  (aE (b3 j6 (ga "Shop" "setup_by_names" (vSh 0)) (bi (szF (ae (vSh 1) (ae (vSh 2) .(U))))) .(c)))
noncomputable def nM:FQ:=aY 0
  (aE (b2 ixD (b2 aO (ga "Shop" "step_by_name" (vSh 0)) (vSh 1)) .(d)))
noncomputable def tf:FQ:=aY 3
  (ax (aM 5 (vSh 3)) (ax (aM 6 (vSh 4)) (ax (sIf (toB (b2 ltD (b2 ixD (b2 aO (vSh 1) (vSh 4)) .(d)) (b2 ixD .(V) .(d)))) (ax (aM 5 (vSh 4)) (aM 6 (vSh 3))) aH) (ax (aM 7 (c7 "Shop" "setup_of" sB (vSh 0) (ae (b2 ixD .(V) .(c)) (ae (c7 "Shop" "kind_of" nM (vSh 0) (ae (vSh 5) ak)) (ae (c7 "Shop" "kind_of" nM (vSh 0) (ae (vSh 6) ak)) ak))))) (aE (b2 ltD (b2 ixD (b2 aO (vSh 1) (vSh 6)) .(d)) (b2 aV (b2 aO (vSh 2) (vSh 5)) (vSh 7))))))))
noncomputable def wV:FQ:=aY 2
  (ax (bC (itF (cF sR (ae (c7 "Shop" "step_names" kf (vSh 0) ak) ak))) (bN 2 (aI (ay 3) (aI (ay 4) bM))) (sIf (cm (toB (b2 eqA (b2 ixD .(V) .(c)) (b2 ixD (b2 aO (vSh 1) (vSh 4)) .(c)))) (toB (cF tf (ae (vSh 0) (ae (vSh 1) (ae (vSh 2) (ae (vSh 3) (ae (vSh 4) ak)))))))) (aE (bi (szF (ae (vC (.str "bench")) (ae (vSh 3) (ae (vSh 4) ak)))))) aH)) (aE (vC .non)))
noncomputable def xX:FQ:=aY 0
  (aE (cF dY (ae (ga "Shop" "jobs" (vSh 0)) ak)))
noncomputable def xq:FQ:=aY 5
  (ax (bC (itF (c7 "Shop" "job_rows" xX (vSh 0) ak)) (ay 3) (bC (itF (cF sR (ae (b2 ixD (vSh 3) .(j)) ak))) (bN 2 (aI (ay 4) (aI (ay 5) bM))) (ax (aM 6 (b2 geD (b2 ixD (b2 aO (vSh 1) (vSh 5)) .(d)) (b2 aO (vSh 2) (vSh 4)))) (ax (aM 7 (b2 geD (b2 ixD (b2 aO (vSh 1) (vSh 4)) .(d)) (b2 aO (vSh 2) (vSh 5)))) (sIf (cm (bu (toB (vSh 6))) (orT (toB (b2 ixD (vSh 3) .(i))) (bu (toB (vSh 7))))) (aE (bi (szF (ae (vC (.str "apart")) (ae (vSh 4) (ae (vSh 5) ak)))))) aH))))) (aE (vC .non)))
noncomputable def we:FQ:=aY 0
  (aE (cF dY (ae (ga "Shop" "links" (vSh 0)) ak)))
noncomputable def wO:FQ:=aY 3
  (ax (bC (itF (c7 "Shop" "link_rows" we (vSh 0) ak)) (bN 3 (aI (ay 3) (aI (ay 4) (aI (ay 5) bM)))) (sIf (toB (b2 ltD (b2 ixD (b2 aO (vSh 1) (vSh 4)) .(d)) (b2 aV (b2 aO (vSh 2) (vSh 3)) (vSh 5)))) (aE (bi (szF (ae (vC (.str "link")) (ae (vSh 3) (ae (vSh 4) ak)))))) aH)) (aE (vC .non)))
noncomputable def xF:FQ:=aY 0
  (aE (cF dY (ae (ga "Shop" "stocks" (vSh 0)) ak)))
noncomputable def sH:FQ:=aY 2
  (ax (aM 4 (cF j5 (ae (aP (bd (itF (b2 ixD (vSh 0) .(i))) (bN 2 (aI (ay 0) (aI (ay 1) bM))) (toB (b2 leD (b2 ixD (b2 aO (vSh 3) (vSh 0)) .(d)) (vSh 2))) (vSh 1) [ab,ab,aa 3,aa 1])) ak))) (ax (aM 5 (cF j5 (ae (aP (bd (itF (b2 ixD (vSh 0) .(j))) (bN 2 (aI (ay 0) (aI (ay 1) bM))) (toB (b2 leD (b2 aO (vSh 3) (vSh 0)) (vSh 2))) (vSh 1) [ab,ab,aa 3,aa 2])) ak))) (aE (b2 aV (b2 gH .(ac) (vSh 4)) (vSh 5)))))
noncomputable def xV:FQ:=aY 3
  (ax (bC (itF (c7 "Shop" "stock_rows" xF (vSh 0) ak)) (ay 3) (ax (dI 4 (bd (itF (b2 ixD (vSh 3) .(i))) (ay 0) tT (b2 ixD (b2 aO (vSh 1) .(t)) .(d)) [ab,aa 1])) (ax (iw 4 (aP (bd (itF (b2 ixD (vSh 3) .(j))) (ay 0) tT (b2 aO (vSh 1) .(t)) [ab,aa 2]))) (eB 4 (bC (itF (b1 wp (vSh 4))) (ay 5) (sIf (bu (toB (chD leD leD .(c) (cF sH (ae (vSh 3) (ae (vSh 1) (ae (vSh 2) (ae (vSh 5) ak))))) (b2 ixD (vSh 3) .(l))))) (aE (bi (szF (ae (vC (.str "stock")) (ae (b2 ixD (vSh 3) .(c)) (ae (vSh 5) ak)))))) aH)))))) (aE (vC .non)))
noncomputable def mo:FQ:=aY 2
  (ax (aM 2 (cF vJ (ae (vSh 0) .(N)))) (ax (sIf (toB (b2 isD (vSh 2) (vC .non))) (aM 2 (cF xy (ae (vSh 0) .(N)))) aH) (ax (sIf (toB (b2 pM (vSh 2) (vC .non))) (aE (vSh 2)) aH) (ax (aM 3 (cF xN (ae (vSh 0) .(N)))) (ax (aM 2 (cF vU (ae (vSh 0) (ae (vSh 1) .(U))))) (ax (sIf (toB (b2 isD (vSh 2) (vC .non))) (aM 2 (cF wQ (ae (vSh 0) (ae (vSh 1) .(U))))) aH) (ax (sIf (toB (b2 isD (vSh 2) (vC .non))) (aM 2 (cF wV (ae (vSh 0) (ae (vSh 1) .(U))))) aH) (ax (sIf (toB (b2 isD (vSh 2) (vC .non))) (aM 2 (cF xq (ae (vSh 0) (ae (vSh 1) .(U))))) aH) (ax (sIf (toB (b2 isD (vSh 2) (vC .non))) (aM 2 (cF wO (ae (vSh 0) (ae (vSh 1) .(U))))) aH) (ax (sIf (toB (b2 isD (vSh 2) (vC .non))) (aM 2 (cF xV (ae (vSh 0) (ae (vSh 1) .(U))))) aH) (aE (vSh 2))))))))))))
noncomputable def ug:FQ:=aY 6
  (ax (eZ (bN 2 (aI (ay 4) (aI (ay 5) bM))) .(ae)) (ax (bC (itK (vSh 0)) (ay 6) .(ag)) (ax (bC (itF (b2 ixD (vSh 2) .(j))) (bN 3 (aI (ay 7) (aI (ay 6) (aI (ay 8) bM)))) (sIf (cm (toB (b2 eqA (vSh 6) (vSh 3))) (toB (b2 ltD (vSh 5) (b2 aV (b2 aO (vSh 1) (vSh 7)) (vSh 8))))) .(k) aH)) (ax (bC (itF (b2 ixD (vSh 2) .(l))) (ay 9) (sIf (cm (toB (b2 ixD (vSh 9) .(i))) (toB (b2 dz (vSh 3) (b2 ixD (vSh 9) .(j))))) (bC (itF (slF (b2 ixD (vSh 9) .(j)) pN (pS (mF mf (b2 ixD (vSh 9) .(j)) .(U))))) (ay 7) (sIf (toB (b2 ltD (vSh 5) (b2 aO (vSh 1) (vSh 7)))) .(k) aH)) aH)) (aE (vC (.bl ai)))))))
noncomputable def pp:FQ:=aY 6
  (ax (p7 4) (ax (p7 5) (ax (bC (itK (vSh 0)) (ay 6) (sIf (cm (toB (b2 leD (b2 ixD (b2 aO (vSh 0) (vSh 6)) .(d)) (vSh 3))) (toB (b2 ltD (vSh 3) (b2 aO (vSh 1) (vSh 6))))) (ax (bC (itF (b2 aO (cF fT (ae (b2 ixD (vSh 2) .(c)) ak)) (b2 ixD (b2 aO (vSh 0) (vSh 6)) .(c)))) (bN 2 (aI (ay 7) (aI (ay 8) bM))) (sIf (cm (toB (b2 leD (vSh 7) (vSh 3))) (toB (b2 ltD (vSh 3) (vSh 8)))) .(k) aH)) (ax (sIf (lx 4 (toB (b2 fz (b2 ixD (b2 aO (vSh 0) (vSh 6)) .(c)) (vSh 4)))) .(k) aH) (ax (fD 4 (b2 ixD (b2 aO (vSh 0) (vSh 6)) .(c)) (vSh 6)) (bC (itF (b2 ixD (vSh 2) .(l))) (ay 9) (sIf (toB (b2 dz (vSh 6) (b2 ixD (vSh 9) .(j)))) (ax (sIf (lx 5 .(ah)) .(k) aH) (fD 5 (b2 ixD (vSh 9) .(c)) (vSh 6))) aH))))) aH)) (aE (vC (.bl ai))))))
noncomputable def tU:FQ:=aY 6
  (ax (bC (itF (b2 ixD (vSh 2) (vC (.int 5)))) (bN 5 (aI (ay 4) (aI (ay 5) (aI (ay 6) (aI (ay 7) (aI (ay 8) bM)))))) .(F)) (aE (vC (.bl ai))))
noncomputable def pK:FQ:=aY 3
  (ax (aM 2 (cF oe (ae (vSh 0) .(N)))) (ax (bC (itK (vSh 0)) (ay 3) (ax (sIf (orT (toB (b2 ltD (b2 ixD .(ae) .(d)) .(c))) (toB (b2 gtD (b2 aO (vSh 2) (vSh 3)) (b2 ixD (vSh 1) (vC (.int 6)))))) .(k) aH) (sIf (bu (toB (cF ug (ae (vSh 0) (ae (vSh 2) (ae (vSh 1) .(U))))))) .(k) aH))) (ax (bC (itR eV (ae (b2 aV (b2 ixD (vSh 1) (vC (.int 6))) .(d)) ak)) (ay 4) (ax (sIf (bu (toB (cF pp (ae (vSh 0) (ae (vSh 2) (ae (vSh 1) (ae (vSh 4) ak))))))) .(k) aH) (sIf (bu (toB (cF tU (ae (vSh 0) (ae (vSh 2) (ae (vSh 1) (ae (vSh 4) ak))))))) .(k) aH))) (aE (vC (.bl ai))))))
noncomputable abbrev Dk:FS:=
  (ax (aM 1 (b2 aV .(j) (b2 bQ (cF fg (ae (vSh 0) (ae (vC (.int 20)) ak))) (vC (.int 21))))) (ax (aM 2 (cF wE (ae (vSh 0) (ae (b2 aV .(d) (b2 bQ (cF fg (ae (vSh 0) (ae (vC (.int 22)) ak))) (vC (.int 6)))) (ae (vSh 1) (ae .(j) ak)))))) (ax (aM 3 (cF vR .(X))) (ax (aM 4 (cF wl .(X))) (ax (bC (itF (b2 aV (aP (szF (ae .(c) (ae (cF fg (ae (vSh 0) (ae (vC (.int 23)) ak))) ak)))) (slF (vSh 0) (pS (vC (.int 24))) (pS (vC (.int 63)))))) (ay 5) (ax (aM 6 (cF sw (ae (vSh 4) (ae (vSh 2) (ae (vSh 5) ak))))) (sIf (toB (b2 neA (b2 isD (cF mo (ae (vSh 3) (ae (vSh 6) ak))) (vC .non)) (cF pK (ae (vSh 6) .(X))))) .(k) aH))) (aE (vC (.bl ai))))))))
noncomputable def Cm:FQ:=aY 6 Dk
end Law
set_option maxHeartbeats 4000000
variable {C_Shop:av} {xs:ac D} {body:FS} {ρ' ρ1:bf} {sn:ac ah} {br:ac (ag×ag)} {ws E:ac (ah×ag)} {cs:ac ag} {m en:ag} {q:ah×ag} {B:FT} {Db Dj:ac (ah×ah)}
namespace Law
theorem FD:FnScope ["_law_script","_law_k"] ["_law_script","_law_k"] (aU (top 64)):=bo
theorem kq:FnScope ["_law_cell_here","_law_k","_law_sizes","_law_number","_law_found","_law_turn","_law_size"] ["_law_cell_here","_law_k","_law_sizes"] (aU (top 65)):=bo
theorem lc:FnScope ["_law_row","_law_horizon","_law_found","_law_free","_law_begin","_law_size","_law_low_here","_law_high"] ["_law_row","_law_horizon"] (aU (top 67)):=bo
theorem DK:FnScope ["_law_k","_law_letter"] ["_law_k"] (aU (top 66)):=bo
theorem om:FnScope ["_law_cells","_law_horizon","_law_found","_law_k","_law_cell_here","_law_row","_law_spans_here"] ["_law_cells","_law_horizon"] (aU (top 68)):=bo
theorem nC:FnScope ["_law_cells","_law_benches_here","_law_horizon","_law_longest","_law_found","_law_k","_law_cell_here","_law_row","_law_ways"] ["_law_cells","_law_benches_here","_law_horizon","_law_longest"] (aU (top 69)):=bo
theorem iC:FnScope ["_law_cells","_law_steps_here","_law_horizon","_law_found","_law_left","_law_k","_law_cell_here","_law_row","_law_some","_law_early","_law_due"] ["_law_cells","_law_steps_here","_law_horizon"] (aU (top 70)):=bo
theorem nW:FnScope ["_law_cell_here","_law_benches_here","_law_horizon","_law_found","_law_k","_law_many","_law_bench","_law_row"] ["_law_cell_here","_law_benches_here","_law_horizon"] (aU (top 71)):=bo
theorem nS:FnScope ["_law_cell_here","_law_steps_here","_law_horizon","_law_found","_law_row","_law_k","_law_one","_law_other"] ["_law_cell_here","_law_steps_here","_law_horizon"] (aU (top 72)):=bo
theorem mm:FnScope ["_law_cell_here","_law_steps_here","_law_row","_law_found","_law_k","_law_room","_law_takes","_law_puts"] ["_law_cell_here","_law_steps_here"] (aU (top 73)):=bo
theorem mh:FnScope ["_law_script","_law_many","_law_horizon","_law_longest","_law_benches_here","_law_steps_here","_law_jobs_here","_law_setups_here","_law_links_here","_law_stocks_here"] ["_law_script","_law_many","_law_horizon","_law_longest"] (aU (top 74)):=bo
theorem FH:FnScope ["thing"] ["thing"] (aU (top 22)):=bo
theorem NJ:FnScope ["thing","least","most"] ["thing","least","most"] (aU (top 25)):=bo
theorem NP:FnScope ["thing","many"] ["thing","many"] (aU (top 27)):=bo
theorem NR:FnScope ["row","horizon"] ["row","horizon"] (aU (top 41)):=bo
theorem Lf:FnScope ["thing","least","most"] ["thing","least","most"] (aU (top 26)):=bo
theorem L0:FnScope ["breaks","horizon"] ["breaks","horizon"] (aU (top 42)):=bo
theorem Mc:FnScope ["thing"] ["thing"] (aU (top 23)):=bo
theorem Jm:FnScope ["row","horizon"] ["row","horizon"] (aU (top 43)):=bo
theorem MW:FnScope ["things"] ["things"] (aU (top 29)):=bo
theorem Ma:FnScope ["benches","horizon"] ["benches","horizon"] (aU (top 44)):=bo
theorem HQ:FnScope ["thing","names"] ["thing","names"] (aU (top 28)):=bo
theorem IP:FnScope ["row","bench_names","horizon"] ["row","bench_names","horizon"] (aU (top 45)):=bo
theorem Kt:FnScope ["ways","bench_names","horizon"] ["ways","bench_names","horizon"] (aU (top 46)):=bo
theorem L3:FnScope ["row","bench_names","horizon"] ["row","bench_names","horizon"] (aU (top 47)):=bo
theorem KH:FnScope ["steps","bench_names","horizon"] ["steps","bench_names","horizon"] (aU (top 48)):=bo
theorem Hu:FnScope ["row","step_names","horizon"] ["row","step_names","horizon"] (aU (top 49)):=bo
theorem wU:FnScope ["jobs","step_names","horizon","members","row"] ["jobs","step_names","horizon"] (aU (top 50)):=bo
theorem Ly:FnScope ["row","bench_names","horizon"] ["row","bench_names","horizon"] (aU (top 51)):=bo
theorem Ho:FnScope ["setups","bench_names","horizon"] ["setups","bench_names","horizon"] (aU (top 52)):=bo
theorem Lj:FnScope ["row","step_names","horizon"] ["row","step_names","horizon"] (aU (top 53)):=bo
theorem LP:FnScope ["links","step_names","horizon"] ["links","step_names","horizon"] (aU (top 54)):=bo
theorem Hc:FnScope ["row","step_names"] ["row","step_names"] (aU (top 55)):=bo
theorem Jz:FnScope ["rows","step_names"] ["rows","step_names"] (aU (top 56)):=bo
theorem N5:FnScope ["row","step_names"] ["row","step_names"] (aU (top 57)):=bo
theorem HN:FnScope ["stocks","step_names"] ["stocks","step_names"] (aU (top 58)):=bo
theorem wT:FnScope ["benches","steps","jobs","setups","links","stocks","horizon","bench_names","step_names"] ["benches","steps","jobs","setups","links","stocks","horizon"] (aU (top 59)):=bo
theorem Og:FnScope ["thing"] ["thing"] (aU (top 61)):=bo
theorem tF:FnScope ["self","benches","steps","jobs","setups","links","stocks","horizon","part","row","step"] ["self","benches","steps","jobs","setups","links","stocks","horizon"] (aU (dH (top 62) 0)):=bo
theorem Ik:FnScope ["_law_lists_here"] ["_law_lists_here"] (aU (top 75)):=bo
theorem mN:FnScope ["_law_plan","_law_lists_here","_law_ends_here","_law_name_here","_law_kind","_law_ways","_law_bench","_law_start"] ["_law_plan","_law_lists_here"] (aU (top 76)):=bo
theorem jW:FnScope ["_law_lists_here","_law_ends_here","_law_step","_law_low_here","_law_one","_law_other","_law_gap","_law_job","_law_name_here"] ["_law_lists_here","_law_ends_here","_law_step"] (aU (top 85)):=bo
theorem Bv:FnScope ["_law_plan","_law_ends_here","_law_lists_here","_law_one","_law_job"] ["_law_plan","_law_ends_here","_law_lists_here","_law_one"] (aU (top 82)):=bo
theorem xD:FnScope ["_law_plan","_law_ends_here","_law_lists_here","_law_one","_law_low_here","_law_high"] ["_law_plan","_law_ends_here","_law_lists_here","_law_one"] (aU (top 81)):=bo
theorem vw:FnScope ["_law_lists_here","_law_bench","_law_early","_law_late","_law_kinds","_law_row"] ["_law_lists_here","_law_bench","_law_early","_law_late"] (aU (top 78)):=bo
theorem n6:FnScope ["_law_plan","_law_ends_here","_law_lists_here","_law_one","_law_other","_law_bench","_law_start","_law_early","_law_late","_law_free"] ["_law_plan","_law_ends_here","_law_lists_here","_law_one","_law_other"] (aU (top 79)):=bo
theorem LF:FnScope ["_law_plan","_law_ends_here","_law_one","_law_other"] ["_law_plan","_law_ends_here","_law_one","_law_other"] (aU (top 77)):=bo
theorem Ae:FnScope ["_law_plan","_law_ends_here","_law_lists_here","_law_one","_law_other","_law_job"] ["_law_plan","_law_ends_here","_law_lists_here","_law_one","_law_other"] (aU (top 80)):=bo
theorem vf:FnScope ["_law_plan","_law_lists_here","_law_one","_law_ends_here","_law_other"] ["_law_plan","_law_lists_here","_law_one"] (aU (top 83)):=bo
theorem nQ:FnScope ["_law_plan","_law_lists_here","_law_step","_law_low_here","_law_bench","_law_length","_law_start","_law_made"] ["_law_plan","_law_lists_here","_law_step","_law_low_here"] (aU (top 84)):=bo
theorem pY:FnScope ["_law_lists_here","_law_plan","_law_step","_law_low_here"] ["_law_lists_here"] (aU (top 86)):=bo
theorem jx:FnScope ["_law_plan","_law_lists_here","_law_cell_here","_law_made","_law_turn","_law_row","_law_name_here","_law_kind","_law_ways","_law_bench","_law_start"] ["_law_plan","_law_lists_here","_law_cell_here"] (aU (top 91)):=bo
theorem FJ:FnScope ["self"] ["self"] (aU (dH (top 62) 9)):=bo
theorem tZ:FnScope ["shop","schedule","names","step","strangers"] ["shop","schedule"] (aU (top 6)):=bo
theorem M4:FnScope ["self","step"] ["self","step"] (aU (dH (top 62) 10)):=bo
theorem vc:FnScope ["shop","step","bench","way_bench","length"] ["shop","step","bench"] (aU (top 4)):=bo
theorem Oh:FnScope ["self"] ["self"] (aU (dH (top 62) 7)):=bo
theorem sM:FnScope ["shop","schedule","step","start","length"] ["shop","schedule"] (aU (top 7)):=bo
theorem sy:FnScope ["shop","schedule","ends","step","place"] ["shop","schedule"] (aU (top 5)):=bo
theorem O0:FnScope ["self","step"] ["self","step"] (aU (dH (top 62) 12)):=bo
theorem wD:FnScope ["shop","schedule","ends","step","job"] ["shop","schedule","ends"] (aU (top 8)):=bo
theorem NI:FnScope ["self","bench"] ["self","bench"] (aU (dH (top 62) 13)):=bo
theorem tq:FnScope ["shop","schedule","ends","step","start","breaks"] ["shop","schedule","ends"] (aU (top 9)):=bo
theorem sW:FnScope ["things","pairs","place","one"] ["things"] (aU (top 2)):=bo
theorem J9:FnScope ["self","bench","first","second"] ["self","bench","first","second"] (aU (dH (top 62) 14)):=bo
theorem Ls:FnScope ["self","step"] ["self","step"] (aU (dH (top 62) 11)):=bo
theorem ou:FnScope ["shop","schedule","ends","one","other","earlier","later","setup"] ["shop","schedule","ends","one","other"] (aU (top 10)):=bo
theorem vg:FnScope ["shop","schedule","ends","one","other"] ["shop","schedule","ends"] (aU (top 11)):=bo
theorem Gr:FnScope ["self"] ["self"] (aU (dH (top 62) 3)):=bo
theorem nv:FnScope ["shop","schedule","ends","job","one","other","told_way","other_way"] ["shop","schedule","ends"] (aU (top 12)):=bo
theorem Fi:FnScope ["self"] ["self"] (aU (dH (top 62) 5)):=bo
theorem tO:FnScope ["shop","schedule","ends","one","other","gap"] ["shop","schedule","ends"] (aU (top 13)):=bo
theorem JE:FnScope ["self"] ["self"] (aU (dH (top 62) 6)):=bo
theorem xp:FnScope ["stock","schedule","ends","moment","taken","put"] ["stock","schedule","ends","moment"] (aU (top 14)):=bo
theorem sX:FnScope ["shop","schedule","ends","stock","moments","moment"] ["shop","schedule","ends"] (aU (top 15)):=bo
theorem jC:FnScope ["shop","schedule","broken","ends"] ["shop","schedule"] (aU (top 16)):=bo
theorem j4:FnScope ["_law_plan","_law_ends_here","_law_lists_here","_law_name_here","_law_bench","_law_start","_law_other","_law_one","_law_gap","_law_job"] ["_law_plan","_law_ends_here","_law_lists_here","_law_name_here"] (aU (top 89)):=bo
theorem l7:FnScope ["_law_plan","_law_ends_here","_law_lists_here","_law_moment","_law_benches_here","_law_jobs_here","_law_name_here","_law_low_here","_law_high","_law_job"] ["_law_plan","_law_ends_here","_law_lists_here","_law_moment"] (aU (top 87)):=bo
theorem lg:FnScope ["_law_plan","_law_ends_here","_law_lists_here","_law_moment","_law_name_here","_law_first","_law_room","_law_takes","_law_puts","_law_level"] ["_law_plan","_law_ends_here","_law_lists_here","_law_moment"] (aU (top 88)):=bo
theorem sN:FnScope ["_law_plan","_law_lists_here","_law_ends_here","_law_name_here","_law_moment"] ["_law_plan","_law_lists_here"] (aU (top 90)):=bo
theorem mD:FnScope ["_law_script","_law_horizon","_law_lists_here","_law_shop_here","_law_plan","_law_cell_here","_law_made"] ["_law_script"] (aU (top 92)):=bo
noncomputable def tkI (mg:ah->ar Value) (x:ah):Tok:=match mg x with|some (.int _ t)=>t|_=>0
theorem tkI_of {h:Heap} {n:ag} {t:Tok} (X:K.In h) (G:h.Ns fU mg) (a:yL K fU x=aa (aa (.int n t))):mg x=aa (.int n (tkI mg x)):=by have q:=yM X G a;rw[q];unfold tkI;rw[q]
structure Vd (K:bh) (mg:ah->ar Value) (C_Shop:av):Prop where
 z_abs:mg "abs"=ab
 z_all:mg "all"=ab
 z_any:mg "any"=ab
 z_bool:mg "bool"=ab
 z_dict:mg "dict"=ab
 z_enumerate:mg "enumerate"=ab
 z_int:mg "int"=ab
 z_isinstance:mg "isinstance"=ab
 z_len:mg "len"=ab
 z_list:mg "list"=ab
 z_max:mg "max"=ab
 z_min:mg "min"=ab
 z_range:mg "range"=ab
 z_set:mg "set"=ab
 z_sorted:mg "sorted"=ab
 z_str:mg "str"=ab
 z_sum:mg "sum"=ab
 z_tuple:mg "tuple"=ab
 k_LONGEST_NAME:mg "LONGEST_NAME"=aa (.int 8 (tkI mg "LONGEST_NAME"))
 k_MOST_AMOUNT:mg "MOST_AMOUNT"=aa (.int 1000000 (tkI mg "MOST_AMOUNT"))
 k_MOST_BENCHES:mg "MOST_BENCHES"=aa (.int 8 (tkI mg "MOST_BENCHES"))
 k_MOST_BREAKS:mg "MOST_BREAKS"=aa (.int 10 (tkI mg "MOST_BREAKS"))
 k_MOST_HORIZON:mg "MOST_HORIZON"=aa (.int 1000000 (tkI mg "MOST_HORIZON"))
 k_MOST_JOBS:mg "MOST_JOBS"=aa (.int 40 (tkI mg "MOST_JOBS"))
 k_MOST_LINKS:mg "MOST_LINKS"=aa (.int 100 (tkI mg "MOST_LINKS"))
 k_MOST_SETUPS:mg "MOST_SETUPS"=aa (.int 100 (tkI mg "MOST_SETUPS"))
 k_MOST_STEPS:mg "MOST_STEPS"=aa (.int 40 (tkI mg "MOST_STEPS"))
 k_MOST_STOCKS:mg "MOST_STOCKS"=aa (.int 6 (tkI mg "MOST_STOCKS"))
 k_MOST_WAYS:mg "MOST_WAYS"=aa (.int 4 (tkI mg "MOST_WAYS"))
 d0:Dfn K mg "_law_cell" (top 64)
 d1:Dfn K mg "_law_digits" (top 65)
 d2:Dfn K mg "_law_spans" (top 67)
 d3:Dfn K mg "_law_name" (top 66)
 d4:Dfn K mg "_law_benches" (top 68)
 d5:Dfn K mg "_law_steps" (top 69)
 d6:Dfn K mg "_law_jobs" (top 70)
 d7:Dfn K mg "_law_setups" (top 71)
 d8:Dfn K mg "_law_links" (top 72)
 d9:Dfn K mg "_law_stocks" (top 73)
 d10:Dfn K mg "_law_lists" (top 74)
 d11:Dfn K mg "is_whole" (top 22)
 d12:Dfn K mg "is_within" (top 25)
 d13:Dfn K mg "is_tuple" (top 27)
 d14:Dfn K mg "is_break" (top 41)
 d15:Dfn K mg "is_list" (top 26)
 d16:Dfn K mg "are_breaks" (top 42)
 d17:Dfn K mg "is_name" (top 23)
 d18:Dfn K mg "is_bench" (top 43)
 d19:Dfn K mg "are_unlike" (top 29)
 d20:Dfn K mg "are_benches" (top 44)
 d21:Dfn K mg "is_one_of" (top 28)
 d22:Dfn K mg "is_way" (top 45)
 d23:Dfn K mg "are_ways" (top 46)
 d24:Dfn K mg "is_step" (top 47)
 d25:Dfn K mg "are_steps" (top 48)
 d26:Dfn K mg "is_job" (top 49)
 d27:Dfn K mg "are_jobs" (top 50)
 d28:Dfn K mg "is_setup" (top 51)
 d29:Dfn K mg "are_setups" (top 52)
 d30:Dfn K mg "is_link" (top 53)
 d31:Dfn K mg "are_links" (top 54)
 d32:Dfn K mg "is_amount" (top 55)
 d33:Dfn K mg "are_amounts" (top 56)
 d34:Dfn K mg "is_stock" (top 57)
 d35:Dfn K mg "are_stocks" (top 58)
 d36:Dfn K mg "first_bad_part" (top 59)
 d37:Dfn K mg "fresh" (top 61)
 d38:DfnM K C_Shop "Shop" "__init__" "Shop.__init__" (dH (top 62) 0)
 d39:Dfn K mg "_law_shop" (top 75)
 d40:Dfn K mg "_law_ends" (top 76)
 d41:Dfn K mg "_law_low" (top 85)
 d42:Dfn K mg "_law_off_job" (top 82)
 d43:Dfn K mg "_law_in_break" (top 81)
 d44:Dfn K mg "_law_wait" (top 78)
 d45:Dfn K mg "_law_near" (top 79)
 d46:Dfn K mg "_law_at_once" (top 77)
 d47:Dfn K mg "_law_pair_stands" (top 80)
 d48:Dfn K mg "_law_fits" (top 83)
 d49:Dfn K mg "_law_put" (top 84)
 d50:Dfn K mg "_law_built" (top 86)
 d51:Dfn K mg "_law_changed" (top 91)
 d52:DfnM K C_Shop "Shop" "step_names" "Shop.step_names" (dH (top 62) 9)
 d53:Dfn K mg "broken_step" (top 6)
 d54:DfnM K C_Shop "Shop" "ways_of" "Shop.ways_of" (dH (top 62) 10)
 d55:Dfn K mg "length_on" (top 4)
 d56:DfnM K C_Shop "Shop" "last_moment" "Shop.last_moment" (dH (top 62) 7)
 d57:Dfn K mg "broken_way" (top 7)
 d58:Dfn K mg "ends_of" (top 5)
 d59:DfnM K C_Shop "Shop" "job_of" "Shop.job_of" (dH (top 62) 12)
 d60:Dfn K mg "broken_job" (top 8)
 d61:DfnM K C_Shop "Shop" "breaks_of" "Shop.breaks_of" (dH (top 62) 13)
 d62:Dfn K mg "broken_break" (top 9)
 d63:Dfn K mg "pairs_of" (top 2)
 d64:DfnM K C_Shop "Shop" "setup_of" "Shop.setup_of" (dH (top 62) 14)
 d65:DfnM K C_Shop "Shop" "kind_of" "Shop.kind_of" (dH (top 62) 11)
 d66:Dfn K mg "are_too_close" (top 10)
 d67:Dfn K mg "broken_bench" (top 11)
 d68:DfnM K C_Shop "Shop" "job_rows" "Shop.job_rows" (dH (top 62) 3)
 d69:Dfn K mg "broken_apart" (top 12)
 d70:DfnM K C_Shop "Shop" "link_rows" "Shop.link_rows" (dH (top 62) 5)
 d71:Dfn K mg "broken_link" (top 13)
 d72:DfnM K C_Shop "Shop" "stock_rows" "Shop.stock_rows" (dH (top 62) 6)
 d73:Dfn K mg "level_at" (top 14)
 d74:Dfn K mg "broken_stock" (top 15)
 d75:Dfn K mg "first_broken" (top 16)
 d76:Dfn K mg "_law_waited" (top 89)
 d77:Dfn K mg "_law_at_work" (top 87)
 d78:Dfn K mg "_law_stocked" (top 88)
 d79:Dfn K mg "_law_keeps" (top 90)
structure Vw (K:bh) (mg:ah->ar Value) (C_Shop:av):Prop extends Vd K mg C_Shop where
 O_Shop:ClsOk .(n) K mg "Shop" C_Shop
 cf_Shop:CF .(n) K "Shop" C6
section
variable (V:Vw K mg C_Shop) {P:bU}
include V
theorem iZ:Cal .(n) P w K mg base "_law_cell" 2 1 fg:=
 V.d0.cal (k:=0) FD .(b) fun f cdv A outer s H E hr=>
  (aD (a9 (bx di (af 1) (b5 fR rfl V.z_len (by rfl) (aj (af 0) aw)) (bj _)) (aC (aJ (aB (af 0) (af 1)))) bc) (aC (aJ aq)))
theorem mv:Cal .(n) P w K mg base "_law_digits" 3 1 eh:=
 V.d1.cal (k:=0) kq .(b) fun f cdv A outer s H E hr=>
  (aD (bw 3 kq.nd (mC (b5 K2 rfl V.z_abs (by rfl) (aj (af 0) aw)) aq)) (aD (iH 4 kq.nd (dv aw)) (aD (b7 ca rfl (kT rfl V.z_enumerate (af 2)) (c4 (n:=2) rfl (bF (aL 5 kq.nd) (bF (aL 6 kq.nd) cZ))) (aC (a9 (DW.dt (cJ (bx g0 (dj (af 0) aq) aq (bj _)) (c9 (bx g0 (af 3) aq (bj _))))) (aD (bw 3 kq.nd (b6 (dj (b6 (af 3) (af 0)) aq) aq)) (aD (bw 3 kq.nd (b6 (af 3) (ju (ju aq (b6 (af 1) (af 5))) (b6 (af 1) (af 5))))) (aD (bw 3 kq.nd (dj (ju (af 3) (af 3)) aq)) (aC (i6 4 (dj (mC (af 3) aq) (af 6))))))) (aD (i6 4 (dj (af 3) (af 6))) (aC (bw 3 kq.nd (mC (af 3) (af 6)))))))) (hG 4 (aC (aJ (af 4)))))))
theorem Nj:Cal .(n) P w K mg base "_law_spans" 2 1 tI:=
 V.d2.cal (k:=0) lc .(b) fun f cdv A outer s H E hr=>
  (aD (iH 2 lc.nd (dv aw)) (aD (bw 3 lc.nd aq) (aD (b7 ca rfl (bB (af 0)) (c4 (n:=2) rfl (bF (aL 4 lc.nd) (bF (aL 5 lc.nd) cZ))) (aD (bw 6 lc.nd (b6 (af 3) (af 4))) (aD (bw 7 lc.nd (b6 (b6 (af 6) aq) (af 5))) (aC (a9 (bx fB (af 7) (af 1) (bj _)) (aD (i6 2 (cK (aj (af 6) (aj (af 7) aw)))) (aC (bw 3 lc.nd (b6 (af 7) aq)))) bc))))) (hG 2 (aC (aJ (af 2)))))))
theorem uo:Cal .(n) P w K mg base "_law_name" 1 1 fN:=
 V.d3.cal (k:=0) DK .(b) fun f cdv A outer s H E hr=>
  (aD (bw 1 DK.nd (aB dA (dj (af 0) aq))) (aC (aJ (b6 (af 1) (ju (aB dA (mC (af 0) aq)) (dj (af 0) aq))))))
theorem NZ:Cal .(n) P w K mg base "_law_benches" 2 2 wy:=
 V.d4.cal (k:=1) om .(b) fun f cdv A outer s H E hr=>
  (aD (iH 2 om.nd (dv aw)) (aD (b7 ca rfl (kT rfl V.z_enumerate (af 0)) (c4 (n:=2) rfl (bF (aL 3 om.nd) (bF (aL 4 om.nd) cZ))) (aD (bw 5 om.nd (dC (mv V) hr (aj (af 4) (aj (af 3) (aj (DO.de (dv (aj aq (aj aq (aj aq (aj aq (aj aq (aj aq (aj aq aw))))))))) aw))) ln3)) (aD (bw 6 om.nd (fO (DO.de (dv (aj (cK (aj (aB (af 5) aq) (aj (aB (af 5) aq) aw))) (aj (cK (aj (aB (af 5) aq) (aj (aB (af 5) aq) aw))) (aj (cK (aj (aB (af 5) aq) (aj (aB (af 5) aq) aw))) aw))))) fY (fA (aB (af 5) aq)))) (aC (i6 2 (cK (aj (dC (uo V) hr (aj (b6 aq (af 3)) aw) ln1) (aj (dC (Nj V) hr (aj (af 6) .(W)) ln2) aw)))))))) (hG 2 (aC (aJ (af 2))))))
theorem Lo:Cal .(n) P w K mg base "_law_steps" 4 2 vo:=
 V.d5.cal (k:=1) nC .(b) fun f cdv A outer s H E hr=>
  (aD (iH 4 nC.nd (dv aw)) (aD (b7 ca rfl (kT rfl V.z_enumerate (af 0)) (c4 (n:=2) rfl (bF (aL 5 nC.nd) (bF (aL 6 nC.nd) cZ))) (aD (bw 7 nC.nd (dC (mv V) hr (aj (af 6) (aj (b6 (af 5) aq) (aj (DO.de (dv (aj aq (aj (b5 fR rfl V.z_len (by rfl) .(W)) (aj (af 3) (aj (b5 fR rfl V.z_len (by rfl) .(W)) (aj (af 3) (aj aq aw)))))))) aw))) ln3)) (aD (iH 8 nC.nd (dv (aj (cK (aj (aB (aB (af 1) (aB (af 7) aq)) aq) (aj (b6 aq (dj (aB (af 7) aq) (af 2))) aw))) aw))) (aD (a9 (DW.dt (fS (bx g0 (aB (af 7) aq) aq (bj _)) (gd (bx (kY (f8 hr)) (aB (af 7) aq) (aB (af 7) aq) (bj _))))) (aC (i6 8 (cK (aj (aB (aB (af 1) (aB (af 7) aq)) aq) (aj (b6 aq (dj (aB (af 7) aq) (af 2))) aw))))) bc) (hG 8 (aC (i6 4 (cK (aj (dC (uo V) hr (aj (af 5) aw) ln1) (aj (aB dA (aB (af 7) aq)) (aj (af 8) aw))))))))))) (hG 4 (aC (aJ (af 4))))))
theorem Jk:Cal .(n) P w K mg base "_law_jobs" 3 2 wj:=
 V.d6.cal (k:=1) iC .(b) fun f cdv A outer s H E hr=>
  (aD (iH 3 iC.nd (dv aw)) (aD (nB 4 iC.nd rfl .(o) (FvOk.of (N':=["_law_step"]) (fv:=[ab]) rfl) (bB (af 1)) ⟨fun _ _ _ _ _=>⟨(aL 0 (show(["_law_step"]:ac ah).Nodup by decide +kernel)),cw,.(s)⟩⟩) (aD (b7 ca rfl (kT rfl V.z_enumerate (af 0)) (c4 (n:=2) rfl (bF (aL 5 iC.nd) (bF (aL 6 iC.nd) cZ))) (aD (bw 7 iC.nd (dC (mv V) hr (aj (af 6) (aj (b6 (af 5) aq) (aj (DO.de (dv (aj aq (aj aq (aj aq (aj aq (aj aq (aj aq aw)))))))) aw))) ln3)) (aD (bw 8 iC.nd (fO (af 4) fY (fA (aB (af 7) aq)))) (aD (bw 4 iC.nd (fO (af 4) (fA (aB (af 7) aq)) fY)) (aC (a9 (bx (kY (f8 hr)) (af 8) (DO.de (dv aw)) (bj _)) (aD (bw 9 iC.nd (b5 (tz rfl) rfl V.z_min (by rfl) (aj (af 2) (aj (ju (aB (af 7) aq) (jy Cu rfl V.z_int (by rfl) (aj (eJ g0 (aB (af 7) aq) aq (bj _)) aw))) aw)))) (aD (bw 10 iC.nd (b5 (wL rfl) rfl V.z_max (by rfl) (aj aq (aj (pC (af 2) (ju (aB (af 7) aq) (jy Cu rfl V.z_int (by rfl) (aj (eJ g0 (aB (af 7) aq) aq (bj _)) aw)))) aw)))) (aD (bw 8 iC.nd (b6 (fO (af 8) (fA (dj (aB (af 7) aq) aq)) fY) (fO (af 8) fY (fA (dj (aB (af 7) aq) aq))))) (aC (i6 3 (cK (aj (dC (uo V) hr (aj (b6 aq (af 5)) aw) ln1) (aj (af 9) (aj (af 10) (aj (eJ g0 (aB (af 7) aq) aq (bj _)) (aj (af 8) aw))))))))))) bc)))))) (hG 3 (aC (aJ (af 3)))))))
theorem LA:Cal .(n) P w K mg base "_law_setups" 3 2 xK:=
 V.d7.cal (k:=1) nW .(b) fun f cdv A outer s H E hr=>
  (aD (iH 3 nW.nd (dv aw)) (aD (b7 ca rfl (kT rfl V.z_enumerate (dC (mv V) hr (aj (af 0) (aj aq (aj (ju (DO.de (dv (aj aq aw))) aq) aw))) ln3)) (c4 (n:=2) rfl (bF (aL 4 nW.nd) (bF (aL 5 nW.nd) cZ))) (aD (bw 6 nW.nd (aB (aB (af 1) (dj (af 4) (b5 fR rfl V.z_len (by rfl) .(W)))) aq)) (aD (bw 7 nW.nd (cK (aj (af 6) (aj (aB dA (dj (af 4) aq)) (aj (aB dA (dj (b6 (af 4) (af 5)) aq)) (aj (b5 (tz rfl) rfl V.z_min (by rfl) (aj (af 2) (aj (af 5) aw))) aw)))))) (aC (a9 (DF 3 (DW.dt (fS (bx kX (af 5) aq (bj _)) (gd (bx (vI (aZ hr)) (fO (af 7) fY (fA aq)) (DO.de (cz rfl .(o) (FvOk.of (N':=["_law_one"]) (fv:=[ab]) rfl) (bB (af 3)) ⟨fun _ _ _ _ _=>⟨(aL 0 (show(["_law_one"]:ac ah).Nodup by decide +kernel)),cw,(fO (af 0) fY (fA aq))⟩⟩)) (by rfl)))))) (aC (i6 3 (af 7))) bc))))) (hG 3 (aC (aJ (af 3))))))
theorem JM:Cal .(n) P w K mg base "_law_links" 3 2 wt:=
 V.d8.cal (k:=1) nS .(b) fun f cdv A outer s H E hr=>
  (aD (iH 3 nS.nd (dv aw)) (aD (bw 4 nS.nd (dC (mv V) hr (aj (af 0) (aj aq (aj (DO.de (dv (aj aq (aj aq (aj aq (aj aq (aj aq (aj aq (aj aq aw))))))))) aw))) ln3)) (aD (b7 ca rfl (l9 rfl V.z_range (aj (aB (af 4) aq) aw)) (aL 5 nS.nd) (aD (bw 6 nS.nd (aB (aB (af 1) (dj (aB (af 4) (b6 aq (ju aq (af 5)))) (b5 fR rfl V.z_len (by rfl) .(W)))) aq)) (aD (bw 7 nS.nd (aB (aB (af 1) (dj (aB (af 4) (b6 aq (ju aq (af 5)))) (b5 fR rfl V.z_len (by rfl) .(W)))) aq)) (aC (a9 (DF 3 (DW.dt (fS (bx (kY (f8 hr)) (af 6) (af 7) (bj _)) (gd (bx (vI (aZ hr)) (cK (aj (af 6) (aj (af 7) aw))) (DO.de (cz rfl .(o) (FvOk.of (N':=["_law_link"]) (fv:=[ab]) rfl) (bB (af 3)) ⟨fun _ _ _ _ _=>⟨(aL 0 (show(["_law_link"]:ac ah).Nodup by decide +kernel)),cw,(fO (af 0) fY (fA aq))⟩⟩)) (by rfl)))))) (aC (i6 3 (cK (aj (af 6) (aj (af 7) (aj (b5 (tz rfl) rfl V.z_min (by rfl) (aj (af 2) (aj (aB (af 4) (b6 aq (ju aq (af 5)))) aw))) aw)))))) bc))))) (hG 3 (aC (aJ (af 3)))))))
theorem Hn:Cal .(n) P w K mg base "_law_stocks" 2 2 vX:=
 V.d9.cal (k:=1) mm .(b) fun f cdv A outer s H E hr=>
  (aD (bw 2 mm.nd (dC (mv V) hr (aj (af 0) (aj aq (aj (DO.de (dv (aj aq (aj aq (aj aq (aj aq (aj aq (aj aq (aj aq aw))))))))) aw))) ln3)) (aD (iH 3 mm.nd (dv aw)) (aD (b7 ca rfl (l9 rfl V.z_range (aj (aB (af 2) aq) aw)) (aL 4 mm.nd) (aD (bw 5 mm.nd (b6 (aB (af 2) aq) (aB (af 2) aq))) (aD (nB 6 mm.nd rfl .(o) (FvOk.of (N':=["_law_j","_law_step","_law_row","_law_k"]) (fv:=[ab,ab,aa 2,aa 4]) rfl) (kT rfl V.z_enumerate (af 1)) ⟨fun _ _ _ _ _=>⟨(c4 (n:=2) rfl (bF (aL 0 (show(["_law_j","_law_step","_law_row","_law_k"]:ac ah).Nodup by decide +kernel)) (bF (aL 1 (show(["_law_j","_law_step","_law_row","_law_k"]:ac ah).Nodup by decide +kernel)) cZ))),(mi (bx g0 (dj (mC (b6 (aB (af 2) aq) (af 3)) (aB (DO.de (dv (aj aq (aj aq (aj aq aw))))) (dj (af 0) aq))) aq) aq (bj _))),(cK (aj (aB (af 1) aq) (aj (b6 aq (aB (af 2) aq)) aw)))⟩⟩) (aD (nB 7 mm.nd rfl .(o) (FvOk.of (N':=["_law_j","_law_step","_law_row","_law_k"]) (fv:=[ab,ab,aa 2,aa 4]) rfl) (kT rfl V.z_enumerate (af 1)) ⟨fun _ _ _ _ _=>⟨(c4 (n:=2) rfl (bF (aL 0 (show(["_law_j","_law_step","_law_row","_law_k"]:ac ah).Nodup by decide +kernel)) (bF (aL 1 (show(["_law_j","_law_step","_law_row","_law_k"]:ac ah).Nodup by decide +kernel)) cZ))),(mi (bx g0 (dj (mC (b6 (aB (af 2) aq) (af 3)) (aB (DO.de (dv (aj aq (aj aq (aj aq aw))))) (dj (af 0) aq))) aq) aq (bj _))),(cK (aj (aB (af 1) aq) (aj (b6 aq (aB (af 2) aq)) aw)))⟩⟩) (aC (i6 3 (cK (aj (dC (uo V) hr (aj (b6 aq (af 4)) aw) ln1) (aj (aB (af 2) aq) (aj (af 5) (aj (af 6) (aj (af 7) aw)))))))))))) (hG 3 (aC (aJ (af 3)))))))
theorem GF:Cal .(n) P w K mg base "_law_lists" 4 3 wE:=
 V.d10.cal (k:=2) mh .(b) fun f cdv A outer s H E hr=>
  (aD (bw 4 mh.nd (dC (NZ V) hr (aj (DO.de (cz rfl .(o) (FvOk.of (N':=["_law_k","_law_script"]) (fv:=[ab,aa 0]) rfl) (l9 rfl V.z_range (aj (b6 aq (dj (dC (iZ V) hr (aj (af 0) (aj aq aw)) ln2) aq)) aw)) ⟨fun _ _ _ _ _=>⟨(aL 0 (show(["_law_k","_law_script"]:ac ah).Nodup by decide +kernel)),cw,(dC (iZ V) hr (aj (af 1) (aj (b6 aq (af 0)) aw)) ln2)⟩⟩)) (aj (af 2) aw)) ln2)) (aD (bw 5 mh.nd (dC (Lo V) hr (aj (DO.de (cz rfl .(o) (FvOk.of (N':=["_law_k","_law_script"]) (fv:=[ab,aa 0]) rfl) (l9 rfl V.z_range .(W)) ⟨fun _ _ _ _ _=>⟨(aL 0 (show(["_law_k","_law_script"]:ac ah).Nodup by decide +kernel)),cw,(dC (iZ V) hr (aj (af 1) (aj (b6 aq (af 0)) aw)) ln2)⟩⟩)) (aj (af 4) (aj (af 2) (aj (af 3) aw)))) ln4)) (aD (bw 6 mh.nd (dC (Jk V) hr (aj (DO.de (cz rfl .(o) (FvOk.of (N':=["_law_k","_law_script"]) (fv:=[ab,aa 0]) rfl) (l9 rfl V.z_range (aj aq aw)) ⟨fun _ _ _ _ _=>⟨(aL 0 (show(["_law_k","_law_script"]:ac ah).Nodup by decide +kernel)),cw,(dC (iZ V) hr (aj (af 1) (aj (b6 aq (af 0)) aw)) ln2)⟩⟩)) (aj (af 5) (aj (af 2) aw))) ln3)) (aD (bw 7 mh.nd (dC (LA V) hr (aj (dC (iZ V) hr (aj (af 0) (aj aq aw)) ln2) (aj (af 4) (aj (af 2) aw))) ln3)) (aD (bw 8 mh.nd (dC (JM V) hr (aj (dC (iZ V) hr (aj (af 0) (aj aq aw)) ln2) (aj (af 5) (aj (af 2) aw))) ln3)) (aD (bw 9 mh.nd (dC (Hn V) hr (aj (dC (iZ V) hr (aj (af 0) (aj aq aw)) ln2) (aj (af 5) aw)) ln2)) (aC (aJ (DO.de (dv (aj (af 4) (aj (af 5) (aj (af 6) (aj (af 7) (aj (af 8) (aj (af 9) (aj (af 2) aw)))))))))))))))))
theorem F9:Cal .(n) P w K mg base "is_whole" 1 1 ux:=
 V.d11.cal (k:=0) FH .(b) fun f cdv A outer s H E hr=>
  (aC (aJ (eG (b5 kS rfl V.z_isinstance (by rfl) (aj (af 0) (aj (lB rfl V.z_int (by rfl)) aw))) (fL (FV (b5 kS rfl V.z_isinstance (by rfl) (aj (af 0) (aj (lB rfl V.z_bool (by rfl)) aw))))))))
theorem iJ:Cal .(n) P w K mg base "is_within" 3 2 gB:=
 V.d12.cal (k:=1) NJ .(b) fun f cdv A outer s H E hr=>
  (aC (aJ (eG (dC (F9 V) hr (aj (af 0) aw) ln1) (fL (wX fB fB (af 1) (af 0) (af 2))))))
theorem j3:Cal .(n) P w K mg base "is_tuple" 2 1 fQ:=
 V.d13.cal (k:=0) NP .(b) fun f cdv A outer s H E hr=>
  (aC (aJ (eG (b5 kS rfl V.z_isinstance (by rfl) (aj (af 0) (aj (lB rfl V.z_tuple (by rfl)) aw))) (fL (eJ g0 (b5 fR rfl V.z_len (by rfl) (aj (af 0) aw)) (af 1) (bj _))))))
theorem GG:Cal .(n) P w K mg base "is_break" 2 3 t7:=
 V.d14.cal (k:=2) NR .(b) fun f cdv A outer s H E hr=>
  (aD (a9 (DW.dt (cJ (bV (bL .(Y))) (cJ (bV (bL (dC (iJ V) hr (aj .(s) (aj aq .(W))) ln3))) (c9 (bV (bL (dC (iJ V) hr (aj .(s) (aj aq .(W))) ln3))))))) .(M) bc) (aC (aJ (eJ di .(s) .(s) (bj _)))))
theorem jt:Cal .(n) P w K mg base "is_list" 3 1 gR:=
 V.d15.cal (k:=0) Lf .(b) fun f cdv A outer s H E hr=>
  (aC (aJ (eG (b5 kS rfl V.z_isinstance (by rfl) (aj (af 0) (aj (lB rfl V.z_list (by rfl)) aw))) (fL (wX fB fB (af 1) (b5 fR rfl V.z_len (by rfl) (aj (af 0) aw)) (af 2))))))
theorem FK:Cal .(n) P w K mg base "are_breaks" 2 4 w8:=
 V.d16.cal (k:=3) L0 .(b) fun f cdv A outer s H E hr=>
  (aD (a9 (DW.dt (cJ (bV (bL (dC (jt V) hr (aj (af 0) (aj aq (aj (ia rfl V.k_MOST_BREAKS) aw))) ln3))) (c9 (bV (bL (b5 (hV rfl) rfl V.z_all (by rfl) (aj (DO.de (cz rfl .(o) (FvOk.of (N':=["row","horizon"]) (fv:=[ab,aa 1]) rfl) (bB (af 0)) ⟨fun _ _ _ _ _=>⟨(aL 0 (show(["row","horizon"]:ac ah).Nodup by decide +kernel)),cw,(dC (GG V) hr (aj (af 0) .(W)) ln2)⟩⟩)) aw))))))) .(M) bc) (aC (aJ (b5 (hV rfl) rfl V.z_all (by rfl) (aj (DO.de (cz rfl .(o) (FvOk.of (N':=["place","breaks"]) (fv:=[ab,aa 0]) rfl) (AB rfl V.z_range (aj aq (aj (b5 fR rfl V.z_len (by rfl) (aj (af 0) aw)) aw))) ⟨fun _ _ _ _ _=>⟨(aL 0 (show(["place","breaks"]:ac ah).Nodup by decide +kernel)),cw,(eJ di (aB (aB (af 1) (pC (af 0) aq)) aq) (aB (aB (af 1) (af 0)) aq) (bj _))⟩⟩)) aw)))))
theorem lu:Cal .(n) P w K mg base "is_name" 1 1 iY:=
 V.d17.cal (k:=0) Mc .(b) fun f cdv A outer s H E hr=>
  (aD (a9 (DW.dt (cJ (bV (bL (b5 kS rfl V.z_isinstance (by rfl) (aj (af 0) (aj (lB rfl V.z_str (by rfl)) aw))))) (c9 (bV (Bf fB fB aq (b5 fR rfl V.z_len (by rfl) (aj (af 0) aw)) (ia rfl V.k_LONGEST_NAME)))))) .(M) bc) (aC (aJ (b5 (hV rfl) rfl V.z_all (by rfl) (aj (DO.de (cz rfl .(o) (FvOk.of (N':=["sign"]) (fv:=[ab]) rfl) (MD (af 0)) ⟨fun _ _ _ _ _=>⟨(aL 0 (show(["sign"]:ac ah).Nodup by decide +kernel)),cw,(wX fB fB dA (af 0) dA)⟩⟩)) aw)))))
theorem JO:Cal .(n) P w K mg base "is_bench" 2 5 ub:=
 V.d18.cal (k:=4) Jm .(b) fun f cdv A outer s H E hr=>
  (aC (aJ (eG .(Y) (eG (dC (lu V) hr (aj .(s) aw) ln1) (fL (dC (FK V) hr (aj .(s) .(W)) ln2))))))
theorem km:Cal .(n) P w K mg base "are_unlike" 1 1 fG:=
 V.d19.cal (k:=0) MW .(b) fun f cdv A outer s H E hr=>
  (aC (aJ (eJ g0 (O6 rfl (aZ hr) rfl V.z_len rfl V.z_set (af 0)) (b5 fR rfl V.z_len (by rfl) (aj (af 0) aw)) (bj _))))
theorem NU:Cal .(n) P w K mg base "are_benches" 2 6 v6:=
 V.d20.cal (k:=5) Ma .(b) fun f cdv A outer s H E hr=>
  (aD (a9 (DW.dt (cJ (bV (bL (dC (jt V) hr (aj (af 0) (aj aq (aj (ia rfl V.k_MOST_BENCHES) aw))) ln3))) (c9 (bV (bL (b5 (hV rfl) rfl V.z_all (by rfl) (aj (DO.de (cz rfl .(o) (FvOk.of (N':=["row","horizon"]) (fv:=[ab,aa 1]) rfl) (bB (af 0)) ⟨fun _ _ _ _ _=>⟨(aL 0 (show(["row","horizon"]:ac ah).Nodup by decide +kernel)),cw,(dC (JO V) hr (aj (af 0) .(W)) ln2)⟩⟩)) aw))))))) .(M) bc) (aC (aJ .(g))))
theorem nT:Cal .(n) P w K mg base "is_one_of" 2 2 kg:=
 V.d21.cal (k:=1) HQ .(b) fun f cdv A outer s H E hr=>
  (aC (aJ (eG (dC (lu V) hr (aj (af 0) aw) ln1) (fL (eJ (mI (aZ hr)) (af 0) (af 1) (by rfl))))))
theorem HY:Cal .(n) P w K mg base "is_way" 3 3 uy:=
 V.d22.cal (k:=2) IP .(b) fun f cdv A outer s H E hr=>
  (aC (aJ (eG .(Y) (eG (dC (nT V) hr (aj .(s) .(W)) ln2) (fL (dC (iJ V) hr (aj .(s) (aj aq (aj (af 2) aw))) ln3))))))
theorem Hv:Cal .(n) P w K mg base "are_ways" 3 4 w9:=
 V.d23.cal (k:=3) Kt .(b) fun f cdv A outer s H E hr=>
  (aD (a9 (DW.dt (cJ (bV (bL (dC (jt V) hr (aj (af 0) (aj aq (aj (ia rfl V.k_MOST_WAYS) aw))) ln3))) (c9 (bV (bL (b5 (hV rfl) rfl V.z_all (by rfl) (aj (DO.de (cz rfl .(o) (FvOk.of (N':=["row","bench_names","horizon"]) (fv:=[ab,aa 1,aa 2]) rfl) (bB (af 0)) ⟨fun _ _ _ _ _=>⟨(aL 0 (show(["row","bench_names","horizon"]:ac ah).Nodup by decide +kernel)),cw,(dC (HY V) hr (aj (af 0) (aj (af 1) (aj (af 2) aw))) ln3)⟩⟩)) aw))))))) .(M) bc) (aC (aJ .(g))))
theorem LJ:Cal .(n) P w K mg base "is_step" 3 5 uh:=
 V.d24.cal (k:=4) L3 .(b) fun f cdv A outer s H E hr=>
  (aD (a9 (DW.dt (cJ (bV (bL .(Y))) (cJ (bV (bL (dC (lu V) hr (aj .(s) aw) ln1))) (c9 (bV (bL (dC (lu V) hr (aj .(s) aw) ln1))))))) .(M) bc) (aC (aJ (dC (Hv V) hr (aj .(s) (aj (af 1) (aj (af 2) aw))) ln3))))
theorem M8:Cal .(n) P w K mg base "are_steps" 3 6 xc:=
 V.d25.cal (k:=5) KH .(b) fun f cdv A outer s H E hr=>
  (aD (a9 (DW.dt (cJ (bV (bL (dC (jt V) hr (aj (af 0) (aj aq (aj (ia rfl V.k_MOST_STEPS) aw))) ln3))) (c9 (bV (bL (b5 (hV rfl) rfl V.z_all (by rfl) (aj (DO.de (cz rfl .(o) (FvOk.of (N':=["row","bench_names","horizon"]) (fv:=[ab,aa 1,aa 2]) rfl) (bB (af 0)) ⟨fun _ _ _ _ _=>⟨(aL 0 (show(["row","bench_names","horizon"]:ac ah).Nodup by decide +kernel)),cw,(dC (LJ V) hr (aj (af 0) (aj (af 1) (aj (af 2) aw))) ln3)⟩⟩)) aw))))))) .(M) bc) (aC (aJ .(g))))
theorem Mj:Cal .(n) P w K mg base "is_job" 3 3 ve:=
 V.d26.cal (k:=2) Hu .(b) fun f cdv A outer s H E hr=>
  (aD (a9 (DW.dt (cJ (bV (bL .(Y))) (cJ (bV (bL (dC (lu V) hr (aj .(s) aw) ln1))) (c9 (bV (bL (b5 kS rfl V.z_isinstance (by rfl) (aj .(s) (aj (lB rfl V.z_bool (by rfl)) aw))))))))) .(M) bc) (aD (a9 (DW.dt (cJ (bV (bL (dC (iJ V) hr (aj .(s) (aj aq (aj (af 2) aw))) ln3))) (c9 (bV (bL (dC (iJ V) hr (aj .(s) (aj aq (aj (af 2) aw))) ln3)))))) .(M) bc) (aC (aJ (eG (dC (jt V) hr (aj .(s) (aj aq (aj (b5 fR rfl V.z_len (by rfl) .(W)) aw))) ln3) (fL (b5 (hV rfl) rfl V.z_all (by rfl) (aj (DO.de (cz rfl .(o) (FvOk.of (N':=["name","step_names"]) (fv:=[ab,aa 1]) rfl) (bB .(s)) ⟨fun _ _ _ _ _=>⟨(aL 0 (show(["name","step_names"]:ac ah).Nodup by decide +kernel)),cw,(dC (nT V) hr (aj (af 0) .(W)) ln2)⟩⟩)) aw))))))))
theorem M0:Cal .(n) P w K mg base "are_jobs" 3 4 wg:=
 V.d27.cal (k:=3) wU .(b) fun f cdv A outer s H E hr=>
  (aD (a9 (DW.dt (cJ (bV (bL (dC (jt V) hr (aj (af 0) (aj aq (aj (ia rfl V.k_MOST_JOBS) aw))) ln3))) (c9 (bV (bL (b5 (hV rfl) rfl V.z_all (by rfl) (aj (DO.de (cz rfl .(o) (FvOk.of (N':=["row","step_names","horizon"]) (fv:=[ab,aa 1,aa 2]) rfl) (bB (af 0)) ⟨fun _ _ _ _ _=>⟨(aL 0 (show(["row","step_names","horizon"]:ac ah).Nodup by decide +kernel)),cw,(dC (Mj V) hr (aj (af 0) (aj (af 1) (aj (af 2) aw))) ln3)⟩⟩)) aw))))))) .(M) bc) (aD (iH 3 wU.nd (dv aw)) (aD (b7 ca rfl (bB (af 0)) (aL 4 wU.nd) (aC (wS 3 (aB (af 4) aq)))) (hG 3 (aC (aJ (eG .(g) (fL (dC (km V) hr (aj (af 3) aw) ln1)))))))))
theorem Lr:Cal .(n) P w K mg base "is_setup" 3 3 sO:=
 V.d28.cal (k:=2) Ly .(b) fun f cdv A outer s H E hr=>
  (aD (a9 (DW.dt (cJ (bV (bL .(Y))) (c9 (bV (bL (dC (nT V) hr (aj .(s) .(W)) ln2)))))) .(M) bc) (aC (aJ (eG (dC (lu V) hr (aj .(s) aw) ln1) (eG (dC (lu V) hr (aj .(s) aw) ln1) (fL (dC (iJ V) hr (aj .(s) (aj aq (aj (af 2) aw))) ln3)))))))
theorem Pf:Cal .(n) P w K mg base "are_setups" 3 4 v7:=
 V.d29.cal (k:=3) Ho .(b) fun f cdv A outer s H E hr=>
  (aD (a9 (DW.dt (cJ (bV (bL (dC (jt V) hr (aj (af 0) (aj aq (aj (ia rfl V.k_MOST_SETUPS) aw))) ln3))) (c9 (bV (bL (b5 (hV rfl) rfl V.z_all (by rfl) (aj (DO.de (cz rfl .(o) (FvOk.of (N':=["row","bench_names","horizon"]) (fv:=[ab,aa 1,aa 2]) rfl) (bB (af 0)) ⟨fun _ _ _ _ _=>⟨(aL 0 (show(["row","bench_names","horizon"]:ac ah).Nodup by decide +kernel)),cw,(dC (Lr V) hr (aj (af 0) (aj (af 1) (aj (af 2) aw))) ln3)⟩⟩)) aw))))))) .(M) bc) (aC (aJ (dC (km V) hr (aj (DO.de (cz rfl .(o) (FvOk.of (N':=["row"]) (fv:=[ab]) rfl) (bB (af 0)) ⟨fun _ _ _ _ _=>⟨.(Q),cw,(fO (af 0) fY (fA aq))⟩⟩)) aw) ln1))))
theorem Nn:Cal .(n) P w K mg base "is_link" 3 3 sq:=
 V.d30.cal (k:=2) Lj .(b) fun f cdv A outer s H E hr=>
  (aD (a9 (DW.dt (cJ (bV (bL .(Y))) (cJ (bV (bL (dC (nT V) hr (aj .(s) .(W)) ln2))) (c9 (bV (bL (dC (nT V) hr (aj .(s) .(W)) ln2))))))) .(M) bc) (aC (aJ (eG (eJ (kY (f8 hr)) .(s) .(s) (bj _)) (fL (dC (iJ V) hr (aj .(s) (aj aq (aj (af 2) aw))) ln3))))))
theorem Fk:Cal .(n) P w K mg base "are_links" 3 4 xW:=
 V.d31.cal (k:=3) LP .(b) fun f cdv A outer s H E hr=>
  (aD (a9 (DW.dt (cJ (bV (bL (dC (jt V) hr (aj (af 0) (aj aq (aj (ia rfl V.k_MOST_LINKS) aw))) ln3))) (c9 (bV (bL (b5 (hV rfl) rfl V.z_all (by rfl) (aj (DO.de (cz rfl .(o) (FvOk.of (N':=["row","step_names","horizon"]) (fv:=[ab,aa 1,aa 2]) rfl) (bB (af 0)) ⟨fun _ _ _ _ _=>⟨(aL 0 (show(["row","step_names","horizon"]:ac ah).Nodup by decide +kernel)),cw,(dC (Nn V) hr (aj (af 0) (aj (af 1) (aj (af 2) aw))) ln3)⟩⟩)) aw))))))) .(M) bc) (aC (aJ (dC (km V) hr (aj (DO.de (cz rfl .(o) (FvOk.of (N':=["row"]) (fv:=[ab]) rfl) (bB (af 0)) ⟨fun _ _ _ _ _=>⟨.(Q),cw,(fO (af 0) fY (fA aq))⟩⟩)) aw) ln1))))
theorem La:Cal .(n) P w K mg base "is_amount" 2 3 ue:=
 V.d32.cal (k:=2) Hc .(b) fun f cdv A outer s H E hr=>
  (aC (aJ (eG .(Y) (eG (dC (nT V) hr (aj .(s) .(W)) ln2) (fL (dC (iJ V) hr (aj .(s) (aj aq (aj (ia rfl V.k_MOST_AMOUNT) aw))) ln3))))))
theorem C1:Cal .(n) P w K mg base "are_amounts" 2 4 uc:=
 V.d33.cal (k:=3) Jz .(b) fun f cdv A outer s H E hr=>
  (aD (a9 (DW.dt (cJ (bV (bL (dC (jt V) hr (aj (af 0) (aj aq (aj (b5 fR rfl V.z_len (by rfl) .(W)) aw))) ln3))) (c9 (bV (bL (b5 (hV rfl) rfl V.z_all (by rfl) (aj (DO.de (cz rfl .(o) (FvOk.of (N':=["row","step_names"]) (fv:=[ab,aa 1]) rfl) (bB (af 0)) ⟨fun _ _ _ _ _=>⟨(aL 0 (show(["row","step_names"]:ac ah).Nodup by decide +kernel)),cw,(dC (La V) hr (aj (af 0) .(W)) ln2)⟩⟩)) aw))))))) .(M) bc) (aC (aJ .(g))))
theorem Fb:Cal .(n) P w K mg base "is_stock" 2 5 tM:=
 V.d34.cal (k:=4) N5 .(b) fun f cdv A outer s H E hr=>
  (aD (a9 (DW.dt (cJ (bV (bL .(Y))) (c9 (bV (bL (dC (lu V) hr (aj .(s) aw) ln1)))))) .(M) bc) (aD (a9 (DW.dt (cJ (bV (bL (dC (iJ V) hr (aj .(s) (aj aq (aj (ia rfl V.k_MOST_AMOUNT) aw))) ln3))) (c9 (bV (bL (dC (iJ V) hr (aj .(s) (aj aq (aj .(s) aw))) ln3)))))) .(M) bc) (aC (aJ (eG (dC (C1 V) hr (aj .(s) .(W)) ln2) (fL (dC (C1 V) hr (aj .(s) .(W)) ln2)))))))
theorem OH:Cal .(n) P w K mg base "are_stocks" 2 6 vM:=
 V.d35.cal (k:=5) HN .(b) fun f cdv A outer s H E hr=>
  (aD (a9 (DW.dt (cJ (bV (bL (dC (jt V) hr (aj (af 0) (aj aq (aj (ia rfl V.k_MOST_STOCKS) aw))) ln3))) (c9 (bV (bL (b5 (hV rfl) rfl V.z_all (by rfl) (aj (DO.de (cz rfl .(o) (FvOk.of (N':=["row","step_names"]) (fv:=[ab,aa 1]) rfl) (bB (af 0)) ⟨fun _ _ _ _ _=>⟨(aL 0 (show(["row","step_names"]:ac ah).Nodup by decide +kernel)),cw,(dC (Fb V) hr (aj (af 0) .(W)) ln2)⟩⟩)) aw))))))) .(M) bc) (aC (aJ .(g))))
theorem OB:Cal .(n) P w K mg base "first_bad_part" 7 7 vh:=
 V.d36.cal (k:=6) wT .(b) fun f cdv A outer s H E hr=>
  (aD (a9 (bV (bL (dC (iJ V) hr (aj (af 6) (aj aq (aj (ia rfl V.k_MOST_HORIZON) aw))) ln3))) (aC (aJ dA)) bc) (aD (a9 (bV (bL (dC (NU V) hr (aj (af 0) (aj (af 6) aw)) ln2))) (aC (aJ dA)) bc) (aD (nB 7 wT.nd rfl .(o) (FvOk.of (N':=["row"]) (fv:=[ab]) rfl) (bB (af 0)) ⟨fun _ _ _ _ _=>⟨.(Q),cw,.(s)⟩⟩) (aD (a9 (bV (bL (dC (M8 V) hr (aj (af 1) (aj (af 7) (aj (af 6) aw))) ln3))) (aC (aJ dA)) bc) (aD (nB 8 wT.nd rfl .(o) (FvOk.of (N':=["row"]) (fv:=[ab]) rfl) (bB (af 1)) ⟨fun _ _ _ _ _=>⟨.(Q),cw,.(s)⟩⟩) (aD (a9 (bV (bL (dC (M0 V) hr (aj (af 2) (aj (af 8) (aj (af 6) aw))) ln3))) (aC (aJ dA)) bc) (aD (a9 (bV (bL (dC (Pf V) hr (aj (af 3) (aj (af 7) (aj (af 6) aw))) ln3))) (aC (aJ dA)) bc) (aD (a9 (bV (bL (dC (Fk V) hr (aj (af 4) (aj (af 8) (aj (af 6) aw))) ln3))) (aC (aJ dA)) bc) (aD (a9 (bV (bL (dC (OH V) hr (aj (af 5) (aj (af 8) aw)) ln2))) (aC (aJ dA)) bc) (aC (aJ dS)))))))))))
theorem Mx {k:al} {dY:FQ} (f9:Cal .(n) P w K mg base "fresh" 1 k dY):Cal .(n) P w K mg base "fresh" 1 (k+1) (jA dY):=
 V.d37.cal (k:=k) Og .(b) fun f cdv A outer s H E hr=>
  (aD (a9 (bL (b5 kS rfl V.z_isinstance (by rfl) (aj (af 0) (aj (lB rfl V.z_list (by rfl)) aw)))) (aC (aJ (DO.de (cz rfl .(o) (FvOk.of (N':=["part"]) (fv:=[ab]) rfl) (bB (af 0)) ⟨fun _ _ _ _ _=>⟨(aL 0 (show(["part"]:ac ah).Nodup by decide +kernel)),cw,(jb f9 hr (qv _) rfl (aj (af 0) aw) ln1)⟩⟩)))) bc) (aD (a9 (bL (b5 kS rfl V.z_isinstance (by rfl) (aj (af 0) (aj (lB rfl V.z_tuple (by rfl)) aw)))) (aC (aJ (jy Hq rfl V.z_tuple (by rfl) (aj (DO.de (cz rfl .(o) (FvOk.of (N':=["part"]) (fv:=[ab]) rfl) (bB (af 0)) ⟨fun _ _ _ _ _=>⟨(aL 0 (show(["part"]:ac ah).Nodup by decide +kernel)),cw,(jb f9 hr (qv _) rfl (aj (af 0) aw) ln1)⟩⟩)) aw)))) bc) (aC (aJ (af 0)))))
theorem f9:Cal .(n) P w K mg base "fresh" 1 8 dY:=by
 have h:∀n,Cal .(n) P w K mg base "fresh" 1 n (i4 n):=fun n=>by
  induction n with
  |zero=>exact Dfn.none (ps:=["thing"]) V.d37 .(b)
  |succ n ih=>exact Mx V ih
 exact h 8
theorem Md:CalI .(n) P w K mg base "Shop" 7 9 wx:=
 DfnM.calI (k:=8) V.O_Shop V.d38 tF .(b) fun f y cdv A outer s H E hr=>
  (aD (bw 8 tF.nd (jb ((OB V).re y) hr .(h) rfl (aj (af 1) (aj (af 2) (aj (af 3) (aj (af 4) (aj (af 5) (aj (af 6) (aj (af 7) aw))))))) ln7)) (aD (a9 (bx xH (af 8) dS (bj _)) (aC Hg) bc) (aD (jg 0 (V.cf_Shop.re y) (.head _) (jb ((f9 V).re y) hr .(h) rfl .(W) ln1)) (aD (jg 0 (V.cf_Shop.re y) (.tail _ (.head _)) (jb ((f9 V).re y) hr .(h) rfl (aj (af 2) aw) ln1)) (aD (jg 0 (V.cf_Shop.re y) (.tail _ (.tail _ (.head _))) (jb ((f9 V).re y) hr .(h) rfl (aj (af 3) aw) ln1)) (aD (jg 0 (V.cf_Shop.re y) (.tail _ (.tail _ (.tail _ (.head _)))) (jb ((f9 V).re y) hr .(h) rfl (aj (af 4) aw) ln1)) (aD (jg 0 (V.cf_Shop.re y) (.tail _ (.tail _ (.tail _ (.tail _ (.head _))))) (jb ((f9 V).re y) hr .(h) rfl (aj (af 5) aw) ln1)) (aD (jg 0 (V.cf_Shop.re y) (.tail _ (.tail _ (.tail _ (.tail _ (.tail _ (.head _)))))) (jb ((f9 V).re y) hr .(h) rfl (aj (af 6) aw) ln1)) (aD (jg 0 (V.cf_Shop.re y) .(m) (af 7)) (aD (jg 0 (V.cf_Shop.re y) (.tail _ .(m)) (jy (nP rfl (aZ hr)) rfl V.z_dict (by rfl) (aj (DO.de (cz rfl .(o) (FvOk.of (N':=["row"]) (fv:=[ab]) rfl) (bB (sF 0 (V.cf_Shop.re y) (.head _))) ⟨fun _ _ _ _ _=>⟨.(Q),cw,(cK (aj .(s) (aj (af 0) aw)))⟩⟩)) aw))) (aD (jg 0 (V.cf_Shop.re y) (.tail _ (.tail _ .(m))) (jy (nP rfl (aZ hr)) rfl V.z_dict (by rfl) (aj (DO.de (cz rfl .(o) (FvOk.of (N':=["row"]) (fv:=[ab]) rfl) (bB (sF 0 (V.cf_Shop.re y) (.tail _ (.head _)))) ⟨fun _ _ _ _ _=>⟨.(Q),cw,(cK (aj .(s) (aj (af 0) aw)))⟩⟩)) aw))) (aD (jg 0 (V.cf_Shop.re y) (.tail _ (.tail _ (.tail _ .(m)))) (jy (HK rfl (aZ hr)) rfl V.z_dict (by rfl) (aj (DO.de (cz rfl .(o) (FvOk.of (N':=["row"]) (fv:=[ab]) rfl) (bB (sF 0 (V.cf_Shop.re y) (.tail _ (.tail _ (.tail _ (.head _)))))) ⟨fun _ _ _ _ _=>⟨.(Q),cw,(cK (aj (fO (af 0) fY (fA aq)) (aj .(s) aw)))⟩⟩)) aw))) (aD (Mi 0 (V.cf_Shop.re y) (.tail _ (.tail _ (.tail _ (.tail _ .(m)))))) (aC (b7 ca rfl (bB (sF 0 (V.cf_Shop.re y) (.tail _ (.tail _ (.head _))))) (aL 9 tF.nd) (aC (b7 ca rfl (bB (aB (af 9) aq)) (aL 10 tF.nd) (aC (LD 0 (aZ hr) (V.cf_Shop.re y) (.tail _ (.tail _ (.tail _ (.tail _ .(m))))) (af 10) (af 9))))))))))))))))))))
theorem Iw:Cal .(n) P w K mg base "_law_shop" 1 11 vR:=
 V.d39.cal (k:=10) Ik .(b) fun f cdv A outer s H E hr=>
  (aC (aJ (Kq (Md V) hr .(h) rfl (aj .(s) (aj .(s) (aj .(s) (aj .(s) (aj .(s) (aj .(s) (aj .(s) aw))))))) ln7)))
theorem wA:Cal .(n) P w K mg base "_law_ends" 2 1 oe:=
 V.d40.cal (k:=0) mN .(b) fun f cdv A outer s H E hr=>
  (aD (uk 2 mN.nd) (aD (b7 ca rfl (bB (aB (af 1) aq)) (c4 (n:=3) rfl (bF (aL 3 mN.nd) (bF (aL 4 mN.nd) (bF (aL 5 mN.nd) cZ)))) (aC (a9 (bx (sA (aZ hr)) (af 3) (af 0) (by rfl)) (aD (qZ (bI (aZ hr) (af 0) (af 3)) (c4 (n:=2) rfl (bF (aL 6 mN.nd) (bF (aL 7 mN.nd) cZ)))) (aC (lX 2 (aZ hr) (af 3) (b6 (af 7) (bI (aZ hr) (jy (nP rfl (aZ hr)) rfl V.z_dict (by rfl) (aj (af 5) aw)) (af 6)))))) bc))) (pX 2 (aC (aJ (af 2))))))
theorem J0:Cal .(n) P w K mg base "_law_low" 3 1 sx:=
 V.d41.cal (k:=0) jW .(b) fun f cdv A outer s H E hr=>
  (aD (bw 3 jW.nd aq) (aD (b7 ca rfl (bB .(s)) (c4 (n:=3) rfl (bF (aL 4 jW.nd) (bF (aL 5 jW.nd) (bF (aL 6 jW.nd) cZ)))) (aC (a9 (DW.dt (fS (bx (mR (f8 hr)) (af 5) (af 2) (bj _)) (gd (bx (sA (aZ hr)) (af 4) (af 1) (by rfl))))) (aC (bw 3 jW.nd (b5 (wL rfl) rfl V.z_max (by rfl) (aj (af 3) (aj (b6 (bI (aZ hr) (af 1) (af 4)) (af 6)) aw))))) bc))) (aD (b7 ca rfl (bB .(s)) (aL 7 jW.nd) (aC (a9 (DW.dt (fS (bL (aB (af 7) aq)) (gd (bx (mI (aZ hr)) (af 2) (aB (af 7) aq) (by rfl))))) (aC (b7 ca rfl (bB (fO (aB (af 7) aq) fY (fA (AO yK ES Rb zW (aB (af 7) aq) (aj (af 2) aw))))) (aL 8 jW.nd) (aC (bw 3 jW.nd (b5 (wL rfl) rfl V.z_max (by rfl) (aj (af 3) (aj (AT (aZ hr) (af 1) (af 8) aq) aw))))))) bc))) (aC (aJ (af 3))))))
theorem Fg:Cal .(n) P w K mg base "_law_off_job" 4 1 sT:=
 V.d42.cal (k:=0) Bv .(b) fun f cdv A outer s H E hr=>
  (aD (b7 ca rfl (bB (aB (af 2) aq)) (aL 4 Bv.nd) (aC (a9 (bx (mI (aZ hr)) (af 3) (aB (af 4) aq) (by rfl)) (aC (a9 (DW.dt (cJ (bx di (aB (bI (aZ hr) (af 0) (af 3)) aq) (aB (af 4) aq) (bj _)) (c9 (bx kX (bI (aZ hr) (af 1) (af 3)) (aB (af 4) aq) (bj _))))) .(M) bc)) bc))) .(M))
theorem FP:Cal .(n) P w K mg base "_law_in_break" 4 1 tK:=
 V.d43.cal (k:=0) xD .(b) fun f cdv A outer s H E hr=>
  (aD (b7 ca rfl (bB (bI (aZ hr) (jy (nP rfl (aZ hr)) rfl V.z_dict (by rfl) (aj (aB (af 2) aq) aw)) (aB (bI (aZ hr) (af 0) (af 3)) aq))) (c4 (n:=2) rfl (bF (aL 4 xD.nd) (bF (aL 5 xD.nd) cZ))) (aC (a9 (DW.dt (fS (bx di (aB (bI (aZ hr) (af 0) (af 3)) aq) (af 5) (bj _)) (gd (bx di (af 4) (bI (aZ hr) (af 1) (af 3)) (bj _))))) .(M) bc))) .(M))
theorem zQ:Cal .(n) P w K mg base "_law_wait" 4 1 mK:=
 V.d44.cal (k:=0) vw .(b) fun f cdv A outer s H E hr=>
  (aD (bw 4 vw.nd (jy (nP rfl (aZ hr)) rfl V.z_dict (by rfl) (aj (DO.de (cz rfl .(o) (FvOk.of (N':=["_law_step"]) (fv:=[ab]) rfl) (bB .(s)) ⟨fun _ _ _ _ _=>⟨(aL 0 (show(["_law_step"]:ac ah).Nodup by decide +kernel)),cw,(cK (aj .(s) (aj .(s) aw)))⟩⟩)) aw))) (aD (b7 ca rfl (bB .(s)) (aL 5 vw.nd) (aC (a9 (bx (mR (f8 hr)) (fO (af 5) fY (fA aq)) (cK (aj (af 1) (aj (bI (aZ hr) (af 4) (af 2)) (aj (bI (aZ hr) (af 4) (af 3)) aw)))) (bj _)) (aC (aJ (aB (af 5) aq))) bc))) (aC (aJ aq))))
theorem Hi:Cal .(n) P w K mg base "_law_near" 5 2 pJ:=
 V.d45.cal (k:=1) n6 .(b) fun f cdv A outer s H E hr=>
  (aD (qZ (bI (aZ hr) (af 0) (af 3)) (c4 (n:=2) rfl (bF (aL 5 n6.nd) (bF (aL 6 n6.nd) cZ)))) (aD (a9 (bx (kY (f8 hr)) (af 5) (aB (bI (aZ hr) (af 0) (af 4)) aq) (bj _)) .(M) bc) (aD (C0 7 8 rfl n6.nd (aj (af 3) (aj (af 4) aw))) (aD (a9 (bx di (aB (bI (aZ hr) (af 0) (af 4)) aq) (af 6) (bj _)) (aC (C0 7 8 rfl n6.nd (aj (af 4) (aj (af 3) aw)))) bc) (aD (bw 9 n6.nd (b6 (bI (aZ hr) (af 1) (af 7)) (dC (zQ V) hr (aj (af 2) (aj (af 5) (aj (af 7) (aj (af 8) aw)))) ln4))) (aC (aJ (Oc (eJ (mR (f8 hr)) (aB (bI (aZ hr) (af 0) (af 7)) aq) (aB (bI (aZ hr) (af 0) (af 8)) aq) (bj _)) (fL (eJ di (aB (bI (aZ hr) (af 0) (af 8)) aq) (af 9) (bj _)))))))))))
theorem GR:Cal .(n) P w K mg base "_law_at_once" 4 1 pQ:=
 V.d46.cal (k:=0) LF .(b) fun f cdv A outer s H E hr=>
  (aC (aJ (eG (eJ di (aB (bI (aZ hr) (af 0) (af 2)) aq) (bI (aZ hr) (af 1) (af 3)) (bj _)) (fL (eJ di (aB (bI (aZ hr) (af 0) (af 3)) aq) (bI (aZ hr) (af 1) (af 2)) (bj _))))))
theorem Nq:Cal .(n) P w K mg base "_law_pair_stands" 5 3 mH:=
 V.d47.cal (k:=2) Ae .(b) fun f cdv A outer s H E hr=>
  (aD (a9 (bL (dC (Hi V) hr (aj (af 0) (aj (af 1) (aj (af 2) (aj (af 3) (aj (af 4) aw))))) ln5)) .(M) bc) (aD (b7 ca rfl (bB (aB (af 2) aq)) (aL 5 Ae.nd) (aC (a9 (DW.dt (fS (bx (mI (aZ hr)) (af 3) (aB (af 5) aq) (by rfl)) (gd (bx (mI (aZ hr)) (af 4) (aB (af 5) aq) (by rfl))))) (aC (a9 (bL (dC (GR V) hr (aj (af 0) (aj (af 1) (aj (af 3) (aj (af 4) aw)))) ln4)) .(M) bc)) bc))) .(M)))
theorem HD:Cal .(n) P w K mg base "_law_fits" 3 4 vQ:=
 V.d48.cal (k:=3) vf .(b) fun f cdv A outer s H E hr=>
  (aD (bw 3 vf.nd (dC (wA V) hr (aj (af 0) .(W)) ln2)) (aD (a9 (DW.dt (cJ (bx kX (bI (aZ hr) (af 3) (af 2)) (aB (af 1) aq) (bj _)) (cJ (bL (dC (FP V) hr (aj (af 0) (aj (af 3) (aj (af 1) (aj (af 2) aw)))) ln4)) (c9 (bL (dC (Fg V) hr (aj (af 0) (aj (af 3) (aj (af 1) (aj (af 2) aw)))) ln4)))))) .(M) bc) (aD (b7 ca rfl (rh (af 0)) (aL 4 vf.nd) (aC (a9 (bx (kY (f8 hr)) (af 4) (af 2) (bj _)) (aC (a9 (bV (bL (dC (Nq V) hr (aj (af 0) (aj (af 3) (aj (af 1) (aj (af 2) (aj (af 4) aw))))) ln5))) .(M) bc)) bc))) .(M))))
theorem HX:Cal .(n) P w K mg base "_law_put" 4 5 tS:=
 V.d49.cal (k:=4) nQ .(b) fun f cdv A outer s H E hr=>
  (aD (b7 ca rfl (bB (aB (af 2) aq)) (c4 (n:=2) rfl (bF (aL 4 nQ.nd) (bF (aL 5 nQ.nd) cZ))) (aC (b7 ca rfl (AB rfl V.z_range (aj (af 3) (aj (b5 (tz rfl) rfl V.z_min (by rfl) (aj (aB (af 1) aq) (aj (b6 (af 3) aq) aw))) aw))) (aL 6 nQ.nd) (aD (wq 7 nQ.nd rfl rfl V.z_dict (af 0)) (aD (lX 7 (aZ hr) (aB (af 2) aq) (cK (aj (af 4) (aj (af 6) aw)))) (pX 7 (aC (a9 (bL (dC (HD V) hr (aj (af 7) (aj (af 1) (aj (aB (af 2) aq) aw))) ln3)) (aC (aJ (af 7))) bc)))))))) (aD (wq 7 nQ.nd rfl rfl V.z_dict (af 0)) (aD (lX 7 (aZ hr) (aB (af 2) aq) (cK (aj (aB (aB (aB (af 2) aq) aq) aq) (aj (af 3) aw)))) (pX 7 (aC (aJ (af 7)))))))
theorem Pn:Cal .(n) P w K mg base "_law_built" 1 6 wl:=
 V.d50.cal (k:=5) pY .(b) fun f cdv A outer s H E hr=>
  (aD (bw 1 pY.nd GL) (aD (b7 ca rfl (bB .(s)) (aL 2 pY.nd) (aD (bw 3 pY.nd (dC (J0 V) hr (aj (af 0) (aj (dC (wA V) hr (aj (af 1) (aj (af 0) aw)) ln2) (aj (aB (af 2) aq) aw))) ln3)) (aC (bw 1 pY.nd (dC (HX V) hr (aj (af 1) (aj (af 0) (aj (af 2) (aj (af 3) aw)))) ln4))))) (aC (aJ (af 1)))))
theorem Lz:Cal .(n) P w K mg base "_law_changed" 3 2 sw:=
 V.d51.cal (k:=1) jx .(b) fun f cdv A outer s H E hr=>
  (aD (wq 3 jx.nd rfl rfl V.z_dict (af 0)) (aD (b7 ca rfl (l9 rfl V.z_range (aj (dj (af 2) aq) aw)) (aL 4 jx.nd) (aD (bw 5 jx.nd (dC (mv V) hr (aj (mC (af 2) aq) (aj (af 4) (aj (DO.de (dv (aj (b5 fR rfl V.z_len (by rfl) (aj (aB (af 1) aq) aw)) (aj aq (aj aq aw))))) aw))) ln3)) (aD (qZ (aB (aB (af 1) aq) (aB (af 5) aq)) (c4 (n:=3) rfl (bF (aL 6 jx.nd) (bF (aL 7 jx.nd) (bF (aL 8 jx.nd) cZ))))) (aD (qZ (JU 3 (aZ hr) (af 6)) (c4 (n:=2) rfl (bF (aL 9 jx.nd) (bF (aL 10 jx.nd) cZ)))) (aD (a9 (bx g0 (aB (af 5) aq) aq (bj _)) (aC (bw 9 jx.nd (aB (aB (af 8) (dj (aB (af 5) aq) (b5 fR rfl V.z_len (by rfl) (aj (af 8) aw)))) aq))) bc) (aC (lX 3 (aZ hr) (af 6) (cK (aj (af 9) (aj (pC (b6 (af 10) (aB (af 5) aq)) aq) aw)))))))))) (pX 3 (aC (aJ (af 3))))))
theorem n4:CalM .(n) P w K mg base "Shop" "step_names" 1 1 kf:=
 DfnM.cal (k:=0) V.O_Shop V.d52 FJ .(b) fun f cdv A outer s H E hr=>
  (aC (aJ (DO.de (cz rfl .(o) (FvOk.of (N':=["row"]) (fv:=[ab]) rfl) (bB (jp V.cf_Shop (.tail _ (.head _)) (af 0))) ⟨fun _ _ _ _ _=>⟨.(Q),cw,.(s)⟩⟩))))
theorem GU:Cal .(n) P w K mg base "broken_step" 2 2 vJ:=
 V.d53.cal (k:=1) tZ .(b) fun f cdv A outer s H E hr=>
  (aD (bw 2 tZ.nd (iW (n4 V) hr .(h) (af 0))) (aD (b7 ca rfl (bB (af 2)) (aL 3 tZ.nd) (aC (a9 (bx (OK (aZ hr)) (af 3) (af 1) (by rfl)) (aC (aJ (cK (aj dA (aj (af 3) aw))))) bc))) (aD (nB 4 tZ.nd rfl .(o) (FvOk.of (N':=["name","names"]) (fv:=[ab,aa 2]) rfl) (rh (af 1)) ⟨fun _ _ _ _ _=>⟨(aL 0 (show(["name","names"]:ac ah).Nodup by decide +kernel)),(mi (bx (vI (aZ hr)) (af 0) (af 1) (by rfl))),(af 0)⟩⟩) (aD (a9 (bx kX (b5 fR rfl V.z_len (by rfl) (aj (af 4) aw)) aq (bj _)) (aC (aJ (cK (aj dA (aj (b5 (JQ rfl) rfl V.z_min (by rfl) (aj (af 4) aw)) aw))))) bc) (aC (aJ dS))))))
theorem Kc:CalM .(n) P w K mg base "Shop" "ways_of" 2 9 uw:=
 DfnM.cal (k:=8) V.O_Shop V.d54 M4 .(b) fun f cdv A outer s H E hr=>
  (aC (aJ (dC (f9 V) hr (aj (aB (bI (aZ hr) (jp V.cf_Shop (.tail _ (.tail _ .(m))) (af 0)) (af 1)) aq) aw) ln1)))
theorem zJ:Cal .(n) P w K mg base "length_on" 3 10 pZ:=
 V.d55.cal (k:=9) vc .(b) fun f cdv A outer s H E hr=>
  (aD (b7 ca rfl (bB (nR (Kc V) hr .(h) (af 0) .(W) ln1)) (c4 (n:=2) rfl (bF (aL 3 vc.nd) (bF (aL 4 vc.nd) cZ))) (aC (a9 (bx (mR (f8 hr)) (af 3) (af 2) (bj _)) (aC (aJ (af 4))) bc))) (aC (aJ dS)))
theorem FI:CalM .(n) P w K mg base "Shop" "last_moment" 1 1 tp:=
 DfnM.cal (k:=0) V.O_Shop V.d56 Oh .(b) fun f cdv A outer s H E hr=>
  (aC (aJ (jp V.cf_Shop .(m) (af 0))))
theorem JW:Cal .(n) P w K mg base "broken_way" 2 11 xy:=
 V.d57.cal (k:=10) sM .(b) fun f cdv A outer s H E hr=>
  (aD (b7 ca rfl (bB (iW (n4 V) hr .(h) (af 0))) (aL 2 sM.nd) (aD (bw 3 sM.nd (aB (bI (aZ hr) (af 1) (af 2)) aq)) (aD (bw 4 sM.nd (dC (zJ V) hr (aj (af 0) (aj (af 2) (aj (aB (bI (aZ hr) (af 1) (af 2)) aq) aw))) ln3)) (aC (a9 (DW.dt (cJ (bx lw (af 4) dS (bj _)) (cJ (bx di (af 3) aq (bj _)) (c9 (bx kX (b6 (af 3) (af 4)) (iW (FI V) hr .(h) (af 0)) (bj _)))))) (aC (aJ (cK (aj dA (aj (af 2) aw))))) bc))))) (aC (aJ dS)))
theorem Gp:Cal .(n) P w K mg base "ends_of" 2 11 xN:=
 V.d58.cal (k:=10) sy .(b) fun f cdv A outer s H E hr=>
  (aD (uk 2 sy.nd) (aD (b7 ca rfl (bB (iW (n4 V) hr .(h) (af 0))) (aL 3 sy.nd) (aD (bw 4 sy.nd (bI (aZ hr) (af 1) (af 3))) (aC (lX 2 (aZ hr) (af 3) (b6 (aB (af 4) aq) (dC (zJ V) hr (aj (af 0) (aj (af 3) (aj (aB (af 4) aq) aw))) ln3)))))) (pX 2 (aC (aJ (af 2))))))
theorem OW:CalM .(n) P w K mg base "Shop" "job_of" 2 9 wb:=
 DfnM.cal (k:=8) V.O_Shop V.d59 O0 .(b) fun f cdv A outer s H E hr=>
  (aC (aJ (dC (f9 V) hr (aj (Gv (aZ hr) (jp V.cf_Shop (.tail _ (.tail _ (.tail _ (.tail _ .(m))))) (af 0)) (af 1)) aw) ln1)))
theorem Fd:Cal .(n) P w K mg base "broken_job" 3 10 vU:=
 V.d60.cal (k:=9) wD .(b) fun f cdv A outer s H E hr=>
  (aD (b7 ca rfl (bB (iW (n4 V) hr .(h) (af 0))) (aL 3 wD.nd) (aD (bw 4 wD.nd (nR (OW V) hr .(h) (af 0) (aj (af 3) aw) ln1)) (aC (a9 (DW.dt (fS (bx xH (af 4) dS (bj _)) (gd (DW.dt (cJ (bx di (aB (bI (aZ hr) (af 1) (af 3)) aq) (aB (af 4) aq) (bj _)) (c9 (bx kX (bI (aZ hr) (af 2) (af 3)) (aB (af 4) aq) (bj _)))))))) (aC (aJ (cK (aj dA (aj (af 3) aw))))) bc)))) (aC (aJ dS)))
theorem He:CalM .(n) P w K mg base "Shop" "breaks_of" 2 9 xb:=
 DfnM.cal (k:=8) V.O_Shop V.d61 NI .(b) fun f cdv A outer s H E hr=>
  (aC (aJ (dC (f9 V) hr (aj (aB (bI (aZ hr) (jp V.cf_Shop (.tail _ .(m)) (af 0)) (af 1)) aq) aw) ln1)))
theorem L5:Cal .(n) P w K mg base "broken_break" 3 10 wQ:=
 V.d62.cal (k:=9) tq .(b) fun f cdv A outer s H E hr=>
  (aD (b7 ca rfl (bB (iW (n4 V) hr .(h) (af 0))) (aL 3 tq.nd) (aD (bw 4 tq.nd (aB (bI (aZ hr) (af 1) (af 3)) aq)) (aD (bw 5 tq.nd (nR (He V) hr .(h) (af 0) (aj (aB (bI (aZ hr) (af 1) (af 3)) aq) aw) ln1)) (aC (a9 (bL (b5 (Pd rfl) rfl V.z_any (by rfl) (aj (DO.de (cz rfl .(o) (FvOk.of (N':=["begin","until","start","ends","step"]) (fv:=[ab,ab,aa 4,aa 2,aa 3]) rfl) (bB (af 5)) ⟨fun _ _ _ _ _=>⟨(c4 (n:=2) rfl (bF (aL 0 (show(["begin","until","start","ends","step"]:ac ah).Nodup by decide +kernel)) (bF (aL 1 (show(["begin","until","start","ends","step"]:ac ah).Nodup by decide +kernel)) cZ))),cw,(eG (eJ di (af 2) (af 1) (bj _)) (fL (eJ di (af 0) (bI (aZ hr) (af 3) (af 4)) (bj _))))⟩⟩)) aw))) (aC (aJ (cK (aj dA (aj (af 3) aw))))) bc))))) (aC (aJ dS)))
theorem Dd:Cal .(n) P w K mg base "pairs_of" 1 1 sR:=
 V.d63.cal (k:=0) sW .(b) fun f cdv A outer s H E hr=>
  (aD (iH 1 sW.nd (dv aw)) (aD (b7 ca rfl (kT rfl V.z_enumerate (af 0)) (c4 (n:=2) rfl (bF (aL 2 sW.nd) (bF (aL 3 sW.nd) cZ))) (aC (wS 1 (DO.de (cz rfl .(o) (FvOk.of (N':=["other","one"]) (fv:=[ab,aa 3]) rfl) (bB (fO (af 0) (fA (b6 (af 2) aq)) fY)) ⟨fun _ _ _ _ _=>⟨(aL 0 (show(["other","one"]:ac ah).Nodup by decide +kernel)),cw,(cK (aj (af 1) (aj (af 0) aw)))⟩⟩))))) (hG 1 (aC (aJ (af 1))))))
theorem Iu:CalM .(n) P w K mg base "Shop" "setup_of" 4 1 sB:=
 DfnM.cal (k:=0) V.O_Shop V.d64 J9 .(b) fun f cdv A outer s H E hr=>
  (aC (aJ (AT (aZ hr) (jp V.cf_Shop (.tail _ (.tail _ (.tail _ .(m)))) (af 0)) (cK (aj (af 1) (aj (af 2) (aj (af 3) aw)))) aq)))
theorem Ag:CalM .(n) P w K mg base "Shop" "kind_of" 2 1 nM:=
 DfnM.cal (k:=0) V.O_Shop V.d65 Ls .(b) fun f cdv A outer s H E hr=>
  (aC (aJ (aB (bI (aZ hr) (jp V.cf_Shop (.tail _ (.tail _ .(m))) (af 0)) (af 1)) aq)))
theorem K3:Cal .(n) P w K mg base "are_too_close" 5 2 tf:=
 V.d66.cal (k:=1) ou .(b) fun f cdv A outer s H E hr=>
  (aD (bw 5 ou.nd (af 3)) (aD (bw 6 ou.nd (af 4)) (aD (a9 (bx di (aB (bI (aZ hr) (af 1) (af 4)) aq) (aB (bI (aZ hr) (af 1) (af 3)) aq) (bj _)) (aD (bw 5 ou.nd (af 4)) (aC (bw 6 ou.nd (af 3)))) bc) (aD (bw 7 ou.nd (nR (Iu V) hr .(h) (af 0) (aj (aB (bI (aZ hr) (af 1) (af 3)) aq) (aj (nR (Ag V) hr .(h) (af 0) (aj (af 5) aw) ln1) (aj (nR (Ag V) hr .(h) (af 0) (aj (af 6) aw) ln1) aw))) ln3)) (aC (aJ (eJ di (aB (bI (aZ hr) (af 1) (af 6)) aq) (b6 (bI (aZ hr) (af 2) (af 5)) (af 7)) (bj _))))))))
theorem JN:Cal .(n) P w K mg base "broken_bench" 3 3 wV:=
 V.d67.cal (k:=2) vg .(b) fun f cdv A outer s H E hr=>
  (aD (b7 ca rfl (bB (dC (Dd V) hr (aj (iW (n4 V) hr .(h) (af 0)) aw) ln1)) (c4 (n:=2) rfl (bF (aL 3 vg.nd) (bF (aL 4 vg.nd) cZ))) (aC (a9 (DW.dt (fS (bx (mR (f8 hr)) (aB (bI (aZ hr) (af 1) (af 3)) aq) (aB (bI (aZ hr) (af 1) (af 4)) aq) (bj _)) (gd (bL (dC (K3 V) hr (aj (af 0) (aj (af 1) (aj (af 2) (aj (af 3) (aj (af 4) aw))))) ln5))))) (aC (aJ (cK (aj dA (aj (af 3) (aj (af 4) aw)))))) bc))) (aC (aJ dS)))
theorem J4:CalM .(n) P w K mg base "Shop" "job_rows" 1 9 xX:=
 DfnM.cal (k:=8) V.O_Shop V.d68 Gr .(b) fun f cdv A outer s H E hr=>
  (aC (aJ (dC (f9 V) hr (aj (jp V.cf_Shop (.tail _ (.tail _ (.head _))) (af 0)) aw) ln1)))
theorem Pe:Cal .(n) P w K mg base "broken_apart" 3 10 xq:=
 V.d69.cal (k:=9) nv .(b) fun f cdv A outer s H E hr=>
  (aD (b7 ca rfl (bB (iW (J4 V) hr .(h) (af 0))) (aL 3 nv.nd) (aC (b7 ca rfl (bB (dC (Dd V) hr (aj (aB (af 3) aq) aw) ln1)) (c4 (n:=2) rfl (bF (aL 4 nv.nd) (bF (aL 5 nv.nd) cZ))) (aD (bw 6 nv.nd (eJ vH (aB (bI (aZ hr) (af 1) (af 5)) aq) (bI (aZ hr) (af 2) (af 4)) (bj _))) (aD (bw 7 nv.nd (eJ vH (aB (bI (aZ hr) (af 1) (af 4)) aq) (bI (aZ hr) (af 2) (af 5)) (bj _))) (aC (a9 (DW.dt (fS (bV (bL (af 6))) (gd (DW.dt (cJ (bL (aB (af 3) aq)) (c9 (bV (bL (af 7))))))))) (aC (aJ (cK (aj dA (aj (af 4) (aj (af 5) aw)))))) bc))))))) (aC (aJ dS)))
theorem LG:CalM .(n) P w K mg base "Shop" "link_rows" 1 9 we:=
 DfnM.cal (k:=8) V.O_Shop V.d70 Fi .(b) fun f cdv A outer s H E hr=>
  (aC (aJ (dC (f9 V) hr (aj (jp V.cf_Shop (.tail _ (.tail _ (.tail _ (.tail _ (.head _))))) (af 0)) aw) ln1)))
theorem Gn:Cal .(n) P w K mg base "broken_link" 3 10 wO:=
 V.d71.cal (k:=9) tO .(b) fun f cdv A outer s H E hr=>
  (aD (b7 ca rfl (bB (iW (LG V) hr .(h) (af 0))) (c4 (n:=3) rfl (bF (aL 3 tO.nd) (bF (aL 4 tO.nd) (bF (aL 5 tO.nd) cZ)))) (aC (a9 (bx di (aB (bI (aZ hr) (af 1) (af 4)) aq) (b6 (bI (aZ hr) (af 2) (af 3)) (af 5)) (bj _)) (aC (aJ (cK (aj dA (aj (af 3) (aj (af 4) aw)))))) bc))) (aC (aJ dS)))
theorem OZ:CalM .(n) P w K mg base "Shop" "stock_rows" 1 9 xF:=
 DfnM.cal (k:=8) V.O_Shop V.d72 JE .(b) fun f cdv A outer s H E hr=>
  (aC (aJ (dC (f9 V) hr (aj (jp V.cf_Shop (.tail _ (.tail _ (.tail _ (.tail _ (.tail _ (.head _)))))) (af 0)) aw) ln1)))
theorem Mb:Cal .(n) P w K mg base "level_at" 4 1 sH:=
 V.d73.cal (k:=0) xp .(b) fun f cdv A outer s H E hr=>
  (aD (bw 4 xp.nd (b5 (sr rfl) rfl V.z_sum (by rfl) (aj (DO.de (cz rfl .(o) (FvOk.of (N':=["step","amount","moment","schedule"]) (fv:=[ab,ab,aa 3,aa 1]) rfl) (bB .(s)) ⟨fun _ _ _ _ _=>⟨(c4 (n:=2) rfl (bF (aL 0 (show(["step","amount","moment","schedule"]:ac ah).Nodup by decide +kernel)) (bF (aL 1 (show(["step","amount","moment","schedule"]:ac ah).Nodup by decide +kernel)) cZ))),(mi (bx fB (aB (bI (aZ hr) (af 3) (af 0)) aq) (af 2) (bj _))),(af 1)⟩⟩)) aw))) (aD (bw 5 xp.nd (b5 (sr rfl) rfl V.z_sum (by rfl) (aj (DO.de (cz rfl .(o) (FvOk.of (N':=["step","amount","moment","ends"]) (fv:=[ab,ab,aa 3,aa 2]) rfl) (bB .(s)) ⟨fun _ _ _ _ _=>⟨(c4 (n:=2) rfl (bF (aL 0 (show(["step","amount","moment","ends"]:ac ah).Nodup by decide +kernel)) (bF (aL 1 (show(["step","amount","moment","ends"]:ac ah).Nodup by decide +kernel)) cZ))),(mi (bx fB (bI (aZ hr) (af 3) (af 0)) (af 2) (bj _))),(af 1)⟩⟩)) aw))) (aC (aJ (b6 (pC .(s) (af 4)) (af 5))))))
theorem LS:Cal .(n) P w K mg base "broken_stock" 3 10 xV:=
 V.d74.cal (k:=9) sX .(b) fun f cdv A outer s H E hr=>
  (aD (b7 ca rfl (bB (iW (OZ V) hr .(h) (af 0))) (aL 3 sX.nd) (aD (Jb 4 sX.nd rfl .(o) (FvOk.of (N':=["row","schedule"]) (fv:=[ab,aa 1]) rfl) (bB (aB (af 3) aq)) ⟨fun _ _ _ _ _=>⟨(aL 0 (show(["row","schedule"]:ac ah).Nodup by decide +kernel)),cw,(aB (bI (aZ hr) (af 1) .(s)) aq)⟩⟩) (aD (wS 4 (DO.de (cz rfl .(o) (FvOk.of (N':=["row","ends"]) (fv:=[ab,aa 2]) rfl) (bB (aB (af 3) aq)) ⟨fun _ _ _ _ _=>⟨(aL 0 (show(["row","ends"]:ac ah).Nodup by decide +kernel)),cw,(bI (aZ hr) (af 1) .(s))⟩⟩))) (hG 4 (aC (b7 ca rfl (bB (Jy rfl rfl V.z_sorted rfl V.z_set (af 4))) (aL 5 sX.nd) (aC (a9 (bV (Bf fB fB aq (dC (Mb V) hr (aj (af 3) (aj (af 1) (aj (af 2) (aj (af 5) aw)))) ln4) (aB (af 3) aq))) (aC (aJ (cK (aj dA (aj (aB (af 3) aq) (aj (af 5) aw)))))) bc)))))))) (aC (aJ dS)))
theorem Ic:Cal .(n) P w K mg base "first_broken" 2 12 mo:=
 V.d75.cal (k:=11) jC .(b) fun f cdv A outer s H E hr=>
  (aD (bw 2 jC.nd (dC (GU V) hr (aj (af 0) .(W)) ln2)) (aD (a9 (bx lw (af 2) dS (bj _)) (aC (bw 2 jC.nd (dC (JW V) hr (aj (af 0) .(W)) ln2))) bc) (aD (a9 (bx xH (af 2) dS (bj _)) (aC (aJ (af 2))) bc) (aD (bw 3 jC.nd (dC (Gp V) hr (aj (af 0) .(W)) ln2)) (aD (bw 2 jC.nd (dC (Fd V) hr (aj (af 0) (aj (af 1) (aj (af 3) aw))) ln3)) (aD (a9 (bx lw (af 2) dS (bj _)) (aC (bw 2 jC.nd (dC (L5 V) hr (aj (af 0) (aj (af 1) (aj (af 3) aw))) ln3))) bc) (aD (a9 (bx lw (af 2) dS (bj _)) (aC (bw 2 jC.nd (dC (JN V) hr (aj (af 0) (aj (af 1) (aj (af 3) aw))) ln3))) bc) (aD (a9 (bx lw (af 2) dS (bj _)) (aC (bw 2 jC.nd (dC (Pe V) hr (aj (af 0) (aj (af 1) (aj (af 3) aw))) ln3))) bc) (aD (a9 (bx lw (af 2) dS (bj _)) (aC (bw 2 jC.nd (dC (Gn V) hr (aj (af 0) (aj (af 1) (aj (af 3) aw))) ln3))) bc) (aD (a9 (bx lw (af 2) dS (bj _)) (aC (bw 2 jC.nd (dC (LS V) hr (aj (af 0) (aj (af 1) (aj (af 3) aw))) ln3))) bc) (aC (aJ (af 2)))))))))))))
theorem Lx:Cal .(n) P w K mg base "_law_waited" 4 2 ug:=
 V.d76.cal (k:=1) j4 .(b) fun f cdv A outer s H E hr=>
  (aD (qZ (bI (aZ hr) (af 0) (af 3)) (c4 (n:=2) rfl (bF (aL 4 j4.nd) (bF (aL 5 j4.nd) cZ)))) (aD (b7 ca rfl (rh (af 0)) (aL 6 j4.nd) (aC (a9 (DW.dt (fS (bx (kY (f8 hr)) (af 6) (af 3) (bj _)) (fS (bx (mR (f8 hr)) (aB (bI (aZ hr) (af 0) (af 6)) aq) (af 4) (bj _)) (gd (bx di (aB (bI (aZ hr) (af 0) (af 6)) aq) (af 5) (bj _)))))) (aC (a9 (bx di (af 5) (b6 (bI (aZ hr) (af 1) (af 6)) (dC (zQ V) hr (aj (af 2) (aj (af 4) (aj (af 6) (aj (af 3) aw)))) ln4)) (bj _)) .(M) bc)) bc))) (aD (b7 ca rfl (bB (aB (af 2) aq)) (c4 (n:=3) rfl (bF (aL 7 j4.nd) (bF (aL 6 j4.nd) (bF (aL 8 j4.nd) cZ)))) (aC (a9 (DW.dt (fS (bx (mR (f8 hr)) (af 6) (af 3) (bj _)) (gd (bx di (af 5) (b6 (bI (aZ hr) (af 1) (af 7)) (af 8)) (bj _))))) .(M) bc))) (aD (b7 ca rfl (bB (aB (af 2) aq)) (aL 9 j4.nd) (aC (a9 (DW.dt (fS (bL (aB (af 9) aq)) (gd (bx (mI (aZ hr)) (af 3) (aB (af 9) aq) (by rfl))))) (aC (b7 ca rfl (bB (fO (aB (af 9) aq) fY (fA (AO yK ES Rb zW (aB (af 9) aq) (aj (af 3) aw))))) (aL 7 j4.nd) (aC (a9 (bx di (af 5) (bI (aZ hr) (af 1) (af 7)) (bj _)) .(M) bc)))) bc))) .(M)))))
theorem Mu:Cal .(n) P w K mg base "_law_at_work" 4 1 pp:=
 V.d77.cal (k:=0) l7 .(b) fun f cdv A outer s H E hr=>
  (aD (uk 4 l7.nd) (aD (uk 5 l7.nd) (aD (b7 ca rfl (rh (af 0)) (aL 6 l7.nd) (aC (a9 (DW.dt (fS (bx fB (aB (bI (aZ hr) (af 0) (af 6)) aq) (af 3) (bj _)) (gd (bx di (af 3) (bI (aZ hr) (af 1) (af 6)) (bj _))))) (aD (b7 ca rfl (bB (bI (aZ hr) (jy (nP rfl (aZ hr)) rfl V.z_dict (by rfl) (aj (aB (af 2) aq) aw)) (aB (bI (aZ hr) (af 0) (af 6)) aq))) (c4 (n:=2) rfl (bF (aL 7 l7.nd) (bF (aL 8 l7.nd) cZ))) (aC (a9 (DW.dt (fS (bx fB (af 7) (af 3) (bj _)) (gd (bx di (af 3) (af 8) (bj _))))) .(M) bc))) (aD (a9 (Ai 4 (bx (sA (aZ hr)) (aB (bI (aZ hr) (af 0) (af 6)) aq) (af 4) (by rfl))) .(M) bc) (aD (lX 4 (aZ hr) (aB (bI (aZ hr) (af 0) (af 6)) aq) (af 6)) (aC (b7 ca rfl (bB (aB (af 2) aq)) (aL 9 l7.nd) (aC (a9 (bx (mI (aZ hr)) (af 6) (aB (af 9) aq) (by rfl)) (aD (a9 (Ai 5 (DW.dt (cJ (bx (sA (aZ hr)) (aB (af 9) aq) (af 5) (by rfl)) (cJ (bx di (af 3) (aB (af 9) aq) (bj _)) (c9 (bx vH (af 3) (aB (af 9) aq) (bj _))))))) .(M) bc) (aC (lX 5 (aZ hr) (aB (af 9) aq) (af 6)))) bc))))))) bc))) .(M))))
theorem Hj:Cal .(n) P w K mg base "_law_stocked" 4 1 tU:=
 V.d78.cal (k:=0) lg .(b) fun f cdv A outer s H E hr=>
  (aD (b7 ca rfl (bB (aB (af 2) aq)) (c4 (n:=5) rfl (bF (aL 4 lg.nd) (bF (aL 5 lg.nd) (bF (aL 6 lg.nd) (bF (aL 7 lg.nd) (bF (aL 8 lg.nd) cZ)))))) (aD (bw 9 lg.nd (pC (af 5) (b5 (sr rfl) rfl V.z_sum (by rfl) (aj (DO.de (cz rfl .(o) (FvOk.of (N':=["_law_step","_law_amount","_law_moment","_law_plan"]) (fv:=[ab,ab,aa 3,aa 0]) rfl) (bB (af 7)) ⟨fun _ _ _ _ _=>⟨(c4 (n:=2) rfl (bF (aL 0 (show(["_law_step","_law_amount","_law_moment","_law_plan"]:ac ah).Nodup by decide +kernel)) (bF (aL 1 (show(["_law_step","_law_amount","_law_moment","_law_plan"]:ac ah).Nodup by decide +kernel)) cZ))),(mi (bx fB (aB (bI (aZ hr) (af 3) (af 0)) aq) (af 2) (bj _))),(af 1)⟩⟩)) aw)))) (aD (bw 9 lg.nd (b6 (af 9) (b5 (sr rfl) rfl V.z_sum (by rfl) (aj (DO.de (cz rfl .(o) (FvOk.of (N':=["_law_step","_law_amount","_law_moment","_law_ends_here"]) (fv:=[ab,ab,aa 3,aa 1]) rfl) (bB (af 8)) ⟨fun _ _ _ _ _=>⟨(c4 (n:=2) rfl (bF (aL 0 (show(["_law_step","_law_amount","_law_moment","_law_ends_here"]:ac ah).Nodup by decide +kernel)) (bF (aL 1 (show(["_law_step","_law_amount","_law_moment","_law_ends_here"]:ac ah).Nodup by decide +kernel)) cZ))),(mi (bx fB (bI (aZ hr) (af 3) (af 0)) (af 2) (bj _))),(af 1)⟩⟩)) aw)))) (aC (a9 (DW.dt (cJ (bx di (af 9) aq (bj _)) (c9 (bx kX (af 9) (af 6) (bj _))))) .(M) bc))))) .(M))
theorem Kp:Cal .(n) P w K mg base "_law_keeps" 2 3 pK:=
 V.d79.cal (k:=2) sN .(b) fun f cdv A outer s H E hr=>
  (aD (bw 2 sN.nd (dC (wA V) hr (aj (af 0) .(W)) ln2)) (aD (b7 ca rfl (rh (af 0)) (aL 3 sN.nd) (aD (a9 (DW.dt (cJ (bx di (aB (bI (aZ hr) (af 0) (af 3)) aq) aq (bj _)) (c9 (bx kX (bI (aZ hr) (af 2) (af 3)) (aB (af 1) aq) (bj _))))) .(M) bc) (aC (a9 (bV (bL (dC (Lx V) hr (aj (af 0) (aj (af 2) (aj (af 1) (aj (af 3) aw)))) ln4))) .(M) bc)))) (aD (b7 ca rfl (l9 rfl V.z_range (aj (b6 (aB (af 1) aq) aq) aw)) (aL 4 sN.nd) (aD (a9 (bV (bL (dC (Mu V) hr (aj (af 0) (aj (af 2) (aj (af 1) (aj (af 4) aw)))) ln4))) .(M) bc) (aC (a9 (bV (bL (dC (Hj V) hr (aj (af 0) (aj (af 2) (aj (af 1) (aj (af 4) aw)))) ln4))) .(M) bc)))) .(M))))
theorem Iv  (f:av) (cdv:Value) (A:eF) (outer:ac dc) (s:aG) (H:Hp) (E:XK) (hr:Room 12 (A.deeper (fy "law" (aU (top 92)) s.heap.objs.size f cdv))):DSs .(n) (hU CX0 P w K mg base ["_law_script","_law_horizon","_law_lists_here","_law_shop_here","_law_plan","_law_cell_here","_law_made"] "law" (aU (top 92)) f cdv A outer s H E).nox (eO (top 92)) Dk:=
  (aD (bw 1 mD.nd (b6 aq (dj (dC (iZ V) hr (aj (af 0) (aj aq aw)) ln2) aq))) (aD (bw 2 mD.nd (dC (GF V) hr (aj (af 0) (aj (b6 aq (dj (dC (iZ V) hr (aj (af 0) (aj aq aw)) ln2) aq)) (aj (af 1) (aj aq aw)))) ln4)) (aD (bw 3 mD.nd (dC (Iw V) hr (aj (af 2) aw) ln1)) (aD (bw 4 mD.nd (dC (Pn V) hr (aj (af 2) aw) ln1)) (aD (b7 ca rfl (bB (b6 (DO.de (dv (aj aq (aj (dC (iZ V) hr (aj (af 0) (aj aq aw)) ln2) aw)))) (fO (af 0) (fA aq) (fA aq)))) (aL 5 mD.nd) (aD (bw 6 mD.nd (dC (Lz V) hr (aj (af 4) (aj (af 2) (aj (af 5) aw))) ln3)) (aC (a9 (bx (kY (f8 hr)) (eJ lw (dC (Ic V) hr (aj (af 3) (aj (af 6) aw)) ln2) dS (bj _)) (dC (Kp V) hr (aj (af 6) (aj (af 2) aw)) ln2) (bj _)) .(M) bc)))) .(M))))))
end
theorem i2:gc "int" "int"=aa ai:=rfl
theorem i3:gc "int" "bool"=aa ao:=rfl
theorem i5:gc "bool" "bool"=aa ai:=rfl
theorem k1:gc "list" "list"=aa ai:=rfl
theorem k2:gc "tuple" "list"=aa ao:=rfl
theorem k3:gc "tuple" "tuple"=aa ai:=rfl
theorem k4:gc "str" "list"=aa ao:=rfl
theorem k5:gc "str" "tuple"=aa ao:=rfl
theorem k6:gc "int" "list"=aa ao:=rfl
theorem k7:gc "int" "tuple"=aa ao:=rfl
theorem k8:gc "bool" "list"=aa ao:=rfl
theorem k9:gc "bool" "tuple"=aa ao:=rfl
theorem k10:gc "NoneType" "list"=aa ao:=rfl
theorem k11:gc "NoneType" "tuple"=aa ao:=rfl
theorem sz1:(1<=aT)=True:=by simp[aT]
theorem sz2:(1+1<=aT)=True:=by simp[aT]
theorem sz3:(1+1+1<=aT)=True:=by simp[aT]
theorem sz4:(1+1+1+1<=aT)=True:=by simp[aT]
theorem sz5:(1+1+1+1+1<=aT)=True:=by simp[aT]
theorem sz6:(1+1+1+1+1+1<=aT)=True:=by simp[aT]
theorem sz7:(1+1+1+1+1+1+1<=aT)=True:=by simp[aT]
section
variable {x0 x1 x2 x3 x4:D} {r:ac D}
theorem li (l:ac α) (n:al):atI l (n:ag)=l[n]?:=by
 unfold atI ixN;rw[qW .(e)];by_cases h:n<l.length
 .rw[qW .(e)];simp
 .rw[qX .(e)];simp;omega
theorem cx:ixD (.tup (x0::r)) (.int 0)=aa x0:=li _ 0
theorem cy:ixD (.tup (x0::x1::r)) (.int 1)=aa x1:=li _ 1
theorem iy:ixD (.tup (x0::x1::x2::r)) (.int 2)=aa x2:=li _ 2
theorem jr:ixD (.tup (x0::x1::x2::x3::r)) (.int 3)=aa x3:=li _ 3
theorem eK:ixD (.tup (x0::x1::x2::x3::x4::r)) (.int 4)=aa x4:=li _ 4
end
theorem wJ {fe:FE} {r:bf} {f:D->D}:∀{xs:ac D} {a:ar Slot},(∀x∈xs,fe (oS x::r)=aa (f x))->gf (ay 0) tT fe xs (a::r)=aa (xs.map f)
 |[],_,_=>rfl
 |x::xs,a,h=>by have h1:=h x qg;have ih:=wJ (xs:=xs) (a:=oS x) fun y hy=>h y (qh _ hy);simp only[gf,ay,oW,qb,tT,cu,h1,ih,qe,qm]
theorem AL:∀{l:ac D},(∀x∈l,x=.bl ai)->∃bs:ac aN,i8 l=aa bs/\bs.all id=ai
 |[],_=>⟨[],rfl,rfl⟩
 |x::r,h=>by obtain⟨bs,h1,h2⟩:=AL (l:=r) fun y hy=>h y (qh _ hy);have hx:=h x qg;subst hx;exact⟨ai::bs,by simp[i8,h1],by simpa using h2⟩
theorem ie {r:bf} {a:ar Slot} (h1:fi ρ=aa xs) (h2:xs.length<=aT) (h3:fC fv ρ=a::r) (h:∀x∈xs,fe (oS x::r)=aa (.bl ai)) :
  cF fE (ae (aP (bd fi (ay 0) tT fe fv)) ak) ρ=aa (.bl ai):=by
 have c:=wJ (a:=a) (f:=fun _=>.bl ai) h;obtain⟨bs,e1,e2⟩:=AL (l:=xs.map fun _=>D.bl ai) (by simp);simp only[cF,ae,ak,aP,bd,h1,qb,qW h2,h3,c,qe,fE,e1];simpa using e2
theorem h8 {r:bf} {a:ar Slot} {f:D->D} (h1:fi ρ=aa xs) (h2:xs.length<=aT) (h3:fC fv ρ=a::r) (h:∀x∈xs,fe (oS x::r)=aa (f x)) :
  aP (bd fi (ay 0) tT fe fv) ρ=aa (.lst (xs.map f)):=by
 simp only[aP,bd,h1,qb,qW h2,h3,wJ (a:=a) h,qe]
theorem dZ (I:al->bf->Prop) (h0:I 0 ρ) (hs:∀i x ρ,xs[i]?=aa x->I i ρ->∃ρ1 ρ2,gg x ρ=aa ρ1/\body ρ1=aa (.nx,ρ2)/\I (i+1) ρ2) :
  ∃ρ',dB gg body xs ρ=aa (.nx,ρ')/\I xs.length ρ':=by
 have key:∀(ys:ac D) (k:al) (ρ:bf),xs.drop k=ys->I k ρ->∃ρ',dB gg body ys ρ=aa (.nx,ρ')/\I (k+ys.length) ρ':=by
  intro ys
  induction ys with
  |nil=>intro k ρ _ hk;exact⟨ρ,rfl,hk⟩
  |cons y r ih=>
   intro k ρ hd hk;have hy:xs[k]?=aa y:=by
    have:(xs.drop k)[0]?=aa y:=by rw[hd];rfl
    simpa using this
   obtain⟨ρ1,ρ2,h1,h2,h3⟩:=hs k y ρ hy hk;have hd':xs.drop (k+1)=r:=by rw[←List.drop_drop,hd];rfl
   obtain⟨ρ',h4,h5⟩:=ih (k+1) ρ2 hd' h3;refine⟨ρ',?_,by rw[qi];rwa [show k+1+r.length=k+(r.length+1) by omega] at h5⟩;simp only[dB,h1,qb,h2,h4]
 obtain⟨ρ',h1,h2⟩:=key xs 0 ρ rfl h0;exact⟨ρ',h1,by rwa [jR] at h2⟩
theorem xB:(2:ag) ^ 62=4611686018427387904:=by decide +kernel
theorem wn {i j:ag} (h:0<=i/\i<=1000000/\0<=j/\j<=1000000):lD [.int i,.int j]=aa ((cG (j-i).toNat).map fun k:al=>D.int (i+k)):=by unfold lD;rw[xB];exact qW ⟨by omega,by omega,by omega,by omega⟩
theorem nI {j:ag} (h:0<=j/\j<=1000000):eV [.int j]=aa ((cG j.toNat).map fun i:al=>D.int (0+i)):=by unfold eV;rw[xB];exact qW ⟨by omega,by omega⟩
theorem lv {g:ac D->ar (ac D)} {r:ac D} (h1:fr ρ=aa ds) (h2:g ds=aa r):itR g fr ρ=aa r:=by unfold itR;rw[h1];exact h2
theorem au {g:D->D->ar D} {x:D} (h1:fa ρ=aa x) (h2:fb ρ=aa y) (h3:g x y=aa z):b2 g fa fb ρ=aa z:=by unfold b2;rw[h1,qb,h2,qb];exact h3
theorem a4 {g:FQ} (h1:fr ρ=aa ds) (h2:g ds=aa z):cF g fr ρ=aa z:=by unfold cF;rw[h1];exact h2
theorem aA (h1:f ρ=aa d) (h2:fr ρ=aa ds):ae f fr ρ=aa (d::ds):=by unfold ae;rw[h1,qb,h2];rfl
theorem aR :ak ρ=aa []:=rfl
theorem xk (h:g (ds.map (fun d=>aa (Slot.sh d))++b9 n ab)=aa (.rt d,ρ')):aY n g ds=aa d:=by unfold aY;rw[h];rfl
theorem bO (ρ:bf) (e:ds.map (fun d=>aa (Slot.sh d))++b9 n ab=ρ) (h:g ρ=aa (.rt d,ρ')):aY n g ds=aa d:=by subst e;exact xk h
theorem bT (h:f ρ=aa d):aE f ρ=aa (.rt d,ρ):=by unfold aE;rw[h];rfl
theorem aX {b:aN} (h:f ρ=aa (.bl b)):toB f ρ=aa b:=by unfold toB;rw[h];rfl
theorem mT {A:FE} {X E:FS} (hA:A ρ=aa (.bl ai)):ax (sIf (bu (toB A)) X aH) E ρ=E ρ:=by simp only[ax,sIf,bu,aX hA,qe,qb,iq,qq,c6,aH]
theorem iz {A B:FE} {X E:FS} (hA:A ρ=aa (.bl ai)) (hB:B ρ=aa (.bl ai)):ax (sIf (orT (bu (toB A)) (bu (toB B))) X aH) E ρ=E ρ:=by simp only[ax,sIf,orT,bu,aX hA,aX hB,qe,qb,iq,qq,c6,aH]
theorem Lq {A B C:FE} {X E:FS} (hA:A ρ=aa (.bl ai)) (hB:B ρ=aa (.bl ai)) (hC:C ρ=aa (.bl ai)):ax (sIf (orT (bu (toB A)) (orT (bu (toB B)) (bu (toB C)))) X aH) E ρ=E ρ:=by simp only[ax,sIf,orT,bu,aX hA,aX hB,aX hC,qe,qb,iq,qq,c6,aH]
theorem BO {A B:FE} (hA:A ρ=aa (.bl ai)) (hB:B ρ=aa (.bl ai)):cD A B ρ=aa (.bl ai):=by simp only[cD,hA,hB,qb]
theorem bq (h:f ρ=aa d):ax (aM i f) g ρ=g (ρ.set i (oS d)):=by simp only[ax,aM,h,qe,qb]
theorem OP (i:ag):ux [.int i]=aa (.bl ai):=by simp only[ux,aY,aE,cD,ut,cF,ae,ak,vSh,vC,dR,tyD,qm,qM,qp,qP,b9,qc,qb,qe,lU,i2,i3]
theorem iA (i a b:ag) (h:a<=i/\i<=b):gB [.int i,.int a,.int b]=aa (.bl ai):=by simp only[gB,OP,aY,aE,cD,cF,ae,ak,vSh,chD,leD,qm,qM,qp,qP,b9,qc,qd,qb,qe,qQ h.1,qQ h.2]
theorem ji (l:ac D) (a b:ag) (h:a<=l.length/\(l.length:ag)<=b):gR [.lst l,.int a,.int b]=aa (.bl ai):=by simp only[gR,aY,aE,cD,cF,ae,ak,vSh,vC,chD,dR,tyD,b8,leD,qm,qM,qp,qP,b9,qc,qd,qb,qe,k1,qQ h.1,qQ h.2]
theorem sQ (l:ac D) (n:ag) (h:(l.length:ag)=n):fQ [.tup l,.int n]=aa (.bl ai):=by simp only[fQ,aY,aE,cD,cF,ae,ak,vSh,vC,b2,dR,tyD,b8,eqD,eqS,qm,qM,qp,qP,b9,qc,qd,qb,qe,k3,qQ h]
section
variable {a b c e:D}
theorem sP:fQ [.tup [a,b],.int 2]=aa (.bl ai):=sQ _ _ rfl
theorem Bs:fQ [.tup [a,b,c],.int 3]=aa (.bl ai):=sQ _ _ rfl
theorem Oj:fQ [.tup [a,b,c,d],.int 4]=aa (.bl ai):=sQ _ _ rfl
theorem DJ:fQ [.tup [a,b,c,d,e],.int 5]=aa (.bl ai):=sQ _ _ rfl
end
noncomputable def dIv (p:ag×ag):D:=.tup [.int p.1,.int p.2]
theorem Hf (p:ag×ag) (h:ag) (h1:0<=p.1) (h2:p.1<p.2) (h3:p.2<=h):t7 [dIv p,.int h]=aa (.bl ai):=by simp only[t7,dIv,aY,ax,sIf,aE,aH,orT,bu,toB,cF,ae,ak,vSh,vC,b2,ltD,cx,cy,qm,qM,qp,qP,b9,qc,qd,qb,qe,c6,iq,qq,sP,iA p.1 0 h ⟨h1,by omega⟩,iA p.2 0 h ⟨by omega,h3⟩,qQ h2]
noncomputable def az (c:al):aN:=!ltS ⟨#[c]⟩ "a" && !ltS "z" ⟨#[c]⟩
theorem FU {c:al} (h:az c=ai):c<=122:=by
 have z:("z":ah)=⟨#[122]⟩:=by decide +kernel
 unfold az ltS at h;rw[z] at h;simp only[cS,kK,oU] at h;have h2:=h.2;rcases io 122 c with q|q
 .exact bz (show([122]:ac al) < [c] from List.Lex.rel q) h2
 .exact q
theorem OJ (c:al) (r:bf):chD leD leD (vC (.str "a")) (vSh 0) (vC (.str "z")) (oS (.str ⟨#[c]⟩)::r)=aa (.bl (az c)):=by simp only[chD,vC,vSh,qc,qb,leD,az];cases ltS ⟨#[c]⟩ "a"<;>simp
noncomputable def ba (x:ah):aN:=decide (1<=x.length) && decide (x.length<=8) && x.cps.toList.all az
theorem Ha (h:ba x=ai):1<=x.length/\x.length<=8:=by unfold ba at h;simp only[cS,dF] at h;exact h.1
theorem B1 (h:ba x=ai):∀c∈x.cps.toList,az c=ai:=by unfold ba at h;simp only[cS,rQ] at h;exact h.2
theorem lm (h:ba x=ai):iY [.str x]=aa (.bl ai):=by
 obtain⟨h1,h2⟩:=Ha h;have hz:x.length<=aT:=by unfold aT;omega
 have hl:(x.cps.toList.map fun c=>D.str ⟨#[c]⟩).length<=aT:=by simpa[rF] using hz
 have e1:decide ((1:ag)<=(x.length:al))=ai:=qQ .(e);have e2:decide (((x.length:al):ag)<=8)=ai:=qQ .(e);have ha:=ie (fi:=itS (vSh 0)) (fe:=chD leD leD (vC (.str "a")) (vSh 0) (vC (.str "z"))) (fv:=[ab]) (ρ:=[oS (.str x)]) (r:=[]) (a:=ab) (xs:=x.cps.toList.map fun c=>D.str ⟨#[c]⟩)
  (by simp[itS,vSh,wR]) hl rfl (fun y hy=>by obtain⟨c,hc,rfl⟩:=a5.mp hy;rw[OJ,B1 h c hc])
 refine xk (ρ':=[oS (.str x)]) ((iz ?_ ?_).trans (bT ha))
 .rfl
 .show chD leD leD .(d) (cF b8 .(ad)) (vC (.int 8)) [oS (.str x)]=_;simp only[cF,ae,ak,vSh,vC,chD,b8,leD,qc,qb,qe,qW hz,e1,e2]
theorem AD (h:ba x=ai):Rc x=ai:=by unfold Rc;rw[Array.all_eq_true'];intro c hc;have:=FU (B1 h c (by simpa using hc));exact qQ .(e)
theorem tW:∀(ns:ac ah),gK (ns.map D.str)=aa (ns.map fK)
 |[]=>by simp[gK]
 |x::r=>by simp[gK,pdD,tW r]
theorem lZ:∀{ns:ac ah},(∀x∈ns,ba x=ai)->lT (ns.map fK)=ai
 |[],_=>by simp[lT]
 |x::r,h=>by simp only[qm,lT,nq,AD (h x qg),ir];exact lZ fun y hy=>h y (qh _ hy)
theorem AM (x:ah):∀(ns:ac ah),((ns.map fK).any fun z=>jO z (.str x))=decide (x∈ns)
 |[]=>by simp
 |y::r=>by
  have ih:=AM x r;rw[qm,kG,ih];simp only[jO];by_cases e:y=x
  .subst e;simp
  .have:x≠y:=fun z=>e z.symm;simp[e,this]
theorem j7 (hx:ba x=ai) (hn:∀y∈ns,ba y=ai):dz (.str x) (.lst (ns.map D.str))=aa (.bl (decide (x∈ns))):=by
 have sh:eR (.str x)=ai:=by simp[eR,nq,AD hx,oX]
 simp only[dz,inX,pdD,tW,qe,qb,sh,lZ hn,u3,cu,AM]
theorem ox (hx:x∈ns) (hn:∀y∈ns,ba y=ai):kg [.str x,.lst (ns.map D.str)]=aa (.bl ai):=by simp only[kg,aY,aE,cD,cF,ae,ak,vSh,b2,qm,qM,qp,qP,b9,qc,qd,qb,qe,lm (hn x hx),j7 (hn x hx) hn,qQ hx]
theorem zp [eE κ] {l:ac κ} (h:l.Nodup):ST.dd l=l:=by
 have key:∀(l a:ac κ),(a++l).Nodup->l.foldl (fun a k=>if k∈a then a else a++[k]) a=a++l:=by
  intro l
  induction l with
  |nil=>intro a _;simp
  |cons x r ih=>
   intro a hn;have hx:x∉a:=by intro z;rw[iV] at hn;exact hn.2.2 x z x qg rfl
   rw[iS,qX hx,ih (a++[x]) (by simpa using hn)];simp
 simpa[ST.dd] using key l [] (by simpa using h)
theorem su:∀(ns:ac ah),gz (ns.map D.str)=aa (ns.map cB)
 |[]=>by simp[gz]
 |x::r=>by simp[gz,gG,su r]
theorem mQ (h:ns.Nodup) (hl:ns.length<=300):fG [.lst (ns.map D.str)]=aa (.bl ai):=by have hd:(ns.map (cB:ah->Key)).Nodup:=oY _ (fun a b hab z=>hab (gC z)) h;simp only[fG,aY,aE,cF,ae,ak,vSh,b1,b2,b8,eqD,eqS,qm,qM,qp,qP,b9,qc,qb,qe,nY,qf,qW hl,su,zp hd];simp
theorem CN:∀(ts:ac (ac ah)),mM (ts.map fun t=>.tup (t.map D.str))=aa (ts.map fun t=>t.map cB)
 |[]=>by simp[mM]
 |t::r=>by simp[mM,su,CN r]
theorem B7 {ts:ac (ac ah)} (h:ts.Nodup) (hl:ts.length<=300):fG [.lst (ts.map fun t=>.tup (t.map D.str))]=aa (.bl ai):=by
 have inj:∀a b:ac ah,a.map (cB:ah->Key)=b.map cB->a=b:=fun a b z=>(Re (fun x y q=>gC q)).mp z;have hd:(ts.map fun t=>t.map (cB:ah->Key)).Nodup:=oY _ (fun a b hab z=>hab (inj a b z)) h;cases ts with
 |nil=>simp only[fG,aY,aE,cF,ae,ak,vSh,b1,b2,b8,eqD,eqS,qm,qM,qp,qP,b9,qc,qb,qe,ql,nY,gz,ST.dd];simp
 |cons t r=>
  have e:gz ((t::r).map fun t=>D.tup (t.map D.str))=ab:=by simp[gz,gG]
  simp only[fG,aY,aE,b2,b1,vSh,qm,qM,qp,qP,b9,qc,qb,nY,cF,ae,ak,b8,qe];rw[qW (by simpa using hl)];have e':=e;rw[qm] at e';rw[e'];have t':=CN (t::r);rw[qm] at t';rw[t'];rw[qe,zp hd];simp[eqD,eqS]
structure BenchT where
 nm:ah
 br:ac (ag×ag)
structure StepT where
 nm:ah
 kd:ah
 ws:ac (ah×ag)
structure JobT where
 nm:ah
 ea:ag
 du:ag
 od:aN
 ms:ac ah
structure SetT where
 b:ah
 p:ah
 q:ah
 n:ag
structure LinkT where
 a:ah
 b:ah
 g:ag
structure StockT where
 nm:ah
 lo:ag
 hi:ag
 tk:ac (ah×ag)
 pt:ac (ah×ag)
noncomputable def dW (w:ah×ag):D:=.tup [.str w.1,.int w.2]
noncomputable def cq (b:BenchT):D:=.tup [.str b.nm,.lst (b.br.map dIv)]
noncomputable def bG (s:StepT):D:=.tup [.str s.nm,.str s.kd,.lst (s.ws.map dW)]
noncomputable def aW (j:JobT):D:=.tup [.str j.nm,.int j.ea,.int j.du,.bl j.od,.lst (j.ms.map D.str)]
noncomputable def cM (u:SetT):D:=.tup [.str u.b,.str u.p,.str u.q,.int u.n]
noncomputable def cX (l:LinkT):D:=.tup [.str l.a,.str l.b,.int l.g]
noncomputable def cL (k:StockT):D:=.tup [.str k.nm,.int k.lo,.int k.hi,.lst (k.tk.map dW),.lst (k.pt.map dW)]
structure GoodB (h:ag) (b:BenchT):Prop where
 nm:ba b.nm=ai
 len:b.br.length<=10
 iv:∀p∈b.br,0<=p.1/\p.1<p.2/\p.2<=h
 gap:∀(i:al) p q,b.br[i]?=aa p->b.br[i+1]?=aa q->p.2<q.1
structure GoodS (bn:ac ah) (h:ag) (s:StepT):Prop where
 nm:ba s.nm=ai
 kd:ba s.kd=ai
 l1:1<=s.ws.length
 l4:s.ws.length<=4
 ws:∀w∈s.ws,w.1∈bn/\1<=w.2/\w.2<=h
 nd:(s.ws.map (·.1)).Nodup
structure GoodJ (sn:ac ah) (h:ag) (j:JobT):Prop where
 nm:ba j.nm=ai
 ea:0<=j.ea/\j.ea<=h
 du:0<=j.du/\j.du<=h
 l1:1<=j.ms.length
 ln:j.ms.length<=sn.length
 ms:∀m∈j.ms,m∈sn
structure GoodU (bn:ac ah) (h:ag) (u:SetT):Prop where
 b:u.b∈bn
 p:ba u.p=ai
 q:ba u.q=ai
 n:1<=u.n/\u.n<=h
structure GoodL (sn:ac ah) (h:ag) (l:LinkT):Prop where
 a:l.a∈sn
 b:l.b∈sn
 ne:l.a≠l.b
 g:0<=l.g/\l.g<=h
structure GoodA (sn:ac ah) (am:ac (ah×ag)):Prop where
 ln:am.length<=sn.length
 ws:∀w∈am,w.1∈sn/\1<=w.2/\w.2<=1000000
 nd:(am.map (·.1)).Nodup
structure GoodK (sn:ac ah) (k:StockT):Prop where
 nm:ba k.nm=ai
 lo:0<=k.lo/\k.lo<=k.hi
 hi:0<=k.hi/\k.hi<=1000000
 tk:GoodA sn k.tk
 pt:GoodA sn k.pt
structure Good (bs:ac BenchT) (ss:ac StepT) (js:ac JobT) (us:ac SetT) (ls:ac LinkT) (ks:ac StockT) (hz:ag):Prop where
 hh:1<=hz/\hz<=1000000
 bl:1<=bs.length/\bs.length<=8
 b:∀x∈bs,GoodB hz x
 bn:(bs.map (·.nm)).Nodup
 sl:1<=ss.length/\ss.length<=40
 s:∀x∈ss,GoodS (bs.map (·.nm)) hz x
 sn:(ss.map (·.nm)).Nodup
 jl:js.length<=40
 j:∀x∈js,GoodJ (ss.map (·.nm)) hz x
 jn:(js.map (·.nm)).Nodup
 jm:(js.flatMap (·.ms)).Nodup
 ul:us.length<=100
 u:∀x∈us,GoodU (bs.map (·.nm)) hz x
 un:(us.map fun u=>[u.b,u.p,u.q]).Nodup
 ll:ls.length<=100
 l:∀x∈ls,GoodL (ss.map (·.nm)) hz x
 ln:(ls.map fun l=>[l.a,l.b]).Nodup
 kl:ks.length<=6
 k:∀x∈ks,GoodK (ss.map (·.nm)) x
 kn:(ks.map (·.nm)).Nodup
theorem ixL (l:ac D) (n:al):ixD (.lst l) (.int (n:ag))=l[n]?:=li l n
theorem szN {k:al} (h:n<=k) (hk:k<=1000):n<=aT:=by unfold aT;omega
variable {ss:ac StepT}
section
variable {bn:ac ah}
theorem OQ (len:br.length<=10) (gap:∀(i:al) p q,br[i]?=aa p->br[i+1]?=aa q->p.2<q.1) :
  cF fE (ae (aP (bd (itR lD (ae .(d) (ae (cF b8 .(ad)) ak))) (ay 0) tT (b2 ltD (b2 ixD (b2 ixD (vSh 1) (b2 gH (vSh 0) .(d))) .(d)) (b2 ixD (b2 ixD (vSh 1) (vSh 0)) .(c))) [ab,aa 0])) ak) [oS (.lst (br.map dIv)),oS (.int h)]=aa (.bl ai):=by
 have e0:itR lD (ae .(d) (ae (cF b8 .(ad)) ak)) [oS (.lst (br.map dIv)),oS (.int h)]=aa ((cG (((br.map dIv).length:ag)-1).toNat).map fun k:al=>D.int (1+k)):=by exact lv rfl (wn (i:=1) (j:=((br.map dIv).length:al)) (by rw[qf];omega))
 refine ie (r:=[oS (.lst (br.map dIv))]) (a:=ab) e0 ?_ rfl fun x hx=>?_
 .simp only[qf,qR];exact szN (k:=10) .(e) .(h)
 .obtain⟨k,hk,rfl⟩:=a5.mp hx;rw[dX,qf] at hk;have hk1:k<br.length:=by omega
  have hk2:k+1<br.length:=by omega
  have e1:br[k]?=aa br[k]:=by simp[hk1]
  have e2:br[k+1]?=aa br[k+1]:=by simp[hk2]
  have g:=gap k _ _ e1 e2;have a1:ixD (.lst (br.map dIv)) (.int (1+(k:ag)-1))=aa (dIv br[k]):=by
   have:(1+(k:ag)-1)=((k:al):ag):=by omega
   rw[this,ixL,qk,e1];rfl
  have a2:ixD (.lst (br.map dIv)) (.int (1+(k:ag)))=aa (dIv br[k+1]):=by
   have:(1+(k:ag))=((k+1:al):ag):=by omega
   rw[this,ixL,qk,e2];rfl
  simp only[vSh,vC,b2,ltD,gH,qc,qd,qb,a1,a2];simp only[dIv,cx,cy,qb,qQ g]
theorem Ju (len:br.length<=10) (iv:∀p∈br,0<=p.1/\p.1<p.2/\p.2<=h) (gap:∀(i:al) p q,br[i]?=aa p->br[i+1]?=aa q->p.2<q.1) :
  w8 [.lst (br.map dIv),.int h]=aa (.bl ai):=by
 refine bO [oS (.lst (br.map dIv)),oS (.int h)] rfl ((iz ?_ (ie (r:=[oS (.int h)]) (a:=ab) (xs:=br.map dIv) rfl (by rw[qf];exact szN len .(h)) rfl fun x hx=>?_)).trans (bT (OQ len gap)))
 .exact ji _ 0 10 ⟨by omega,by rw[qf];omega⟩
 .obtain⟨p,hp,rfl⟩:=a5.mp hx;obtain⟨h1,h2,h3⟩:=iv p hp;exact Hf p h h1 h2 h3
theorem Fx {b:BenchT} (g:GoodB h b):ub [cq b,.int h]=aa (.bl ai):=by simp only[ub,cq,aY,aE,cD,cF,ae,ak,vSh,vC,b2,cx,cy,qm,qM,qp,qP,b9,qc,qd,qb,qe,sP,lm g.nm,Ju g.len g.iv g.gap]
theorem ka {f:α->D} {nm:α->ah} {xs:ac α} (hf:∀x,∃r,f x=.tup (.str (nm x)::r)) (h1:vSh i ρ=aa (.lst (xs.map f))) (h2:xs.length<=aT) (h3:fC fv ρ=[ab]) :
  aP (bd (itF (vSh i)) (ay 0) tT .(t) fv) ρ=aa (.lst ((xs.map nm).map D.str)):=by
 have hc:=h8 (fi:=itF (vSh i)) (fe:=b2 ixD (vSh 0) .(c)) (fv:=fv) (ρ:=ρ) (r:=[]) (a:=ab) (xs:=xs.map f) (f:=fun d=>match d with|.tup (x::_)=>x|_=>.non) (by unfold itF;rw[h1];rfl) (by rw[qf];exact h2) h3 (fun x hx=>by obtain⟨y,_,rfl⟩:=a5.mp hx;obtain⟨r,e⟩:=hf y;simp only[b2,vSh,vC,qc,qb,e,cx])
 rw[hc]
 congr 2
 rw[qo,qo];refine oZ fun x _=>?_;obtain⟨r,e⟩:=hf x;simp[e]
theorem Ob {bs:ac BenchT} (l1:1<=bs.length) (l8:bs.length<=8) (g:∀x∈bs,GoodB h x) (nd:(bs.map (·.nm)).Nodup):v6 [.lst (bs.map cq),.int h]=aa (.bl ai):=by
 refine bO [oS (.lst (bs.map cq)),oS (.int h)] rfl ((iz ?_ (ie (r:=[oS (.int h)]) (a:=ab) (xs:=bs.map cq) rfl (by rw[qf];exact szN l8 .(h)) rfl fun x hx=>?_)).trans (bT ?_))
 .exact ji _ 1 8 ⟨by rw[qf];omega,by rw[qf];omega⟩
 .obtain⟨p,hp,rfl⟩:=a5.mp hx;exact Fx (g p hp)
 .have:=ka (i:=0) (fv:=[ab]) (ρ:=[oS (.lst (bs.map cq)),oS (.int h)]) (f:=cq) (nm:=(·.nm)) (xs:=bs) (fun x=>⟨_,rfl⟩) rfl (szN l8 .(h)) rfl;simp only[cF,ae,ak,this,qb,qe];exact mQ nd (by rw[qf];omega)
theorem F7 {w:ah×ag} (hb:∀y∈bn,ba y=ai) (g:w.1∈bn/\1<=w.2/\w.2<=h):uy [dW w,.lst (bn.map D.str),.int h]=aa (.bl ai):=by simp only[uy,dW,aY,aE,cD,cF,ae,ak,vSh,vC,b2,cx,cy,qm,qM,qp,qP,b9,qc,qd,qb,qe,sP,ox g.1 hb,iA w.2 1 h g.2]
theorem M3 (hb:∀y∈bn,ba y=ai) (l1:1<=ws.length) (l4:ws.length<=4) (g:∀w∈ws,w.1∈bn/\1<=w.2/\w.2<=h) (nd:(ws.map (·.1)).Nodup):w9 [.lst (ws.map dW),.lst (bn.map D.str),.int h]=aa (.bl ai):=by
 refine bO [oS (.lst (ws.map dW)),oS (.lst (bn.map D.str)),oS (.int h)] rfl ((iz ?_ (ie (r:=[oS (.lst (bn.map D.str)),oS (.int h)]) (a:=ab) (xs:=ws.map dW) rfl (by rw[qf];exact szN l4 .(h)) rfl fun x hx=>?_)).trans (bT ?_))
 .exact ji _ 1 4 ⟨by rw[qf];omega,by rw[qf];omega⟩
 .obtain⟨p,hp,rfl⟩:=a5.mp hx;exact F7 hb (g p hp)
 .have:=ka (i:=0) (fv:=[ab]) (ρ:=[oS (.lst (ws.map dW)),oS (.lst (bn.map D.str)),oS (.int h)]) (f:=dW) (nm:=(·.1)) (xs:=ws) (fun x=>⟨_,rfl⟩) rfl (szN l4 .(h)) rfl;simp only[cF,ae,ak,this,qb,qe];exact mQ nd (by rw[qf];omega)
theorem Ki {s:StepT} (hb:∀y∈bn,ba y=ai) (g:GoodS bn h s):uh [bG s,.lst (bn.map D.str),.int h]=aa (.bl ai):=by simp only[uh,bG,aY,ax,sIf,aE,aH,orT,bu,toB,cF,ae,ak,vSh,vC,b2,cx,cy,iy,qm,qM,qp,qP,b9,qc,qd,qb,qe,c6,iq,qq,Bs,lm g.nm,lm g.kd,M3 hb g.l1 g.l4 g.ws g.nd]
theorem Kz (hb:∀y∈bn,ba y=ai) (l1:1<=ss.length) (l4:ss.length<=40) (g:∀s∈ss,GoodS bn h s) (nd:(ss.map (·.nm)).Nodup):xc [.lst (ss.map bG),.lst (bn.map D.str),.int h]=aa (.bl ai):=by
 refine bO [oS (.lst (ss.map bG)),oS (.lst (bn.map D.str)),oS (.int h)] rfl ((iz ?_ (ie (r:=[oS (.lst (bn.map D.str)),oS (.int h)]) (a:=ab) (xs:=ss.map bG) rfl (by rw[qf];exact szN l4 .(h)) rfl fun x hx=>?_)).trans (bT ?_))
 .exact ji _ 1 40 ⟨by rw[qf];omega,by rw[qf];omega⟩
 .obtain⟨p,hp,rfl⟩:=a5.mp hx;exact Ki hb (g p hp)
 .have:=ka (i:=0) (fv:=[ab]) (ρ:=[oS (.lst (ss.map bG)),oS (.lst (bn.map D.str)),oS (.int h)]) (f:=bG) (nm:=(·.nm)) (xs:=ss) (fun x=>⟨_,rfl⟩) rfl (szN l4 .(h)) rfl;simp only[cF,ae,ak,this,qb,qe];exact mQ nd (by rw[qf];omega)
end
theorem AV (a b:ah):neA (.str a) (.str b)=aa (.bl (!decide (a=b))):=rfl
theorem vG {a b c:D} :nD ab (aa 3) (.tup [a,b,c,d])=aa (.tup [a,b,c]):=rfl
theorem AI {a b c:D} :nD ab (aa 2) (.tup [a,b,c])=aa (.tup [a,b]):=rfl
theorem vY {α β:Type} {f:α->ac β} {m:al}:∀{l:ac α},(∀x∈l,(f x).length<=m)->(l.flatMap f).length<=l.length*m
 |[],_=>by simp
 |x::r,h=>by have h1:=h x qg;have h2:=vY (l:=r) fun y hy=>h y (qh _ hy);rw[u4,qj,qi,yx];omega
variable {js:ac JobT} {us:ac SetT} {ls:ac LinkT} {ks:ac StockT}
section
variable {bn:ac ah}
theorem FW {j:JobT} (hs:∀y∈sn,ba y=ai) (hl:sn.length<=40) (g:GoodJ sn h j):ve [aW j,.lst (sn.map D.str),.int h]=aa (.bl ai):=by
 refine bO [oS (aW j),oS (.lst (sn.map D.str)),oS (.int h)] rfl ((Lq ?_ ?_ ?_).trans ((iz ?_ ?_).trans (bT (BO ?_ (ie (r:=[oS (.lst (sn.map D.str))]) (a:=ab) (xs:=j.ms.map D.str) ?_ ?_ rfl fun x hx=>?_)))))
 .exact DJ
 .simp only[aW,cF,ae,ak,vSh,vC,b2,cx,qc,qb,qe,lm g.nm]
 .simp only[aW,cF,ae,ak,vSh,vC,b2,dR,tyD,jr,qc,qb,qe,i5]
 .simp only[aW,cF,ae,ak,vSh,vC,b2,cy,qc,qd,qb,qe,iA _ 0 h g.ea]
 .simp only[aW,cF,ae,ak,vSh,vC,b2,iy,qc,qd,qb,qe,iA _ 0 h g.du]
 .simp only[aW,cF,ae,ak,vSh,vC,b2,b8,eK,qc,qd,qb,qe];exact ji _ _ _ ⟨by rw[qf];have:=g.l1;omega,by rw[qf,qf];have:=g.ln;omega⟩
 .simp only[aW,vSh,vC,b2,itF,rf,eK,qc,qb]
 .rw[qf];exact szN (qK g.ln hl) .(h)
 .obtain⟨m,hm,rfl⟩:=a5.mp hx;simp only[cF,ae,ak,vSh,qc,qd,qb,qe,ox (g.ms m hm) hs]
theorem J1 {S H:ar Slot} (hl:js.length<=40) (g:∀j∈js,j.ms.length<=40) :
  ∃z,dB (ay 4) (iw 3 (b2 ixD (vSh 4) .(j))) (js.map aW) [oS .(aa),S,H,aa (.own []),ab]=aa (.nx,[oS .(aa),S,H,aa (.own ((js.flatMap (·.ms)).map D.str)),z]):=by
 obtain⟨ρ',h1,z,h2⟩:=dZ (gg:=ay 4) (body:=iw 3 (b2 ixD (vSh 4) .(j))) (xs:=js.map aW) (ρ:=[oS .(aa),S,H,aa (.own []),ab])
  (fun i ρ=>∃z,ρ=[oS .(aa),S,H,aa (.own (((js.take i).flatMap (·.ms)).map D.str)),z]) ⟨ab,by simp⟩ (fun i x ρ hx hI=>by
   obtain⟨z,rfl⟩:=hI;rw[qk] at hx;obtain⟨j,hj,rfl⟩:=oMd hx;have hm:j∈js:=qN hj;have t1:((js.take i).flatMap (·.ms)).length<=(js.take i).length*40:=vY fun y hy=>g y (nh hy);have t2:(js.take i).length<=40:=by rw[qC];omega
   have t3:=g j hm;have tk:js.take (i+1)=js.take i++[j]:=by rw[E2,hj];rfl
   have sz:(((js.take i).flatMap (·.ms)).map D.str).length+(j.ms.map D.str).length<=aT:=by rw[qf,qf];unfold aT;omega
   refine⟨_,[oS .(aa),S,H,aa (.own (((js.take (i+1)).flatMap (·.ms)).map D.str)),oS (aW j)],rfl,?_,_,rfl⟩;have e:b2 ixD (vSh 4) .(j) [oS .(aa),S,H,aa (.own (((js.take i).flatMap (·.ms)).map D.str)),oS (aW j)]=aa (.lst (j.ms.map D.str)):=by simp only[aW,vSh,vC,b2,eK,qc,qd,qb]
   simp only[iw,oW,E3,qc,qd,e,qb,qW sz,tk];simp)
 refine⟨z,?_⟩;rw[h1,h2,qf,jP]
theorem HP (hs:∀y∈sn,ba y=ai) (hl:sn.length<=40) (l4:js.length<=40) (g:∀j∈js,GoodJ sn h j) (nd:(js.map (·.nm)).Nodup) (nm:(js.flatMap (·.ms)).Nodup) (ml:(js.flatMap (·.ms)).length<=300):wg [.lst (js.map aW),.lst (sn.map D.str),.int h]=aa (.bl ai):=by
 obtain⟨z,hz⟩:=J1 (js:=js) (S:=oS (.lst (sn.map D.str))) (H:=oS (.int h)) l4 fun j hj=>qK (g j hj).ln hl;refine bO [oS .(aa),oS (.lst (sn.map D.str)),oS (.int h),ab,ab] (ρ':=[oS .(aa),oS (.lst (sn.map D.str)),oS (.int h),oS (.lst ((js.flatMap (·.ms)).map D.str)),z]) rfl ((iz ?_ (ie (r:=[oS (.lst (sn.map D.str)),oS (.int h)]) (a:=ab) (xs:=js.map aW) rfl (by rw[qf];exact szN l4 .(h)) rfl fun x hx=>?_)).trans ?_)
 .exact ji _ 0 40 ⟨by omega,by rw[qf];omega⟩
 .obtain⟨p,hp,rfl⟩:=a5.mp hx;simp only[cF,ae,ak,vSh,qc,qd,qb,qe,FW hs hl (g p hp)]
 .have nn:=ka (i:=0) (fv:=[ab]) (ρ:=[oS .(aa),oS (.lst (sn.map D.str)),oS (.int h),oS (.lst ((js.flatMap (·.ms)).map D.str)),z]) (f:=aW) (nm:=(·.nm)) (xs:=js) (fun x=>⟨_,rfl⟩) rfl (szN l4 .(h)) rfl;have u1:cF fG (ae (aP (bd (itF (vSh 0)) (ay 0) tT .(t) [ab])) ak) [oS .(aa),oS (.lst (sn.map D.str)),oS (.int h),oS (.lst ((js.flatMap (·.ms)).map D.str)),z]=aa (.bl ai):=
   a4 (aA nn aR) (mQ nd (by rw[qf];omega))
  have u2:cF fG .(U) [oS .(aa),oS (.lst (sn.map D.str)),oS (.int h),oS (.lst ((js.flatMap (·.ms)).map D.str)),z]=aa (.bl ai):=
   a4 (aA rfl aR) (mQ nm ml)
  have r:=bT (BO u1 u2);have z0:(0<=aT)=True:=by simp
  simp only[ax,dI,szF,ak,qb,qe,ql,z0,cu,oW,E3,bC,itF,vSh,qc,rf];rw[hz];simp only[qb,eB,qc,qd,oW,E3];exact r
theorem Ml {u:SetT} (hb:∀y∈bn,ba y=ai) (g:GoodU bn h u):sO [cM u,.lst (bn.map D.str),.int h]=aa (.bl ai):=by simp only[sO,cM,aY,ax,sIf,aE,aH,cD,orT,bu,toB,cF,ae,ak,vSh,vC,b2,cx,cy,iy,jr,qm,qM,qp,qP,b9,qc,qd,qb,qe,c6,iq,qq,Oj,ox g.b hb,lm g.p,lm g.q,iA _ 1 h g.n]
theorem Lc (hb:∀y∈bn,ba y=ai) (l4:us.length<=100) (g:∀u∈us,GoodU bn h u) (nd:(us.map fun u=>[u.b,u.p,u.q]).Nodup):v7 [.lst (us.map cM),.lst (bn.map D.str),.int h]=aa (.bl ai):=by
 refine bO [oS (.lst (us.map cM)),oS (.lst (bn.map D.str)),oS (.int h)] rfl ((iz ?_ (ie (r:=[oS (.lst (bn.map D.str)),oS (.int h)]) (a:=ab) (xs:=us.map cM) rfl (by rw[qf];exact szN l4 .(h)) rfl fun x hx=>?_)).trans (bT (a4 (aA (h8 (r:=[]) (a:=ab) (xs:=us.map cM) (f:=fun d=>match d with|.tup [a,b,c,d]=>.tup [a,b,c]|_=>.non) rfl (by rw[qf];exact szN l4 .(h)) rfl fun x hx=>?_) aR) ?_)))
 .exact ji _ 0 100 ⟨by omega,by rw[qf];omega⟩
 .obtain⟨p,hp,rfl⟩:=a5.mp hx;simp only[cF,ae,ak,vSh,qc,qd,qb,qe,Ml hb (g p hp)]
 .obtain⟨p,hp,rfl⟩:=a5.mp hx;simp only[vSh,vC,slF,pN,pS,qc,qb,cM,vG]
 .have:=B7 nd (by rw[qf];omega);rw[qo] at this ⊢;exact this
theorem Jh {l:LinkT} (hs:∀y∈sn,ba y=ai) (g:GoodL sn h l):sq [cX l,.lst (sn.map D.str),.int h]=aa (.bl ai):=by have:=g.ne;simp only[sq,cX,aY,ax,sIf,aE,aH,cD,orT,bu,toB,cF,ae,ak,vSh,vC,b2,cx,cy,iy,qm,qM,qp,qP,b9,qc,qd,qb,qe,c6,iq,lU,qq,Bs,ox g.a hs,ox g.b hs,AV,qL g.ne,iA _ 0 h g.g]
theorem NH (hs:∀y∈sn,ba y=ai) (l4:ls.length<=100) (g:∀l∈ls,GoodL sn h l) (nd:(ls.map fun l=>[l.a,l.b]).Nodup):xW [.lst (ls.map cX),.lst (sn.map D.str),.int h]=aa (.bl ai):=by
 refine bO [oS (.lst (ls.map cX)),oS (.lst (sn.map D.str)),oS (.int h)] rfl ((iz ?_ (ie (r:=[oS (.lst (sn.map D.str)),oS (.int h)]) (a:=ab) (xs:=ls.map cX) rfl (by rw[qf];exact szN l4 .(h)) rfl fun x hx=>?_)).trans (bT (a4 (aA (h8 (r:=[]) (a:=ab) (xs:=ls.map cX) (f:=fun d=>match d with|.tup [a,b,c]=>.tup [a,b]|_=>.non) rfl (by rw[qf];exact szN l4 .(h)) rfl fun x hx=>?_) aR) ?_)))
 .exact ji _ 0 100 ⟨by omega,by rw[qf];omega⟩
 .obtain⟨p,hp,rfl⟩:=a5.mp hx;simp only[cF,ae,ak,vSh,qc,qd,qb,qe,Jh hs (g p hp)]
 .obtain⟨p,hp,rfl⟩:=a5.mp hx;simp only[vSh,vC,slF,pN,pS,qc,qb,cX,AI]
 .have:=B7 nd (by rw[qf];omega);rw[qo] at this ⊢;exact this
theorem O4 {w:ah×ag} (hs:∀y∈sn,ba y=ai) (g:w.1∈sn/\1<=w.2/\w.2<=1000000):ue [dW w,.lst (sn.map D.str)]=aa (.bl ai):=by simp only[ue,dW,aY,aE,cD,cF,ae,ak,vSh,vC,b2,cx,cy,qm,qM,qp,qP,b9,qc,qd,qb,qe,sP,ox g.1 hs,iA w.2 1 1000000 g.2]
theorem zD (hs:∀y∈sn,ba y=ai) (hl:sn.length<=40) (g:GoodA sn ws):uc [.lst (ws.map dW),.lst (sn.map D.str)]=aa (.bl ai):=by
 have l4:ws.length<=40:=qK g.ln hl;refine bO [oS (.lst (ws.map dW)),oS (.lst (sn.map D.str))] rfl ((iz ?_ (ie (r:=[oS (.lst (sn.map D.str))]) (a:=ab) (xs:=ws.map dW) rfl (by rw[qf];exact szN l4 .(h)) rfl fun x hx=>?_)).trans (bT ?_))
 .have e:=ji (ws.map dW) 0 ((sn.map D.str).length:al) ⟨by omega,by rw[qf,qf];have:=g.ln;omega⟩;simp only[cF,ae,ak,vSh,vC,b8,qc,qd,qb,qe];exact e
 .obtain⟨p,hp,rfl⟩:=a5.mp hx;simp only[cF,ae,ak,vSh,qc,qd,qb,qe,O4 hs (g.ws p hp)]
 .have:=ka (i:=0) (fv:=[ab]) (ρ:=[oS (.lst (ws.map dW)),oS (.lst (sn.map D.str))]) (f:=dW) (nm:=(·.1)) (xs:=ws) (fun x=>⟨_,rfl⟩) rfl (szN l4 .(h)) rfl;exact a4 (aA this aR) (mQ g.nd (by rw[qf];omega))
theorem Gs {k:StockT} (hs:∀y∈sn,ba y=ai) (hl:sn.length<=40) (g:GoodK sn k):tM [cL k,.lst (sn.map D.str)]=aa (.bl ai):=by simp only[tM,cL,aY,ax,sIf,aE,aH,cD,orT,bu,toB,cF,ae,ak,vSh,vC,b2,cx,cy,iy,jr,eK,qm,qM,qp,qP,b9,qc,qd,qb,qe,c6,iq,qq,DJ,lm g.nm,iA _ 0 1000000 g.hi,iA _ 0 _ g.lo,zD hs hl g.tk,zD hs hl g.pt]
theorem MB (hs:∀y∈sn,ba y=ai) (hl:sn.length<=40) (l4:ks.length<=6) (g:∀k∈ks,GoodK sn k) (nd:(ks.map (·.nm)).Nodup):vM [.lst (ks.map cL),.lst (sn.map D.str)]=aa (.bl ai):=by
 refine bO [oS (.lst (ks.map cL)),oS (.lst (sn.map D.str))] rfl ((iz ?_ (ie (r:=[oS (.lst (sn.map D.str))]) (a:=ab) (xs:=ks.map cL) rfl (by rw[qf];exact szN l4 .(h)) rfl fun x hx=>?_)).trans (bT ?_))
 .exact ji _ 0 6 ⟨by omega,by rw[qf];omega⟩
 .obtain⟨p,hp,rfl⟩:=a5.mp hx;simp only[cF,ae,ak,vSh,qc,qd,qb,qe,Gs hs hl (g p hp)]
 .have:=ka (i:=0) (fv:=[ab]) (ρ:=[oS (.lst (ks.map cL)),oS (.lst (sn.map D.str))]) (f:=cL) (nm:=(·.nm)) (xs:=ks) (fun x=>⟨_,rfl⟩) rfl (szN l4 .(h)) rfl;exact a4 (aA this aR) (mQ nd (by rw[qf];omega))
end
section
variable {bs:ac BenchT}
theorem Good.bnn (g:Good bs ss js us ls ks h):∀y∈bs.map (·.nm),ba y=ai:=fun y hy=>by obtain⟨b,hb,rfl⟩:=a5.mp hy;exact(g.b b hb).nm
theorem Good.snn (g:Good bs ss js us ls ks h):∀y∈ss.map (·.nm),ba y=ai:=fun y hy=>by obtain⟨b,hb,rfl⟩:=a5.mp hy;exact(g.s b hb).nm
theorem Gq (g:Good bs ss js us ls ks h) (ml:(js.flatMap (·.ms)).length<=300):vh [.lst (bs.map cq),.lst (ss.map bG),.lst (js.map aW),.lst (us.map cM),.lst (ls.map cX),.lst (ks.map cL),.int h]=aa .non:=by
 have hb:=g.bnn;have hs:=g.snn;have hl:(ss.map (·.nm)).length<=40:=by rw[qf];exact g.sl.2
 have n1:∀z:ar Slot,aP (bd (itF (vSh 0)) (ay 0) tT .(t) [ab]) [oS (.lst (bs.map cq)),oS (.lst (ss.map bG)),oS .(aa),oS (.lst (us.map cM)),oS (.lst (ls.map cX)),oS (.lst (ks.map cL)),oS (.int h),ab,ab]=aa (.lst ((bs.map (·.nm)).map D.str)):=fun z=>
  ka (f:=cq) (nm:=(·.nm)) (xs:=bs) (fun x=>⟨_,rfl⟩) rfl (szN g.bl.2 .(h)) rfl
 have n2:aP (bd (itF (vSh 1)) (ay 0) tT .(t) [ab]) [oS (.lst (bs.map cq)),oS (.lst (ss.map bG)),oS .(aa),oS (.lst (us.map cM)),oS (.lst (ls.map cX)),oS (.lst (ks.map cL)),oS (.int h),oS (.lst ((bs.map (·.nm)).map D.str)),ab]=aa (.lst ((ss.map (·.nm)).map D.str)):=
  ka (f:=bG) (nm:=(·.nm)) (xs:=ss) (fun x=>⟨_,rfl⟩) rfl (szN g.sl.2 .(h)) rfl
 refine bO [oS (.lst (bs.map cq)),oS (.lst (ss.map bG)),oS .(aa),oS (.lst (us.map cM)),oS (.lst (ls.map cX)),oS (.lst (ks.map cL)),oS (.int h),ab,ab] rfl ((mT ?_).trans ((mT ?_).trans ((bq (n1 ab)).trans ((mT ?_).trans ((bq n2).trans ((mT ?_).trans ((mT ?_).trans ((mT ?_).trans ((mT ?_).trans (bT rfl))))))))))
 .exact iA h 1 1000000 g.hh
 .exact Ob g.bl.1 g.bl.2 g.b g.bn
 .exact Kz hb g.sl.1 g.sl.2 g.s g.sn
 .exact HP hs hl g.jl g.j g.jn g.jm ml
 .exact Lc hb g.ul g.u g.un
 .exact NH hs g.ll g.l g.ln
 .exact MB hs hl g.kl g.k g.kn
end
noncomputable def Pl:al->D->Prop
 |0,_=>False
 |n+1,.lst l=>l.length<=aT/\∀x∈l,Pl n x
 |n+1,.tup l=>l.length<=aT/\∀x∈l,Pl n x
 |_+1,.non=>True
 |_+1,.bl _=>True
 |_+1,.int _=>True
 |_+1,.str _=>True
 |_+1,_=>False
theorem fF {X E:FS} (h:ft ρ=aa ao):ax (sIf ft X aH) E ρ=E ρ:=by simp only[ax,sIf,h,qb,qq,c6,aH]
theorem jZ {A B E:FS} (h:ft ρ=aa ai) (h2:A ρ=aa (.rt d,ρ')):ax (sIf ft A B) E ρ=aa (.rt d,ρ'):=by simp only[ax,sIf,h,qb,cu,h2]
theorem xm:∀(n:al) (d:D),Pl n d->i4 n [d]=aa d
 |0,_,h=>h.elim
 |n+1,.lst l,h=>by
  refine bO [oS (.lst l)] rfl (jZ (aX (b:=ai) ?_) (bT ?_))
  .simp only[cF,ae,ak,vSh,vC,dR,tyD,qc,qb,qe,k1]
  .have:=h8 (fi:=itF (vSh 0)) (fe:=cF (i4 n) .(ad)) (fv:=[ab]) (ρ:=[oS (.lst l)]) (r:=[]) (a:=ab) (xs:=l) (f:=fun x=>x) rfl h.1 rfl (fun x hx=>by simp only[cF,ae,ak,vSh,qc,qb,qe,xm n x (h.2 x hx)]);rw[Rf] at this;exact this
 |n+1,.tup l,h=>by
  refine bO [oS (.tup l)] rfl ((fF (aX (b:=ao) ?_)).trans (jZ (aX (b:=ai) ?_) (bT (a4 (aA (d:=.lst l) ?_ aR) rfl))))
  .simp only[cF,ae,ak,vSh,vC,dR,tyD,qc,qb,qe,k2]
  .simp only[cF,ae,ak,vSh,vC,dR,tyD,qc,qb,qe,k3]
  .have:=h8 (fi:=itF (vSh 0)) (fe:=cF (i4 n) .(ad)) (fv:=[ab]) (ρ:=[oS (.tup l)]) (r:=[]) (a:=ab) (xs:=l) (f:=fun x=>x) rfl h.1 rfl (fun x hx=>by simp only[cF,ae,ak,vSh,qc,qb,qe,xm n x (h.2 x hx)]);rw[Rf] at this;exact this
 |n+1,.non,h=>by
  show jA (i4 n) [.non]=aa .non;unfold jA;refine bO [oS .non] rfl ((fF (aX (b:=ao) ?_)).trans ((fF (aX (b:=ao) ?_)).trans (bT (f:=vSh 0) rfl)))<;>simp only[cF,ae,ak,vSh,vC,dR,tyD,qc,qb,qe,k10,k11]
 |n+1,.bl b,h=>by
  show jA (i4 n) [.bl b]=aa (.bl b);unfold jA;refine bO [oS (.bl b)] rfl ((fF (aX (b:=ao) ?_)).trans ((fF (aX (b:=ao) ?_)).trans (bT (f:=vSh 0) rfl)))<;>simp only[cF,ae,ak,vSh,vC,dR,tyD,qc,qb,qe,k8,k9]
 |n+1,.int b,h=>by
  show jA (i4 n) [.int b]=aa (.int b);unfold jA;refine bO [oS (.int b)] rfl ((fF (aX (b:=ao) ?_)).trans ((fF (aX (b:=ao) ?_)).trans (bT (f:=vSh 0) rfl)))<;>simp only[cF,ae,ak,vSh,vC,dR,tyD,qc,qb,qe,k6,k7]
 |n+1,.str b,h=>by show jA (i4 n) [.str b]=aa (.str b);unfold jA;refine bO [oS (.str b)] rfl ((fF (aX (b:=ao) ?_)).trans ((fF (aX (b:=ao) ?_)).trans (bT (f:=vSh 0) rfl)))<;>simp only[cF,ae,ak,vSh,vC,dR,tyD,qc,qb,qe,k4,k4,k5]
theorem hZ (h:Pl 8 d):dY [d]=aa d:=xm 8 d h
theorem gM {f:α->D} {xs:ac α} (hl:xs.length<=1000) (h:∀x∈xs,Pl n (f x)):Pl (n+1) (.lst (xs.map f)):=
 ⟨by rw[qf];exact szN hl .(h),fun x hx=>by obtain⟨y,hy,rfl⟩:=a5.mp hx;exact h y hy⟩
theorem GH {xs:ac ah} (hl:xs.length<=1000):Pl (n+2) (.lst (xs.map D.str)):=gM hl fun x _=>(trivial:Pl (n+1) (.str x))
theorem tQ {xs:ac (ah×ag)} (hl:xs.length<=1000):Pl (n+3) (.lst (xs.map dW)):=gM hl fun x _=>⟨by simp[aT],by intro y hy;simp only[qJ,qH,or_false] at hy;rcases hy with rfl|rfl<;>trivial⟩
theorem FN {b:BenchT} (g:GoodB h b):Pl (n+4) (cq b):=⟨by simp[aT],by
 intro y hy;simp only[qJ,qH,or_false] at hy;rcases hy with rfl|rfl
 .trivial
 .exact gM (by have:=g.len;omega) fun x _=>⟨by simp[aT],by intro y hy;simp only[qJ,qH,or_false] at hy;rcases hy with rfl|rfl<;>trivial⟩⟩
theorem Im {bn:ac ah} {s:StepT} (g:GoodS bn h s):Pl (n+4) (bG s):=⟨by simp[aT],by
 intro y hy;simp only[qJ,qH,or_false] at hy;rcases hy with rfl|rfl|rfl
 .trivial
 .trivial
 .exact tQ (by have:=g.l4;omega)⟩
theorem xo {j:JobT} (hl:sn.length<=40) (g:GoodJ sn h j):Pl (n+3) (aW j):=⟨by simp[aT],by
 intro y hy;simp only[qJ,qH,or_false] at hy;rcases hy with rfl|rfl|rfl|rfl|rfl
 .trivial
 .trivial
 .trivial
 .trivial
 .exact GH (by have:=g.ln;omega)⟩
theorem Ia {u:SetT} :Pl (n+2) (cM u):=⟨by simp[aT],by intro y hy;simp only[qJ,qH,or_false] at hy;rcases hy with rfl|rfl|rfl|rfl<;>trivial⟩
theorem z9 {u:LinkT} :Pl (n+2) (cX u):=⟨by simp[aT],by intro y hy;simp only[qJ,qH,or_false] at hy;rcases hy with rfl|rfl|rfl<;>trivial⟩
theorem De {k:StockT} (hl:sn.length<=40) (g:GoodK sn k):Pl (n+4) (cL k):=⟨by simp[aT],by
 intro y hy;simp only[qJ,qH,or_false] at hy;rcases hy with rfl|rfl|rfl|rfl|rfl
 .trivial
 .trivial
 .trivial
 .exact tQ (by have:=g.tk.ln;omega)
 .exact tQ (by have:=g.pt.ln;omega)⟩
theorem p9 {α:Type} {nm:α->ah} {f:α->D}:∀(xs:ac α),nG (xs.map fun x=>.tup [.str (nm x),f x])=aa (xs.map fun x=>(.inr (nm x),f x))
 |[]=>rfl
 |x::r=>by simp only[qm,nG,gG,qb,p9 r,qe]
theorem BU {α:Type} {t:α->ac ah} {f:α->D}:∀(xs:ac α),mr (xs.map fun x=>.tup [.tup ((t x).map D.str),f x])=aa (xs.map fun x=>((t x).map cB,f x))
 |[]=>rfl
 |x::r=>by simp only[qm,mr,su,qb,BU r,qe]
theorem pB [eE κ] {ps:ac (κ×D)} (h:(ps.map (·.1)).Nodup):sS ps=ps:=by
 have key:∀(l a:ac (κ×D)),((a++l).map (·.1)).Nodup->l.foldl (fun acc kv=>eC acc kv.1 kv.2) a=a++l:=by
  intro l
  induction l with
  |nil=>intro a _;simp
  |cons x r ih=>
   intro a hn;have hx:(a.any fun kv=>decide (kv.1=x.1))=ao:=by rw[gD];intro y hy z;rw[iT,iV] at hn;exact hn.2.2 y.1 (qU hy) x.1 (by simp) (eU z)
   rw[iS];have e:eC a x.1 x.2=a++[x]:=by unfold eC;rw[hx];rfl
   rw[e,ih (a++[x]) (by simpa using hn)];simp
 simpa[sS] using key ps [] (by simpa using h)
theorem uv {β:Type}:∀{fs:ac (ah×β)} {i:al} {k:ah} {d:β},(fs.map (·.1)).Nodup->fs[i]?=aa (k,d)->fs.lookup k=aa d
 |[],i,k,d,_,h=>by simp at h
 |(a,b)::r,0,k,d,_,h=>by
  simp only[qc,QV,Prod.mk.injEq] at h;obtain⟨rfl,rfl⟩:=h;simp[dw]
 |(a,b)::r,i+1,k,d,nd,h=>by
  rw[qd] at h;rw[qm,il] at nd;have ne:k≠a:=by intro z;subst z;exact nd.1 (qU (f:=(·.1)) (qN h))
  have hb:(k==a)=ao:=by simpa using ne
  simp only[dw,hb];exact uv nd.2 h
theorem pG {β:Type}:∀{fs:ac (ah×β)} {k:ah},k∉fs.map (·.1)->fs.lookup k=ab
 |[],_,_=>rfl
 |(a,b)::r,k,h=>by
  rw[qm,qJ,rZ] at h;have hb:(k==a)=ao:=by simpa using h.1
  simp only[dw,hb];exact pG h.2
noncomputable def gP (j:JobT) (acc:ac (Key×D)) (m:ah):ac (Key×D):=eC acc (.inr m) (aW j)
noncomputable def jkv (js:ac JobT):ac (Key×D):=js.foldl (fun acc j=>j.ms.foldl (gP j) acc) []
theorem Ge [eE κ] (kvs:ac (κ×D)) (k:κ) (v:D):(eC kvs k v).length<=kvs.length+1:=by
 unfold eC;split
 .rw[qf];omega
 .rw[qj];simp
theorem xn (j:JobT):∀(ms:ac ah) (acc:ac (Key×D)),(ms.foldl (gP j) acc).length<=acc.length+ms.length
 |[],acc=>by simp
 |m::r,acc=>by rw[iS];have h1:=xn j r (gP j acc m);have h2:(gP j acc m).length<=acc.length+1:=Ge _ _ _;rw[qi];omega
theorem zq {m:al}:∀{js:ac JobT} (acc:ac (Key×D)),(∀j∈js,j.ms.length<=m)->(js.foldl (fun acc j=>j.ms.foldl (gP j) acc) acc).length<=acc.length+js.length*m
 |[],acc,_=>by simp
 |j::r,acc,h=>by rw[iS];have h1:=zq (js:=r) (j.ms.foldl (gP j) acc) fun y hy=>h y (qh _ hy);have h2:=xn j j.ms acc;have h3:=h j qg;rw[qi,yx];omega
noncomputable def iu (bs:ac BenchT) (ss:ac StepT) (js:ac JobT) (us:ac SetT) (ls:ac LinkT) (ks:ac StockT) (h:ag):ac (ah×D):=
 [("benches",.lst (bs.map cq)),("steps",.lst (ss.map bG)),("jobs",.lst (js.map aW)),("setups",.lst (us.map cM)),("links",.lst (ls.map cX)),("stocks",.lst (ks.map cL)),("horizon",.int h),
 ("bench_by_name",.dk (bs.map fun b=>(.inr b.nm,cq b))),("step_by_name",.dk (ss.map fun s=>(.inr s.nm,bG s))),("setup_by_names",.dt (us.map fun u=>([u.b,u.p,u.q].map cB,.int u.n)))]
noncomputable def n5 (bs:ac BenchT) (ss:ac StepT) (js:ac JobT) (us:ac SetT) (ls:ac LinkT) (ks:ac StockT) (h:ag):ac (ah×D):=iu bs ss js us ls ks h++[(("job_by_step":ah),D.dk (jkv js))]
noncomputable def aS (bs:ac BenchT) (ss:ac StepT) (js:ac JobT) (us:ac SetT) (ls:ac LinkT) (ks:ac StockT) (h:ag):D:=.ins "Shop" (n5 bs ss js us ls ks h)
noncomputable def lr:ac ah:=["benches","steps","jobs","setups","links","stocks","horizon","bench_by_name","step_by_name","setup_by_names","job_by_step"]
theorem sv:lr.Nodup:=by decide +kernel
theorem Cz {l:ac α} (h:l.Nodup) (n:al):(l.take n).Nodup:=Rg (Ef n l) h
section
variable {fs:ac (ah×D)} {f:ah} {fv:FE} {r:bf}
theorem jk (n:al) (hk:lr[n]?=aa f) (hf:fs.map (·.1)=lr.take n) (h:fv (aa (.obj "Shop" fs)::r)=aa d):ax (gw "Shop" f 0 fv) g (aa (.obj "Shop" fs)::r)=g (aa (.obj "Shop" (fs++[(f,d)]))::r):=by
 have hno:fs.lookup f=ab:=pG (by
  rw[hf];intro z;obtain⟨i,hi⟩:=nr z;have hin:i<n:=by
   rcases io i n with q|q
   .exact q
   .rw[yF (by rw[qC];omega)] at hi;cases hi
  rw[oG hin] at hi;have:=(Rh (cY.mp hi).1 sv).mp (hi.trans hk.symm);omega)
 have hlen:fs.length<100:=by have:=cI gX hf;rw[qf,qC] at this;have k:lr.length=11:=rfl;omega
 simp only[ax,gw,h,qb,qc,hno,hlen,u3,cu,oW]
theorem wC (n i:al) (hf:fs.map (·.1)=lr.take n) (h:fs[i]?=aa (f,d)):jq "Shop" f 0 (aa (.obj "Shop" fs)::r)=aa d:=by have e:fs.lookup f=aa d:=uv (by rw[hf];exact Cz sv n) h;show(if aa ("Shop":ah)=aa ("Shop":ah) then fs.lookup f else ab)=aa d;rw[qW rfl,e]
end
theorem BF {f:α->D} {nm:α->ah} {xs:ac α} (hf:∀x,∃r,f x=.tup (.str (nm x)::r)) (h1:fo ρ=aa (.lst (xs.map f))) (h2:xs.length<=1000) (nd:(xs.map nm).Nodup) :
  cF fT (ae (aP (bd (itF fo) (ay 0) tT (bi (szF (ae .(t) .(ad)))) [ab])) ak) ρ=aa (.dk (xs.map fun x=>(.inr (nm x),f x))):=by
 have hc:=h8 (fi:=itF fo) (fe:=bi (szF (ae .(t) .(ad)))) (fv:=[ab]) (ρ:=ρ) (r:=[]) (a:=ab) (xs:=xs.map f) (f:=fun d=>.tup [match d with|.tup (x::_)=>x|_=>.non,d]) (by unfold itF;rw[h1];rfl) (by rw[qf];exact szN h2 .(h)) rfl (fun x hx=>by obtain⟨y,_,rfl⟩:=a5.mp hx;obtain⟨r,e⟩:=hf y;simp only[ae,ak,vSh,vC,b2,bi,szF,cx,qc,qb,qe,cu,qi,ql,jR,sz2,e])
 have e:(xs.map f).map (fun d=>D.tup [match d with|.tup (x::_)=>x|_=>.non,d])=xs.map fun x=>.tup [.str (nm x),f x]:=by rw[qo];refine oZ fun x _=>?_;obtain⟨r,e⟩:=hf x;simp[e]
 rw[e] at hc;have kn:((xs.map fun x=>((.inr (nm x):Key),f x)).map (·.1)).Nodup:=by rw[qo];have:=oY (S:=fun a b:Key=>a≠b) (cB:ah->Key) (fun a b hab z=>hab (gC z)) nd;rw[qo] at this;exact this
 refine a4 (aA hc aR) ?_;show(if _ then _ else _)=_;rw[qW (by rw[qf];exact h2),p9,qe,pB kn]
theorem K0 (h1:fo ρ=aa (.lst (us.map cM))) (h2:us.length<=1000) (nd:(us.map fun u=>[u.b,u.p,u.q]).Nodup) :
  cF tP (ae (aP (bd (itF fo) (ay 0) tT (bi (szF (ae (slF (vSh 0) pN (pS .(i))) (ae (b2 ixD (vSh 0) .(i)) ak)))) [ab])) ak) ρ=aa (.dt (us.map fun u=>([u.b,u.p,u.q].map cB,.int u.n))):=by
 have hc:=h8 (fi:=itF fo) (fe:=bi (szF (ae (slF (vSh 0) pN (pS .(i))) (ae (b2 ixD (vSh 0) .(i)) ak)))) (fv:=[ab]) (ρ:=ρ) (r:=[]) (a:=ab) (xs:=us.map cM) (f:=fun d=>match d with|.tup [a,b,c,d]=>.tup [.tup [a,b,c],d]|_=>.non) (by unfold itF;rw[h1];rfl) (by rw[qf];exact szN h2 .(h)) rfl (fun x hx=>by obtain⟨y,_,rfl⟩:=a5.mp hx;simp only[ae,ak,vSh,vC,b2,bi,szF,slF,pN,pS,jr,qc,qb,qe,cu,qi,ql,jR,sz2,cM,vG])
 rw[qo] at hc;have kn:((us.map fun u=>([u.b,u.p,u.q].map (cB:ah->Key),D.int u.n)).map (·.1)).Nodup:=by rw[qo];have inj:∀a b:ac ah,a.map (cB:ah->Key)=b.map cB->a=b:=fun a b z=>(Re (fun x y q=>gC q)).mp z;have:=oY (S:=fun a b:ac Key=>a≠b) (List.map (cB:ah->Key)) (fun a b hab z=>hab (inj a b z)) nd;rw[qo] at this;exact this
 refine a4 (aA hc aR) ?_;show(if _ then _ else _)=_;have e:=BU (t:=fun u:SetT=>[u.b,u.p,u.q]) (f:=fun u=>.int u.n) us;rw[qW (by rw[qf];exact h2)];have e2:mr (us.map ((fun d=>match d with|.tup [a,b,c,d]=>D.tup [.tup [a,b,c],d]|_=>.non) ∘ cM))=aa (us.map fun u=>([u.b,u.p,u.q].map cB,.int u.n)):=e;rw[e2,qe,pB kn]
section
variable {bs:ac BenchT}
theorem vm:(iu bs ss js us ls ks h).map (·.1)=lr.take 10:=rfl
theorem Dy:(n5 bs ss js us ls ks h).map (·.1)=lr:=rfl
noncomputable abbrev r9 (bs:ac BenchT) (ss:ac StepT) (js:ac JobT) (us:ac SetT) (ls:ac LinkT) (ks:ac StockT) (h:ag) (a b:ar Slot):bf:=[oS (.lst (bs.map cq)),oS (.lst (ss.map bG)),oS .(aa),oS (.lst (us.map cM)),oS (.lst (ls.map cX)),oS (.lst (ks.map cL)),oS (.int h),oS .non,a,b]
noncomputable abbrev ob (bs:ac BenchT) (ss:ac StepT) (js:ac JobT) (us:ac SetT) (ls:ac LinkT) (ks:ac StockT) (h:ag) (kvs:ac (Key×D)):ar Slot:=aa (.objd "Shop" (iu bs ss js us ls ks h) "job_by_step" kvs)
theorem G9 {j:JobT} {m:ah} {kvs:ac (Key×D)} (hl:kvs.length<100000):jo "Shop" "job_by_step" 0 (vSh 10) (vSh 9) (ob bs ss js us ls ks h kvs::r9 bs ss js us ls ks h (oS (aW j)) (oS (.str m)))=aa (.nx,ob bs ss js us ls ks h (gP j kvs m)::r9 bs ss js us ls ks h (oS (aW j)) (oS (.str m))):=by have hno:(iu bs ss js us ls ks h).lookup ("job_by_step":ah)=ab:=pG (by rw[vm];decide +kernel);simp only[jo,vSh,qc,qd,qb,gG,hno,hl,u3,cu,oW,gP]
theorem NE {j:JobT} {acc:ac (Key×D)} {z:ar Slot} (hl:acc.length+j.ms.length<100000):∃z',bC (itF (b2 ixD (vSh 9) .(j))) (ay 10) (jo "Shop" "job_by_step" 0 (vSh 10) (vSh 9)) (ob bs ss js us ls ks h acc::r9 bs ss js us ls ks h (oS (aW j)) z)=aa (.nx,ob bs ss js us ls ks h (j.ms.foldl (gP j) acc)::r9 bs ss js us ls ks h (oS (aW j)) z'):=by
 obtain⟨ρ',h1,z',h2⟩:=dZ (gg:=ay 10) (body:=jo "Shop" "job_by_step" 0 (vSh 10) (vSh 9)) (xs:=j.ms.map D.str) (ρ:=ob bs ss js us ls ks h acc::r9 bs ss js us ls ks h (oS (aW j)) z)
  (fun i ρ=>∃z,ρ=ob bs ss js us ls ks h ((j.ms.take i).foldl (gP j) acc)::r9 bs ss js us ls ks h (oS (aW j)) z) ⟨z,by simp⟩ (fun i x ρ hx hI=>by
   obtain⟨z,rfl⟩:=hI;rw[qk] at hx;obtain⟨m,hm,rfl⟩:=oMd hx;have tk:j.ms.take (i+1)=j.ms.take i++[m]:=by rw[E2,hm];rfl
   have hlen:=xn j (j.ms.take i) acc;rw[qC] at hlen;refine⟨_,_,rfl,G9 .(e),oS (.str m),?_⟩;rw[tk,yY];rfl)
 refine⟨z',?_⟩;have e:itF (b2 ixD (vSh 9) .(j)) (ob bs ss js us ls ks h acc::r9 bs ss js us ls ks h (oS (aW j)) z)=aa (j.ms.map D.str):=by simp only[vSh,vC,b2,itF,rf,eK,qc,qd,qb,aW]
 unfold bC;rw[e,qb,h1,h2,qf,jP]
theorem GA (hj:js.length<=40) (hm:∀j∈js,j.ms.length<=40):∃z z',dB (ay 9) (bC (itF (b2 ixD (vSh 9) .(j))) (ay 10) (jo "Shop" "job_by_step" 0 (vSh 10) (vSh 9))) (js.map aW) (ob bs ss js us ls ks h []::r9 bs ss js us ls ks h ab ab)=aa (.nx,ob bs ss js us ls ks h (jkv js)::r9 bs ss js us ls ks h z z'):=by
 obtain⟨ρ',h1,z,z',h2⟩:=dZ (gg:=ay 9) (body:=bC (itF (b2 ixD (vSh 9) .(j))) (ay 10) (jo "Shop" "job_by_step" 0 (vSh 10) (vSh 9))) (xs:=js.map aW) (ρ:=ob bs ss js us ls ks h []::r9 bs ss js us ls ks h ab ab)
  (fun i ρ=>∃z z',ρ=ob bs ss js us ls ks h (jkv (js.take i))::r9 bs ss js us ls ks h z z') ⟨ab,ab,by simp[jkv]⟩ (fun i x ρ hx hI=>by
   obtain⟨z,z',rfl⟩:=hI;rw[qk] at hx;obtain⟨j,hjm,rfl⟩:=oMd hx;have tk:js.take (i+1)=js.take i++[j]:=by rw[E2,hjm];rfl
   have hlen:=zq (m:=40) (js:=js.take i) [] fun y hy=>hm y (nh hy);rw[qC,ql] at hlen;have h4:=hm j (qN hjm);obtain⟨w,hw⟩:=NE (bs:=bs) (ss:=ss) (js:=js) (us:=us) (ls:=ls) (ks:=ks) (h:=h) (j:=j) (acc:=jkv (js.take i)) (z:=z') (by unfold jkv;omega);refine⟨_,_,rfl,hw,oS (aW j),w,?_⟩;rw[tk];unfold jkv;rw[yY];rfl)
 refine⟨z,z',?_⟩;rw[h1,h2,qf,jP]
theorem Lk (g:Good bs ss js us ls ks h) (ml:(js.flatMap (·.ms)).length<=300):wx [.lst (bs.map cq),.lst (ss.map bG),.lst (js.map aW),.lst (us.map cM),.lst (ls.map cX),.lst (ks.map cL),.int h]=aa .(f):=by
 have hl:(ss.map (·.nm)).length<=40:=by rw[qf];exact g.sl.2
 have f1:=hZ (d:=.lst (bs.map cq)) (gM (by have:=g.bl.2;omega) fun x hx=>FN (g.b x hx));have f2:=hZ (d:=.lst (ss.map bG)) (gM (by have:=g.sl.2;omega) fun x hx=>Im (g.s x hx));have f3:=hZ (d:=.lst (js.map aW)) (gM (by have:=g.jl;omega) fun x hx=>xo hl (g.j x hx));have f4:=hZ (d:=.lst (us.map cM)) (gM (by have:=g.ul;omega) fun x hx=>Ia);have f5:=hZ (d:=.lst (ls.map cX)) (gM (by have:=g.ll;omega) fun x hx=>z9);have f6:=hZ (d:=.lst (ks.map cL)) (gM (by have:=g.kl;omega) fun x hx=>De hl (g.k x hx));obtain⟨z,z',ho⟩:=GA (bs:=bs) (ss:=ss) (us:=us) (ls:=ls) (ks:=ks) (h:=h) g.jl fun j hj=>qK (g.j j hj).ln hl;have key:∀(G:FS) (ρ':bf),G (aa (.obj "Shop" [])::[oS (.lst (bs.map cq)),oS (.lst (ss.map bG)),oS .(aa),oS (.lst (us.map cM)),oS (.lst (ls.map cX)),oS (.lst (ks.map cL)),oS (.int h),ab,ab,ab])=aa (.nx,ob bs ss js us ls ks h (jkv js)::ρ')->
   nJ 3 "Shop" G [.lst (bs.map cq),.lst (ss.map bG),.lst (js.map aW),.lst (us.map cM),.lst (ls.map cX),.lst (ks.map cL),.int h]=aa .(f):=fun G ρ' e=>by
  unfold nJ;show(G (aa (.obj "Shop" [])::[oS (.lst (bs.map cq)),oS (.lst (ss.map bG)),oS .(aa),oS (.lst (us.map cM)),oS (.lst (ls.map cX)),oS (.lst (ks.map cL)),oS (.int h),ab,ab,ab])).bind _=_;rw[e];rfl
 refine key _ (r9 bs ss js us ls ks h z z') ((bq (a4 rfl (Gq g ml))).trans ?_);show ax _ _ (aa (.obj "Shop" [])::r9 bs ss js us ls ks h ab ab)=_;refine(fF (aX (b:=ao) rfl)).trans ?_;refine(jk 0 rfl rfl (a4 rfl f1)).trans ?_;refine(jk 1 rfl rfl (a4 rfl f2)).trans ?_;refine(jk 2 rfl rfl (a4 rfl f3)).trans ?_;refine(jk 3 rfl rfl (a4 rfl f4)).trans ?_;refine(jk 4 rfl rfl (a4 rfl f5)).trans ?_;refine(jk 5 rfl rfl (a4 rfl f6)).trans ?_;refine(jk 6 rfl rfl (d:=.int h) rfl).trans ?_;refine(jk 7 rfl rfl (BF (f:=cq) (nm:=(·.nm)) (xs:=bs) (fun x=>⟨_,rfl⟩) (wC 7 0 rfl rfl) (by have:=g.bl.2;omega) g.bn)).trans ?_;refine(jk 8 rfl rfl (BF (f:=bG) (nm:=(·.nm)) (xs:=ss) (fun x=>⟨_,rfl⟩) (wC 8 1 rfl rfl) (by have:=g.sl.2;omega) g.sn)).trans ?_;refine(jk 9 rfl rfl (K0 (us:=us) (wC 9 3 rfl rfl) (by have:=g.ul;omega) g.un)).trans ?_;have hno:(iu bs ss js us ls ks h).lookup ("job_by_step":ah)=ab:=pG (by rw[vm];decide +kernel);have hle:(iu bs ss js us ls ks h).length<100:=by simp[iu]
 have e1:nE "Shop" "job_by_step" 0 (aa (.obj "Shop" (iu bs ss js us ls ks h))::r9 bs ss js us ls ks h ab ab)=aa (.nx,ob bs ss js us ls ks h []::r9 bs ss js us ls ks h ab ab):=by simp only[nE,qc,hno,hle,u3,cu,oW]
 have e2:itF (jq "Shop" "jobs" 0) (ob bs ss js us ls ks h []::r9 bs ss js us ls ks h ab ab)=aa (js.map aW):=by
  have lk:(iu bs ss js us ls ks h).lookup ("jobs":ah)=aa .(aa):=uv (i:=2) (by rw[vm];exact Cz sv 10) rfl;have n1:("jobs":ah)≠"job_by_step":=by decide +kernel
  have e:jq "Shop" "jobs" 0 (ob bs ss js us ls ks h []::r9 bs ss js us ls ks h ab ab)=aa .(aa):=by show(if aa ("Shop":ah)=aa ("Shop":ah) then (if ("jobs":ah)="job_by_step" then ab else (iu bs ss js us ls ks h).lookup ("jobs":ah)) else ab)=_;rw[qW rfl,qX n1,lk]
  unfold itF;rw[e];rfl
 show ax (nE "Shop" "job_by_step" 0) (bC (itF (jq "Shop" "jobs" 0)) (ay 9) (bC (itF (b2 ixD (vSh 9) .(j))) (ay 10) (jo "Shop" "job_by_step" 0 (vSh 10) (vSh 9)))) (aa (.obj "Shop" (iu bs ss js us ls ks h))::r9 bs ss js us ls ks h ab ab)=_;unfold ax;rw[e1,qb];show bC _ _ _ _=_;unfold bC;rw[e2,qb];exact ho
end
theorem bR {b:aN} (h:ft ρ=aa b):sIf ft g g' ρ=if b=ai then g ρ else g' ρ:=by unfold sIf;rw[h];rfl
theorem bY (h:g ρ=aa (.nx,ρ1)):ax g g' ρ=g' ρ1:=by unfold ax;rw[h];rfl
theorem lY (h:f ρ=aa d):aM i f ρ=aa (.nx,ρ.set i (oS d)):=by unfold aM;rw[h];rfl
theorem tH (h1:ρ[i]?=aa (aa (.own ds))) (h2:f ρ=aa d) (h3:ds.length<aT):c8 i f ρ=aa (.nx,ρ.set i (aa (.own (ds++[d])))):=by unfold c8;rw[h1];show(f ρ).bind _=_;rw[h2,qb,qW h3]
theorem ku :ax (dI i (szF ak)) g ρ=g (ρ.set i (aa (.own []))):=by
 have z0:(0<=aT)=True:=by simp
 simp only[ax,dI,szF,ak,qb,qe,ql,z0,cu]
theorem iD (h1:ρ[i]?=aa (aa (.own ds))):eB i g ρ=g (ρ.set i (oS (.lst ds))):=by unfold eB;rw[h1]
theorem cW (h:fi ρ=aa xs):bC fi gg body ρ=dB gg body xs ρ:=by unfold bC;rw[h];rfl
theorem dQ {a b:ag} (h:0<b):bQ (.int a) (.int b)=aa (.int (a%b)):=qW h
theorem o5 {a b:ag} (h:0<b/\b<1073741824):eY (.int a) (.int b)=aa (.int (a / b)):=qW h
theorem Lp:(2:ag) ^ 64=18446744073709551616:=by decide +kernel
theorem nF {a b:ag} (h:(-1000000000000<a/\a<1000000000000)\/(-1000000000000<b/\b<1000000000000)):cT (.int a) (.int b)=aa (.int (a*b)):=by show(if _ then _ else _)=_;rw[Lp];exact qW .(e)
theorem lA (ns:ac ag) (k:al):fg [.scr ns,.int (k:ag)]=aa (.int (ns.getD k 0)):=by
 have e:toB (b2 ltD (vSh 1) (cF b8 .(ad))) [oS (.scr ns),oS (.int k)]=aa (decide (k<ns.length)):=by
  simp only[toB,cF,ae,ak,vSh,b2,b8,ltD,qc,qd,qb,qe]
  congr 1
  exact o0.mpr .(e)
 by_cases h:k<ns.length
 .refine bO [oS (.scr ns),oS (.int k)] rfl (jZ (e.trans (by rw[qQ h])) (bT ?_));show(atI ns (k:ag)).map D.int=_;rw[li];simp[oN,h]
 .refine bO [oS (.scr ns),oS (.int k)] rfl ((fF (e.trans (by rw[qL h]))).trans (bT ?_));have:ns.getD k 0=0:=by simp[oN,Qa h]
  rw[this];rfl
noncomputable abbrev dE (c:ag) (k:al) (sz:ac ag) (n:ag) (ds:ac ag) (a b:ar Slot):bf:=[oS (.int c),oS (.int k),oS (.lst (sz.map D.int)),oS (.int n),aa (.own (ds.map D.int)),a,b]
noncomputable def xv:FS:=sIf (orT (toB (b2 eqD (b2 bQ (vSh 0) .(l)) .(d))) (toB (b2 eqD (vSh 3) .(c)))) .(S) (ax (c8 4 (b2 bQ (vSh 3) (vSh 6))) (aM 3 (b2 eY (vSh 3) (vSh 6))))
theorem Gi {c n s:ag} {k t:al} {sz ds:ac ag} (hk:k<=1000) (ht:t<=100) (hs:0<s/\s<1073741824) (hl:ds.length<=100):∃n' d,xv (dE c k sz n ds (oS (.int t)) (oS (.int s)))=aa (.nx,dE c k sz n' (ds++[d]) (oS (.int t)) (oS (.int s)))/\0<=d/\d<s:=by
 have e1:toB (b2 eqD (b2 bQ (vSh 0) .(l)) .(d)) (dE c k sz n ds (oS (.int t)) (oS (.int s)))=aa (decide (c%2=1)):=
  aX (au (au rfl rfl (dQ .(h))) rfl rfl)
 have e2:toB (b2 eqD (vSh 3) .(c)) (dE c k sz n ds (oS (.int t)) (oS (.int s)))=aa (decide (n=0)):=aX .(P);have e3:orT (toB (b2 eqD (b2 bQ (vSh 0) .(l)) .(d))) (toB (b2 eqD (vSh 3) .(c))) (dE c k sz n ds (oS (.int t)) (oS (.int s)))=aa (decide (c%2=1) || decide (n=0)):=by unfold orT;rw[e1,qb,e2];cases decide (c%2=1)<;>rfl
 have hsz:(ds.map D.int).length<aT:=by rw[qf];unfold aT;omega
 unfold xv;rw[bR e3];split
 .have q1:0<=(n+c)%2147483629:=qV _ .(h);have q2:(n+c)%2147483629<2147483629:=qS _ .(h);have q3:0<=(k:ag)+t/\(k:ag)+t<=1100:=by omega
  have q4:0<=7919*((k:ag)+t)*((k:ag)+t):=E4 .(e) q3.1;have q5:7919*((k:ag)+t)*((k:ag)+t)<=7919*1100*1100:=Int.mul_le_mul .(e) q3.2 q3.1 .(h)
  let n2:ag:=(n+c)%2147483629+48271+7919*((k:ag)+t)*((k:ag)+t)
  refine⟨n2*n2%2147483587,n2*n2%2147483587 / 16%s,(bq (au (au .(P) rfl (dQ .(h))) rfl rfl)).trans ((bq (au rfl (au (au rfl .(P) (nF (.inl .(h)))) .(P) (nF (.inr .(e)))) rfl)).trans ((bq (au (au rfl rfl (nF (.inl .(e)))) rfl (dQ .(h)))).trans (tH rfl (au (au rfl rfl (o5 .(h))) rfl (dQ hs.1)) hsz))) |>.trans ?_,qV _ .(e),qS _ hs.1⟩;simp[dE];exact⟨rfl,rfl⟩
 .refine⟨n / s,n%s,(bY (tH rfl (au rfl rfl (dQ hs.1)) hsz)).trans (lY (au rfl rfl (o5 hs))) |>.trans ?_,qV _ .(e),qS _ hs.1⟩;simp[dE]
theorem oa (h:(xs.mapIdx fun i d=>D.tup [.int i,d])[i]?=aa d):∃x,xs[i]?=aa x/\d=.tup [.int i,x]:=by rw[Qk] at h;obtain⟨x,hx,rfl⟩:=oMd h;exact⟨x,hx,rfl⟩
theorem mG (c:ag) (k:al) (hk:k<=1000) (sz:ac ag) (hs:∀s∈sz,0<s/\s<1073741824) (hl:sz.length<=100) :
  ∃ds:ac ag,eh [.int c,.int (k:ag),.lst (sz.map D.int)]=aa .(u)/\ds.length=sz.length/\∀(i:al) s,sz[i]?=aa s->∃d,ds[i]?=aa d/\0<=d/\d<s:=by
 obtain⟨n0,hn0⟩:∃n0:ag,b2 eY (cF uu .(ad)) .(l) [oS (.int c),oS (.int k),oS (.lst (sz.map D.int)),ab,ab,ab,ab]=aa (.int n0):=⟨_,au (a4 (aA rfl aR) rfl) rfl (o5 .(h))⟩;obtain⟨ρ',h1,n,ds,a,b,h2,h3,h4⟩:=dZ (gg:=bN 2 (aI (ay 5) (aI (ay 6) bM))) (body:=xv) (xs:=(sz.map D.int).mapIdx fun i d=>D.tup [.int i,d]) (ρ:=dE c k sz n0 [] ab ab)
  (fun i ρ=>∃n ds a b,ρ=dE c k sz n ds a b/\ds.length=i/\∀(j:al) s,j<i->sz[j]?=aa s->∃d,ds[j]?=aa d/\0<=d/\d<s) ⟨n0,[],ab,ab,rfl,rfl,fun j s hj=>by omega⟩ (fun i x ρ hx hI=>by
   obtain⟨n,ds,a,b,rfl,hlen,hb⟩:=hI;obtain⟨y,hy,rfl⟩:=oa hx;rw[qk] at hy;obtain⟨s,hsi,rfl⟩:=oMd hy;have hi:i<sz.length:=(cY.mp hsi).1;obtain⟨n',d,e1,e2,e3⟩:=Gi (c:=c) (n:=n) (k:=k) (t:=i) (sz:=sz) (ds:=ds) hk .(e) (hs s (qN hsi)) .(e);refine⟨_,_,rfl,e1,n',ds++[d],_,_,rfl,by rw[qj,hlen];rfl,fun j s' hj hs'=>?_⟩;by_cases hji:j=i
   .subst hji;rw[hsi] at hs';cases hs';exact⟨d,by rw[qI .(e),hlen,Nat.sub_self];rfl,e2,e3⟩
   .obtain⟨d',q1,q2⟩:=hb j s' .(e) hs';exact⟨d',by rw[qx .(e)];exact q1,q2⟩)
 rw[ng,qf] at h3 h4;refine⟨ds,?_,h3,fun i s hi=>h4 i s (cY.mp hi).1 hi⟩;refine bO [oS (.int c),oS (.int k),oS (.lst (sz.map D.int)),ab,ab,ab,ab] rfl ((bq hn0).trans (ku.trans ((bY ((cW (xs:=(sz.map D.int).mapIdx fun i d=>D.tup [.int i,d]) rfl).trans (h1.trans (by rw[h2])))).trans ((iD rfl).trans (bT (f:=vSh 4) rfl)))))
noncomputable def nm (k:al):ah:=match fN [.int (k:ag)] with
 |some (.str x)=>x
 |_=>⟨#[]⟩
noncomputable def AW (k:al):aN:=match fN [.int (k:ag)] with
 |some (.str x)=>ba x
 |_=>ao
theorem Ga:∀k,k<90->AW k=ai:=by decide +kernel
theorem kU {k:al} (h:k<90):fN [.int (k:ag)]=aa (.str (nm k))/\ba (nm k)=ai:=by
 have:=Ga k h;unfold AW at this;unfold nm;split at this
 .rename_i x e;rw[e];exact⟨rfl,this⟩
 .cases this
theorem J5:∀i,i<10->∀j,j<10->nm i=nm j->i=j:=by decide +kernel
theorem Hb:∀i,i<3->∀j,j<3->nm (60+i)=nm (60+j)->i=j:=by decide +kernel
theorem OT:∀i,i<3->∀j,j<3->nm (70+i)=nm (70+j)->i=j:=by decide +kernel
theorem KC:∀i,i<7->∀j,j<7->nm (80+i)=nm (80+j)->i=j:=by decide +kernel
noncomputable def pqr (i:al):ah:=if i=0 then "p" else if i=1 then "q" else "r"
theorem nV:∀i,i<3->ba (pqr i)=ai:=by decide +kernel
theorem wW {i:ag} (h0:0<=i) (h:i<3):ixD (.str "pqr") (.int i)=aa (.str (pqr i.toNat)):=by
 have:i=0\/i=1\/i=2:=by omega
 rcases this with rfl|rfl|rfl<;>rfl
theorem MG {d:ag} (h:0<=d):nD ab (aa d) (.lst xs)=aa (.lst (xs.take d.toNat)):=by
 show aa (D.lst (dO xs ab (aa d)))=_;unfold dO HT.sIx;simp only;rw[qX .(e),yH,Nat.sub_zero]
 congr 2
 rw[Ri];split
 .rfl
 .rw[rP (qv _),rP .(e)]
theorem KD {d:ag} (h:0<=d):nD (aa d) ab (.lst xs)=aa (.lst (xs.drop d.toNat)):=by
 show aa (D.lst (dO xs (aa d) ab))=_;unfold dO HT.sIx;simp only;rw[qX .(e)]
 congr 2
 rw[Ri];split
 .rw[rP (by rw[iQ];omega)]
 .rw[Rj (qv _),Rj .(e)];simp
theorem pk {g:FE} {d:ag} (h1:f ρ=aa (.lst xs)) (h2:g ρ=aa (.int d)) (h:0<=d):slF f pN (pS g) ρ=aa (.lst (xs.take d.toNat)):=by unfold slF pN pS;rw[h1,h2];exact MG h
theorem xf {g:FE} {d:ag} (h1:f ρ=aa (.lst xs)) (h2:g ρ=aa (.int d)) (h:0<=d):slF f (pS g) pN ρ=aa (.lst (xs.drop d.toNat)):=by unfold slF pN pS;rw[h1,h2];exact KD h
structure GoodI (h:ag) (br:ac (ag×ag)):Prop where
 iv:∀p∈br,0<=p.1/\p.1<p.2/\p.2<=h
 gap:∀(i:al) p q,br[i]?=aa p->br[i+1]?=aa q->p.2<q.1
noncomputable abbrev sE (rs:ac (ag×ag)) (h:ag) (br:ac (ag×ag)) (f:ag) (a b c d:ar Slot):bf:=[oS (.lst (rs.map dIv)),oS (.int h),aa (.own (br.map dIv)),oS (.int f),a,b,c,d]
noncomputable def CT:FS:=ax (aM 6 (b2 aV (vSh 3) (vSh 4))) (ax (aM 7 (b2 aV (b2 aV (vSh 6) .(d)) (vSh 5))) (sIf (toB (b2 leD (vSh 7) (vSh 1))) (ax (c8 2 (bi (szF (ae (vSh 6) (ae (vSh 7) ak))))) (aM 3 (b2 aV (vSh 7) .(d)))) aH))
theorem gv {g:FE} {x:D} (h1:f ρ=aa x) (h2:g ρ=aa y):bi (szF (ae f (ae g ak))) ρ=aa (.tup [x,y]):=by simp only[bi,szF,ae,ak,h1,h2,qb,qe,qi,ql,jR,sz2,cu]
theorem o9 {g e:FE} {x:D} (h1:f ρ=aa x) (h2:g ρ=aa y) (h3:e ρ=aa z):bi (szF (ae f (ae g (ae e ak)))) ρ=aa (.tup [x,y,z]):=by simp only[bi,szF,ae,ak,h1,h2,h3,qb,qe,qi,ql,jR,sz3,cu]
theorem OX {g e a:FE} {x w:D} (h1:f ρ=aa x) (h2:g ρ=aa y) (h3:e ρ=aa z) (h4:a ρ=aa w):bi (szF (ae f (ae g (ae e (ae a ak))))) ρ=aa (.tup [x,y,z,w]):=by simp only[bi,szF,ae,ak,h1,h2,h3,h4,qb,qe,qi,ql,jR,sz4,cu]
theorem Aa {g e a b:FE} {x w u:D} (h1:f ρ=aa x) (h2:g ρ=aa y) (h3:e ρ=aa z) (h4:a ρ=aa w) (h5:b ρ=aa u):bi (szF (ae f (ae g (ae e (ae a (ae b ak)))))) ρ=aa (.tup [x,y,z,w,u]):=by simp only[bi,szF,ae,ak,h1,h2,h3,h4,h5,qb,qe,qi,ql,jR,sz5,cu]
theorem Nx (rs:ac (ag×ag)) (h:ag) (hr:∀p∈rs,0<=p.1/\0<=p.2) (hl:rs.length<=3):∃br:ac (ag×ag),tI [.lst (rs.map dIv),.int h]=aa (.lst (br.map dIv))/\br.length<=rs.length/\GoodI h br:=by
 obtain⟨ρ',h1,br,f,a,b,c,d,h2,h3,h4,h5,h6⟩:=dZ (gg:=bN 2 (aI (ay 4) (aI (ay 5) bM))) (body:=CT) (xs:=rs.map dIv) (ρ:=sE rs h [] 0 ab ab ab ab)
  (fun i ρ=>∃br f a b c d,ρ=sE rs h br f a b c d/\br.length<=i/\GoodI h br/\0<=f/\∀p∈br,p.2<f) ⟨[],0,ab,ab,ab,ab,rfl,qv _,⟨fun p hp=>(by cases hp),fun i p q hp=>(by simp at hp)⟩,o2 _,fun p hp=>(by cases hp)⟩ (fun i x ρ hx hI=>by
   obtain⟨br,f,a,b,c,d,rfl,hlen,hg,hf,hlt⟩:=hI;rw[qk] at hx;obtain⟨p,hp,rfl⟩:=oMd hx;obtain⟨p1,p2⟩:=hr p (qN hp);have hi:i<rs.length:=(cY.mp hp).1;have hsz:(br.map dIv).length<aT:=by rw[qf];unfold aT;omega
   have pre:∀ρ2,(sIf (toB (b2 leD (vSh 7) (vSh 1))) (ax (c8 2 (bi (szF (ae (vSh 6) (ae (vSh 7) ak))))) (aM 3 (b2 aV (vSh 7) .(d)))) aH) (sE rs h br f (oS (.int p.1)) (oS (.int p.2)) (oS (.int (f+p.1))) (oS (.int (f+p.1+1+p.2))))=aa (.nx,ρ2)->CT (sE rs h br f (oS (.int p.1)) (oS (.int p.2)) c d)=aa (.nx,ρ2):=fun ρ2 q=>
    (bq .(P)).trans ((bq (au .(P) rfl rfl)).trans q)
   have e:toB (b2 leD (vSh 7) (vSh 1)) (sE rs h br f (oS (.int p.1)) (oS (.int p.2)) (oS (.int (f+p.1))) (oS (.int (f+p.1+1+p.2))))=aa (decide (f+p.1+1+p.2<=h)):=aX .(P);by_cases hh:f+p.1+1+p.2<=h
   .rw[qQ hh] at e;refine⟨_,_,rfl,pre _ ((bR e).trans ((qW rfl).trans ((bY (tH rfl (gv rfl rfl) hsz)).trans (lY .(P))))),br++[(f+p.1,f+p.1+1+p.2)],f+p.1+1+p.2+1,oS (.int p.1),oS (.int p.2),oS (.int (f+p.1)),oS (.int (f+p.1+1+p.2)),?_,?_,⟨fun q hq=>?_,fun j q q' hq hq'=>?_⟩,by omega,fun q hq=>?_⟩
    .simp[sE,dIv]
    .rw[qj];simp;omega
    .rcases cR.mp hq with z|z
     .exact hg.iv q z
     .rw[bW.mp z];exact⟨by omega,by omega,hh⟩
    .have hj:j+1<br.length+1:=by have:=(cY.mp hq').1;simpa using this
     rw[qx .(e)] at hq;by_cases hj2:j+1<br.length
     .rw[qx hj2] at hq';exact hg.gap j q q' hq hq'
     .rw[qI .(e),show j+1-br.length=0 by omega] at hq';cases hq';have:=hlt q (qN hq);show q.2<f+p.1;omega
    .rcases cR.mp hq with z|z
     .have:=hlt q z;omega
     .rw[bW.mp z];show f+p.1+1+p.2 < _;omega
   .rw[qL hh] at e;exact⟨_,_,rfl,pre _ ((bR e).trans rfl),br,f,_,_,_,_,rfl,by omega,hg,hf,hlt⟩)
 rw[qf] at h3;refine⟨br,bO [oS (.lst (rs.map dIv)),oS (.int h),ab,ab,ab,ab,ab,ab] rfl (ku.trans ((bq (d:=.int 0) rfl).trans ((bY ((cW (xs:=rs.map dIv) rfl).trans (h1.trans (by rw[h2])))).trans ((iD rfl).trans (bT (f:=vSh 2) rfl))))),h3,h4⟩
theorem mw {g:α->D} {xs:ac α} {x:α} (h1:ρ[i]?=aa (aa (.own (xs.map g)))) (h2:f ρ=aa (g x)) (h3:xs.length<=1000):c8 i f ρ=aa (.nx,ρ.set i (aa (.own ((xs++[x]).map g)))):=by rw[tH h1 h2 (by rw[qf];unfold aT;omega),iT];rfl
theorem BA {g e:FE} {x:D} (h1:f ρ=aa x) (h2:g ρ=aa y) (h3:e ρ=aa z):aP (szF (ae f (ae g (ae e ak)))) ρ=aa (.lst [x,y,z]):=by simp only[aP,szF,ae,ak,h1,h2,h3,qb,qe,qi,ql,jR,sz3,cu]
theorem cH {ds:ac ag} {d:ag} (h1:f ρ=aa .(u)) (h2:ds[n]?=aa d):b2 ixD f (vC (.int (n:ag))) ρ=aa (.int d):=
 au h1 rfl (by rw[ixL,qk,h2];rfl)
structure BenchAt (h:ag) (i:al) (b:BenchT):Prop where
 nm:b.nm=nm (60+i)
 len:b.br.length<=3
 good:GoodI h b.br
noncomputable abbrev bE (cs:ac ag) (h:ag) (bs:ac BenchT) (a b c d:ar Slot):bf:=[oS (.lst (cs.map D.int)),oS (.int h),aa (.own (bs.map cq)),a,b,c,d]
noncomputable def Dl:FE:=aP (szF (ae .(j) (ae (vC (.int 5)) (ae .(i) (ae (vC (.int 7)) (ae .(j) (ae (vC (.int 9)) (ae (vC (.int 5)) ak))))))))
theorem No (ρ:bf):Dl ρ=aa (.lst (([4,5,3,7,4,9,5]:ac ag).map D.int)):=rfl
noncomputable def Cj:FS:=ax (aM 5 (cF eh (ae (vSh 4) (ae (vSh 3) (ae Dl ak))))) .(I)
theorem LV {c:ag} {bs:ac BenchT} {y z:ar Slot} (hi:i<3) (hl:bs.length<=3):∃b u v,Cj (bE cs h bs (oS (.int i)) (oS (.int c)) y z)=aa (.nx,bE cs h (bs++[b]) (oS (.int i)) (oS (.int c)) u v)/\BenchAt h i b:=by
 obtain⟨ds,e,hd,hb⟩:=mG c i .(e) [4,5,3,7,4,9,5] .(h) .(h);obtain⟨d0,q0,p0,_⟩:=hb 0 4 rfl;obtain⟨d1,q1,p1,_⟩:=hb 1 5 rfl;obtain⟨d2,q2,p2,_⟩:=hb 2 3 rfl;obtain⟨d3,q3,p3,_⟩:=hb 3 7 rfl;obtain⟨d4,q4,p4,_⟩:=hb 4 4 rfl;obtain⟨d5,q5,p5,_⟩:=hb 5 9 rfl;obtain⟨d6,q6,p6,_⟩:=hb 6 5 rfl;have hrs:∀p∈([(d1,d2),(d3,d4),(d5,d6)]:ac (ag×ag)).take d0.toNat,0<=p.1/\0<=p.2:=fun p hp=>by
  have:=nh hp;simp only[qJ,qH,or_false] at this;rcases this with rfl|rfl|rfl
  .exact⟨p1,p2⟩
  .exact⟨p3,p4⟩
  .exact⟨p5,p6⟩
 obtain⟨br,es,hbl,hbg⟩:=Nx (([(d1,d2),(d3,d4),(d5,d6)]:ac (ag×ag)).take d0.toNat) h hrs (by rw[qC];simp;omega);have hn:=(kU (k:=60+i) .(e)).1;have hn':fN [.int (60+(i:ag))]=aa (.str (nm (60+i))):=by rw[←hn];congr 2
 refine⟨⟨nm (60+i),br⟩,_,_,(bq (d:=.lst (ds.map D.int)) (a4 (aA rfl (aA rfl (aA (No _) aR))) e)).trans ((bq (d:=.lst ((([(d1,d2),(d3,d4),(d5,d6)]:ac (ag×ag)).take d0.toNat).map dIv)) ?_).trans (mw rfl (gv (a4 (aA .(P) aR) hn') (a4 .(q) es)) .(e))),rfl,by rw[qC] at hbl;simp at hbl;show br.length<=3;omega,hbg⟩;rw[u5];exact pk (xs:=[dIv (d1,d2),dIv (d3,d4),dIv (d5,d6)]) (BA (gv (cH rfl q1) (cH rfl q2)) (gv (cH rfl q3) (cH rfl q4)) (gv (cH rfl q5) (cH rfl q6))) (cH rfl q0) p0
theorem Ph (cs:ac ag) (h:ag) (hl:cs.length<=3):∃bs:ac BenchT,wy [.lst (cs.map D.int),.int h]=aa (.lst (bs.map cq))/\bs.length=cs.length/\∀(i:al) b,bs[i]?=aa b->BenchAt h i b:=by
 obtain⟨ρ',h1,bs,a,b,c,d,h2,h3,h4⟩:=dZ (gg:=bN 2 (aI (ay 3) (aI (ay 4) bM))) (body:=Cj) (xs:=(cs.map D.int).mapIdx fun i d=>D.tup [.int i,d]) (ρ:=bE cs h [] ab ab ab ab)
  (fun i ρ=>∃bs a b c d,ρ=bE cs h bs a b c d/\bs.length=i/\∀(j:al) b,bs[j]?=aa b->BenchAt h j b) ⟨[],ab,ab,ab,ab,rfl,rfl,fun j b hj=>(by simp at hj)⟩ (fun i x ρ hx hI=>by
   obtain⟨bs,a,b,c,d,rfl,hlen,hb⟩:=hI;obtain⟨y,hy,rfl⟩:=oa hx;rw[qk] at hy;obtain⟨s,hsi,rfl⟩:=oMd hy;have hi:i<cs.length:=(cY.mp hsi).1;obtain⟨b',u,v,e1,e2⟩:=LV (cs:=cs) (h:=h) (c:=s) (bs:=bs) (i:=i) (y:=c) (z:=d) .(e) .(e);refine⟨_,_,rfl,e1,bs++[b'],_,_,_,_,rfl,by rw[qj,hlen];rfl,fun j b'' hj=>?_⟩;by_cases hji:j<bs.length
   .rw[qx hji] at hj;exact hb j b'' hj
   .have hl2:=(cY.mp hj).1;rw[qj,qT] at hl2;rw[qI .(e),show j-bs.length=0 by omega] at hj;cases hj;rw[show j=i by omega];exact e2)
 rw[ng,qf] at h3;exact⟨bs,bO [oS (.lst (cs.map D.int)),oS (.int h),ab,ab,ab,ab,ab] rfl (ku.trans ((bY ((cW (xs:=(cs.map D.int).mapIdx fun i d=>D.tup [.int i,d]) rfl).trans (h1.trans (by rw[h2])))).trans ((iD rfl).trans (bT (f:=vSh 2) rfl)))),h3,h4⟩
noncomputable def bnm (bs:ac BenchT) (i:al):ah:=(bs.map (·.nm)).getD i ⟨#[]⟩
theorem C7 {bs:ac BenchT} (h:i<bs.length):bnm bs i∈bs.map (·.nm):=by unfold bnm;rw[oV,qk,qB h];exact qU (uN h)
theorem CL {bs:ac BenchT} {g:FE} {d:ag} (h1:f ρ=aa (.lst (bs.map cq))) (h2:g ρ=aa (.int d)) (h3:0<=d) (h4:d<bs.length):b2 ixD (b2 ixD f g) .(c) ρ=aa (.str (bnm bs d.toNat)):=by
 obtain⟨n,rfl⟩:=Rk h3;have hd:n<bs.length:=by omega
 have e:ixD (.lst (bs.map cq)) (.int (n:ag))=aa (cq bs[n]):=by rw[ixL,qk,qB hd];rfl
 refine au (au h1 h2 e) rfl ?_;show ixD (.tup _) (.int 0)=_;rw[cx];unfold bnm;rw[kL,oV,qk,qB hd];rfl
structure StepAt (bn:ac ah) (h:ag) (i:al) (s:StepT):Prop where
 nm:s.nm=nm i
 good:GoodS bn h s
noncomputable abbrev tE (cs:ac ag) (bs:ac BenchT) (h lo:ag) (ss:ac StepT) (a b c d:ar Slot):bf:=[oS (.lst (cs.map D.int)),oS (.lst (bs.map cq)),oS (.int h),oS (.int lo),aa (.own (ss.map bG)),a,b,c,d]
theorem Hm {x:D} (h1:f ρ=aa x):szF (ae f ak) ρ=aa [x]:=by simp only[szF,ae,ak,h1,qb,qe,qi,ql,jR,sz1,cu]
theorem Aj {g e a b c:FE} {x w u v:D} (h1:f ρ=aa x) (h2:g ρ=aa y) (h3:e ρ=aa z) (h4:a ρ=aa w) (h5:b ρ=aa u) (h6:c ρ=aa v):aP (szF (ae f (ae g (ae e (ae a (ae b (ae c ak))))))) ρ=aa (.lst [x,y,z,w,u,v]):=by simp only[aP,szF,ae,ak,h1,h2,h3,h4,h5,h6,qb,qe,qi,ql,jR,sz6,cu]
theorem xM {g e a b c d:FE} {x w u v t:D} (h1:f ρ=aa x) (h2:g ρ=aa y) (h3:e ρ=aa z) (h4:a ρ=aa w) (h5:b ρ=aa u) (h6:c ρ=aa v) (h7:d ρ=aa t):aP (szF (ae f (ae g (ae e (ae a (ae b (ae c (ae d ak)))))))) ρ=aa (.lst [x,y,z,w,u,v,t]):=by simp only[aP,szF,ae,ak,h1,h2,h3,h4,h5,h6,h7,qb,qe,qi,ql,jR,sz7,cu]
theorem xZ (h:fr ρ=aa ds):ax (dI i fr) g ρ=g (ρ.set i (aa (.own ds))):=by simp only[ax,dI,h,qe,qb]
theorem wG {f g:FT} {a b:aN} (h1:f ρ=aa a) (h2:g ρ=aa b):cm f g ρ=aa (a && b):=by unfold cm;rw[h1,qb,h2];cases a<;>rfl
theorem xt (a:ag) (hh:1<=h):1<=1+a%h/\1+a%h<=h:=by have h1:=qV a (show h≠0 by omega);have h2:=qS a (show 0<h by omega);omega
noncomputable def Bo:FS:=(ax (aM 7 (cF eh .(af))) .(B))
theorem GW {c:ag} {bs:ac BenchT} {y z:ar Slot} (hh:1<=h) (hlo:0<lo/\lo<1000) (hi:i<10) (hb:1<=bs.length/\bs.length<=3) (bnd:(bs.map (·.nm)).Nodup) (hl:ss.length<=10) :
  ∃s u v,Bo (tE cs bs h lo ss (oS (.int i)) (oS (.int c)) y z)=aa (.nx,tE cs bs h lo (ss++[s]) (oS (.int i)) (oS (.int c)) u v)/\StepAt (bs.map (·.nm)) h i s:=by
 obtain⟨ds,e,hd,hbd⟩:=mG c (i+7) .(e) [3,(bs.length:ag),lo,(bs.length:ag),lo,3] (by intro s hs;simp only[qJ,qH,or_false] at hs;rcases hs with rfl|rfl|rfl|rfl|rfl|rfl<;>omega) (by simp)
 obtain⟨d0,q0,p0,_⟩:=hbd 0 3 rfl;obtain⟨d1,q1,p1,r1⟩:=hbd 1 _ rfl;obtain⟨d2,q2,p2,_⟩:=hbd 2 _ rfl;obtain⟨d3,q3,p3,r3⟩:=hbd 3 _ rfl;obtain⟨d4,q4,p4,_⟩:=hbd 4 _ rfl;obtain⟨d5,q5,p5,r5⟩:=hbd 5 3 rfl;obtain⟨hn,hnb⟩:=kU (k:=i) .(e);have w1:(bnm bs d1.toNat)∈bs.map (·.nm):=C7 .(e);have w3:(bnm bs d3.toNat)∈bs.map (·.nm):=C7 .(e);have bm:∀a b:al,a<bs.length->b<bs.length->bnm bs a=bnm bs b->a=b:=fun a b ha hb' hab=>by unfold bnm at hab;rw[oV,oV,qB (by simpa using ha),qB (by simpa using hb')] at hab;exact(Ps bnd).mp hab
 let W1:ah×ag:=(bnm bs d1.toNat,1+d2%h)
 let W3:ah×ag:=(bnm bs d3.toNat,1+d4%h)
 have e7:((i:ag)+7)=((i+7:al):ag):=by omega
 have eD:cF eh .(af) (tE cs bs h lo ss (oS (.int i)) (oS (.int c)) y z)=aa .(u):=by
  refine a4 (aA (d:=.int c) rfl (aA (d:=.int ((i:ag)+7)) .(P) (aA (Aj rfl (y:=.int (bs.length:al)) ?_ rfl (w:=.int (bs.length:al)) ?_ rfl rfl) aR))) (by rw[e7];exact e)<;>
  .refine a4 (aA rfl aR) ?_;show aa (D.int _)=_;rw[qf]
 have fin:∀(ws:ac (ah×ag)),GoodS (bs.map (·.nm)) h ⟨nm i,pqr d5.toNat,ws⟩->eB 8 (c8 4 (bi (szF (ae (cF fN (ae (vSh 5) ak)) (ae (b2 ixD (vC (.str "pqr")) (b2 ixD (vSh 7) (vC (.int 5)))) (ae (vSh 8) ak)))))) (tE cs bs h lo ss (oS (.int i)) (oS (.int c)) (oS .(u)) (aa (.own (ws.map dW))))=aa (.nx,tE cs bs h lo (ss++[⟨nm i,pqr d5.toNat,ws⟩]) (oS (.int i)) (oS (.int c)) (oS .(u)) (oS (.lst (ws.map dW)))):=fun ws _=>
  (iD rfl).trans (mw rfl (o9 (a4 (aA rfl aR) hn) (au rfl (cH rfl q5) (wW p5 r5)) rfl) .(e))
 have eW:∀Z,szF (ae (bi (szF (ae (b2 ixD (b2 ixD (vSh 1) (b2 ixD (vSh 7) .(d))) .(c)) (ae (b2 aV .(d) (b2 bQ (b2 ixD (vSh 7) .(l)) (vSh 2))) ak)))) ak) (tE cs bs h lo ss (oS (.int i)) (oS (.int c)) (oS .(u)) Z)=aa ([W1].map dW):=fun Z=>
  Hm (gv (CL rfl (cH rfl q1) p1 .(e)) (au rfl (au (cH rfl q2) rfl (dQ .(e))) rfl))
 have eT:∀Z,cm (toB (b2 eqD (b2 ixD (vSh 7) .(c)) .(c))) (toB (b2 neA (b2 ixD (vSh 7) .(i)) (b2 ixD (vSh 7) .(d)))) (tE cs bs h lo ss (oS (.int i)) (oS (.int c)) (oS .(u)) Z)=aa (decide (d0=0) && !decide (d3=d1)):=fun Z=>
  wG (aX (au (cH rfl q0) rfl rfl)) (aX (au (cH rfl q3) (cH rfl q1) rfl))
 have g1:GoodS (bs.map (·.nm)) h ⟨nm i,pqr d5.toNat,[W1]⟩:=⟨hnb,nV _ .(e),by simp,by simp,fun w hw=>by rw[bW.mp hw];exact⟨w1,xt d2 hh⟩,by simp⟩
 by_cases ht:(decide (d0=0) && !decide (d3=d1))=ai
 .have hne:d3≠d1:=by simp only[cS,kK,oU] at ht;exact ht.2
  have g2:GoodS (bs.map (·.nm)) h ⟨nm i,pqr d5.toNat,[W1]++[W3]⟩:=⟨hnb,nV _ .(e),by simp,by simp,fun w hw=>by
   rcases cR.mp hw with q|q
   .rw[bW.mp q];exact⟨w1,xt d2 hh⟩
   .rw[bW.mp q];exact⟨w3,xt d4 hh⟩,by
   show[bnm bs d1.toNat,bnm bs d3.toNat].Nodup;rw[il];refine⟨fun q=>?_,by simp⟩;have:=bm _ _ .(e) .(e) (bW.mp q);omega⟩
  exact⟨_,_,_,(bq eD).trans ((xZ (eW z)).trans ((bY ((bR (eT _)).trans ((qW ht).trans (mw (x:=W3) rfl (gv (CL rfl (cH rfl q3) p3 .(e)) (au rfl (au (cH rfl q4) rfl (dQ .(e))) rfl)) (by simp))))).trans (fin _ g2))),rfl,g2⟩
 .exact⟨_,_,_,(bq eD).trans ((xZ (eW z)).trans ((bY ((bR (eT _)).trans ((qX ht).trans rfl))).trans (fin _ g1))),rfl,g1⟩
theorem Gy (cs:ac ag) (bs:ac BenchT) (h lo:ag) (hh:1<=h) (hlo:0<lo/\lo<1000) (hl:cs.length<=10) (hb:1<=bs.length/\bs.length<=3) (bnd:(bs.map (·.nm)).Nodup):∃ss:ac StepT,vo [.lst (cs.map D.int),.lst (bs.map cq),.int h,.int lo]=aa (.lst (ss.map bG))/\ss.length=cs.length/\∀(i:al) s,ss[i]?=aa s->StepAt (bs.map (·.nm)) h i s:=by
 obtain⟨ρ',h1,ss,a,b,c,d,h2,h3,h4⟩:=dZ (gg:=bN 2 (aI (ay 5) (aI (ay 6) bM))) (body:=Bo) (xs:=(cs.map D.int).mapIdx fun i d=>D.tup [.int i,d]) (ρ:=tE cs bs h lo [] ab ab ab ab)
  (fun i ρ=>∃ss a b c d,ρ=tE cs bs h lo ss a b c d/\ss.length=i/\∀(j:al) s,ss[j]?=aa s->StepAt (bs.map (·.nm)) h j s) ⟨[],ab,ab,ab,ab,rfl,rfl,fun j b hj=>(by simp at hj)⟩ (fun i x ρ hx hI=>by
   obtain⟨ss,a,b,c,d,rfl,hlen,hb'⟩:=hI;obtain⟨y,hy,rfl⟩:=oa hx;rw[qk] at hy;obtain⟨s,hsi,rfl⟩:=oMd hy;have hi:i<cs.length:=(cY.mp hsi).1;obtain⟨s',u,v,e1,e2⟩:=GW (cs:=cs) (h:=h) (lo:=lo) (c:=s) (bs:=bs) (ss:=ss) (i:=i) (y:=c) (z:=d) hh hlo .(e) hb bnd .(e);refine⟨_,_,rfl,e1,ss++[s'],_,_,_,_,rfl,by rw[qj,hlen];rfl,fun j b'' hj=>?_⟩;by_cases hji:j<ss.length
   .rw[qx hji] at hj;exact hb' j b'' hj
   .have hl2:=(cY.mp hj).1;rw[qj,qT] at hl2;rw[qI .(e),show j-ss.length=0 by omega] at hj;cases hj;rw[show j=i by omega];exact e2)
 rw[ng,qf] at h3;exact⟨ss,bO [oS (.lst (cs.map D.int)),oS (.lst (bs.map cq)),oS (.int h),oS (.int lo),ab,ab,ab,ab,ab] rfl (ku.trans ((bY ((cW (xs:=(cs.map D.int).mapIdx fun i d=>D.tup [.int i,d]) rfl).trans (h1.trans (by rw[h2])))).trans ((iD rfl).trans (bT (f:=vSh 4) rfl)))),h3,h4⟩
theorem qY:∀(ns:ac ah),rS (ns.map fK)=0
 |[]=>by simp[rS]
 |x::r=>by simp[rS,oX,qY r]
theorem Nm (h:∀x∈ns,ba x=ai):eR (.list (ns.map fK))=ai:=by simp[eR,nq,lZ h,oX,qY]
theorem Pi (h:∀x∈ns,ba x=ai):neA (.lst (ns.map D.str)) (.lst [])=aa (.bl (!ns.isEmpty)):=by
 have e0:neA (.lst (ns.map D.str)) (.lst [])=pA (.lst (ns.map D.str)) (.lst []):=rfl;have s1:=Nm h;have s2:eR (.list [])=ai:=by simp[eR,nq,lT,oX,rS]
 have p1:pdD (.lst (ns.map D.str))=aa (.list (ns.map fK)):=by simp[pdD,tW]
 have p2:pdD (.lst [])=aa (.list []):=by simp[pdD,gK]
 have q:jO (.list (ns.map fK)) (.list [])=ns.isEmpty:=by cases ns<;>simp[jO,o3]
 rw[e0];unfold pA eqX;rw[p1,p2,qb,qb,qW ⟨s1,s2⟩,q];rfl
noncomputable abbrev jE (cs:ac ag) (ss:ac StepT) (h:ag) (js:ac JobT) (lf:ac ah) (a b c d e f:ar Slot):bf:=[oS (.lst (cs.map D.int)),oS (.lst (ss.map bG)),oS (.int h),aa (.own (js.map aW)),oS (.lst (lf.map D.str)),a,b,c,d,e,f]
structure JInv (sn:ac ah) (h:ag) (i:al) (js:ac JobT) (lf:ac ah):Prop where
 len:js.length<=i
 nd:(js.flatMap (·.ms)++lf).Nodup
 sub:∀x∈js.flatMap (·.ms)++lf,x∈sn
 ll:lf.length<=sn.length
 good:∀j∈js,GoodJ sn h j
 nmd:(js.map (·.nm)).Nodup
 nmk:∀j∈js,∃k,k<i/\j.nm=nm (70+k)
noncomputable def zM:FS:=.(R)
theorem OC {a:ag} (hh:1<=h) (ha:0<=a):∃m,ib [.int h,.int a]=aa (.int m)/\0<=m/\m<=h:=by
 refine⟨_,rfl,?_,?_⟩
 .omega
 .omega
theorem GJ {a:ag} (hh:1<=h) (ha:a<=h):∃m,ic [.int 0,.int a]=aa (.int m)/\0<=m/\m<=h:=by
 refine⟨_,rfl,?_,?_⟩
 .omega
 .omega
theorem AQ {a c:ag} (h:f ρ=aa (.int a)):∃b:ag,cF ko (ae (b2 eqD f (vC (.int c))) ak) ρ=aa (.int b)/\0<=b/\b<=1:=by refine⟨if decide (a=c)=ai then 1 else 0,a4 (aA (au h rfl rfl) aR) rfl,?_,?_⟩<;>split<;>decide
theorem IG {c:ag} {lf:ac ah} {y z w v:ar Slot} (hh:1<=h) (hi:i<3) (hs:∀x∈ss.map (·.nm),ba x=ai) (I:JInv (ss.map (·.nm)) h i js lf) (hsl:ss.length<=40) :
  ∃js' lf' y' z' w' v',zM (jE cs ss h js lf (oS (.int i)) (oS (.int c)) y z w v)=aa (.nx,jE cs ss h js' lf' (oS (.int i)) (oS (.int c)) y' z' w' v')/\JInv (ss.map (·.nm)) h (i+1) js' lf':=by
 obtain⟨ds,e,hd,hbd⟩:=mG c (i+17) .(e) [4,3,3,2,5,7] .(h) .(h);obtain⟨d0,q0,p0,r0⟩:=hbd 0 4 rfl;obtain⟨d1,q1,p1,_⟩:=hbd 1 3 rfl;obtain⟨d2,q2,p2,_⟩:=hbd 2 3 rfl;obtain⟨d3,q3,p3,_⟩:=hbd 3 2 rfl;obtain⟨d4,q4,p4,_⟩:=hbd 4 5 rfl;obtain⟨d5,q5,p5,_⟩:=hbd 5 7 rfl;have hn:=(kU (k:=70+i) .(e)).1;have hnb:=(kU (k:=70+i) .(e)).2;have hn':fN [.int (70+(i:ag))]=aa (.str (nm (70+i))):=by rw[←hn];congr 2
 have e17:((i:ag)+17)=((i+17:al):ag):=by omega
 generalize hsm:lf.take d0.toNat=sm;generalize hlf:lf.drop d0.toNat=lf';have hlf2:lf=sm++lf':=by rw[←hsm,←hlf,rU]
 have hslen:sm.length<=3:=by rw[←hsm,qC];omega
 have hsml:sm.length+lf'.length=lf.length:=by rw[hlf2,qj]
 have hsn:∀x∈sm,ba x=ai:=fun x hx=>hs x (I.sub x (qO _ (by rw[hlf2];exact x9 _ hx)));have eD:cF eh (ae (vSh 6) (ae (b2 aV (vSh 5) (vC (.int 17))) (ae (aP (szF (ae .(j) (ae .(i) (ae .(i) (ae .(l) (ae (vC (.int 5)) (ae (vC (.int 7)) ak)))))))) ak))) (jE cs ss h js lf (oS (.int i)) (oS (.int c)) y z w v)=aa .(u):=
  a4 (aA (d:=.int c) rfl (aA (d:=.int ((i:ag)+17)) .(P) (aA (Aj rfl rfl rfl rfl rfl rfl) aR))) (by rw[e17];exact e)
 have e8:slF (vSh 4) pN (pS (b2 ixD (vSh 7) .(c))) (jE cs ss h js lf (oS (.int i)) (oS (.int c)) (oS .(u)) z w v)=aa (.lst (sm.map D.str)):=by rw[←hsm,u5];exact pk rfl (cH rfl q0) p0
 have e4:slF (vSh 4) (pS (b2 ixD (vSh 7) .(c))) pN (jE cs ss h js lf (oS (.int i)) (oS (.int c)) (oS .(u)) (oS (.lst (sm.map D.str))) w v)=aa (.lst (lf'.map D.str)):=by rw[←hlf,E5];exact xf rfl (cH rfl q0) p0
 have eT:toB (b2 neA (vSh 8) (aP (szF ak))) (jE cs ss h js lf' (oS (.int i)) (oS (.int c)) (oS .(u)) (oS (.lst (sm.map D.str))) w v)=aa (!sm.isEmpty):=aX (au rfl (y:=.lst []) rfl (Pi hsn));by_cases hem:sm.isEmpty=ai
 .have hsm0:sm=[]:=List.isEmpty_iff.mp hem;rw[hem] at eT;refine⟨js,lf',_,_,_,_,(bq eD).trans ((bq e8).trans ((bq e4).trans ((bR eT).trans rfl))),⟨by have:=I.len;omega,?_,?_,by have:=I.ll;omega,I.good,I.nmd,fun j hj=>?_⟩⟩
  .have:=I.nd;rw[hlf2,hsm0] at this;exact this
  .have:=I.sub;rw[hlf2,hsm0] at this;exact this
  .obtain⟨k,h1,h2⟩:=I.nmk j hj;exact⟨k,by omega,h2⟩
 .have hem':sm.isEmpty=ao:=by simpa using hem
  rw[hem'] at eT;have hs1:1<=sm.length:=by
   cases sm with
   |nil=>simp at hem
   |cons a b=>simp
  obtain⟨b1,f1,f2,f3⟩:=AQ (c:=0) (f:=b2 ixD (vSh 7) .(l)) (ρ:=jE cs ss h js lf' (oS (.int i)) (oS (.int c)) (oS .(u)) (oS (.lst (sm.map D.str))) w v) (cH rfl q2);obtain⟨ea,m1,m2,m3⟩:=OC (h:=h) (a:=d1*b1) hh (E4 p1 f2);have e9:cF ib (ae (vSh 2) (ae (b2 cT (b2 ixD (vSh 7) .(d)) (cF ko (ae (b2 eqD (b2 ixD (vSh 7) .(l)) .(c)) ak))) ak)) (jE cs ss h js lf' (oS (.int i)) (oS (.int c)) (oS .(u)) (oS (.lst (sm.map D.str))) w v)=aa (.int ea):=
   a4 (aA rfl (aA (au (cH rfl q1) f1 (nF (.inr .(e)))) aR)) m1
  obtain⟨b2',f4,f5,f6⟩:=AQ (c:=1) (f:=b2 ixD (vSh 7) .(l)) (ρ:=jE cs ss h js lf' (oS (.int i)) (oS (.int c)) (oS .(u)) (oS (.lst (sm.map D.str))) (oS (.int ea)) v) (cH rfl q2);obtain⟨du,n1,n2,n3⟩:=GJ (h:=h) (a:=h-d4*b2') hh (by have:=E4 p4 f5;omega);have e10:cF ic (ae .(c) (ae (b2 gH (vSh 2) (b2 cT (b2 ixD (vSh 7) .(j)) (cF ko (ae (b2 eqD (b2 ixD (vSh 7) .(l)) .(d)) ak)))) ak)) (jE cs ss h js lf' (oS (.int i)) (oS (.int c)) (oS .(u)) (oS (.lst (sm.map D.str))) (oS (.int ea)) v)=aa (.int du):=
   a4 (aA rfl (aA (au rfl (au (cH rfl q4) f4 (nF (.inr .(e)))) rfl) aR)) n1
  have t0:0<=d5%2:=qV _ .(h);generalize htt:(d5%2).toNat=t;have hrl:(sm.drop t++sm.take t).length=sm.length:=by rw[qj,iQ,qC];omega
  have e8':b2 aV (slF (vSh 8) (pS (b2 bQ (b2 ixD (vSh 7) (vC (.int 5))) .(l))) pN) (slF (vSh 8) pN (pS (b2 bQ (b2 ixD (vSh 7) (vC (.int 5))) .(l)))) (jE cs ss h js lf' (oS (.int i)) (oS (.int c)) (oS .(u)) (oS (.lst (sm.map D.str))) (oS (.int ea)) (oS (.int du)))=aa (.lst ((sm.drop t++sm.take t).map D.str)):=by refine au (xf rfl (au (cH rfl q5) rfl (dQ .(h))) t0) (pk rfl (au (cH rfl q5) rfl (dQ .(h))) t0) ?_;show(if _ then _ else _)=_;rw[qW,htt,iT,E5,u5];rw[iQ,qC,qf];unfold aT;omega
  let J:JobT:=⟨nm (70+i),ea,du,decide (d3=1),sm.drop t++sm.take t⟩
  have perm:(sm.drop t++sm.take t).Perm sm:=(List.perm_append_comm).trans (by rw[rU]);have pa:((js++[J]).flatMap (·.ms)++lf').Perm (js.flatMap (·.ms)++lf):=by rw[List.flatMap_append,hlf2,rH];refine Q2 _ ?_;rw[List.flatMap_singleton];exact List.Perm.append_right _ perm
  refine⟨js++[J],lf',_,_,_,_,(bq eD).trans ((bq e8).trans ((bq e4).trans ((bR eT).trans ((qW rfl).trans ((bq e9).trans ((bq e10).trans ((bq e8').trans (mw rfl (Aa (a4 (aA .(P) aR) hn') rfl rfl (au (cH rfl q3) rfl rfl) rfl) (by have:=I.len;omega))))))))),⟨?_,?_,?_,?_,?_,?_,?_⟩⟩
  .rw[qj];have:=I.len;simp;omega
  .exact(pa.nodup_iff).mpr I.nd
  .exact fun x hx=>I.sub x (pa.mem_iff.mp hx)
  .have:=I.ll;omega
  .intro j hj;rcases cR.mp hj with q|q
   .exact I.good j q
   .rw[bW.mp q];refine⟨hnb,⟨m2,m3⟩,⟨n2,n3⟩,by show 1<=(sm.drop t++sm.take t).length;omega,by show(sm.drop t++sm.take t).length<=_;have:=I.ll;omega,fun m hm=>?_⟩;exact I.sub m (qO _ (by rw[hlf2];exact x9 _ (perm.mem_iff.mp hm)))
  .rw[iT,iV];refine⟨I.nmd,by simp,fun a ha b hb hab=>?_⟩;obtain⟨j,hj,rfl⟩:=a5.mp ha;obtain⟨k,hk,hk2⟩:=I.nmk j hj;have hb':b=nm (70+i):=by simpa using hb
   have:=OT k .(e) i hi (hk2.symm.trans (hab.trans hb'));omega
  .intro j hj;rcases cR.mp hj with q|q
   .obtain⟨k,h1,h2⟩:=I.nmk j q;exact⟨k,by omega,h2⟩
   .rw[bW.mp q];exact⟨i,by omega,rfl⟩
theorem Op (cs:ac ag) (ss:ac StepT) (h:ag) (hh:1<=h) (hl:cs.length<=3) (hsl:ss.length<=40) (hs:∀x∈ss.map (·.nm),ba x=ai) (snd:(ss.map (·.nm)).Nodup):∃js:ac JobT,wj [.lst (cs.map D.int),.lst (ss.map bG),.int h]=aa .(aa)/\js.length<=3/\(∀j∈js,GoodJ (ss.map (·.nm)) h j)/\(js.map (·.nm)).Nodup/\(js.flatMap (·.ms)).Nodup:=by
 obtain⟨ρ',h1,js,lf,a,b,c,d,e,f,h2,h3⟩:=dZ (gg:=bN 2 (aI (ay 5) (aI (ay 6) bM))) (body:=zM) (xs:=(cs.map D.int).mapIdx fun i d=>D.tup [.int i,d]) (ρ:=jE cs ss h [] (ss.map (·.nm)) ab ab ab ab ab ab)
  (fun i ρ=>∃js lf a b c d e f,ρ=jE cs ss h js lf a b c d e f/\JInv (ss.map (·.nm)) h i js lf) ⟨[],ss.map (·.nm),ab,ab,ab,ab,ab,ab,rfl,⟨qv _,by simpa using snd,fun x hx=>(by simpa using hx),qv _,fun j hj=>(by cases hj),by simp,fun j hj=>(by cases hj)⟩⟩ (fun i x ρ hx hI=>by obtain⟨js,lf,a,b,c,d,e,f,rfl,I⟩:=hI;obtain⟨y,hy,rfl⟩:=oa hx;rw[qk] at hy;obtain⟨s,hsi,rfl⟩:=oMd hy;have hi:i<cs.length:=(cY.mp hsi).1;obtain⟨js',lf',y',z',w',v',e1,e2⟩:=IG (cs:=cs) (h:=h) (c:=s) (ss:=ss) (js:=js) (lf:=lf) (i:=i) (y:=c) (z:=d) (w:=e) (v:=f) hh .(e) hs I hsl;exact⟨_,_,rfl,e1,js',lf',_,_,_,_,_,_,rfl,e2⟩)
 rw[ng,qf] at h3;have nn:=ka (i:=1) (fv:=[ab]) (ρ:=[oS (.lst (cs.map D.int)),oS (.lst (ss.map bG)),oS (.int h),aa (.own []),ab,ab,ab,ab,ab,ab,ab]) (f:=bG) (nm:=(·.nm)) (xs:=ss) (fun x=>⟨_,rfl⟩) rfl (szN hsl .(h)) rfl;refine⟨js,bO [oS (.lst (cs.map D.int)),oS (.lst (ss.map bG)),oS (.int h),ab,ab,ab,ab,ab,ab,ab,ab] rfl (ku.trans ((bq nn).trans ((bY ((cW (xs:=(cs.map D.int).mapIdx fun i d=>D.tup [.int i,d]) rfl).trans (h1.trans (by rw[h2])))).trans ((iD rfl).trans (bT (f:=vSh 3) rfl))))),qK h3.len hl,h3.good,h3.nmd,?_⟩;exact(iV.mp h3.nd).1
theorem sU (t:ac ah):pdD (.tup (t.map D.str))=aa (.tuple (t.map fK)):=by simp[pdD,tW]
theorem Da:∀(ts:ac (ac ah)),gK (ts.map fun t=>.tup (t.map D.str))=aa (ts.map fun t=>.tuple (t.map fK))
 |[]=>by simp[gK]
 |t::r=>by simp[gK,sU,Da r]
theorem BX:∀{ts:ac (ac ah)},(∀t∈ts,∀x∈t,ba x=ai)->lT (ts.map fun t=>.tuple (t.map fK))=ai
 |[],_=>by simp[lT]
 |t::r,h=>by simp only[qm,lT,nq,lZ (h t qg),ir];exact BX fun y hy=>h y (qh _ hy)
theorem vn:∀(a b:ac ah),o3 (a.map fK) (b.map fK)=decide (a=b)
 |[],[]=>by simp[o3]
 |[],_::_=>by simp[o3]
 |_::_,[]=>by simp[o3]
 |x::r,y::t=>by
  simp only[qm,o3,jO,vn r t];by_cases e:x=y
  .subst e;simp
  .simp[e]
theorem zi (t:ac ah):∀(ts:ac (ac ah)),((ts.map fun t=>Ql (t.map fK)).any fun z=>jO z (.tuple (t.map fK)))=decide (t∈ts)
 |[]=>by simp
 |y::r=>by
  rw[qm,kG,zi t r];simp only[jO,vn];by_cases e:y=t
  .subst e;simp
  .have:t≠y:=fun z=>e z.symm;simp[e,this]
theorem DQ {t:ac ah} {ts:ac (ac ah)} (hx:∀x∈t,ba x=ai) (hn:∀y∈ts,∀x∈y,ba x=ai):gx (.tup (t.map D.str)) (.lst (ts.map fun t=>.tup (t.map D.str)))=aa (.bl (!decide (t∈ts))):=by
 have sh:eR (.tuple (t.map fK))=ai:=by simp[eR,nq,lZ hx,oX,qY]
 have p1:pdD (.lst (ts.map fun t=>.tup (t.map D.str)))=aa (.list (ts.map fun t=>.tuple (t.map fK))):=by simp[pdD,Da]
 unfold gx inX;rw[sU,p1,qb,qb];simp only[sh,BX hn,u3,cu,zi,qe]
theorem wH {f:α->D} {nm:α->ah} {xs:ac α} {g:FE} {d:ag} (hf:∀x,∃r,f x=.tup (.str (nm x)::r)) (h1:fo ρ=aa (.lst (xs.map f))) (h2:g ρ=aa (.int d)) (h3:0<=d) (h4:d<xs.length):∃x∈xs,b2 ixD (b2 ixD fo g) .(c) ρ=aa (.str (nm x)):=by
 obtain⟨n,rfl⟩:=Rk h3;have hd:n<xs.length:=by omega
 refine⟨xs[n],uN hd,au (au h1 h2 (show ixD _ (.int (n:ag))=aa (f xs[n]) by rw[ixL,qk,qB hd];rfl)) rfl ?_⟩;obtain⟨r,e⟩:=hf xs[n];rw[e,cx]
theorem IC {g:FE} {ds:ac ag} {d:ag} (h1:f ρ=aa .(u)) (h2:g ρ=aa (.int m)) (hm:m=(n:ag)) (h3:ds[n]?=aa d):b2 ixD f g ρ=aa (.int d):=
 au h1 h2 (by rw[hm,ixL,qk,h3];rfl)
theorem wz {l:ac D} (h:f ρ=aa (.lst l)):cF b8 (ae f ak) ρ=aa (.int (l.length:al)):=a4 (aA h aR) rfl
theorem Cc {b:aN} (h1:ρ[i]?=aa (aa (.own ds))) (h2:ft (ρ.set i (oS (.lst ds)))=aa b):bwT i ft ρ=aa b:=by unfold bwT;rw[h1];exact h2
theorem NY {x:ac D} {j:ag} (h : -(2 ^ 63)<=j/\j<2 ^ 63/\x.length*j.toNat<=aT):cT (.lst x) (.int j)=aa (.lst (b9 j.toNat x).flatten):=qW h
theorem Le:cT (.lst [.int 4]) (.int 6)=aa (.lst (([4,4,4,4,4,4]:ac ag).map D.int)):=NY (x:=[.int 4]) (j:=6) .(h)
structure UInv (bn:ac ah) (h:ag) (i:al) (us:ac SetT):Prop where
 len:us.length<=i
 good:∀u∈us,GoodU bn h u
 nd:(us.map fun u=>[u.b,u.p,u.q]).Nodup
noncomputable abbrev uE (c:ag) (bs:ac BenchT) (h:ag) (us:ac SetT) (a b d e:ar Slot):bf:=[oS (.int c),oS (.lst (bs.map cq)),oS (.int h),aa (.own (us.map cM)),a,b,d,e]
noncomputable def B0:FS:=.(E)
theorem Ke {c:ag} {bs:ac BenchT} {y z:ar Slot} (hh:1<=h) (hm:0<=m) (hi:i<6) (hb:1<=bs.length) (hbn:∀x∈bs.map (·.nm),ba x=ai) (I:UInv (bs.map (·.nm)) h i us) :
  ∃us' y' z',B0 (uE c bs h us (oS (.int i)) (oS (.int m)) y z)=aa (.nx,uE c bs h us' (oS (.int i)) (oS (.int m)) y' z')/\UInv (bs.map (·.nm)) h (i+1) us':=by
 have k0:0<=(i:ag)%(bs.length:al):=qV _ .(e);have k1:(i:ag)%(bs.length:al)<(bs.length:al):=qS _ .(e);obtain⟨b,hbm,e6⟩:=wH (f:=cq) (nm:=(·.nm)) (xs:=bs) (ρ:=uE c bs h us (oS (.int i)) (oS (.int m)) y z) (fo:=vSh 1) (g:=b2 bQ (vSh 4) (cF b8 .(N))) (d:=(i:ag)%(bs.length:al)) (fun x=>⟨_,rfl⟩) rfl (au rfl (wz rfl) (by rw[qf];exact dQ .(e))) k0 k1;have t0:0<=(i:ag)%3:=qV _ .(h);have t1:(i:ag)%3<3:=qS _ .(h);have s0:0<=((i:ag)+m)%3:=qV _ .(h);have s1:((i:ag)+m)%3<3:=qS _ .(h)
 let U:SetT:=⟨b.nm,pqr ((i:ag)%3).toNat,pqr (((i:ag)+m)%3).toNat,if m<h then m else h⟩
 have e7:bi (szF (ae (vSh 6) (ae (b2 ixD (vC (.str "pqr")) (b2 bQ (vSh 4) .(i))) (ae (b2 ixD (vC (.str "pqr")) (b2 bQ (b2 aV (vSh 4) (vSh 5)) .(i))) (ae (cF ib (ae (vSh 2) (ae (vSh 5) ak))) ak))))) (uE c bs h us (oS (.int i)) (oS (.int m)) (oS (.str b.nm)) z)=aa (cM U):=
  OX rfl (au rfl (au rfl rfl (dQ .(h))) (wW t0 t1)) (au rfl (au .(P) rfl (dQ .(h))) (wW s0 s1)) (a4 .(q) rfl)
 have nU:∀x∈[U.b,U.p,U.q],ba x=ai:=fun x hx=>by
  simp only[qJ,qH,or_false] at hx;rcases hx with rfl|rfl|rfl
  .exact hbn _ (qU hbm)
  .exact nV _ .(e)
  .exact nV _ .(e)
 have nA:∀y∈us.map (fun u=>[u.b,u.p,u.q]),∀x∈y,ba x=ai:=fun y hy x hx=>by
  obtain⟨u,hu,rfl⟩:=a5.mp hy;have g:=I.good u hu;simp only[qJ,qH,or_false] at hx;rcases hx with rfl|rfl|rfl
  .exact hbn _ g.b
  .exact g.p
  .exact g.q
 have hul:us.length<=6:=qK I.len .(e);have eL:aP (bd (itF (vSh 3)) (ay 0) tT (slF (vSh 0) pN (pS .(i))) [ab]) [oS (.int c),oS (.lst (bs.map cq)),oS (.int h),oS (.lst (us.map cM)),oS (.int i),oS (.int m),oS (.str b.nm),oS (cM U)]=aa (.lst ((us.map fun u=>[u.b,u.p,u.q]).map fun t=>.tup (t.map D.str))):=by
  rw[qo];refine(h8 (r:=[]) (a:=ab) (xs:=us.map cM) (f:=fun d=>match d with|.tup [a,b,c,d]=>.tup [a,b,c]|_=>.non) rfl (by rw[qf];exact szN hul .(h)) rfl fun x hx=>?_).trans ?_
  .obtain⟨p,hp,rfl⟩:=a5.mp hx;simp only[vSh,vC,slF,pN,pS,qc,qb,cM,vG]
  .rw[qo];rfl
 have eT:bwT 3 (cm (toB (b2 gtD (vSh 5) .(c))) (toB (b2 gx (slF (vSh 7) pN (pS .(i))) (aP (bd (itF (vSh 3)) (ay 0) tT (slF (vSh 0) pN (pS .(i))) [ab]))))) (uE c bs h us (oS (.int i)) (oS (.int m)) (oS (.str b.nm)) (oS (cM U)))=aa (decide (0<m) && !decide ([U.b,U.p,U.q]∈us.map fun u=>[u.b,u.p,u.q])):=
  Cc rfl (wG (aX .(P)) (aX (au (x:=.tup ([U.b,U.p,U.q].map D.str)) rfl eL (DQ nU nA))))
 by_cases ht:(decide (0<m) && !decide ([U.b,U.p,U.q]∈us.map fun u=>[u.b,u.p,u.q]))=ai
 .have hq:0<m/\[U.b,U.p,U.q]∉us.map fun u=>[u.b,u.p,u.q]:=by simpa using ht
  refine⟨us++[U],_,_,(bq e6).trans ((bq e7).trans ((bR eT).trans ((qW ht).trans (mw (x:=U) rfl rfl .(e))))),⟨?_,?_,?_⟩⟩
  .rw[qj];have:=I.len;simp;omega
  .intro u hu;rcases cR.mp hu with q|q
   .exact I.good u q
   .rw[bW.mp q];refine⟨qU hbm,nV _ .(e),nV _ .(e),?_,?_⟩
    .show 1<=if m<h then m else h
     split<;>omega
    .show(if m<h then m else h)<=h;split<;>omega
  .rw[iT,iV];refine⟨I.nd,by simp,fun a ha b' hb' hab=>?_⟩;have:b'=[U.b,U.p,U.q]:=by simpa using hb'
   rw[hab,this] at ha;exact hq.2 ha
 .exact⟨us,_,_,(bq e6).trans ((bq e7).trans ((bR eT).trans ((qX ht).trans rfl))),⟨by have:=I.len;omega,I.good,I.nd⟩⟩
theorem KQ (c:ag) (bs:ac BenchT) (h:ag) (hh:1<=h) (hb:1<=bs.length) (hbn:∀x∈bs.map (·.nm),ba x=ai):∃us:ac SetT,xK [.int c,.lst (bs.map cq),.int h]=aa (.lst (us.map cM))/\us.length<=6/\(∀u∈us,GoodU (bs.map (·.nm)) h u)/\(us.map fun u=>[u.b,u.p,u.q]).Nodup:=by
 obtain⟨ds,e,hd,hbd⟩:=mG c 3 .(e) [4,4,4,4,4,4] .(h) .(h);have eM:b2 cT (aP (szF (ae .(j) ak))) (vC (.int 6)) (uE c bs h [] ab ab ab ab)=aa (.lst (([4,4,4,4,4,4]:ac ag).map D.int)):=
  au (x:=.lst [.int 4]) (y:=.int 6) rfl rfl Le
 have hd6:ds.length=6:=hd;obtain⟨ρ',h1,us,a,b,d,f,h2,h3⟩:=dZ (gg:=bN 2 (aI (ay 4) (aI (ay 5) bM))) (body:=B0) (xs:=(ds.map D.int).mapIdx fun i d=>D.tup [.int i,d]) (ρ:=uE c bs h [] ab ab ab ab)
  (fun i ρ=>∃us a b d e,ρ=uE c bs h us a b d e/\UInv (bs.map (·.nm)) h i us) ⟨[],ab,ab,ab,ab,rfl,⟨qv _,fun j hj=>(by cases hj),by simp⟩⟩ (fun i x ρ hx hI=>by
   obtain⟨us,a,b,d,e,rfl,I⟩:=hI;obtain⟨y,hy,rfl⟩:=oa hx;rw[qk] at hy;obtain⟨s,hsi,rfl⟩:=oMd hy;have hi:i<ds.length:=(cY.mp hsi).1;have hs0:0<=s:=by
    have h6:i<6:=by omega
    have:([4,4,4,4,4,4]:ac ag)[i]?=aa 4:=by
     have:i=0\/i=1\/i=2\/i=3\/i=4\/i=5:=by omega
     rcases this with rfl|rfl|rfl|rfl|rfl|rfl<;>rfl
    obtain⟨d,q1,q2,_⟩:=hbd i 4 this;rw[hsi] at q1;cases q1;exact q2
   obtain⟨us',y',z',e1,e2⟩:=Ke (c:=c) (h:=h) (m:=s) (bs:=bs) (us:=us) (i:=i) (y:=d) (z:=e) hh hs0 .(e) hb hbn I;exact⟨_,_,rfl,e1,us',_,_,_,_,rfl,e2⟩)
 rw[ng,qf] at h3;have eI:itE (cF eh (ae (vSh 0) (ae .(i) (ae (b2 cT (aP (szF (ae .(j) ak))) (vC (.int 6))) ak)))) (uE c bs h [] ab ab ab ab)=aa ((ds.map D.int).mapIdx fun i d=>D.tup [.int i,d]):=by have:cF eh (ae (vSh 0) (ae .(i) (ae (b2 cT (aP (szF (ae .(j) ak))) (vC (.int 6))) ak))) (uE c bs h [] ab ab ab ab)=aa .(u):=a4 (aA rfl (aA rfl (aA eM aR))) e;unfold itE;rw[this];rfl
 exact⟨us,bO [oS (.int c),oS (.lst (bs.map cq)),oS (.int h),ab,ab,ab,ab,ab] rfl (ku.trans ((bY ((cW eI).trans (h1.trans (by rw[h2])))).trans ((iD rfl).trans (bT (f:=vSh 3) rfl)))),by have:=h3.len;omega,h3.good,h3.nd⟩
structure LInv (sn:ac ah) (h:ag) (i:al) (ls:ac LinkT):Prop where
 len:ls.length<=i
 good:∀l∈ls,GoodL sn h l
 nd:(ls.map fun l=>[l.a,l.b]).Nodup
noncomputable abbrev lE (c:ag) (ss:ac StepT) (h:ag) (ls:ac LinkT) (ds:ac ag) (a b d:ar Slot):bf:=[oS (.int c),oS (.lst (ss.map bG)),oS (.int h),aa (.own (ls.map cX)),oS .(u),a,b,d]
noncomputable def Ay:FS:=.(y)
theorem Ip {c:ag} {ds:ac ag} {y z:ar Slot} (hh:1<=h) (hi:i<2) (hs1:1<=ss.length) (hsn:∀x∈ss.map (·.nm),ba x=ai) (hds:∀j,j<7->∃d,ds[j]?=aa d/\0<=d) (I:LInv (ss.map (·.nm)) h i ls) :
  ∃ls' y' z',Ay (lE c ss h ls ds (oS (.int (0+(i:ag)))) y z)=aa (.nx,lE c ss h ls' ds (oS (.int (0+(i:ag)))) y' z')/\LInv (ss.map (·.nm)) h (i+1) ls':=by
 obtain⟨x1,q1,p1⟩:=hds (1+3*i) .(e);obtain⟨x2,q2,p2⟩:=hds (2+3*i) .(e);obtain⟨x3,q3,p3⟩:=hds (3+3*i) .(e);have ixs:∀(n:al) (y z:ar Slot) (lst:ac D) (x:ag) (k:ag),k=(n:ag)->ds[n+3*i]?=aa x->∀s3:ar Slot,b2 ixD (vSh 4) (b2 aV (vC (.int k)) (b2 cT .(i) (vSh 5))) [oS (.int c),oS (.lst (ss.map bG)),oS (.int h),s3,oS .(u),oS (.int (0+(i:ag))),y,z]=aa (.int x):=fun n y z _ x k hk hx s3=>
  IC (n:=n+3*i) rfl (au rfl (au rfl rfl (nF (.inl .(h)))) rfl) .(e) hx
 have m1:∀x:ag,0<=x%(ss.length:al)/\x%(ss.length:al)<(ss.length:al):=fun x=>⟨qV _ .(e),qS _ .(e)⟩;obtain⟨sa,ha,e6⟩:=wH (f:=bG) (nm:=(·.nm)) (xs:=ss) (ρ:=lE c ss h ls ds (oS (.int (0+(i:ag)))) y z) (fo:=vSh 1) (g:=b2 bQ (b2 ixD (vSh 4) (b2 aV .(d) (b2 cT .(i) (vSh 5)))) (cF b8 .(N))) (d:=x1%(ss.length:al)) (fun x=>⟨_,rfl⟩) rfl (au (ixs 1 y z [] x1 1 rfl q1 _) (wz rfl) (by rw[qf];exact dQ .(e))) (m1 x1).1 (m1 x1).2;obtain⟨sb,hb,e7⟩:=wH (f:=bG) (nm:=(·.nm)) (xs:=ss) (ρ:=lE c ss h ls ds (oS (.int (0+(i:ag)))) (oS (.str sa.nm)) z) (fo:=vSh 1) (g:=b2 bQ (b2 ixD (vSh 4) (b2 aV .(l) (b2 cT .(i) (vSh 5)))) (cF b8 .(N))) (d:=x2%(ss.length:al)) (fun x=>⟨_,rfl⟩) rfl (au (ixs 2 _ z [] x2 2 rfl q2 _) (wz rfl) (by rw[qf];exact dQ .(e))) (m1 x2).1 (m1 x2).2
 let U:LinkT:=⟨sa.nm,sb.nm,if x3<h then x3 else h⟩
 have nU:∀x∈[U.a,U.b],ba x=ai:=fun x hx=>by
  simp only[qJ,qH,or_false] at hx;rcases hx with rfl|rfl
  .exact hsn _ (qU ha)
  .exact hsn _ (qU hb)
 have nA:∀y∈ls.map (fun l=>[l.a,l.b]),∀x∈y,ba x=ai:=fun y hy x hx=>by
  obtain⟨u,hu,rfl⟩:=a5.mp hy;have g:=I.good u hu;simp only[qJ,qH,or_false] at hx;rcases hx with rfl|rfl
  .exact hsn _ g.a
  .exact hsn _ g.b
 have hul:ls.length<=2:=qK I.len .(e);have eL:aP (bd (itF (vSh 3)) (ay 0) tT (slF (vSh 0) pN (pS .(l))) [ab]) [oS (.int c),oS (.lst (ss.map bG)),oS (.int h),oS (.lst (ls.map cX)),oS .(u),oS (.int (0+(i:ag))),oS (.str sa.nm),oS (.str sb.nm)]=aa (.lst ((ls.map fun l=>[l.a,l.b]).map fun t=>.tup (t.map D.str))):=by
  rw[qo];refine(h8 (r:=[]) (a:=ab) (xs:=ls.map cX) (f:=fun d=>match d with|.tup [a,b,c]=>.tup [a,b]|_=>.non) rfl (by rw[qf];exact szN hul .(h)) rfl fun x hx=>?_).trans ?_
  .obtain⟨p,hp,rfl⟩:=a5.mp hx;simp only[vSh,vC,slF,pN,pS,qc,qb,cX,AI]
  .rw[qo];rfl
 have eT:bwT 3 (cm (toB (b2 neA (vSh 6) (vSh 7))) (toB (b2 gx (bi (szF (ae (vSh 6) (ae (vSh 7) ak)))) (aP (bd (itF (vSh 3)) (ay 0) tT (slF (vSh 0) pN (pS .(l))) [ab]))))) (lE c ss h ls ds (oS (.int (0+(i:ag)))) (oS (.str sa.nm)) (oS (.str sb.nm)))=aa ((!decide (sa.nm=sb.nm)) && !decide ([U.a,U.b]∈ls.map fun l=>[l.a,l.b])):=
  Cc rfl (wG (aX (au rfl rfl (AV _ _))) (aX (au (x:=.tup ([U.a,U.b].map D.str)) (gv rfl rfl) eL (DQ nU nA))))
 by_cases ht:((!decide (sa.nm=sb.nm)) && !decide ([U.a,U.b]∈ls.map fun l=>[l.a,l.b]))=ai
 .have hq:sa.nm≠sb.nm/\[U.a,U.b]∉ls.map fun l=>[l.a,l.b]:=by simpa using ht
  refine⟨ls++[U],_,_,(bq e6).trans ((bq e7).trans ((bR eT).trans ((qW ht).trans (mw (x:=U) rfl (o9 rfl rfl (a4 (aA rfl (aA (ixs 3 _ _ [] x3 3 rfl q3 _) aR)) rfl)) .(e))))),⟨?_,?_,?_⟩⟩
  .rw[qj];have:=I.len;simp;omega
  .intro u hu;rcases cR.mp hu with q|q
   .exact I.good u q
   .rw[bW.mp q];refine⟨qU ha,qU hb,hq.1,?_,?_⟩
    .show 0<=if x3<h then x3 else h
     split<;>omega
    .show(if x3<h then x3 else h)<=h;split<;>omega
  .rw[iT,iV];refine⟨I.nd,by simp,fun a ha b' hb' hab=>?_⟩;have:b'=[U.a,U.b]:=by simpa using hb'
   rw[hab,this] at ha;exact hq.2 ha
 .exact⟨ls,_,_,(bq e6).trans ((bq e7).trans ((bR eT).trans ((qX ht).trans rfl))),⟨by have:=I.len;omega,I.good,I.nd⟩⟩
theorem A9 {x:D} (h:((cG n).map fun k:al=>D.int (0+k))[i]?=aa x):i<n/\x=.int (0+(i:ag)):=by rw[qk] at h;obtain⟨k,hk,rfl⟩:=oMd h;rw[cY] at hk;obtain⟨h1,h2⟩:=hk;rw[qR] at h1;rw[Rl] at h2;subst h2;exact⟨h1,rfl⟩
theorem Hl (c:ag) (ss:ac StepT) (h:ag) (hh:1<=h) (hs1:1<=ss.length) (hsn:∀x∈ss.map (·.nm),ba x=ai):∃ls:ac LinkT,wt [.int c,.lst (ss.map bG),.int h]=aa (.lst (ls.map cX))/\ls.length<=2/\(∀l∈ls,GoodL (ss.map (·.nm)) h l)/\(ls.map fun l=>[l.a,l.b]).Nodup:=by
 obtain⟨ds,e,hd,hbd⟩:=mG c 5 .(e) [3,9,9,4,9,9,4] .(h) .(h);have hds:∀j,j<7->∃d,ds[j]?=aa d/\0<=d:=fun j hj=>by have:∃s,([3,9,9,4,9,9,4]:ac ag)[j]?=aa s:=⟨_,qB (by simpa using hj)⟩;obtain⟨s,hs⟩:=this;obtain⟨d,q1,q2,_⟩:=hbd j s hs;exact⟨d,q1,q2⟩
 obtain⟨d0,q0,p0,r0⟩:=hbd 0 3 rfl;obtain⟨ρ',h1,ls,a,b,d,h2,h3⟩:=dZ (gg:=ay 5) (body:=Ay) (xs:=(cG d0.toNat).map fun k:al=>D.int (0+k)) (ρ:=lE c ss h [] ds ab ab ab)
  (fun i ρ=>∃ls a b d,ρ=lE c ss h ls ds a b d/\LInv (ss.map (·.nm)) h i ls) ⟨[],ab,ab,ab,rfl,⟨qv _,fun j hj=>(by cases hj),by simp⟩⟩ (fun i x ρ hx hI=>by obtain⟨ls,a,b,d,rfl,I⟩:=hI;obtain⟨hi,rfl⟩:=A9 hx;obtain⟨ls',y',z',e1,e2⟩:=Ip (c:=c) (h:=h) (ss:=ss) (ls:=ls) (ds:=ds) (i:=i) (y:=b) (z:=d) hh .(e) hs1 hsn hds I;exact⟨_,_,rfl,e1,ls',_,_,_,rfl,e2⟩)
 rw[qf,qR] at h3;have eS:cF eh (ae (vSh 0) (ae (vC (.int 5)) (ae (aP (szF (ae .(i) (ae (vC (.int 9)) (ae (vC (.int 9)) (ae .(j) (ae (vC (.int 9)) (ae (vC (.int 9)) (ae .(j) ak))))))))) ak))) [oS (.int c),oS (.lst (ss.map bG)),oS (.int h),aa (.own []),ab,ab,ab,ab]=aa .(u):=
  a4 (aA rfl (aA rfl (aA (xM rfl rfl rfl rfl rfl rfl rfl) aR))) e
 have eI:itR eV (ae (b2 ixD (vSh 4) .(c)) ak) (lE c ss h [] ds ab ab ab)=aa ((cG d0.toNat).map fun k:al=>D.int (0+k)):=lv (aA (cH (n:=0) rfl q0) aR) (nI ⟨p0,by omega⟩);exact⟨ls,bO [oS (.int c),oS (.lst (ss.map bG)),oS (.int h),ab,ab,ab,ab,ab] rfl (ku.trans ((bq eS).trans ((bY ((cW eI).trans (h1.trans (by rw[h2])))).trans ((iD rfl).trans (bT (f:=vSh 3) rfl))))),by have:=h3.len;omega,h3.good,h3.nd⟩
theorem z8 {ft:FT} {fe:FE} {r:bf} {v:ag} (ht:∀(j:al) (s:StepT),∃q:aN,ft (oS (.int (j:ag))::oS (bG s)::r)=aa q) (he:∀(j:al) (s:StepT),fe (oS (.int (j:ag))::oS (bG s)::r)=aa (dW (s.nm,v))) :
  ∀(ss:ac StepT) (F:al->al) (a b:ar Slot),∃sub:ac StepT,sub.Sublist ss/\gf (bN 2 (aI (ay 0) (aI (ay 1) bM))) ft fe ((ss.map bG).mapIdx fun i d=>D.tup [.int (F i:al),d]) (a::b::r)=aa (sub.map fun s=>dW (s.nm,v))
 |[],_,_,_=>⟨[],.slnil,rfl⟩
 |s::ss,F,a,b=>by
  obtain⟨sub,h1,h2⟩:=z8 ht he ss (fun i=>F (i+1)) (oS (.int (F 0:al))) (oS (bG s));obtain⟨q,hq⟩:=ht (F 0) s;have e0:bN 2 (aI (ay 0) (aI (ay 1) bM)) (.tup [.int (F 0:al),bG s]) (a::b::r)=aa (oS (.int (F 0:al))::oS (bG s)::r):=rfl;rw[qm,List.mapIdx_cons];cases q with
  |true=>
   refine⟨s::sub,h1.cons_cons s,?_⟩;simp only[gf,e0,qb,hq,cu,he,h2,qe,qm]
  |false=>
   refine⟨sub,h1.cons s,?_⟩;simp only[gf,e0,qb,hq,qq,c6,h2]
noncomputable def tkT (n:ag):FT:=toB (b2 eqD (b2 bQ (b2 eY (b2 aV (b2 ixD (vSh 2) (vC (.int n))) (vSh 3)) (b2 ixD (aP (szF (ae .(d) (ae .(l) (ae .(j) ak))))) (b2 bQ (vSh 0) .(i)))) .(l)) .(d))
noncomputable def tkE (n:ag):FE:=bi (szF (ae (b2 ixD (vSh 1) .(c)) (ae (b2 aV .(d) (b2 ixD (vSh 2) (vC (.int n)))) ak)))
noncomputable def tkC (n m:ag):FE:=aP (bd (itE (vSh 1)) (bN 2 (aI (ay 0) (aI (ay 1) bM))) (tkT n) (tkE m) [ab,ab,aa 2,aa 4])
noncomputable abbrev kE (c:ag) (ss:ac StepT) (ds:ac ag) (ks:ac StockT) (k a b d:ar Slot):bf:=[oS (.int c),oS (.lst (ss.map bG)),oS .(u),aa (.own (ks.map cL)),k,a,b,d]
theorem Bt {c k:ag} {ds:ac ag} {a b d:ar Slot} {m:al} {x v:ag} (hl:ss.length<=40) (hn:ds[n]?=aa x) (hm:ds[m]?=aa v) :
  ∃sub:ac StepT,sub.Sublist ss/\tkC (n:ag) (m:ag) (kE c ss ds ks (oS (.int k)) a b d)=aa (.lst ((sub.map fun s=>(s.nm,1+v)).map dW)):=by
 have ht:∀(j:al) (s:StepT),∃q:aN,tkT (n:ag) (oS (.int (j:ag))::oS (bG s)::[oS .(u),oS (.int k)])=aa q:=fun j s=>by
  have m0:0<=(j:ag)%3:=qV _ .(h);have m1:(j:ag)%3<3:=qS _ .(h);obtain⟨w,hw,hw1⟩:∃w:ag,ixD (.lst [.int 1,.int 2,.int 4]) (.int ((j:ag)%3))=aa (.int w)/\(0<w/\w<1073741824):=by
   have:(j:ag)%3=0\/(j:ag)%3=1\/(j:ag)%3=2:=by omega
   rcases this with z|z|z<;>rw[z]
   .exact⟨1,rfl,by decide⟩
   .exact⟨2,rfl,by decide⟩
   .exact⟨4,rfl,by decide⟩
  exact⟨_,aX (au (au (au (au (cH rfl hn) rfl rfl) (au (BA rfl rfl rfl) (au rfl rfl (dQ .(h))) hw) (o5 hw1)) rfl (dQ .(h))) rfl rfl)⟩
 have he:∀(j:al) (s:StepT),tkE (m:ag) (oS (.int (j:ag))::oS (bG s)::[oS .(u),oS (.int k)])=aa (dW (s.nm,1+v)):=fun j s=>
  gv (au rfl rfl cx) (au rfl (cH rfl hm) rfl)
 obtain⟨sub,h1,h2⟩:=z8 ht he ss (fun i=>i) ab ab;refine⟨sub,h1,?_⟩;have e1:itE (vSh 1) (kE c ss ds ks (oS (.int k)) a b d)=aa ((ss.map bG).mapIdx fun i d=>D.tup [.int i,d]):=rfl;have e2:fC [ab,ab,aa 2,aa 4] (kE c ss ds ks (oS (.int k)) a b d)=ab::ab::[oS .(u),oS (.int k)]:=rfl;unfold tkC aP bd;rw[e1,qb,qW (by rw[ng,qf];exact szN hl .(h)),e2,h2,qe,qo];rfl
theorem Aq {sub:ac StepT} {v:ag} (h:sub.Sublist ss) (nd:(ss.map (·.nm)).Nodup) (hv:1<=v/\v<=1000000):GoodA (ss.map (·.nm)) (sub.map fun s=>(s.nm,v)):=by
 refine⟨by rw[qf,qf];exact h.length_le,fun w hw=>?_,?_⟩
 .obtain⟨s,hs,rfl⟩:=a5.mp hw;exact⟨qU (h.subset hs),hv⟩
 .rw[qo];exact Rg (h.map (·.nm)) nd
structure KInv (sn:ac ah) (i:al) (ks:ac StockT):Prop where
 len:ks.length=i
 good:∀k∈ks,GoodK sn k
 nmk:∀(j:al) k,ks[j]?=aa k->k.nm=nm (80+j)
noncomputable def AR:FS:=.(O)
theorem GC {c:ag} {ds:ac ag} {x y z:ar Slot} {d1 d2 d3 d4 d5 d6:ag} (hi:i<6) (hl:ss.length<=40) (nd:(ss.map (·.nm)).Nodup)
  (q1:ds[1]?=aa d1) (q2:ds[2]?=aa d2) (q3:ds[3]?=aa d3) (q4:ds[4]?=aa d4) (q5:ds[5]?=aa d5) (q6:ds[6]?=aa d6) (p1:0<=d1/\d1<4) (p2:0<=d2/\d2<5) (p5:0<=d5/\d5<4) (p6:0<=d6/\d6<4) (I:KInv (ss.map (·.nm)) i ks) :
  ∃ks' x' y' z',AR (kE c ss ds ks (oS (.int (0+(i:ag)))) x y z)=aa (.nx,kE c ss ds ks' (oS (.int (0+(i:ag)))) x' y' z')/\KInv (ss.map (·.nm)) (i+1) ks':=by
 have hn:=(kU (k:=80+i) .(e)).1;have hnb:=(kU (k:=80+i) .(e)).2;have hn':fN [.int (80+(0+(i:ag)))]=aa (.str (nm (80+i))):=by rw[←hn];congr 3;omega
 have e5:b2 aV (b2 ixD (vSh 2) .(d)) (b2 ixD (vSh 2) .(l)) (kE c ss ds ks (oS (.int (0+(i:ag)))) x y z)=aa (.int (d1+d2)):=au (cH (n:=1) rfl q1) (cH (n:=2) rfl q2) rfl;obtain⟨s1,h1,e6⟩:=Bt (c:=c) (k:=0+(i:ag)) (ss:=ss) (ks:=ks) (a:=oS (.int (d1+d2))) (b:=y) (d:=z) (n:=3) (m:=5) hl q3 q5;obtain⟨s2,h2,e7⟩:=Bt (c:=c) (k:=0+(i:ag)) (ss:=ss) (ks:=ks) (a:=oS (.int (d1+d2))) (b:=aa (.sh (.lst ((s1.map fun s=>(s.nm,1+d5)).map dW)))) (d:=z) (n:=4) (m:=6) hl q4 q6
 let K:StockT:=⟨nm (80+i),d1,d1+d2,s1.map fun s=>(s.nm,1+d5),s2.map fun s=>(s.nm,1+d6)⟩
 refine⟨ks++[K],_,_,_,(bq e5).trans ((bq e6).trans ((bq e7).trans (mw (x:=K) rfl (Aa (a4 (aA .(P) aR) hn') (cH (n:=1) rfl q1) rfl rfl rfl) (by have:=I.len;omega)))),⟨?_,?_,?_⟩⟩
 .rw[qj,I.len];rfl
 .intro k hk;rcases cR.mp hk with q|q
  .exact I.good k q
  .rw[bW.mp q];exact⟨hnb,⟨p1.1,by show d1<=d1+d2;omega⟩,⟨by show 0<=d1+d2;omega,by show d1+d2<=_;omega⟩,Aq h1 nd .(e),Aq h2 nd .(e)⟩
 .intro j k hj;by_cases hji:j<ks.length
  .rw[qx hji] at hj;exact I.nmk j k hj
  .have hl2:=(cY.mp hj).1;rw[qj,qT] at hl2;rw[qI .(e),show j-ks.length=0 by omega] at hj;cases hj;have:=I.len;rw[show j=i by omega]
theorem wf {l:ac α} {f:α->ah} {g:al->ah} (hn:l.length<=n) (hg:∀i,i<n->∀j,j<n->g i=g j->i=j) (h:∀(j:al) k,l[j]?=aa k->f k=g j):(l.map f).Nodup:=by rw[EL,yP];intro i j hi hj hij e;rw[qf] at hi hj;rw[Rm,Rm,h i _ (qB hi),h j _ (qB hj)] at e;have:=hg i .(e) j .(e) e;omega
theorem Jl (c:ag) (ss:ac StepT) (hl:ss.length<=40) (nd:(ss.map (·.nm)).Nodup):∃ks:ac StockT,vX [.int c,.lst (ss.map bG)]=aa (.lst (ks.map cL))/\ks.length<=6/\(∀k∈ks,GoodK (ss.map (·.nm)) k)/\(ks.map (·.nm)).Nodup:=by
 obtain⟨ds,e,hd,hbd⟩:=mG c 9 .(e) [7,4,5,8,8,4,4] .(h) .(h);obtain⟨d0,q0,p0,r0⟩:=hbd 0 7 rfl;obtain⟨d1,q1,p1⟩:=hbd 1 4 rfl;obtain⟨d2,q2,p2⟩:=hbd 2 5 rfl;obtain⟨d3,q3,p3⟩:=hbd 3 8 rfl;obtain⟨d4,q4,p4⟩:=hbd 4 8 rfl;obtain⟨d5,q5,p5⟩:=hbd 5 4 rfl;obtain⟨d6,q6,p6⟩:=hbd 6 4 rfl;obtain⟨ρ',h1,ks,a,x,y,z,h2,h3⟩:=dZ (gg:=ay 4) (body:=AR) (xs:=(cG d0.toNat).map fun k:al=>D.int (0+k)) (ρ:=kE c ss ds [] ab ab ab ab)
  (fun i ρ=>∃ks a x y z,ρ=kE c ss ds ks a x y z/\KInv (ss.map (·.nm)) i ks) ⟨[],ab,ab,ab,ab,rfl,⟨rfl,fun j hj=>(by cases hj),fun j k hj=>(by simp at hj)⟩⟩ (fun i w ρ hx hI=>by obtain⟨ks,a,x,y,z,rfl,I⟩:=hI;obtain⟨hi,rfl⟩:=A9 hx;obtain⟨ks',x',y',z',e1,e2⟩:=GC (c:=c) (ss:=ss) (ds:=ds) (ks:=ks) (i:=i) (x:=x) (y:=y) (z:=z) .(e) hl nd q1 q2 q3 q4 q5 q6 p1 p2 p5 p6 I;exact⟨_,_,rfl,e1,ks',_,_,_,_,rfl,e2⟩)
 rw[qf,qR] at h3;have eS:cF eh (ae (vSh 0) (ae (vC (.int 9)) (ae (aP (szF (ae (vC (.int 7)) (ae .(j) (ae (vC (.int 5)) (ae (vC (.int 8)) (ae (vC (.int 8)) (ae .(j) (ae .(j) ak))))))))) ak))) [oS (.int c),oS (.lst (ss.map bG)),ab,ab,ab,ab,ab,ab]=aa .(u):=
  a4 (aA rfl (aA rfl (aA (xM rfl rfl rfl rfl rfl rfl rfl) aR))) e
 have eI:itR eV (ae (b2 ixD (vSh 2) .(c)) ak) (kE c ss ds [] ab ab ab ab)=aa ((cG d0.toNat).map fun k:al=>D.int (0+k)):=lv (aA (cH (n:=0) rfl q0) aR) (nI ⟨p0,by omega⟩);exact⟨ks,bO [oS (.int c),oS (.lst (ss.map bG)),ab,ab,ab,ab,ab,ab] rfl ((bq eS).trans (ku.trans ((bY ((cW eI).trans (h1.trans (by rw[h2])))).trans ((iD rfl).trans (bT (f:=vSh 3) rfl))))),by have:=h3.len;omega,h3.good,wf (n:=7) (by have:=h3.len;omega) KC h3.nmk⟩
theorem vV (ns:ac ag) (n m:al) (hn:n<=1000) {k:ag} (hk:k=(m:ag)) (h0:ρ[0]?=aa (oS (.scr ns))) (hfi:fi ρ=aa ((cG n).map fun i:al=>D.int (0+i))) :
  ∃cs:ac ag,aP (bd fi (ay 0) tT (cF fg (ae (vSh 1) (ae (b2 aV (vC (.int k)) (vSh 0)) ak))) [ab,aa 0]) ρ=aa (.lst (cs.map D.int))/\cs.length=n:=by
 have hfv:fC [ab,aa 0] ρ=ab::[oS (.scr ns)]:=by simp only[fC,qm,qM,Qj,qb,h0]
 have hc:=h8 (fi:=fi) (fe:=cF fg (ae (vSh 1) (ae (b2 aV (vC (.int k)) (vSh 0)) ak))) (fv:=[ab,aa 0]) (ρ:=ρ) (r:=[oS (.scr ns)]) (a:=ab) (f:=fun d=>match d with|.int i=>.int (ns.getD (m+i.toNat) 0)|_=>.non) hfi (by rw[qf,qR];exact szN hn .(h)) hfv (fun x hx=>by
  obtain⟨i,hi,rfl⟩:=a5.mp hx;have e:=lA ns (m+i);refine a4 (aA rfl (aA .(P) aR)) ?_;subst hk;have e1:((m:ag)+(0+(i:ag)))=((m+i:al):ag):=by omega
  rw[e1,e]
  congr 3
  omega)
 refine⟨(cG n).map fun i=>ns.getD (m+i) 0,?_,by rw[qf,qR]⟩;rw[hc,qo,qo]
 congr 2
 refine oZ fun i _=>?_;show D.int (ns.getD (m+(0+(i:ag)).toNat) 0)=D.int (ns.getD (m+i) 0)
 congr 3
 omega
noncomputable def aF (bs:ac BenchT) (ss:ac StepT) (js:ac JobT) (us:ac SetT) (ls:ac LinkT) (ks:ac StockT) (h:ag):D:=.lst [.lst (bs.map cq),.lst (ss.map bG),.lst (js.map aW),.lst (us.map cM),.lst (ls.map cX),.lst (ks.map cL),.int h]
theorem Ih (ns:ac ag) (n:al) (h lo:ag) (hn:1<=n/\n<=10) (hh:1<=h/\h<=1000000) (hlo:0<lo/\lo<1000):∃bs ss js us ls ks,wE [.scr ns,.int (n:ag),.int h,.int lo]=aa .(a)/\Good bs ss js us ls ks h/\js.length<=3/\ss.length<=10:=by
 have b0:0<=(ns.getD 0 0)%3:=qV _ .(h);have b1:(ns.getD 0 0)%3<3:=qS _ .(h);obtain⟨nb,hnb⟩:∃nb:al,1+(ns.getD 0 0)%3=(nb:ag):=⟨(1+(ns.getD 0 0)%3).toNat,by omega⟩;obtain⟨cb,eb,lb⟩:=vV ns nb 1 .(e) (k:=1) (fi:=itR eV (ae (b2 aV .(d) (b2 bQ (cF fg (ae (vSh 0) (ae .(c) ak))) .(i))) ak)) (ρ:=[oS (.scr ns),oS (.int n),oS (.int h),oS (.int lo),ab,ab,ab,ab,ab,ab]) rfl rfl (lv (aA (d:=.int (nb:ag)) (au rfl (au (a4 .(q) (lA ns 0)) rfl (dQ .(h))) (by rw[←hnb];rfl)) aR) (nI (j:=(nb:ag)) .(e)));obtain⟨bs,e1,l1,g1⟩:=Ph cb h .(e);have bnd:(bs.map (·.nm)).Nodup:=wf (n:=3) .(e) Hb fun j b hj=>(g1 j b hj).nm;have hbn:∀x∈bs.map (·.nm),ba x=ai:=fun x hx=>by obtain⟨b,hb,rfl⟩:=a5.mp hx;obtain⟨j,hj⟩:=nr hb;have hjl:=(cY.mp hj).1;rw[(g1 j b hj).nm];exact(kU .(e)).2
 obtain⟨ct,et,lt⟩:=vV ns n 4 .(e) (k:=4) (fi:=itR eV .(N)) (ρ:=[oS (.scr ns),oS (.int n),oS (.int h),oS (.int lo),oS (.lst (bs.map cq)),ab,ab,ab,ab,ab]) rfl rfl (lv (aA rfl aR) (nI (j:=(n:ag)) .(e)));obtain⟨ss,e2,l2,g2⟩:=Gy ct bs h lo hh.1 hlo .(e) .(e) bnd;have snd:(ss.map (·.nm)).Nodup:=wf (n:=10) .(e) J5 fun j b hj=>(g2 j b hj).nm;have gs:∀s∈ss,GoodS (bs.map (·.nm)) h s:=fun s hs=>by obtain⟨j,hj⟩:=nr hs;exact(g2 j s hj).good
 have hsn:∀x∈ss.map (·.nm),ba x=ai:=fun x hx=>by obtain⟨b,hb,rfl⟩:=a5.mp hx;exact(gs b hb).nm
 obtain⟨cj,ej,lj⟩:=vV ns 3 14 .(e) (k:=14) (fi:=itR eV (ae .(i) ak)) (ρ:=[oS (.scr ns),oS (.int n),oS (.int h),oS (.int lo),oS (.lst (bs.map cq)),oS (.lst (ss.map bG)),ab,ab,ab,ab]) rfl rfl (lv (aA rfl aR) (nI (j:=3) .(e)));obtain⟨js,e3,l3,g3,g4,g5⟩:=Op cj ss h hh.1 .(e) .(e) hsn snd;obtain⟨us,e4,l4,g6,g7⟩:=KQ (ns.getD 17 0) bs h hh.1 .(e) hbn;obtain⟨ls,e5,l5,g8,g9⟩:=Hl (ns.getD 18 0) ss h hh.1 .(e) hsn;obtain⟨ks,e6,l6,g10,g11⟩:=Jl (ns.getD 19 0) ss .(e) snd;refine⟨bs,ss,js,us,ls,ks,?_,⟨hh,by omega,fun x hx=>?_,bnd,by omega,gs,snd,by omega,g3,g4,g5,by omega,g6,g7,by omega,g8,g9,by omega,g10,g11⟩,l3,by omega⟩
 .refine bO [oS (.scr ns),oS (.int n),oS (.int h),oS (.int lo),ab,ab,ab,ab,ab,ab] rfl ((bq (a4 (aA eb (aA rfl aR)) e1)).trans ((bq (a4 (aA et (aA rfl .(q))) e2)).trans ((bq (a4 (aA ej .(q)) e3)).trans ((bq (a4 (aA (a4 .(q) (lA ns 17)) .(q)) e4)).trans ((bq (a4 (aA (a4 .(q) (lA ns 18)) .(q)) e5)).trans ((bq (a4 (aA (a4 .(q) (lA ns 19)) (aA rfl aR)) e6)).trans (bT (xM rfl rfl rfl rfl rfl rfl rfl))))))))
 .obtain⟨j,hj⟩:=nr hx;have hjl:=(cY.mp hj).1;have g:=g1 j x hj;exact⟨by rw[g.nm];exact(kU .(e)).2,by have:=g.len;omega,g.good.iv,g.good.gap⟩
noncomputable def Wp (o:ar α) (P:α->Prop):Prop:=∃a,o=aa a/\P a
section
variable {o:ar α} {P Q:α->Prop} {R:Fl×bf->Prop}
theorem Wp.imp (h:Wp o P) (k:∀a,P a->Q a):Wp o Q:=let ⟨a,e,p⟩:=h;⟨a,e,k a p⟩
theorem pz {f:α->ar β} {P:β->Prop} (h:Wp o fun a=>Wp (f a) P):Wp (o.bind f) P:=by obtain⟨a,rfl,b,e,p⟩:=h;exact⟨b,e,p⟩
theorem N1 {a:α} (e:o=aa a) (p:P a):Wp o P:=⟨a,e,p⟩
theorem Kw (h:Wp (ft ρ) fun b=>Wp ((if b=ai then g else g') ρ) R):Wp (sIf ft g g' ρ) R:=pz (h.imp fun b k=>by cases b<;>exact k)
theorem Ka {P:D->Prop} (h:Wp (g (ds.map (fun d=>aa (Slot.sh d))++b9 n ab)) fun r=>∃d,r.1=.rt d/\P d):Wp (aY n g ds) P:=pz (h.imp fun⟨fl,ρ'⟩ ⟨d,e,p⟩=>by have e:fl=.rt d:=e;subst e;exact⟨d,rfl,p⟩)
theorem NF {x:D} (h:((cG n).map fun i:al=>D.int (0+(i:ag)))[i]?=aa x):i<n/\x=.int i:=by rw[qk] at h;obtain⟨k,hk,rfl⟩:=oMd h;obtain⟨hlt,e⟩:=cY.mp hk;rw[Rl] at e;rw[qR] at hlt;subst e;exact⟨hlt,by rw[Int.zero_add]⟩
end
section
variable {f:α->D} {l:ac (ah×α)} {k j:ah} {v:α}
noncomputable def tb (f:α->D) (l:ac (ah×α)):ac (Key×D):=l.map fun q=>(.inr q.1,f q.2)
noncomputable def lk (l:ac (ah×α)) (k:ah):ar α:=(l.find? fun q=>decide (q.1=k)).map (·.2)
noncomputable def pt (l:ac (ah×α)) (k:ah) (v:α):ac (ah×α):=if (l.any fun q=>decide (q.1=k))=ai then l.map (fun q=>if q.1=k then (q.1,v) else q) else l++[(k,v)]
noncomputable def dp (l:ac (ah×α)) (k:ah):ac (ah×α):=l.filter fun q=>decide (q.1≠k)
theorem Cp (a b:ah):decide ((cB a:Key)=cB b)=decide (a=b):=by
 by_cases h:a=b
 .rw[h];simp
 .rw[qL h,qL fun z=>h (gC z)]
theorem gI (f:α->D) (k:ah):∀l:ac (ah×α),cv (tb f l) (.inr k)=(lk l k).map f
 |[]=>rfl
 |(a,v)::l=>by
  have ih:=gI f k l;unfold cv lk at ih ⊢;unfold tb at ih ⊢;rw[qm,dL,dL,Cp];by_cases h:a=k
  .rw[qQ h];rfl
  .rw[qL h];exact ih
theorem j2 (a:ah) (v:α) (l:ac (ah×α)) (k:ah):lk ((a,v)::l) k=if a=k then aa v else lk l k:=by
 unfold lk;rw[dL];by_cases h:a=k
 .rw[qQ h,qW h];rfl
 .rw[qL h,qX h]
theorem uf:∀{l:ac (ah×α)},lk l k=ab↔k∉l.map (·.1)
 |[]=>by simp[lk]
 |(a,v)::l=>by
  rw[j2,qm,qJ];by_cases h:a=k
  .subst h;simp
  .rw[qX h,uf];constructor
   .rintro q (z|z)
    .exact h z.symm
    .exact q z
   .exact fun q z=>q (.inr z)
theorem kP:∀{l:ac (ah×α)},lk l k=aa v->(k,v)∈l
 |[],h=>by cases h
 |(a,w)::l,h=>by
  rw[j2] at h;split at h
  .rename_i e;cases h;subst e;exact .head _
  .exact .tail _ (kP h)
theorem jz:∀{l:ac (ah×α)},(l.map (·.1)).Nodup->(k,v)∈l->lk l k=aa v
 |(a,w)::l,nd,h=>by
  rw[qm,il] at nd;rw[j2];rcases cA.mp h with e|h
  .cases e;exact qW rfl
  .rw[qX fun z=>nd.1 (a5.mpr ⟨_,h,z.symm⟩)];exact jz nd.2 h
theorem Kd (l m:ac (ah×α)) (k:ah):lk (l++m) k=(lk l k).or (lk m k):=by unfold lk;rw[Rn];cases l.find? fun q=>decide (q.1=k)<;>rfl
theorem pj:(l.any fun q=>decide (q.1=k))=ai↔k∈l.map (·.1):=by
 rw[ip,a5];constructor
 .rintro⟨q,h1,h2⟩;exact⟨q,h1,eU h2⟩
 .rintro⟨q,h1,h2⟩;exact⟨q,h1,qQ h2⟩
theorem CJ (k:ah) (v:α) (j:ah):∀l:ac (ah×α),lk (l.map fun q=>if q.1=k then (q.1,v) else q) j=if j=k then (lk l j).map fun _=>v else lk l j
 |[]=>by simp[lk]
 |(a,w)::l=>by
  rw[qm];have ih:=CJ k v j l;by_cases h:a=k
  .rw[qW h,j2,j2,ih];by_cases h2:a=j
   .rw[qW h2,qW h2,qW (h2.symm.trans h)];rfl
   .rw[qX h2,qX h2]
  .rw[qX h,j2,j2,ih];by_cases h2:a=j
   .rw[qW h2,qW h2,qX fun z=>h (h2.trans z)]
   .rw[qX h2,qX h2]
theorem sV:lk (pt l k v) j=if j=k then aa v else lk l j:=by
 unfold pt;split
 .rename_i h;rw[CJ];by_cases e:j=k
  .subst e;rw[qW rfl,qW rfl];cases q:lk l j with
   |none=>exact bz (pj.mp h) (uf.mp q)
   |some w=>rfl
  .rw[qX e,qX e]
 .rename_i h;rw[Kd,j2];by_cases e:j=k
  .subst e;rw[qW rfl,qW rfl,uf.mpr fun z=>h (pj.mpr z)];rfl
  .rw[qX e,qX (df e)];cases lk l j<;>rfl
theorem Kg (k:ah) (v:α) (l:ac (ah×α)):(l.map fun q=>if q.1=k then (q.1,v) else q).map (·.1)=l.map (·.1):=by rw[qo];refine oZ fun q _=>?_;show(if q.1=k then (q.1,v) else q).1=q.1;split<;>rfl
theorem v8 (nd:(l.map (·.1)).Nodup):((pt l k v).map (·.1)).Nodup:=by
 unfold pt;split
 .rw[Kg];exact nd
 .rename_i h;rw[iT,iV];refine⟨nd,by simp,fun a ha b hb e=>h (pj.mpr ?_)⟩;have e2:b=k:=by simpa using hb
  rw[←e2,←e];exact ha
theorem wF:(pt l k v).length<=l.length+1:=by
 unfold pt;split
 .rw[qf];exact lO _
 .rw[qj];exact qv _
theorem MU (f:α->D) (l:ac (ah×α)) (k:ah) (v:α):eC (tb f l) (.inr k) (f v)=tb f (pt l k v):=by
 have e:((tb f l).any fun kv=>decide (kv.1=.inr k))=l.any fun q=>decide (q.1=k):=by
  unfold tb;rw[Ro]
  congr 1
  funext q
  exact Cp _ _
 unfold eC pt;rw[e];split
 .unfold tb;rw[qo,qo];refine oZ fun q _=>?_;show(if (cB q.1:Key)=.inr k then _ else _)=((.inr (if q.1=k then (q.1,v) else q).1:Key),f (if q.1=k then (q.1,v) else q).2);by_cases h:q.1=k
  .rw[qW h,qW (cI cB h)]
  .rw[qX h,qX fun z=>h (gC z)]
 .unfold tb;rw[iT];rfl
end
noncomputable def pT (q:ah×ag):D:=.tup [.str q.1,.int q.2]
noncomputable abbrev bp:=ac (ah×ah×ag)
noncomputable def pD (P:bp):D:=.fdk (tb pT P)
noncomputable def eD (E:ac (ah×ag)):D:=.fdk (tb D.int E)
variable {P:bp}
section
variable {k:ah}
theorem cC (h:lk P k=aa q):aO (pD P) (.str k)=aa (pT q):=by show(aa (cv (tb pT P) (.inr k))).bind id=_;rw[gI,h];rfl
theorem dN {x:ag} (h:lk E k=aa x):aO (eD E) (.str k)=aa (.int x):=by show(aa (cv (tb D.int E) (.inr k))).bind id=_;rw[gI,h];rfl
theorem IN:fz (.str k) (pD P)=aa (.bl (lk P k).isSome):=by show aa (D.bl (cv (tb pT P) (.inr k)).isSome)=_;rw[gI,oK]
theorem Lv:pr (.str k) (pD P)=aa (.bl (!(lk P k).isSome)):=by show aa (D.bl (!(cv (tb pT P) (.inr k)).isSome))=_;rw[gI,oK]
theorem KJ:fz (.str k) (eD E)=aa (.bl (lk E k).isSome):=by show aa (D.bl (cv (tb D.int E) (.inr k)).isSome)=_;rw[gI,oK]
theorem Pb {x:ag} :j6 (eD E) (.str k) (.int x)=aa (.int ((lk E k).getD x)):=by show aa ((cv (tb D.int E) (.inr k)).getD (.int x))=_;rw[gI];cases lk E k<;>rfl
end
section
variable {bs:ac BenchT}
theorem Fh (g:Good bs ss js us ls ks h) (ml:(js.flatMap (·.ms)).length<=300):vR [aF bs ss js us ls ks h]=aa .(f):=
 bO [oS .(a)] rfl (bT (a4 (aA (au rfl rfl (ixL _ 0)) (aA (au rfl rfl (ixL _ 1)) (aA (au rfl rfl (ixL _ 2)) (aA (au rfl rfl (ixL _ 3)) (aA (au rfl rfl (ixL _ 4)) (aA (au rfl rfl (ixL _ 5)) (aA (au rfl rfl (ixL _ 6)) aR))))))) (Lk g ml)))
theorem jf {f:ah} (i:al) (h1:fo ρ=aa .(f)) (h2:(n5 bs ss js us ls ks h)[i]?=aa (f,d)):ga "Shop" f fo ρ=aa d:=by unfold ga;rw[h1];show(if ("Shop":ah)="Shop" then (n5 bs ss js us ls ks h).lookup f else ab)=aa d;rw[qW rfl];exact uv (by rw[Dy];exact sv) h2
theorem gQ {F:FQ} {m:ah} (hm:m∉lr) (h1:fo ρ=aa .(f)) (h2:fr ρ=aa ds) (h3:F (aS bs ss js us ls ks h::ds)=aa d):c7 "Shop" m F fo fr ρ=aa d:=by have hno:(n5 bs ss js us ls ks h).lookup m=ab:=pG (by rw[Dy];exact hm);unfold c7;rw[h1];show(if ("Shop":ah)="Shop"/\(n5 bs ss js us ls ks h).lookup m=ab then (fr ρ).bind fun ds=>F (aS bs ss js us ls ks h::ds) else ab)=_;rw[qW ⟨rfl,hno⟩,h2];exact h3
theorem Hx {f:α->D} {nm:α->ah} {xs:ac α} (hf:∀x,∃r,f x=.tup (.str (nm x)::r)) (h1:fo ρ=aa (.lst (xs.map f))) (h2:xs.length<=aT) (h3:fC fv ρ=[ab]) :
  aP (bd (itF fo) (ay 0) tT .(t) fv) ρ=aa (.lst ((xs.map nm).map D.str)):=by
 have hc:=h8 (fi:=itF fo) (fe:=b2 ixD (vSh 0) .(c)) (fv:=fv) (ρ:=ρ) (r:=[]) (a:=ab) (xs:=xs.map f) (f:=fun d=>match d with|.tup (x::_)=>x|_=>.non) (by unfold itF;rw[h1];rfl) (by rw[qf];exact h2) h3 (fun x hx=>by obtain⟨y,_,rfl⟩:=a5.mp hx;obtain⟨r,e⟩:=hf y;simp only[b2,vSh,vC,qc,qb,e,cx])
 rw[hc]
 congr 2
 rw[qo,qo];refine oZ fun x _=>?_;obtain⟨r,e⟩:=hf x;simp[e]
theorem wu (hl:ss.length<=40):kf [aS bs ss js us ls ks h]=aa (.lst ((ss.map (·.nm)).map D.str)):=
 bO [oS .(f)] rfl (bT (Hx (f:=bG) (nm:=(·.nm)) (xs:=ss) (fun x=>⟨_,rfl⟩) (jf 1 rfl rfl) (szN hl .(h)) rfl))
theorem tw {α:Type} {nm:α->ah} {f:α->D}:∀{xs:ac α} {s:α},(xs.map nm).Nodup->s∈xs->cv (xs.map fun x=>((.inr (nm x):Key),f x)) (.inr (nm s))=aa (f s)
 |[],s,_,hs=>by cases hs
 |x::r,s,nd,hs=>by
  rw[qm,il] at nd;unfold cv;rw[qm,dL];by_cases e:nm x=nm s
  .have hxs:s=x:=by
    rcases cA.mp hs with q|q
    .exact q
    .exact bz (qU (f:=nm) q) (by rw[←e];exact nd.1)
   subst hxs;simp
  .have hs':s∈r:=by
    rcases cA.mp hs with q|q
    .subst q;exact bz rfl e
    .exact q
   have hne:¬((.inr (nm x):Key)=.inr (nm s)):=fun z=>e (gC z);simp only[qL hne];exact tw nd.2 hs'
theorem GQ {s:StepT} (g:Good bs ss js us ls ks h) (hs:s∈ss):uw [aS bs ss js us ls ks h,.str s.nm]=aa (.lst (s.ws.map dW)):=by have gs:=g.s s hs;refine bO [oS .(f),oS .(z)] rfl (bT (a4 (aA (au (au (x:=.dk (ss.map fun s=>(.inr s.nm,bG s))) (z:=bG s) (jf 8 rfl rfl) rfl ?_) rfl iy) aR) (hZ (tQ (by have:=gs.l4;omega)))));show cv (ss.map fun s=>((.inr s.nm:Key),bG s)) (.inr s.nm)=_;exact tw g.sn hs
theorem Pm [eE κ] (kvs:ac (κ×D)) (k k':κ) (v:D):cv (eC kvs k v) k'=if k'=k then aa v else cv kvs k':=by
 unfold eC;split
 .rename_i hany;by_cases e:k'=k
  .subst e;rw[qW rfl];unfold cv
   induction kvs with
   |nil=>simp at hany
   |cons x r ih=>
    rw[qm,dL];by_cases ex:x.1=k'
    .simp[ex]
    .simp only[qX ex,qL ex];rw[kG,qL ex,Et] at hany;exact ih hany
  .rw[qX e];unfold cv
   induction kvs with
   |nil=>rfl
   |cons x r ih=>
    rw[qm,dL,dL];by_cases ex:x.1=k
    .have:¬x.1=k':=fun z=>e (z.symm.trans ex);simp only[qW ex,qL this];by_cases ha:(r.any fun kv=>decide (kv.1=k))=ai
     .exact ih ha
     .have hmap:r.map (fun kv=>if kv.1=k then (kv.1,v) else kv)=r:=by
       conv=>rhs;rw[←E6 r]
       refine oZ fun y hy=>?_;have:¬y.1=k:=fun z=>ha (ip.mpr ⟨y,hy,qQ z⟩);simp[this]
      rw[hmap]
    .simp only[qX ex];by_cases ex':x.1=k'
     .simp[ex']
     .simp only[qL ex'];rw[kG,qL ex,Et] at hany;exact ih hany
 .rename_i hany;have hno:∀x∈kvs,¬x.1=k:=fun x hx z=>hany (ip.mpr ⟨x,hx,qQ z⟩);unfold cv;rw[Rn];by_cases e:k'=k
  .subst e;rw[qW rfl];have:kvs.find? (fun kv=>decide (kv.1=k'))=ab:=by rw[oP];intro x hx z;exact hno x hx (eU z)
   rw[this];simp
  .rw[qX e];have:¬k=k':=fun z=>e z.symm;simp[this]
theorem Cy (j:JobT) (m:ah):∀(ms:ac ah) (acc:ac (Key×D)),cv (ms.foldl (gP j) acc) (.inr m)=if m∈ms then aa (aW j) else cv acc (.inr m)
 |[],acc=>by simp
 |x::r,acc=>by
  rw[iS,Cy j m r];by_cases h1:m∈r
  .rw[qW h1,qW (qh _ h1)]
  .rw[qX h1];unfold gP;rw[Pm];by_cases h2:m=x
   .subst h2;rw[qW rfl,qW qg]
   .have:¬((.inr m:Key)=.inr x):=fun z=>h2 (gC z);rw[qX this,qX];intro z;rcases cA.mp z with q|q
    .exact h2 q
    .exact h1 q
noncomputable def cU (js:ac JobT) (m:ah):ar JobT:=js.find? fun j=>decide (m∈j.ms)
theorem zn (m:ah):∀(js:ac JobT) (acc:ac (Key×D)),(js.flatMap (·.ms)).Nodup->cv (js.foldl (fun acc j=>j.ms.foldl (gP j) acc) acc) (.inr m)=match cU js m with|some j=>aa (aW j)|none=>cv acc (.inr m)
 |[],acc,_=>rfl
 |j::r,acc,nd=>by
  rw[u4,iV] at nd;rw[iS,zn m r _ nd.2.1,Cy];unfold cU;rw[dL];by_cases h1:m∈j.ms
  .have:r.find? (fun j=>decide (m∈j.ms))=ab:=by rw[oP];intro x hx z;exact nd.2.2 m h1 m (u6.mpr ⟨x,hx,eU z⟩) rfl
   simp only[qQ h1,this,qW h1]
  .simp only[qL h1,qX h1]
noncomputable def wB:ar JobT->D
 |some j=>aW j
 |none=>.non
theorem o8 {m:ah} {j:JobT} (h:cU js m=aa j):j∈js/\m∈j.ms:=⟨uT h,by have:=yU h;exact eU this⟩
theorem HE (g:Good bs ss js us ls ks h) (m:ah):wb [aS bs ss js us ls ks h,.str m]=aa (wB (cU js m)):=by
 have hl:(ss.map (·.nm)).length<=40:=by rw[qf];exact g.sl.2
 have hp:Pl 8 (wB (cU js m)):=by
  cases e:cU js m with
  |none=>trivial
  |some j=>exact xo hl (g.j j (o8 e).1)
 refine bO [oS .(f),oS (.str m)] rfl (bT (a4 (aA (au (x:=.dk (jkv js)) (jf 10 rfl rfl) rfl ?_) aR) (hZ hp)));show aa ((cv (jkv js) (.inr m)).getD .non)=_;unfold jkv;rw[zn m js [] g.jm];cases cU js m<;>rfl
theorem AJ {s:StepT} (g:Good bs ss js us ls ks h) (hs:s∈ss):nM [aS bs ss js us ls ks h,.str s.nm]=aa (.str s.kd):=by refine bO [oS .(f),oS .(z)] rfl (bT (au (au (x:=.dk (ss.map fun s=>(.inr s.nm,bG s))) (z:=bG s) (jf 8 rfl rfl) rfl ?_) rfl cy));show cv (ss.map fun s=>((.inr s.nm:Key),bG s)) (.inr s.nm)=_;exact tw g.sn hs
theorem HM {b:BenchT} (g:Good bs ss js us ls ks h) (hb:b∈bs):xb [aS bs ss js us ls ks h,.str b.nm]=aa (.lst (b.br.map dIv)):=by
 have gb:=g.b b hb;have hp:Pl 8 (.lst (b.br.map dIv)):=gM (by have:=gb.len;omega) fun x _=>⟨by simp[aT],by intro y hy;simp only[qJ,qH,or_false] at hy;rcases hy with rfl|rfl<;>trivial⟩
 refine bO [oS .(f),oS (.str b.nm)] rfl (bT (a4 (aA (au (au (x:=.dk (bs.map fun b=>(.inr b.nm,cq b))) (z:=cq b) (jf 7 rfl rfl) rfl ?_) rfl cy) aR) (hZ hp)));show cv (bs.map fun b=>((.inr b.nm:Key),cq b)) (.inr b.nm)=_;exact tw g.bn hb
noncomputable def suN (us:ac SetT) (a b c:ah):ag:=match (us.find? fun u=>decide ([cB u.b,cB u.p,cB u.q]=([.inr a,.inr b,.inr c]:ac Key))) with
 |some u=>u.n
 |none=>0
theorem JC:tp [aS bs ss js us ls ks h]=aa (.int h):=bO [oS .(f)] rfl (bT (jf 6 rfl rfl))
theorem MF (g:Good bs ss js us ls ks h) (hp:Pl 8 .(aa)):xX [aS bs ss js us ls ks h]=aa .(aa):=bO [oS .(f)] rfl (bT (a4 (aA (jf 2 rfl rfl) aR) (hZ hp)))
theorem IU (hp:Pl 8 (.lst (ls.map cX))):we [aS bs ss js us ls ks h]=aa (.lst (ls.map cX)):=bO [oS .(f)] rfl (bT (a4 (aA (jf 4 rfl rfl) aR) (hZ hp)))
theorem Mp (hp:Pl 8 (.lst (ks.map cL))):xF [aS bs ss js us ls ks h]=aa (.lst (ks.map cL)):=bO [oS .(f)] rfl (bT (a4 (aA (jf 5 rfl rfl) aR) (hZ hp)))
noncomputable def ukv (us:ac SetT):ac (ac Key×D):=us.map fun u=>([u.b,u.p,u.q].map cB,.int u.n)
theorem CO (a b c:ah):∀us:ac SetT,(cv (ukv us) [.inr a,.inr b,.inr c]).getD (.int 0)=.int (suN us a b c)
 |[]=>rfl
 |u::r=>by
  have ih:=CO a b c r;unfold cv suN at ih ⊢;rw[show ukv (u::r)=(([cB u.b,cB u.p,cB u.q]:ac Key),D.int u.n)::ukv r from rfl,dL,dL];by_cases e:([cB u.b,cB u.p,cB u.q]:ac Key)=[.inr a,.inr b,.inr c]
  .rw[qQ e];rfl
  .rw[qL e];exact ih
theorem zP {g:D->D->D->ar D} {x w:D} (h1:fa ρ=aa x) (h2:fb ρ=aa y) (h3:fc ρ=aa z) (h4:g x y z=aa w):b3 g fa fb fc ρ=aa w:=by unfold b3;rw[h1,qb,h2,qb,h3,qb];exact h4
theorem IW (a b c:ah):sB [aS bs ss js us ls ks h,.str a,.str b,.str c]=aa (.int (suN us a b c)):=by
 have hn:j6 (.dt (ukv us)) (.tup [.str a,.str b,.str c]) (.int 0)=aa (.int (suN us a b c)):=by rw[←CO a b c us];rfl
 exact bO (n:=0) (ds:=[aS bs ss js us ls ks h,.str a,.str b,.str c]) [oS .(f),oS (.str a),oS (.str b),oS (.str c)] rfl (bT (zP (g:=j6) (fa:=ga "Shop" "setup_by_names" (vSh 0)) (fb:=bi (szF (ae (vSh 1) (ae (vSh 2) .(U))))) (fc:=vC (.int 0)) (jf 9 rfl rfl) (o9 rfl rfl rfl) rfl hn))
end
noncomputable def prS:ac StepT->ac (StepT×StepT)
 |[]=>[]
 |s::r=>r.map (fun t=>(s,t))++prS r
noncomputable def dP (p:StepT×StepT):D:=.tup [.str p.1.nm,.str p.2.nm]
theorem jd:∀{ss:ac StepT} {p:StepT×StepT},p∈prS ss->p.1∈ss/\p.2∈ss
 |[],_,h=>by cases h
 |s::r,p,h=>by
  rcases cR.mp h with q|q
  .obtain⟨t,ht,rfl⟩:=a5.mp q;exact⟨qg,qh _ ht⟩
  .obtain⟨h1,h2⟩:=jd q;exact⟨qh _ h1,qh _ h2⟩
theorem Ab:∀{ss:ac StepT} {n:al},ss.length<=n->(prS ss).length<=ss.length*n
 |[],_,_=>by simp[prS]
 |s::r,n,h=>by rw[qi] at h;have:=Ab (ss:=r) (n:=n) .(e);show(r.map (fun t=>(s,t))++prS r).length<=_;rw[qj,qf,qi,yx];omega
theorem DC {g:α->D} {xs ys:ac α} (h1:ρ[i]?=aa (aa (.own (xs.map g)))) (h2:f ρ=aa (.lst (ys.map g))) (h3:xs.length+ys.length<=10000):iw i f ρ=aa (.nx,ρ.set i (aa (.own ((xs++ys).map g)))):=by unfold iw;rw[h1];show(f ρ).bind _=_;rw[h2,qb];show(if _ then _ else _)=_;rw[qW (by rw[qf,qf];unfold aT;omega),iT]
theorem B2 {l:ac α} {x:α} (h:l[i]?=aa x):l.drop i=x::l.drop (i+1):=by obtain⟨h1,h2⟩:=cY.mp h;rw[uP h1,h2]
noncomputable abbrev pE (ss:ac StepT) (ps:ac (StepT×StepT)) (a b:ar Slot):bf:=[oS (.lst ((ss.map (·.nm)).map D.str)),aa (.own (ps.map dP)),a,b]
theorem Cd (ss:ac StepT) (hl:ss.length<=40):sR [.lst ((ss.map (·.nm)).map D.str)]=aa (.lst ((prS ss).map dP)):=by
 have hpl:=Ab (ss:=ss) (n:=40) hl;obtain⟨ρ',h1,ps,a,b,h2,h3⟩:=dZ (gg:=bN 2 (aI (ay 2) (aI (ay 3) bM))) (body:=(iw 1 (aP (bd (itF (slF (vSh 0) (pS (b2 aV (vSh 2) .(d))) pN)) (ay 0) tT (bi (szF (ae (vSh 1) .(ad)))) [ab,aa 3])))) (xs:=((ss.map (·.nm)).map D.str).mapIdx fun i d=>D.tup [.int i,d]) (ρ:=pE ss [] ab ab)
  (fun i ρ=>∃ps a b,ρ=pE ss ps a b/\ps++prS (ss.drop i)=prS ss) ⟨[],ab,ab,rfl,rfl⟩ (fun i x ρ hx hI=>by
   obtain⟨ps,a,b,rfl,hps⟩:=hI;obtain⟨y,hy,rfl⟩:=oa hx;rw[qo,qk] at hy;obtain⟨s,hsi,rfl⟩:=oMd hy;have hi:i<ss.length:=(cY.mp hsi).1;have hdr:=B2 hsi;have hlen:ps.length+(ss.drop (i+1)).length<=10000:=by have:=cI gX hps;rw[qj] at this;rw[iQ];omega
   have e:aP (bd (itF (slF (vSh 0) (pS (b2 aV (vSh 2) .(d))) pN)) (ay 0) tT (bi (szF (ae (vSh 1) .(ad)))) [ab,aa 3]) (pE ss ps (oS (.int i)) (oS .(z)))=aa (.lst (((ss.drop (i+1)).map fun t=>(s,t)).map dP)):=by
    have e0:itF (slF (vSh 0) (pS (b2 aV (vSh 2) .(d))) pN) (pE ss ps (oS (.int i)) (oS .(z)))=aa ((ss.drop (i+1)).map fun t=>D.str t.nm):=by have:=xf (f:=vSh 0) (g:=b2 aV (vSh 2) .(d)) (ρ:=pE ss ps (oS (.int i)) (oS .(z))) (d:=(i:ag)+1) rfl .(P) .(e);unfold itF;rw[this];show aa _=_;rw[show((i:ag)+1).toNat=i+1 by omega,qo,E5];rfl
    refine(h8 (r:=[oS .(z)]) (a:=ab) (f:=fun d=>.tup [.str s.nm,d]) e0 (by rw[qf,iQ];exact szN (k:=40) .(e) .(h)) rfl fun x hx=>gv rfl rfl).trans ?_;rw[qo,qo];rfl
   refine⟨_,_,rfl,DC rfl e (by rw[qf];exact hlen),ps++(ss.drop (i+1)).map (fun t=>(s,t)),_,_,rfl,?_⟩;rw[←hps,hdr,rH];rfl)
 rw[ng,qf,qf,EC] at h3;have h4:ps=prS ss:=by rw[←h3];simp[prS]
 rw[h4] at h2;exact bO [oS (.lst ((ss.map (·.nm)).map D.str)),ab,ab,ab] rfl (ku.trans ((bY ((cW (xs:=((ss.map (·.nm)).map D.str).mapIdx fun i d=>D.tup [.int i,d]) rfl).trans (h1.trans (by rw[h2])))).trans ((iD rfl).trans (bT (f:=vSh 1) rfl))))
noncomputable def flO:ar D->Fl
 |some d=>.rt d
 |none=>.nx
section
variable {d:α->D} {v:α->ar D}
theorem ot (I:bf->Prop):∀(as:ac α) (ρ:bf),(∀a∈as,∀ρ,I ρ->∃ρ1 ρ2,gg (d a) ρ=aa ρ1/\body ρ1=aa (flO (v a),ρ2)/\I ρ2)->I ρ->∃ρ',dB gg body (as.map d) ρ=aa (flO (as.findSome? v),ρ')/\I ρ'
 |[],ρ,_,h=>⟨ρ,rfl,h⟩
 |a::as,ρ,hs,h=>by
  obtain⟨ρ1,ρ2,e1,e2,h2⟩:=hs a (.head _) ρ h;rw[qm,sk];unfold dB;rw[e1,qb,e2,qb];cases hv:v a with
  |some x=>exact⟨ρ2,rfl,h2⟩
  |none=>
   obtain⟨ρ',q1,q2⟩:=ot I as ρ2 (fun b hb=>hs b (.tail _ hb)) h2;exact⟨ρ',q1,q2⟩
theorem ud {e:FE} (as:ac α) (I:bf->Prop) (hf:fi ρ=aa (as.map d)) (hs:∀a∈as,∀ρ,I ρ->∃ρ1 ρ2,gg (d a) ρ=aa ρ1/\body ρ1=aa (flO (v a),ρ2)/\I ρ2) (h:I ρ) (he:∀ρ,I ρ->e ρ=aa z):∃ρ',ax (bC fi gg body) (aE e) ρ=aa (.rt ((as.findSome? v).getD z),ρ'):=by
 obtain⟨ρ',e1,h1⟩:=ot I as ρ hs h;unfold ax bC;rw[hf,qb,e1,qb];cases as.findSome? v with
 |some x=>exact⟨ρ',rfl⟩
 |none=>exact⟨ρ',bT (he ρ' h1)⟩
theorem je {e:FE} (as:ac α) (I:bf->Prop) (hρ:ds.map (fun d=>aa (Slot.sh d))++b9 n ab=ρ) (hf:fi ρ=aa (as.map d)) (hs:∀a∈as,∀ρ,I ρ->∃ρ1 ρ2,gg (d a) ρ=aa ρ1/\body ρ1=aa (flO (v a),ρ2)/\I ρ2) (h:I ρ) (he:∀ρ,I ρ->e ρ=aa z) :
  aY n (ax (bC fi gg body) (aE e)) ds=aa ((as.findSome? v).getD z):=by
 obtain⟨ρ',e1⟩:=ud as I hf hs h he;exact bO ρ hρ e1
end
theorem c0 {l:ac D} (h:f ρ=aa (.lst l)):itF f ρ=aa l:=by unfold itF;rw[h];rfl
noncomputable def CU:ar ag->D
 |some n=>.int n
 |none=>.non
section
variable {bs:ac BenchT}
theorem pf (a b:ah):eqA (.str a) (.str b)=aa (.bl (decide (a=b))):=by unfold eqA orG eqD eqS;rfl
theorem Cb (b:ah):∀ws:ac (ah×ag),(ws.findSome? fun w=>if w.1=b then aa (D.int w.2) else ab)=(lk ws b).map D.int
 |[]=>rfl
 |(a,n)::ws=>by
  rw[sk,j2];by_cases e:a=b
  .rw[qW e,qW e];rfl
  .rw[qX e,qX e];exact Cb b ws
theorem Ap (g:Good bs ss js us ls ks h) {s:StepT} (hs:s∈ss) (b:ah):pZ [aS bs ss js us ls ks h,.str s.nm,.str b]=aa (CU (lk s.ws b)):=by
 have gs:=g.s s hs;have e:=je (n:=2) (ds:=[aS bs ss js us ls ks h,.str s.nm,.str b]) (ρ:=[oS .(f),oS .(z),oS (.str b),ab,ab]) (d:=dW) (v:=fun w:ah×ag=>if w.1=b then aa (D.int w.2) else ab) (e:=vC .non) (z:=.non)
  (fi:=itF (c7 "Shop" "ways_of" uw (vSh 0) .(N))) (gg:=bN 2 (aI (ay 3) (aI (ay 4) bM))) (body:=sIf (toB (b2 eqA (vSh 3) (vSh 2))) (aE (vSh 4)) aH) s.ws
  (fun ρ=>∃x y,ρ=[oS .(f),oS .(z),oS (.str b),x,y]) rfl ?_ ?_ ⟨_,_,rfl⟩ (fun ρ _=>rfl)
 .rw[Cb] at e;refine e.trans ?_;cases lk s.ws b<;>rfl
 .exact c0 (gQ .(p) rfl (aA rfl aR) (GQ g hs))
 .rintro w - ρ ⟨x,y,rfl⟩;refine⟨[oS .(f),oS .(z),oS (.str b),oS (.str w.1),oS (.int w.2)],[oS .(f),oS .(z),oS (.str b),oS (.str w.1),oS (.int w.2)],rfl,?_,_,_,rfl⟩;have te:toB (b2 eqA (vSh 3) (vSh 2)) [oS .(f),oS .(z),oS (.str b),oS (.str w.1),oS (.int w.2)]=aa (decide (w.1=b)):=aX (au rfl rfl (pf _ _));refine(bR te).trans ?_;by_cases e:w.1=b
  .rw[qQ e,qW rfl,qW e];rfl
  .rw[qL e,qX e];rfl
end
section
variable {bs:ac BenchT}
noncomputable def i9 (h:ag) (P:bp) (s:StepT):ar D:=match lk P s.nm with
 |none=>ab
 |some q=>match lk s.ws q.1 with
  |none=>aa (.tup [.str "way",.str s.nm])
  |some n=>if q.2<0\/h<q.2+n then aa (.tup [.str "way",.str s.nm]) else ab
theorem vP {A:FT} (hA:A ρ=aa ai):orT A B ρ=aa ai:=by unfold orT;rw[hA];rfl
theorem sZ {A:FT} {b:aN} (hA:A ρ=aa ao) (hB:B ρ=aa b):orT A B ρ=aa b:=by unfold orT;rw[hA];exact hB
theorem tL (g:Good bs ss js us ls ks h) (h0:vSh 0 ρ=aa .(f)):itF (c7 "Shop" "step_names" kf (vSh 0) ak) ρ=aa (ss.map fun s=>D.str s.nm):=by have e:=c0 (gQ (m:="step_names") (fr:=ak) .(p) h0 aR (wu (bs:=bs) (ss:=ss) (js:=js) (us:=us) (ls:=ls) (ks:=ks) (h:=h) g.sl.2));rw[qo] at e;exact e
theorem zz (g:Good bs ss js us ls ks h) (hp:∀s∈ss,(lk P s.nm).isSome=ai):xy [aS bs ss js us ls ks h,pD P]=aa ((ss.findSome? (i9 h P)).getD .non):=by
 refine je (n:=3) (ds:=[aS bs ss js us ls ks h,pD P]) (ρ:=[oS .(f),oS (pD P),ab,ab,ab]) (d:=fun s:StepT=>D.str s.nm) (v:=i9 h P) ss
  (fun ρ=>∃x y z,ρ=[oS .(f),oS (pD P),x,y,z]) rfl (tL g rfl) ?_ ⟨_,_,_,rfl⟩ (fun ρ _=>rfl)
 rintro s hs ρ ⟨x,y,z,rfl⟩;obtain⟨q,hq⟩:=gm.mp (hp s hs);refine⟨_,[oS .(f),oS (pD P),oS .(z),oS (.int q.2),oS (CU (lk s.ws q.1))],rfl,?_,_,_,_,rfl⟩;refine(bq (au (au rfl rfl (cC hq)) rfl cy)).trans ((bq (a4 (aA rfl (aA rfl (aA (au (au rfl rfl (cC hq)) rfl cx) aR))) (Ap g hs q.1))).trans ?_);unfold i9;rw[hq];dsimp only;cases hw:lk s.ws q.1 with
 |none=>exact(bR (vP (aX .(P)))).trans rfl
 |some n=>
  dsimp only;by_cases h1:q.2<0
  .rw[qW (.inl h1)];exact(bR (sZ (aX .(P)) (vP (aX (au rfl rfl (cI (aa ∘ D.bl) (qQ h1))))))).trans rfl
  .have e2:toB (b2 gtD (b2 aV (vSh 3) (vSh 4)) (c7 "Shop" "last_moment" tp (vSh 0) ak)) [oS .(f),oS (pD P),oS .(z),oS (.int q.2),oS (.int n)]=aa (decide (h<q.2+n)):=
    aX (au .(P) (gQ .(p) rfl aR JC) rfl)
   have e1:toB (b2 ltD (vSh 3) .(c)) [oS .(f),oS (pD P),oS .(z),oS (.int q.2),oS (.int n)]=aa ao:=aX (au (x:=.int q.2) rfl rfl (cI (aa ∘ D.bl) (qL h1)));refine(bR (sZ (aX .(P)) (sZ e1 e2))).trans ?_;by_cases h2:h<q.2+n
   .rw[qQ h2,qW rfl,qW (show q.2<0\/h<q.2+n from .inr h2)];rfl
   .rw[qL h2,qX qr,qX (show ¬(q.2<0\/h<q.2+n) from fun z=>z.elim h1 h2)];rfl
end
section
variable {bs:ac BenchT}
noncomputable def fP (P:bp) (s:StepT):ar (ah×ag):=(lk P s.nm).bind fun q=>(lk s.ws q.1).map fun n=>(s.nm,q.2+n)
noncomputable def bS (ss:ac StepT) (P:bp):ac (ah×ag):=ss.filterMap (fP P)
noncomputable def OnB (ss:ac StepT) (P:bp):Prop:=∀s∈ss,∀q,lk P s.nm=aa q->(lk s.ws q.1).isSome=ai
theorem vz {P:bp}:∀{ss:ac StepT} {k:ah},k∈(bS ss P).map (·.1)->k∈ss.map (·.nm)
 |[],k,hk=>by cases hk
 |s::ss,k,hk=>by
  unfold bS at hk;rw[uA] at hk;cases e:fP P s with
  |none=>rw[e] at hk;exact .tail _ (vz hk)
  |some q=>
   rw[e] at hk;rcases cA.mp (show k∈q.1::(ss.filterMap (fP P)).map (·.1) from hk) with z|z
   .unfold fP at e;obtain⟨a,_,e⟩:=oBd e;obtain⟨b,_,rfl⟩:=oMd e;rw[z];exact .head _
   .exact .tail _ (vz z)
theorem xh {s:StepT} (hs:ss[i]?=aa s):bS (ss.take (i+1)) P=bS (ss.take i) P++(fP P s).toList:=by
 rw[nk,hs];unfold bS;rw[List.filterMap_append]
 congr 1
theorem zo {l:ac (ah×α)} {k:ah} {v:α} (h:k∉l.map (·.1)):pt l k v=l++[(k,v)]:=by unfold pt;rw[qX fun z=>h (pj.mp z)]
theorem nK {f:α->D} {fv:FE} {l:ac (ah×α)} {v:α} (hi:ρ[i]?=aa (aa (.odk (tb f l)))) (hv:fv ρ=aa (f v)) (hk:fk ρ=aa (.str x)) (hl:l.length<100000):fD i fk fv ρ=aa (.nx,ρ.set i (aa (.odk (tb f (pt l x v))))):=by unfold fD;rw[hv,qb,hk,qb,hi];show((aa (cB x:Key)).bind fun k=>if (tb f l).length<100000 then aa (Fl.nx,ρ.set i (aa (.odk (eC (tb f l) k (f v))))) else ab)=_;rw[qb,qW (by unfold tb;rw[qf];exact hl),MU]
theorem zX (g:Good bs ss js us ls ks h) {s:StepT} (hs:ss[i]?=aa s):s.nm∉(bS (ss.take i) P).map (·.1):=fun z=>by have hz:=vz z;have nd:=g.sn;rw[←rU i ss,iT,iV] at nd;refine nd.2.2 _ hz s.nm ?_ rfl;rw[uP (cY.mp hs).1,(cY.mp hs).2];exact .head _
theorem zR (ss:ac StepT) (P:bp):(bS ss P).length<=ss.length:=List.length_filterMap_le _ _
theorem tN {l:ac (Key×D)} (hi:ρ[i]?=aa (aa (.odk l))):ja i g ρ=g (ρ.set i (oS (.fdk l))):=by unfold ja;rw[hi]
theorem KP (g:Good bs ss js us ls ks h) (hp:∀s∈ss,(lk P s.nm).isSome=ai) (ho:OnB ss P):xN [aS bs ss js us ls ks h,pD P]=aa (eD (bS ss P)):=by
 obtain⟨ρ',h1,a,b,h2⟩:=dZ (gg:=ay 3) (body:=ax (aM 4 .(V)) (fD 2 (vSh 3) (b2 aV (b2 ixD (vSh 4) .(d)) (cF pZ (ae (vSh 0) (ae (vSh 3) (ae (b2 ixD (vSh 4) .(c)) ak))))))) (xs:=ss.map fun s=>D.str s.nm) (ρ:=[oS .(f),oS (pD P),aa (.odk []),ab,ab])
  (fun i ρ=>∃a b,ρ=[oS .(f),oS (pD P),aa (.odk (tb D.int (bS (ss.take i) P))),a,b]) ⟨ab,ab,rfl⟩ (fun i x ρ hx hI=>by
   obtain⟨a,b,rfl⟩:=hI;rw[qk] at hx;obtain⟨s,hs,rfl⟩:=oMd hx;have hsm:s∈ss:=qN hs;obtain⟨q,hq⟩:=gm.mp (hp s hsm);obtain⟨n,hn⟩:=gm.mp (ho s hsm q hq);have el:=Ap g hsm q.1;rw[hn] at el;have ev:fP P s=aa (s.nm,q.2+n):=by unfold fP;rw[hq,qb,hn];rfl
   refine⟨_,_,rfl,(bq (d:=pT q) (au rfl rfl (cC hq))).trans (nK (i:=2) (f:=D.int) (l:=bS (ss.take i) P) (x:=s.nm) (v:=q.2+n) rfl (au (au rfl rfl cy) (a4 (aA rfl (aA rfl (aA (au rfl rfl cx) aR))) el) rfl) rfl ?_),oS .(z),oS (pT q),?_⟩
   .have:=zR (ss.take i) P;have:=g.sl.2;rw[qC] at *;omega
   .rw[zo (zX g hs),xh hs,ev];rfl)
 rw[qf,jP] at h2;refine bO (ρ':=[oS .(f),oS (pD P),oS (eD (bS ss P)),a,b]) [oS .(f),oS (pD P),ab,ab,ab] rfl ?_;refine(bY (ρ1:=[oS .(f),oS (pD P),aa (.odk []),ab,ab]) rfl).trans ?_;exact(bY ((cW (tL g rfl)).trans (h1.trans (by rw[h2])))).trans ((tN rfl).trans (bT rfl))
end
section
variable {bs:ac BenchT}
theorem Nf (hl:ws.length<=1000) (nd:(ws.map (·.1)).Nodup):fT [.lst (ws.map dW)]=aa (.dk (tb D.int ws)):=by
 have kn:((ws.map fun x=>((.inr x.1:Key),D.int x.2)).map (·.1)).Nodup:=by rw[qo];have:=oY (S:=fun a b:Key=>a≠b) (cB:ah->Key) (fun a b hab z=>hab (gC z)) nd;rw[qo] at this;exact this
 show(if _ then _ else _)=_;rw[qW (by rw[qf];exact hl),show ws.map dW=ws.map fun w=>.tup [.str w.1,.int w.2] from rfl,p9,qe,pB kn];rfl
theorem Ij {k:ah} {n:ag} (h:lk ws k=aa n):aO (.dk (tb D.int ws)) (.str k)=aa (.int n):=by show(aa (cv (tb D.int ws) (.inr k))).bind id=_;rw[gI,h];rfl
theorem Dp (h0:vSh i ρ=aa .(a)):itF (b2 ixD (vSh i) .(d)) ρ=aa (ss.map bG):=c0 (au h0 rfl (ixL _ 1))
noncomputable abbrev leE (P:bp) (L:D) (E:ac (ah×ag)) (a b c d e:ar Slot):bf:=[oS (pD P),oS L,aa (.odk (tb D.int E)),a,b,c,d,e]
theorem xA (g:Good bs ss js us ls ks h) (ho:OnB ss P):oe [pD P,aF bs ss js us ls ks h]=aa (eD (bS ss P)):=by
 obtain⟨ρ',h1,a,b,c,d,e,h2⟩:=dZ (gg:=bN 3 (aI (ay 3) (aI (ay 4) (aI (ay 5) bM)))) (body:=sIf (toB (b2 fz (vSh 3) (vSh 0))) (ax (eZ (bN 2 (aI (ay 6) (aI (ay 7) bM))) .(ae)) (fD 2 (vSh 3) (b2 aV (vSh 7) (b2 aO (cF fT (ae (vSh 5) ak)) (vSh 6))))) aH) (xs:=ss.map bG) (ρ:=leE P .(a) [] ab ab ab ab ab)
  (fun i ρ=>∃a b c d e,ρ=leE P .(a) (bS (ss.take i) P) a b c d e) ⟨_,_,_,_,_,rfl⟩ (fun i x ρ hx hI=>by
   obtain⟨a,b,c,d,e,rfl⟩:=hI;rw[qk] at hx;obtain⟨s,hs,rfl⟩:=oMd hx;have hsm:s∈ss:=qN hs;have gs:=g.s s hsm;have te:toB (b2 fz (vSh 3) (vSh 0)) (leE P .(a) (bS (ss.take i) P) (oS .(z)) (oS (.str s.kd)) (oS (.lst (s.ws.map dW))) d e)=aa (lk P s.nm).isSome:=aX (au rfl rfl IN);cases hq:lk P s.nm with
   |none=>
    rw[hq] at te;have ev:fP P s=ab:=by unfold fP;rw[hq];rfl
    exact⟨_,_,rfl,(bR te).trans rfl,_,_,_,_,_,by rw[xh hs,ev,Option.toList_none,m5]⟩
   |some q=>
    rw[hq] at te;obtain⟨n,hn⟩:=gm.mp (ho s hsm q hq);have ev:fP P s=aa (s.nm,q.2+n):=by unfold fP;rw[hq,qb,hn];rfl
    have ea:eZ (bN 2 (aI (ay 6) (aI (ay 7) bM))) .(ae) (leE P .(a) (bS (ss.take i) P) (oS .(z)) (oS (.str s.kd)) (oS (.lst (s.ws.map dW))) d e)=aa (.nx,leE P .(a) (bS (ss.take i) P) (oS .(z)) (oS (.str s.kd)) (oS (.lst (s.ws.map dW))) (oS (.str q.1)) (oS (.int q.2))):=by unfold eZ;rw[au (z:=pT q) rfl rfl (cC hq)];rfl
    refine⟨_,_,rfl,(bR te).trans ((bY ea).trans (nK (i:=2) (f:=D.int) (l:=bS (ss.take i) P) (x:=s.nm) (v:=q.2+n) rfl (au rfl (au (a4 (aA rfl aR) (Nf (by have:=gs.l4;omega) gs.nd)) rfl (Ij hn)) rfl) rfl ?_)),oS .(z),oS (.str s.kd),oS (.lst (s.ws.map dW)),oS (.str q.1),oS (.int q.2),?_⟩
    .have:=zR (ss.take i) P;have:=g.sl.2;rw[qC] at *;omega
    .rw[zo (zX g hs),xh hs,ev];rfl)
 rw[qf,jP] at h2;refine bO (ρ':=[oS (pD P),oS .(a),oS (eD (bS ss P)),a,b,c,d,e]) [oS (pD P),oS .(a),ab,ab,ab,ab,ab,ab] rfl ?_;refine(bY (ρ1:=leE P .(a) [] ab ab ab ab ab) rfl).trans ?_;exact(bY ((cW (Dp rfl)).trans (h1.trans (by rw[h2])))).trans ((tN rfl).trans (bT rfl))
end
section
variable {bs:ac BenchT}
noncomputable def gA (js:ac JobT) (x:ah) (st en:ag):aN:=match cU js x with
 |some j=>decide (st<j.ea\/j.du<en)
 |none=>ao
theorem Cg {st en:ag} (x:ah):∀js:ac JobT,(js.flatMap (·.ms)).Nodup->(js.findSome? fun j=>if x∈j.ms/\(st<j.ea\/j.du<en) then aa (D.bl ai) else ab)=if gA js x st en=ai then aa (D.bl ai) else ab
 |[],_=>rfl
 |j::js,nd=>by
  rw[u4,iV] at nd;rw[sk];unfold gA cU;rw[dL];by_cases hx:x∈j.ms
  .rw[qQ hx];dsimp only;by_cases hq:st<j.ea\/j.du<en
   .rw[qW ⟨hx,hq⟩,qW (qQ hq)]
   .rw[qX fun z=>hq z.2,qX fun z=>hq (eU z)];dsimp only;rw[u7];intro k hk;rw[qX fun z=>nd.2.2 x hx x (u6.mpr ⟨k,hk,z.1⟩) rfl]
  .rw[qL hx,qX fun z=>hx z.1];exact Cg x js nd.2.1
theorem KI (h0:vSh i ρ=aa .(a)):itF (b2 ixD (vSh i) .(l)) ρ=aa (js.map aW):=c0 (au h0 rfl (ixL _ 2))
theorem jh {A:FT} {b:aN} (hA:A ρ=aa ai) (hB:B ρ=aa b):cm A B ρ=aa b:=by unfold cm;rw[hA];exact hB
theorem kR {A:FT} (hA:A ρ=aa ao):cm A B ρ=aa ao:=by unfold cm;rw[hA];rfl
theorem lh {A:FT} {a b:aN} (hA:A ρ=aa a) (hB:B ρ=aa b):orT A B ρ=aa (a || b):=by
 cases a with
 |true=>exact vP hA
 |false=>exact sZ hA hB
theorem BZ {fp fj:FE} {j:JobT} (h1:fp ρ=aa (pT q)) (h2:fe ρ=aa (.int en)) (h3:fj ρ=aa (aW j)) :
  orT (toB (b2 ltD (b2 ixD fp .(d)) (b2 ixD fj .(d)))) (toB (b2 gtD fe (b2 ixD fj .(l)))) ρ=aa (decide (q.2<j.ea\/j.du<en)):=by
 refine(lh (aX (au (au h1 rfl cy) (au h3 rfl cy) rfl)) (aX (au h2 (au h3 rfl iy) rfl))).trans ?_;rw[Bool.decide_or]
theorem KN (g:Good bs ss js us ls ks h) {j:JobT} (hj:j∈js):∀y∈j.ms,ba y=ai:=fun y hy=>by obtain⟨s,hs,e⟩:=a5.mp ((g.j j hj).ms y hy);rw[←e];exact(g.s s hs).nm
theorem F5 (g:Good bs ss js us ls ks h) {s:StepT} (hs:s∈ss) (hq:lk P s.nm=aa q) (he:lk E s.nm=aa en):sT [pD P,eD E,aF bs ss js us ls ks h,.str s.nm]=aa (.bl (gA js s.nm q.2 en)):=by
 have e:=je (n:=1) (ds:=[pD P,eD E,aF bs ss js us ls ks h,.str s.nm]) (ρ:=[oS (pD P),oS (eD E),oS .(a),oS .(z),ab]) (d:=aW) (v:=fun j:JobT=>if s.nm∈j.ms/\(q.2<j.ea\/j.du<en) then aa (D.bl ai) else ab) (e:=vC (.bl ao)) (z:=.bl ao)
  (fi:=itF (b2 ixD (vSh 2) .(l))) (gg:=ay 4) (body:=sIf (toB (b2 dz (vSh 3) (b2 ixD (vSh 4) .(j)))) (sIf (orT (toB (b2 ltD (b2 ixD .(ae) .(d)) (b2 ixD (vSh 4) .(d)))) (toB (b2 gtD .(V) (b2 ixD (vSh 4) .(l))))) (aE (vC (.bl ai))) aH) aH) js
  (fun ρ=>∃x,ρ=[oS (pD P),oS (eD E),oS .(a),oS .(z),x]) rfl (KI rfl) ?_ ⟨_,rfl⟩ (fun ρ _=>rfl)
 .rw[Cg s.nm js g.jm] at e;refine e.trans ?_;cases gA js s.nm q.2 en<;>rfl
 .rintro j hj ρ ⟨x,rfl⟩;refine⟨[oS (pD P),oS (eD E),oS .(a),oS .(z),oS (aW j)],[oS (pD P),oS (eD E),oS .(a),oS .(z),oS (aW j)],rfl,?_,_,rfl⟩;refine(bR (aX (au rfl (au rfl rfl eK) (j7 (g.s s hs).nm (KN g hj))))).trans ?_;by_cases hx:s.nm∈j.ms
  .rw[qQ hx,qW rfl];refine(bR (BZ (au rfl rfl (cC hq)) (au rfl rfl (dN he)) rfl)).trans ?_;by_cases hz:q.2<j.ea\/j.du<en
   .rw[qQ hz,qW rfl,qW ⟨hx,hz⟩];rfl
   .rw[qL hz,qX qr,qX fun z=>hz z.2];rfl
  .rw[qL hx,qX qr,qX fun z=>hx z.1];rfl
end
section
variable {bs:ac BenchT}
structure Tld (ss:ac StepT) (P:bp) (E:ac (ah×ag)):Prop where
 p:∀s∈ss,∃q,lk P s.nm=aa q
 e:∀s∈ss,∃x,lk E s.nm=aa x
noncomputable def stt (P:bp) (x:ah):ag:=((lk P x).getD (⟨#[]⟩,0)).2
noncomputable def bnt (P:bp) (x:ah):ah:=((lk P x).getD (⟨#[]⟩,0)).1
noncomputable def ent (E:ac (ah×ag)) (x:ah):ag:=(lk E x).getD 0
theorem Tld.gp (T:Tld ss P E) {s:StepT} (hs:s∈ss):lk P s.nm=aa (bnt P s.nm,stt P s.nm):=by obtain⟨q,hq⟩:=T.p s hs;unfold bnt stt;rw[hq];rfl
theorem Tld.ge (T:Tld ss P E) {s:StepT} (hs:s∈ss):lk E s.nm=aa (ent E s.nm):=by obtain⟨q,hq⟩:=T.e s hs;unfold ent;rw[hq];rfl
noncomputable def ki (js:ac JobT) (P:bp) (E:ac (ah×ag)) (s:StepT):ar D:=if gA js s.nm (stt P s.nm) (ent E s.nm)=ai then aa (.tup [.str "job",.str s.nm]) else ab
theorem KB (g:Good bs ss js us ls ks h) (T:Tld ss P E):vU [aS bs ss js us ls ks h,pD P,eD E]=aa ((ss.findSome? (ki js P E)).getD .non):=by
 refine je (n:=2) (ds:=[aS bs ss js us ls ks h,pD P,eD E]) (ρ:=[oS .(f),oS (pD P),oS (eD E),ab,ab]) (d:=fun s:StepT=>D.str s.nm) (v:=ki js P E) ss
  (fun ρ=>∃x y,ρ=[oS .(f),oS (pD P),oS (eD E),x,y]) rfl (tL g rfl) ?_ ⟨_,_,rfl⟩ (fun ρ _=>rfl)
 rintro s hs ρ ⟨x,y,rfl⟩;refine⟨_,[oS .(f),oS (pD P),oS (eD E),oS .(z),oS (wB (cU js s.nm))],rfl,?_,_,_,rfl⟩;refine(bq (gQ .(p) rfl (aA rfl aR) (HE g s.nm))).trans ?_;cases hj:cU js s.nm with
 |none=>
  have hv:gA js s.nm (stt P s.nm) (ent E s.nm)=ao:=by unfold gA;rw[hj]
  unfold ki;rw[hv];exact(bR (kR (aX .(P)))).trans rfl
 |some j=>
  have hv:gA js s.nm (stt P s.nm) (ent E s.nm)=decide (stt P s.nm<j.ea\/j.du<ent E s.nm):=by unfold gA;rw[hj]
  unfold ki;rw[hv];refine(bR (jh (aX .(P)) (BZ (au rfl rfl (cC (T.gp hs))) (au rfl rfl (dN (T.ge hs))) rfl))).trans ?_;cases decide (stt P s.nm<j.ea\/j.du<ent E s.nm)<;>rfl
end
section
variable {bs:ac BenchT}
noncomputable def hW (br:ac (ag×ag)) (st en:ag):aN:=br.any fun iv=>decide (st<iv.2) && decide (iv.1<en)
theorem zS {st en:ag}:∀br:ac (ag×ag),(br.findSome? fun iv=>if (decide (st<iv.2) && decide (iv.1<en))=ai then aa (D.bl ai) else ab)=if hW br st en=ai then aa (D.bl ai) else ab
 |[]=>rfl
 |iv::br=>by
  rw[sk];unfold hW;rw[kG];cases decide (st<iv.2) && decide (iv.1<en) with
  |true=>rfl
  |false=>exact zS br
theorem Ax (g:Good bs ss js us ls ks h):fT [.lst (bs.map cq)]=aa (.dk (tb (fun br:ac (ag×ag)=>D.lst (br.map dIv)) (bs.map fun b=>(b.nm,b.br)))):=by
 have kn:((bs.map fun b=>((.inr b.nm:Key),D.lst (b.br.map dIv))).map (·.1)).Nodup:=by rw[qo];have:=oY (S:=fun a b:Key=>a≠b) (cB:ah->Key) (fun a b hab z=>hab (gC z)) g.bn;rw[qo] at this;exact this
 show(if _ then _ else _)=_;rw[qW (by rw[qf];have:=g.bl;omega),show bs.map cq=bs.map fun b=>.tup [.str b.nm,.lst (b.br.map dIv)] from rfl,p9,qe,pB kn];unfold tb;rw[qo];rfl
theorem xO (g:Good bs ss js us ls ks h) {b:BenchT} (hb:b∈bs):lk (bs.map fun b=>(b.nm,b.br)) b.nm=aa b.br:=jz (by rw[qo];exact g.bn) (a5.mpr ⟨b,hb,rfl⟩)
theorem Go {sp:ac StepT} (g:Good bs ss js us ls ks h) (T:Tld sp P E) {s:StepT} (hs:s∈sp) {b:BenchT} (hb:b∈bs) (hn:bnt P s.nm=b.nm):tK [pD P,eD E,aF bs ss js us ls ks h,.str s.nm]=aa (.bl (hW b.br (stt P s.nm) (ent E s.nm))):=by
 have hq:=T.gp hs;have he:=T.ge hs;have e:=je (n:=2) (ds:=[pD P,eD E,aF bs ss js us ls ks h,.str s.nm]) (ρ:=[oS (pD P),oS (eD E),oS .(a),oS .(z),ab,ab]) (d:=dIv) (v:=fun iv:ag×ag=>if (decide (stt P s.nm<iv.2) && decide (iv.1<ent E s.nm))=ai then aa (D.bl ai) else ab) (e:=vC (.bl ao)) (z:=.bl ao)
  (fi:=itF (b2 aO (cF fT (ae (b2 ixD (vSh 2) .(c)) ak)) (b2 ixD .(ae) .(c)))) (gg:=bN 2 (aI (ay 4) (aI (ay 5) bM))) (body:=sIf (cm (toB (b2 ltD (b2 ixD .(ae) .(d)) (vSh 5))) (toB (b2 ltD (vSh 4) .(V)))) (aE (vC (.bl ai))) aH) b.br
  (fun ρ=>∃x y,ρ=[oS (pD P),oS (eD E),oS .(a),oS .(z),x,y]) rfl ?_ ?_ ⟨_,_,rfl⟩ (fun ρ _=>rfl)
 .rw[zS] at e;refine e.trans ?_;cases hW b.br (stt P s.nm) (ent E s.nm)<;>rfl
 .refine c0 (au (a4 (aA (au rfl rfl (ixL _ 0)) aR) (Ax g)) (au (au rfl rfl (cC hq)) rfl cx) ?_);show(aa (cv (tb _ _) (.inr (bnt P s.nm)))).bind id=_;rw[gI,hn,xO g hb];rfl
 .rintro iv - ρ ⟨x,y,rfl⟩;refine⟨[oS (pD P),oS (eD E),oS .(a),oS .(z),oS (.int iv.1),oS (.int iv.2)],[oS (pD P),oS (eD E),oS .(a),oS .(z),oS (.int iv.1),oS (.int iv.2)],rfl,?_,_,_,rfl⟩;have t1:toB (b2 ltD (b2 ixD .(ae) .(d)) (vSh 5)) [oS (pD P),oS (eD E),oS .(a),oS .(z),oS (.int iv.1),oS (.int iv.2)]=aa (decide (stt P s.nm<iv.2)):=aX (au (au (au rfl rfl (cC hq)) rfl cy) rfl rfl);have t2:toB (b2 ltD (vSh 4) .(V)) [oS (pD P),oS (eD E),oS .(a),oS .(z),oS (.int iv.1),oS (.int iv.2)]=aa (decide (iv.1<ent E s.nm)):=aX (au rfl (au rfl rfl (dN he)) rfl);cases h1:decide (stt P s.nm<iv.2) with
  |false=>
   rw[h1] at t1;exact(bR (kR t1)).trans rfl
  |true=>
   rw[h1] at t1;refine(bR (jh t1 t2)).trans ?_;cases decide (iv.1<ent E s.nm)<;>rfl
end
theorem pL {α:Type} {gg:FG} {ft:FT} {fe:FE} {d r:α->D} (I:bf->Prop):∀(as:ac α) (ρ:bf),(∀a∈as,∀ρ,I ρ->∃ρ1,gg (d a) ρ=aa ρ1/\ft ρ1=aa ai/\fe ρ1=aa (r a)/\I ρ1)->I ρ->gf gg ft fe (as.map d) ρ=aa (as.map r)
 |[],_,_,_=>rfl
 |a::as,ρ,hs,h=>by obtain⟨ρ1,e1,e2,e3,h1⟩:=hs a (.head _) ρ h;rw[qm];unfold gf;rw[e1,qb,e2,qb,qW rfl,e3,qb,pL I as ρ1 (fun b hb=>hs b (.tail _ hb)) h1];rfl
theorem zL {A B:FE} {a b:aN} (hA:A ρ=aa (.bl a)) (hB:B ρ=aa (.bl b)):cD A B ρ=aa (.bl (a && b)):=by
 unfold cD;rw[hA,qb];cases a
 .rfl
 .exact hB
theorem Dx {α:Type} (f:α->aN):∀l:ac α,i8 (l.map fun x=>D.bl (f x))=aa (l.map f)
 |[]=>rfl
 |x::l=>by show(i8 (l.map fun x=>D.bl (f x))).map (f x::·)=_;rw[Dx f l];rfl
section
variable {bs:ac BenchT}
noncomputable def brs (bs:ac BenchT) (b:ah):ac (ag×ag):=(lk (bs.map fun b=>(b.nm,b.br)) b).getD []
theorem ww (g:Good bs ss js us ls ks h) {b:BenchT} (hb:b∈bs):brs bs b.nm=b.br:=by unfold brs;rw[xO g hb];rfl
noncomputable def mJ (bs:ac BenchT) (P:bp) (E:ac (ah×ag)) (s:StepT):ar D:=if hW (brs bs (bnt P s.nm)) (stt P s.nm) (ent E s.nm)=ai then aa (.tup [.str "break",.str s.nm]) else ab
theorem Gw (g:Good bs ss js us ls ks h) (T:Tld ss P E) (hB:∀s∈ss,∃b∈bs,b.nm=bnt P s.nm):wQ [aS bs ss js us ls ks h,pD P,eD E]=aa ((ss.findSome? (mJ bs P E)).getD .non):=by
 refine je (n:=3) (ds:=[aS bs ss js us ls ks h,pD P,eD E]) (ρ:=[oS .(f),oS (pD P),oS (eD E),ab,ab,ab]) (d:=fun s:StepT=>D.str s.nm) (v:=mJ bs P E) ss
  (fun ρ=>∃x y z,ρ=[oS .(f),oS (pD P),oS (eD E),x,y,z]) rfl (tL g rfl) ?_ ⟨_,_,_,rfl⟩ (fun ρ _=>rfl)
 rintro s hs ρ ⟨x,y,z,rfl⟩;obtain⟨b,hb,hn⟩:=hB s hs;have hq:=T.gp hs;have he:=T.ge hs;have eb:=HM g hb;rw[hn] at eb;refine⟨_,[oS .(f),oS (pD P),oS (eD E),oS .(z),oS (.int (stt P s.nm)),oS (.lst (b.br.map dIv))],rfl,?_,_,_,_,rfl⟩;refine(bq (au (au rfl rfl (cC hq)) rfl cy)).trans ((bq (gQ .(p) rfl (aA (au (au rfl rfl (cC hq)) rfl cx) aR) eb)).trans ?_);have gb:=g.b b hb;have ec:aP (bd (itF (vSh 5)) (bN 2 (aI (ay 0) (aI (ay 1) bM))) tT (cD (b2 ltD (vSh 2) (vSh 1)) (b2 ltD (vSh 0) (b2 aO (vSh 3) (vSh 4)))) [ab,ab,aa 4,aa 2,aa 3]) [oS .(f),oS (pD P),oS (eD E),oS .(z),oS (.int (stt P s.nm)),oS (.lst (b.br.map dIv))]=aa (.lst (b.br.map fun iv=>D.bl (decide (stt P s.nm<iv.2) && decide (iv.1<ent E s.nm)))):=by
  unfold aP bd;rw[show itF (vSh 5) [oS .(f),oS (pD P),oS (eD E),oS .(z),oS (.int (stt P s.nm)),oS (.lst (b.br.map dIv))]=aa (b.br.map dIv) from rfl,qb,qW (by rw[qf];exact szN gb.len .(h))];refine cI (rO D.lst) (pL (r:=fun iv:ag×ag=>D.bl (decide (stt P s.nm<iv.2) && decide (iv.1<ent E s.nm))) (fun ρ=>∃x y,ρ=[x,y,oS (.int (stt P s.nm)),oS (eD E),oS .(z)]) b.br _ ?_ ⟨ab,ab,rfl⟩)
  .rintro iv - ρ ⟨x,y,rfl⟩;refine⟨[oS (.int iv.1),oS (.int iv.2),oS (.int (stt P s.nm)),oS (eD E),oS .(z)],rfl,rfl,?_,_,_,rfl⟩;exact zL rfl (au rfl (au rfl rfl (dN he)) rfl)
 unfold mJ;rw[←hn,ww g hb];refine(bR (b:=hW b.br (stt P s.nm) (ent E s.nm)) (aX (a4 (aA ec aR) ?_))).trans ?_
 .show(i8 _).map _=_;rw[Dx];show aa (D.bl _)=_;rw[Ro];rfl
 .cases hW b.br (stt P s.nm) (ent E s.nm)<;>rfl
end
section
variable {bs:ac BenchT}
theorem Tld.gpN (T:Tld ss P E) (hx:x∈ss.map (·.nm)):lk P x=aa (bnt P x,stt P x):=by obtain⟨s,hs,rfl⟩:=a5.mp hx;exact T.gp hs
theorem Tld.geN (T:Tld ss P E) (hx:x∈ss.map (·.nm)):lk E x=aa (ent E x):=by obtain⟨s,hs,rfl⟩:=a5.mp hx;exact T.ge hs
noncomputable def lkB (P:bp) (E:ac (ah×ag)) (l:LinkT):aN:=decide (stt P l.b<ent E l.a+l.g)
noncomputable def lkT (l:LinkT):D:=.tup [.str "link",.str l.a,.str l.b]
noncomputable def lkV (P:bp) (E:ac (ah×ag)) (l:LinkT):ar D:=if lkB P E l=ai then aa (lkT l) else ab
theorem MY (g:Good bs ss js us ls ks h) (T:Tld ss P E):wO [aS bs ss js us ls ks h,pD P,eD E]=aa ((ls.findSome? (lkV P E)).getD .non):=by
 refine je (n:=3) (ds:=[aS bs ss js us ls ks h,pD P,eD E]) (ρ:=[oS .(f),oS (pD P),oS (eD E),ab,ab,ab]) (d:=cX) (v:=lkV P E) ls
  (fun ρ=>∃x y z,ρ=[oS .(f),oS (pD P),oS (eD E),x,y,z]) rfl (c0 (gQ .(p) rfl aR (IU (gM (n:=7) (by have:=g.ll;omega) fun x _=>z9)))) ?_ ⟨_,_,_,rfl⟩ (fun ρ _=>rfl)
 rintro l hl ρ ⟨x,y,z,rfl⟩;have gl:=g.l l hl;refine⟨_,_,rfl,(bR (b:=lkB P E l) (aX (au (au (au rfl rfl (cC (T.gpN gl.b))) rfl cy) (au (au rfl rfl (dN (T.geN gl.a))) rfl rfl) rfl))).trans ?_,oS (.str l.a),oS (.str l.b),oS (.int l.g),rfl⟩;unfold lkV;cases lkB P E l<;>rfl
end
section
variable {bs:ac BenchT}
noncomputable def jc (us:ac SetT) (P:bp) (E:ac (ah×ag)) (o a b:StepT):aN:=decide (stt P b.nm<ent E a.nm+suN us (bnt P o.nm) a.kd b.kd)
noncomputable def j1 (us:ac SetT) (P:bp) (E:ac (ah×ag)) (s t:StepT):aN:=if stt P t.nm<stt P s.nm then jc us P E s t s else jc us P E s s t
theorem N8 (g:Good bs ss js us ls ks h) (T:Tld ss P E) {s t:StepT} (hs:s∈ss) (ht:t∈ss):tf [aS bs ss js us ls ks h,pD P,eD E,.str s.nm,.str t.nm]=aa (.bl (j1 us P E s t)):=by
 have fin:∀a b:StepT,a∈ss->b∈ss->ax (aM 7 (c7 "Shop" "setup_of" sB (vSh 0) (ae (b2 ixD .(V) .(c)) (ae (c7 "Shop" "kind_of" nM (vSh 0) (ae (vSh 5) ak)) (ae (c7 "Shop" "kind_of" nM (vSh 0) (ae (vSh 6) ak)) ak))))) (aE (b2 ltD (b2 ixD (b2 aO (vSh 1) (vSh 6)) .(d)) (b2 aV (b2 aO (vSh 2) (vSh 5)) (vSh 7))))
   [oS .(f),oS (pD P),oS (eD E),oS .(z),oS (.str t.nm),oS (.str a.nm),oS (.str b.nm),ab]=aa (.rt (.bl (jc us P E s a b)),[oS .(f),oS (pD P),oS (eD E),oS .(z),oS (.str t.nm),oS (.str a.nm),oS (.str b.nm),oS (.int (suN us (bnt P s.nm) a.kd b.kd))]):=fun a b ha hb=>by
  refine(bq (gQ .(p) rfl (aA (au (au rfl rfl (cC (T.gp hs))) rfl cx) (aA (gQ .(p) rfl (aA rfl aR) (AJ g ha)) (aA (gQ .(p) rfl (aA rfl aR) (AJ g hb)) aR))) (IW _ _ _))).trans ?_;exact bT (au (au (au rfl rfl (cC (T.gp hb))) rfl cy) (au (au rfl rfl (dN (T.ge ha))) rfl rfl) rfl)
 have te:toB (b2 ltD (b2 ixD (b2 aO (vSh 1) (vSh 4)) .(d)) (b2 ixD .(V) .(d))) [oS .(f),oS (pD P),oS (eD E),oS .(z),oS (.str t.nm),oS .(z),oS (.str t.nm),ab]=aa (decide (stt P t.nm<stt P s.nm)):=
  aX (au (au (au rfl rfl (cC (T.gp ht))) rfl cy) (au (au rfl rfl (cC (T.gp hs))) rfl cy) rfl)
 unfold j1;by_cases hz:stt P t.nm<stt P s.nm
 .rw[qQ hz] at te;rw[qW hz];exact bO (n:=3) (ds:=[aS bs ss js us ls ks h,pD P,eD E,.str s.nm,.str t.nm]) [oS .(f),oS (pD P),oS (eD E),oS .(z),oS (.str t.nm),ab,ab,ab] rfl ((bq (d:=.str s.nm) rfl).trans ((bq (d:=.str t.nm) rfl).trans ((bY ((bR te).trans rfl)).trans (fin t s ht hs))))
 .rw[qL hz] at te;rw[qX hz];exact bO (n:=3) (ds:=[aS bs ss js us ls ks h,pD P,eD E,.str s.nm,.str t.nm]) [oS .(f),oS (pD P),oS (eD E),oS .(z),oS (.str t.nm),ab,ab,ab] rfl ((bq (d:=.str s.nm) rfl).trans ((bq (d:=.str t.nm) rfl).trans ((bY ((bR te).trans rfl)).trans (fin s t hs ht))))
end
section
variable {bs:ac BenchT}
noncomputable def h9 (us:ac SetT) (P:bp) (E:ac (ah×ag)) (p:StepT×StepT):aN:=decide (bnt P p.1.nm=bnt P p.2.nm) && j1 us P E p.1 p.2
noncomputable def bnV (us:ac SetT) (P:bp) (E:ac (ah×ag)) (p:StepT×StepT):ar D:=if h9 us P E p=ai then aa (.tup [.str "bench",.str p.1.nm,.str p.2.nm]) else ab
theorem LM (g:Good bs ss js us ls ks h) (T:Tld ss P E):wV [aS bs ss js us ls ks h,pD P,eD E]=aa (((prS ss).findSome? (bnV us P E)).getD .non):=by
 refine je (n:=2) (ds:=[aS bs ss js us ls ks h,pD P,eD E]) (ρ:=[oS .(f),oS (pD P),oS (eD E),ab,ab]) (d:=dP) (v:=bnV us P E) (prS ss)
  (fun ρ=>∃x y,ρ=[oS .(f),oS (pD P),oS (eD E),x,y]) rfl (c0 (a4 (aA (gQ .(p) rfl aR (wu g.sl.2)) aR) (Cd ss g.sl.2))) ?_ ⟨_,_,rfl⟩ (fun ρ _=>rfl)
 rintro p hp ρ ⟨x,y,rfl⟩;obtain⟨h1,h2⟩:=jd hp;refine⟨_,_,rfl,?_,oS (.str p.1.nm),oS (.str p.2.nm),rfl⟩;have t1:toB (b2 eqA (b2 ixD .(V) .(c)) (b2 ixD (b2 aO (vSh 1) (vSh 4)) .(c))) [oS .(f),oS (pD P),oS (eD E),oS (.str p.1.nm),oS (.str p.2.nm)]=aa (decide (bnt P p.1.nm=bnt P p.2.nm)):=
  aX (au (au (au rfl rfl (cC (T.gp h1))) rfl cx) (au (au rfl rfl (cC (T.gp h2))) rfl cx) (pf _ _))
 have t2:toB (cF tf (ae (vSh 0) (ae (vSh 1) (ae (vSh 2) (ae (vSh 3) (ae (vSh 4) ak)))))) [oS .(f),oS (pD P),oS (eD E),oS (.str p.1.nm),oS (.str p.2.nm)]=aa (j1 us P E p.1 p.2):=
  aX (a4 (aA rfl (aA rfl (aA rfl .(q)))) (N8 g T h1 h2))
 unfold bnV h9;cases e:decide (bnt P p.1.nm=bnt P p.2.nm) with
 |false=>
  rw[e] at t1;exact(bR (kR t1)).trans rfl
 |true=>
  rw[e] at t1;refine(bR (jh t1 t2)).trans ?_;cases j1 us P E p.1 p.2<;>rfl
noncomputable def nz (P:bp) (E:ac (ah×ag)) (x y:ah):aN:=decide (stt P x<ent E y) && decide (stt P y<ent E x)
theorem KU (T:Tld ss P E) {y:ah} (hx:x∈ss.map (·.nm)) (hy:y∈ss.map (·.nm)):pQ [pD P,eD E,.str x,.str y]=aa (.bl (nz P E x y)):=
 bO (n:=0) (ds:=[pD P,eD E,.str x,.str y]) [oS (pD P),oS (eD E),oS (.str x),oS (.str y)] rfl (bT (zL (au (au (au rfl rfl (cC (T.gpN hx))) rfl cy) (au rfl rfl (dN (T.geN hy))) rfl) (au (au (au rfl rfl (cC (T.gpN hy))) rfl cy) (au rfl rfl (dN (T.geN hx))) rfl)))
end
section
variable {bs:ac BenchT}
noncomputable def mkS (x:ah):StepT:=⟨x,x,[]⟩
noncomputable def apB (P:bp) (E:ac (ah×ag)) (od:aN) (p:StepT×StepT):aN:=decide (stt P p.2.nm<ent E p.1.nm) && (od || decide (stt P p.1.nm<ent E p.2.nm))
noncomputable def apT (p:StepT×StepT):D:=.tup [.str "apart",.str p.1.nm,.str p.2.nm]
noncomputable def apV (P:bp) (E:ac (ah×ag)) (od:aN) (p:StepT×StepT):ar D:=if apB P E od p=ai then aa (apT p) else ab
noncomputable def apJ (P:bp) (E:ac (ah×ag)) (j:JobT):ar D:=(prS (j.ms.map mkS)).findSome? (apV P E j.od)
theorem BH (l:ac ah):(l.map mkS).map (·.nm)=l:=by rw[qo];exact E6 _
theorem mS {A:FT} {a:aN} (hA:A ρ=aa a):bu A ρ=aa (!a):=by unfold bu;rw[hA];rfl
theorem IA (g:Good bs ss js us ls ks h) (T:Tld ss P E):xq [aS bs ss js us ls ks h,pD P,eD E]=aa ((js.findSome? (apJ P E)).getD .non):=by
 have hl40:(ss.map (·.nm)).length<=40:=by rw[qf];exact g.sl.2
 refine je (n:=5) (ds:=[aS bs ss js us ls ks h,pD P,eD E]) (ρ:=[oS .(f),oS (pD P),oS (eD E),ab,ab,ab,ab,ab]) (d:=aW) (v:=apJ P E) js
  (fun ρ=>∃a b c d e,ρ=[oS .(f),oS (pD P),oS (eD E),a,b,c,d,e]) rfl (c0 (gQ .(p) rfl aR (MF g (gM (n:=7) (by have:=g.jl;omega) fun x hx=>xo hl40 (g.j x hx))))) ?_ ⟨_,_,_,_,_,rfl⟩ (fun ρ _=>rfl)
 rintro j hj ρ ⟨a,b,c,d,e,rfl⟩;have gj:=g.j j hj;have ep:=Cd (j.ms.map mkS) (by rw[qf];have:=gj.ln;omega);rw[BH] at ep;obtain⟨ρ2,e2,a',b',c',d',e'⟩:=ot (gg:=bN 2 (aI (ay 4) (aI (ay 5) bM))) (body:=ax (aM 6 (b2 geD (b2 ixD (b2 aO (vSh 1) (vSh 5)) .(d)) (b2 aO (vSh 2) (vSh 4)))) (ax (aM 7 (b2 geD (b2 ixD (b2 aO (vSh 1) (vSh 4)) .(d)) (b2 aO (vSh 2) (vSh 5)))) (sIf (cm (bu (toB (vSh 6))) (orT (toB (b2 ixD (vSh 3) .(i))) (bu (toB (vSh 7))))) (aE (bi (szF (ae (vC (.str "apart")) (ae (vSh 4) (ae (vSh 5) ak)))))) aH))) (d:=dP) (v:=apV P E j.od)
  (fun ρ=>∃b c d e,ρ=[oS .(f),oS (pD P),oS (eD E),oS (aW j),b,c,d,e]) (prS (j.ms.map mkS)) [oS .(f),oS (pD P),oS (eD E),oS (aW j),b,c,d,e] (fun p hp ρ=>by
   rintro⟨b,c,d,e,rfl⟩;obtain⟨h1,h2⟩:=jd hp;obtain⟨x,hx,e1⟩:=a5.mp h1;obtain⟨y,hy,e2⟩:=a5.mp h2;have m1:p.1.nm∈ss.map (·.nm):=by rw[←e1];exact gj.ms x hx
   have m2:p.2.nm∈ss.map (·.nm):=by rw[←e2];exact gj.ms y hy
   refine⟨_,[oS .(f),oS (pD P),oS (eD E),oS (aW j),oS (.str p.1.nm),oS (.str p.2.nm),oS (.bl (decide (ent E p.1.nm<=stt P p.2.nm))),oS (.bl (decide (ent E p.2.nm<=stt P p.1.nm)))],rfl,?_,_,_,_,_,rfl⟩;refine(bq (d:=.bl (decide (ent E p.1.nm<=stt P p.2.nm))) (au (au (au rfl rfl (cC (T.gpN m2))) rfl cy) (au rfl rfl (dN (T.geN m1))) rfl)).trans ((bq (d:=.bl (decide (ent E p.2.nm<=stt P p.1.nm))) (au (au (au rfl rfl (cC (T.gpN m1))) rfl cy) (au rfl rfl (dN (T.geN m2))) rfl)).trans ?_);have n1:(!decide (ent E p.1.nm<=stt P p.2.nm))=decide (stt P p.2.nm<ent E p.1.nm):=by rw[←zg];exact o0.mpr zh
   have n2:(!decide (ent E p.2.nm<=stt P p.1.nm))=decide (stt P p.1.nm<ent E p.2.nm):=by rw[←zg];exact o0.mpr zh
   have t1:=mS (aX (f:=vSh 6) (ρ:=[oS .(f),oS (pD P),oS (eD E),oS (aW j),oS (.str p.1.nm),oS (.str p.2.nm),oS (.bl (decide (ent E p.1.nm<=stt P p.2.nm))),oS (.bl (decide (ent E p.2.nm<=stt P p.1.nm)))]) rfl);have t2:=lh (aX (f:=b2 ixD (vSh 3) .(i)) (ρ:=[oS .(f),oS (pD P),oS (eD E),oS (aW j),oS (.str p.1.nm),oS (.str p.2.nm),oS (.bl (decide (ent E p.1.nm<=stt P p.2.nm))),oS (.bl (decide (ent E p.2.nm<=stt P p.1.nm)))]) (au rfl rfl jr)) (mS (aX (f:=vSh 7) rfl));rw[n1] at t1;rw[n2] at t2;unfold apV apB;cases e3:decide (stt P p.2.nm<ent E p.1.nm) with
   |false=>
    rw[e3] at t1;exact(bR (kR t1)).trans rfl
   |true=>
    rw[e3] at t1;refine(bR (jh t1 t2)).trans ?_;cases j.od || decide (stt P p.1.nm<ent E p.2.nm)<;>rfl) ⟨_,_,_,_,rfl⟩
 exact⟨_,ρ2,rfl,(cW (c0 (a4 (aA (au rfl rfl eK) aR) ep))).trans e2,oS (aW j),a',b',c',d',e'⟩
end
theorem MS {t u:ac ah} (hx:∀x∈t,ba x=ai) (hn:∀x∈u,ba x=ai):eqA (.tup (t.map D.str)) (.tup (u.map D.str))=aa (.bl (decide (t=u))):=by
 have s1:eR (.tuple (t.map fK))=ai:=by simp[eR,nq,lZ hx,oX,qY]
 have s2:eR (.tuple (u.map fK))=ai:=by simp[eR,nq,lZ hn,oX,qY]
 have e:ph (.tup (t.map D.str)) (.tup (u.map D.str))=aa (.bl (decide (t=u))):=by unfold ph eqX;rw[sU,sU,qb,qb,qW ⟨s1,s2⟩];show aa (D.bl (o3 _ _))=_;rw[vn]
 exact e
section
variable {bs:ac BenchT}
theorem BE (a b c:ah):∀us:ac SetT,((us.findSome? fun u=>if [u.b,u.p,u.q]=[a,b,c] then aa (D.int u.n) else ab).getD (.int 0))=.int (suN us a b c)
 |[]=>rfl
 |u::us=>by
  have ih:=BE a b c us;rw[sk];unfold suN at ih ⊢;rw[dL];by_cases e:[u.b,u.p,u.q]=[a,b,c]
  .rw[qW e,qQ (by injection e with e1 e2;injection e2 with e2 e3;injection e3 with e3 _;rw[e1,e2,e3])];rfl
  .rw[qX e,qL (fun z=>e (by injection z with e1 e2;injection e2 with e2 e3;injection e3 with e3 _;rw[gC e1,gC e2,gC e3]))]
   exact ih
end
section
variable {bs:ac BenchT}
theorem Ou (g:Good bs ss js us ls ks h):fT [.lst (ss.map fun s=>.tup [.str s.nm,.str s.kd])]=aa (.dk (tb D.str (ss.map fun s=>(s.nm,s.kd)))):=by
 have kn:((ss.map fun s=>((.inr s.nm:Key),D.str s.kd)).map (·.1)).Nodup:=by rw[qo];have:=oY (S:=fun a b:Key=>a≠b) (cB:ah->Key) (fun a b hab z=>hab (gC z)) g.sn;rw[qo] at this;exact this
 show(if _ then _ else _)=_;rw[qW (by rw[qf];have:=g.sl;omega),p9,qe,pB kn];unfold tb;rw[qo];rfl
theorem NQ (g:Good bs ss js us ls ks h) {s:StepT} (hs:s∈ss):lk (ss.map fun s=>(s.nm,s.kd)) s.nm=aa s.kd:=jz (by rw[qo];exact g.sn) (a5.mpr ⟨s,hs,rfl⟩)
theorem AZ (g:Good bs ss js us ls ks h) {s t:StepT} (hs:s∈ss) (ht:t∈ss) {b:ah} (hb:ba b=ai):mK [aF bs ss js us ls ks h,.str b,.str s.nm,.str t.nm]=aa (.int (suN us b s.kd t.kd)):=by
 have ek:cF fT (ae (aP (bd (itF .(ac)) (ay 0) tT (bi (szF (ae .(t) (ae .(ac) ak)))) [ab])) ak) [oS .(a),oS (.str b),oS .(z),oS (.str t.nm),ab,ab]=aa (.dk (tb D.str (ss.map fun s=>(s.nm,s.kd)))):=by refine a4 (aA ?_ aR) (Ou g);unfold aP bd;rw[Dp (bs:=bs) (ss:=ss) (js:=js) (us:=us) (ls:=ls) (ks:=ks) (h:=h) (i:=0) rfl,qb,qW (by rw[qf];exact szN g.sl.2 .(h))];refine cI (rO D.lst) (pL (d:=bG) (r:=fun s:StepT=>D.tup [.str s.nm,.str s.kd]) (fun ρ=>∃x,ρ=[x]) ss _ ?_ ⟨ab,rfl⟩);rintro s - ρ ⟨x,rfl⟩;exact⟨[oS (bG s)],rfl,rfl,gv (au rfl rfl cx) (au rfl rfl cy),_,rfl⟩
 have hd:∀{s:StepT},s∈ss->aO (.dk (tb D.str (ss.map fun s=>(s.nm,s.kd)))) .(z)=aa (.str s.kd):=fun {s} hs=>by show(aa (cv (tb D.str _) (.inr s.nm))).bind id=_;rw[gI,NQ g hs];rfl
 refine Exists.elim (ud (fi:=itF (b2 ixD (vSh 0) .(i))) (gg:=ay 5) (body:=sIf (toB (b2 eqA (slF (vSh 5) pN (pS .(i))) (bi (szF (ae (vSh 1) (ae (b2 aO (vSh 4) (vSh 2)) (ae (b2 aO (vSh 4) (vSh 3)) ak))))))) (aE (b2 ixD (vSh 5) .(i))) aH) (ρ:=[oS .(a),oS (.str b),oS .(z),oS (.str t.nm),aa (.sh (.dk (tb D.str (ss.map fun s=>(s.nm,s.kd))))),ab]) (d:=cM) (v:=fun u:SetT=>if [u.b,u.p,u.q]=[b,s.kd,t.kd] then aa (D.int u.n) else ab) (e:=vC (.int 0)) (z:=.int 0) us
  (fun ρ=>∃x,ρ=[oS .(a),oS (.str b),oS .(z),oS (.str t.nm),aa (.sh (.dk (tb D.str (ss.map fun s=>(s.nm,s.kd))))),x]) (c0 (au rfl rfl (ixL _ 3))) ?_ ⟨_,rfl⟩ (fun ρ _=>rfl)) ?_
 rotate_left
 .intro ρ' e;rw[BE] at e;exact bO (n:=2) (ds:=[aF bs ss js us ls ks h,.str b,.str s.nm,.str t.nm]) [oS .(a),oS (.str b),oS .(z),oS (.str t.nm),ab,ab] rfl ((bq ek).trans e)
 .rintro u hu ρ ⟨x,rfl⟩;have gu:=g.u u hu;obtain⟨bb,hbb,eb⟩:=a5.mp gu.b;refine⟨_,[oS .(a),oS (.str b),oS .(z),oS (.str t.nm),aa (.sh (.dk (tb D.str (ss.map fun s=>(s.nm,s.kd))))),oS (cM u)],rfl,?_,_,rfl⟩;refine(bR (aX (au (x:=.tup ([u.b,u.p,u.q].map D.str)) (y:=.tup ([b,s.kd,t.kd].map D.str)) rfl (o9 rfl (au rfl rfl (hd hs)) (au rfl rfl (hd ht))) (MS ?_ ?_)))).trans ?_
  .intro x hx;simp only[qJ,qH,or_false] at hx;rcases hx with rfl|rfl|rfl
   .rw[←eb];exact(g.b bb hbb).nm
   .exact gu.p
   .exact gu.q
  .intro x hx;simp only[qJ,qH,or_false] at hx;rcases hx with rfl|rfl|rfl
   .exact hb
   .exact(g.s s hs).kd
   .exact(g.s t ht).kd
  .by_cases e:[u.b,u.p,u.q]=[b,s.kd,t.kd]
   .rw[qQ e,qW rfl,qW e];exact bT (au rfl rfl jr)
   .rw[qL e,qX qr,qX e];rfl
end
section
variable {bs:ac BenchT}
theorem vL (a b:ah):neA (.str a) (.str b)=aa (.bl (!decide (a=b))):=rfl
theorem F6 (a b:ag):eqA (.int a) (.int b)=aa (.bl (decide (a=b))):=rfl
theorem KW {A B:FE} {a b:aN} (hA:A ρ=aa (.bl a)) (hB:B ρ=aa (.bl b)):orD A B ρ=aa (.bl (a || b)):=by
 unfold orD;rw[hA,qb];cases a
 .exact hB
 .rfl
theorem rl (hu:∀u∈us,0<=u.n) (a b c:ah):0<=suN us a b c:=by
 unfold suN;split
 .rename_i u e;exact hu u (uT e)
 .exact o2 0
noncomputable abbrev nrE (P:bp) (E:ac (ah×ag)) (L:D) (s t:StepT) (a b:ah):bf:=[oS (pD P),oS (eD E),oS L,oS .(z),oS (.str t.nm),oS (.str (bnt P s.nm)),oS (.int (stt P s.nm)),oS (.str a),oS (.str b),ab]
theorem Ig {sp:ac StepT} (g:Good bs ss js us ls ks h) (T:Tld sp P E) (sb:∀x∈sp,x∈ss) {s t a b:StepT} (ha:a∈sp) (hb:b∈sp) (hn:ba (bnt P s.nm)=ai) :
  ∃ρ',ax (aM 9 (b2 aV (b2 aO (vSh 1) (vSh 7)) (cF mK (ae (vSh 2) (ae (vSh 5) (ae (vSh 7) (ae (vSh 8) ak))))))) (aE (orD (b2 eqA (b2 ixD (b2 aO (vSh 0) (vSh 7)) .(d)) (b2 ixD (b2 aO (vSh 0) (vSh 8)) .(d))) (b2 ltD (b2 ixD (b2 aO (vSh 0) (vSh 8)) .(d)) (vSh 9)))) (nrE P E .(a) s t a.nm b.nm)=aa (.rt (.bl (decide (stt P a.nm=stt P b.nm) || jc us P E s a b)),ρ'):=
 ⟨_,(bq (d:=.int (ent E a.nm+suN us (bnt P s.nm) a.kd b.kd)) (au (au rfl rfl (dN (T.ge ha))) (a4 (aA rfl (aA rfl .(q))) (AZ g (sb _ ha) (sb _ hb) hn)) rfl)).trans (bT (KW (au (au (au rfl rfl (cC (T.gp ha))) rfl cy) (au (au rfl rfl (cC (T.gp hb))) rfl cy) (F6 _ _)) (au (au (au rfl rfl (cC (T.gp hb))) rfl cy) rfl rfl)))⟩
end
section
variable {bs:ac BenchT}
theorem Jx (hu:∀u∈us,0<=u.n) (hE:∀s∈ss,stt P s.nm<ent E s.nm) {o a b:StepT} (ha:a∈ss):(decide (stt P a.nm=stt P b.nm) || jc us P E o a b)=jc us P E o a b:=by
 cases e:decide (stt P a.nm=stt P b.nm) with
 |false=>rfl
 |true=>
  have e:=eU e;have h1:=hE a ha;have h2:=rl hu (bnt P o.nm) a.kd b.kd;exact(qQ (show stt P b.nm<ent E a.nm+suN us (bnt P o.nm) a.kd b.kd by omega)).symm
theorem J8 {sp:ac StepT} (g:Good bs ss js us ls ks h) (T:Tld sp P E) (sb:∀x∈sp,x∈ss) (hu:∀u∈us,0<=u.n) (hE:∀s∈sp,stt P s.nm<ent E s.nm) {s t:StepT} (hs:s∈sp) (ht:t∈sp) (hn:ba (bnt P s.nm)=ai):pJ [pD P,eD E,aF bs ss js us ls ks h,.str s.nm,.str t.nm]=aa (.bl (h9 us P E (s,t))):=by
 have ea:eZ (bN 2 (aI (ay 5) (aI (ay 6) bM))) .(ae) [oS (pD P),oS (eD E),oS .(a),oS .(z),oS (.str t.nm),ab,ab,ab,ab,ab]=aa (.nx,[oS (pD P),oS (eD E),oS .(a),oS .(z),oS (.str t.nm),oS (.str (bnt P s.nm)),oS (.int (stt P s.nm)),ab,ab,ab]):=by unfold eZ;rw[au (z:=pT (bnt P s.nm,stt P s.nm)) rfl rfl (cC (T.gp hs))];rfl
 have t1:toB (b2 neA (vSh 5) (b2 ixD (b2 aO (vSh 0) (vSh 4)) .(c))) [oS (pD P),oS (eD E),oS .(a),oS .(z),oS (.str t.nm),oS (.str (bnt P s.nm)),oS (.int (stt P s.nm)),ab,ab,ab]=aa (!decide (bnt P s.nm=bnt P t.nm)):=
  aX (au rfl (au (au rfl rfl (cC (T.gp ht))) rfl cx) (vL _ _))
 have t2:toB (b2 ltD (b2 ixD (b2 aO (vSh 0) (vSh 4)) .(d)) (vSh 6)) (nrE P E .(a) s t s.nm t.nm)=aa (decide (stt P t.nm<stt P s.nm)):=
  aX (au (au (au rfl rfl (cC (T.gp ht))) rfl cy) rfl rfl)
 unfold h9;dsimp only;cases e:decide (bnt P s.nm=bnt P t.nm) with
 |false=>
  rw[e] at t1;refine bO (n:=5) (ρ':=[oS (pD P),oS (eD E),oS .(a),oS .(z),oS (.str t.nm),oS (.str (bnt P s.nm)),oS (.int (stt P s.nm)),ab,ab,ab]) (ds:=[pD P,eD E,aF bs ss js us ls ks h,.str s.nm,.str t.nm]) [oS (pD P),oS (eD E),oS .(a),oS .(z),oS (.str t.nm),ab,ab,ab,ab,ab] rfl ((bY ea).trans ?_);unfold ax;rw[show sIf (toB (b2 neA (vSh 5) (b2 ixD (b2 aO (vSh 0) (vSh 4)) .(c)))) .(k) aH [oS (pD P),oS (eD E),oS .(a),oS .(z),oS (.str t.nm),oS (.str (bnt P s.nm)),oS (.int (stt P s.nm)),ab,ab,ab]=aa (.rt (.bl ao),[oS (pD P),oS (eD E),oS .(a),oS .(z),oS (.str t.nm),oS (.str (bnt P s.nm)),oS (.int (stt P s.nm)),ab,ab,ab]) from(bR t1).trans rfl];rfl
 |true=>
  rw[e] at t1;have go:∀a b:StepT,a∈sp->b∈sp->sIf (toB (b2 ltD (b2 ixD (b2 aO (vSh 0) (vSh 4)) .(d)) (vSh 6))) (pH 7 8 (ae (vSh 4) .(U))) aH (nrE P E .(a) s t s.nm t.nm)=aa (.nx,nrE P E .(a) s t a.nm b.nm)->pJ [pD P,eD E,aF bs ss js us ls ks h,.str s.nm,.str t.nm]=aa (.bl (jc us P E s a b)):=fun a b ha hb e2=>by obtain⟨ρ',e3⟩:=Ig (us:=us) g T sb (s:=s) (t:=t) ha hb hn;rw[Jx hu hE ha] at e3;exact bO (n:=5) (ds:=[pD P,eD E,aF bs ss js us ls ks h,.str s.nm,.str t.nm]) [oS (pD P),oS (eD E),oS .(a),oS .(z),oS (.str t.nm),ab,ab,ab,ab,ab] rfl ((bY ea).trans ((bY ((bR t1).trans rfl)).trans ((bY (ρ1:=nrE P E .(a) s t s.nm t.nm) rfl).trans ((bY e2).trans e3))))
  rw[ir];unfold j1;by_cases hz:stt P t.nm<stt P s.nm
  .rw[qQ hz] at t2;rw[qW hz];exact go t s ht hs ((bR t2).trans rfl)
  .rw[qL hz] at t2;rw[qX hz];exact go s t hs ht ((bR t2).trans rfl)
end
theorem ny {α:Type} {gg:FG} {ft:FT} {fe:FE} {d r:α->D} {p:α->aN} (I:bf->Prop):∀(as:ac α) (ρ:bf),(∀a∈as,∀ρ,I ρ->∃ρ1,gg (d a) ρ=aa ρ1/\ft ρ1=aa (p a)/\(p a=ai->fe ρ1=aa (r a))/\I ρ1)->I ρ->gf gg ft fe (as.map d) ρ=aa ((as.filter p).map r)
 |[],_,_,_=>rfl
 |a::as,ρ,hs,h=>by
  obtain⟨ρ1,e1,e2,e3,h1⟩:=hs a (.head _) ρ h;have ih:=ny (gg:=gg) (ft:=ft) (fe:=fe) (r:=r) I as ρ1 (fun b hb=>hs b (.tail _ hb)) h1;rw[qm,List.filter_cons];unfold gf;rw[e1,qb,e2,qb];cases hp:p a with
  |true=>rw[qW rfl,qW rfl,e3 hp,qb,ih];rfl
  |false=>rw[qX qr,qX qr];exact ih
theorem me {ρ0:bf} {ys:ac D} (h1:fi ρ=aa xs) (h2:xs.length<=1000) (h3:fC fv ρ=ρ0) (h4:gf gg ft fe xs ρ0=aa ys):bd fi gg ft fe fv ρ=aa ys:=by unfold bd;rw[h1,qb,qW (szN h2 .(h)),h3,h4]
theorem vN {α:Type} (f:α->ag):∀l:ac α,jX (l.map fun x=>D.int (f x))=aa (l.map f)
 |[]=>rfl
 |x::l=>by show(jX (l.map fun x=>D.int (f x))).map (f x::·)=_;rw[vN f l];rfl
theorem um {f:α->ag} {l:ac α} (h:fr ρ=aa (l.map fun x=>D.int (f x))):cF j5 (ae (aP fr) ak) ρ=aa (.int (l.map f).sum):=by refine a4 (aA (cI (rO D.lst) h) aR) ?_;show(jX _).map _=_;rw[vN];rfl
section
variable {bs:ac BenchT}
noncomputable def amt (f:ah->ag) (m:ag) (l:ac (ah×ag)):ag:=((l.filter fun w=>decide (f w.1<=m)).map (·.2)).sum
noncomputable def lvl (P:bp) (E:ac (ah×ag)) (k:StockT) (m:ag):ag:=k.lo-amt (stt P) m k.tk+amt (ent E) m k.pt
theorem Hr (T:Tld ss P E) {k:StockT} (gk:GoodK (ss.map (·.nm)) k) (hl:ss.length<=40) (m:ag):sH [cL k,pD P,eD E,.int m]=aa (.int (lvl P E k m)):=by
 have l1:=gk.tk.ln;have l2:=gk.pt.ln;rw[qf] at l1 l2;refine bO (n:=2) (ds:=[cL k,pD P,eD E,.int m]) (ρ':=[oS (cL k),oS (pD P),oS (eD E),oS (.int m),oS (.int (amt (stt P) m k.tk)),oS (.int (amt (ent E) m k.pt))]) [oS (cL k),oS (pD P),oS (eD E),oS (.int m),ab,ab] rfl ((bq (um (f:=fun w:ah×ag=>w.2) (l:=k.tk.filter fun w=>decide (stt P w.1<=m)) (me (xs:=k.tk.map dW) (c0 (au rfl rfl jr)) (by rw[qf];omega) rfl (ny (d:=dW) (fun ρ=>∃a b,ρ=[a,b,oS (.int m),oS (pD P)]) k.tk _ (fun w hw ρ hI=>by obtain⟨a,b,rfl⟩:=hI;exact⟨_,rfl,aX (au (au (au rfl rfl (cC (T.gpN (gk.tk.ws w hw).1))) rfl cy) rfl rfl),fun _=>rfl,_,_,rfl⟩) ⟨_,_,rfl⟩)))).trans
  ((bq (um (f:=fun w:ah×ag=>w.2) (l:=k.pt.filter fun w=>decide (ent E w.1<=m)) (me (xs:=k.pt.map dW) (c0 (au rfl rfl eK)) (by rw[qf];omega) rfl (ny (d:=dW) (fun ρ=>∃a b,ρ=[a,b,oS (.int m),oS (eD E)]) k.pt _ (fun w hw ρ hI=>by obtain⟨a,b,rfl⟩:=hI;exact⟨_,rfl,aX (au (au rfl rfl (dN (T.geN (gk.pt.ws w hw).1))) rfl rfl),fun _=>rfl,_,_,rfl⟩) ⟨_,_,rfl⟩)))).trans (bT (au (au (au rfl rfl cy) rfl rfl) rfl rfl))))
end
theorem Ja {G:D->ar D} {x:D} (h:f ρ=aa x) (h2:G x=aa y):b1 G f ρ=aa y:=by unfold b1;rw[h];exact h2
theorem sJ {f:FA} {l:ac D} (h:f ρ=aa l):aP f ρ=aa (.lst l):=by unfold aP;rw[h];rfl
theorem kN {α:Type} {p:α->aN} {f:α->D}:∀l:ac α,(l.findSome? fun x=>if p x=ai then aa (f x) else ab)=(l.find? p).map f
 |[]=>rfl
 |x::l=>by
  rw[sk,dL];cases p x with
  |true=>rfl
  |false=>exact kN l
theorem Bw:∀{l:ac ag},l≠[]->∃y∈l,∀z∈l,z<=y
 |[],h=>bz rfl h
 |[a],_=>⟨a,.head _,fun z hz=>by rw[bW.mp hz];exact o2 _⟩
 |a::b::l,_=>by
  obtain⟨y,hy,h⟩:=Bw (l:=b::l) (fun z=>by cases z);by_cases q:a<=y
  .exact⟨y,.tail _ hy,fun z hz=>(cA.mp hz).elim (fun e=>by rw[e];exact q) (h z)⟩
  .exact⟨a,.head _,fun z hz=>(cA.mp hz).elim (fun e=>by rw[e];exact o2 _) fun m=>by have:=h z m;omega⟩
theorem zV {l:ac ag} {x:ag} :x∈lz l↔x∈l:=(u0 l leZ).mem_iff
theorem xJ {x:ag} (l:ac ag):x∈ST.dd l↔x∈l:=by
 have key:∀(l a:ac ag),x∈l.foldl (fun a k=>if k∈a then a else a++[k]) a↔x∈a\/x∈l:=by
  intro l
  induction l with
  |nil=>intro a;simp
  |cons k l ih=>
   intro a;rw[iS,ih,qJ];by_cases h:k∈a
   .rw[qW h];exact⟨fun q=>q.elim .inl fun z=>.inr (.inr z),fun q=>q.elim .inl fun z=>z.elim (fun e=>.inl (e▸h)) .inr⟩
   .rw[qX h,cR,bW,or_assoc]
 exact(key l []).trans (by simp)
section
variable {bs:ac BenchT}
noncomputable def eP (P:bp) (E:ac (ah×ag)) (k:StockT) (m:ag):aN:=!(decide (0<=lvl P E k m) && decide (lvl P E k m<=k.hi))
noncomputable def skT (k:StockT) (m:ag):D:=.tup [.str "stock",.str k.nm,.int m]
noncomputable def gJ (P:bp) (E:ac (ah×ag)) (k:StockT):ac ag:=k.tk.map (fun w=>stt P w.1)++k.pt.map fun w=>ent E w.1
noncomputable def skV (P:bp) (E:ac (ah×ag)) (k:StockT):ar D:=((lz (ST.dd (gJ P E k))).find? (eP P E k)).map (skT k)
theorem BM {f:ah->ag} {m':ag} {l:ac (ah×ag)} (h:∀w∈l,f w.1<=m↔f w.1<=m'):amt f m l=amt f m' l:=by unfold amt;rw[List.filter_congr fun w hw=>o0.mpr (h w hw)]
theorem AN {f:ah->ag} {l:ac (ah×ag)} (h:∀w∈l,¬f w.1<=m):amt f m l=0:=by unfold amt;rw[u8.mpr fun w hw=>by rw[qL (h w hw)];exact qr];rfl
theorem KA {k:StockT} (gk:GoodK sn k) {x:ag} (px:eP P E k x=ai):∃y∈gJ P E k,y<=x/\eP P E k y=ai:=by
 by_cases hn:(gJ P E k).filter (fun y=>decide (y<=x))=[]
 .exfalso;rw[u8] at hn;have no:∀y∈gJ P E k,¬y<=x:=fun y hy z=>hn y hy (qQ z);have e:lvl P E k x=k.lo:=by unfold lvl;rw[AN fun w hw=>no _ (cR.mpr (.inl (a5.mpr ⟨w,hw,rfl⟩))),AN fun w hw=>no _ (cR.mpr (.inr (a5.mpr ⟨w,hw,rfl⟩)))];omega
  unfold eP at px;rw[e,qQ gk.lo.1,qQ gk.lo.2] at px;cases px
 .obtain⟨y,hy,hm⟩:=Bw hn;rw[iL] at hy;have hyx:=eU hy.2;have same:∀z∈gJ P E k,z<=x↔z<=y:=fun z hz=>⟨fun q=>hm z (iL.mpr ⟨hz,qQ q⟩),fun q=>EY q hyx⟩;refine⟨y,hy.1,hyx,?_⟩;have e:lvl P E k x=lvl P E k y:=by unfold lvl;rw[BM fun w hw=>same _ (cR.mpr (.inl (a5.mpr ⟨w,hw,rfl⟩))),BM (m:=x) fun w hw=>same _ (cR.mpr (.inr (a5.mpr ⟨w,hw,rfl⟩)))]
  unfold eP at px ⊢;rw[←e];exact px
noncomputable abbrev bkE (S:D) (P:bp) (E:ac (ah×ag)) (a b c:ar Slot):bf:=[oS S,oS (pD P),oS (eD E),a,b,c]
theorem JD {a b c:ag} (h1:fa ρ=aa (.int a)) (h2:fb ρ=aa (.int b)) (h3:fc ρ=aa (.int c)):chD leD leD fa fb fc ρ=aa (.bl (decide (a<=b) && decide (b<=c))):=by
 unfold chD;rw[h1,qb,h2,qb,show leD (.int a) (.int b)=aa (.bl (decide (a<=b))) from rfl,qb];cases decide (a<=b) with
 |true=>dsimp only;rw[h3];rfl
 |false=>rfl
theorem Nh (g:Good bs ss js us ls ks h) (T:Tld ss P E) (hl:ss.length<=20):xV [aS bs ss js us ls ks h,pD P,eD E]=aa ((ks.findSome? (skV P E)).getD .non):=by
 have hl40:(ss.map (·.nm)).length<=40:=by rw[qf];omega
 refine je (n:=3) (ds:=[aS bs ss js us ls ks h,pD P,eD E]) (ρ:=bkE .(f) P E ab ab ab) (d:=cL) (v:=skV P E) ks
  (fun ρ=>∃a b c,ρ=bkE .(f) P E a b c) rfl (c0 (gQ .(p) rfl aR (Mp (gM (n:=7) (by have:=g.kl;omega) fun x hx=>De hl40 (g.k x hx))))) ?_ ⟨_,_,_,rfl⟩ (fun ρ _=>rfl)
 rintro k hk ρ ⟨a,b,c,rfl⟩;have gk:=g.k k hk;have l1:=gk.tk.ln;have l2:=gk.pt.ln;rw[qf] at l1 l2;obtain⟨ρ2,e2,c',rfl⟩:=ot (gg:=ay 5) (body:=sIf (bu (toB (chD leD leD .(c) (cF sH (ae (vSh 3) (ae (vSh 1) (ae (vSh 2) (ae (vSh 5) ak))))) (b2 ixD (vSh 3) .(l))))) (aE (bi (szF (ae (vC (.str "stock")) (ae (b2 ixD (vSh 3) .(c)) (ae (vSh 5) ak)))))) aH) (d:=D.int) (v:=fun m=>if eP P E k m=ai then aa (skT k m) else ab)
  (fun ρ=>∃c,ρ=bkE .(f) P E (oS (cL k)) (oS (.lst ((gJ P E k).map D.int))) c) (lz (ST.dd (gJ P E k))) (bkE .(f) P E (oS (cL k)) (oS (.lst ((gJ P E k).map D.int))) c) (fun m _ ρ=>by
   rintro⟨c,rfl⟩;refine⟨_,_,rfl,(bR (b:=eP P E k m) (mS (aX (JD rfl (a4 (aA rfl (aA rfl .(q))) (Hr T gk .(e) m)) (au rfl rfl iy))))).trans ?_,oS (.int m),rfl⟩;cases eP P E k m with
   |false=>rfl
   |true=>exact bT (o9 rfl (au rfl rfl cx) rfl)) ⟨_,rfl⟩
 rw[kN] at e2;refine⟨_,_,rfl,?_,oS (cL k),oS (.lst ((gJ P E k).map D.int)),c',rfl⟩;refine(xZ (ds:=(k.tk.map fun w=>stt P w.1).map D.int) ?_).trans ((bY (DC (g:=D.int) (ys:=k.pt.map fun w=>ent E w.1) rfl ?_ (by rw[qf,qf];omega))).trans ((iD rfl).trans ((cW (c0 (Ja rfl ?_))).trans e2)))
 .rw[qo];exact me (xs:=k.tk.map dW) (c0 (au rfl rfl jr)) (by rw[qf];omega) rfl (pL (d:=dW) (fun ρ=>∃a,ρ=[a,oS (pD P)]) k.tk _ (fun w hw ρ hI=>by obtain⟨a,rfl⟩:=hI;exact⟨_,rfl,rfl,au (au rfl (au rfl rfl cx) (cC (T.gpN (gk.tk.ws w hw).1))) rfl cy,_,rfl⟩) ⟨_,rfl⟩)
 .rw[qo (l:=k.pt)];refine sJ ?_;exact me (xs:=k.pt.map dW) (c0 (au rfl rfl eK)) (by rw[qf];omega) rfl (pL (d:=dW) (fun ρ=>∃a,ρ=[a,oS (eD E)]) k.pt _ (fun w hw ρ hI=>by obtain⟨a,rfl⟩:=hI;exact⟨[oS (dW w),oS (eD E)],rfl,rfl,au (x:=eD E) (y:=.str w.1) rfl (au (x:=dW w) rfl rfl cx) (dN (T.geN (gk.pt.ws w hw).1)),_,rfl⟩) ⟨_,rfl⟩)
 .show(if _ then _ else _)=_;rw[qW (by unfold gJ;rw[qf,qj,qf,qf];omega),show D.int=fun x=>D.int (id x) from rfl,vN,E6];rfl
end
theorem Mw {a b:ac D} (h:a.length+b.length<=1000):aV (.lst a) (.lst b)=aa (.lst (a++b)):=qW (szN h .(h))
theorem BV (bt:al->al->aN):∀k,jQ bt k<=k
 |0=>qv _
 |k+1=>by have:=BV bt k;show(if bt (k+1) (jQ bt k)=ai then k+1 else jQ bt k)<=k+1;split<;>omega
theorem CZ (ss:ac ah):∀k j,j<=k->leS (ss.getD (jQ (btS ss) k) fX) (ss.getD j fX)=ai
 |0,j,h=>by
  have e:j=0:=by omega
  subst e;exact iI.mpr (Rp _)
 |k+1,j,h=>by
  have ih:=CZ ss k;show leS (ss.getD (if btS ss (k+1) (jQ (btS ss) k)=ai then k+1 else jQ (btS ss) k) fX) (ss.getD j fX)=ai;split
  .rename_i hb;have hb:(ss.getD (k+1) fX).cps.toList<(ss.getD (jQ (btS ss) k) fX).cps.toList:=eU hb;rcases io k j with q|q
   .have e:j=k+1:=by omega
    subst e;exact iI.mpr (Rp _)
   .exact Au _ _ _ (iI.mpr (List.le_of_lt hb)) (ih j q)
  .rename_i hb;rcases io k j with q|q
   .have e:j=k+1:=by omega
    subst e;have hb:¬(ss.getD (k+1) fX).cps.toList<(ss.getD (jQ (btS ss) k) fX).cps.toList:=fun z=>hb (qQ z);exact iI.mpr (QT.mp hb)
   .exact ih j q
theorem GD {ss:ac ah} (h:ss≠[]):(oj ss).head?=aa (mnS ss):=by
 have hl:0<ss.length:=E1.mpr h;have pm:=u0 ss leS;have m1:mnS ss∈ss:=by
  have hlt:jQ (btS ss) (ss.length-1)<ss.length:=by have:=BV (btS ss) (ss.length-1);omega
  unfold mnS;rw[oV,qB hlt];exact uN hlt
 have m2:∀x∈ss,leS (mnS ss) x=ai:=fun x hx=>by obtain⟨j,hj,e⟩:=List.getElem_of_mem hx;have:=CZ ss (ss.length-1) j .(e);rw[oV (i:=j),qB hj] at this;rw[←e];exact this
 have pw:=Ra (le:=leS) Au Mn ss;unfold oj;cases e:ss.mergeSort leS with
 |nil=>
  rw[e] at pm;exact bz pm.symm.eq_nil h
 |cons a l=>
  rw[e] at pm pw;have ma:a∈ss:=pm.mem_iff.mp (.head _);rcases cA.mp (pm.mem_iff.mpr m1) with q|q
  .rw[q];rfl
  .exact cI aa (Jd ((Qr.mp pw).1 _ q) (m2 a ma))
theorem J6 (hx:ba x=ai) (hn:∀y∈ns,ba y=ai):gx (.str x) (.lst (ns.map D.str))=aa (.bl (!decide (x∈ns))):=by have e:=j7 hx hn;unfold dz at e;obtain⟨b,hb,e⟩:=oMd e;unfold gx;rw[hb,qe,D.bl.inj e]
theorem vZ {A B:FS} (h:A ρ=aa (.rt d,ρ')):ax A B ρ=aa (.rt d,ρ'):=by unfold ax;rw[h];rfl
theorem ur:∀ns:ac ah,iF (ns.map D.str)=aa ns
 |[]=>rfl
 |x::r=>by show(iF (r.map D.str)).map (x::·)=_;rw[ur r];rfl
structure PlanOk (P:bp):Prop where
 nd:(P.map (·.1)).Nodup
 ln:P.length<=20
 kn:∀q∈P,ba q.1=ai
 bn:∀q∈P,ba q.2.1=ai
section
variable {bs:ac BenchT}
noncomputable def gO (ss:ac StepT) (P:bp):ac ah:=(P.filter fun q=>!decide (q.1∈ss.map (·.nm))).map (·.1)
noncomputable def jV (ss:ac StepT) (P:bp):ac ah:=(ss.filter fun s=>!(lk P s.nm).isSome).map (·.nm)
noncomputable def stT (x:ah):D:=.tup [.str "step",.str x]
noncomputable def gS (ss:ac StepT) (P:bp):ar D:=((jV ss P).head?.or (oj (gO ss P)).head?).map stT
theorem p8:xj (pD P)=aa (P.map fun q=>D.str q.1):=by show aa ((tb pT P).map fun kv=>xl kv.1)=_;unfold tb;rw[qo];rfl
theorem L8 (g:Good bs ss js us ls ks h) (p:PlanOk P) (h1:vSh i ρ=aa (pD P)) (h3:fC fv ρ=[ab,oS (.lst ((ss.map (·.nm)).map D.str))]):aP (bd (itK (vSh i)) (ay 0) (toB (b2 gx (vSh 0) (vSh 1))) (vSh 0) fv) ρ=aa (.lst ((gO ss P).map D.str)):=by
 refine sJ ((me (xs:=P.map fun q=>D.str q.1) (by unfold itK;rw[h1];exact p8) (by rw[qf];have:=p.ln;omega) h3 (ny (d:=fun q:ah×ah×ag=>D.str q.1) (r:=fun q=>D.str q.1) (p:=fun q=>!decide (q.1∈ss.map (·.nm))) (fun ρ=>∃a,ρ=[a,oS (.lst ((ss.map (·.nm)).map D.str))]) P _ (fun q hq ρ hI=>by obtain⟨a,rfl⟩:=hI;exact⟨_,rfl,aX (au rfl rfl (J6 (p.kn q hq) g.snn)),fun _=>rfl,_,rfl⟩) ⟨_,rfl⟩)).trans ?_)
 unfold gO;rw[qo];rfl
theorem MH (ss:ac StepT) (P:bp):(ss.findSome? fun s=>if (!(lk P s.nm).isSome)=ai then aa (stT s.nm) else ab)=(jV ss P).head?.map stT:=by unfold jV;rw[kN,E7,E8,Option.map_map];rfl
noncomputable abbrev bpE (S:D) (P:bp) (ss:ac StepT) (a b:ar Slot):bf:=[oS S,oS (pD P),oS (.lst ((ss.map (·.nm)).map D.str)),a,b]
theorem Bk (g:Good bs ss js us ls ks h) (p:PlanOk P):vJ [aS bs ss js us ls ks h,pD P]=aa ((gS ss P).getD .non):=by
 obtain⟨ρ',e1,a,rfl⟩:=ot (gg:=ay 3) (body:=sIf (toB (b2 pr (vSh 3) (vSh 1))) (aE (bi (szF (ae (vC (.str "step")) .(U))))) aH) (d:=fun s:StepT=>D.str s.nm) (v:=fun s=>if (!(lk P s.nm).isSome)=ai then aa (stT s.nm) else ab)
  (fun ρ=>∃a,ρ=bpE .(f) P ss a ab) ss (bpE .(f) P ss ab ab) (fun s hs ρ=>by rintro⟨a,rfl⟩;refine⟨_,_,rfl,(bR (aX (au rfl rfl Lv))).trans ?_,oS .(z),rfl⟩;cases(lk P s.nm).isSome<;>rfl) ⟨_,rfl⟩
 rw[MH] at e1;have e0:itF (vSh 2) (bpE .(f) P ss ab ab)=aa (ss.map fun s=>D.str s.nm):=c0 (by rw[show(ss.map fun s=>D.str s.nm)=(ss.map (·.nm)).map D.str from(qo ..).symm];rfl);refine xk (n:=3) (ρ':=bpE .(f) P ss a (if (jV ss P).head?=ab then oS (.lst ((gO ss P).map D.str)) else ab)) ((bq (gQ .(p) rfl aR (wu g.sl.2))).trans ?_);unfold gS;cases em:(jV ss P).head? with
 |some x=>
  rw[em] at e1;exact vZ ((cW e0).trans e1)
 |none=>
  rw[em] at e1;refine(bY ((cW e0).trans e1)).trans ((bq (L8 g p rfl rfl)).trans ?_);have el:toB (b2 gtD (cF b8 (ae (vSh 4) ak)) .(c)) (bpE .(f) P ss a (oS (.lst ((gO ss P).map D.str))))=aa (decide ((0:ag)<((gO ss P).length:al))):=aX (au (a4 (aA rfl aR) rfl) rfl (by rw[qf];rfl));rw[qW rfl];by_cases hn:gO ss P=[]
  .rw[hn] at el ⊢;rw[show oj []=[] from Rq];exact(fF el).trans rfl
  .have hl:0<(gO ss P).length:=E1.mpr hn;rw[qQ (show(0:ag)<((gO ss P).length:al) by omega)] at el;rw[GD hn];refine jZ el (bT (gv rfl (a4 (aA rfl aR) ?_)));show(iF _).bind _=_;rw[ur];exact qX hn
end
section
variable {bs:ac BenchT}
structure Fine (bs:ac BenchT) (ss:ac StepT) (P:bp) (E:ac (ah×ag)):Prop where
 t:Tld ss P E
 e:bS ss P=E
 o:OnB ss P
 p:∀s∈ss,stt P s.nm<ent E s.nm
 b:∀s∈ss,∃b∈bs,b.nm=bnt P s.nm
noncomputable def Cf (s:StepT):D:=.tup [.str "job",.str s.nm]
noncomputable def z6 (s:StepT):D:=.tup [.str "break",.str s.nm]
noncomputable def Ar (js:ac JobT) (P:bp) (E:ac (ah×ag)) (s:StepT):aN:=gA js s.nm (stt P s.nm) (ent E s.nm)
noncomputable def CD (bs:ac BenchT) (P:bp) (E:ac (ah×ag)) (s:StepT):aN:=hW (brs bs (bnt P s.nm)) (stt P s.nm) (ent E s.nm)
noncomputable def w2 (bs:ac BenchT) (ss:ac StepT) (js:ac JobT) (P:bp) (E:ac (ah×ag)):ac D:=(ss.filter (Ar js P E)).map Cf++(ss.filter (CD bs P E)).map z6
noncomputable def w3 (bs:ac BenchT) (ss:ac StepT) (js:ac JobT) (us:ac SetT) (P:bp) (E:ac (ah×ag)):ac D:=w2 bs ss js P E++((prS ss).findSome? (bnV us P E)).toList
noncomputable def wsh (bs:ac BenchT) (ss:ac StepT) (js:ac JobT) (us:ac SetT) (ls:ac LinkT) (ks:ac StockT) (P:bp) (E:ac (ah×ag)):ac D:=w3 bs ss js us P E++js.filterMap (apJ P E)++(ls.findSome? (lkV P E)).toList++(ks.findSome? (skV P E)).toList
theorem xP (o:ar D):o.toList.head?=o:=by cases o<;>rfl
theorem xU:(wsh bs ss js us ls ks P E).head?=(((((ss.findSome? (ki js P E)).or (ss.findSome? (mJ bs P E))).or ((prS ss).findSome? (bnV us P E))).or (js.findSome? (apJ P E))).or (ls.findSome? (lkV P E))).or (ks.findSome? (skV P E)):=by
 have e1:((ss.filter (Ar js P E)).map Cf).head?=ss.findSome? (ki js P E):=by rw[E7,E8,←kN];rfl
 have e2:((ss.filter (CD bs P E)).map z6).head?=ss.findSome? (mJ bs P E):=by rw[E7,E8,←kN];rfl
 unfold wsh w3 w2;rw[so,so,so,so,so,xP,xP,xP,List.head?_filterMap,e1,e2]
end
noncomputable def GT (d:D):Prop:=(∃t:ac ah,(∀x∈t,ba x=ai)/\d=.tup (t.map D.str))\/∃(a:ah) (m:ag),ba a=ai/\d=.tup [.str "stock",.str a,.int m]
noncomputable def GO (o:ar D):Prop:=∀d,o=aa d->GT d
theorem GO.first {v:α->ar D} {l:ac α} (h:∀x∈l,GO (v x)):GO (l.findSome? v):=fun d e=>by obtain⟨x,hx,e⟩:=Rr e;exact h x hx d e
theorem GO.ite {p:Prop} [Decidable p] (h:GT d):GO (if p then aa d else ab):=fun x e=>by
 split at e
 .cases e;exact h
 .cases e
theorem gt2 {a b:ah} (h1:ba a=ai) (h2:ba b=ai):GT (.tup [.str a,.str b]):=.inl ⟨[a,b],by simp[h1,h2],rfl⟩
theorem gt3 {a b c:ah} (h1:ba a=ai) (h2:ba b=ai) (h3:ba c=ai):GT (.tup [.str a,.str b,.str c]):=.inl ⟨[a,b,c],by simp[h1,h2,h3],rfl⟩
theorem GT.nn (h:GT d):lC d=ao:=by rcases h with⟨t,_,rfl⟩|⟨a,m,_,rfl⟩<;>rfl
section
variable {bs:ac BenchT}
theorem xa (g:Good bs ss js us ls ks h) (p:PlanOk P):GO (gS ss P):=fun d e=>by
 unfold gS at e;obtain⟨x,hx,rfl⟩:=oMd e;refine gt2 .(p) ?_;rcases Rs.mp hx with q|⟨_,q⟩
 .have m:=Rt q;unfold jV at m;obtain⟨s,hs,rfl⟩:=a5.mp m;exact(g.s s (iL.mp hs).1).nm
 .have m:=(u0 (gO ss P) leS).mem_iff.mp (Rt q);unfold gO at m;obtain⟨w,hw,rfl⟩:=a5.mp m;exact p.kn w (iL.mp hw).1
theorem Bp (g:Good bs ss js us ls ks h):GO (ss.findSome? (i9 h P)):=.first fun s hs d e=>by
 have k:GT (.tup [.str "way",.str s.nm]):=gt2 .(p) (g.s s hs).nm;unfold i9 at e;split at e
 .cases e
 .split at e
  .cases e;exact k
  .split at e
   .cases e;exact k
   .cases e
theorem Br (g:Good bs ss js us ls ks h):GO (ss.findSome? (ki js P E)):=.first fun s hs=>.ite (gt2 .(p) (g.s s hs).nm)
theorem Dw (g:Good bs ss js us ls ks h):GO (ss.findSome? (mJ bs P E)):=.first fun s hs=>.ite (gt2 .(p) (g.s s hs).nm)
theorem BJ (g:Good bs ss js us ls ks h):GO ((prS ss).findSome? (bnV us P E)):=.first fun s hs=>.ite (gt3 .(p) (g.s _ (jd hs).1).nm (g.s _ (jd hs).2).nm)
theorem B3 (g:Good bs ss js us ls ks h):GO (js.findSome? (apJ P E)):=.first fun j hj=>.first fun q hq=>by
 have k:∀s∈j.ms.map mkS,ba s.nm=ai:=fun s hs=>by obtain⟨x,hx,rfl⟩:=a5.mp hs;exact g.snn x ((g.j j hj).ms x hx)
 exact .ite (gt3 .(p) (k _ (jd hq).1) (k _ (jd hq).2))
theorem C4 (g:Good bs ss js us ls ks h):GO (ls.findSome? (lkV P E)):=.first fun l hl=>.ite (gt3 .(p) (g.snn _ (g.l l hl).a) (g.snn _ (g.l l hl).b))
theorem KL (g:Good bs ss js us ls ks h):GO (ks.findSome? (skV P E)):=.first fun k hk d e=>by unfold skV at e;obtain⟨m,_,rfl⟩:=oMd e;exact .inr ⟨_,_,(g.k k hk).nm,rfl⟩
theorem GO.or {a b:ar D} (h1:GO a) (h2:GO b):GO (a.or b):=fun d e=>(Rs.mp e).elim (h1 d) fun q=>h2 d q.2
noncomputable abbrev fbE (S:D) (P:bp) (o:ar D) (y:ar Slot):bf:=[oS S,oS (pD P),oS (o.getD .non),y]
theorem GO.non {o:ar D} (h:GO o):lC (o.getD .non)=o.isNone:=by
 cases o with
 |none=>rfl
 |some d=>exact(h d rfl).nn
theorem nxt {F:FQ} {o o':ar D} {S:D} {y:ar Slot} (g:GO o) (hf:fr (fbE S P o y)=aa ds) (hF:o=ab->F ds=aa (o'.getD .non)):sIf (toB (b2 isD (vSh 2) (vC .non))) (aM 2 (cF F fr)) aH (fbE S P o y)=aa (.nx,fbE S P (o.or o') y):=by
 refine(bR (b:=o.isNone) (aX (au rfl rfl ?_))).trans ?_
 .exact cI (aa ∘ D.bl) g.non
 .cases o with
  |some d=>rfl
  |none=>exact lY (a4 hf (hF rfl))
theorem ND (g:Good bs ss js us ls ks h) (p:PlanOk P) {t:D} (hp:gS ss P=ab->∀s∈ss,(lk P s.nm).isSome=ai) (ht:(gS ss P).or (ss.findSome? (i9 h P))=aa t):mo [aS bs ss js us ls ks h,pD P]=aa t:=by
 have go:=(xa (js:=js) g p).or (Bp g (P:=P));refine bO (n:=2) (ρ':=fbE .(f) P (aa t) ab) (ds:=[aS bs ss js us ls ks h,pD P]) [oS .(f),oS (pD P),ab,ab] rfl
  ((bq (a4 .(q) (Bk g p))).trans ((bY (nxt (xa g p) .(q) fun e=>zz g (hp e))).trans ?_))
 rw[ht] at go ⊢;refine jZ (aX (au rfl rfl ?_)) rfl;show aa (D.bl (!lC t))=_;rw[(go t rfl).nn];rfl
theorem MV (g:Good bs ss js us ls ks h) (p:PlanOk P) (hl:ss.length<=20) (f:Fine bs ss P E) (hs:gS ss P=ab) (hw:ss.findSome? (i9 h P)=ab):mo [aS bs ss js us ls ks h,pD P]=aa (((wsh bs ss js us ls ks P E).head?).getD .non):=by
 have hp:∀s∈ss,(lk P s.nm).isSome=ai:=fun s hs=>by rw[f.t.gp hs];rfl
 have e0:=KP g hp f.o;rw[f.e] at e0;have a3:∀{o:ar D},(ae (vSh 0) (ae (vSh 1) .(U))) (fbE .(f) P o (oS (eD E)))=aa [aS bs ss js us ls ks h,pD P,eD E]:=rfl;have g1:=Br g (P:=P) (E:=E);have g2:=g1.or (Dw g (P:=P) (E:=E));have g3:=g2.or (BJ g (P:=P) (E:=E));have g4:=g3.or (B3 g (P:=P) (E:=E));have g5:=g4.or (C4 g (P:=P) (E:=E));have n1:=nxt (P:=P) (y:=ab) (S:=aS bs ss js us ls ks h) (fr:=ae (vSh 0) .(N)) (xa g p) .(q) fun _=>zz g hp;rw[hs,hw] at n1;have b0:=Bk g p;rw[hs] at b0;rw[xU];refine bO (n:=2) (ρ':=fbE .(f) P ((((((ss.findSome? (ki js P E)).or (ss.findSome? (mJ bs P E))).or ((prS ss).findSome? (bnV us P E))).or (js.findSome? (apJ P E))).or (ls.findSome? (lkV P E))).or (ks.findSome? (skV P E))) (oS (eD E))) (ds:=[aS bs ss js us ls ks h,pD P]) [oS .(f),oS (pD P),ab,ab] rfl
  ((bq (a4 .(q) b0)).trans ((bY n1).trans ((fF (aX .(P))).trans
  ((bq (a4 .(q) e0)).trans ((bq (d:=(ss.findSome? (ki js P E)).getD .non) (a4 (aA rfl .(q)) (KB g f.t))).trans
  ((bY (nxt g1 a3 fun _=>Gw g f.t f.b)).trans ((bY (nxt g2 a3 fun _=>LM g f.t)).trans ((bY (nxt g3 a3 fun _=>IA g f.t)).trans ((bY (nxt g4 a3 fun _=>MY g f.t)).trans ((bY (nxt g5 a3 fun _=>Nh g f.t hl)).trans (bT rfl)))))))))))
end
section
variable {bs:ac BenchT}
theorem Gg (hs:gS ss P=ab):jV ss P++oj (gO ss P)=[]:=by unfold gS at hs;rw[Ru,←so] at hs;exact List.head?_eq_none_iff.mp hs
theorem Po (hs:gS ss P=ab):∀s∈ss,(lk P s.nm).isSome=ai:=fun s hm=>by
 have e:=(List.append_eq_nil_iff.mp (Gg hs)).1;unfold jV at e;rw[List.map_eq_nil_iff,u8] at e;have:=e s hm;cases q:(lk P s.nm).isSome with
 |true=>rfl
 |false=>rw[q] at this;exact bz rfl this
end
section
variable {bs:ac BenchT}
theorem Gc {s:StepT} (e:fP P s=aa q):q.1=s.nm:=by unfold fP at e;obtain⟨a,_,e⟩:=oBd e;obtain⟨b,_,rfl⟩:=oMd e;rfl
theorem zu (P:bp):∀ss:ac StepT,Rv ((bS ss P).map (·.1)) (ss.map (·.nm))
 |[]=>.slnil
 |s::ss=>by
  have ih:=zu P ss;unfold bS at ih ⊢;rw[uA,qm];cases e:fP P s with
  |none=>exact .cons _ ih
  |some q=>
   show Rv (q.1::_) _;rw[Gc e];exact .cons_cons _ ih
theorem wY (nd:(ss.map (·.nm)).Nodup) {s:StepT} (hs:s∈ss) {n:ag} (hq:lk P s.nm=aa q) (hn:lk s.ws q.1=aa n):lk (bS ss P) s.nm=aa (q.2+n):=
 jz ((zu P ss).nodup nd) (ro.mpr ⟨s,hs,by unfold fP;rw[hq,qb,hn];rfl⟩)
noncomputable def plc (ss:ac StepT) (P:bp):ac StepT:=ss.filter fun s=>(lk P s.nm).isSome
theorem j8 {s:StepT} (hs:s∈plc ss P):s∈ss:=(iL.mp hs).1
theorem tV (g:Good bs ss js us ls ks h) (o:OnB ss P):Tld (plc ss P) P (bS ss P) where
 p s hs:=gm.mp (iL.mp hs).2
 e s hs:=by obtain⟨q,hq⟩:=gm.mp (iL.mp hs).2;obtain⟨n,hn⟩:=gm.mp (o s (j8 hs) q hq);exact⟨_,wY g.sn (j8 hs) hq hn⟩
theorem nL (g:Good bs ss js us ls ks h) (o:OnB ss P) {s:StepT} (hs:s∈plc ss P):stt P s.nm<ent (bS ss P) s.nm/\∃b∈bs,b.nm=bnt P s.nm:=by
 obtain⟨q,hq⟩:=gm.mp (iL.mp hs).2;obtain⟨n,hn⟩:=gm.mp (o s (j8 hs) q hq);have w:=(g.s s (j8 hs)).ws _ (kP hn);constructor
 .unfold stt ent;rw[hq,wY g.sn (j8 hs) hq hn];show q.2<q.2+n;have:1<=n:=w.2.1;omega
 .unfold bnt;rw[hq];exact a5.mp w.1
end
structure PlanN (n:al) (P:bp):Prop where
 nd:(P.map (·.1)).Nodup
 ln:P.length<=n
 kn:∀q∈P,ba q.1=ai
 bn:∀q∈P,ba q.2.1=ai
section
variable {bs:ac BenchT}
theorem mU {l:ac (ah×α)} {k:ah} {v:α} {q:ah×α} (h:q∈pt l k v):q=(k,v)\/q∈l:=by
 unfold pt at h;split at h
 .obtain⟨x,hx,e⟩:=a5.mp h;split at e
  .rename_i z;rw[←e,z];exact .inl rfl
  .rw[←e];exact .inr hx
 .rcases cR.mp h with z|z
  .exact .inr z
  .exact .inl (bW.mp z)
theorem Jo {l:ac (ah×α)} {k:ah} {v:α} (h:(lk l k).isSome=ai):(pt l k v).length=l.length:=by
 unfold pt;rw[qW (pj.mpr (by
  by_cases z:k∈l.map (·.1)
  .exact z
  .rw[uf.mpr z] at h;cases h)),qf]
theorem PlanN.pt (p:PlanN n P) {k:ah} {v:ah×ag} (hk:ba k=ai) (hv:ba v.1=ai):PlanN (n+1) (pt P k v):=
 ⟨v8 p.nd,qK wF (Nat.succ_le_succ p.ln),fun q hq=>(mU hq).elim (fun e=>by rw[e];exact hk) (p.kn q),fun q hq=>(mU hq).elim (fun e=>by rw[e];exact hv) (p.bn q)⟩
theorem PlanN.old (p:PlanN n P) {k:ah} {v:ah×ag} (h:(lk P k).isSome=ai) (hk:ba k=ai) (hv:ba v.1=ai):PlanN n (Law.pt P k v):=
 ⟨v8 p.nd,(Jo h).symm▸p.ln,fun q hq=>(mU hq).elim (fun e=>by rw[e];exact hk) (p.kn q),fun q hq=>(mU hq).elim (fun e=>by rw[e];exact hv) (p.bn q)⟩
theorem PlanN.ok (p:PlanN n P) (h:n<=20):PlanOk P:=⟨p.nd,qK p.ln h,p.kn,p.bn⟩
theorem Dt {l:ac D} {i:ag} {x:D} (h:0<=i) (e:l[i.toNat]?=aa x):ixD (.lst l) (.int i)=aa x:=by have:=ixL l i.toNat;rw[Int.toNat_of_nonneg h] at this;rw[this,e]
end
section
variable {bs:ac BenchT} {Q:bp}
theorem Bl {f:FA} {l:ac D} (h:f ρ=aa l) (hl:l.length<=1000):szF f ρ=aa l:=by unfold szF;rw[h];exact qW (szN hl .(h))
theorem eqi (a b:ag):eqD (.int a) (.int b)=aa (.bl (decide (a=b))):=rfl
end
section
variable {bs:ac BenchT} {Q:bp}
theorem xC (h:f ρ=aa d) (h2:gg d ρ=aa ρ'):eZ gg f ρ=aa (.nx,ρ'):=by unfold eZ;rw[h,qb,h2];rfl
theorem C8 {l:ac D} (h:f ρ=aa (.lst l)):cF b8 (ae f ak) ρ=aa (.int (l.length:al)):=a4 (aA h aR) rfl
end
section
variable {bs:ac BenchT} {Q:bp}
theorem F4 (g:Good bs ss js us ls ks h) (p:PlanN n P) (o:OnB ss P) {s t:StepT} (hs:s∈plc ss P) (ht:t∈plc ss P):∃b,mH [pD P,eD (bS ss P),aF bs ss js us ls ks h,.str s.nm,.str t.nm]=aa (.bl b):=by
 have T:=tV g o;have en:=J8 g T (fun x hx=>j8 hx) (fun u hu=>by have:=(g.u u hu).n;omega) (fun s hs=>(nL g o hs).1) hs ht (p.bn _ (kP (T.gp hs)));have ns:=(g.s s (j8 hs)).nm;have nt:=(g.s t (j8 ht)).nm;have tn:toB (cF pJ (ae (vSh 0) (ae (vSh 1) (ae (vSh 2) (ae (vSh 3) (ae (vSh 4) ak)))))) [oS (pD P),oS (eD (bS ss P)),oS .(a),oS .(z),oS (.str t.nm),ab]=aa (h9 us P (bS ss P) (s,t)):=aX (a4 (aA rfl (aA rfl (aA rfl .(q)))) en);cases e:h9 us P (bS ss P) (s,t) with
 |true=>
  rw[e] at tn;exact⟨ao,bO (n:=1) (ds:=[pD P,eD (bS ss P),aF bs ss js us ls ks h,.str s.nm,.str t.nm]) [oS (pD P),oS (eD (bS ss P)),oS .(a),oS .(z),oS (.str t.nm),ab] rfl (jZ tn rfl)⟩
 |false=>
  rw[e] at tn;obtain⟨ρ',e2⟩:=ud (gg:=ay 5) (body:=sIf (cm (toB (b2 dz (vSh 3) (b2 ixD (vSh 5) .(j)))) (toB (b2 dz (vSh 4) (b2 ixD (vSh 5) .(j))))) (sIf (toB (cF pQ (ae (vSh 0) (ae (vSh 1) (ae (vSh 3) (ae (vSh 4) ak)))))) .(k) aH) aH) (d:=aW) (v:=fun j:JobT=>if (decide (s.nm∈j.ms) && decide (t.nm∈j.ms) && nz P (bS ss P) s.nm t.nm)=ai then aa (D.bl ao) else ab) (e:=vC (.bl ai)) (z:=.bl ai) (fi:=itF (b2 ixD (vSh 2) .(l))) (ρ:=[oS (pD P),oS (eD (bS ss P)),oS .(a),oS .(z),oS (.str t.nm),ab]) js
   (fun ρ=>∃a,ρ=[oS (pD P),oS (eD (bS ss P)),oS .(a),oS .(z),oS (.str t.nm),a]) (c0 (au rfl rfl (ixL _ 2))) (fun j hj ρ=>by
    rintro⟨a,rfl⟩;have mn:∀y∈j.ms,ba y=ai:=fun y hy=>g.snn y ((g.j j hj).ms y hy);refine⟨_,_,rfl,?_,oS (aW j),rfl⟩;have t1:toB (b2 dz (vSh 3) (b2 ixD (vSh 5) .(j))) [oS (pD P),oS (eD (bS ss P)),oS .(a),oS .(z),oS (.str t.nm),oS (aW j)]=aa (decide (s.nm∈j.ms)):=aX (au rfl (au rfl rfl eK) (j7 ns mn));have t2:toB (b2 dz (vSh 4) (b2 ixD (vSh 5) .(j))) [oS (pD P),oS (eD (bS ss P)),oS .(a),oS .(z),oS (.str t.nm),oS (aW j)]=aa (decide (t.nm∈j.ms)):=aX (au rfl (au rfl rfl eK) (j7 nt mn));have t3:toB (cF pQ (ae (vSh 0) (ae (vSh 1) (ae (vSh 3) (ae (vSh 4) ak))))) [oS (pD P),oS (eD (bS ss P)),oS .(a),oS .(z),oS (.str t.nm),oS (aW j)]=aa (nz P (bS ss P) s.nm t.nm):=aX (a4 (aA rfl (aA rfl .(q))) (KU T (a5.mpr ⟨s,hs,rfl⟩) (a5.mpr ⟨t,ht,rfl⟩)));cases e1:decide (s.nm∈j.ms) with
    |false=>rw[e1] at t1;exact(bR (kR t1)).trans rfl
    |true=>
     rw[e1] at t1;refine(bR (jh t1 t2)).trans ?_;cases e2:decide (t.nm∈j.ms) with
     |false=>rfl
     |true=>
      refine(bR t3).trans ?_;cases nz P (bS ss P) s.nm t.nm<;>rfl) ⟨_,rfl⟩ (fun ρ _=>rfl)
  rw[kN] at e2;refine⟨(js.find? fun j=>decide (s.nm∈j.ms) && decide (t.nm∈j.ms) && nz P (bS ss P) s.nm t.nm).isNone,bO (n:=1) (ρ':=ρ') (ds:=[pD P,eD (bS ss P),aF bs ss js us ls ks h,.str s.nm,.str t.nm]) [oS (pD P),oS (eD (bS ss P)),oS .(a),oS .(z),oS (.str t.nm),ab] rfl ((fF tn).trans (e2.trans ?_))⟩;cases js.find? fun j=>decide (s.nm∈j.ms) && decide (t.nm∈j.ms) && nz P (bS ss P) s.nm t.nm<;>rfl
theorem Gf (g:Good bs ss js us ls ks h) (p:PlanN n P) (hn:n<=100) (o:OnB ss P) (kk:∀q∈P,q.1∈ss.map (·.nm)) {s:StepT} (hs:s∈plc ss P):∃b,vQ [pD P,aF bs ss js us ls ks h,.str s.nm]=aa (.bl b):=by
 have T:=tV g o;obtain⟨b,hb,hbn⟩:=(nL g o hs).2;have e0:=xA g o;have lp:=p.ln;have t1:orT (toB (b2 gtD (b2 aO (vSh 3) (vSh 2)) (b2 ixD (vSh 1) (vC (.int 6))))) (orT (toB (cF tK (ae (vSh 0) (ae (vSh 3) (ae (vSh 1) .(X)))))) (toB (cF sT (ae (vSh 0) (ae (vSh 3) (ae (vSh 1) .(X))))))) [oS (pD P),oS .(a),oS .(z),oS (eD (bS ss P)),ab]=aa (decide (h<ent (bS ss P) s.nm) || (hW b.br (stt P s.nm) (ent (bS ss P) s.nm) || gA js s.nm (stt P s.nm) (ent (bS ss P) s.nm))):=
  lh (aX (au (au rfl rfl (dN (T.ge hs))) (au rfl rfl (ixL _ 6)) rfl)) (lh (aX (a4 (aA rfl (aA rfl .(q))) (Go g T hs hb hbn.symm))) (aX (a4 (aA rfl (aA rfl .(q))) (F5 g (j8 hs) (T.gp hs) (T.ge hs)))))
 cases et:decide (h<ent (bS ss P) s.nm) || (hW b.br (stt P s.nm) (ent (bS ss P) s.nm) || gA js s.nm (stt P s.nm) (ent (bS ss P) s.nm)) with
 |true=>
  rw[et] at t1;exact⟨ao,bO (n:=2) (ds:=[pD P,aF bs ss js us ls ks h,.str s.nm]) [oS (pD P),oS .(a),oS .(z),ab,ab] rfl ((bq (a4 .(q) e0)).trans (jZ t1 rfl))⟩
 |false=>
  rw[et] at t1;obtain⟨ρ',e2⟩:=ud (gg:=ay 4) (body:=sIf (toB (b2 neA (vSh 4) (vSh 2))) (sIf (bu (toB (cF mH (ae (vSh 0) (ae (vSh 3) (ae (vSh 1) (ae (vSh 2) (ae (vSh 4) ak)))))))) .(k) aH) aH) (d:=fun q:ah×ah×ag=>D.str q.1) (v:=fun q=>if (!decide (q.1=s.nm) && (match mH [pD P,eD (bS ss P),aF bs ss js us ls ks h,.str s.nm,.str q.1] with
    |some (.bl b)=>!b
    |_=>ao))=ai then aa (D.bl ao) else ab) (e:=vC (.bl ai)) (z:=.bl ai) (fi:=itK (vSh 0)) (ρ:=[oS (pD P),oS .(a),oS .(z),oS (eD (bS ss P)),ab]) P
   (fun ρ=>∃a,ρ=[oS (pD P),oS .(a),oS .(z),oS (eD (bS ss P)),a]) p8 (fun q hq ρ=>by
    rintro⟨a,rfl⟩;obtain⟨t,ht,en⟩:=a5.mp (kk q hq);have htp:t∈plc ss P:=iL.mpr ⟨ht,by rw[en,jz p.nd (show(q.1,q.2)∈P from hq)];rfl⟩;obtain⟨b,eb⟩:=F4 g p o hs htp;rw[en] at eb;refine⟨_,_,rfl,?_,oS (.str q.1),rfl⟩;have t1:toB (b2 neA (vSh 4) (vSh 2)) [oS (pD P),oS .(a),oS .(z),oS (eD (bS ss P)),oS (.str q.1)]=aa (!decide (q.1=s.nm)):=aX (au rfl rfl (vL _ _));rw[eb];cases e1:decide (q.1=s.nm) with
    |true=>rw[e1] at t1;exact(bR t1).trans rfl
    |false=>
     rw[e1] at t1;refine(bR t1).trans ((bR (mS (aX (a4 (aA rfl (aA rfl (aA rfl .(q)))) eb)))).trans ?_);cases b<;>rfl) ⟨_,rfl⟩ (fun ρ _=>rfl)
  rw[kN] at e2;refine⟨(P.find? fun q=>(!decide (q.1=s.nm) && (match mH [pD P,eD (bS ss P),aF bs ss js us ls ks h,.str s.nm,.str q.1] with
    |some (.bl b)=>!b
    |_=>ao))).isNone,bO (n:=2) (ρ':=ρ') (ds:=[pD P,aF bs ss js us ls ks h,.str s.nm]) [oS (pD P),oS .(a),oS .(z),ab,ab] rfl ((bq (a4 .(q) e0)).trans ((fF t1).trans (e2.trans ?_)))⟩
  generalize (P.find? fun q=>(!decide (q.1=s.nm) && (match mH [pD P,eD (bS ss P),aF bs ss js us ls ks h,.str s.nm,.str q.1] with
    |some (.bl b)=>!b
    |_=>ao)))=o
  cases o<;>rfl
end
theorem zY (I:bf->Prop) (Q:D->Prop) (hf:fi ρ=aa xs) (h0:I ρ) (hs:∀x∈xs,∀ρ,I ρ->Wp (gg x ρ) fun ρ1=>Wp (g ρ1) fun r=>(r.1=.nx/\I r.2)\/∃d,r.1=.rt d/\Q d):Wp (bC fi gg g ρ) fun r=>(r.1=.nx/\I r.2)\/∃d,r.1=.rt d/\Q d:=by
 unfold bC;rw[hf,qb];clear hf
 induction xs generalizing ρ with
 |nil=>exact⟨_,rfl,.inl ⟨rfl,h0⟩⟩
 |cons x xs ih=>
  unfold dB;refine pz ((hs x (.head _) ρ h0).imp fun ρ1 k=>pz (k.imp ?_));rintro⟨fl,ρ2⟩ (⟨e,hI⟩|⟨d,e,hQ⟩)
  .have e:fl=.nx:=e;subst e;exact ih hI fun y hy=>hs y (.tail _ hy)
  .have e:fl=.rt d:=e;subst e;exact⟨_,rfl,.inr ⟨d,rfl,hQ⟩⟩
theorem NC {I:bf->Prop} {Q:D->Prop} (h:Wp (g ρ) fun r=>(r.1=.nx/\I r.2)\/∃d,r.1=.rt d/\Q d) (h2:∀ρ,I ρ->Wp (g' ρ) fun r=>∃d,r.1=.rt d/\Q d):Wp (ax g g' ρ) fun r=>∃d,r.1=.rt d/\Q d:=pz (h.imp (by
 rintro⟨fl,ρ2⟩ (⟨e,hI⟩|⟨d,e,hQ⟩)
 .have e:fl=.nx:=e;subst e;exact h2 _ hI
 .have e:fl=.rt d:=e;subst e;exact⟨_,rfl,d,rfl,hQ⟩))
section
variable {bs:ac BenchT} {Q:bp}
noncomputable abbrev lwE (L:D) (E:ac (ah×ag)) (x:ah) (m:ag) (a b c d e:ar Slot):bf:=[oS L,oS (eD E),oS (.str x),oS (.int m),a,b,c,d,e]
theorem A4 {G:D->FQ} (h1:f ρ=aa d) (h2:fr ρ=aa ds) (h3:G d ds=aa z):mF G f fr ρ=aa z:=by unfold mF;rw[h1,qb,h2];exact h3
theorem BD {a b:ag} (h1:fa ρ=aa (.int a)) (h2:fb ρ=aa (.int b)):cF ic (ae fa (ae fb ak)) ρ=aa (.int (if b > a then b else a)):=a4 (aA h1 (aA h2 aR)) rfl
theorem L4 (g:Good bs ss js us ls ks h) {M:ag} (hM:0<=M) (hE:∀k x,lk E k=aa x->0<=x/\x<=M) (hx:ba x=ai):∃m,sx [aF bs ss js us ls ks h,eD E,.str x]=aa (.int m)/\0<=m/\m<=M+h:=by
 have hh:=g.hh;obtain⟨ρ1,e1,m1,a1,b1,c1,h1,r1⟩:=dZ (gg:=bN 3 (aI (ay 4) (aI (ay 5) (aI (ay 6) bM)))) (body:=(sIf (cm (toB (b2 eqA (vSh 5) (vSh 2))) (toB (b2 fz (vSh 4) (vSh 1)))) (aM 3 (cF ic (ae (vSh 3) (ae (b2 aV (b2 aO (vSh 1) (vSh 4)) (vSh 6)) ak)))) aH)) (xs:=ls.map cX) (ρ:=lwE .(a) E x 0 ab ab ab ab ab)
  (fun _ ρ=>∃m a b c,ρ=lwE .(a) E x m a b c ab ab/\0<=m/\m<=M+h) ⟨0,_,_,_,rfl,by omega,by omega⟩ (fun i y ρ hy hI=>by
   obtain⟨m,a,b,c,rfl,q0,q1⟩:=hI;rw[qk] at hy;obtain⟨l,hl,rfl⟩:=oMd hy;have gl:=(g.l l (qN hl)).g;have t1:toB (b2 eqA (vSh 5) (vSh 2)) (lwE .(a) E x m (oS (.str l.a)) (oS (.str l.b)) (oS (.int l.g)) ab ab)=aa (decide (l.b=x)):=aX (au rfl rfl (pf _ _));have t2:toB (b2 fz (vSh 4) (vSh 1)) (lwE .(a) E x m (oS (.str l.a)) (oS (.str l.b)) (oS (.int l.g)) ab ab)=aa (lk E l.a).isSome:=aX (au rfl rfl KJ);cases e1:decide (l.b=x) with
   |false=>rw[e1] at t1;exact⟨_,_,rfl,(bR (kR t1)).trans rfl,m,_,_,_,rfl,q0,q1⟩
   |true=>
    rw[e1] at t1;cases e2:lk E l.a with
    |none=>rw[e2] at t2;exact⟨_,_,rfl,(bR (jh t1 t2)).trans rfl,m,_,_,_,rfl,q0,q1⟩
    |some z=>
     rw[e2] at t2;have hz:=hE _ _ e2;refine⟨_,_,rfl,(bR (jh t1 t2)).trans (lY (BD rfl (au (au rfl rfl (dN e2)) rfl rfl))),_,_,_,_,rfl,?_,?_⟩<;>split<;>omega)
 subst h1;obtain⟨ρ2,e2,m2,d2,e2',h2,r2⟩:=dZ (gg:=ay 7) (body:=(sIf (cm (toB (b2 ixD (vSh 7) .(i))) (toB (b2 dz (vSh 2) (b2 ixD (vSh 7) .(j))))) (bC (itF (slF (b2 ixD (vSh 7) .(j)) pN (pS (mF mf (b2 ixD (vSh 7) .(j)) .(X))))) (ay 8) (aM 3 (cF ic (ae (vSh 3) (ae (b3 j6 (vSh 1) (vSh 8) .(c)) ak))))) aH)) (xs:=js.map aW) (ρ:=lwE .(a) E x m1 a1 b1 c1 ab ab)
  (fun _ ρ=>∃m d e,ρ=lwE .(a) E x m a1 b1 c1 d e/\0<=m/\m<=M+h) ⟨m1,_,_,rfl,r1⟩ (fun i y ρ hy hI=>by
   obtain⟨m,d,e,rfl,q0,q1⟩:=hI;rw[qk] at hy;obtain⟨j,hj,rfl⟩:=oMd hy;have gj:=g.j j (qN hj);have t1:toB (b2 ixD (vSh 7) .(i)) (lwE .(a) E x m a1 b1 c1 (oS (aW j)) e)=aa j.od:=aX (au rfl rfl jr);have t2:toB (b2 dz (vSh 2) (b2 ixD (vSh 7) .(j))) (lwE .(a) E x m a1 b1 c1 (oS (aW j)) e)=aa (decide (x∈j.ms)):=aX (au rfl (au rfl rfl eK) (j7 hx fun y hy=>g.snn y (gj.ms y hy)));cases e1:j.od with
   |false=>rw[e1] at t1;exact⟨_,_,rfl,(bR (kR t1)).trans rfl,m,_,_,rfl,q0,q1⟩
   |true=>
    rw[e1] at t1;by_cases hm:x∈j.ms
    .rw[qQ hm] at t2;have hlt:j.ms.findIdx (·==x)<j.ms.length:=Rw ⟨x,hm,by simp⟩;obtain⟨ρ3,e3,m3,f3,h3,r3⟩:=dZ (gg:=ay 8) (body:=(aM 3 (cF ic (ae (vSh 3) (ae (b3 j6 (vSh 1) (vSh 8) .(c)) ak))))) (xs:=(j.ms.map D.str).take (j.ms.findIdx (·==x))) (ρ:=lwE .(a) E x m a1 b1 c1 (oS (aW j)) e)
      (fun _ ρ=>∃m f,ρ=lwE .(a) E x m a1 b1 c1 (oS (aW j)) f/\0<=m/\m<=M+h) ⟨m,_,rfl,q0,q1⟩ (fun k y ρ hy hI=>by
       obtain⟨m,f,rfl,q0,q1⟩:=hI;obtain⟨w,_,rfl⟩:=a5.mp (nh (qN hy));have hz:0<=(lk E w).getD 0/\(lk E w).getD 0<=M:=by
        cases e:lk E w with
        |none=>exact⟨o2 0,hM⟩
        |some z=>exact hE _ _ e
       refine⟨_,_,rfl,lY (BD rfl (zP rfl rfl rfl Pb)),_,_,rfl,?_,?_⟩<;>split<;>omega)
     refine⟨_,_,rfl,(bR (jh t1 t2)).trans ((cW (c0 ((pk (d:=(j.ms.findIdx (·==x):al)) (au rfl rfl eK) (A4 (au rfl rfl eK) (aA rfl aR) ?_) .(e)).trans (by rw[kL])))).trans (e3.trans (by rw[h3]))),m3,_,_,rfl,r3⟩;show(iF _).bind _=_;rw[ur];exact qW hlt
    .rw[qL hm] at t2;exact⟨_,_,rfl,(bR (jh t1 t2)).trans rfl,m,_,_,rfl,q0,q1⟩)
 subst h2;exact⟨m2,bO (n:=6) (ds:=[aF bs ss js us ls ks h,eD E,.str x]) [oS .(a),oS (eD E),oS (.str x),ab,ab,ab,ab,ab,ab] rfl ((bq rfl).trans ((bY ((cW (c0 (au rfl rfl (ixL _ 4)))).trans e1)).trans ((bY ((cW (c0 (au rfl rfl (ixL _ 2)))).trans e2)).trans (bT rfl)))),r2⟩
end
structure BPlan (ss:ac StepT) (n:al) (B:ag) (P:bp):Prop where
 n:PlanN n P
 k:∀q∈P,q.1∈ss.map (·.nm)
 o:OnB ss P
 b:∀q∈P,0<=q.2.2/\q.2.2<=B
section
variable {bs:ac BenchT} {Q:bp} {B:ag}
theorem DN {o o':ar α} {P:α->Prop} (e:o=o') (h:Wp o' P):Wp o P:=e▸h
theorem vO (nd:(ss.map (·.nm)).Nodup) {s t:StepT} (hs:s∈ss) (ht:t∈ss) (e:s.nm=t.nm):s=t:=by
 induction ss with
 |nil=>cases hs
 |cons a l ih=>
  rw[qm,il] at nd;rcases cA.mp hs with rfl|hs'<;>rcases cA.mp ht with rfl|ht'
  .rfl
  .exact bz (a5.mpr ⟨t,ht',e.symm⟩) nd.1
  .exact bz (a5.mpr ⟨s,hs',e⟩) nd.1
  .exact ih nd.2 hs' ht'
theorem BPlan.put (g:Good bs ss js us ls ks h) (p:BPlan ss n B P) {s:StepT} (hs:s∈ss) {w:ah×ag} (hw:w∈s.ws) {st B':ag} (h0:0<=st) (h1:st<=B') (hB:B<=B'):BPlan ss (n+1) B' (pt P s.nm (w.1,st)) where
 n:=p.n.pt (g.s s hs).nm (g.bnn _ ((g.s s hs).ws w hw).1)
 k q hq:=(mU hq).elim (fun e=>by rw[e];exact a5.mpr ⟨s,hs,rfl⟩) (p.k q)
 o t ht q hq:=by
  rw[sV] at hq;split at hq
  .rename_i e;cases hq;have e:=vO g.sn ht hs e;subst e;rw[jz (g.s t ht).nd (show(w.1,w.2)∈t.ws from hw)];rfl
  .exact p.o t ht q hq
 b q hq:=(mU hq).elim (fun e=>by rw[e];exact⟨h0,h1⟩) fun m=>⟨(p.b q m).1,EY (p.b q m).2 hB⟩
noncomputable abbrev puE (P:bp) (L:D) (s:StepT) (m:ag) (a b c d:ar Slot):bf:=[oS (pD P),oS L,oS (bG s),oS (.int m),a,b,c,d]
theorem LO (g:Good bs ss js us ls ks h) (p:BPlan ss n B P) (hn:n<=50) {s:StepT} (hs:s∈ss) (m0:0<=m) (m1:m<=500000):Wp (tS [pD P,aF bs ss js us ls ks h,bG s,.int m]) fun d=>∃w st,d=pD (pt P s.nm (w,st))/\(∃l,(w,l)∈s.ws)/\0<=st/\st<=m+40:=by
 have gs:=g.s s hs;have hh:=g.hh;have hr:0<=m/\m<=1000000/\0<=(if m+40<h then m+40 else h)/\(if m+40<h then m+40 else h)<=1000000:=by refine⟨m0,by omega,?_⟩;split<;>omega
 have cp:∀{a b c d:ar Slot} {w:ah} {st:ag} {fb fs:FE} {R:FS},fb (puE P .(a) s m a b c (aa (.odk (tb pT P))))=aa (.str w)->fs (puE P .(a) s m a b c (aa (.odk (tb pT P))))=aa (.int st)->ax (nX 7 (vSh 0)) (ax (fD 7 (b2 ixD (vSh 2) .(c)) (bi (szF (ae fb (ae fs ak))))) (ja 7 R)) (puE P .(a) s m a b c d)=R (puE P .(a) s m a b c (oS (pD (pt P s.nm (w,st))))):=fun {a b c d w st fb fs R} e1 e2=>
  (bY (ρ1:=puE P .(a) s m a b c (aa (.odk (tb pT P)))) rfl).trans ((bY (nK (i:=7) (f:=pT) (l:=P) (x:=s.nm) (v:=(w,st)) rfl (gv e1 e2) (au rfl rfl cx) (by have:=p.n.ln;omega))).trans (tN rfl))
 refine Ka (NC (I:=fun ρ=>∃a b c d,ρ=puE P .(a) s m a b c d) (zY (fun ρ=>∃a b c d,ρ=puE P .(a) s m a b c d) _ (xs:=s.ws.map dW) (c0 (au rfl rfl iy)) ⟨ab,ab,ab,ab,rfl⟩ ?_) ?_)
 .rintro x hx ρ ⟨a,b,c,d,rfl⟩;obtain⟨w,hw,rfl⟩:=a5.mp hx;refine⟨_,rfl,?_⟩;refine(zY (fun ρ=>∃c d,ρ=puE P .(a) s m (oS (.str w.1)) (oS (.int w.2)) c d) (fun d=>∃w st,d=pD (pt P s.nm (w,st))/\(∃l,(w,l)∈s.ws)/\0<=st/\st<=m+40) (lv (aA rfl (aA (a4 (aA (au rfl rfl (ixL _ 6)) (aA .(P) aR)) rfl) aR)) (wn hr)) ⟨c,d,rfl⟩ ?_).imp fun r k=>k.imp (fun⟨e,c,d,q⟩=>⟨e,_,_,c,d,q⟩) id;rintro y hy ρ ⟨c,d,rfl⟩;obtain⟨k,hk,rfl⟩:=a5.mp hy;rw[dX] at hk;have hst:m+(k:ag)<=m+40:=by split at hk<;>omega
  refine⟨_,rfl,?_⟩;have p':=p.put g hs hw (st:=m+k) (B':=max B (m+40)) .(e) .(e) .(e);obtain⟨b,eb⟩:=Gf g p'.n .(e) p'.o p'.k (s:=s) (iL.mpr ⟨hs,by rw[sV,qW rfl];rfl⟩);refine DN (cp (a:=oS (.str w.1)) (b:=oS (.int w.2)) (c:=oS (.int (m+k))) (d:=d) (w:=w.1) (st:=m+k) rfl rfl) ?_;refine Kw (N1 (aX (a4 (aA rfl (aA rfl (aA (au rfl rfl cx) aR))) eb)) ?_);cases b with
  |false=>exact⟨_,rfl,.inl ⟨rfl,_,_,rfl⟩⟩
  |true=>exact⟨_,rfl,.inr ⟨_,rfl,w.1,_,rfl,⟨w.2,hw⟩,by omega,hst⟩⟩
 .rintro ρ ⟨a,b,c,d,rfl⟩;obtain⟨w,l,hwl⟩:∃w l,s.ws=w::l:=List.exists_cons_of_length_pos gs.l1;refine DN (cp (w:=w.1) (st:=m) (au (au (au rfl rfl iy) rfl ((ixL _ 0).trans (by rw[hwl];rfl))) rfl (cx (x0:=.str w.1) (r:=[.int w.2]))) rfl) ?_;exact⟨_,rfl,_,rfl,w.1,m,rfl,⟨w.2,by rw[hwl];exact .head _⟩,m0,by omega⟩
end
section
variable {bs:ac BenchT} {Q:bp} {B:ag}
theorem NS (g:Good bs ss js us ls ks h) (hb:∀q∈P,0<=q.2.2/\q.2.2<=B) {k:ah} {x:ag} (hk:lk (bS ss P) k=aa x):0<=x/\x<=B+h:=by obtain⟨s,hs,e⟩:=ro.mp (kP hk);unfold fP at e;obtain⟨q,hq,e⟩:=oBd e;obtain⟨l,hl,e⟩:=oMd e;cases e;have:=hb _ (kP hq);have:=((g.s s hs).ws _ (kP hl)).2;dsimp only at *;omega
end
theorem O5 {l:ac ag} {lo:ar ag} :(dO l lo hi).length<=l.length:=by unfold dO;rw[qC,iQ];omega
theorem vx {s t:StepT}:∀{ss:ac StepT},s∈ss->t∈ss->s≠t->(s,t)∈prS ss\/(t,s)∈prS ss
 |a::r,hs,ht,ne=>by
  unfold prS;rcases cA.mp hs with rfl|hs'<;>rcases cA.mp ht with rfl|ht'
  .exact bz rfl ne
  .exact .inl (cR.mpr (.inl (a5.mpr ⟨t,ht',rfl⟩)))
  .exact .inr (cR.mpr (.inl (a5.mpr ⟨s,hs',rfl⟩)))
  .exact(vx hs' ht' ne).imp (fun q=>cR.mpr (.inr q)) (fun q=>cR.mpr (.inr q))
theorem vA:∀{ss:ac StepT} {p:StepT×StepT},(ss.map (·.nm)).Nodup->p∈prS ss->p.1.nm≠p.2.nm
 |a::r,p,nd,h=>by
  rw[qm,il] at nd;rcases cR.mp h with q|q
  .obtain⟨t,ht,rfl⟩:=a5.mp q;exact fun e=>nd.1 (by rw[show a.nm=t.nm from e];exact a5.mpr ⟨t,ht,rfl⟩)
  .exact vA nd.2 q
theorem zA {x y:ah}:∀{ms:ac ah},y∈ms->x∈ms.take (ms.findIdx (·==y))->(mkS x,mkS y)∈prS (ms.map mkS)
 |a::r,hy,hx=>by
  rw[Rx] at hx;rw[qm];unfold prS;cases e:a==y with
  |true=>rw[e] at hx;cases hx
  |false=>
   rw[e] at hx;have hya:y∈r:=by
    rcases cA.mp hy with z|z
    .rw[z] at e;simp at e
    .exact z
   rcases cA.mp (show x∈a::r.take (r.findIdx (·==y)) from hx) with z|z
   .rw[z];exact cR.mpr (.inl (a5.mpr ⟨mkS y,a5.mpr ⟨y,hya,rfl⟩,rfl⟩))
   .exact cR.mpr (.inr (zA hya z))
theorem B4:∀{ms:ac ah} {p:StepT×StepT},ms.Nodup->p∈prS (ms.map mkS)->p.1.nm∈ms.take (ms.findIdx (·==p.2.nm))
 |a::r,p,nd,h=>by
  rw[il] at nd;have m2:p.2.nm∈r:=by
   rcases cR.mp h with q|q
   .obtain⟨t,ht,rfl⟩:=a5.mp q;obtain⟨z,hz,rfl⟩:=a5.mp ht;exact hz
   .obtain⟨z,hz,e⟩:=a5.mp (jd q).2;rw[←e];exact hz
  have e:(a==p.2.nm)=ao:=by rw[lG];exact fun z=>nd.1 (z▸m2)
  rw[Rx,e];show p.1.nm∈a::r.take (r.findIdx (·==p.2.nm));rcases cR.mp h with q|q
  .obtain⟨t,ht,rfl⟩:=a5.mp q;exact .head _
  .exact .tail _ (B4 nd.2 q)
theorem Pa {bad:α->aN} (l:ac α):(l.findSome? fun a=>if bad a=ai then aa (D.bl ao) else ab)=if l.any bad=ai then aa (.bl ao) else ab:=by
 rw[kN];cases e:l.find? bad with
 |none=>
  rw[oP] at e;rw[qX fun z=>by obtain⟨x,hx,px⟩:=ip.mp z;exact e x hx px]
  rfl
 |some x=>rw[qW (ip.mpr ⟨x,uT e,yU e⟩)];rfl
noncomputable abbrev flB (b:aN):Fl:=flO (if b=ai then aa (.bl ao) else ab)
theorem mB {A B:FS} {b c:aN} (h:A ρ=aa (flB b,ρ1)) (h2:∃ρ2,B ρ1=aa (.rt (.bl c),ρ2)):∃ρ',ax A B ρ=aa (.rt (.bl (!b && c)),ρ'):=by
 cases b with
 |true=>exact⟨ρ1,vZ h⟩
 |false=>
  obtain⟨ρ2,h2⟩:=h2;exact⟨ρ2,(bY h).trans h2⟩
theorem ly {d:α->D} {bad:α->aN} (I:bf->Prop) (as:ac α) (ρ:bf) (hs:∀a∈as,∀ρ,I ρ->∃ρ1 ρ2,gg (d a) ρ=aa ρ1/\body ρ1=aa (flB (bad a),ρ2)/\I ρ2) (h:I ρ):∃ρ',dB gg body (as.map d) ρ=aa (flB (as.any bad),ρ')/\I ρ':=by obtain⟨ρ',e,h'⟩:=ot (v:=fun a=>if bad a=ai then aa (.bl ao) else ab) I as ρ hs h;rw[Pa] at e;exact⟨ρ',e,h'⟩
theorem oh {A:FT} {a b:aN} (hA:A ρ=aa a) (hB:B ρ=aa b):cm A B ρ=aa (a && b):=by
 cases a with
 |true=>exact jh hA hB
 |false=>exact kR hA
theorem ifF {b:aN} (h:ft ρ=aa b):sIf ft .(k) aH ρ=aa (flB b,ρ):=by refine(bR h).trans ?_;cases b<;>rfl
theorem zG {A:FS} {b c:aN} (h:ft ρ=aa b) (hA:b=ai->A ρ=aa (flB c,ρ1)):sIf ft A aH ρ=aa (flB (b && c),if b=ai then ρ1 else ρ):=by
 refine(bR h).trans ?_;cases b with
 |true=>exact hA rfl
 |false=>rfl
section
variable {bs:ac BenchT} {Q:bp}
noncomputable abbrev wtE (P:bp) (E:ac (ah×ag)) (L:D) (x:ah) (a b c d e:ar Slot):bf:=[oS (pD P),oS (eD E),oS L,oS (.str x),oS (.str (bnt P x)),oS (.int (stt P x)),a,b,c,d]
noncomputable def kdN (ss:ac StepT) (x:ah):ah:=((ss.find? fun s=>decide (s.nm=x)).getD (mkS x)).kd
theorem nu (nd:(ss.map (·.nm)).Nodup) {s:StepT} (hs:s∈ss):kdN ss s.nm=s.kd:=by
 unfold kdN;cases e:ss.find? fun t=>decide (t.nm=s.nm) with
 |none=>exact bz (qQ rfl) (oP.mp e s hs)
 |some t=>exact cI StepT.kd (vO nd (uT e) hs (eU (yU (p:=fun t:StepT=>decide (t.nm=s.nm)) e)))
noncomputable def w1B (ss:ac StepT) (us:ac SetT) (P:bp) (E:ac (ah×ag)) (x:ah) (q:ah×ah×ag):aN:=!decide (q.1=x) && (decide (q.2.1=bnt P x) && decide (q.2.2<stt P x)) && decide (stt P x<ent E q.1+suN us (bnt P x) (kdN ss q.1) (kdN ss x))
noncomputable def w2B (P:bp) (E:ac (ah×ag)) (x:ah) (l:LinkT):aN:=decide (l.b=x) && decide (stt P x<ent E l.a+l.g)
noncomputable def w3B (P:bp) (E:ac (ah×ag)) (x:ah) (j:JobT):aN:=j.od && decide (x∈j.ms) && (j.ms.take (j.ms.findIdx (·==x))).any fun y=>decide (stt P x<ent E y)
noncomputable def wtB (ss:ac StepT) (js:ac JobT) (us:ac SetT) (ls:ac LinkT) (P:bp) (E:ac (ah×ag)) (x:ah):aN:=!P.any (w1B ss us P E x) && (!ls.any (w2B P E x) && (!js.any (w3B P E x) && ai))
structure Full (ss:ac StepT) (P:bp):Prop where
 nd:(P.map (·.1)).Nodup
 k:∀q∈P,q.1∈ss.map (·.nm)
 a:∀s∈ss,(lk P s.nm).isSome=ai
theorem Fa (g:Good bs ss js us ls ks h) (T:Tld ss P E) (f:Full ss P) {s:StepT} (hs:s∈ss) (hn:ba (bnt P s.nm)=ai):ug [pD P,eD E,aF bs ss js us ls ks h,.str s.nm]=aa (.bl (wtB ss js us ls P E s.nm)):=by
 have hsn:=(g.s s hs).nm;obtain⟨ρ1,e1,a1,b1,c1,d1,rfl⟩:=ly (gg:=ay 6) (body:=.(ag)) (d:=fun q:ah×ah×ag=>D.str q.1) (bad:=w1B ss us P E s.nm)
  (fun ρ=>∃a b c d,ρ=wtE P E .(a) s.nm a b c d ab) P (wtE P E .(a) s.nm ab ab ab ab ab) (fun q hq ρ=>by
   rintro⟨a,b,c,d,rfl⟩;obtain⟨t,ht,en⟩:=a5.mp (f.k q hq);have hq':lk P q.1=aa q.2:=jz f.nd hq;have ew:mK [aF bs ss js us ls ks h,.str (bnt P s.nm),.str q.1,.str s.nm]=aa (.int (suN us (bnt P s.nm) (kdN ss q.1) (kdN ss s.nm))):=by rw[←en,nu g.sn ht,nu g.sn hs];exact AZ g ht hs hn
   refine⟨_,_,rfl,(zG (b:=!decide (q.1=s.nm) && (decide (q.2.1=bnt P s.nm) && decide (q.2.2<stt P s.nm))) (oh (aX (au rfl rfl (vL _ _))) (oh (aX (au (au (au rfl rfl (cC hq')) rfl cx) rfl (pf _ _))) (aX (au (au (au rfl rfl (cC hq')) rfl cy) rfl rfl)))) fun _=>ifF (b:=decide (stt P s.nm<ent E q.1+suN us (bnt P s.nm) (kdN ss q.1) (kdN ss s.nm))) (aX (au rfl (au (au rfl rfl (dN (T.geN (f.k q hq)))) (a4 (aA rfl (aA rfl .(q))) ew) rfl) rfl))).trans ?_,oS (.str q.1),b,c,d,rfl⟩;rw[ite_self];rfl) ⟨_,_,_,_,rfl⟩
 obtain⟨ρ2,e2,a2,b2',c2,d2,rfl⟩:=ly (gg:=bN 3 (aI (ay 7) (aI (ay 6) (aI (ay 8) bM)))) (body:=(sIf (cm (toB (b2 eqA (vSh 6) (vSh 3))) (toB (b2 ltD (vSh 5) (b2 aV (b2 aO (vSh 1) (vSh 7)) (vSh 8))))) .(k) aH)) (d:=cX) (bad:=w2B P E s.nm)
  (fun ρ=>∃a b c d,ρ=wtE P E .(a) s.nm a b c d ab) ls (wtE P E .(a) s.nm a1 b1 c1 d1 ab) (fun l hl ρ=>by rintro⟨a,b,c,d,rfl⟩;exact⟨_,_,rfl,ifF (oh (aX (au rfl rfl (pf _ _))) (aX (au rfl (au (au rfl rfl (dN (T.geN (g.l l hl).a))) rfl rfl) rfl))),oS (.str l.b),oS (.str l.a),oS (.int l.g),d,rfl⟩) ⟨_,_,_,_,rfl⟩
 obtain⟨ρ3,e3,a3,b3,c3,d3,rfl⟩:=ly (gg:=ay 9) (body:=(sIf (cm (toB (b2 ixD (vSh 9) .(i))) (toB (b2 dz (vSh 3) (b2 ixD (vSh 9) .(j))))) (bC (itF (slF (b2 ixD (vSh 9) .(j)) pN (pS (mF mf (b2 ixD (vSh 9) .(j)) .(U))))) (ay 7) (sIf (toB (b2 ltD (vSh 5) (b2 aO (vSh 1) (vSh 7)))) .(k) aH)) aH)) (d:=aW) (bad:=w3B P E s.nm)
  (fun ρ=>∃a b c d,ρ=wtE P E .(a) s.nm a b c d ab) js (wtE P E .(a) s.nm a2 b2' c2 d2 ab) (fun j hj ρ=>by
   rintro⟨a,b,c,d,rfl⟩;have gj:=g.j j hj;obtain⟨ρ4,e4,b4,rfl⟩:=ly (gg:=ay 7) (body:=(sIf (toB (b2 ltD (vSh 5) (b2 aO (vSh 1) (vSh 7)))) .(k) aH)) (d:=D.str) (bad:=fun y=>decide (stt P s.nm<ent E y))
    (fun ρ=>∃b,ρ=wtE P E .(a) s.nm a b c (oS (aW j)) ab) (j.ms.take (j.ms.findIdx (·==s.nm))) (wtE P E .(a) s.nm a b c (oS (aW j)) ab) (fun y hy ρ=>by rintro⟨b,rfl⟩;exact⟨_,_,rfl,ifF (aX (au rfl (au rfl rfl (dN (T.geN (gj.ms y (nh hy))))) rfl)),oS (.str y),rfl⟩) ⟨_,rfl⟩
   refine⟨_,_,rfl,zG (b:=j.od && decide (s.nm∈j.ms)) (ρ1:=wtE P E .(a) s.nm a b4 c (oS (aW j)) ab) (oh (aX (au rfl rfl jr)) (aX (au rfl (au rfl rfl eK) (j7 hsn fun y hy=>g.snn y (gj.ms y hy))))) fun hb=>?_,?_⟩
   .have hm:s.nm∈j.ms:=eU ((cS ..).mp hb).2;have hlt:j.ms.findIdx (·==s.nm)<j.ms.length:=Rw ⟨s.nm,hm,by simp⟩;refine(cW (c0 ((pk (d:=(j.ms.findIdx (·==s.nm):al)) (au rfl rfl eK) (A4 (au rfl rfl eK) (aA rfl aR) ?_) .(e)).trans (by rw[kL,←u5])))).trans e4;show(iF _).bind _=_;rw[ur];exact qW hlt
   .split<;>exact⟨_,_,_,_,rfl⟩) ⟨_,_,_,_,rfl⟩
 have i1:itF (b2 ixD (vSh 2) .(j)) (wtE P E .(a) s.nm a1 b1 c1 d1 ab)=aa (ls.map cX):=c0 (au rfl rfl (ixL _ 4));have i2:itF (b2 ixD (vSh 2) .(l)) (wtE P E .(a) s.nm a2 b2' c2 d2 ab)=aa (js.map aW):=c0 (au rfl rfl (ixL _ 2));have i0:itK (vSh 0) (wtE P E .(a) s.nm ab ab ab ab ab)=aa (P.map fun q=>D.str q.1):=p8;obtain⟨ρ',e⟩:=mB ((cW i0).trans e1) (mB ((cW i1).trans e2) (mB ((cW i2).trans e3) ⟨_,bT (f:=vC (.bl ai)) rfl⟩));refine bO (n:=6) (ρ':=ρ') (ds:=[pD P,eD E,aF bs ss js us ls ks h,.str s.nm]) [oS (pD P),oS (eD E),oS .(a),oS .(z),ab,ab,ab,ab,ab,ab] rfl ((bY (xC (d:=pT (bnt P s.nm,stt P s.nm)) (au rfl rfl (cC (T.gp hs))) rfl)).trans e)
end
section
variable {bs:ac BenchT} {Q:bp}
noncomputable abbrev skE (P:bp) (E:ac (ah×ag)) (L:D) (m:ag) (a b c d e f:ar Slot):bf:=[oS (pD P),oS (eD E),oS L,oS (.int m),a,b,c,d,e,f]
theorem GI (g:Good bs ss js us ls ks h) (T:Tld ss P E) (m:ag):tU [pD P,eD E,aF bs ss js us ls ks h,.int m]=aa (.bl (!ks.any fun k=>eP P E k m)):=by
 obtain⟨ρ1,e1,a,b,c,d,e,f,rfl⟩:=ly (gg:=bN 5 (aI (ay 4) (aI (ay 5) (aI (ay 6) (aI (ay 7) (aI (ay 8) bM)))))) (body:=.(F)) (d:=cL) (bad:=fun k=>eP P E k m)
  (fun ρ=>∃a b c d e f,ρ=skE P E .(a) m a b c d e f) ks (skE P E .(a) m ab ab ab ab ab ab) (fun k hk ρ=>by
   rintro⟨a,b,c,d,e,f,rfl⟩;have gk:=g.k k hk;have l1:=gk.tk.ln;have l2:=gk.pt.ln;have l3:=g.sl.2;rw[qf] at l1 l2;refine⟨_,_,rfl,(bq (d:=.int (k.lo-amt (stt P) m k.tk)) (au rfl (um (f:=fun w:ah×ag=>w.2) (l:=k.tk.filter fun w=>decide (stt P w.1<=m)) (me (xs:=k.tk.map dW) rfl (by rw[qf];omega) rfl (ny (d:=dW) (fun ρ=>∃a b,ρ=[a,b,oS (.int m),oS (pD P)]) k.tk _ (fun w hw ρ hI=>by obtain⟨a,b,rfl⟩:=hI;exact⟨_,rfl,aX (au (au (au rfl rfl (cC (T.gpN (gk.tk.ws w hw).1))) rfl cy) rfl rfl),fun _=>rfl,_,_,rfl⟩) ⟨_,_,rfl⟩))) rfl)).trans
    ((bq (d:=.int (lvl P E k m)) (au rfl (um (f:=fun w:ah×ag=>w.2) (l:=k.pt.filter fun w=>decide (ent E w.1<=m)) (me (xs:=k.pt.map dW) rfl (by rw[qf];omega) rfl (ny (d:=dW) (fun ρ=>∃a b,ρ=[a,b,oS (.int m),oS (eD E)]) k.pt _ (fun w hw ρ hI=>by obtain⟨a,b,rfl⟩:=hI;exact⟨_,rfl,aX (au (au rfl rfl (dN (T.geN (gk.pt.ws w hw).1))) rfl rfl),fun _=>rfl,_,_,rfl⟩) ⟨_,_,rfl⟩))) rfl)).trans ((ifF (lh (aX .(P)) (aX .(P)))).trans ?_)),oS (.str k.nm),oS (.int k.lo),oS (.int k.hi),oS (.lst (k.tk.map dW)),oS (.lst (k.pt.map dW)),oS (.int (lvl P E k m)),rfl⟩
   have e:(decide (lvl P E k m<0) || decide (k.hi<lvl P E k m))=eP P E k m:=by unfold eP;rw[Bool.not_and,←zg,←zg,o0.mpr (zh (a:=0) (b:=lvl P E k m)),o0.mpr (zh (a:=lvl P E k m) (b:=k.hi))]
   rw[e];rfl) ⟨_,_,_,_,_,_,rfl⟩
 have i1:itF (b2 ixD (vSh 2) (vC (.int 5))) (skE P E .(a) m ab ab ab ab ab ab)=aa (ks.map cL):=c0 (au rfl rfl (ixL _ 5));obtain⟨ρ',e2⟩:=mB ((cW i1).trans e1) ⟨_,bT (f:=vC (.bl ai)) rfl⟩;rw[oT] at e2;exact bO (n:=6) (ρ':=ρ') (ds:=[pD P,eD E,aF bs ss js us ls ks h,.int m]) (skE P E .(a) m ab ab ab ab ab ab) rfl e2
noncomputable abbrev awE (P:bp) (E:ac (ah×ag)) (L:D) (m:ag) (Db Dj:ac (ah×ah)) (x:ar Slot) (a b c:ar Slot):bf:=[oS (pD P),oS (eD E),oS L,oS (.int m),aa (.odk (tb D.str Db)),aa (.odk (tb D.str Dj)),x,a,b,c]
noncomputable def jB (m:ag) (Dj:ac (ah×ah)) (j:JobT):aN:=(lk Dj j.nm).isSome || (decide (m<j.ea) || decide (j.du<=m))
noncomputable def tY (m:ag) (Dj:ac (ah×ah)):ar JobT->aN
 |none=>ao
 |some j=>jB m Dj j
noncomputable def pW (m:ag) (Dj:ac (ah×ah)) (x:ah):ar JobT->ac (ah×ah)
 |none=>Dj
 |some j=>if jB m Dj j=ai then Dj else pt Dj j.nm x
noncomputable def jbB:FS:=(sIf (toB (b2 dz (vSh 6) (b2 ixD (vSh 9) .(j)))) (ax (sIf (lx 5 .(ah)) .(k) aH) (fD 5 (b2 ixD (vSh 9) .(c)) (vSh 6))) aH)
theorem Af {l:ac (ah×ah)} {k:ah} :fz (.str k) (.dk (tb D.str l))=aa (.bl (lk l k).isSome):=by show aa (D.bl (cv (tb D.str l) (.inr k)).isSome)=_;rw[gI,oK]
theorem Cr {L:D} {m:ag} {Db Dj:ac (ah×ah)} {x:ah} {a b:ar Slot} (hx:ba x=ai) (hl:Dj.length<=1000):∀(js:ac JobT) (c:ar Slot),(∀j∈js,∀y∈j.ms,ba y=ai)->(js.flatMap (·.ms)).Nodup->∃c',dB (ay 9) jbB (js.map aW) (awE P E L m Db Dj (oS (.str x)) a b c)=aa (flB (tY m Dj (cU js x)),awE P E L m Db (pW m Dj x (cU js x)) (oS (.str x)) a b c')
 |[],c,_,_=>⟨c,rfl⟩
 |j::js,c,hn,nd=>by
  rw[u4,iV] at nd;have t:toB (b2 dz (vSh 6) (b2 ixD (vSh 9) .(j))) .(J)=aa (decide (x∈j.ms)):=aX (au rfl (au rfl rfl eK) (j7 hx (hn j (.head _))));unfold cU;rw[dL];by_cases hm:x∈j.ms
  .rw[qQ hm] at t ⊢;have t2:lx 5 .(ah) .(J)=aa (jB m Dj j):=lh (aX (au (au rfl rfl cx) rfl Af)) (lh (aX (au rfl (au rfl rfl cy) rfl)) (aX (au rfl (au rfl rfl iy) rfl)));have no:cU js x=ab:=oP.mpr fun y hy z=>nd.2.2 x hm x (u6.mpr ⟨y,hy,eU z⟩) rfl;rw[qm];unfold dB;rw[show ay 9 (aW j) (awE P E L m Db Dj (oS (.str x)) a b c)=aa .(J) from rfl,qb];unfold tY pW;dsimp only;cases hb:jB m Dj j with
   |true=>
    rw[hb] at t2;rw[show jbB .(J)=_ from(bR t).trans (jZ t2 rfl)];exact⟨_,rfl⟩
   |false=>
    rw[hb] at t2;rw[show jbB .(J)=aa (.nx,awE P E L m Db (pt Dj j.nm x) (oS (.str x)) a b (oS (aW j))) from(bR t).trans ((fF t2).trans (nK (i:=5) (f:=D.str) rfl rfl (au rfl rfl cx) .(e)))];obtain⟨c',e⟩:=jl_skip js (oS (aW j)) (fun j hj=>hn j (.tail _ hj)) fun y hy z=>nd.2.2 x hm x (u6.mpr ⟨y,hy,z⟩) rfl;exact⟨c',e⟩
  .rw[qL hm] at t ⊢;obtain⟨c',e⟩:=Cr hx hl js (oS (aW j)) (fun j hj=>hn j (.tail _ hj)) nd.2.1;refine⟨c',Ey ?_ e⟩;rw[qm]
   conv=>lhs;unfold dB
   rw[show ay 9 (aW j) (awE P E L m Db Dj (oS (.str x)) a b c)=aa .(J) from rfl,qb,show jbB .(J)=aa (.nx,awE P E L m Db Dj (oS (.str x)) a b (oS (aW j))) from(bR t).trans rfl];rfl
where
 jl_skip {Dj:ac (ah×ah)}:∀(js:ac JobT) (c:ar Slot),(∀j∈js,∀y∈j.ms,ba y=ai)->(∀j∈js,x∉j.ms)->∃c',dB (ay 9) jbB (js.map aW) (awE P E L m Db Dj (oS (.str x)) a b c)=aa (.nx,awE P E L m Db Dj (oS (.str x)) a b c')
  |[],c,_,_=>⟨c,rfl⟩
  |j::js,c,hn,no=>by
   have t:toB (b2 dz (vSh 6) (b2 ixD (vSh 9) .(j))) .(J)=aa (decide (x∈j.ms)):=aX (au rfl (au rfl rfl eK) (j7 hx (hn j (.head _))));rw[qL (no j (.head _))] at t;obtain⟨c',e⟩:=jl_skip js (oS (aW j)) (fun j hj=>hn j (.tail _ hj)) fun j hj=>no j (.tail _ hj);refine⟨c',Ey ?_ e⟩;rw[qm]
   conv=>lhs;unfold dB
   rw[show ay 9 (aW j) (awE P E L m Db Dj (oS (.str x)) a b c)=aa .(J) from rfl,qb,show jbB .(J)=aa (.nx,awE P E L m Db Dj (oS (.str x)) a b (oS (aW j))) from(bR t).trans rfl];rfl
end
theorem L9 {d:α->D} {as:ac α} (bad:al->aN) (I:al->bf->Prop) (hs:∀i a ρ,as[i]?=aa a->I i ρ->∃ρ1 ρ2,gg (d a) ρ=aa ρ1/\body ρ1=aa (flB (bad i),ρ2)/\(bad i=ao->I (i+1) ρ2)) (h0:I 0 ρ):∃ρ' b,dB gg body (as.map d) ρ=aa (flB b,ρ')/\(b=ai↔∃i,i<as.length/\bad i=ai):=by
 have key:∀(n i:al) (ρ:bf),i+n=as.length->I i ρ->∃ρ' b,dB gg body ((as.drop i).map d) ρ=aa (flB b,ρ')/\(b=ai↔∃j,i<=j/\j<as.length/\bad j=ai):=by
  intro n
  induction n with
  |zero=>
   intro i ρ hi _;rw[List.drop_eq_nil_of_le .(e)];exact⟨ρ,ao,rfl,⟨(fun z=>by cases z),(fun⟨j,h1,h2,_⟩=>by omega)⟩⟩
  |succ n ih=>
   intro i ρ hi hI;have hx:as[i]?=aa as[i]:=qB .(e);obtain⟨ρ1,ρ2,e1,e2,e3⟩:=hs i as[i] ρ hx hI;rw[B2 hx,qm];unfold dB;rw[e1,qb,e2,qb];cases hb:bad i with
   |true=>exact⟨ρ2,ai,rfl,⟨fun _=>⟨i,qv _,by omega,hb⟩,fun _=>rfl⟩⟩
   |false=>
    obtain⟨ρ',b,q1,q2⟩:=ih (i+1) ρ2 .(e) (e3 hb);refine⟨ρ',b,q1,q2.trans ⟨fun⟨j,h1,h2,h3⟩=>⟨j,by omega,h2,h3⟩,fun⟨j,h1,h2,h3⟩=>⟨j,?_,h2,h3⟩⟩⟩;rcases Nat.eq_or_lt_of_le h1 with z|z
    .rw[←z,hb] at h3;cases h3
    .exact z
 obtain⟨ρ',b,e,k⟩:=key as.length 0 ρ .(e) h0;exact⟨ρ',b,e,k.trans ⟨fun⟨j,_,h2,h3⟩=>⟨j,h2,h3⟩,fun⟨j,h2,h3⟩=>⟨j,gV _,h2,h3⟩⟩⟩
section
variable {bs:ac BenchT} {Q:bp}
noncomputable def atw (E:ac (ah×ag)) (m:ag) (q:ah×ah×ag):aN:=decide (q.2.2<=m) && decide (m<ent E q.1)
noncomputable def bkA (bs:ac BenchT) (m:ag) (q:ah×ah×ag):aN:=(brs bs q.2.1).any fun iv=>decide (iv.1<=m) && decide (m<iv.2)
noncomputable def bnA (E:ac (ah×ag)) (m:ag) (R:bp) (b:ah):aN:=R.any fun q=>atw E m q && decide (q.2.1=b)
noncomputable def jbA (E:ac (ah×ag)) (m:ag) (R:bp) (j:JobT):aN:=R.any fun q=>atw E m q && decide (q.1∈j.ms)
noncomputable def jb1 (E:ac (ah×ag)) (m:ag) (R:bp):ar JobT->aN
 |none=>ao
 |some j=>jbA E m R j || (decide (m<j.ea) || decide (j.du<=m))
noncomputable def awB (bs:ac BenchT) (js:ac JobT) (E:ac (ah×ag)) (m:ag) (R:bp) (q:ah×ah×ag):aN:=atw E m q && (bkA bs m q || (bnA E m R q.2.1 || jb1 E m R (cU js q.1)))
theorem tj {l:ac (ah×α)} {k j:ah} {v:α} :(lk (pt l k v) j).isSome=((lk l j).isSome || decide (k=j)):=by
 rw[sV];by_cases e:j=k
 .rw[qW e,qQ e.symm,EZ];rfl
 .rw[qX e,qL (df e),rG]
theorem mL:∀{js:ac JobT},(js.flatMap (·.ms)).Nodup->∀{j:JobT} {x:ah},j∈js->x∈j.ms->cU js x=aa j
 |a::r,nd,j,x,hj,hx=>by
  rw[u4,iV] at nd;unfold cU;rw[dL];rcases cA.mp hj with rfl|hj
  .rw[qQ hx]
  .rw[qL fun z=>nd.2.2 x z x (u6.mpr ⟨j,hj,hx⟩) rfl];exact mL nd.2.1 hj hx
theorem AF:∀{js:ac JobT},(js.map (·.nm)).Nodup->∀{i j:JobT},i∈js->j∈js->i.nm=j.nm->i=j
 |a::l,nd,i,j,hi,hj,e=>by
  rw[qm,il] at nd;rcases cA.mp hi with rfl|hi'<;>rcases cA.mp hj with rfl|hj'
  .rfl
  .exact bz (a5.mpr ⟨j,hj',e.symm⟩) nd.1
  .exact bz (a5.mpr ⟨i,hi',e⟩) nd.1
  .exact AF nd.2 hi' hj' e
theorem sC {l:ac α} {x:α} {p:α->aN} (h:l[i]?=aa x):(l.take (i+1)).any p=((l.take i).any p || p x):=by
 rw[nk,h,List.any_append]
 congr 1
 exact rG _
structure AwI (js:ac JobT) (P:bp) (E:ac (ah×ag)) (m:ag) (i:al) (Db Dj:ac (ah×ah)):Prop where
 b:∀k,(lk Db k).isSome=bnA E m (P.take i) k
 j:∀j∈js,(lk Dj j.nm).isSome=jbA E m (P.take i) j
 lb:Db.length<=i
 lj:Dj.length<=i
theorem AwI.go (g:Good bs ss js us ls ks h) (I:AwI js P E m i Db Dj) {q:ah×ah×ag} (hq:P[i]?=aa q) (ha:atw E m q=ai) (hj:tY m Dj (cU js q.1)=ao):AwI js P E m (i+1) (pt Db q.2.1 q.1) (pW m Dj q.1 (cU js q.1)) where
 b k:=by unfold bnA;rw[tj,I.b,sC hq,ha,ir];rfl
 j j hjm:=by
  unfold jbA;rw[sC hq,ha,ir];cases e:cU js q.1 with
  |none=>
   show(lk Dj j.nm).isSome=_;rw[I.j j hjm,qL (fun z=>by rw[mL g.jm hjm z] at e;cases e),rG];rfl
  |some j0=>
   rw[e] at hj;have hj:jB m Dj j0=ao:=hj;unfold pW;dsimp only;rw[hj,qX qr,tj,I.j j hjm];unfold jbA
   congr 1
   obtain⟨m0,x0⟩:=o8 e;refine o0.mpr ⟨fun z=>?_,fun z=>?_⟩
   .rw[←AF g.jn m0 hjm z];exact x0
   .rw[mL g.jm hjm z] at e;rw[qF e]
 lb:=by have:=I.lb;have:=wF (l:=Db) (k:=q.2.1) (v:=q.1);omega
 lj:=by
  have:=I.lj;unfold pW;split
  .omega
  .split
   .omega
   .rename_i j0 _ _;have:=wF (l:=Dj) (k:=j0.nm) (v:=q.1);omega
theorem AwI.stay (I:AwI js P E m i Db Dj) {q:ah×ah×ag} (hq:P[i]?=aa q) (ha:atw E m q=ao):AwI js P E m (i+1) Db Dj where
 b k:=by unfold bnA;rw[sC hq,ha,D5,rG];exact I.b k
 j j hj:=by unfold jbA;rw[sC hq,ha,D5,rG];exact I.j j hj
 lb:=by have:=I.lb;omega
 lj:=by have:=I.lj;omega
theorem AwI.bad (I:AwI js P E m i Db Dj) :tY m Dj (cU js x)=jb1 E m (P.take i) (cU js x):=by
 cases e:cU js x with
 |none=>rfl
 |some j=>
  show((lk Dj j.nm).isSome || _)=(jbA E m (P.take i) j || _);rw[I.j j (o8 e).1]
noncomputable def awW:FS:=(ax (bC (itF (b2 aO (cF fT (ae (b2 ixD (vSh 2) .(c)) ak)) (b2 ixD (b2 aO (vSh 0) (vSh 6)) .(c)))) (bN 2 (aI (ay 7) (aI (ay 8) bM))) (sIf (cm (toB (b2 leD (vSh 7) (vSh 3))) (toB (b2 ltD (vSh 3) (vSh 8)))) .(k) aH)) (ax (sIf (lx 4 (toB (b2 fz (b2 ixD (b2 aO (vSh 0) (vSh 6)) .(c)) (vSh 4)))) .(k) aH) (ax (fD 4 (b2 ixD (b2 aO (vSh 0) (vSh 6)) .(c)) (vSh 6)) (bC (itF (b2 ixD (vSh 2) .(l))) (ay 9) jbB))))
theorem CM {A B:FS} {b c:aN} {Q:bf->Prop} (h:A ρ=aa (flB b,ρ1)) (h2:b=ao->∃ρ2,B ρ1=aa (flB c,ρ2)/\(c=ao->Q ρ2)):∃ρ',ax A B ρ=aa (flB (b || c),ρ')/\((b || c)=ao->Q ρ'):=by
 cases b with
 |true=>exact⟨ρ1,vZ h,fun z=>by cases z⟩
 |false=>
  obtain⟨ρ2,e,k⟩:=h2 rfl;exact⟨ρ2,(bY h).trans e,k⟩
theorem NB (g:Good bs ss js us ls ks h) (hi:i<=100) (I:AwI js P E m i Db Dj) {q:ah×ah×ag} (hq:P[i]?=aa q) (hq':lk P q.1=aa q.2) (hx:ba q.1=ai) {bn:BenchT} (hb:bn∈bs) (hbq:bn.nm=q.2.1) (ha:atw E m q=ai) (a b c:ar Slot) :
  ∃ρ',awW (awE P E .(a) m Db Dj (oS (.str q.1)) a b c)=aa (flB (bkA bs m q || (bnA E m (P.take i) q.2.1 || jb1 E m (P.take i) (cU js q.1))),ρ')/\((bkA bs m q || (bnA E m (P.take i) q.2.1 || jb1 E m (P.take i) (cU js q.1)))=ao->∃Db Dj x a b c,ρ'=awE P E .(a) m Db Dj x a b c/\AwI js P E m (i+1) Db Dj):=by
 obtain⟨ρ1,e1,a1,b1,rfl⟩:=ly (gg:=bN 2 (aI (ay 7) (aI (ay 8) bM))) (body:=(sIf (cm (toB (b2 leD (vSh 7) (vSh 3))) (toB (b2 ltD (vSh 3) (vSh 8)))) .(k) aH)) (d:=dIv) (bad:=fun iv:ag×ag=>decide (iv.1<=m) && decide (m<iv.2))
  (fun ρ=>∃a b,ρ=awE P E .(a) m Db Dj (oS (.str q.1)) a b c) bn.br (awE P E .(a) m Db Dj (oS (.str q.1)) a b c) (fun iv _ ρ=>by rintro⟨a,b,rfl⟩;exact⟨_,_,rfl,ifF (oh (aX .(P)) (aX .(P))),oS (.int iv.1),oS (.int iv.2),rfl⟩) ⟨_,_,rfl⟩
 have ebr:bkA bs m q=bn.br.any fun iv=>decide (iv.1<=m) && decide (m<iv.2):=by unfold bkA;rw[←hbq,ww g hb]
 rw[ebr];refine CM ((cW ?_).trans e1) fun _=>?_
 .refine c0 (au (a4 (aA (au rfl rfl (ixL _ 0)) aR) (Ax g)) (au (au rfl rfl (cC hq')) rfl cx) ?_);show(aa (cv (tb _ _) (.inr q.2.1))).bind id=_;rw[gI,←hbq,xO g hb];rfl
 have t2:lx 4 (toB (b2 fz (b2 ixD (b2 aO (vSh 0) (vSh 6)) .(c)) (vSh 4))) (awE P E .(a) m Db Dj (oS (.str q.1)) a1 b1 c)=aa (bnA E m (P.take i) q.2.1):=by rw[←I.b];exact aX (au (au (au rfl rfl (cC hq')) rfl cx) rfl Af)
 refine CM (ifF t2) fun _=>?_;obtain⟨c',e3⟩:=Cr (P:=P) (E:=E) (L:=aF bs ss js us ls ks h) (m:=m) (Db:=pt Db q.2.1 q.1) (Dj:=Dj) (a:=a1) (b:=b1) hx (by have:=I.lj;omega) js c (fun j hj y hy=>g.snn y ((g.j j hj).ms y hy)) g.jm;rw[←I.bad];refine⟨_,(bY (nK (i:=4) (f:=D.str) (l:=Db) (x:=q.2.1) (v:=q.1) rfl rfl (au (au rfl rfl (cC hq')) rfl cx) (by have:=I.lb;omega))).trans ((cW (c0 (au rfl rfl (ixL _ 2)))).trans e3),fun z=>⟨_,_,_,_,_,_,rfl,I.go g hq ha z⟩⟩
theorem FY (g:Good bs ss js us ls ks h) (T:Tld ss P E) (f:Full ss P) (hl:P.length<=100) (hB:∀s∈ss,∃b∈bs,b.nm=bnt P s.nm) (m:ag):∃b,pp [pD P,eD E,aF bs ss js us ls ks h,.int m]=aa (.bl (!b))/\(b=ai↔∃i q,P[i]?=aa q/\awB bs js E m (P.take i) q=ai):=by
 obtain⟨ρ',b,e1,k1⟩:=L9 (as:=P) (gg:=ay 6) (body:=sIf (cm (toB (b2 leD (b2 ixD (b2 aO (vSh 0) (vSh 6)) .(d)) (vSh 3))) (toB (b2 ltD (vSh 3) (b2 aO (vSh 1) (vSh 6))))) awW aH) (d:=fun q:ah×ah×ag=>D.str q.1) (ρ:=awE P E .(a) m [] [] ab ab ab ab) (fun i=>match P[i]? with
   |none=>ao
   |some q=>awB bs js E m (P.take i) q)
  (fun i ρ=>∃Db Dj x a b c,ρ=awE P E .(a) m Db Dj x a b c/\AwI js P E m i Db Dj) (fun i q ρ hq hI=>by
   obtain⟨Db,Dj,x,a,b,c,rfl,I⟩:=hI;have hqm:=qN hq;have hq':lk P q.1=aa q.2:=jz f.nd hqm;have hi:i<P.length:=(cY.mp hq).1;obtain⟨s,hs,en⟩:=a5.mp (f.k q hqm);obtain⟨bn,hbn,hbe⟩:=hB s hs;have hbq:bn.nm=q.2.1:=by rw[hbe,en];unfold bnt;rw[hq'];rfl
   have hxn:ba q.1=ai:=g.snn _ (f.k q hqm);have t:cm (toB (b2 leD (b2 ixD (b2 aO (vSh 0) (vSh 6)) .(d)) (vSh 3))) (toB (b2 ltD (vSh 3) (b2 aO (vSh 1) (vSh 6)))) (awE P E .(a) m Db Dj (oS (.str q.1)) a b c)=aa (atw E m q):=oh (aX (au (au (au rfl rfl (cC hq')) rfl cy) rfl rfl)) (aX (au rfl (au rfl rfl (dN (T.geN (f.k q hqm)))) rfl));rw[hq];dsimp only;unfold awB;cases ha:atw E m q with
   |false=>
    rw[ha] at t;exact⟨_,_,rfl,(bR t).trans rfl,fun _=>⟨_,_,_,_,_,_,rfl,I.stay hq ha⟩⟩
   |true=>
    rw[ha] at t;obtain⟨ρ',e,k⟩:=NB g .(e) I hq hq' hxn hbn hbq ha a b c;exact⟨_,ρ',rfl,(bR t).trans e,k⟩) ⟨[],[],_,_,_,_,rfl,⟨fun _=>rfl,fun _ _=>rfl,qv _,qv _⟩⟩
 have i1:itK (vSh 0) (awE P E .(a) m [] [] ab ab ab ab)=aa (P.map fun q=>D.str q.1):=p8;obtain⟨ρ2,e2⟩:=mB ((cW i1).trans e1) ⟨_,bT (f:=vC (.bl ai)) rfl⟩;rw[oT] at e2;refine⟨b,bO (n:=6) (ρ':=ρ2) (ds:=[pD P,eD E,aF bs ss js us ls ks h,.int m]) [oS (pD P),oS (eD E),oS .(a),oS (.int m),ab,ab,ab,ab,ab,ab] rfl ((bY (ρ1:=[oS (pD P),oS (eD E),oS .(a),oS (.int m),aa (.odk []),ab,ab,ab,ab,ab]) rfl).trans ((bY (ρ1:=awE P E .(a) m [] [] ab ab ab ab) rfl).trans e2)),k1.trans ⟨fun⟨i,hi,hb⟩=>?_,fun⟨i,q,hq,hb⟩=>⟨i,(cY.mp hq).1,by rw[hq];exact hb⟩⟩⟩;rw[qB hi] at hb;exact⟨i,_,qB hi,hb⟩
end
section
variable {bs:ac BenchT} {Q:bp}
structure Kep (bs:ac BenchT) (ss:ac StepT) (js:ac JobT) (us:ac SetT) (ls:ac LinkT) (ks:ac StockT) (h:ag) (P:bp) (E:ac (ah×ag)):Prop where
 w:∀s∈ss,0<=stt P s.nm/\ent E s.nm<=h
 j:∀s∈ss,∀j∈js,s.nm∈j.ms->j.ea<=stt P s.nm/\ent E s.nm<=j.du
 b:∀s∈ss,∀iv∈brs bs (bnt P s.nm),¬(stt P s.nm<iv.2/\iv.1<ent E s.nm)
 n:∀p∈prS ss,h9 us P E p=ao
 a:∀j∈js,∀p∈prS (j.ms.map mkS),apB P E j.od p=ao
 l:∀l∈ls,lkB P E l=ao
 k:∀k∈ks,∀m∈gJ P E k,eP P E k m=ao
theorem jv {b:aN} :(if b=ai then aa d else ab)=ab↔b=ao:=by cases b<;>simp
theorem Al (f:Fine bs ss P E) {s:StepT} (hs:s∈ss) (nd:(ss.map (·.nm)).Nodup):i9 h P s=ab↔0<=stt P s.nm/\ent E s.nm<=h:=by
 have hq:=f.t.gp hs;obtain⟨l,hl⟩:=gm.mp (f.o s hs _ hq);have he:ent E s.nm=stt P s.nm+l:=by have:=wY nd hs hq hl;unfold ent;rw[←f.e,this];rfl
 unfold i9;rw[hq];dsimp only;rw[show lk s.ws (bnt P s.nm)=aa l from hl];dsimp only;rw[he];constructor
 .intro z;split at z
  .cases z
  .omega
 .intro z;rw[qX .(e)]
theorem Dg (g:Good bs ss js us ls ks h) {st:ag} :gA js x st en=ao↔∀j∈js,x∈j.ms->j.ea<=st/\en<=j.du:=by
 unfold gA;cases e:cU js x with
 |none=>exact⟨(fun _ j hj hx=>by rw[mL g.jm hj hx] at e;cases e),fun _=>rfl⟩
 |some j=>
  obtain⟨hj,hx⟩:=o8 e;dsimp only;rw[oU];constructor
  .intro z i hi hxi;rw[mL g.jm hi hxi] at e;cases e;omega
  .intro z;have:=z j hj hx;omega
theorem Dn {st:ag} :hW br st en=ao↔∀iv∈br,¬(st<iv.2/\iv.1<en):=by unfold hW;rw[gD];refine forall_congr' fun iv=>forall_congr' fun _=>?_;rw[cS,dF,dF]
theorem zt {k:StockT} :skV P E k=ab↔∀m∈gJ P E k,eP P E k m=ao:=by
 unfold skV;rw[Ru,oP];constructor
 .intro z m hm;have:=z m (zV.mpr ((xJ _).mpr hm));cases e:eP P E k m with
  |false=>rfl
  |true=>exact bz e this
 .intro z m hm;rw[z m ((xJ _).mp (zV.mp hm))];exact qr
theorem JZ (g:Good bs ss js us ls ks h) (p:PlanOk P) (hl:ss.length<=20) (hs:gS ss P=ab) (o:OnB ss P):∃r,mo [aS bs ss js us ls ks h,pD P]=aa (r.getD .non)/\GO r/\(r=ab↔Kep bs ss js us ls ks h P (bS ss P)):=by
 have all:=Po hs;have e0:plc ss P=ss:=Ry.mpr all;have T:=tV g o;rw[e0] at T;have f:Fine bs ss P (bS ss P):=⟨T,rfl,o,fun s hs=>(nL g o (e0.symm▸hs)).1,fun s hs=>(nL g o (e0.symm▸hs)).2⟩;cases e:ss.findSome? (i9 h P) with
 |some t=>
  refine⟨aa t,ND g p (fun _=>all) (by rw[hs,e];rfl),e▸Bp g,⟨(fun z=>by cases z),fun kp=>?_⟩⟩;obtain⟨s,hs',es⟩:=Rr e;rw[(Al f hs' g.sn).mpr (kp.w s hs')] at es;cases es
 |none=>
  refine⟨_,MV g p hl f hs e,?_,?_⟩
  .rw[xU];exact(((((Br g).or (Dw g)).or (BJ g)).or (B3 g)).or (C4 g)).or (KL g)
  .rw[xU];simp only[Option.or_eq_none_iff,u7];rw[u7] at e;constructor
   .rintro⟨⟨⟨⟨⟨h1,h2⟩,h3⟩,h4⟩,h5⟩,h6⟩;exact⟨fun s hs=>(Al f hs g.sn).mp (e s hs),fun s hs=>(Dg g).mp (jv.mp (h1 s hs)),fun s hs=>Dn.mp (jv.mp (h2 s hs)),fun p hp=>jv.mp (h3 p hp),fun j hj p hp=>jv.mp (u7.mp (h4 j hj) p hp),fun l hl=>jv.mp (h5 l hl),fun k hk=>zt.mp (h6 k hk)⟩
   .intro kp;exact⟨⟨⟨⟨⟨fun s hs=>jv.mpr ((Dg g).mpr (kp.j s hs)),fun s hs=>jv.mpr (Dn.mpr (kp.b s hs))⟩,fun p hp=>jv.mpr (kp.n p hp)⟩,fun j hj=>u7.mpr fun p hp=>jv.mpr (kp.a j hj p hp)⟩,fun l hl=>jv.mpr (kp.l l hl)⟩,fun k hk=>zt.mpr (kp.k k hk)⟩
structure Goes (bs:ac BenchT) (ss:ac StepT) (js:ac JobT) (us:ac SetT) (ls:ac LinkT) (ks:ac StockT) (h:ag) (P:bp) (E:ac (ah×ag)):Prop where
 w:∀q∈P,0<=q.2.2/\ent E q.1<=h/\wtB ss js us ls P E q.1=ai
 m:∀m:ag,0<=m->m<=h->(∀i q,P[i]?=aa q->awB bs js E m (P.take i) q=ao)/\∀k∈ks,eP P E k m=ao
theorem sep (g:Good bs ss js us ls ks h) (f:Fine bs ss P E) (hn:∀p∈prS ss,h9 us P E p=ao) {s t:StepT} (hs:s∈ss) (ht:t∈ss) (ne:s≠t) (hb:bnt P s.nm=bnt P t.nm):(stt P s.nm<stt P t.nm->ent E s.nm+suN us (bnt P t.nm) s.kd t.kd<=stt P t.nm)/\stt P s.nm≠stt P t.nm:=by
 have hu:∀u∈us,0<=u.n:=fun u hu=>by have:=(g.u u hu).n;omega
 have p1:=f.p s hs;have p2:=f.p t ht;have u1:=rl hu (bnt P s.nm) s.kd t.kd;have u2:=rl hu (bnt P t.nm) t.kd s.kd;rcases vx hs ht ne with q|q
 .have:=hn _ q;unfold h9 j1 jc at this;dsimp only at this;rw[qQ hb,ir] at this;split at this
  .have:=rT this;rw[hb] at u1;constructor<;>omega
  .have:=rT this;rw[hb] at this u1;constructor<;>omega
 .have:=hn _ q;unfold h9 j1 jc at this;dsimp only at this;rw[qQ hb.symm,ir] at this;rw[hb] at u1;split at this
  .have:=rT this;constructor<;>omega
  .have:=rT this;constructor<;>omega
end
section
variable {bs:ac BenchT} {Q:bp}
noncomputable def eA (P:bp) (s:StepT):ah×ah×ag:=(s.nm,bnt P s.nm,stt P s.nm)
theorem kM (f:Full ss P) {s:StepT} (hs:s∈ss):eA P s∈P:=by
 obtain⟨q,hq⟩:=gm.mp (f.a s hs);have:eA P s=(s.nm,q):=by unfold eA bnt stt;rw[hq];rfl
 rw[this];exact kP hq
theorem nZ (f:Full ss P) {q:ah×ah×ag} (hq:q∈P):∃s∈ss,q=eA P s:=by obtain⟨s,hs,e⟩:=a5.mp (f.k q hq);have h2:lk P q.1=aa q.2:=jz f.nd hq;refine⟨s,hs,?_⟩;unfold eA bnt stt;rw[e,h2];rfl
theorem K6 {l:ac α} {q r:α} (hq:q∈l) (hr:r∈l) (ne:q≠r):(∃i,l[i]?=aa q/\r∈l.take i)\/∃i,l[i]?=aa r/\q∈l.take i:=by
 obtain⟨i,hi⟩:=nr hq;obtain⟨j,hj⟩:=nr hr;rcases EH i j with z|z|z
 .exact .inr ⟨j,hj,qN (i:=i) (by rw[oG z];exact hi)⟩
 .rw[z,hj] at hi;exact bz (qF hi).symm ne
 .exact .inl ⟨i,hi,qN (i:=j) (by rw[oG z];exact hj)⟩
theorem AA {q r:ah×ah×ag} (nd:(P.map (·.1)).Nodup) (hq:P[i]?=aa q) (hr:r∈P.take i):r.1≠q.1:=by
 intro e;have h1:=qU (f:=(·.1)) hr;rw[u5] at h1;have h2:(P.map (·.1))[i]?=aa q.1:=by rw[qk,hq];rfl
 obtain⟨j,hj⟩:=nr h1;have hji:j<i:=by
  rcases io j i with z|z
  .exact z
  .rw[yF (by rw[qC];omega)] at hj;cases hj
 rw[oG hji] at hj;have:=(Rh (cY.mp hj).1 nd).mp (hj.trans ((cI aa e).trans h2.symm));omega
theorem n9 {s:StepT} :atw E m (eA P s)=ai↔stt P s.nm<=m/\m<ent E s.nm:=by unfold atw eA;rw[cS,dF,dF]
theorem JX (g:Good bs ss js us ls ks h) (f:Fine bs ss P E) (u:Full ss P) (kp:Kep bs ss js us ls ks h P E):Goes bs ss js us ls ks h P E:=by
 have hu:∀u∈us,0<=u.n:=fun u hu=>by have:=(g.u u hu).n;omega
 refine⟨fun q hq=>?_,fun m m0 m1=>⟨fun i q hq=>?_,fun k hk=>?_⟩⟩
 .obtain⟨s,hs,rfl⟩:=nZ u hq;refine⟨(kp.w s hs).1,(kp.w s hs).2,?_⟩;unfold wtB;rw[oT,cS,cS,kK,kK,kK,gD,gD,gD];refine⟨fun r hr z=>?_,fun l hl z=>?_,fun j hj z=>?_⟩
  .obtain⟨t,ht,rfl⟩:=nZ u hr;unfold w1B eA at z;dsimp only at z;rw[nu g.sn ht,nu g.sn hs] at z;simp only[cS,kK,dF,oU] at z;obtain⟨⟨z1,z2,z3⟩,z4⟩:=z;have:=(sep g f kp.n ht hs (fun e=>z1 (by rw[e])) z2).1 z3;omega
  .unfold w2B eA at z;simp only[cS,dF] at z;have:=rT (kp.l l hl);rw[z.1] at this;exact this z.2
  .unfold w3B eA at z;simp only[cS,dF,ip] at z;obtain⟨⟨z1,z2⟩,y,hy,z3⟩:=z;have:=kp.a j hj _ (zA z2 hy);unfold apB mkS at this;dsimp only at this;rw[z1,qQ z3] at this;cases this
 .obtain⟨s,hs,rfl⟩:=nZ u (qN hq);cases e:awB bs js E m (P.take i) (eA P s) with
  |false=>rfl
  |true=>
   exfalso;unfold awB at e;rw[cS,gE,gE,n9] at e;obtain⟨⟨s0,s1⟩,e⟩:=e;rcases e with e|e|e
   .unfold bkA at e;obtain⟨iv,hiv,z⟩:=ip.mp e;rw[cS,dF,dF] at z;exact kp.b s hs iv hiv .(e)
   .unfold bnA at e;obtain⟨r,hr,z⟩:=ip.mp e;obtain⟨t,ht,rfl⟩:=nZ u (nh hr);rw[cS,n9,dF] at z;have ne:t≠s:=fun e=>AA u.nd hq hr (by rw[e]);have z2:bnt P t.nm=bnt P s.nm:=z.2;have a1:=sep g f kp.n ht hs ne z2;have a2:=sep g f kp.n hs ht (df ne) z2.symm;have u1:=rl hu (bnt P s.nm) t.kd s.kd;have u2:=rl hu (bnt P t.nm) s.kd t.kd;have b1:=a1.1;have b2:=a2.1;have b3:=a1.2;omega
   .cases ej:cU js s.nm with
    |none=>rw[show cU js (eA P s).1=ab from ej] at e;cases e
    |some j=>
     rw[show cU js (eA P s).1=aa j from ej] at e;obtain⟨hj,hsj⟩:=o8 ej;have jj:=kp.j s hs j hj hsj;unfold jb1 at e;rw[gE,gE,dF,dF] at e;rcases e with e|e|e
     .unfold jbA at e;obtain⟨r,hr,z⟩:=ip.mp e;obtain⟨t,ht,rfl⟩:=nZ u (nh hr);rw[cS,n9,dF] at z;have ne:t.nm≠s.nm:=fun e=>AA u.nd hq hr e;have key:∀x y:StepT,x.nm∈j.ms->stt P x.nm<=m/\m<ent E x.nm->stt P y.nm<=m/\m<ent E y.nm->(mkS x.nm,mkS y.nm)∈prS (j.ms.map mkS)->False:=fun x y _ h1 h2 hp=>by have:=kp.a j hj _ hp;unfold apB mkS at this;dsimp only at this;rw[qQ (show stt P y.nm<ent E x.nm by omega),qQ (show stt P x.nm<ent E y.nm by omega),EZ] at this;cases this
      have ne2:mkS t.nm≠mkS s.nm:=fun e=>ne (show(mkS t.nm).nm=(mkS s.nm).nm by rw[e]);rcases vx (ss:=j.ms.map mkS) (a5.mpr ⟨t.nm,z.2,rfl⟩) (a5.mpr ⟨s.nm,hsj,rfl⟩) ne2 with q|q
      .exact key t s z.2 z.1 ⟨s0,s1⟩ q
      .exact key s t hsj ⟨s0,s1⟩ z.1 q
     .omega
     .omega
 .cases e:eP P E k m with
  |false=>rfl
  |true=>
   obtain⟨y,hy,_,hb⟩:=KA (g.k k hk) e;rw[kp.k k hk y hy] at hb;cases hb
end
section
variable {bs:ac BenchT} {Q:bp}
theorem Dv {s:StepT} (e:awB bs js E m (P.take i) (eA P s)=ao) (h0:stt P s.nm<=m) (h1:m<ent E s.nm):bkA bs m (eA P s)=ao/\bnA E m (P.take i) (bnt P s.nm)=ao/\jb1 E m (P.take i) (cU js s.nm)=ao:=by unfold awB at e;rw[n9.mpr ⟨h0,h1⟩,ir,u9,u9] at e;exact e
theorem vW (f:Fine bs ss P E) (u:Full ss P) (go:Goes bs ss js us ls ks h P E) {s:StepT} (hs:s∈ss) (h0:stt P s.nm<=m) (h1:m<ent E s.nm):∃i,P[i]?=aa (eA P s)/\bkA bs m (eA P s)=ao/\bnA E m (P.take i) (bnt P s.nm)=ao/\jb1 E m (P.take i) (cU js s.nm)=ao:=by obtain⟨i,hi⟩:=nr (kM u hs);have w:=go.w _ (kM u hs);have w0:0<=stt P s.nm:=w.1;have w1:ent E s.nm<=h:=w.2.1;exact⟨i,hi,Dv ((go.m m .(e) .(e)).1 i _ hi) h0 h1⟩
theorem B5 (g:Good bs ss js us ls ks h) (f:Fine bs ss P E) (u:Full ss P) (go:Goes bs ss js us ls ks h P E) {s t:StepT} (hs:s∈ss) (ht:t∈ss) (ne:s.nm≠t.nm) (h0:stt P s.nm<=m) (h1:m<ent E s.nm) (h2:stt P t.nm<=m) (h3:m<ent E t.nm):bnt P s.nm≠bnt P t.nm/\∀j∈js,s.nm∈j.ms->t.nm∈j.ms->False:=by
 have key:∀s t:StepT,s∈ss->t∈ss->stt P s.nm<=m->m<ent E s.nm->stt P t.nm<=m->m<ent E t.nm->(∃i,P[i]?=aa (eA P s)/\eA P t∈P.take i)->bnt P s.nm≠bnt P t.nm/\∀j∈js,s.nm∈j.ms->t.nm∈j.ms->False:=fun s t hs ht h0 h1 h2 h3 ⟨i,hi,hr⟩=>by
  have w:=go.w _ (kM u hs);have w0:0<=stt P s.nm:=w.1;have w1:ent E s.nm<=h:=w.2.1;obtain⟨_,a2,a3⟩:=Dv ((go.m m .(e) .(e)).1 i _ hi) h0 h1;refine⟨fun e=>?_,fun j hj hsj htj=>?_⟩
  .unfold bnA at a2;rw[gD] at a2;exact a2 _ hr (by rw[cS];exact⟨n9.mpr ⟨h2,h3⟩,qQ e.symm⟩)
  .rw[mL g.jm hj hsj] at a3;unfold jb1 jbA at a3;rw[u9,gD] at a3;exact a3.1 _ hr (by rw[cS];exact⟨n9.mpr ⟨h2,h3⟩,qQ htj⟩)
 rcases K6 (kM u hs) (kM u ht) (fun e=>ne (cI Prod.fst e)) with q|q
 .exact key s t hs ht h0 h1 h2 h3 q
 .have:=key t s ht hs h2 h3 h0 h1 q;exact⟨df this.1,fun j hj a b=>this.2 j hj b a⟩
theorem xw (e:wtB ss js us ls P E x=ai):(∀q∈P,w1B ss us P E x q=ao)/\(∀l∈ls,w2B P E x l=ao)/\∀j∈js,w3B P E x j=ao:=by
 unfold wtB at e;rw[oT,cS,cS,kK,kK,kK,gD,gD,gD] at e;have k:∀b:aN,¬b=ai->b=ao:=by intro b;cases b<;>simp
 exact⟨fun q hq=>k _ (e.1 q hq),fun q hq=>k _ (e.2.1 q hq),fun q hq=>k _ (e.2.2 q hq)⟩
theorem HU (g:Good bs ss js us ls ks h) (f:Fine bs ss P E) (u:Full ss P) (go:Goes bs ss js us ls ks h P E):Kep bs ss js us ls ks h P E:=by
 have w:∀s∈ss,0<=stt P s.nm/\ent E s.nm<=h/\wtB ss js us ls P E s.nm=ai:=fun s hs=>go.w _ (kM u hs);refine⟨fun s hs=>⟨(w s hs).1,(w s hs).2.1⟩,fun s hs j hj hx=>?_,fun s hs iv hiv z=>?_,fun p hp=>?_,fun j hj p hp=>?_,fun l hl=>?_,fun k hk m hm=>?_⟩
 .have hp:=f.p s hs;obtain⟨_,_,_,_,a1⟩:=vW f u go hs (m:=stt P s.nm) (o2 _) hp;obtain⟨_,_,_,_,a2⟩:=vW f u go hs (m:=ent E s.nm-1) .(e) .(e);rw[mL g.jm hj hx] at a1 a2;unfold jb1 at a1 a2;rw[u9,u9,oU,oU] at a1 a2;omega
 .obtain⟨b,hb,hbn⟩:=f.b s hs;have hiv':iv∈b.br:=by rw[←hbn,ww g hb] at hiv;exact hiv
  have gi:=(g.b b hb).iv iv hiv';have hp:=f.p s hs;obtain⟨_,_,a1,_⟩:=vW f u go hs (m:=max (stt P s.nm) iv.1) .(e) .(e);unfold bkA at a1;rw[gD] at a1;exact a1 iv hiv (by rw[cS,dF,dF];omega)
 .obtain⟨hs,ht⟩:=jd hp;have ne:=vA g.sn hp;obtain⟨s,t⟩:=p;dsimp only at hs ht ne;cases e:h9 us P E (s,t) with
  |false=>rfl
  |true=>
   exfalso;unfold h9 j1 jc at e;dsimp only at e;rw[cS,dF] at e;obtain⟨e1,e2⟩:=e;have p1:=f.p s hs;have p2:=f.p t ht;have no:∀a b:StepT,a∈ss->b∈ss->a.nm≠b.nm->bnt P a.nm=bnt P b.nm->stt P a.nm<stt P b.nm->stt P b.nm<ent E a.nm+suN us (bnt P b.nm) a.kd b.kd->False:=fun a b ha hb nab hbn h1 h2=>by have z:=(xw (w b hb).2.2).1 _ (kM u ha);unfold w1B eA at z;dsimp only at z;rw[nu g.sn ha,nu g.sn hb,qL nab,qQ hbn,qQ h1,qQ h2] at z;cases z
   by_cases q1:stt P t.nm<stt P s.nm
   .rw[qW q1] at e2;exact no t s ht hs (df ne) e1.symm q1 (eU e2)
   .rw[qX q1] at e2;by_cases q2:stt P s.nm<stt P t.nm
    .rw[e1] at e2;exact no s t hs ht ne e1 q2 (eU e2)
    .exact(B5 g f u go hs ht ne (m:=stt P s.nm) (o2 _) p1 .(e) .(e)).1 e1
 .obtain⟨h1,h2⟩:=jd hp;obtain⟨x,hx,ex⟩:=a5.mp h1;obtain⟨y,hy,ey⟩:=a5.mp h2;have nd:j.ms.Nodup:=by have:=g.jm;exact this.sublist (List.sublist_flatten_of_mem (a5.mpr ⟨j,hj,rfl⟩))
  have hb:=B4 nd hp;have nxy:p.1.nm≠p.2.nm:=vA (by rw[BH];exact nd) hp;obtain⟨s,hs,es⟩:=a5.mp ((g.j j hj).ms x hx);obtain⟨t,ht,et⟩:=a5.mp ((g.j j hj).ms y hy);have e1:p.1.nm=s.nm:=by rw[←ex,es];rfl
  have e2:p.2.nm=t.nm:=by rw[←ey,et];rfl
  have hsj:s.nm∈j.ms:=by rw[es];exact hx
  have htj:t.nm∈j.ms:=by rw[et];exact hy
  unfold apB;rw[e1,e2] at hb nxy ⊢;cases e:decide (stt P t.nm<ent E s.nm) && (j.od || decide (stt P s.nm<ent E t.nm)) with
  |false=>rfl
  |true=>
   exfalso;rw[cS,gE,dF,dF] at e;obtain⟨a1,a2⟩:=e;rcases a2 with a2|a2
   .have z:=(xw (w t ht).2.2).2.2 j hj;unfold w3B at z;rw[a2,qQ htj,ir,ir,gD] at z;exact z _ hb (qQ a1)
   .have p1:=f.p s hs;have p2:=f.p t ht;exact(B5 g f u go hs ht nxy (m:=max (stt P s.nm) (stt P t.nm)) .(e) .(e) .(e) .(e)).2 j hj hsj htj
 .obtain⟨t,ht,et⟩:=a5.mp (g.l l hl).b;have z:=(xw (w t ht).2.2).2.1 l hl;unfold w2B at z;rw[et,qQ rfl,ir] at z;exact z
 .have hr:0<=m/\m<=h:=by
   unfold gJ at hm;rcases cR.mp hm with q|q
   .obtain⟨v,hv,rfl⟩:=a5.mp q;obtain⟨s,hs,e⟩:=a5.mp ((g.k k hk).tk.ws v hv).1;have:=w s hs;have:=f.p s hs;rw[←e];omega
   .obtain⟨v,hv,rfl⟩:=a5.mp q;obtain⟨s,hs,e⟩:=a5.mp ((g.k k hk).pt.ws v hv).1;have:=w s hs;have:=f.p s hs;rw[←e];omega
  exact(go.m m hr.1 hr.2).2 k hk
end
theorem BP {b c:aN} (h1:ft ρ=aa b) (h2:gt ρ=aa c):ax (sIf ft .(k) aH) (sIf gt .(k) aH) ρ=aa (flB (b || c),ρ):=by
 cases b with
 |true=>exact jZ h1 rfl
 |false=>exact(fF h1).trans (ifF h2)
section
variable {bs:ac BenchT} {Q:bp}
noncomputable abbrev kpE (P:bp) (L:D) (E:ac (ah×ag)) (a b:ar Slot):bf:=[oS (pD P),oS L,oS (eD E),a,b]
theorem zC {b:aN} :(!b)=ai↔b=ao:=by cases b<;>simp
theorem Lu (g:Good bs ss js us ls ks h) (p:PlanOk P) (f:Fine bs ss P E) (u:Full ss P):∃c,pK [pD P,aF bs ss js us ls ks h]=aa (.bl c)/\(c=ai↔Goes bs ss js us ls ks h P E):=by
 have hh:=g.hh;have e0:=xA g f.o;rw[f.e] at e0;obtain⟨ρ1,e1,a1,rfl⟩:=ly (gg:=ay 3) (body:=(ax (sIf (orT (toB (b2 ltD (b2 ixD .(ae) .(d)) .(c))) (toB (b2 gtD (b2 aO (vSh 2) (vSh 3)) (b2 ixD (vSh 1) (vC (.int 6)))))) .(k) aH) (sIf (bu (toB (cF ug (ae (vSh 0) (ae (vSh 2) (ae (vSh 1) .(U))))))) .(k) aH))) (d:=fun q:ah×ah×ag=>D.str q.1) (bad:=fun q=>(decide (q.2.2<0) || decide (h<ent E q.1)) || !wtB ss js us ls P E q.1)
  (fun ρ=>∃a,ρ=kpE P .(a) E a ab) P (kpE P .(a) E ab ab) (fun q hq ρ=>by rintro⟨a,rfl⟩;obtain⟨s,hs,rfl⟩:=nZ u hq;exact⟨_,_,rfl,BP (lh (aX (au (au (au rfl rfl (cC (f.t.gp hs))) rfl cy) rfl rfl)) (aX (au (au rfl rfl (dN (f.t.ge hs))) (au rfl rfl (ixL _ 6)) rfl))) (mS (aX (a4 (aA rfl (aA rfl .(q))) (Fa g f.t u hs (p.bn _ (kM u hs)))))),oS .(z),rfl⟩) ⟨_,rfl⟩
 have wk:=FY g f.t u (by have:=p.ln;omega) f.b;obtain⟨ρ2,e2,a2,rfl⟩:=ly (gg:=ay 4) (body:=(ax (sIf (bu (toB (cF pp (ae (vSh 0) (ae (vSh 2) (ae (vSh 1) (ae (vSh 4) ak))))))) .(k) aH) (sIf (bu (toB (cF tU (ae (vSh 0) (ae (vSh 2) (ae (vSh 1) (ae (vSh 4) ak))))))) .(k) aH))) (d:=fun i:al=>D.int (0+i)) (bad:=fun i=>(match pp [pD P,eD E,aF bs ss js us ls ks h,.int (0+i)] with
   |some (.bl b)=>!b
   |_=>ao) || ks.any fun k=>eP P E k (0+i))
  (fun ρ=>∃b,ρ=kpE P .(a) E a1 b) (cG (h+1).toNat) (kpE P .(a) E a1 ab) (fun i _ ρ=>by rintro⟨b,rfl⟩;obtain⟨c,ec,_⟩:=wk (0+i);refine⟨_,_,rfl,?_,oS (.int (0+i)),rfl⟩;rw[ec];dsimp only;exact(BP (mS (aX (a4 (aA rfl (aA rfl .(q))) ec))) (mS (aX (a4 (aA rfl (aA rfl .(q))) (GI g f.t (0+i)))))).trans (by rw[E9 (ks.any _)];rfl)) ⟨_,rfl⟩
 have i1:itK (vSh 0) (kpE P .(a) E ab ab)=aa (P.map fun q=>D.str q.1):=p8;have i2:itR eV (ae (b2 aV (b2 ixD (vSh 1) (vC (.int 6))) .(d)) ak) (kpE P .(a) E a1 ab)=aa ((cG (h+1).toNat).map fun i:al=>D.int (0+i)):=by refine lv (aA (au (au rfl rfl (ixL _ 6)) rfl rfl) aR) ?_;have:=wn (i:=0) (j:=0) .(e);unfold eV;rw[xB];exact qW ⟨by omega,by omega⟩
 obtain⟨ρ',e3⟩:=mB ((cW i1).trans e1) (mB ((cW i2).trans e2) ⟨_,bT (f:=vC (.bl ai)) rfl⟩);refine⟨_,bO (n:=3) (ρ':=ρ') (ds:=[pD P,aF bs ss js us ls ks h]) [oS (pD P),oS .(a),ab,ab,ab] rfl ((bq (a4 .(q) e0)).trans e3),?_⟩;rw[oT,cS,zC,zC,gD,gD];constructor
 .rintro⟨h1,h2⟩;refine⟨fun q hq=>?_,fun m m0 m1=>?_⟩
  .have:=h1 q hq;rw[gE,gE,dF,dF] at this;refine⟨by omega,by omega,?_⟩;cases e:wtB ss js us ls P E q.1 with
   |true=>rfl
   |false=>rw[e] at this;exact bz (.inr rfl) this
  .have:=h2 m.toNat (dX.mpr .(e));rw[show(0:ag)+(m.toNat:ag)=m by omega] at this;obtain⟨c,ec,kc⟩:=wk m;rw[ec] at this;dsimp only at this;rw[E9,gE] at this;refine⟨fun i q hq=>?_,fun k hk=>?_⟩
   .cases e:awB bs js E m (P.take i) q with
    |false=>rfl
    |true=>exact bz (.inl (kc.mpr ⟨i,q,hq,e⟩)) this
   .cases e:eP P E k m with
    |false=>rfl
    |true=>exact bz (.inr (ip.mpr ⟨k,hk,e⟩)) this
 .intro go;refine⟨fun q hq z=>?_,fun i hi z=>?_⟩
  .have w:=go.w q hq;rw[gE,gE,dF,dF,w.2.2] at z;rcases z with z|z
   .omega
   .cases z
  .rw[dX] at hi;have w:=go.m (0+i) .(e) .(e);obtain⟨c,ec,kc⟩:=wk (0+i);rw[ec] at z;dsimp only at z;rw[E9,gE] at z;rcases z with z|z
   .obtain⟨j,q,hq,e⟩:=kc.mp z;rw[w.1 j q hq] at e;cases e
   .obtain⟨k,hk,e⟩:=ip.mp z;rw[w.2 k hk] at e;cases e
end
section
variable {bs:ac BenchT} {Q:bp} {B:ag}
theorem IY (g:Good bs ss js us ls ks h) (hh:h<=1000) (hl:ss.length<=20):∃P,wl [aF bs ss js us ls ks h]=aa (pD P)/\PlanN ss.length P/\Full ss P/\OnB ss P:=by
 have hh1:=g.hh;obtain⟨ρ',e1,P,a,b,h1,p1,k1⟩:=dZ (gg:=ay 2) (body:=(ax (aM 3 (cF sx (ae (vSh 0) (ae (cF oe (ae (vSh 1) .(ad))) (ae (b2 ixD (vSh 2) .(c)) ak))))) (aM 1 (cF tS (ae (vSh 1) (ae (vSh 0) (ae (vSh 2) .(U)))))))) (xs:=ss.map bG) (ρ:=[oS .(a),oS (pD []),ab,ab])
  (fun i ρ=>∃P a b,ρ=[oS .(a),oS (pD P),a,b]/\BPlan ss i (i*5000) P/\∀s∈ss.take i,(lk P s.nm).isSome=ai) ⟨[],ab,ab,rfl,⟨⟨.nil,qv _,(fun _ z=>by cases z),(fun _ z=>by cases z)⟩,(fun _ z=>by cases z),(fun s _ q hq=>by cases hq),(fun _ z=>by cases z)⟩,(fun _ z=>by cases z)⟩ (fun i x ρ hx hI=>by
   obtain⟨P,a,b,rfl,p,kk⟩:=hI;rw[qk] at hx;obtain⟨s,hs,rfl⟩:=oMd hx;have hi:i<ss.length:=(cY.mp hs).1;have hsm:=qN hs;obtain⟨m,em,m0,m1⟩:=L4 (E:=bS ss P) g (M:=i*5000+h) .(e) (fun k x hk=>NS g p.b hk) (g.s s hsm).nm;obtain⟨_,ep,w,st,rfl,⟨l,hw⟩,s0,s1⟩:=LO g p .(e) hsm m0 .(e);refine⟨_,_,rfl,(bq (a4 (aA rfl (aA (a4 .(q) (xA g p.o)) (aA (au rfl rfl cx) aR))) em)).trans (lY (a4 (aA rfl (aA rfl .(q))) ep)),_,oS (bG s),oS (.int m),rfl,p.put g hsm hw s0 .(e) .(e),fun t ht=>?_⟩;rw[nk,hs] at ht;rw[tj,gE];rcases cR.mp ht with z|z
   .exact .inl (kk t z)
   .rw[bW.mp z];exact .inr (qQ rfl))
 rw[qf] at p1 k1;rw[jP] at k1;subst h1;exact⟨P,bO (n:=3) (ds:=[aF bs ss js us ls ks h]) [oS .(a),ab,ab,ab] rfl ((bq rfl).trans ((bY ((cW (c0 (au rfl rfl (ixL _ 1)))).trans e1)).trans (bT rfl))),p1.n,⟨p1.n.nd,p1.k,k1⟩,p1.o⟩
theorem GS (g:Good bs ss js us ls ks h) (p:PlanN n Q) (u:Full ss Q) (o:OnB ss Q) {s:StepT} (hs:s∈ss) {b:ah} (hb:(lk s.ws b).isSome=ai) (st:ag):PlanN n (pt Q s.nm (b,st))/\Full ss (pt Q s.nm (b,st))/\OnB ss (pt Q s.nm (b,st)):=by
 obtain⟨l,hl⟩:=gm.mp hb;refine⟨p.old (u.a s hs) (g.s s hs).nm (g.bnn _ ((g.s s hs).ws _ (kP hl)).1),⟨v8 u.nd,fun q hq=>(mU hq).elim (fun e=>by rw[e];exact a5.mpr ⟨s,hs,rfl⟩) (u.k q),fun t ht=>by rw[tj,u.a t ht];rfl⟩,fun t ht q hq=>?_⟩;rw[sV] at hq;split at hq
 .rename_i e;cases hq;rw[vO g.sn ht hs e];exact hb
 .exact o t ht q hq
noncomputable abbrev cgE (P:bp) (L:D) (c:ag) (Q:bp) (a b d e f i j:ar Slot):bf:=[oS (pD P),oS L,oS (.int c),aa (.odk (tb pT Q)),a,b,d,e,f,i,j]
noncomputable def cgB:FS:=.(v)
theorem Kv (g:Good bs ss js us ls ks h) {c:ag} {t:al} (ht:t<=10) (p:PlanN n Q) (hn:n<=50) (u:Full ss Q) (o:OnB ss Q) {b d e f i j:ar Slot} :∃Q' b' d' e' f' i' j',cgB (cgE P .(a) c Q (oS (.int (t:ag))) b d e f i j)=aa (.nx,cgE P .(a) c Q' (oS (.int (t:ag))) b' d' e' f' i' j')/\PlanN n Q'/\Full ss Q'/\OnB ss Q':=by
 have l1:=g.sl;obtain⟨ds,e1,e2,e3⟩:=mG (c / 3) t .(e) [(ss.length:ag),5,4] (by simp;omega) (show 3<=100 by decide);obtain⟨d0,h0,a0,b0⟩:=e3 0 _ rfl;obtain⟨d1,h1,a1,b1⟩:=e3 1 _ rfl;obtain⟨d2,h2,a2,b2'⟩:=e3 2 _ rfl;obtain⟨s,hs⟩:∃s,ss[d0.toNat]?=aa s:=⟨_,qB (show d0.toNat<ss.length by omega)⟩;have hsm:=qN hs;have gs:=g.s s hsm;obtain⟨q,hq⟩:=gm.mp (u.a s hsm);have hw1:(0:ag)<(s.ws.length:al):=by have:=gs.l1;omega
 obtain⟨w,hw⟩:∃w,s.ws[(d1%(s.ws.length:al)).toNat]?=aa w:=⟨_,qB (by have:=qS d1 hw1;have:=qV d1 (show((s.ws.length:al):ag)≠0 by omega);omega)⟩
 have ed:cF eh (ae (b2 eY (vSh 2) .(i)) (ae (vSh 4) (ae (aP (szF (ae (cF b8 (ae (b2 ixD (vSh 1) .(d)) ak)) (ae (vC (.int 5)) (ae .(j) ak))))) ak))) (cgE P .(a) c Q (oS (.int (t:ag))) b d e f i j)=aa .(u):=
  a4 (aA (au rfl rfl (o5 .(h))) (aA rfl (aA (sJ (Bl (aA ((C8 (au rfl rfl (ixL _ 1))).trans (by rw[qf])) .(q)) (show 3<=1000 by decide))) aR))) e1
 have ea:eZ (bN 3 (aI (ay 6) (aI (ay 7) (aI (ay 8) bM)))) (b2 ixD (b2 ixD (vSh 1) .(d)) (b2 ixD (vSh 5) .(c))) (cgE P .(a) c Q (oS (.int (t:ag))) (oS .(u)) d e f i j)=aa (.nx,cgE P .(a) c Q (oS (.int (t:ag))) (oS .(u)) (oS .(z)) (oS (.str s.kd)) (oS (.lst (s.ws.map dW))) i j):=
  xC (d:=bG s) (au (au rfl rfl (ixL _ 1)) (cH (n:=0) rfl h0) (Dt a0 (by rw[qk,hs];rfl))) rfl
 have eb:eZ (bN 2 (aI (ay 9) (aI (ay 10) bM))) (o6 3 (vSh 6)) (cgE P .(a) c Q (oS (.int (t:ag))) (oS .(u)) (oS .(z)) (oS (.str s.kd)) (oS (.lst (s.ws.map dW))) i j)=aa (.nx,cgE P .(a) c Q (oS (.int (t:ag))) (oS .(u)) (oS .(z)) (oS (.str s.kd)) (oS (.lst (s.ws.map dW))) (oS (.str q.1)) (oS (.int q.2))):=by refine xC (d:=pT q) ?_ rfl;show cv (tb pT Q) (.inr s.nm)=_;rw[gI,hq];rfl
 have et:toB (b2 eqD (b2 ixD (vSh 5) .(l)) .(i)) (cgE P .(a) c Q (oS (.int (t:ag))) (oS .(u)) (oS .(z)) (oS (.str s.kd)) (oS (.lst (s.ws.map dW))) (oS (.str q.1)) (oS (.int q.2)))=aa (decide (d2=3)):=aX (au (cH (n:=2) rfl h2) rfl (eqi _ _));obtain⟨r,hr,ei⟩:∃r,(lk s.ws r).isSome=ai/\sIf (toB (b2 eqD (b2 ixD (vSh 5) .(l)) .(i))) (aM 9 (b2 ixD (b2 ixD (vSh 8) (b2 bQ (b2 ixD (vSh 5) .(d)) (cF b8 (ae (vSh 8) ak)))) .(c))) aH (cgE P .(a) c Q (oS (.int (t:ag))) (oS .(u)) (oS .(z)) (oS (.str s.kd)) (oS (.lst (s.ws.map dW))) (oS (.str q.1)) (oS (.int q.2)))=aa (.nx,cgE P .(a) c Q (oS (.int (t:ag))) (oS .(u)) (oS .(z)) (oS (.str s.kd)) (oS (.lst (s.ws.map dW))) (oS (.str r)) (oS (.int q.2))):=by
  cases ez:decide (d2=3) with
  |false=>rw[ez] at et;exact⟨q.1,o s hsm q hq,(bR et).trans rfl⟩
  |true=>
   rw[ez] at et;refine⟨w.1,by rw[jz gs.nd (show(w.1,w.2)∈s.ws from qN hw)];rfl,(bR et).trans (lY (au (au rfl (au (cH (n:=1) rfl h1) ((C8 rfl).trans (by rw[qf])) (dQ hw1)) (Dt (x:=dW w) (qV _ .(e)) (by rw[qk,hw];rfl))) rfl cx))⟩
 have lq:=p.ln;exact⟨_,_,_,_,_,_,_,(bq ed).trans ((bY ea).trans ((bY eb).trans ((bY ei).trans (nK (i:=3) (f:=pT) (l:=Q) (x:=s.nm) (v:=(r,q.2+d1-2)) rfl (gv rfl (au (au rfl (cH (n:=1) rfl h1) rfl) rfl rfl)) rfl .(e))))),GS g p u o hsm hr _⟩
theorem KS (g:Good bs ss js us ls ks h) (p:PlanN n P) (hn:n<=50) (u:Full ss P) (o:OnB ss P) (c:ag):∃Q,sw [pD P,aF bs ss js us ls ks h,.int c]=aa (pD Q)/\PlanN n Q/\Full ss Q/\OnB ss Q:=by
 have hc:(c%3).toNat<=2/\0<=c%3/\c%3<3:=by omega
 obtain⟨ρ',e1,Q,a,b,d,e,f,i,j,h1,p1⟩:=dZ (gg:=ay 4) (body:=cgB) (xs:=(cG (c%3).toNat).map fun i:al=>D.int (0+i)) (ρ:=cgE P .(a) c P ab ab ab ab ab ab ab)
  (fun _ ρ=>∃Q a b d e f i j,ρ=cgE P .(a) c Q a b d e f i j/\PlanN n Q/\Full ss Q/\OnB ss Q) ⟨P,ab,ab,ab,ab,ab,ab,ab,rfl,p,u,o⟩ (fun m x ρ hx hI=>by obtain⟨Q,a,b,d,e,f,i,j,rfl,pq,uq,oq⟩:=hI;obtain⟨hm,rfl⟩:=NF hx;obtain⟨Q',b',d',e',f',i',j',e2,p2⟩:=Kv (P:=P) (c:=c) (t:=m) (b:=b) (d:=d) (e:=e) (f:=f) (i:=i) (j:=j) g .(e) pq hn uq oq;exact⟨_,_,rfl,e2,Q',_,_,_,_,_,_,_,rfl,p2⟩)
 subst h1;refine⟨Q,bO (n:=8) (ds:=[pD P,aF bs ss js us ls ks h,.int c]) [oS (pD P),oS .(a),oS (.int c),ab,ab,ab,ab,ab,ab,ab,ab] rfl ((bY (ρ1:=cgE P .(a) c P ab ab ab ab ab ab ab) rfl).trans ((bY ((cW ?_).trans e1)).trans ((tN rfl).trans (bT rfl)))),p1⟩;unfold itR;rw[aA (au rfl rfl (dQ .(h))) aR];exact nI ⟨hc.2.1,by omega⟩
theorem HF (u:Full ss P):gS ss P=ab:=by unfold gS jV gO;rw[u8.mpr fun s hs=>by rw[u.a s hs];exact qr,u8.mpr fun q hq=>by rw[qQ (u.k q hq)];exact qr];rw[qM,qM,show oj []=[] from Rq];rfl
theorem Hd (g:Good bs ss js us ls ks h) (p:PlanOk P) (hl:ss.length<=20) (u:Full ss P) (o:OnB ss P):∃r,mo [aS bs ss js us ls ks h,pD P]=aa r/\pK [pD P,aF bs ss js us ls ks h]=aa (.bl (lC r)):=by
 have hs:=HF u;have e0:plc ss P=ss:=Ry.mpr u.a;have T:=tV g o;rw[e0] at T;have f:Fine bs ss P (bS ss P):=⟨T,rfl,o,fun s hs=>(nL g o (e0.symm▸hs)).1,fun s hs=>(nL g o (e0.symm▸hs)).2⟩;obtain⟨r,er,gr,kr⟩:=JZ g p hl hs o;obtain⟨c,ec,kc⟩:=Lu g p f u;refine⟨_,er,ec.trans ?_⟩;rw[gr.non]
 congr 2
 rw[mY,kc,Option.isNone_iff_eq_none,kr];exact⟨HU g f u,JX g f u⟩
end
theorem ML (ns:ac ag) (hns:ns.length<=63):Cm [.scr ns]=aa (.bl ai):=by
 have c20:0<=(ns.getD 20 0)%21/\(ns.getD 20 0)%21<21:=by omega
 have c22:0<=(ns.getD 22 0)%6/\(ns.getD 22 0)%6<6:=by omega
 obtain⟨n,hn⟩:∃n:al,1+(ns.getD 22 0)%6=(n:ag):=⟨(1+(ns.getD 22 0)%6).toNat,by omega⟩;obtain⟨bs,ss,js,us,ls,ks,el,g,jl,sl⟩:=Ih ns n (4+ns.getD 20 0%21) 4 .(e) .(e) .(h);have ml:(js.flatMap (·.ms)).length<=300:=by have:=vY (f:=fun j:JobT=>j.ms) (m:=10) (l:=js) fun j hj=>qK (g.j j hj).ln (by rw[qf];exact sl);omega
 obtain⟨P,eb,p,u,o⟩:=IY g .(e) .(e);have e20:b2 aV .(j) (b2 bQ (cF fg (ae (vSh 0) (ae (vC (.int 20)) ak))) (vC (.int 21))) [oS (.scr ns),ab,ab,ab,ab,ab,ab]=aa (.int (4+ns.getD 20 0%21)):=au rfl (au (a4 .(q) (lA ns 20)) rfl (dQ .(h))) rfl;have eS:=Fh g ml;generalize 4+ns.getD 20 0%21=h at el g e20 eb eS;have e22:b2 aV .(d) (b2 bQ (cF fg (ae (vSh 0) (ae (vC (.int 22)) ak))) (vC (.int 6))) [oS (.scr ns),oS (.int h),ab,ab,ab,ab,ab]=aa (.int (n:ag)):=au rfl (au (a4 .(q) (lA ns 22)) rfl (dQ .(h))) (by rw[←hn];rfl);obtain⟨ρ',e1,a,b,h1⟩:=dZ (gg:=ay 5) (body:=(ax (aM 6 (cF sw (ae (vSh 4) (ae (vSh 2) (ae (vSh 5) ak))))) (sIf (toB (b2 neA (b2 isD (cF mo (ae (vSh 3) (ae (vSh 6) ak))) (vC .non)) (cF pK (ae (vSh 6) .(X))))) .(k) aH))) (xs:=([0,ns.getD 23 0]++dO ns (aa 24) (aa 63)).map D.int) (ρ:=[oS (.scr ns),oS (.int h),oS .(a),oS .(f),oS (pD P),ab,ab])
  (fun _ ρ=>∃a b,ρ=[oS (.scr ns),oS (.int h),oS .(a),oS .(f),oS (pD P),a,b]) ⟨_,_,rfl⟩ (fun i x ρ hx hI=>by
   obtain⟨a,b,rfl⟩:=hI;rw[qk] at hx;obtain⟨z,_,rfl⟩:=oMd hx;obtain⟨Q,eq,pq,uq,oq⟩:=KS g p .(e) u o z;obtain⟨r,er,ek⟩:=Hd g (pq.ok .(e)) .(e) uq oq;have ne1:∀b:aN,neA (.bl b) (.bl b)=aa (.bl ao):=by intro b;cases b<;>rfl
   exact⟨_,_,rfl,(bq (a4 (aA rfl .(q)) eq)).trans ((bR (aX (au (au (a4 .(q) er) rfl rfl) (a4 .(q) ek) (ne1 _)))).trans rfl),oS (.int z),oS (pD Q),rfl⟩)
 subst h1;have ei:itF (b2 aV (aP (szF (ae .(c) (ae (cF fg (ae (vSh 0) (ae (vC (.int 23)) ak))) ak)))) (slF (vSh 0) (pS (vC (.int 24))) (pS (vC (.int 63))))) [oS (.scr ns),oS (.int h),oS .(a),oS .(f),oS (pD P),ab,ab]=aa (([0,ns.getD 23 0]++dO ns (aa 24) (aa 63)).map D.int):=by have hc:=O5 (l:=ns) (lo:=aa 24) (hi:=aa 63);rw[iT];exact c0 (au (x:=.lst ([0,ns.getD 23 0].map D.int)) (y:=.lst ((dO ns (aa 24) (aa 63)).map D.int)) (sJ (Bl (aA rfl (aA (a4 .(q) (lA ns 23)) aR)) (show 2<=1000 by decide))) rfl (Mw (by rw[qf,qf];show 2+_<=1000;omega)))
 exact bO (n:=6) (ds:=[.scr ns]) [oS (.scr ns),ab,ab,ab,ab,ab,ab] rfl ((bq e20).trans ((bq (a4 (aA rfl (aA e22 .(q))) el)).trans ((bq (a4 (aA rfl aR) eS)).trans ((bq (a4 (aA rfl aR) eb)).trans ((bY ((cW ei).trans e1)).trans (bT rfl))))))
noncomputable def xi (K:bh):Sp:=fun vs H Q _=>∃(a:av) (ns:ac ag),vs=[.ref a]/\SqL K H a (ns.map V.int)/\ns.length<=63/\∀H',Q (.bl ai) H'
theorem all_mk {l:Ew} {h:Heap} {fa:av} (X:K.In h) (G:h.Ns fU mg) (hfa:mg "law"=aa (.ref fa))
  (aC_Shop:yL K fU "Shop"=aa (aa (.ref C_Shop)))
  (pg_Shop:uG K C_Shop fX=ai) (hd_Shop:yh K C_Shop=ai) (po_Shop:D8 K C_Shop=ai) (sa_Shop:dD K (.ref C_Shop) "__setattr__"=aa (aa (.builtin "object.__setattr__"))) (mk_Shop:yi K C_Shop=ai) (kc_Shop:iN K (.ref C_Shop)=ai)
  (n0_Shop:dD K (.ref C_Shop) "benches"=aa ab)
  (n1_Shop:dD K (.ref C_Shop) "steps"=aa ab)
  (n2_Shop:dD K (.ref C_Shop) "jobs"=aa ab)
  (n3_Shop:dD K (.ref C_Shop) "setups"=aa ab)
  (n4_Shop:dD K (.ref C_Shop) "links"=aa ab)
  (n5_Shop:dD K (.ref C_Shop) "stocks"=aa ab)
  (n6_Shop:dD K (.ref C_Shop) "horizon"=aa ab)
  (n7_Shop:dD K (.ref C_Shop) "bench_by_name"=aa ab)
  (n8_Shop:dD K (.ref C_Shop) "step_by_name"=aa ab)
  (n9_Shop:dD K (.ref C_Shop) "setup_by_names"=aa ab)
  (n10_Shop:dD K (.ref C_Shop) "job_by_step"=aa ab)
  (a80:yL K fU "law"=aa (aa (.ref f80))) (l80:K.lookup f80=aa ⟨oc80,od80,.func (gY "law" "law" (ig (top 92)) (eO (top 92)) (aU (top 92)) .none kV80 dc80 pm80 an80 cd80 ct80),sl80⟩) (c80:rC K cd80 "law"=ai) (k80:iN K (.ref f80)=ai)
  (V:Vd K mg C_Shop)
 : ∃fd:m4,(∀(s:aG) (v:Value),rA s fd ⟨[v],[]⟩ [("_law_script",v)])/\∀base:Heap,K.In base->base.Ns fU mg->FnOk l.prog w K mg base CX0 13 fa fd ["_law_script"] (xi K):=by
 have e:=hfa.symm.trans (yM X G a80);have e2:=Value.ref.inj (qF e);subst e2;have O_Shop:ClsOk .(n) K mg "Shop" C_Shop:=⟨by unfold Gam;rfl,⟨pg_Shop,hd_Shop,po_Shop,sa_Shop⟩,yM X G aC_Shop,mk_Shop,kc_Shop⟩;have cf_Shop:CF .(n) K "Shop" C6:=O_Shop.cf (jS.mpr ⟨n0_Shop,(jS.mpr ⟨n1_Shop,(jS.mpr ⟨n2_Shop,(jS.mpr ⟨n3_Shop,(jS.mpr ⟨n4_Shop,(jS.mpr ⟨n5_Shop,(jS.mpr ⟨n6_Shop,(jS.mpr ⟨n7_Shop,(jS.mpr ⟨n8_Shop,(jS.mpr ⟨n9_Shop,(jS.mpr ⟨n10_Shop,(List.forall_mem_nil _)⟩)⟩)⟩)⟩)⟩)⟩)⟩)⟩)⟩)⟩)⟩);have V:Vw K mg C_Shop:={V with O_Shop,cf_Shop};refine⟨gY "law" "law" (ig (top 92)) (eO (top 92)) (aU (top 92)) .none kV80 dc80 pm80 an80 cd80 ct80,fun s v=>.of_eq rfl,fun base _ _=>?_⟩;have FL:=v5 (st:=top 92) l80 c80 k80;have ok:FnOk l.prog w K mg base CX0 13 fa _ ["_law_script"] (spF .(n) K 1 Cm):=FL.okD (k:=12) mD (Iv V fa);refine ok.imp fun vs H Q E hq=>?_;obtain⟨a,ns,rfl,hS,hlen,k⟩:=hq;exact⟨H,[.scr ns],.bl ai,bK.refl H,.cons (.scr hS) .nil,rfl,ML ns hlen,fun v G' H' _ r=>by rw[r.bl_inv];exact k H'⟩
theorem walk {l:Ew} {q:bU} {d:yB} {K:yA->bh} (hn:l.most=aa 63) (hdf:d.params.defaults=[])
  (hY:∀(w:cQ) (h:Heap),YP w h->(K w.params).In h)
  (F:∀(w:cQ) (mg:ah->ar Value) (fa:av) (h:Heap),(K w.params).In h->h.Ns fU mg->mg d.name=aa (.ref fa)->
   ∃fd:m4,(∀(s:aG) (u:Value),rA s fd ⟨[u],[]⟩ [("_law_script",u)])/\∀base:Heap,(K w.params).In base->base.Ns fU mg->FnOk l.prog w (K w.params) mg base CX0 13 fa fd ["_law_script"] (xi (K w.params))) :
  Qf q loose XP YP l.row.toRowW d [] (fun f vs=>yC f vs):=
 L2.walk_of (n:=63) (k:=13) (x:="_law_script") (CX:=fun _=>CX0) (sp:=fun w=>xi (K w.params)) hn .(h) hdf ⟨rfl,by decide,by decide⟩ hY F (fun _ _ a ns hl _ hS=>⟨a,ns,rfl,hS,hl,fun _=>rfl⟩) fun _ _ _ _ _ z=>z
end Law
end L2
namespace PySem.W.Fast
def tw17287311768311738426:=()
def tw16616207598988243506:=()
def tw14023371647242159254:=()
def tw6331236034222441876:=()
def tw12080366656995358071:=()
def tw4694416544882992584:=()
def tw1500378890213678142:=()
def tw15240544603954891995:=()
def tw14144328911843419358:=()
def tw5604608814786364549:=()
def tw12106283737854061977:=()
def tw3954846241248074884:=()
def tw5469854246815462135:=()
def tw16806294002911547911:=()
def tw5662791591915827528:=()
def tw2167764393308930127:=()
def tw8195094936121643803:=()
def tw6356277474629466434:=()
def tw2471755797236556611:=()
def tw15409760293987001860:=()
def tw13451249498870396246:=()
def tw7479587297660551175:=()
def tw10919978812020455604:=()
def tw4902666115204650942:=()
def tw6330558994808169323:=()
def tw18059463824795468118:=()
def tw12902506857085469004:=()
def tw10005132096586946872:=()
def tw2627269667056457799:=()
def tw10133185524387679014:=()
def tw3149240514868628949:=()
def tw3023427560155667691:=()
def tw15124656648668614030:=()
def tw1085279731750292249:=()
def tw4194297645413830308:=()
def tw567736775181102951:=()
def tw4626209726725001145:=()
def tw7259541009191851729:=()
def tw10603688760290444609:=()
def tw7822241378614407062:=()
def tw15734590180034042853:=()
def tw17583785337233706270:=()
def tw1296088636903834168:=()
def tw9065904621310240393:=()
def tw7179507136559396079:=()
def tw5454151786671125004:=()
def tw924709427260236568:=()
def tw2938695076738883445:=()
def tw1987523833162523232:=()
def tw16192728233717441510:=()
def tw1030041795941667967:=()
def tw2990424547455996821:=()
def tw53635572808206364:=()
def tw14496978310643007172:=()
def tw8643144519562918842:=()
def tw11736846281927669701:=()
def tw5041863442642924130:=()
def tw10428433499938528501:=()
def tw942206253690363279:=()
def tw1094397191979024063:=()
def tw11254428920487734684:=()
def tw12691647794122353858:=()
def tw12070136065684809795:=()
def tw1516601652912000406:=()
def tw5123106147903773922:=()
def tw14197952292510174818:=()
def tw9702538639188927888:=()
def tw306196695180840519:=()
def tw2022298493299647163:=()
def tw16920448358264791811:=()
def tw15055547094601833292:=()
def tw6418076768526666051:=()
def tw9239071316644790592:=()
def tw3506351092133893103:=()
def tw6842546658847566055:=()
def tw14898324069751323602:=()
def tw7185832723598820262:=()
def tw3030655372236635618:=()
def tw4507510126836471513:=()
def tw14645618958826546805:=()
def tw14055130004929342743:=()
def tw13771170651820097622:=()
def tw9555210525721831159:=()
def tw14253338871222100916:=()
def tw79069887219449889:=()
def tw10354421039319532115:=()
def tw9304283513752694798:=()
def tw17211098387871781671:=()
def tw14701987322716924611:=()
def tw7612611780665392347:=()
def tw10425971633174027621:=()
def tw16067080695384978690:=()
def tw4619460274511757838:=()
def tw8443015367669059056:=()
def tw12934729129384588350:=()
def tw6312683398020697471:=()
def tw6928463614957857376:=()
def tw7149255099541120525:=()
def tw9534694332033181827:=()
def tw17452810419826844441:=()
def tw9252556833941801287:=()
def tw16940593586872494945:=()
def tw3587461890438877200:=()
def tw2694670760942594241:=()
def tw284579175711994663:=()
def tw9945424770547815296:=()
def tw3713900213942090674:=()
def tw9518080796313922805:=()
def tw6541005484399024611:=()
def tw2173337878533002576:=()
def tw745246858770686321:=()
def tw10407663346183976193:=()
def tw18014950179846280502:=()
def tw6712372047373657479:=()
def tw9388873441030170258:=()
def tw15788097248532883069:=()
def tw7635111713705894812:=()
def tw11672832894237450531:=()
def tw8891781789364918620:=()
def tw5671245790074579124:=()
def tw15660028224187496753:=()
def tw5973511567102753408:=()
def tw14231348851979303305:=()
def tw1508724961977756572:=()
def tw13852020551950667462:=()
def tw1068206257751012902:=()
def tw8637903114594097933:=()
def tw3800720946257655873:=()
def tw16218937963618332616:=()
def tw11790772961053129254:=()
def tw11612883799430625525:=()
def tw14697259176968592561:=()
def tw2539754480135635840:=()
def tw7339718519790762518:=()
def tw5334242287272567239:=()
def tw15092525751103279782:=()
def tw9979941054290434283:=()
def tw13288274708851065608:=()
def tw5915873805252836061:=()
def tw7736837980783967851:=()
def tw16862549318648804217:=()
def tw15023043072221716827:=()
def tw12079117489054740613:=()
def tw8328550036614352641:=()
def tw11850746661132170166:=()
def tw16211836626352447711:=()
def tw15871237962109871396:=()
def tw75334645772027137:=()
def tw6508666519020629391:=()
def tw4085864298259367624:=()
def tw8747839535680806215:=()
def tw17219741089666541312:=()
def tw11469940612842295907:=()
def tw15691279785107715460:=()
def tw11084589484431818473:=()
def tw8379136085281859012:=()
def tw6764014684105587812:=()
def tw9058339250716498460:=()
def tw2514449428791086694:=()
def tw11536820685690560987:=()
def tw5880012479176996700:=()
def tw15595177354048381026:=()
def tw7230628484753635305:=()
def tw16699938136564433993:=()
def tw12844699214020664102:=()
def tw15704850071615699956:=()
def tw6552726850762679652:=()
def tw17783675332775417715:=()
def tw7581379307527386351:=()
def tw2852147749834119791:=()
def tw11535098846355160847:=()
def tw6801042297662586055:=()
def tw10897970468262815301:=()
def tw14119189066806174807:=()
def tw1923786509098780699:=()
def tw12755978448921315509:=()
def tw4570273141620053103:=()
def tw674013381608916826:=()
def tw11796321853309730257:=()
def tw16189624740180636376:=()
def tw1558721472591111958:=()
def tw13377616241177570529:=()
def tw2665440853048068144:=()
def tw10718367356485457824:=()
def tw5679155735896834647:=()
def tw5881956648110684688:=()
def tw1904108336099883449:=()
def tw15658266573453143354:=()
def tw14391540482271084490:=()
def tw6133314130794288549:=()
def tw16720378800920038928:=()
def tw7119481775093671758:=()
def tw4020338650748143043:=()
def tw3514490012451527111:=()
def tw11352560013098508924:=()
def tw15814474181018607488:=()
def tw8544914819930820871:=()
def tw11474666897080279153:=()
def tw428472081708922918:=()
def tw13709063029158422698:=()
def tw4611715616987308614:=()
def tw2947640784135449265:=()
def tw4858256713037018858:=()
def tw12838881702887359451:=()
def tw8783769556778295363:=()
def tw9390750052342459507:=()
def tw8488678926200344336:=()
def tw2329422094031221498:=()
def tw16377428627758397468:=()
def tw335359524033714904:=()
def tw16226042267921290155:=()
def tw13410467077779294783:=()
def tw6723700532415837984:=()
def tw4214709172290456247:=()
def tw16529901694025430103:=()
def tw17099283637968675180:=()
def tw16087118740769114914:=()
def tw9175245888307286391:=()
def tw12670834368069738170:=()
def tw8398755507610391161:=()
def tw17235770104833701752:=()
def tw17901070188384853989:=()
def tw10569241348872820946:=()
def tw486252778008777037:=()
def tw17864749458075534616:=()
def tw7867643387725622338:=()
def tw13797252366132554687:=()
def tw13461439115532500431:=()
def tw16776985337539220308:=()
def tw5224681555122915387:=()
def tw13755680383687454373:=()
def tw14229118035866882535:=()
def tw12478322823224554537:=()
def tw17809886609200823748:=()
def tw9451583560971186299:=()
def tw2164058655271593516:=()
def tw11130998985258945891:=()
def tw13634555034424512723:=()
def tw2326686985816181092:=()
def tw7954634195696691801:=()
def tw3917808015373096345:=()
def tw7806114806265091764:=()
def tw5546140114589092463:=()
def tw1524660924726017849:=()
def tw15129011154210885336:=()
def tw14633620668297789436:=()
def tw10187093725996733016:=()
def tw3303675502791655613:=()
def tw10008223759408819164:=()
def tw14521497951671821400:=()
def tw2510554708104871071:=()
def tw8987713810842408428:=()
def tw9331665509525413712:=()
def tw15582968135215325811:=()
def tw5785587043647673199:=()
def tw10467575032937004940:=()
def tw1514682275808354291:=()
def tw6917377035457354417:=()
def tw9343941390823379119:=()
def tw7923544110015322850:=()
def tw1719963852119175439:=()
def tw13319199978238260529:=()
def tw9331409508253563201:=()
def tw13606139055786129004:=()
def tw3283988046123941578:=()
def tw526665140906079279:=()
def tw13327101487109524609:=()
def tw4775584379928050828:=()
def tw4934763567050202782:=()
def tw6877492261212433903:=()
def tw10289484992757928650:=()
def tw13975230097498569339:=()
def tw2201089224562612597:=()
def tw7153325620579800796:=()
def tw9981439882313458198:=()
def tw13579457800601713729:=()
def tw14333794720741225215:=()
def tw873911138086554371:=()
def tw18253200810626907435:=()
def tw1700528247072502162:=()
def tw18082786377666741098:=()
def tw8166512235487670535:=()
def tw9282353104281240957:=()
def tw605222290577204593:=()
def tw8371882690065662674:=()
def tw16329941884833279518:=()
def tw7868568745917522670:=()
def tw12693186350811096981:=()
def tw6983242685542421319:=()
def tw4102455456431366043:=()
def tw10506176929295978073:=()
def tw8281013337927997853:=()
def tw6409403404559228222:=()
def tw14734604824820388327:=()
def tw12406490833111158506:=()
def tw266588683436239904:=()
def tw12613952472755559046:=()
def tw14806171344077309253:=()
def tw2214601134352367238:=()
def tw15185992161307559086:=()
def tw7981322869940449871:=()
def tw13907906983232981506:=()
def tw4954893070200313247:=()
def tw9846463428067758110:=()
def tw15329849749092861853:=()
def tw14689805954514989002:=()
def tw278193834425657217:=()
def tw17411763958356609759:=()
def tw5064386356886881880:=()
def tw6811402335461071646:=()
def tw1707062790818872321:=()
def tw8051556416949633234:=()
def tw11044521375239718498:=()
def tw7298018640477226488:=()
def tw10433124251538956396:=()
def tw1306877088646646343:=()
def tw8549542089069933615:=()
def tw10832229691547478379:=()
def tw15025317282868109118:=()
def tw3458366640966622482:=()
def tw16511934759149672290:=()
def tw18048910314400296170:=()
def tw14032153631947692605:=()
def tw13421062834869785780:=()
def tw1428303670168490152:=()
def tw9743987312021117492:=()
def tw4997235153189108352:=()
def tw3524003374845042941:=()
def tw16294803848608512923:=()
def tw12062987206675899910:=()
def tw17441501712201188598:=()
def tw5285382256447590562:=()
def tw14723824779227756620:=()
def tw10722722979583554546:=()
def tw2057475304245987622:=()
def tw6986614189584607621:=()
def tw1390984874610961595:=()
def tw15975510772415165437:=()
def tw6207880445209070550:=()
def tw2444991557195208008:=()
def tw2861332798706016699:=()
def tw5366638323326388109:=()
def tw4896392224675888268:=()
def tw4236258765709695858:=()
def tw5915605082685169594:=()
def tw6698003807018803335:=()
def tw15599267897541940711:=()
def tw7808347844134203079:=()
def tw7855491944147467576:=()
def tw11436515792813671245:=()
def tw10662024135702129508:=()
def tw214802775583505232:=()
def tw9803868428535586738:=()
def tw1546601243888692524:=()
def tw5066081394071062910:=()
def tw2906778832289176329:=()
def tw15592671602807087621:=()
def tw15535282765109838370:=()
def tw4845302543946879092:=()
def tw4403280206223266910:=()
def tw16876500239689279143:=()
def tw13983272775819299231:=()
def tw1422807119477202236:=()
def tw11587908082573280658:=()
def tw4217792040407943777:=()
def tw15436042203051481125:=()
def tw8572715234581680327:=()
def tw9291443933710174815:=()
def tw2770597347360298021:=()
def tw11440386464590457029:=()
def tw13984137905950649186:=()
def tw1665592415036262302:=()
def tw13120377505712582087:=()
def tw4280343436090019174:=()
def tw5300974351640652263:=()
def tw8145038558395344979:=()
def tw17259086715255260250:=()
def tw14241277437637500234:=()
def tw3382303957663839221:=()
def tw17669379770060986714:=()
def tw6430855977008627610:=()
def tw18259245720953786255:=()
def tw11858325914824448834:=()
def tw14634306601571787196:=()
def tw14297504053313708761:=()
def tw5507132041439295850:=()
def tw14150045377643906870:=()
def tw6053440596540102917:=()
def tw17720769095500726032:=()
def tw12724570622685155360:=()
def tw7238090691026236501:=()
def tw4698508626447047030:=()
def tw9420840957682422740:=()
def tw8028941009728301694:=()
def tw13611281386657560473:=()
def tw16482898885677085863:=()
def tw14679153664469868826:=()
def tw10317469574728303194:=()
def tw4346036283667665708:=()
def tw12155631617771796113:=()
def tw9151685507748022599:=()
def tw4803770437114115328:=()
def tw11451496675345956752:=()
def tw7135116960773367589:=()
def tw3074141733171439947:=()
def tw7224429999872882738:=()
def tw7986834230719946920:=()
def tw10585751353121597741:=()
def tw11649405699600966798:=()
def tw5968111325666157871:=()
def tw1187746372876866038:=()
def tw10320344228382773100:=()
def tw6144738649896150691:=()
def tw6911685234047613459:=()
def tw2208756401508305896:=()
def tw7092466531830281766:=()
def tw2590086953173451897:=()
def tw2302200166629702146:=()
def tw3842099783938787391:=()
def tw14090262431441880841:=()
def tw15603976227940839664:=()
def tw16001406602657985265:=()
def tw2955494073380751442:=()
def tw14140161363302441123:=()
def tw14716343691755985158:=()
def tw7170915938408817940:=()
def tw9583307598661376952:=()
def tw17057466686608125133:=()
def tw3427329242790500137:=()
def tw13222487186583704602:=()
def tw16108132047160018032:=()
def tw4188619122699501308:=()
def tw17716532155531220586:=()
def tw2356277683570601774:=()
def tw3999830432680954803:=()
def tw7758383802122420340:=()
def tw15661673720012662543:=()
def tw10565743975399004503:=()
def tw11601529311057549288:=()
def tw16271803538664654368:=()
def tw402067206608948458:=()
def tw8704493212288423500:=()
def tw3926798688284621264:=()
def tw7363826450120893719:=()
def tw1891973641407934096:=()
def tw98972459549380464:=()
def tw11836931010500835447:=()
def tw16232428213312542468:=()
def tw18062347945933208425:=()
def tw14483190079715997735:=()
def tw5177594688237055857:=()
def tw1280314331452920962:=()
def tw8272400132473640486:=()
def tw3924721153510765422:=()
def tw15812392379799998626:=()
def tw7814091733675479164:=()
def tw5683101503555657272:=()
def tw15655741295912472951:=()
def tw17352486228825922325:=()
def tw15532516680190210566:=()
def tw9689279310515357186:=()
def tw676222996254164074:=()
def tw57518984708784285:=()
def tw2091840096715883081:=()
def tw14656402791579791636:=()
def tw11106607354077659585:=()
def tw17740104119583038555:=()
def tw5389750416884594256:=()
def tw12524228471566199700:=()
def tw3452218076584861809:=()
def tw4603837562146103813:=()
def tw13561304491166298961:=()
def tw5650178700515558582:=()
def tw9990831990911171847:=()
def tw13303913208196631325:=()
def tw11599558495901639917:=()
def tw16674736765018700775:=()
def tw10938958457052253349:=()
def tw7195241002323126528:=()
def tw5515958529012180018:=()
def tw2088630607593540459:=()
def tw14960932557731298027:=()
def tw9286964488395631647:=()
def tw13663567206530940109:=()
def tw4312111811766609612:=()
def tw14959807481374158089:=()
def tw16056131991891342263:=()
def tw4868305241519360740:=()
def tw10735295846000262658:=()
def tw6410478036480057424:=()
def tw625047015148037482:=()
def tw13749979005133876386:=()
def tw15804728953268462309:=()
def tw12605511793139277892:=()
def tw14670536447334236082:=()
def tw8399959539042281822:=()
def tw14530691235967973042:=()
def tw10663844848463747716:=()
def tw16904545315355139577:=()
def tw15582410117704172275:=()
def tw372114379247641446:=()
def tw14311906228157658366:=()
def tw16795870550065119513:=()
def tw9813439264279455459:=()
def tw15121219247036484137:=()
def tw14831438544958889947:=()
def tw18295902223384477267:=()
def tw18416961052343045824:=()
def tw889084001846437647:=()
def tw16484599657690339006:=()
def tw2522950628218143140:=()
def tw10140671217866144025:=()
def tw11299227535003086267:=()
def tw12089778594101767045:=()
def tw1176730301318493636:=()
def tw12986758778576211428:=()
def tw6613059304060086439:=()
def tw9871212904511073995:=()
def tw2852810272888790958:=()
def tw12729219873752562962:=()
def tw12616701245370770383:=()
def tw12704970588945331784:=()
def tw14473986426019815261:=()
def tw15385266016941807290:=()
def tw392608251120763794:=()
def tw13349199966117424001:=()
def tw6491865009819827894:=()
def tw9205668130233602507:=()
def tw14979386441565248231:=()
def tw71951910694199099:=()
def tw8957771918889755456:=()
def tw12570145963686234638:=()
def tw4687501366021526617:=()
def tw2622271823284044139:=()
def tw5194134169892108028:=()
def tw2142867750661204229:=()
def tw7469065183664529283:=()
def tw12297698542960903576:=()
def tw11945891965635581844:=()
def tw18329615497552098190:=()
end PySem.W.Fast
open PySem PySem.W PyProof.Rows L2
set_option maxRecDepth 100000 in
set_option maxHeartbeats 0 in
theorem PySem.Challenge.cw_shopbound_k27_whole_moment_by_moment_holds : PySem.Challenge.rw_shopbound_k27_whole_moment_by_moment.Holds := by
 w_on;o_law;k_head;(case hw=>w_witness2)
 k_fill
 refine Law.walk (l:=Sq) rfl rfl (fun w h Y=>PySem.W.kIn_of Y) ?F
 case F=>
  intro w mg fa h KX G hmg
  refine' Law.all_mk KX G hmg ?aC_Shop ?pg_Shop ?hd_Shop ?po_Shop ?sa_Shop ?mk_Shop ?kc_Shop ?n0_Shop ?n1_Shop ?n2_Shop ?n3_Shop ?n4_Shop ?n5_Shop ?n6_Shop ?n7_Shop ?n8_Shop ?n9_Shop ?n10_Shop ?a80 ?l80 ?c80 ?k80 ?V
  (case aC_Shop=>k_is)
  (case pg_Shop=>k_is)
  (case hd_Shop=>k_is)
  (case po_Shop=>k_is)
  (case sa_Shop=>k_is)
  (case mk_Shop=>k_is)
  (case kc_Shop=>k_is)
  (case n0_Shop=>k_is)
  (case n1_Shop=>k_is)
  (case n2_Shop=>k_is)
  (case n3_Shop=>k_is)
  (case n4_Shop=>k_is)
  (case n5_Shop=>k_is)
  (case n6_Shop=>k_is)
  (case n7_Shop=>k_is)
  (case n8_Shop=>k_is)
  (case n9_Shop=>k_is)
  (case n10_Shop=>k_is)
  (case a80=>k_is)
  (case l80=>k_is)
  (case c80=>k_is)
  (case k80=>k_is)
  (case V=>constructor;all_goals first|(refine' Dfn.mk' KX G ?a ?l ?c ?k;(case a=>k_is);(case l=>k_is);(case c=>k_is);(case k=>k_is))|(refine' DfnM.mk' ?a ?i ?l ?c ?k;(case a=>k_is);(case i=>k_is);(case l=>k_is);(case c=>k_is);(case k=>k_is))|(refine' PySem.W.mg_none_of KX G ?a;(case a=>k_is))|(refine' Law.tkI_of KX G ?a;(case a=>k_is)))
end
end
