import PyProof.Rows.All
import Wide.All
import OpenK.AllK
import Wide.FinOn
import Lean
import PyProof.EqAt
import PyProof.EqKinds
import PyProof.TupleCall
import PySem.SetOps
import KE.KDictOf
import PyProof.AttrMiss
import PyProof.IsiH_list
import PyProof.WalkInts
import KE.KMinBuiltin
import PyProof.Rows.CallKwBuiltin
import KE.KEqDict
import KE.KItemsList
import KE.KDictSum
import KE.KRevSl
import PyProof.Rows.SortStr
import PyProof.Rows.SortWalk
import PyProof.DictWalks
import KE.KTryMore
import PyProof.NsDelKeeps
import PyProof.ExcAttrAll.ValueError
import PyProof.StrReplace2
import PyProof.ReprStr
import PyProof.Rows.RuleU_int
import PyProof.InstStoreFacts
import PyProof.ExcInit
import PyProof.MinMaxWalk
import PyProof.ListIndex
import KE.KDictList
import KE.KMinKey
import KE.KLam
import KE.KNestM
import PyProof.Rows.StrInSeq3
import PyProof.PureStr
import PyProof.Rows.SumAny
import PySem.Challenge.RW_shopbound_k21_first_wish_broken
set_option Elab.async false
set_option linter.all false
set_option maxRecDepth 100000
open Option renaming some->aa,none->ab,isSome_iff_exists->g0,isSome_map->nc,map->rN,getD_some->Fg,getD_none->QR,bind_none->Rf,join_some->Rq,or_eq_some_iff->Sz
open _root_ renaming List->ac,Int->ag,Nat->al,Option->ar,Bool->aX,absurd->bN,Array->bR,if_true->cA,congrArg->cK,if_false->c4,String->c9,DecidableEq->er,of_decide_eq_true->fL,beq_iff_eq->kC,Unit->lO,beq_eq_false_iff_ne->mW,not_or->rY,decide_eq_decide->si,decide_not->so,and_self->vq,decide_eq_false_iff_not->Fp,decide_eq_true_eq->Rl,instBEqOfDecidableEq->RJ
open Bool renaming true->ai,false->aq,and_eq_true->gI,not_true->iA,not_false->lY,eq_iff_iff->oI,and_false->uY,true_and->vm,false_or->yW,or_eq_true->E1,eq_false_iff->Fe,not_eq_true'->Fn,and_true->RI,or_true->Sc,decide_or->Sv
open PySem renaming Str->ak,Addr->aw,Shared->aI,wpAny->aM,model->aQ,sizeLine->aV,starEach->a6,Obj->bd,tupleKeyHash->bP,cLine->cg,backTo->cC,World->cS,Env->dc,compareOp->dh,Pos->dq,Program->dy,intKind->eA,Around->eB,sizeLine_eq->eX,swapsWith->fK,mainGlobals->fY,attributeBase->gx,wpAny_mono->gY,NameKind->gZ,SetTable->hW,codeAny->iu,wpAny_holding->iz,binaryOp->i6,backToKw->i8,keywordEach->i9,Keyword->jc,holding->jM,assignEach->jN,pyNext->jO,argBest->jR,sysModules->kr,tupleKind->ku,wpAny_truthy_bool->kz,assign->kA,rawInt->kB,wpAny_setState_of->kI,bootBuiltins->lN,behindInMarks->lP,wpAny_newObj_type->lQ,bindArgs->lS,bindL->lU,bindC->lV,atKey->lX,FuncData->m4,mem_of_lookup->m5,IsPart->m6,getItem->m8,valueAt->m9,callerA->ng,standAt->oF,pyIter->oG,foldedSetIterable->oH,getMethod->oJ,sliceBounds->oK,call_meetsIn->oO,argsOk->oP,setAdd->oU,GenState->rn,callWith->rq,BindsTo->rA,codeAny_mono->rB,wpAny_call_entry->rD,wpAny_typeOf->rE,tupleKind_room_in1->rJ,wpAny_pyIter_list->rR,PyData->rS,codeAny_builtin->rW,typeLookup_type->rZ,builtinLookup_eq_fast->sd,pickOrder->se,Model->uM,letOwnedTupleGo->uO,wpAny_passesOwn->uP,typeLookup->uU,typeIs_str->uV,call_meets->uX,Slot->u3,wpAny_of_eq->vg,wpAny_askSetting->vh,swapsWithSole->yy,swappedStores->yz,bindName->yA,lastMarks->yD,wpAny_call->yJ,wpAny_Call_Name_kw->yK,cellsFrom->yL,pick_run->yP,subscripted->yS,Params->yZ,DefRec->y0,call->y6,relabel->y9,plainId_quiet->zp,setSearchFrom->zt,wpAny_storeSet_of->zv,wpAny_attempt->zx,wpAny_isInstance->zy,entryFor->zz,isSubtype_type->zE,wpAny_ite_split->zF,Within->En,builtinsNs->Ep,wpAny_Name->Er,wpAny_execs_nil->Es,assignInOrder->Et,wpAny_standAt->Ev,wpAny_rule->Ew,wpAny_field->EK,wpAny_callSpecial?_slot->EL,typeIs_int->EQ,wpAny_specialOf->ES,wpAny_Call_method->ET,compEnvC->EX,wpAny_seqItems->Fi,wpAny_forIn_list->Fj,ofAClassStatement->Fk,intKind_is->Fq,signature?_of->Fs,setsByText->Ft,wpAny_setEntries_of->Fu,wpAny_setField->Fv,wpAny_isTrue_Compare1->Qy,wpAny_execs_cons->QA,wpAny_assign_Name->QB,wpAny_bindName->QE,slot_list_getitem->QQ,sliceRange_one->QS,wpAny_comprehension_free->Rb,wpAny_pyIter_enum->Rc,codeAny_of_tree->Ry,codeAny_call_builtin->RA,hashByValue_scannable->RC,carriedByValue->RD,searchCouldBeSeen->RE,wpAny_eqIsQuiet_tuple->RF,setAddHashedIn->RH,getAttrByItsOwn->RK,boundAndCalled->RL,getattributeRaised->RM,entryFor_of_tree->RN,entryFor_alias->RZ,wpAny_fieldsOf->R6,firstArgMember->R9,wpAny_pyIter_slot->R'
open PySem.W renaming Frag->bi,findIn->dG,fnOf->hG,keepIn->i7,kia_one->jP,emptyDict->lR,instObj->mX,codeIn->rC,plainGet->uQ,isFn->uR,lookIn->yE,hasDictIn->yF,makesIn->yG,nsIn->zd,mg_of->ze,methodObj->Eo,plainGet_of->Ez,plainOver->EA,takerIn->EB,methodCall_KW->EC,callWith_K->EF,fd_plain->EU,OpenLaw->EW,handedIn->QH,kitOne->QI,kitx_list->QJ,kitx_dict->QK,cellsFrom_some->QM,WalkO->Ra,keq_ne->Sd
open List renaming mem_map->bw,mem_singleton->bX,replicate->ce,mem_cons->cM,range->cP,getElem?_eq_some_iff->cX,mem_append->dn,lookup->dz,find?_cons->eC,mem_range->eV,length->f8,mem_filter->gw,map_append->gK,take_length->iB,length_drop->ja,foldl_cons->jd,forall_mem_cons->jU,nodup_cons->kD,any_cons->kF,length_mapIdx->kG,mergeSort_perm->kK,nodup_append->kM,append_nil->lT,replicate_succ->lW,getElem?_set_ne->mY,length_filter_le->na,drop_zero->ni,take_succ->nr,getD_eq_getElem?_getD->nu,findSome?_cons->nv,flatten_cons->oM,append_assoc->oN,lookup_cons->oQ,getD->oR,set_cons_zero->oW,map_congr_left->oY,head?_append->oZ,filterMap_cons->rm,mem_filterMap->ro,filter_cons->rG,take_of_length_le->rO,all_eq_true->rP,getElem_mem->rQ,take_append_drop->rT,map_drop->sk,getElem?_set_self->uN,any_eq_true->u4,drop_eq_getElem_cons->u6,mem_iff_getElem?->u7,mem_of_mem_take->u9,mem_of_find?_eq_some->vc,take->vd,find?_eq_none->ve,mem_append_left->yx,getElem?_replicate->yM,getElem?_take_of_lt->yN,mem_iff_getElem->zb,drop_length->zc,pairwise_iff_getElem->zh,nodup_range->zk,find?_some->zm,pairwise_map->zo,foldl_append->zr,pairwise_mergeSort->zB,findIdx?->zD,length_pos_iff->zH,getElem?_of_mem->zI,map_id->zJ,of_mem_zip->EG,take_sublist->EH,foldl->ER,getElem?_eq_none->EZ,filterMap->E3,getElem?_mapIdx->E4,mem_of_mem_drop->Fc,pairwise_cons->Fd,nodup_iff_pairwise_ne->Ff,flatMap_cons->Fw,take_add_one->Fx,set_cons_succ->Fy,map_take->FB,length_filterMap_le->FC,filter_eq_nil_iff->FD,head?_map->FF,head?_filter->FH,getElem_inj->Qu,any_eq_false->QG,append_inj'->Re,getElem?_drop->Rn,filterMap_cons_some->Rs,not_lt->RQ,perm_middle->RY,map_inj_right->Sf,map_id'->Sg,drop_of_length_le->Sj,getElem_range->Sl,getElem_map->Sm,find?_append->Sn,any_map->So,filter_congr->Sq,mem_flatMap->Sr,filterMap_append->Ss,findSome?_eq_none_iff->Su,le_refl->Sx,mem_of_head?->SA,Sublist->SB
open Pure renaming pure->bB
open PySem.SetTable renaming below->b6,insertAt->ci,runEnd->df,bits->fM,leap->jf,sizeAbove->kH,fresh->kJ,tooFull->lZ,turns->nk,fits->oT,grown->rV,has->zj,Probe->zl,fill->Fa,slot->Rk,layClean->Rr,relaid->Rt,laid->Ru,orStandIn->RX
open PySem.PassesOwn renaming never->ca
open PySem.Value renaming ref->cc,int->cZ,bool->jL,type->lM,none->oE,str->rj,isInt->yw,float->Em,isStrOf->Qs,bytes->Qt
open Sum renaming inr->cz,inl->oC
open Or renaming inr->cG,inl->di
open Ne renaming symm->dF
open PySem.SeqAt renaming shaped->dH
open PyProof.Rows renaming envOfC->fy,IntsAre->jb,AllBare->ky,callWith_type1->yC,assignInOrder_cons->Eu,slot_tuple_getitem->EM,Subscript_->EN,subscriptTail->EO,assignInOrder_nil->QC,slicePart_none->QN,subscriptTail_builtinR->QP,callWith_builtin1->Te,boot_enumerate->Tk,neg_int->Tt
open Array renaming length_toList->fJ,getElem?_eq_some_iff->gJ,getD_eq_getD_getElem?->zi,toArray_toList->zC,mem_toList_iff->Ey,toList->Qz,getElem_toList->Rj,replicate->Ro,filterMap->Rv,forIn_toList->RB,getElem?_eq_getElem->R5
open PySem.PyData renaming str->fN,eqv->hV,canLayAll0->jQ,canLay0->jT,depth->kL,eqvAll->kN,depthAll->nj,tuple->Rg,int->Rh,strOk->Se
open PySem.Str renaming empty->fZ,length->rF,ofString->yQ
open Sum.inr renaming inj->gH
open List.cons renaming inj->hU
open PySem.Heap renaming SameBut->iq,size_push->mZ,dictOf_iff->zA,get?_update_self->Fm
open False renaming elim->ir
open True renaming intro->iw
open Nat renaming zero_le->ix,le_succ->iy,lt_or_ge->je,zero_add->jS,lt_irrefl->kx,le_of_lt->rl,lt_trans->rH,lt_succ_self->uS,not_lt->u0,succ_pos->u8,lt_succ_of_lt->vk,ne_of_gt->yB,le_of_eq->yH,succ_mul->yV,mod_lt->zf,min_le_right->EI,add_assoc->E6,lt_succ_iff->E7,le_add_right->E8,not_lt_zero->E9,mul_comm->QX,le_of_not_lt->Q6,lt_trichotomy->Ri,min_eq_left->Rm,min_def->Si,add_le_add->Sy
open Int renaming toNat_natCast->l0,le_refl->sj,le_trans->zG,not_le->zK,mul_nonneg->Fz,mul_one->QF,le_total->Sb,eq_ofNat_of_zero_le->Sk,add_zero->Sw,emod_two_eq->SC
open PySem.NameKind renaming free->nh,cell->y7
open PySem.F renaming called_set->nq,slot_dict_get->rK,entry_dict_get->yX,plainAttrs_dict->yY,slot_list_getattribute->zw,plainAttrs_list->E5,slot_list_append->QU,slot_list_extend->QV,slot_int_rmul->QW,slot_dict_delitem->QY,slot_dict_pop->QZ,args_dict_get_2->Q2,args_dict_get_3->Q3,type_dict_get->Q4,plain_set_new->Rz,slot_list_index->RP,slot_dict_values->RW
open PySem.Heap.SameBut renaming update->oV,refl->EY
open List.Pairwise renaming map->oX,nil->EV,imp_of_mem->Rp,filterMap->Tn
open ForInStep renaming yield->rL
open PySem.SetTable.layClean renaming free->rU
open PySem.Obj renaming data_mapFields->sg,mapFields->vo,putSet->zu,mapSeq->QT,isFreed_of_fields->R7,cls_mapFields->R8
open PySem.Calls renaming spliced_cons->uT,callWith_builtin->uW,spliced_nil->yI,evalArgs_plain->yT,Name_function_global->Qv
open ForIn renaming forIn->uZ
open PySem.Walks renaming list->u5,dictValues->RT,dictKeys->RU
open PySem.Around renaming under_plainId->vf,under->ED
open PySem.Builtin.Slice renaming slicePlaces->yO,sliceAdjust->EJ,sliceApplied->QO,slicePartIndex->Tf,sliceFields->Tg
open PySem.Builtin.Tuple renaming tupleExact->yR,tupleItemsOf->Th
open PySem.Builtin.List renaming listTooLong->yU,listLengthHint->Sa,listFitsIndex->Tj
open PySem.Builtin.Str renaming strSliceIndices->za,tooLong->Tl
open PySem.SetTable.below renaming go->zg
open PySem.Shared renaming TypeIs->zq
open PyProof.Rows.IsTup renaming new->Ex
open PySem.Code renaming isFrame->EE,frames->QL
open PySem.Txt renaming slice->E2
open PySem.SetTable.probe renaming go->Fb
open PyProof.Rows.F renaming plain_set_update_loop->Fh,entry_set_update_loop->Rw
open PySem.CmpOp renaming In->Qw,NotIn->Qx
open PySem.Flow renaming next->QD
open PySem.Heap.DictOf renaming new->Q0
open PySem.W.WData renaming int->Q5
open PySem.W.WShape renaming has->Q7
open PySem.W.Dflts renaming none->Q8,noKw->Q9
open PySem.Moved renaming trans->Rx
open Prod.mk renaming inj->RG
open PySem.Builtin.Dict renaming updateFrom->RO,addKeywords->Tq,pairItems->Tr,selfAndRest->Ts
open List.Perm renaming eq_of_pairwise->RS,append_left->R4
open Option.some renaming injEq->RV,inj->SL
open PySem.Manifest renaming owners->R0
open String renaming ofList->R1
open PySem.pickOrder renaming go->R3
open List.Sublist renaming nodup->Sh
open PySem.Builtin.Range renaming rangeSize->SM
open PySem.EqNone renaming eq_none_none->SN,eq_none_bool->SO,eq_none_int->SQ,eq_none_str->SS,eq_bool_none->SU,eq_int_none->SW,eq_str_none->SY,ne_none_none->S1,ne_none_bool->S2,ne_none_int->S3,ne_none_str->S4,ne_bool_none->S5,ne_int_none->S7,ne_str_none->S9
open PySem.EqMixed renaming eq_bool_str->SV,eq_int_str->SX,eq_str_bool->SZ,eq_str_int->S0,ne_bool_str->S6,ne_int_str->S8,ne_str_bool->S',ne_str_int->Ta
open PySem.W.Looks renaming here->Tc
open PySem.Within renaming cons->Td
open PySem.Heap.IsSliceOf renaming new->Ti
open PySem.Builtin.Frozenset renaming newClass->To,updateFrom->Tp,slot0->Tu,sizeOf->Tv
open PySem.Challenge renaming pw_shopbound_k21_first_wish_broken->Tw,rw_shopbound_k21_first_wish_broken->Tx
set_option hygiene false
local macro_rules
|`(.(a))=>`(aF bs ss js us ls ks h)
|`(.(b))=>`(bn fun _ _ _ _ _ _ _=>rfl)
|`(.(c))=>`(vC (.int 1))
|`(.(d))=>`(vC (.int 0))
|`(.(e))=>`(aR bs ss js us ls ks h)
|`(.(f))=>`(by omega)
|`(.(g))=>`(by decide)
|`(.(h))=>`(dC (j0 V) hr (ah (DO.de (cu rfl .(m) (FvOk.of (N':=["row"]) (fv:=[ab]) rfl) (bu (af 0)) ⟨fun _ _ _ _ _=>⟨.(Y),cq,.(t)⟩⟩)) av) ln1)
|`(.(i))=>`(vC (.int 2))
|`(.(j))=>`(vC (.int 3))
|`(.(k))=>`(.lst (ds.map D.int))
|`(.(l))=>`(vC (.int 4))
|`(.(m))=>`(CompScope.of rfl rfl)
|`(.(n))=>`(aA rfl (aA rfl aO))
|`(.(o))=>`(Gam C_Shop)
|`(.(p))=>`(.tail _ (.tail _ (.tail _ (.tail _ (.tail _ (.tail _ (.head _)))))))
|`(.(q))=>`(aQ X.prog X.w)
|`(.(r))=>`(b2 ixD (vSh 0) .(d))
|`(.(s))=>`(by decide +kernel)
|`(.(t))=>`(aB (af 0) ao)
|`(.(u))=>`(.str s.nm)
|`(.(v))=>`(ax (aG 9 (cF ig (ae (vSh 2) (ae (b2 cv (b2 ixD (vSh 7) .(c)) (cF gS (ae (b2 eqD (b2 ixD (vSh 7) .(i)) .(d)) aj))) aj)))) (ax (aG 10 (cF gC (ae .(d) (ae (b2 eN (vSh 2) (b2 cv (b2 ixD (vSh 7) .(l)) (cF gS (ae (b2 eqD (b2 ixD (vSh 7) .(i)) .(c)) aj)))) aj)))) (ax (aG 8 (b2 aK (slF (vSh 8) (pS (b2 bz (b2 ixD (vSh 7) (vC (.int 5))) .(i))) pN) (slF (vSh 8) pN (pS (b2 bz (b2 ixD (vSh 7) (vC (.int 5))) .(i)))))) (c7 3 (aT (szF (ae (cF fX (ae (b2 aK (vC (.int 70)) (vSh 5)) aj)) (ae (vSh 9) (ae (vSh 10) (ae (b2 eqD (b2 ixD (vSh 7) .(j)) .(c)) (ae (vSh 8) aj)))))))))))
|`(.(w))=>`(t.put (J t.mask Hk n0))
|`(.(x))=>`(ax (aG 6 (b2 ixD (b2 ixD (vSh 1) (b2 bz (b2 ixD (vSh 4) (b2 aK .(c) (b2 cv .(j) (vSh 5)))) (cF b9 .(K)))) .(d))) (ax (aG 7 (b2 ixD (b2 ixD (vSh 1) (b2 bz (b2 ixD (vSh 4) (b2 aK .(i) (b2 cv .(j) (vSh 5)))) (cF b9 .(K)))) .(d))) (sIf (bwT 3 (cD (toB (b2 neA (vSh 6) (vSh 7))) (toB (b2 fV (aT (szF (ae (vSh 6) (ae (vSh 7) aj)))) (aH (a9 (itF (vSh 3)) (ay 0) tT (slF (vSh 0) pN (pS .(i))) [ab])))))) (c7 3 (aT (szF (ae (vSh 6) (ae (vSh 7) (ae (cF ig (ae (vSh 2) (ae (b2 ixD (vSh 4) (b2 aK .(j) (b2 cv .(j) (vSh 5)))) aj))) aj)))))) aP)))
|`(.(y))=>`(J t.mask (bP knd k) n0)
local macro_rules
|`(.(z))=>`(ax (dL 8 (szF (ae (aT (szF (ae (b2 ixD (b2 ixD (vSh 1) (b2 ixD (vSh 7) .(c))) .(d)) (ae (b2 aK .(c) (b2 bz (b2 ixD (vSh 7) .(i)) (vSh 2))) aj)))) aj))) (ax (sIf (cD (toB (b2 eqD (b2 ixD (vSh 7) .(d)) .(d))) (toB (b2 neA (b2 ixD (vSh 7) .(j)) (b2 ixD (vSh 7) .(c))))) (c7 8 (aT (szF (ae (b2 ixD (b2 ixD (vSh 1) (b2 ixD (vSh 7) .(j))) .(d)) (ae (b2 aK .(c) (b2 bz (b2 ixD (vSh 7) .(l)) (vSh 2))) aj))))) aP) (eF 8 (c7 4 (aT (szF (ae (cF fX (ae (vSh 5) aj)) (ae (b2 ixD (vC (.str "pqr")) (b2 ixD (vSh 7) (vC (.int 5)))) (ae (vSh 8) aj)))))))))
|`(.(A))=>`(ax (sIf (cD (toB (b2 eqD (b2 ixD (vSh 5) .(i)) (vC (.int 11)))) (toB (b2 eqD (b2 ixD (vSh 5) .(c)) (vC (.int 6))))) (o4 3 (vSh 6)) aP) (sIf (cD (toB (b2 eqD (b2 ixD (vSh 5) .(i)) (vC (.int 10)))) (toB (b2 eqD (b2 ixD (vSh 5) .(c)) (vC (.int 6))))) (ax (eK 3 (b2 aK (vC (.str "zz")) (b2 cv (vC (.str "y")) (b2 bz (vSh 2) .(i)))) (aT (szF (ae (vSh 9) (ae (vSh 10) aj))))) (eK 3 (slF (vC (.str "zx")) pN (pS (b2 aK .(c) (b2 bz (b2 dA (vSh 2) .(i)) .(i))))) (aT (szF (ae (vSh 9) (ae (vSh 10) aj)))))) aP))
|`(.(B))=>`(s.heap.push {cls:=.type "set",dict:=ab,data:=.set #[] 0 (.fresh 0 0 led)})
|`(.(C))=>`(ax (aG 7 (aH (a9 (itE (vSh 1)) (bJ 2 (aJ (ay 0) (aJ (ay 1) bI))) (toB (b2 eqD (b2 bz (b2 dA (b2 aK (b2 ixD (vSh 2) .(l)) (vSh 3)) (b2 ixD (aH (szF (ae .(c) (ae .(i) (ae .(l) aj))))) (b2 bz (vSh 0) .(j)))) .(i)) .(c))) (aT (szF (ae (b2 ixD (vSh 1) .(d)) (ae (b2 aK .(c) (b2 ixD (vSh 2) (vC (.int 6)))) aj)))) [ab,ab,aa 2,aa 4]))) (c7 3 (aT (szF (ae (cF fX (ae (b2 aK (vC (.int 80)) (vSh 4)) aj)) (ae (b2 ixD (vSh 2) .(c)) (ae (vSh 5) (ae (vSh 6) (ae (vSh 7) aj)))))))))
|`(.(D))=>`(ax (aG 6 (b2 ixD (b2 ixD (vSh 1) (b2 bz (vSh 4) (cF b9 .(K)))) .(d))) (ax (aG 7 (aT (szF (ae (vSh 6) (ae (b2 ixD (vC (.str "pqr")) (b2 bz (vSh 4) .(j))) (ae (b2 ixD (vC (.str "pqr")) (b2 bz (b2 aK (vSh 4) (vSh 5)) .(j))) (ae (cF ig (ae (vSh 2) (ae (vSh 5) aj))) aj))))))) (sIf (bwT 3 (cD (toB (b2 gtD (vSh 5) .(d))) (toB (b2 fV (slF (vSh 7) pN (pS .(j))) (aH (a9 (itF (vSh 3)) (ay 0) tT (slF (vSh 0) pN (pS .(j))) [ab])))))) (c7 3 (vSh 7)) aP)))
|`(.(E))=>`(x==("__debug__":ak))
|`(.(F))=>`(.ListComp elt [⟨tg,iter,ifs,0⟩] scope pos)
|`(.(G))=>`(au rfl rfl rfl)
|`(.(H))=>`(ax (aG 6 (slF (aH (szF (ae (aT (szF (ae (b2 ixD (vSh 5) .(c)) (ae (b2 ixD (vSh 5) .(i)) aj)))) (ae (aT (szF (ae (b2 ixD (vSh 5) .(j)) (ae (b2 ixD (vSh 5) .(l)) aj)))) (ae (aT (szF (ae (b2 ixD (vSh 5) (vC (.int 5))) (ae (b2 ixD (vSh 5) (vC (.int 6))) aj)))) aj))))) pN (pS (b2 ixD (vSh 5) .(d))))) (c7 2 (aT (szF (ae (cF fX (ae (b2 aK (vC (.int 60)) (vSh 3)) aj)) (ae (cF sr (ae (vSh 6) .(K))) aj))))))
|`(.(I))=>`(ax (aG 6 (cF dQ (ae (cF dS (ae (vSh 0) (ae (b2 aK (vSh 1) (vSh 4)) aj))) (ae (b2 aK (vSh 4) (vC (.int 31))) (ae (aH (szF (ae (cF b9 (ae (b2 ixD (vSh 5) .(i)) aj)) (ae (vC (.int 40)) (ae (vC (.int 9)) aj))))) aj))))) (eK 3 (b2 ixD (vSh 5) .(d)) (aT (szF (ae (b2 ixD (b2 ixD (b2 ixD (vSh 5) .(i)) (b2 ixD (vSh 6) .(d))) .(d)) (ae (b2 bz (b2 ixD (vSh 6) .(c)) (b2 aK (b2 ixD (vSh 2) (vC (.int 6))) .(c))) aj))))))
|`(.(J))=>`(aE (vC (.bl aq)))
|`(.(K))=>`(ae (vSh 1) aj)
|`(.(L))=>`(ax (aG 5 (b2 aK (b2 ixD (vSh 2) .(c)) (b2 ixD (vSh 2) .(i)))) (ax (aG 6 (aH (a9 (itE (vSh 1)) (bJ 2 (aJ (ay 0) (aJ (ay 1) bI))) (toB (b2 eqD (b2 bz (b2 dA (b2 aK (b2 ixD (vSh 2) .(j)) (vSh 3)) (b2 ixD (aH (szF (ae .(c) (ae .(i) (ae .(l) aj))))) (b2 bz (vSh 0) .(j)))) .(i)) .(c))) (aT (szF (ae (b2 ixD (vSh 1) .(d)) (ae (b2 aK .(c) (b2 ixD (vSh 2) (vC (.int 5)))) aj)))) [ab,ab,aa 2,aa 4]))) .(C)))
|`(.(M))=>`(b6 t.place (J t.mask h n0))
|`(.(N))=>`(ax (sIf (cD (toB (b2 ixD (vSh 2) .(j))) (toB (b2 ltD (b2 ixD (b2 aW (vSh 0) (vSh 5)) .(c)) (b2 aW (vSh 1) (vSh 4))))) (aE (aH (szF (ae (aT (szF (ae (vC (.str "apart")) (ae (vSh 4) (ae (vSh 5) aj))))) aj)))) aP) (sIf (toB (cF kP (ae (vSh 0) (ae (vSh 1) (ae (vSh 4) (ae (vSh 5) aj)))))) (aE (aH (szF (ae (aT (szF (ae (vC (.str "apart")) (ae (vSh 4) (ae (vSh 5) aj))))) aj)))) aP))
|`(.(O))=>`(aJ (ay 4) (aJ (ay 5) bI))
|`(.(P))=>`(sIf (orT (toB (b2 ltD (vSh 6) .(d))) (toB (b2 gtD (vSh 6) (b2 ixD (vSh 4) .(i))))) (aE (aH (szF (ae (aT (szF (ae (vC (.str "stock")) (ae (b2 ixD (vSh 4) .(d)) (ae (vSh 5) aj))))) aj)))) aP)
|`(.(Q))=>`(aQ prog w)
|`(.(R))=>`(ae (b2 dA (vSh 2) .(j)) (ae (vSh 4) (ae (aH (szF (ae (cF b9 (ae (b2 ixD (vSh 1) .(c)) aj)) (ae (vC (.int 7)) (ae (vC (.int 12)) (ae (cF b9 (ae (b2 ixD (vSh 1) .(d)) aj)) aj)))))) aj)))
|`(.(S))=>`(chE P L c Q a (oS .(k)) (oS (.str x)) e f (oS (.str bn)) (oS (.int st)) k)
|`(.(T))=>`(ae (vSh 0) aj)
|`(.(U))=>`(ax (aG 6 (cF tY (ae (vSh 4) (ae (vSh 2) (ae (vSh 5) aj))))) (ax (aG 7 (cF sD (ae (vSh 6) aj))) (ax (aG 8 (cF om (ae (vSh 3) (ae (vSh 7) aj)))) (ax (aG 9 (cF mB (ae (vSh 6) .(an)))) (sIf (orT (toB (b2 neA (vSh 8) (vSh 9))) (orT (toB (b2 neA (b2 isD (vSh 8) (vC .non)) (b2 isD (vSh 9) (vC .non)))) (toB (b2 pA (vSh 7) (vSh 6))))) .(J) aP)))))
|`(.(V))=>`(b2 aW (vSh 1) (vSh 3))
|`(.(W))=>`(ah (af 1) av)
|`(.(X))=>`(s.heap.objs.size+1)
local macro_rules
|`(.(Y))=>`(aL 0 (show(["row"]:ac ak).Nodup by decide +kernel))
|`(.(Z))=>`(aG 11 (aH (szF (ae (aT (szF (ae (vSh 9) (ae (b2 eN (b2 aK (vSh 10) (b2 ixD (vSh 5) .(i))) .(l)) aj)))) (ae (aT (szF (ae (vSh 9) (ae (b2 aK (vSh 10) .(c)) aj)))) (ae (aT (szF (ae (vSh 9) (ae (b2 eN (vSh 10) .(c)) aj)))) (ae (aT (szF (ae (b2 ixD (b2 ixD (b2 ixD (vSh 1) .(d)) (b2 ixD (vSh 5) .(j))) .(d)) (ae (vSh 10) aj)))) aj)))))))
|`(.(aa))=>`(ax (aG 7 (cF dQ (ae (vSh 6) (ae (b2 aK (vSh 5) (vC (.int 17))) (ae (aH (szF (ae .(l) (ae .(j) (ae .(j) (ae .(i) (ae (vC (.int 5)) (ae (vC (.int 7)) aj)))))))) aj))))) (ax (aG 8 (slF (vSh 4) pN (pS (b2 ixD (vSh 7) .(d))))) (ax (aG 4 (slF (vSh 4) (pS (b2 ixD (vSh 7) .(d))) pN)) (sIf (toB (b2 neA (vSh 8) (aH (szF aj)))) .(v) aP))))
|`(.(ab))=>`(ax (dM (bJ 2 (aJ (ay 8) (aJ (ay 9) bI))) (b2 aW (vSh 0) (vSh 5))) (ax (aG 10 (b3 ip (cF fW (ae (vSh 7) aj)) (vSh 8) .(d))) (sIf (orT (toB (b2 eqD (vSh 10) .(d))) (orT (toB (b2 ltD (vSh 9) .(d))) (toB (b2 gtD (b2 aK (vSh 9) (vSh 10)) (b2 ixD (vSh 1) (vC (.int 6))))))) (aE (aT (szF (ae (vC (.str "way")) (ae (vSh 5) aj))))) aP)))
|`(.(ac))=>`(aG 11 (b2 aK (vSh 11) (aH (szF (ae (aT (szF (ae (b2 ixD (b2 ixD (vSh 8) (b1 uj .(c))) .(d)) (ae (cF gC (ae .(d) (ae (b2 eN (vSh 10) .(c)) aj))) aj)))) (ae (aT (szF (ae (vC (.str "zz")) (ae (vSh 10) aj)))) (ae (aT (szF (ae (vSh 9) (ae (b2 eN (b2 ixD (vSh 1) (vC (.int 6))) (b2 bz (b2 ixD (vSh 5) .(i)) .(j))) aj)))) aj)))))))
|`(.(ad))=>`(ax (aG 3 (b2 aK (b2 bz (b2 aK (vSh 3) (vSh 0)) (vC (.int 2147483629))) (vC (.int 48271)))) (ax (aG 3 (b2 aK (vSh 3) (b2 cv (b2 cv (vC (.int 7919)) (b2 aK (vSh 1) (vSh 5))) (b2 aK (vSh 1) (vSh 5))))) (ax (aG 3 (b2 bz (b2 cv (vSh 3) (vSh 3)) (vC (.int 2147483587)))) (c7 4 (b2 bz (b2 dA (vSh 3) (vC (.int 16))) (vSh 6))))))
|`(.(ae))=>`(ae (vSh 6) (ae (b2 aK (vSh 5) (vC (.int 7))) (ae (aH (szF (ae .(j) (ae (cF b9 .(K)) (ae (vSh 3) (ae (cF b9 .(K)) (ae (vSh 3) (ae .(j) aj)))))))) aj)))
|`(.(af))=>`(dC (ki V) hr (ah (af 0) (ah ao av)) ln2)
|`(.(ag))=>`(b2 ixD (vSh 0) .(c))
|`(.(ah))=>`(k==nh && env.scope.kind==.function && env.kindOf n==aa .cell)
|`(.(ai))=>`(ae (aH (a9 (itF (vSh 0)) (ay 0) tT .(r) [ab])) aj)
|`(.(aj))=>`(cN I q (by simp))
|`(.(ak))=>`(aJ (ay 5) (aJ (ay 6) bI))
|`(.(al))=>`(.lst (js.map ba))
|`(.(am))=>`(oS (.int i))
|`(.(an))=>`(ae (vSh 2) aj)
|`(.(ao))=>`(lp M h r)
|`(.(ap))=>`(.lst (ss.map bA))
|`(.(aq))=>`(.lst (sn.map D.str))
|`(.(ar))=>`(ae (vSh 3) (ae (vSh 4) aj))
|`(.(as))=>`(aB (af 2) ao)
|`(.(au))=>`(ae (vSh 3) aj)
|`(.(av))=>`(fun b o hb e=>kk b o (by simpa using hb) e)
|`(.(aw))=>`(ax (aG 7 (b2 geD (b2 ixD (b2 aW (vSh 1) (vSh 4)) .(c)) (b2 aW (vSh 2) (vSh 5)))) (sIf (cD (bC (toB (vSh 6))) (orT (toB (b2 ixD (vSh 3) .(j))) (bC (toB (vSh 7))))) (aE (aT (szF (ae (vC (.str "apart")) (ae (vSh 4) (ae (vSh 5) aj)))))) aP))
|`(.(ax))=>`(.Call (.Name x p) (e::es) [] pos)
set_option bootstrap.genMatcherCode false
theorem oBd {α:Type u} {β:Type v} {o:ar α} {f:α->ar β} {b:β} (h:o.bind f=aa b):∃a,o=aa a/\f a=aa b:=Option.bind_eq_some_iff.mp h
theorem oMd {α:Type u} {β:Type v} {o:ar α} {f:α->β} {b:β} (h:o.map f=aa b):∃a,o=aa a/\f a=b:=Option.map_eq_some_iff.mp h
noncomputable section
section
open PySem PySem.Spec PyProof.Rows
noncomputable def qc:=@Option.bind_some
noncomputable def qd:=@List.getElem?_cons_zero
noncomputable def qe:=@List.getElem?_cons_succ
noncomputable def qf:=@Option.map_some
noncomputable def qg:=@List.length_map
noncomputable def qh:=@List.mem_cons_self
noncomputable def qi:=@List.mem_cons_of_mem
noncomputable def qj:=@List.length_cons
noncomputable def qk:=@List.length_append
noncomputable def ql:=@List.getElem?_map
noncomputable def qm:=@List.length_nil
noncomputable def qo:=@List.map_cons
noncomputable def qp:=@List.map_map
noncomputable def qq:=@List.cons_append
noncomputable def qr:=@Bool.false_eq_true
noncomputable def qt:=@Bool.false_ne_true
noncomputable def qu:=@Heap.get?_push_of_some
noncomputable def qv:=@Heap.lt_size
noncomputable def qw:=@Nat.le_refl
noncomputable def qx:=@wpAny_bind
noncomputable def qy:=@List.getElem?_append_left
noncomputable def qz:=@wpAny_pure
noncomputable def qA:=@List.size_toArray
noncomputable def qB:=@Nat.ne_of_lt
noncomputable def qC:=@List.getElem?_eq_getElem
noncomputable def qD:=@List.length_take
noncomputable def qE:=@Nat.lt_of_lt_of_le
noncomputable def qF:=@Heap.get?_push_size
noncomputable def qG:=@SL
noncomputable def qH:=@Array.getElem?_toList
noncomputable def qI:=@List.not_mem_nil
noncomputable def qJ:=@List.getElem?_append_right
noncomputable def qK:=@cM
noncomputable def qL:=@Nat.le_trans
noncomputable def qM:=@decide_eq_false
noncomputable def qN:=@List.map_nil
noncomputable def qO:=@List.mem_of_getElem?
noncomputable def qP:=@List.mem_append_right
noncomputable def qQ:=@List.nil_append
noncomputable def qR:=@decide_eq_true
noncomputable def qS:=@List.length_range
noncomputable def qT:=@Int.emod_lt_of_pos
noncomputable def qU:=@List.length_singleton
noncomputable def qV:=@List.mem_map_of_mem
noncomputable def qW:=@Int.emod_nonneg
noncomputable def qX:=@if_pos
noncomputable def qY:=@if_neg
end
section
namespace L2
open PySem PySem.Spec PyProof.Rows
noncomputable abbrev Key:=Sum ag ak
noncomputable def n6:Key->Value->aX
 |.inl k,v=>yw k v
 |.inr x,v=>Qs x v
noncomputable def GG (w:cS):Key->ag
 |.inl k=>hashInt k
 |.inr x=>hashStr w x
theorem iK:∀{k:Key} {v:Value},n6 k v=ai->(∃i t,k=oC i/\v=cZ i t)\/(∃x t,k=cz x/\v=rj x t)
 |.inl i,v,h=>by
  obtain⟨t,e⟩:=Value.isInt_shape (k:=i) (v:=v) h;exact .inl ⟨i,t,rfl,e⟩
 |.inr x,v,h=>by obtain⟨t,e⟩:=Value.isStrOf_shape (x:=x) (v:=v) h;exact .inr ⟨x,t,rfl,e⟩
theorem Iq (i:ag) (t:Tok):n6 (.inl i) (.int i t)=ai:=by simp[n6,yw]
theorem Qj (x:ak) (t:Tok):n6 (.inr x) (.str x t)=ai:=by simp[n6,Qs]
theorem Jz (a b:ag):decide ((oC a:Key)=oC b)=(a==b):=by
 by_cases e:a=b
 .subst e;simp
 .have h:¬(oC a:Key)=oC b:=fun q=>e (Sum.inl.inj q);rw[qM h];exact(mW.mpr e).symm
theorem Iw (a b:ak):decide ((cz a:Key)=cz b)=decide (a=b):=by
 by_cases e:a=b
 .subst e;simp
 .have h:¬(cz a:Key)=cz b:=fun q=>e (gH q);rw[qM h,qM e]
theorem LU (a:ag) (b:ak):decide ((oC a:Key)=cz b)=aq:=qM (fun q=>nomatch q)
theorem GL (a:ak) (b:ag):decide ((cz a:Key)=oC b)=aq:=qM (fun q=>nomatch q)
noncomputable def cr (prog:dy) (w:cS):PySem.KeyKind prog w Key where
 is:=n6
 hash:=GG w
 inj:=fun v a b ha hb=>by
  rcases iK ha with⟨i,t,rfl,rfl⟩|⟨x,t,rfl,rfl⟩
  .rcases iK hb with⟨j,u,rfl,e⟩|⟨y,u,rfl,e⟩
   .injection e with e1 _;rw[e1]
   .exact nomatch e
  .rcases iK hb with⟨j,u,rfl,e⟩|⟨y,u,rfl,e⟩
   .exact nomatch e
   .injection e with e1 _;rw[e1]
 byValue:=fun k v h=>by rcases iK h with⟨i,t,rfl,rfl⟩|⟨x,t,rfl,rfl⟩<;>rfl
 pyHash:=fun hv h=>by
  rcases iK hv with⟨i,t,rfl,rfl⟩|⟨x,t,rfl,rfl⟩
  .exact wpAny_pyHash_int h
  .exact wpAny_pyHash_str h
 eqBool:=fun hu hv h=>by
  rcases iK hu with⟨i,t,rfl,rfl⟩|⟨x,t,rfl,rfl⟩
  .rcases iK hv with⟨j,u,rfl,rfl⟩|⟨y,u,rfl,rfl⟩
   .rw[Jz] at h;exact wpAny_eqBool_int h
   .rw[LU] at h;exact SeqAt.EqAt.int_str i t y u _ _ _ _ h
  .rcases iK hv with⟨j,u,rfl,rfl⟩|⟨y,u,rfl,rfl⟩
   .rw[GL] at h;exact SeqAt.EqAt.str_int x t j u _ _ _ _ h
   .rw[Iw] at h;exact wpAny_eqBool_str h
 «strs»:=fun k x t v h=>by
  rcases iK h with⟨i,u,rfl,e⟩|⟨y,u,rfl,e⟩
  .exact nomatch e
  .injection e with e1 _;subst e1;cases v<;>rfl
theorem Px (prog:dy) (w:cS) (i:ag) (t:Tok):(cr prog w).is (.inl i) (.int i t)=ai:=Iq i t
theorem LB (prog:dy) (w:cS) (x:ak) (t:Tok):(cr prog w).is (.inr x) (.str x t)=ai:=Qj x t
inductive V where
 |non|bl (b:aX)|int (i:ag)|str (x:ak)|byt (b:bR UInt8)|flt (b:UInt64)|ref (a:aw)|ty (n:c9)
 deriving er
noncomputable def bx:V->Value->Prop
 |.non,u=>u=oE
 |.bl b,u=>u=jL b
 |.int i,u=>∃t,u=cZ i t
 |.str x,u=>∃t,u=rj x t
 |.byt b,u=>∃t,u=Qt b t
 |.flt b,u=>∃t,u=Em b t
 |.ref a,u=>u=cc a
 |.ty n,u=>u=lM n
noncomputable abbrev bK:ac V->ac Value->Prop:=Paired bx
theorem bK.length {xs:ac V} {us:ac Value} (r:bK xs us):xs.length=us.length:=Paired.length r
theorem bK.get:∀{xs:ac V} {us:ac Value} {i:al} {x:V},bK xs us->xs[i]?=aa x->∃u,us[i]?=aa u/\bx x u
 |_,_,_,_,.nil,e=>by simp at e
 |_,_,0,_,.cons r _,e=>by simp at e;subst e;exact⟨_,rfl,r⟩
 |_,_,i+1,x,.cons _ t,e=>by obtain⟨u,h1,h2⟩:=bK.get (i:=i) (x:=x) t (by simpa using e);exact⟨u,by simpa using h1,h2⟩
theorem bK.append:∀{xs ys:ac V} {us ws:ac Value},bK xs us->bK ys ws->bK (xs++ys) (us++ws)
 |_,_,_,_,.nil,s=>s
 |_,_,_,_,.cons r t,s=>.cons r (bK.append t s)
theorem bK.take:∀{xs:ac V} {us:ac Value} (n:al),bK xs us->bK (xs.take n) (us.take n)
 |_,_,0,_=>.nil
 |_,_,_+1,.nil=>.nil
 |_,_,n+1,.cons r t=>.cons r (bK.take n t)
theorem bK.drop:∀{xs:ac V} {us:ac Value} (n:al),bK xs us->bK (xs.drop n) (us.drop n)
 |_,_,0,r=>r
 |_,_,_+1,.nil=>.nil
 |_,_,n+1,.cons _ t=>bK.drop n t
noncomputable def dU:ar V->ar Value->Prop
 |some v,aa u=>bx v u
 |none,ab=>True
 |_,_=>False
variable {κ:Type}
noncomputable def KV :ac (κ×V)->ac (κ×Value)->Prop:=Paired fun(p:κ×V) (q:κ×Value)=>p.1=q.1/\bx p.2 q.2
noncomputable def kV:Key->V
 |.inl i=>.int i
 |.inr x=>.str x
inductive HO where
 |lst (xs:ac V)
 |tup (xs:ac V)
 |dK (kvs:ac (Key×V))|dT (kvs:ac (ac Key×V))
 |set (S:ag->aX) (n:al)
 |ins (C dx:aw) (fs:ac (ak×V))
 |own (x:aw)
 |xd (fs:ac (ak×V))
 |met (f x:aw)
 |rng (lo hi:ag)
 |frz (o:bd) (u:HO)
 |tbl (ps:bR Value)
 |ext (φ:Heap->Prop)
noncomputable abbrev Hp:=aw->ar HO
noncomputable def upd (H:Hp) (a:aw) (o:HO):Hp:=fun b=>if b=a then aa o else H b
variable {H:Hp} {a:aw}
theorem bW {o:HO} :upd H a o a=aa o:=by unfold upd;rw[qX rfl]
theorem a4 {b:aw} {o:HO} (h:b≠a):upd H a o b=H b:=by unfold upd;rw[qY h]
theorem Cj {o u:HO} :upd (upd H a o) a u=upd H a u:=by
 funext b;unfold upd;split<;>rfl
theorem vT {b:aw} {o u:HO} (h:H a=aa o) (h':H b=aa u) (d:o≠u):a≠b:=by intro e;subst e;rw[h] at h';exact d (qG h')
theorem b7 {b:aw} {o:HO} (h:H a=aa o) (h':H b=ab):a≠b:=by intro e;subst e;rw[h] at h';cases h'
section
variable (P:dy) (w:cS)
noncomputable def cV (H:Hp) (h:Heap) (a:aw):HO->Prop
 |.lst xs=>xs.length<=aV/\∃(its:ac Value) (n:al),bK xs its/\h.get? a=aa {cls:=.type "list",data:=.seq its.toArray n}
 |.tup xs=>xs.length<=aV/\∃its:ac Value,bK xs its/\IsTup h a its.toArray
 |.dK kvs=>kvs.length<=aV/\(a==kr)=aq/\∃vs,KV kvs vs/\h.DictOf (cr P w) a vs
 |.dT kvs=>kvs.length<=aV/\(a==kr)=aq/\∃xs:ac (ac Key×aw×Value),
   Paired (fun(p:ac Key×V) (q:ac Key×aw×Value)=>p.1=q.1/\H q.2.1=aa (.tup (p.1.map kV))/\bx p.2 q.2.2) kvs xs /\
   ∃o es ep,h.get? a=aa o/\o.ExactDict/\o.data=.dict es ep/\es.toList=xs.map (entryOfKey (ku (cr P w)))/\(xs.map (·.1)).Nodup
 |.set S n=>h.SetOf (eA P w) a S n
 |.ins C dx fs=>H dx=aa (.own a)/\fs.length<=1000/\dx≠a/\h.get? a=aa (mX C dx) /\
   ∃mA,h.Ns1 dx mA/\(∀f,dU (fs.lookup f) (mA f))/\En mA (fs.map (·.1))
 |.own _=>∃o,h.get? a=aa o
 |.xd fs=>∃mA,h.Ns1 a mA/\∀f,dU (fs.lookup f) (mA f)
 |.rng lo hi=>∃t u v,h.get? a=aa {cls:=.type "range",data:=.fields #[.int lo t,.int hi u,.int 1 v]}
 |.frz o u=>h.get? a=aa o/\cV H h a u
 |.tbl ps=>h.get? a=aa {cls:=.none,data:=.fields ps}
 |.met f x=>h.get? a=aa (Eo (.ref f) (.ref x))
 |.ext φ=>φ h/\(∃o,h.get? a=aa o)/\∀h1 h2:Heap,φ h1->(∀o,h1.get? a=aa o->h2.get? a=aa o)->φ h2
noncomputable def HOk (H:Hp) (h:Heap):Prop:=∀a o,H a=aa o->cV P w H h a o
end
variable {P:dy} {w:cS} {H':Hp} {h':Heap}
section
variable {h:Heap} {o:HO}
theorem cV.lt (x:cV P w H h a o):a<h.objs.size:=by
 cases o with
 |lst xs=>obtain⟨_,_,_,_,e⟩:=x;exact qv e
 |tup xs=>obtain⟨_,_,_,p⟩:=x;exact p.lt
 |dK kvs=>obtain⟨_,_,_,_,o,_,_,e,_⟩:=x;exact qv e
 |dT kvs=>obtain⟨_,_,_,_,o,_,_,e,_⟩:=x;exact qv e
 |set S n=>obtain⟨o,_,_,_,e,_⟩:=x;exact qv e
 |ins C dx fs=>obtain⟨_,_,_,e,_⟩:=x;exact qv e
 |own y=>obtain⟨_,e⟩:=x;exact qv e
 |xd fs=>obtain⟨_,⟨_,_,_,e,_⟩,_⟩:=x;exact qv e
 |rng lo hi=>obtain⟨_,_,_,e⟩:=x;exact qv e
 |frz ob u=>obtain⟨e,_⟩:=x;exact qv e
 |tbl ps=>exact qv (show h.get? a=aa _ from x)
 |met f y=>exact qv (show h.get? a=aa _ from x)
 |ext φ=>obtain⟨_,⟨_,e⟩,_⟩:=x;exact qv e
theorem Paired.mapP {α β:Type} {F G:α->β->Prop}:∀{l₁:ac α} {l₂:ac β},Paired F l₁ l₂->(∀a b,F a b->G a b)->Paired G l₁ l₂
 |_,_,.nil,_=>.nil
 |_,_,.cons r t,f=>.cons (f _ _ r) (Paired.mapP t f)
theorem cV.stay (x:cV P w H h a o) (k:∀b u,(b=a\/H b=aa (.own a))->h.get? b=aa u->h'.get? b=aa u)
  (ho:∀b,H b=aa (.own a)->H' b=aa (.own a)) (ht:∀b xs,H b=aa (.tup xs)->H' b=aa (.tup xs)):cV P w H' h' a o:=by
 induction o with
 |lst xs=>obtain⟨z,its,n,r,e⟩:=x;exact⟨z,its,n,r,k _ _ (.inl rfl) e⟩
 |tup xs=>obtain⟨z,its,r,ob,e,c⟩:=x;exact⟨z,its,r,ob,k _ _ (.inl rfl) e,c⟩
 |dK kvs=>obtain⟨z,y,vs,r,ob,es,ep,e,c⟩:=x;exact⟨z,y,vs,r,ob,es,ep,k _ _ (.inl rfl) e,c⟩
 |dT kvs=>
  obtain⟨z,y,xs,r,ob,es,ep,e,c⟩:=x;exact⟨z,y,xs,Paired.mapP r fun p q z=>⟨z.1,ht _ _ z.2.1,z.2.2⟩,ob,es,ep,k _ _ (.inl rfl) e,c⟩
 |set S n=>obtain⟨ob,es,ep,t,e,c⟩:=x;exact⟨ob,es,ep,t,k _ _ (.inl rfl) e,c⟩
 |ins C dx fs=>
  obtain⟨d,z,ne,e,mA,⟨od,es,ep,e2,c⟩,r⟩:=x;exact⟨ho _ d,z,ne,k _ _ (.inl rfl) e,mA,⟨od,es,ep,k _ _ (.inr d) e2,c⟩,r⟩
 |own y=>obtain⟨ob,e⟩:=x;exact⟨ob,k _ _ (.inl rfl) e⟩
 |xd fs=>obtain⟨mA,⟨od,es,ep,e,c⟩,r⟩:=x;exact⟨mA,⟨od,es,ep,k _ _ (.inl rfl) e,c⟩,r⟩
 |rng lo hi=>obtain⟨t,u,v,e⟩:=x;exact⟨t,u,v,k _ _ (.inl rfl) e⟩
 |frz ob u ih=>obtain⟨e,q⟩:=x;exact⟨k _ _ (.inl rfl) e,ih q⟩
 |tbl ps=>
  have e:h.get? a=aa {cls:=.none,data:=.fields ps}:=x;show h'.get? a=aa {cls:=.none,data:=.fields ps};exact k a _ (.inl rfl) e
 |met f y=>
  have e:h.get? a=aa (Eo (.ref f) (.ref y)):=x;show h'.get? a=aa (Eo (.ref f) (.ref y));exact k a _ (.inl rfl) e
 |ext φ=>obtain⟨p,⟨o,e⟩,st⟩:=x;exact⟨st _ _ p fun o q=>k _ _ (.inl rfl) q,⟨o,k _ _ (.inl rfl) e⟩,st⟩
theorem HOk.lt (x:HOk P w H h) (e:H a=aa o):a<h.objs.size:=(x a o e).lt
theorem HOk.fresh (x:HOk P w H h) (e:h.objs.size<=a):H a=ab:=by
 cases q:H a with
 |none=>rfl
 |some u=>exact bN (qE (x.lt q) e) (kx _)
theorem HOk.kept (x:HOk P w H h) (k:∀b u,h.get? b=aa u->h'.get? b=aa u):HOk P w H h':=fun a o e=>
 (x a o e).stay (fun b u _ q=>k b u q) (fun _ q=>q) fun _ _ q=>q
theorem HOk.laid (x:HOk P w H h) (k:∀b u,h.get? b=aa u->h'.get? b=aa u) (hp:h.objs.size<=a) (new:cV P w (upd H a o) h' a o):HOk P w (upd H a o) h':=fun b u e=>by
 have hn:=x.fresh hp;by_cases hb:b=a
 .subst hb;rw[bW] at e;cases e;exact new
 .rw[a4 hb] at e;exact(x b u e).stay (fun c v _ q=>k c v q) (fun c q=>by rw[a4 (b7 q hn)];exact q) fun c xs q=>by rw[a4 (b7 q hn)];exact q
end
noncomputable def Rd (H:Hp) (a:aw) (u:HO):Prop:=H a=aa u\/∃o,H a=aa (.frz o u)
theorem Rd.ok {h:Heap} {u:HO} (r:Rd H a u) (x:HOk P w H h):cV P w H h a u:=by
 rcases r with r|⟨o,r⟩
 .exact x a u r
 .obtain⟨_,q⟩:=x a _ r;exact q
noncomputable def Mut:ar HO->Prop
 |some (.lst _)=>True
 |some (.dK _)=>True
 |some (.dT _)=>True
 |some (.set _ _)=>True
 |some (.ins _ _ _)=>True
 |some (.ext _)=>True
 |_=>False
section
variable {h:Heap} {x e:aw} {o':HO}
theorem HOk.write (ok:HOk P w H h) (mu:Mut (H x)) (he:e=x\/H e=aa (.own x)) (k:∀b u,b≠e->h.get? b=aa u->h'.get? b=aa u) (heo:∃u,h'.get? e=aa u)
  (new:cV P w (upd H x o') h' x o'):HOk P w (upd H x o') h':=fun b u q=>by
 have nown:∀c y,H c=aa (.own y)->c≠x:=fun c y r z=>by subst z;rw[r] at mu;exact mu
 have ntup:∀c xs,H c=aa (.tup xs)->c≠x:=fun c xs r z=>by subst z;rw[r] at mu;exact mu
 by_cases hb:b=x
 .subst hb;rw[bW] at q;cases q;exact new
 .rw[a4 hb] at q;by_cases hbe:b=e
  .have q':H b=aa (.own x):=by
    rcases he with z|z
    .exact bN (hbe.trans z) hb
    .rw[hbe];exact z
   rw[q] at q';cases q';obtain⟨v,hv⟩:=heo;exact⟨v,by rw[hbe];exact hv⟩
  .refine(ok b u q).stay (fun c v hc r=>k c v ?_ r) (fun c r=>by rw[a4 (nown c b r)];exact r) fun c xs r=>by rw[a4 (ntup c xs r)];exact r
   rcases hc with rfl|hc
   .exact hbe
   .rintro rfl;rcases he with z|z
    .exact nown c b hc z
    .rw[hc] at z;cases z;exact hb rfl
end
structure Un (fs ex:ac aw) (H H':Hp) (h h':Heap):Prop where
 keep:∀b o,h.get? b=aa o->H b=ab->b∉fs->b∉ex->h'.get? b=aa o
 slot:∀b o,h.get? b=aa o->H b=ab->b∈fs->b∉ex->∃sl,h'.get? b=aa {o with slots:=sl}
 free:∀b o,h.get? b=aa o->H b=ab->b∉ex->H' b=ab
 there:∀b o,h.get? b=aa o->b∉ex->∃o',h'.get? b=aa o'
 tups:∀b xs,H b=aa (.tup xs)->H' b=aa (.tup xs)
 frzs:∀b o u,H b=aa (.frz o u)->H' b=aa (.frz o u)
 tbls:∀b ps,H b=aa (.tbl ps)->∃more,H' b=aa (.tbl (ps++more))
variable {H1 H2:Hp}
section
variable {fs fs' ex ex':ac aw} {h h1 h2:Heap} {x e:aw} {o:HO}
theorem Un.any (u:Un fs ex H H1 h h1) {b:aw} {ob:bd} (q:h.get? b=aa ob) (n:H b=ab) (hx:b∉ex):∃sl,h1.get? b=aa {ob with slots:=sl}:=by
 by_cases hb:b∈fs
 .exact u.slot b ob q n hb hx
 .exact⟨ob.slots,u.keep b ob q n hb hx⟩
theorem Un.kept (k:∀b u,h.get? b=aa u->h'.get? b=aa u):Un fs ex H H h h':=
 ⟨fun b ob q _ _ _=>k b ob q,fun b ob q _ _ _=>⟨ob.slots,k b ob q⟩,fun _ _ _ n _=>n,fun b ob q _=>⟨ob,k b ob q⟩,fun _ _ q=>q,fun _ _ _ q=>q,fun _ ps q=>⟨#[],by rw[q];simp⟩⟩
theorem Un.refl:Un fs ex H H h h:=Un.kept fun _ _ q=>q
theorem Un.laid (k:∀b u,h.get? b=aa u->h'.get? b=aa u) (hp:h.objs.size<=a) (hn:H a=ab):Un fs ex H (upd H a o) h h' where
 keep:=fun b u q _ _ _=>k b u q
 slot:=fun b u q _ _ _=>⟨u.slots,k b u q⟩
 free:=fun b u q n _=>by rw[a4 (qB (qE (qv q) hp))];exact n
 there:=fun b u q _=>⟨u,k b u q⟩
 tups:=fun b xs q=>by rw[a4 (b7 q hn)];exact q
 frzs:=fun b u xs q=>by rw[a4 (b7 q hn)];exact q
 tbls:=fun b ps q=>⟨#[],by rw[a4 (b7 q hn),q];simp⟩
theorem Un.write (mu:Mut (H x)) (he:e=x\/H e=aa (.own x)) (k:∀b u,b≠e->h.get? b=aa u->h'.get? b=aa u) (heo:∃u,h'.get? e=aa u):Un fs ex H (upd H x o) h h':=by
 have hx:∀b,H b=ab->b≠x:=fun b n z=>by subst z;rw[n] at mu;exact mu
 have hb:∀b,H b=ab->b≠e:=fun b n z=>by
  subst z;rcases he with r|r
  .exact hx b n r
  .rw[n] at r;cases r
 have hm:∀b u,H b=aa u->¬Mut (aa u)->b≠x:=fun b u q nm z=>by subst z;rw[q] at mu;exact nm mu
 refine⟨fun b u q n _ _=>k b u (hb b n) q,fun b u q n _ _=>⟨u.slots,k b u (hb b n) q⟩,fun b u q n _=>by rw[a4 (hx b n)];exact n,fun b u q _=>?_,
  fun b xs q=>by rw[a4 (hm b _ q fun z=>z)];exact q,fun b u xs q=>by rw[a4 (hm b _ q fun z=>z)];exact q,fun b ps q=>⟨#[],by rw[a4 (hm b _ q fun z=>z),q];simp⟩⟩
 by_cases hbe:b=e
 .subst hbe;exact heo
 .exact⟨u,k b u hbe q⟩
end
noncomputable def trk (h:Heap) (H:Hp):ac aw:=(cP h.objs.size).filter fun a=>(H a).isSome
noncomputable def jV (h:Heap) (H:Hp):Heap:=PySem.W.hideAll h (trk h H)
theorem LA (h:Heap) (H:Hp):(jV h H).objs.size=h.objs.size:=PySem.W.hideAll_size _ _
theorem Ij {h:Heap} {b:aw} {o:bd} (e:h.get? b=aa o) (n:H b=ab):(jV h H).get? b=aa o:=
 PySem.W.hideAll_get _ e fun hm=>by have q:(H b).isSome=ai:=(gw.mp hm).2;rw[n] at q;simp at q
theorem Nh {h:Heap} {b:aw} {o:bd} (e:(jV h H).get? b=aa o):h.get? b=aa o/\H b=ab:=by
 have e':h.get? b=aa o:=PySem.W.of_hideAll (trk h H) e;refine⟨e',?_⟩;cases q:H b with
 |none=>rfl
 |some x=>
  have hm:b∈trk h H:=gw.mpr ⟨eV.mpr (qv e'),by simp[q]⟩;have z:(jV h H).get? b=ab:=PySem.W.hideAll_none (trk h H) hm;rw[z] at e;cases e
noncomputable def G0 (g h:Heap) (L:aw):ac (aw×bd):=(cP h.objs.size).filterMap fun a=>if a=L\/(g.get? a).isSome=ai then ab else (h.get? a).map fun o=>(a,o)
noncomputable def bY (g h:Heap) (L d:aw):ac (aw×bd):=(G0 g h L).filter fun p=>decide (p.1≠d)
structure Mod (K:bi) (mg:ak->ar Value) (base:Heap):Prop where
 kin:K.In base
 glob:base.Ns fY mg
 blt:∃mb,base.Ns Ep mb/\∀x:ak,x≠"__name__"->mb x=lN x
 nolimit:base.NoLimit
structure Cx where
 prog:dy
 w:cS
 K:bi
 mg:ak->ar Value
 base:Heap
 A:eB
 N:ac ak
 s₀:aI
 H₀:Hp
 env:dc
 outer:ac dc
 stack:ac dc
 ex:ac aw
 fn:ak->aX
 calm:aX
 pn:ac (aw×bd)
 xe:Value->aI->Prop
noncomputable def frs (l:ac dc):ac aw:=l.filterMap (·.frame)
noncomputable abbrev Cx.fs (X:Cx):ac aw:=frs X.outer
noncomputable def Vis (sc:Scope) (x:ak):Prop:=sc.names.lookup x=aa .local\/sc.names.lookup x=aa .cell\/sc.names.lookup x=aa .free
noncomputable def Loc (sc:Scope) (x:ak):Prop:=sc.names.lookup x=aa .local\/sc.names.lookup x=aa .cell
noncomputable def Qe (env:dc) (h:Heap) (m:ak->ar Value) (x:ak) (u:Value):Prop:=
 (env.kindOf x=aa .local/\m x=aa u)\/((env.kindOf x=aa .cell\/env.kindOf x=aa .free)/\∃c,env.cells.lookup x=aa c/\h.IsCell c (aa u))
structure Cx.Ok (X:Cx):Prop where
 mod:Mod X.K X.mg X.base
 kind:X.env.scope.kind=.function
 glob:X.env.globals=fY
 blt:X.env.builtins=Ep
 above:X.s₀.heap.objs.size<=X.env.locals
 inj:∀x y c,X.env.cells.lookup x=aa c->X.env.cells.lookup y=aa c->x=y
 has:∀x,(X.env.kindOf x=aa .cell\/X.env.kindOf x=aa .free)->∃c,X.env.cells.lookup x=aa c
 cab:∀x c,X.fn x=ai->X.env.cells.lookup x=aa c->X.s₀.heap.objs.size<=c
 hd:X.calm=ai->X.A.handled=ab
 frames:X.A.frames=aa X.stack
 stk:X.stack=X.outer\/(X.stack=X.env::X.outer/\X.env.frame=aa X.env.locals)
 exf:∀b∈X.ex,b≠X.env.locals/\∀x c,X.env.cells.lookup x=aa c->c≠b
 bs:∀b o,X.base.get? b=aa o->X.s₀.heap.get? b=aa o/\X.H₀ b=ab
 bsz:X.base.objs.size<=X.s₀.heap.objs.size
 noex:∀b o,X.base.get? b=aa o->b∉X.ex
 exfs:∀b∈X.ex,b∉X.fs
 funs:X.s₀.heap.FunFrames X.base X.outer
 frf:∀b∈X.fs,X.H₀ b=ab
structure Inv (X:Cx) (pins:ac (aw×bd)) (σ:ac (ar V)) (H:Hp) (s:aI):Prop where
 ok:X.Ok
 os:s.os=X.s₀.os
 bare:ky s.gens
 base:Un X.fs X.ex X.H₀ H X.s₀.heap s.heap
 loc:∃m,s.heap.Ns X.env.locals m/\∀(i:al) (x:ak) (v:V),X.N[i]?=aa x->σ[i]?=aa (aa v)->Vis X.env.scope x->∃u,bx v u/\Qe X.env s.heap m x u
 cell:∀x c,X.env.cells.lookup x=aa c->∃v,s.heap.IsCell c v
 free:H X.env.locals=ab
 freeC:∀x c,X.env.cells.lookup x=aa c->H c=ab
 pin:∀p∈X.pn++pins,s.heap.get? p.1=aa p.2/\H p.1=ab/\p.1≠X.env.locals/\p.1∉X.fs/\∀v,p.2.data≠.cell v
 hok:HOk X.prog X.w H s.heap
 len:σ.length=X.N.length
variable {X:Cx} {pins:ac (aw×bd)} {s s':aI} {t' i j:al} {d':Drawn} {N:ac ak} {x:ak} {A:eB} {v:V} {u:Value}
section
variable {σ:ac (ar V)}
theorem Cx.Ok.nofr (ok:X.Ok) {b:aw} {o:bd} (e:X.base.get? b=aa o):b∉X.fs:=fun hb=>by have:=(ok.funs.mem hb).1;rw[e] at this;cases this
theorem Inv.bs (I:Inv X pins σ H s):∀b o,X.base.get? b=aa o->s.heap.get? b=aa o/\H b=ab:=fun b o e=>
 ⟨I.base.keep b o (I.ok.bs b o e).1 (I.ok.bs b o e).2 (I.ok.nofr e) (I.ok.noex b o e),I.base.free b o (I.ok.bs b o e).1 (I.ok.bs b o e).2 (I.ok.noex b o e)⟩
theorem Inv.bk (I:Inv X pins σ H s):∀b o,X.base.get? b=aa o->s.heap.get? b=aa o:=fun b o e=>(I.bs b o e).1
theorem Inv.mod (I:Inv X pins σ H s):Mod X.K X.mg X.base:=I.ok.mod
theorem Inv.kIn (I:Inv X pins σ H s):X.K.In s.heap:=I.ok.mod.kin.keeps I.bk
theorem Inv.lt (I:Inv X pins σ H s):X.env.locals<s.heap.objs.size:=let ⟨_,hn,_⟩:=I.loc;hn.lt
theorem Inv.sz (I:Inv X pins σ H s):X.s₀.heap.objs.size<=s.heap.objs.size:=qL I.ok.above (rl I.lt)
theorem Inv.nofs (I:Inv X pins σ H s) (h:s.heap.objs.size<=a):a∉X.fs:=fun hb=>by obtain⟨_,o,ho,_⟩:=I.ok.funs.mem hb;exact bN (qE (qv ho) (qL I.sz h)) (kx _)
theorem Inv.cne (I:Inv X pins σ H s):∀x c,X.env.cells.lookup x=aa c->c≠X.env.locals:=fun x c e z=>by obtain⟨v,o,ho,hd⟩:=I.cell x c e;obtain⟨m,⟨o',es,ep,ho',hd',_⟩,_⟩:=I.loc;rw[z,ho'] at ho;cases ho;rw[hd'] at hd;cases hd
theorem Inv.funs (I:Inv X pins σ H s):s.heap.FunFrames X.base X.outer:=by
 have all:∀(l:ac dc),(∀b∈frs l,b∈X.fs)->X.s₀.heap.FunFrames X.base l->s.heap.FunFrames X.base l:=by
  intro l
  induction l with
  |nil=>intro _ _;trivial
  |cons env r ih=>
   intro hs hl;obtain⟨hk,⟨L,o,hf,hn,ho,hd⟩,hr⟩:=hl;have hL:L∈X.fs:=hs L (by unfold frs;rw[rm,hf];exact qh);obtain⟨sl,e⟩:=I.base.slot L o ho (I.ok.frf L hL) hL fun z=>I.ok.exfs L z hL;exact⟨hk,⟨L,_,hf,hn,e,hd⟩,ih (fun b hb=>hs b (by unfold frs;rw[rm,hf];exact qi _ hb)) hr⟩
 exact all X.outer (fun _ hb=>hb) I.ok.funs
theorem Inv.stack (I:Inv X pins σ H s):s.heap.FunFrames X.base X.stack:=by
 rcases I.ok.stk with e|⟨e,hf⟩
 .rw[e];exact I.funs
 .rw[e];obtain⟨m,hn,_⟩:=I.loc;refine .cons (by rw[I.ok.kind];decide) hf hn ?_ I.funs;exact Heap.get?_none_of_le (qL I.ok.bsz I.ok.above)
theorem Inv.stkSub (I:Inv X pins σ H s):∀b∈frs X.stack,b∈X.env.locals::X.fs:=fun b hb=>by
 rcases I.ok.stk with e|⟨e,hf⟩
 .rw[e] at hb;exact qi _ hb
 .rw[e] at hb;unfold frs at hb;rw[rm,hf] at hb;exact hb
theorem Inv.stkFree (I:Inv X pins σ H s):∀b∈frs X.stack,H b=ab:=fun b hb=>by
 rcases cM.mp (I.stkSub b hb) with e|hb
 .rw[e];exact I.free
 .obtain⟨_,o,ho,_⟩:=I.ok.funs.mem hb;exact I.base.free b o ho (I.ok.frf b hb) fun z=>I.ok.exfs b z hb
theorem Inv.step {g':bR rn} {ch:ac aw} (I:Inv X pins σ H s)
  (hch:∀b∈ch,(b∈X.ex\/X.s₀.heap.objs.size<=b)/\b≠X.env.locals/\(∀x c,X.env.cells.lookup x=aa c->c≠b)/\∀p∈X.pn++pins,p.1≠b)
  (keep:∀b o,b≠X.env.locals->b∉X.fs->b∉ch->s.heap.get? b=aa o->H b=ab->h'.get? b=aa o)
  (slot:∀b o,b≠X.env.locals->b∈X.fs->b∉ch->s.heap.get? b=aa o->H b=ab->∃sl,h'.get? b=aa {o with slots:=sl}) (free:∀b o,b∉ch->s.heap.get? b=aa o->H b=ab->H' b=ab)
  (there:∀b o,b∉ch->s.heap.get? b=aa o->∃o',h'.get? b=aa o')
  (tups:∀b xs,H b=aa (.tup xs)->H' b=aa (.tup xs)) (frzs:∀b o u,H b=aa (.frz o u)->H' b=aa (.frz o u)) (tbls:∀b ps,H b=aa (.tbl ps)->∃more,H' b=aa (.tbl (ps++more)))
  (ns:∀m,s.heap.Ns X.env.locals m->h'.Ns X.env.locals m) (hok:HOk X.prog X.w H' h') (hg:ky g') :
  Inv X pins σ H' {s with heap:=h',gens:=g',drawn:=d',toks:=t'}:=by
 have neL:∀b o,X.s₀.heap.get? b=aa o->b≠X.env.locals:=fun b o e=>qB (qE (qv e) I.ok.above);have neC:∀b o,X.s₀.heap.get? b=aa o->b∉X.ex->b∉ch:=fun b o e hx hb=>by
  rcases(hch b hb).1 with z|z
  .exact hx z
  .exact bN (qE (qv e) z) (kx _)
 have cellK:∀x c,X.env.cells.lookup x=aa c->∀v,s.heap.IsCell c v->h'.IsCell c v:=fun x c e v ⟨o,ho,hd⟩=>by
  have nch:c∉ch:=fun z=>(hch c z).2.2.1 x c e rfl;by_cases hc:c∈X.fs
  .obtain⟨sl,q⟩:=slot c o (I.cne x c e) hc nch ho (I.freeC x c e);exact⟨_,q,hd⟩
  .exact⟨o,keep c o (I.cne x c e) hc nch ho (I.freeC x c e),hd⟩
 refine⟨I.ok,I.os,hg,⟨fun b o e n hb hx=>?_,fun b o e n hb hx=>?_,fun b o e n hx=>?_,fun b o e hx=>?_,fun b xs e=>tups b xs (I.base.tups b xs e),fun b o xs e=>frzs b o xs (I.base.frzs b o xs e),fun b ps e=>?_⟩,?_,fun x c e=>?_,?_,fun x c e=>?_,fun p hp=>?_,hok,I.len⟩
 .exact keep b o (neL b o e) hb (neC b o e hx) (I.base.keep b o e n hb hx) (I.base.free b o e n hx)
 .obtain⟨sl,e1⟩:=I.base.slot b o e n hb hx;obtain⟨sl',e2⟩:=slot b _ (neL b o e) hb (neC b o e hx) e1 (I.base.free b o e n hx);exact⟨sl',e2⟩
 .obtain⟨o',e1⟩:=I.base.there b o e hx;exact free b o' (neC b o e hx) e1 (I.base.free b o e n hx)
 .obtain⟨o',e1⟩:=I.base.there b o e hx;exact there b o' (neC b o e hx) e1
 .obtain⟨m1,e1⟩:=I.base.tbls b ps e;obtain⟨m2,e2⟩:=tbls b _ e1;exact⟨m1++m2,by rw[e2,Array.append_assoc]⟩
 .obtain⟨m,hn,hl⟩:=I.loc;refine⟨m,ns m hn,fun i x v e1 e2 e3=>?_⟩;obtain⟨u,r,l⟩:=hl i x v e1 e2 e3;refine⟨u,r,?_⟩;rcases l with l|⟨k,c,e,z⟩
  .exact .inl l
  .exact .inr ⟨k,c,e,cellK x c e _ z⟩
 .obtain⟨v,z⟩:=I.cell x c e;exact⟨v,cellK x c e v z⟩
 .obtain⟨m,⟨o,_,_,ho,_⟩,_⟩:=I.loc;exact free _ o (fun z=>(hch _ z).2.1 rfl) ho I.free
 .obtain⟨v,o,ho,hd⟩:=I.cell x c e;exact free c o (fun z=>(hch c z).2.2.1 x c e rfl) ho (I.freeC x c e)
 .obtain⟨e,n,ne,nf,d⟩:=I.pin p hp;have nch:p.1∉ch:=fun z=>(hch p.1 z).2.2.2 p hp rfl;exact⟨keep p.1 p.2 ne nf nch e n,free p.1 p.2 nch e n,ne,nf,d⟩
theorem Inv.un (I:Inv X pins σ H s) (u:Un X.fs [] H H' s.heap h') (hok:HOk X.prog X.w H' h'):Inv X pins σ H' {s with heap:=h',toks:=t'}:=by
 obtain⟨m,⟨o,es,ep,ho,r⟩,_⟩:=id I.loc;obtain⟨sl,hL⟩:=u.any ho I.free (by simp);exact I.step (g':=s.gens) (d':=s.drawn) (ch:=[]) (fun _ z=>nomatch z) (fun b o _ hb _ e n=>u.keep b o e n hb (by simp)) (fun b o _ hb _ e n=>u.slot b o e n hb (by simp)) (fun b o _ e n=>u.free b o e n (by simp)) (fun b o _ e=>u.there b o e (by simp)) u.tups u.frzs u.tbls (fun m' hm=>by obtain⟨o',es',ep',ho',r'⟩:=hm;rw[ho] at ho';cases ho';exact⟨_,es',ep',hL,r'⟩) hok I.bare
theorem Inv.call {g':bR rn} {ch:ac aw} (I:Inv X pins σ H s) (u:Un (frs X.stack) ch H H' s.heap h') (hok:HOk X.prog X.w H' h') (hg:ky g')
  (hch:∀b∈ch,(b∈X.ex\/X.s₀.heap.objs.size<=b)/\b≠X.env.locals/\(∀x c,X.env.cells.lookup x=aa c->c≠b)/\∀p∈X.pn++pins,p.1≠b) :
  Inv X pins σ H' {s with heap:=h',gens:=g',drawn:=d',toks:=t'}:=by
 obtain⟨m,⟨o,es,ep,ho,r⟩,_⟩:=id I.loc;obtain⟨sl,hL⟩:=u.any ho I.free fun z=>(hch _ z).2.1 rfl;exact I.step (ch:=ch) hch (fun b o hL hb hc e n=>u.keep b o e n (fun z=>(cM.mp (I.stkSub b z)).elim hL hb) hc) (fun b o _ _ hc e n=>u.any e n hc) (fun b o hc e n=>u.free b o e n hc) (fun b o hc e=>u.there b o e hc) u.tups u.frzs u.tbls (fun m' hm=>by obtain⟨o',es',ep',ho',r'⟩:=hm;rw[ho] at ho';cases ho';exact⟨_,es',ep',hL,r'⟩) hok hg
theorem Inv.turned {it:aw} (I:Inv X pins σ H s) (k:∀b o,b≠it->s.heap.get? b=aa o->h'.get? b=aa o) (hn:H it=ab) (hL:it≠X.env.locals)
  (h1:it∈X.ex\/X.s₀.heap.objs.size<=it) (h2:∀x c,X.env.cells.lookup x=aa c->c≠it) (h3:∀p∈X.pn++pins,p.1≠it):Inv X pins σ H {s with heap:=h',toks:=t'}:=by
 have nit:∀b u,H b=aa u->b≠it:=fun b u e z=>by rw[z,hn] at e;cases e
 refine I.step (g':=s.gens) (d':=s.drawn) (ch:=[it]) (fun b hb=>?_) (fun b o _ _ hc e _=>k b o (fun z=>hc (by simp[z])) e) (fun b o _ _ hc e _=>⟨o.slots,k b o (fun z=>hc (by simp[z])) e⟩) (fun _ _ _ _ n=>n)
  (fun b o hc e=>⟨o,k b o (fun z=>hc (by simp[z])) e⟩) (fun _ _ e=>e) (fun _ _ _ e=>e) (fun b ps e=>⟨#[],by rw[e];simp⟩) (fun m hm=>?_) (fun b u e=>?_) I.bare
 .have e:b=it:=by simpa using hb
  subst e;exact⟨h1,hL,h2,h3⟩
 .obtain⟨o,es,ep,ho,r⟩:=hm;exact⟨o,es,ep,k _ o (dF hL) ho,r⟩
 .refine(I.hok b u e).stay (fun c v hc q=>k c v ?_ q) (fun _ q=>q) fun _ _ q=>q;rcases hc with z|z
  .rw[z];exact nit b u e
  .exact nit c _ z
theorem Inv.tok (I:Inv X pins σ H s) (t:al):Inv X pins σ H {s with toks:=t}:=I.un (h':=s.heap) (t':=t) Un.refl I.hok
theorem Inv.kept {t':al} (I:Inv X pins σ H s) (k:∀b u,s.heap.get? b=aa u->h'.get? b=aa u):Inv X pins σ H {s with heap:=h',toks:=t'}:=I.un (Un.kept k) (I.hok.kept k)
theorem Inv.laid {a:aw} {o:HO} {t':al} (I:Inv X pins σ H s) (k:∀b u,s.heap.get? b=aa u->h'.get? b=aa u) (hp:s.heap.objs.size<=a) (new:cV X.prog X.w (upd H a o) h' a o) :
  Inv X pins σ (upd H a o) {s with heap:=h',toks:=t'}:=I.un (Un.laid k hp (I.hok.fresh hp)) (I.hok.laid k hp new)
theorem Inv.write {x e:aw} {o:HO} {t':al} (I:Inv X pins σ H s) (mu:Mut (H x)) (he:e=x\/H e=aa (.own x)) (k:∀b u,b≠e->s.heap.get? b=aa u->h'.get? b=aa u) (heo:∃u,h'.get? e=aa u)
  (new:cV X.prog X.w (upd H x o) h' x o):Inv X pins σ (upd H x o) {s with heap:=h',toks:=t'}:=I.un (Un.write mu he k heo) (I.hok.write mu he k heo new)
theorem Inv.pins_of {pins':ac (aw×bd)} (I:Inv X pins σ H s) (h:∀p∈pins',s.heap.get? p.1=aa p.2/\H p.1=ab/\p.1≠X.env.locals/\p.1∉X.fs/\∀v,p.2.data≠.cell v):Inv X pins' σ H s:=
 ⟨I.ok,I.os,I.bare,I.base,I.loc,I.cell,I.free,I.freeC,fun p hp=>(dn.mp hp).elim (fun z=>I.pin p (yx _ z)) (h p),I.hok,I.len⟩
theorem CZ (hN:N.Nodup) (a:N[i]?=aa x) (b:N[j]?=aa x):i=j:=by obtain⟨h1,e1⟩:=cX.mp a;obtain⟨h2,e2⟩:=cX.mp b;exact(Qu hN).mp (e1.trans e2.symm)
theorem DH {M:uM} {E:Value->aI->Prop} {Q:lO->aI->Prop} (I:Inv X pins σ H s) (hN:X.N.Nodup) (hi:X.N[i]?=aa x) (hx:Loc X.env.scope x) (r:bx v u)
  (h:∀s',Inv X pins (σ.set i (aa v)) H s'->(∃a,iq a s.heap s'.heap/\(a=X.env.locals\/X.env.cells.lookup x=aa a))->Q () s') (hf:X.fn x=ai\/X.env.scope.names.lookup x=aa .local:=by first|exact .inl rfl|exact .inr rfl|assumption):aM M A (storeName X.env x u) Q E s:=by
 obtain⟨m,hn,hl⟩:=id I.loc;have hcls:(X.env.scope.kind==.class || (X.env.scope.kind==.module && X.env.locals != X.env.globals))=aq:=by rw[I.ok.kind];rfl
 have hiσ:i < σ.length:=by rw[I.len];exact(cX.mp hi).1
 have cne:=I.cne;have tracked:∀{a:aw} {h':Heap},(∃o,s.heap.get? a=aa o/\H a=ab)->iq a s.heap h'->HOk X.prog X.w H h':=fun {a h'} ha hs b ob e=>by
  obtain⟨_,_,hfree⟩:=ha;refine(I.hok b ob e).stay (fun c w' hc q=>(hs.2 c ?_).trans q) (fun _ q=>q) fun _ _ q=>q;rintro rfl;rcases hc with rfl|hc
  .rw[hfree] at e;cases e
  .rw[hfree] at hc;cases hc
 rcases hx with hk|hk
 .refine wpAny_storeName_local hk hn (fun h' hn' hs=>?_) hcls;obtain⟨oL,_,_,hoL,_⟩:=id hn;refine h _ ⟨I.ok,I.os,I.bare,⟨fun b o e n hb hx=>?_,fun b o e n hb hx=>?_,I.base.free,fun b o e hx=>?_,I.base.tups,I.base.frzs,I.base.tbls⟩,⟨_,hn',fun j y v' e1 e2 e3=>?_⟩,fun y c e=>?_,I.free,I.freeC,fun p hp=>?_,tracked ⟨oL,hoL,I.free⟩ hs,by simpa using I.len⟩ ⟨_,hs,.inl rfl⟩
  .exact(hs.2 b (qB (qE (qv e) I.ok.above))).trans (I.base.keep b o e n hb hx)
  .obtain⟨sl,e1⟩:=I.base.slot b o e n hb hx;exact⟨sl,(hs.2 b (qB (qE (qv e) I.ok.above))).trans e1⟩
  .obtain⟨o',e1⟩:=I.base.there b o e hx;exact⟨o',(hs.2 b (qB (qE (qv e) I.ok.above))).trans e1⟩
  .by_cases hj:j=i
   .subst hj;rw[hi] at e1;cases e1;rw[uN hiσ] at e2;cases e2;exact⟨u,r,.inl ⟨hk,by simp⟩⟩
   .rw[mY (dF hj)] at e2;obtain⟨u',r',q⟩:=hl j y v' e1 e2 e3;refine⟨u',r',?_⟩;rcases q with⟨k,e⟩|⟨k,c,e,z⟩
    .refine .inl ⟨k,?_⟩;have:y≠x:=fun e=>hj (CZ hN e1 (e▸hi));simp[this,e]
    .exact .inr ⟨k,c,e,z.sameBut hs (cne y c e)⟩
  .obtain⟨w',z⟩:=I.cell y c e;exact⟨w',z.sameBut hs (cne y c e)⟩
  .obtain⟨e,n,ne,nf,d⟩:=I.pin p hp;exact⟨(hs.2 p.1 ne).trans e,n,ne,nf,d⟩
 .have hfn:X.fn x=ai:=by
   rcases hf with z|z
   .exact z
   .rw[z] at hk;cases hk
  obtain⟨c,hc⟩:=I.ok.has x (.inl hk);obtain⟨w',z⟩:=I.cell x c hc;refine wpAny_storeName_cell I.ok.kind hk hc z (fun h' hc' hs=>?_);obtain⟨oc,hoc,hocd⟩:=id z;refine h {s with heap:=h'} ⟨I.ok,I.os,I.bare,⟨fun b o e n hb hx=>?_,fun b o e n hb hx=>?_,I.base.free,fun b o e hx=>?_,I.base.tups,I.base.frzs,I.base.tbls⟩,⟨m,hn.sameBut hs (dF (cne x c hc)),fun j y v' e1 e2 e3=>?_⟩,fun y c' e=>?_,I.free,I.freeC,fun p hp=>?_,tracked ⟨oc,hoc,I.freeC x c hc⟩ hs,by simpa using I.len⟩ ⟨c,hs,.inr hc⟩
  .exact(hs.2 b (qB (qE (qv e) (I.ok.cab x c hfn hc)))).trans (I.base.keep b o e n hb hx)
  .obtain⟨sl,e1⟩:=I.base.slot b o e n hb hx;exact⟨sl,(hs.2 b (qB (qE (qv e) (I.ok.cab x c hfn hc)))).trans e1⟩
  .obtain⟨o',e1⟩:=I.base.there b o e hx;exact⟨o',(hs.2 b (qB (qE (qv e) (I.ok.cab x c hfn hc)))).trans e1⟩
  .by_cases hj:j=i
   .subst hj;rw[hi] at e1;cases e1;rw[uN hiσ] at e2;cases e2;exact⟨u,r,.inr ⟨.inl hk,c,hc,hc'⟩⟩
   .rw[mY (dF hj)] at e2;obtain⟨u',r',q⟩:=hl j y v' e1 e2 e3;refine⟨u',r',?_⟩;rcases q with q|⟨k,c',e,z'⟩
    .exact .inl q
    .refine .inr ⟨k,c',e,z'.sameBut hs ?_⟩;rintro rfl;exact hj (CZ hN e1 (I.ok.inj _ _ _ e hc▸hi))
  .by_cases hcc:c'=c
   .subst hcc;exact⟨_,hc'⟩
   .obtain⟨w2,z2⟩:=I.cell y c' e;exact⟨w2,z2.sameBut hs hcc⟩
  .obtain⟨e,n,ne,nf,d⟩:=I.pin p hp;refine⟨(hs.2 p.1 ?_).trans e,n,ne,nf,d⟩;intro q;rw[q,hoc] at e;have q':oc=p.2:=qG e;exact d w' (by rw[←q'];exact hocd)
theorem sZ {M:uM} {E:Value->aI->Prop} {Q:lO->aI->Prop} (I:Inv X pins σ H s) (hN:X.N.Nodup) (hi:X.N[i]?=aa x) (hx:Loc X.env.scope x) (r:bx v u)
  (h:∀s',Inv X pins (σ.set i (aa v)) H s'->Q () s') (hf:X.fn x=ai\/X.env.scope.names.lookup x=aa .local:=by first|exact .inl rfl|exact .inr rfl|assumption):aM M A (storeName X.env x u) Q E s:=
 DH I hN hi hx r (fun s' I' _=>h s' I') hf
theorem Inv.call' {ch:ac aw} (I:Inv X pins σ H s) (ho:s'.os=s.os) (u:Un (frs X.stack) ch H H' s.heap s'.heap) (hok:HOk X.prog X.w H' s'.heap) (hg:ky s'.gens)
  (hch:∀b∈ch,(b∈X.ex\/X.s₀.heap.objs.size<=b)/\b≠X.env.locals/\(∀x c,X.env.cells.lookup x=aa c->c≠b)/\∀p∈X.pn++pins,p.1≠b):Inv X pins σ H' s':=by
 obtain⟨h',g',d',t',o'⟩:=s';have e:o'=s.os:=ho;subst e;exact I.call (g':=g') (t':=t') (d':=d') u hok hg hch
end
noncomputable abbrev XK:=Value->ar aw->Hp->Prop
noncomputable abbrev St:=ac (ar V)
noncomputable abbrev VK:=V->Hp->Prop
noncomputable abbrev TE:=St->Hp->VK->Prop
noncomputable abbrev TT:=St->Hp->(aX->Hp->Prop)->Prop
noncomputable abbrev TA:=St->Hp->(ac V->Hp->Prop)->Prop
structure Ends where
 nx:St->Hp->Prop
 rt:VK
 bk:St->Hp->Prop:=fun _ _=>False
 ct:St->Hp->Prop:=fun _ _=>False
noncomputable abbrev TS:=Ends->St->Hp->Prop
noncomputable def EP (X:Cx) (pins:ac (aw×bd)) (σ:St) (Q:VK) (u:Value) (s':aI):Prop:=∃v H',Inv X pins σ H' s'/\bx v u/\Q v H'
noncomputable def TP (X:Cx) (pins:ac (aw×bd)) (σ:St) (Q:aX->Hp->Prop) (b:aX) (s':aI):Prop:=∃H',Inv X pins σ H' s'/\Q b H'
noncomputable def AP (X:Cx) (pins:ac (aw×bd)) (σ:St) (Q:ac V->Hp->Prop) (us:ac Value) (s':aI):Prop:=∃vs H',Inv X pins σ H' s'/\bK vs us/\Q vs H'
noncomputable def SP (X:Cx) (pins:ac (aw×bd)) (D:Ends) (f:Flow) (s':aI):Prop:=
 match f with
 |.next=>∃σ' H',Inv X pins σ' H' s'/\D.nx σ' H'
 |.brk=>∃σ' H',Inv X pins σ' H' s'/\D.bk σ' H'
 |.cont=>∃σ' H',Inv X pins σ' H' s'/\D.ct σ' H'
 |.ret u=>∃v σ' H',Inv X pins σ' H' s'/\bx v u/\D.rt v H'
noncomputable def PE (X:Cx) (e:Expr) (t:TE):Prop:=
 ∀(pins:ac (aw×bd)) (s:aI) (σ:St) (H:Hp) (Q:VK),Inv X pins σ H s->t σ H Q->aM .(q) X.A (eval e X.env) (EP X pins σ Q) X.xe s
noncomputable def PT (X:Cx) (e:Expr) (t:TT):Prop:=
 ∀(pins:ac (aw×bd)) (s:aI) (σ:St) (H:Hp) (Q:aX->Hp->Prop),Inv X pins σ H s->t σ H Q->aM .(q) X.A (isTrue e X.env (eval e X.env)) (TP X pins σ Q) X.xe s
noncomputable def PW (X:Cx) (e:Expr) (t:TT):Prop:=
 ∀(whole:Sem Value) (pins:ac (aw×bd)) (s:aI) (σ:St) (H:Hp) (Q:aX->Hp->Prop),Inv X pins σ H s->t σ H Q->aM .(q) X.A (isTrue e X.env whole) (TP X pins σ Q) X.xe s
variable {e:Expr}
theorem PW.pt {t:TT} (h:PW X e t):PT X e t:=h _
noncomputable def PA (X:Cx) (es:ac Expr) (t:TA):Prop:=
 ∀(pos:dq) (pins:ac (aw×bd)) (s:aI) (σ:St) (H:Hp) (Q:ac V->Hp->Prop),Inv X pins σ H s->t σ H Q->aM .(q) X.A (spliced (cC pos (a6 es X.env))) (AP X pins σ Q) X.xe s
noncomputable def PS (X:Cx) (st:Stmt) (t:TS):Prop:=
 ∀(pins:ac (aw×bd)) (s:aI) (σ:St) (H:Hp) (D:Ends),Inv X pins σ H s->t D σ H->aM .(q) X.A (exec st X.env) (SP X pins D) X.xe s
noncomputable def PSs (X:Cx) (st:ac Stmt) (t:TS):Prop:=
 ∀(pins:ac (aw×bd)) (s:aI) (σ:St) (H:Hp) (D:Ends),Inv X pins σ H s->t D σ H->aM .(q) X.A (execs st X.env) (SP X pins D) X.xe s
variable {α:Type}
theorem thn {t:Sem α} {Q Q':α->aI->Prop} {M:uM} {E:Value->aI->Prop} (h:aM M A t Q E s) (hQ:∀a s,Q a s->Q' a s):aM M A t Q' E s:=gY h hQ fun _ _ x=>x
variable {b:Expr} {ta:TE} {σ:St} {pos:dq} {Q:Value->aI->Prop} {op:CmpOp}
section
theorem bin {a:Expr} {tb:TE} (ha:PE X a ta) (hb:PE X b tb) {R:V->V->Hp->Prop} (I:Inv X pins σ H s) (h:ta σ H fun x H1=>tb σ H1 fun y H2=>R x y H2)
  {Q:α->aI->Prop} {f:Value->Value->Sem α} 
  (hf:∀v u s2 x y H2,Inv X pins σ H2 s2->bx x v->bx y u->R x y H2->aM .(q) X.A (f v u) Q X.xe s2) :
  aM .(q) X.A (eval a X.env) (fun v s₁=>aM .(q) X.A (eval b X.env) (fun u s₂=>aM .(q) X.A (f v u) Q X.xe s₂) X.xe s₁) X.xe s:=by
 refine thn (ha pins s σ H _ I h) fun v s1 ⟨x,H1,I1,r1,q1⟩=>?_;refine thn (hb pins s1 σ H1 _ I1 q1) fun u s2 ⟨y,H2,I2,r2,q2⟩=>?_;exact hf v u s2 x y H2 I2 r1 r2 q2
noncomputable def CL (i:al):TE:=fun σ H Q=>∃v,σ[i]?=aa (aa v)/\Q v H
noncomputable def tC (v:V):TE:=fun _ H Q=>Q v H
theorem iW (hN:X.N[i]?=aa x) (hv:Vis X.env.scope x) (hd:.(E)=aq:=by decide) (hcd:(x==("__classdict__":ak))=aq:=by decide):PE X (.Name x pos) (CL i):=by
 intro pins s σ H Q I h;obtain⟨v,e,h⟩:=h;obtain⟨m,hn,hl⟩:=I.loc;obtain⟨u,r,l⟩:=hl i x v hN e hv;have fin:EP X pins σ Q u s:=⟨v,H,I,r,h⟩;rcases l with⟨hk,hm⟩|⟨hk,c,hc,hcell⟩
 .exact Er (wpAny_loadName_local I.ok.kind hk hn hm fin) hd
 .rcases hk with hk|hk
  .exact Er (wpAny_loadName_cell I.ok.kind hk hc hcell fin) hd
  .exact Er (wpAny_loadName_free I.ok.kind hk hc hcell fin hcd) hd
theorem KF {i j pos}:PE X (.Constant (.int i) j pos) (tC (.int i)):=fun _ _ _ H _ I h=>wpAny_Constant_int ⟨.int i,H,I.tok _,⟨_,rfl⟩,h⟩
theorem MP {b j pos}:PE X (.Constant (.bool b) j pos) (tC (.bl b)):=fun _ _ _ H _ I h=>Constant_bool ⟨.bl b,H,I,rfl,h⟩
theorem Lv {j pos}:PE X (.Constant .none j pos) (tC .non):=fun _ _ _ H _ I h=>Constant_none ⟨.non,H,I,rfl,h⟩
theorem Lu {x j pos}:PE X (.Constant (.str x) j pos) (tC (.str x)):=fun _ _ _ H _ I h=>Calls.Constant_str ⟨.str x,H,I.tok _,⟨_,rfl⟩,h⟩
noncomputable def Gl (X:Cx) (x:ak):Prop:=X.env.kindOf x=aa .globalImplicit
theorem wG {E:Value->aI->Prop} (I:Inv X pins σ H s) (hg:Gl X x) (hm:X.mg x=aa u) (h:Q u s)
  (hd:.(E)=aq:=by decide):aM .(q) X.A (eval (.Name x pos) X.env) Q E s:=
 Qv I.ok.kind hg (Calls.loadGlobal_global (by rw[I.ok.glob];exact I.mod.glob.keeps I.bk) hm h) hd
theorem nS {E:Value->aI->Prop} (I:Inv X pins σ H s) (hg:Gl X x) (hm:X.mg x=ab) (hv:lN x=aa u) (h:Q u s)
  (hn:x≠"__name__":=by decide) (hd:.(E)=aq:=by decide):aM .(q) X.A (eval (.Name x pos) X.env) Q E s:=by
 obtain⟨mb,h1,h2⟩:=I.mod.blt;exact Qv I.ok.kind hg (Calls.loadGlobal_builtin (by rw[I.ok.glob];exact I.mod.glob.keeps I.bk) hm (by rw[I.ok.blt];exact h1.keeps I.bk) ((h2 x hn).trans hv) h) hd
theorem Jr (hg:Gl X x) (hm:X.mg x=aa u) (r:bx v u) (hd:.(E)=aq:=by decide):PE X (.Name x pos) (tC v):=
 fun _ _ _ H _ I h=>wG I hg hm ⟨v,H,I,r,h⟩ hd
theorem KO (hg:Gl X x) (hm:X.mg x=ab) (hv:lN x=aa u) (r:bx v u) (hn:x≠"__name__":=by decide) (hd:.(E)=aq:=by decide):PE X (.Name x pos) (tC v):=
 fun _ _ _ H _ I h=>nS I hg hm hv ⟨v,H,I,r,h⟩ hn hd
variable {a:Expr} {tb:TE}
noncomputable def PC (X:Cx) (op:CmpOp) (a b:Expr) (t:TE):Prop:=
 ∀(pins:ac (aw×bd)) (s:aI) (σ:St) (H:Hp) (Q:VK),Inv X pins σ H s->t σ H Q->
  aM .(q) X.A (eval a X.env) (fun v s₁=>aM .(q) X.A (eval b X.env) (fun u s₂=>aM .(q) X.A (dh op v u) (EP X pins σ Q) X.xe s₂) X.xe s₁) X.xe s
theorem JH (b:Expr) (h:op≠.In) (h2:op≠.NotIn):lP op b=aq:=by
 have e1:(op==Qw)=aq:=by cases op<;>first|rfl|exact bN rfl h
 have e2:(op==Qx)=aq:=by cases op<;>first|rfl|exact bN rfl h2
 cases b<;>simp[lP,e1,e2]
noncomputable def tB (t:TE):TT:=fun σ H Q=>t σ H fun x H1=>∃c,x=.bl c/\Q c H1
theorem SK {t:TE} (h:PC X op a b t) (h1:lP op b=aq:=by first|exact JH _ .(g) .(g)|rfl):PT X (.Compare a [op] [b] pos) (tB t):=by intro pins s σ H Q I hw;refine Qy (thn (h pins s σ H _ I hw) fun v s1 h1=>thn h1 fun u s2 h2=>thn h2 fun c s3 ⟨x,H1,I1,r1,q1⟩=>?_) h1;obtain⟨d,rfl,q⟩:=q1;cases r1;exact kz ⟨H1,I1,q⟩
theorem Hh {t:TE} (h:PE X e t) (he:∀whole,isTrue e X.env whole=(do let v ←whole;oF e.pos;jM [v] (truthy v)):=by intro _;rfl):PT X e (tB t):=by intro pins s σ H Q I hw;refine isTrue_plain (thn (h pins s σ H _ I hw) fun v s1 ⟨x,H1,I1,r1,q1⟩=>?_) (he _);obtain⟨d,rfl,q⟩:=q1;cases r1;exact kz ⟨H1,I1,q⟩
variable {tA tB':TT} {bY:ac Expr}
noncomputable def OX (t u:TT):TT:=fun σ H Q=>t σ H fun c H1=>if c=ai then u σ H1 Q else Q aq H1
noncomputable def tOr (t u:TT):TT:=fun σ H Q=>t σ H fun c H1=>if c=ai then Q ai H1 else u σ H1 Q
noncomputable def NE (t:TT):TT:=fun σ H Q=>t σ H fun c H1=>Q (!c) H1
theorem F2 (ha:PT X a tA):PW X (.BoolOp .And [a] pos) tA:=by
 intro wh pins s σ H Q I h;refine isTrue_and (thn (ha pins s σ H Q I h) fun c s1 e=>?_);cases c with
 |true=>exact isTrue_and_nil e
 |false=>exact e
theorem Mq (ha:PT X a tA):PW X (.BoolOp .Or [a] pos) tA:=by
 intro wh pins s σ H Q I h;refine isTrue_or (thn (ha pins s σ H Q I h) fun c s1 e=>?_);cases c with
 |false=>exact isTrue_or_nil e
 |true=>exact e
theorem JO (ha:PT X a tA) (hb:PW X (.BoolOp .And (b::bY) pos) tB'):PW X (.BoolOp .And (a::b::bY) pos) (OX tA tB'):=by
 intro wh pins s σ H Q I h;refine isTrue_and (thn (ha pins s σ H _ I h) fun c s1 ⟨H1,I1,q1⟩=>?_);cases c with
 |true=>exact hb wh pins s1 σ H1 Q I1 q1
 |false=>exact⟨H1,I1,q1⟩
theorem Qm (ha:PT X a tA) (hb:PW X (.BoolOp .Or (b::bY) pos) tB'):PW X (.BoolOp .Or (a::b::bY) pos) (tOr tA tB'):=by
 intro wh pins s σ H Q I h;refine isTrue_or (thn (ha pins s σ H _ I h) fun c s1 ⟨H1,I1,q1⟩=>?_);cases c with
 |true=>exact⟨H1,I1,q1⟩
 |false=>exact hb wh pins s1 σ H1 Q I1 q1
theorem II (ha:PT X a tA):PT X (.UnaryOp .Not a pos) (NE tA):=by intro pins s σ H Q I h;exact isTrue_not (ha pins s σ H (fun c H1=>Q (!c) H1) I h)
noncomputable def Gp (ta tb:TE):TE:=fun σ H Q=>ta σ H fun x H1=>∃c,x=.bl c/\if c=ai then tb σ H1 Q else Q (.bl aq) H1
noncomputable def Gj (ta tb:TE):TE:=fun σ H Q=>ta σ H fun x H1=>∃c,x=.bl c/\if c=ai then Q (.bl ai) H1 else tb σ H1 Q
noncomputable def Kj (ta:TE):TE:=fun σ H Q=>ta σ H fun x H1=>∃c,x=.bl c/\Q (.bl (!c)) H1
theorem Ov {op} {t:TE} (h:PE X a t):PE X (.BoolOp op [a] pos) t:=fun pins s σ H Q I hw=>BoolOp_one (h pins s σ H Q I hw)
theorem Ih (ha:PE X a ta) (hb:PE X (.BoolOp .And (b::bY) pos) tb):PE X (.BoolOp .And (a::b::bY) pos) (Gp ta tb):=by
 intro pins s σ H Q I h;refine BoolOp_and (thn (ha pins s σ H _ I h) fun v s1 ⟨x,H1,I1,r1,q1⟩=>?_);obtain⟨c,rfl,q1⟩:=q1;cases r1;refine kz ?_;cases c with
 |true=>exact hb pins s1 σ H1 Q I1 q1
 |false=>exact⟨.bl aq,H1,I1,rfl,q1⟩
theorem PR (ha:PE X a ta) (hb:PE X (.BoolOp .Or (b::bY) pos) tb):PE X (.BoolOp .Or (a::b::bY) pos) (Gj ta tb):=by
 intro pins s σ H Q I h;refine BoolOp_or (thn (ha pins s σ H _ I h) fun v s1 ⟨x,H1,I1,r1,q1⟩=>?_);obtain⟨c,rfl,q1⟩:=q1;cases r1;refine kz ?_;cases c with
 |false=>exact hb pins s1 σ H1 Q I1 q1
 |true=>exact⟨.bl ai,H1,I1,rfl,q1⟩
theorem Gb (ha:PE X a ta):PE X (.UnaryOp .Not a pos) (Kj ta):=by intro pins s σ H Q I h;refine UnaryOp_ (thn (ha pins s σ H _ I h) fun v s1 ⟨x,H1,I1,r1,q1⟩=>?_);obtain⟨c,rfl,q1⟩:=q1;cases r1;exact not_of (kz ⟨.bl (!c),H1,I1,rfl,q1⟩)
end
noncomputable def SqL (K:bi) (H:Hp) (a:aw) (xs:ac V):Prop:=
 Rd H a (.lst xs) \/
  ∃(o:bd) (its:bR Value) (n:al),K.lookup a=aa o/\o.cls=.type "list"/\o.dict=ab/\o.data=.seq its n/\its.size<=aV/\bK xs its.toList
noncomputable def SqT (K:bi) (H:Hp) (a:aw) (xs:ac V):Prop:=
 Rd H a (.tup xs) \/
  ∃(o:bd) (its:bR Value) (n:al),K.lookup a=aa o/\o.cls=.type "tuple"/\o.data=.seq its n/\its.size<=aV/\bK xs its.toList
noncomputable def Pj:Value->ar V
 |.none=>aa .non
 |.bool b=>aa (.bl b)
 |.int i _=>aa (.int i)
 |.str x _=>aa (.str x)
 |.bytes b _=>aa (.byt b)
 |.float b _=>aa (.flt b)
 |.ref a=>aa (.ref a)
 |.type n=>aa (.ty n)
 |_=>ab
theorem bx.abs {x:V} (r:bx x u):Pj u=aa x:=by
 cases x with
 |non=>cases r;rfl
 |bl _=>cases r;rfl
 |int _=>obtain⟨t,rfl⟩:=r;rfl
 |str _=>obtain⟨t,rfl⟩:=r;rfl
 |byt _=>obtain⟨t,rfl⟩:=r;rfl
 |flt _=>obtain⟨t,rfl⟩:=r;rfl
 |ref _=>cases r;rfl
 |ty _=>cases r;rfl
theorem bx.inj {x y:V} (r:bx x u) (q:bx y u):x=y:=qG (r.abs.symm.trans q.abs)
theorem bK.inj:∀{xs ys:ac V} {us:ac Value},bK xs us->bK ys us->xs=ys
 |_,_,_,.nil,.nil=>rfl
 |_,_,_,.cons r t,.cons r' t'=>by rw[r.inj r',bK.inj t t']
variable {ys:ac V}
section
variable {xs:ac V}
theorem Inv.list (I:Inv X pins σ H s) (h:SqL X.K H a xs):∃its:ac Value,bK xs its/\PlainL s.heap a its.toArray/\xs.length<=aV:=by
 rcases h with h|⟨o,its,n,hk,hc,hd,hs,hz,r⟩
 .obtain⟨z,its,n,r,e⟩:=h.ok I.hok;exact⟨its,r,⟨_,n,e,rfl,rfl,rfl⟩,z⟩
 .refine⟨its.toList,r,⟨o,n,I.kIn a o hk,hc,hd,by simpa using hs⟩,?_⟩;have e:=r.length;simp only[fJ] at e;omega
theorem Inv.tuple (I:Inv X pins σ H s) (h:SqT X.K H a xs):∃its:ac Value,bK xs its/\IsTup s.heap a its.toArray/\xs.length<=aV:=by
 rcases h with h|⟨o,its,n,hk,hc,hs,hz,r⟩
 .obtain⟨z,its,r,p⟩:=h.ok I.hok;exact⟨its,r,p,z⟩
 .refine⟨its.toList,r,⟨o,I.kIn a o hk,hc,n,by simpa using hs⟩,?_⟩;have e:=r.length;simp only[fJ] at e;omega
theorem Inv.list_inj (I:Inv X pins σ H s) (h:SqL X.K H a xs) (h':SqL X.K H a ys):xs=ys:=by
 obtain⟨its,r,⟨o,n,e,_,_,d⟩,_⟩:=I.list h;obtain⟨its',r',⟨o',n',e',_,_,d'⟩,_⟩:=I.list h';rw[e] at e';cases e';rw[d] at d';injection d' with d1 _;have:its=its':=by simpa using cK Qz d1
 subst this;exact r.inj r'
theorem Inv.tuple_inj (I:Inv X pins σ H s) (h:SqT X.K H a xs) (h':SqT X.K H a ys):xs=ys:=by
 obtain⟨its,r,⟨o,e,_,n,d⟩,_⟩:=I.tuple h;obtain⟨its',r',⟨o',e',_,n',d'⟩,_⟩:=I.tuple h';rw[e] at e';cases e';rw[d] at d';injection d' with d1 _;have:its=its':=by simpa using cK Qz d1
 subst this;exact r.inj r'
end
noncomputable abbrev Cx.wish (X:Cx) (E:Value->aI->Prop):Cx:={X with xe:=E}
noncomputable abbrev Cx.nox (X:Cx):Cx:=X.wish fun _ _=>False
theorem Cx.Ok.wish (ok:X.Ok) (E:Value->aI->Prop):(X.wish E).Ok:=
 ⟨ok.mod,ok.kind,ok.glob,ok.blt,ok.above,ok.inj,ok.has,ok.cab,ok.hd,ok.frames,ok.stk,ok.exf,ok.bs,ok.bsz,ok.noex,ok.exfs,ok.funs,ok.frf⟩
theorem Cx.Ok.unwish {E:Value->aI->Prop} (ok:(X.wish E).Ok):X.Ok:=
 ⟨ok.mod,ok.kind,ok.glob,ok.blt,ok.above,ok.inj,ok.has,ok.cab,ok.hd,ok.frames,ok.stk,ok.exf,ok.bs,ok.bsz,ok.noex,ok.exfs,ok.funs,ok.frf⟩
section
variable {E:Value->aI->Prop}
theorem Inv.wish (I:Inv X pins σ H s) (E:Value->aI->Prop):Inv (X.wish E) pins σ H s:=⟨I.ok.wish E,I.os,I.bare,I.base,I.loc,I.cell,I.free,I.freeC,I.pin,I.hok,I.len⟩
theorem Inv.unwish (I:Inv (X.wish E) pins σ H s):Inv X pins σ H s:=⟨I.ok.unwish,I.os,I.bare,I.base,I.loc,I.cell,I.free,I.freeC,I.pin,I.hok,I.len⟩
theorem SP.unwish {D:Ends} {f:Flow} {s':aI} (h:SP (X.wish E) pins D f s'):SP X pins D f s':=by
 cases f with
 |next=>obtain⟨σ',H',I,q⟩:=h;exact⟨σ',H',I.unwish,q⟩
 |brk=>obtain⟨σ',H',I,q⟩:=h;exact⟨σ',H',I.unwish,q⟩
 |cont=>obtain⟨σ',H',I,q⟩:=h;exact⟨σ',H',I.unwish,q⟩
 |ret u=>obtain⟨v,σ',H',I,r,q⟩:=h;exact⟨v,σ',H',I.unwish,r,q⟩
theorem PSs.nox {st:ac Stmt} {t:TS} (h:PSs X.nox st t):PSs X st t:=fun pins s σ H D I hw=>
 gY (h pins s σ H D (I.wish _) hw) (fun _ _ q=>q.unwish) fun _ _ z=>ir z
end
variable {st:Stmt} {te:TE} {c:Expr} {tc:TT}
section
variable {bY:ac Stmt} {t u:TS}
noncomputable def Hx:TS:=fun D σ H=>D.nx σ H
noncomputable def Po (t u:TS):TS:=fun D σ H=>t {D with nx:=u D} σ H
theorem HE:PSs X [] Hx:=fun _ _ σ H _ I h=>Es ⟨σ,H,I,h⟩
theorem Pg (h1:PS X st t) (h2:PSs X bY u):PSs X (st::bY) (Po t u):=by
 intro pins s σ H D I h;refine QA (thn (h1 pins s σ H {D with nx:=u D} I h) fun f s1 q=>?_);cases f with
 |next=>
  obtain⟨σ',H',I',q⟩:=q;exact h2 pins s1 σ' H' D I' q
 |ret v=>exact q
 |brk=>exact q
 |cont=>exact q
theorem LQ (h1:PS X st t):PSs X [st] t:=by
 intro pins s σ H D I h;refine QA (thn (h1 pins s σ H D I h) fun f s1 q=>?_);cases f with
 |next=>exact Es q
 |ret v=>exact q
 |brk=>exact q
 |cont=>exact q
theorem Inv.quiet (I:Inv X pins σ H s):interactive X.env=aq:=by simp[interactive,I.ok.kind]
noncomputable def Hf (te:TE):TS:=fun D σ H=>te σ H fun _ H1=>D.nx σ H1
theorem wA (he:PE X e te) (hs:fK e ab pos.line X.env=bB aq:=by rfl):PS X (.Expr e pos) (Hf te):=by intro pins s σ H D I h;exact wpAny_Expr_any (thn (he pins s σ H _ I h) fun v s1 ⟨x,H1,I1,r1,q1⟩=>⟨σ,H1,I1,q1⟩) I.quiet hs
noncomputable def Od (te:TE):TS:=fun D σ H=>te σ H D.rt
theorem Gk (he:PE X e te):PS X (.Return (aa e) pos) (Od te):=by intro pins s σ H D I h;exact wpAny_Return_some (thn (he pins s σ H _ I h) fun v s1 ⟨x,H1,I1,r1,q1⟩=>⟨x,σ,H1,I1,r1,q1⟩)
noncomputable def PZ (c:TT) (t u:TS):TS:=fun D σ H=>c σ H fun b H1=>if b=ai then t D σ H1 else u D σ H1
theorem K1 {a b:ac Stmt} (hc:PT X c tc) (ha:PSs X a t) (hb:PSs X b u):PS X (.If c a b pos) (PZ tc t u):=by
 intro pins s σ H D I h;refine wpAny_If (thn (hc pins s σ H _ I h) fun d s1 ⟨H1,I1,q1⟩=>?_);cases d with
 |true=>exact ha pins s1 σ H1 D I1 q1
 |false=>exact hb pins s1 σ H1 D I1 q1
end
noncomputable abbrev TG:=V->St->Hp->(St->Hp->Prop)->Prop
noncomputable abbrev TGs:=ac V->St->Hp->(St->Hp->Prop)->Prop
noncomputable def PG (X:Cx) (target:Expr) (t:TG):Prop:=
 ∀(pins:ac (aw×bd)) (s:aI) (σ:St) (H:Hp) (v:V) (u:Value) (Q:St->Hp->Prop),Inv X pins σ H s->bx v u->t v σ H Q->
  aM .(q) X.A (kA target X.env u) (fun _ s'=>∃σ' H',Inv X pins σ' H' s'/\Q σ' H') X.xe s
noncomputable def PGs (X:Cx) (ts:ac Expr) (t:TGs):Prop:=
 ∀(pins:ac (aw×bd)) (s:aI) (σ:St) (H:Hp) (vs:ac V) (us:ac Value) (Q:St->Hp->Prop),Inv X pins σ H s->bK vs us->t vs σ H Q->
  aM .(q) X.A (Et ((jN ts X.env).map (·.2)) us) (fun _ s'=>∃σ' H',Inv X pins σ' H' s'/\Q σ' H') X.xe s
variable {es:ac Expr} {n:al} {tg:Expr} {pos' px py:dq}
noncomputable def pG (i:al):TG:=fun v σ H Q=>Q (σ.set i (aa v)) H
theorem IH (hN:X.N.Nodup) (hi:X.N[i]?=aa x) (hx:Loc X.env.scope x) (hf:X.fn x=ai\/X.env.scope.names.lookup x=aa .local:=by first|exact .inl rfl|exact .inr rfl|assumption):PG X (.Name x pos) (pG i):=by intro pins s σ H v u Q I r h;exact QB (sZ I hN hi hx r (fun s' I'=>⟨_,H,I',h⟩) hf)
noncomputable def Lf:TGs:=fun vs σ H Q=>vs=[]/\Q σ H
noncomputable def MV (t:TG) (u:TGs):TGs:=fun vs σ H Q=>∃v r,vs=v::r/\t v σ H fun σ' H'=>u r σ' H' Q
theorem Hi:PGs X [] Lf:=by intro pins s σ H vs us Q I r h;obtain⟨e,h⟩:=h;subst e;cases r;exact QC ⟨σ,H,I,h⟩
theorem K4 {t:TG} {u:TGs} (h1:PG X e t) (h2:PGs X es u)
  (hs:(jN (e::es) X.env).map (·.2)=kA e X.env::(jN es X.env).map (·.2):=by rfl):PGs X (e::es) (MV t u):=by
 intro pins s σ H vs us Q I r h;obtain⟨v,vr,e1,h⟩:=h;subst e1;cases r with
 |cons r rr=>
  rw[hs];refine Eu (thn (h1 pins s σ H _ _ _ I r h) fun _ s1 ⟨σ1,H1,I1,q1⟩=>?_);exact h2 pins s1 σ1 H1 _ _ Q I1 rr q1
noncomputable def Ix (K:bi) (n:al) (t:TGs):TG:=fun v σ H Q=>∃a xs,v=.ref a/\SqT K H a xs/\xs.length=n/\t xs σ H Q
theorem Op {k:al} {t:TGs} (hc:X.calm=ai) (h:PGs X es t)
  (hn:(jN es X.env).length=n:=by rfl) (hst:(jN es X.env).findIdx? (·.1)=ab:=by rfl):PG X (.Tuple es k pos) (Ix X.K n t):=by
 intro pins s σ H v u Q I r hw;obtain⟨a,xs,e1,hq,hl,hw⟩:=hw;subst e1;cases r;obtain⟨its,rv,ht,hz⟩:=I.tuple hq;refine assign_Tuple_tuple (I.ok.hd hc) ht (by simp[hn,←hl,rv.length]) hst fun h' hx=>?_;have I1:Inv X pins σ H {s with heap:=h'}:=I.kept (t':=s.toks) fun b o e=>hx b o (qB (qv e)) e;exact h pins _ σ H xs _ Q I1 (by simpa using rv) hw
noncomputable def pW (te:TE) (g:TG):TS:=fun D σ H=>te σ H fun x H1=>g x σ H1 D.nx
theorem Ku {g:TG} (he:PE X e te) (hg:PG X tg g) (hs:yy [tg] e pos.line X.env=bB aq:=by rfl) (hw:yz [tg] e X.env=bB ab:=by rfl)
  (h1:(jN [tg] X.env).map (·.2)=[kA tg X.env]:=by rfl):PS X (.Assign [tg] e pos) (pW te g):=by
 intro pins s σ H D I h;refine wpAny_Assign_stores (thn (he pins s σ H _ I h) fun v s1 ⟨x,H1,I1,r1,q1⟩=>?_) hs hw;rw[h1];exact thn (hg pins s1 σ H1 x v _ I1 r1 q1) fun _ s2 q=>q
theorem uk (hN:X.N.Nodup) (hi:X.N[i]?=aa x) (hx:Loc X.env.scope x) (he:PE X e te) (hs:fK e (aa (.Name x pos')) pos.line X.env=bB aq:=by rfl) (hf:X.fn x=ai\/X.env.scope.names.lookup x=aa .local:=by first|exact .inl rfl|exact .inr rfl|assumption) :
  PS X (.Assign [.Name x pos'] e pos) (pW te (pG i)):=by
 intro pins s σ H D I h;refine wpAny_Assign_Name (thn (he pins s σ H _ I h) fun v s1 ⟨y,H1,I1,r1,q1⟩=>?_) hs;exact sZ I1 hN hi hx r1 (fun s2 I2=>⟨_,H1,I2,q1⟩) hf
noncomputable def Ny (i j:al) (ta:TA):TS:=fun D σ H=>ta σ H fun vs H1=>∃v w,vs=[v,w]/\D.nx ((σ.set i (aa v)).set j (aa w)) H1
theorem MC {y:ak} {a:Expr} {ta:TA} {pt:dq} {kt k2 pt2} (hc:X.calm=ai) (hN:X.N.Nodup) (hi:X.N[i]?=aa x) (hj:X.N[j]?=aa y) (hij:i≠j)
  (hx:X.env.scope.names.lookup x=aa .local) (hy:X.env.scope.names.lookup y=aa .local) (ha:PA X [a,b] ta)
  (hw:yz [.Tuple [.Name x px,.Name y py] kt pt] (.Tuple [a,b] k2 pt2) X.env=bB (aa [x,y]))
  (hs:yy [.Tuple [.Name x px,.Name y py] kt pt] (.Tuple [a,b] k2 pt2) pos.line X.env=bB aq:=by rfl) :
  PS X (.Assign [.Tuple [.Name x px,.Name y py] kt pt] (.Tuple [a,b] k2 pt2) pos) (Ny i j ta):=by
 intro pins s σ H D I h;rw[exec_Assign_arm];refine qx (Ev ?_);rw[hs];refine qx (qz ?_);rw[qY .(g)];refine qx (Tuple_ (thn (ha _ pins s σ H _ I h) fun us s1 ⟨vs,H1,I1,r1,q1⟩=>?_));obtain⟨v,w,e1,q1⟩:=q1;subst e1;obtain⟨u1,u2,rfl,rv,rw'⟩:∃u1 u2,us=[u1,u2]/\bx v u1/\bx w u2:=by
  cases r1 with
  |cons p q=>
   cases q with
   |cons p' q'=>
    cases q';exact⟨_,_,rfl,p,p'⟩
 refine lQ ?_ (by show 2<=aV;decide);have I2:Inv X pins σ H1 {s1 with heap:=s1.heap.push {cls:=.type "tuple",data:=.seq [u1,u2].toArray} }:=I1.kept (t':=s1.toks) fun b o e=>qu _ e;rw[hw];refine qx (qz ?_);show aM .(q) X.A (do rule "assign.swapped-stores";let items ←unpackItems (.ref s1.heap.objs.size) 2 ab;Et [fun v=>yA X.env y v,fun v=>yA X.env x v] items.reverse;bB QD) _ _ _;refine qx (Ew (qx (unpackItems_tuple (items:=#[u1,u2]) (I.ok.hd hc) (Ex s1.heap _) fun h' hx'=>?_)));have I3:=I2.kept (h':=h') (t':=s1.toks) fun b o e=>hx' b o (qB (qv e)) e;show aM _ _ (Et [fun v=>yA X.env y v,fun v=>yA X.env x v] [u2,u1] >>= fun _=>bB QD) _ _ _;refine qx (Eu (QE (sZ I3 hN hj (.inl hy) rw' (fun s2 I4=>?_) (.inr hy))));refine Eu (QE (sZ I4 hN hi (.inl hx) rv (fun s3 I5=>QC (qz ?_)) (.inr hx)));rw[List.set_comm _ _ (dF hij)] at I5;exact⟨_,H1,I5,q1⟩
structure It where
 go:al->Hp->Prop
 yld:al->Hp->V->Hp->Prop
 stop:al->Hp->Prop
noncomputable def gQ (X:Cx) (pins:ac (aw×bd)) (H:Hp) (b:aw):Prop:=
 H b=ab/\b≠X.env.locals/\b∉X.fs/\(b∈X.ex\/X.s₀.heap.objs.size<=b)/\(∀x c,X.env.cells.lookup x=aa c->c≠b)/\∀p∈X.pn++pins,p.1≠b
theorem Inv.fpOk {b:aw} (I:Inv X pins σ H s) (hb:s.heap.objs.size<=b) (hn:H' b=ab):gQ X pins H' b:=by
 refine⟨hn,yB (qE I.lt hb),I.nofs hb,.inr (qL I.sz hb),fun x c e z=>?_,fun p hp z=>?_⟩
 .obtain⟨v,q⟩:=I.cell x c e;exact bN (qE q.lt (by rw[z];exact hb)) (kx _)
 .exact bN (qE (qv (I.pin p hp).1) (by rw[z];exact hb)) (kx _)
structure Turn (P:dy) (w:cS) (K:bi) (tg:Expr) (J:It) (fp:ac aw) (it:aw) (tn:al->Heap->Prop):Prop where
 mem:it∈fp
 obj:∀i h,tn i h->∀b∈fp,∃o,h.get? b=aa o/\∀v,o.data≠.cell v
 keep:∀i h h',tn i h->(∀b∈fp,∀o,h.get? b=aa o->h'.get? b=aa o)->tn i h'
 item:∀(X:Cx),X.prog=P->X.w=w->X.K=K->X.calm=ai->∀(i:al) (pins:ac (aw×bd)) (s:aI) (σ:St) (H:Hp) (E:Value->aI->Prop),Inv X pins σ H s->(∀b∈fp,gQ X pins H b)->tn i s.heap->J.go i H->
  aM (aQ P w) X.A (jO (.ref it)) (fun r s1=>∃u,r=aa u /\
   aM (aQ P w) X.A (uO tg (.ref it) u) (fun _ s2=>∃x H',Inv X pins σ H' s2/\bx x u/\J.yld i H x H'/\tn (i+1) s2.heap/\∀b∈fp,H' b=ab) E s1) E s
 done:∀(X:Cx),X.prog=P->X.w=w->X.K=K->X.calm=ai->∀(i:al) (pins:ac (aw×bd)) (s:aI) (σ:St) (H:Hp) (E:Value->aI->Prop),Inv X pins σ H s->(∀b∈fp,gQ X pins H b)->tn i s.heap->J.stop i H->
  aM (aQ P w) X.A (jO (.ref it)) (fun r s1=>r=ab/\Inv X pins σ H s1) E s
 self:∀(A:eB) (i:al) (s:aI) (Q:Value->aI->Prop) (E:Value->aI->Prop),tn i s.heap->Q (.ref it) s->aM (aQ P w) A (oG (.ref it)) Q E s
noncomputable abbrev TI:=St->Hp->(It->Hp->Prop)->Prop
noncomputable def PIE (X:Cx) (pins:ac (aw×bd)) (σ:St) (tg:Expr) (R:It->Hp->Prop) (itv:Value) (s2:aI):Prop:=
 ∃(it:aw) (fp:ac aw) (tn:al->Heap->Prop) (J:It) (H':Hp),itv=.ref it/\Inv X pins σ H' s2/\Turn X.prog X.w X.K tg J fp it tn/\tn 0 s2.heap/\(∀b∈fp,gQ X pins H' b)/\R J H'
noncomputable def PI (X:Cx) (tg iter:Expr) (wi:TI):Prop:=
 ∀(pins:ac (aw×bd)) (s:aI) (σ:St) (H:Hp) (R:It->Hp->Prop),Inv X pins σ H s->wi σ H R->
  aM .(q) X.A (eval iter X.env) (fun v s1=>aM .(q) X.A (oG v) (PIE X pins σ tg R) X.xe s1) X.xe s
theorem pd {M:uM} {E:Value->aI->Prop} {it:aw} {o:bd} {n:c9} {vs:bR Value} {Q:lO->aI->Prop} (ho:s.heap.get? it=aa o) (hc:o.cls=.type n) (hd:o.data=.fields vs)
  (hn:["enumerate","zip","dict_itemiterator","dict_reverseitemiterator","odict_iterator","itertools.zip_longest","itertools.pairwise"].contains n=aq) (hQ:Q () s):aM M A (uO tg (.ref it) u) Q E s:=by
 unfold uO;cases tg<;>first
  |exact qz hQ
  |(cases u<;>first
    |exact qz hQ
    |(refine qx (wpAny_load ho ?_);rw[hc,hd];show aM M A (if (["enumerate","zip","dict_itemiterator","dict_reverseitemiterator","odict_iterator","itertools.zip_longest","itertools.pairwise"].contains n && vs[0]?==aa (kB _))=ai then _ else _) Q E s;rw[qY (by intro h;rw[hn,Bool.false_and] at h;cases h)];exact qz hQ))
noncomputable def Itl (K:bi) (a:aw):It:=
 ⟨fun i H=>∃xs x,SqL K H a xs/\xs[i]?=aa x,fun i H x H'=>H'=H/\∀xs,SqL K H a xs->xs[i]?=aa x,fun i H=>∃xs,SqL K H a xs/\xs.length<=i⟩
noncomputable def Itt (K:bi) (a:aw):It:=
 ⟨fun i H=>∃xs x,SqT K H a xs/\xs[i]?=aa x,fun i H x H'=>H'=H/\∀xs,SqT K H a xs->xs[i]?=aa x,fun i H=>∃xs,SqT K H a xs/\xs.length<=i⟩
noncomputable def Itr (lo:ag) (n:al):It:=⟨fun i _=>i<n,fun i H x H'=>H'=H/\x=.int (lo+i),fun i _=>n<=i⟩
variable {K:bi}
theorem Os (a it:aw):Turn P w K tg (Itl K a) [it] it (fun i h=>h.IsListIter it a i) where
 mem:=by simp
 obj:=fun i h st b hb=>by
  have e:b=it:=by simpa using hb
  subst e;obtain⟨o,e,c,d⟩:=st;exact⟨o,e,fun v z=>by rw[d] at z;cases z⟩
 keep:=fun i h h' st k=>st.at fun o e=>k it (by simp) o e
 item:=by intro X hP hw hK hc i pins s σ H E I hf st hg;subst hP hw hK;obtain⟨xs,x,hq,hx⟩:=hg;obtain⟨its,rv,p,hz⟩:=I.list hq;obtain⟨u,hu,ru⟩:=rv.get hx;obtain⟨f0,f1,f2,f3,f4,f5⟩:=hf it (by simp);refine wpAny_pyNext_list_item st p.isList (x:=u) (by simpa using hu) fun h' st' sb=>?_;have I1:Inv X pins σ H {s with heap:=h'}:=I.turned (t':=s.toks) (fun b o hb e=>(sb.2 b hb).trans e) f0 f1 f3 f4 f5;obtain⟨o,e,c,d⟩:=id st';exact⟨u,rfl,pd (s:={s with heap:=h'}) e c d .(g) ⟨x,H,I1,ru,⟨rfl,fun ys hy=>by rw[I.list_inj hy hq];exact hx⟩,st',fun b hb=>(hf b hb).1⟩⟩
 done:=by intro X hP hw hK hc i pins s σ H E I hf st hg;subst hP hw hK;obtain⟨xs,hq,hx⟩:=hg;obtain⟨its,rv,p,hz⟩:=I.list hq;obtain⟨f0,f1,f2,f3,f4,f5⟩:=hf it (by simp);have hl:=rv.length;exact wpAny_pyNext_list_end (I.ok.hd hc) st p.isList (by simp;omega) fun h' eb=>⟨rfl,I.turned (t':=s.toks) (fun b o hb e=>eb b o hb e) f0 f1 f3 f4 f5⟩
 self:=fun _ _ _ _ _ st h=>wpAny_pyIter_listiter st h
theorem FZ (a it:aw):Turn P w K tg (Itt K a) [it] it (fun i h=>h.IsTupleIter it a i) where
 mem:=by simp
 obj:=fun i h st b hb=>by
  have e:b=it:=by simpa using hb
  subst e;obtain⟨o,e,c,d⟩:=st;exact⟨o,e,fun v z=>by rw[d] at z;cases z⟩
 keep:=fun i h h' st k=>st.at fun o e=>k it (by simp) o e
 item:=by intro X hP hw hK hc i pins s σ H E I hf st hg;subst hP hw hK;obtain⟨xs,x,hq,hx⟩:=hg;obtain⟨its,rv,p,hz⟩:=I.tuple hq;obtain⟨u,hu,ru⟩:=rv.get hx;obtain⟨f0,f1,f2,f3,f4,f5⟩:=hf it (by simp);refine wpAny_pyNext_tuple_item st (show s.heap.IsTuple a its.toArray from p) (x:=u) (by simpa using hu) fun h' st' sb=>?_;have I1:Inv X pins σ H {s with heap:=h'}:=I.turned (t':=s.toks) (fun b o hb e=>(sb.2 b hb).trans e) f0 f1 f3 f4 f5;obtain⟨o,e,c,d⟩:=id st';exact⟨u,rfl,pd (s:={s with heap:=h'}) e c d .(g) ⟨x,H,I1,ru,⟨rfl,fun ys hy=>by rw[I.tuple_inj hy hq];exact hx⟩,st',fun b hb=>(hf b hb).1⟩⟩
 done:=by intro X hP hw hK hc i pins s σ H E I hf st hg;subst hP hw hK;obtain⟨xs,hq,hx⟩:=hg;obtain⟨its,rv,p,hz⟩:=I.tuple hq;obtain⟨f0,f1,f2,f3,f4,f5⟩:=hf it (by simp);have hl:=rv.length;exact wpAny_pyNext_tuple_end (I.ok.hd hc) st (show s.heap.IsTuple a its.toArray from p) (by simp;omega) fun h' eb=>⟨rfl,I.turned (t':=s.toks) (fun b o hb e=>eb b o hb e) f0 f1 f3 f4 f5⟩
 self:=fun _ _ _ _ _ st h=>wpAny_pyIter_tupleiter st h
theorem O3 (it:aw) (lo:ag) (n:al):Turn P w K tg (Itr lo n) [it] it (fun i h=>IsRangeIter h it (lo+(i:al)*1) ((n:ag)-(i:al)) 1) where
 mem:=by simp
 obj:=fun i h st b hb=>by
  have e:b=it:=by simpa using hb
  subst e;exact⟨_,st,fun v z=>by have z':Data.fields _=Data.cell v:=z;cases z'⟩
 keep:=fun i h h' st k=>k it (by simp) _ st
 item:=by intro X hP hw hK hc i pins s σ H E I hf st hg;subst hP hw hK;obtain⟨f0,f1,f2,f3,f4,f5⟩:=hf it (by simp);have W:=Walks.range (prog:=X.prog) (w:=X.w) (I.ok.hd hc) it lo 1 n;refine W.item i s _ _ hg st fun v h' tk hv st' kk=>?_;obtain⟨t,rfl⟩:=hv;have I1:Inv X pins σ H {s with heap:=h',toks:=tk}:=I.turned .(av) f0 f1 f3 f4 f5;refine⟨_,rfl,pd (s:={s with heap:=h',toks:=tk}) (n:="range_iterator") st' rfl rfl .(g) ⟨.int (lo+i),H,I1,⟨t,?_⟩,⟨rfl,rfl⟩,st',fun b hb=>(hf b hb).1⟩⟩;rw[QF]
 done:=by intro X hP hw hK hc i pins s σ H E I hf st hg;subst hP hw hK;obtain⟨f0,f1,f2,f3,f4,f5⟩:=hf it (by simp);exact wpAny_pyNext_range_end (I.ok.hd hc) st (by have:n<=i:=hg;omega) fun h' eb=>⟨rfl,I.turned (t':=s.toks) (fun b o hb e=>eb b o hb e) f0 f1 f3 f4 f5⟩
 self:=fun _ _ _ _ _ st h=>wpAny_pyIter_rangeiter st h
variable {lo:ag} {p:dq} {fp:ac aw} {iter:Expr} {wi:TI}
theorem Bs {R:It->Hp->Prop} {E:Value->aI->Prop} {hi:ag} {t u v:Tok} {tk:al} (I:Inv X pins σ H s) (h1 : -(2 ^ 62)<=lo) (h2:lo<2 ^ 62) (h3 : -(2 ^ 62)<=hi) (h4:hi<2 ^ 62)
  (q:R (Itr lo (hi-lo).toNat) H):aM .(q) X.A (oG (.ref s.heap.objs.size)) (PIE X pins σ tg R) E {s with heap:=s.heap.push {cls:=.type "range",data:=.fields #[.int lo t,.int hi u,.int 1 v]},toks:=tk}:=by
 refine wpAny_pyIter_range (IsRange.new ..) (small_one h1 h2 h3 h4) ?_;have I1:Inv X pins σ H {s with heap:=s.heap.push {cls:=.type "range",data:=.fields #[.int lo t,.int hi u,.int 1 v]},toks:=tk}:=I.kept fun b o e=>qu _ e;refine⟨(s.heap.push {cls:=.type "range",data:=.fields #[.int lo t,.int hi u,.int 1 v]}).objs.size,[(s.heap.push {cls:=.type "range",data:=.fields #[.int lo t,.int hi u,.int 1 v]}).objs.size],_,_,H,rfl,
  I1.kept (t':=tk) fun b o e=>qu _ e,O3 _ lo (hi-lo).toNat,?_,fun b hb=>?_,q⟩
 .have e1:lo+((0:al):ag)*1=lo:=by simp
  have e2:(((hi-lo).toNat:al):ag)-((0:al):ag)=SM lo hi 1:=by rw[rangeSize_one];split<;>omega
  show IsRangeIter _ _ (lo+((0:al):ag)*1) ((((hi-lo).toNat:al):ag)-((0:al):ag)) 1;rw[e1,e2];exact qF _ rfl
 .have e:b=(s.heap.push {cls:=.type "range",data:=.fields #[.int lo t,.int hi u,.int 1 v]}).objs.size:=by simpa using hb
  subst e;exact I1.fpOk (qw _) (I1.hok.fresh (qw _))
noncomputable def NX (ta:TA):TI:=fun σ H R=>ta σ H fun vs H1=>∃j:ag,vs=[.int j] /\ -(2 ^ 62)<=j/\j<2 ^ 62/\R (Itr 0 j.toNat) H1
noncomputable def FN (ta:TA):TI:=fun σ H R=>ta σ H fun vs H1=>∃i j:ag,vs=[.int i,.int j]/\(-(2 ^ 62)<=i/\i<2 ^ 62 /\ -(2 ^ 62)<=j/\j<2 ^ 62)/\R (Itr i (j-i).toNat) H1
theorem Jo {a:Expr} {ta:TA} (hg:Gl X "range") (hm:X.mg "range"=ab) (ha:PA X [a] ta) (hs:a6 [a] X.env=[(aq,eval a X.env)]:=by rfl):PI X tg (.Call (.Name "range" p) [a] [] pos) (NX ta):=by
 intro pins s σ H R I h;refine Call_ (nS I hg hm boot_range (yC (thn (ha pos pins s σ H _ I h) fun us s1 ⟨vs,H1,I1,r1,q1⟩=>?_) hs rfl));obtain⟨j,e,q1,q2,q⟩:=q1;subst e;cases r1 with
 |cons r rr=>
  cases rr;obtain⟨t,rfl⟩:=r;exact call_range_1 (Bs I1 .(f) .(f) q1 q2 (by simpa using q))
theorem M9 {a:Expr} {ta:TA} (hg:Gl X "range") (hm:X.mg "range"=ab) (ha:PA X [a,b] ta) (hs:a6 [a,b] X.env=[(aq,eval a X.env),(aq,eval b X.env)]:=by rfl) (hs2:a6 [b] X.env=[(aq,eval b X.env)]:=by rfl) :
  PI X tg (.Call (.Name "range" p) [a,b] [] pos) (FN ta):=by
 intro pins s σ H R I h;refine Call_ (nS I hg hm boot_range (yC (thn (ha pos pins s σ H _ I h) fun us s1 ⟨vs,H1,I1,r1,q1⟩=>?_) (by rw[hs,hs2]) (by rw[hs2];rfl)));obtain⟨i,j,e,⟨q1,q2,q3,q4⟩,q⟩:=q1;subst e;cases r1 with
 |cons r rr=>
  cases rr with
  |cons r' rr=>
   cases rr;obtain⟨t,rfl⟩:=r;obtain⟨t',rfl⟩:=r';exact call_range_2 (Bs I1 q1 q2 q3 q4 q)
noncomputable def Jq (wi:TI) (g:TG) (tb:TS):TS:=fun D σ H=>wi σ H fun J H1=>∃W:al->al->St->Hp->Prop,(∃m,W 0 m σ H1)/\∀i m σ H,W i m σ H->
 (J.stop i H/\D.nx σ H)\/(J.go i H/\∃N:St->Hp->Prop,(∀σ' H',N σ' H'->∃m',m'<m/\W (i+1) m' σ' H')/\∀x H',J.yld i H x H'->g x σ H' fun σ2 H2=>tb {D with nx:=N,ct:=N,bk:=D.nx} σ2 H2)
noncomputable def pp (fp:ac aw) (h:Heap):ac (aw×bd):=fp.filterMap fun b=>(h.get? b).map fun o=>(b,o)
theorem tt {h:Heap} {b:aw} {o:bd} (hb:b∈fp) (e:h.get? b=aa o):(b,o)∈pp fp h:=ro.mpr ⟨b,hb,by rw[e];rfl⟩
theorem Mz {h:Heap} {p:aw×bd} (hp:p∈pp fp h):p.1∈fp/\h.get? p.1=aa p.2:=by
 obtain⟨b,hb,e⟩:=ro.mp hp;cases q:h.get? b with
 |none=>rw[q] at e;cases e
 |some o=>
  rw[q] at e;have e':(b,o)=p:=qG e;subst e';exact⟨hb,q⟩
theorem Inv.pinned (I:Inv X pins σ H s) (hf:∀b∈fp,gQ X pins H b) (ho:∀b∈fp,∃o,s.heap.get? b=aa o/\∀v,o.data≠.cell v):Inv X (pins++pp fp s.heap) σ H s:=
 I.pins_of fun p hp=>(dn.mp hp).elim (fun z=>I.pin p (qP _ z)) fun z=>by obtain⟨hb,e⟩:=Mz z;obtain⟨f0,f1,f2,_⟩:=hf p.1 hb;obtain⟨o,e',d⟩:=ho p.1 hb;rw[e] at e';cases e';exact⟨e,f0,f1,f2,d⟩
theorem Inv.unpinned {pl:ac (aw×bd)} (I:Inv X (pins++pl) σ H s):Inv X pins σ H s:=I.pins_of fun p hp=>I.pin p (qP _ (yx _ hp))
theorem Oe {body:ac Stmt} {g:TG} {tb:TS} (hp:PassesOwn .(q) X.A X.env X.xe) (hc:X.calm=ai) (hi:PI X tg iter wi) (hg:PG X tg g) (hb:PSs X body tb)
  (hs:∀x,oH iter X.env x=bB x:=by intro _;rfl):PS X (.For tg iter body [] pos) (Jq wi g tb):=by
 intro pins s σ H D I h;refine wpAny_For (thn (hi pins s σ H _ I h) fun v s1 h1=>thn h1 fun itv s2 h2=>?_) hs;obtain⟨it,fp,tn,J,H2,e,I2,T,st2,f2,W,⟨m0,w0⟩,turn⟩:=h2;subst e;have stat:∀{H':Hp},(∀b∈fp,H' b=ab)->∀b∈fp,gQ X pins H' b:=fun hn b hb=>⟨hn b hb,(f2 b hb).2⟩;refine codeAny_forLoop_any (fun n s'=>∃i σ' H',Inv X pins σ' H' s'/\tn i s'.heap/\(∀b∈fp,H' b=ab)/\W i n σ' H') ?_ m0 ⟨0,σ,H2,I2,st2,fun b hb=>(f2 b hb).1,w0⟩;rintro n s3 ⟨i,σ3,H3,I3,st3,fr3,w3⟩;rcases turn i n σ3 H3 w3 with⟨stop,qn⟩|⟨go,N,hN,step⟩
 .refine uP hp (thn (T.done X rfl rfl rfl hc i pins s3 σ3 H3 X.xe I3 (stat fr3) st3 stop) fun r s4 ⟨hr,I4⟩=>?_);subst hr;exact Es ⟨σ3,H3,I4,qn⟩
 .refine uP hp (thn (T.item X rfl rfl rfl hc i pins s3 σ3 H3 X.xe I3 (stat fr3) st3 go) fun r s4 ⟨u,hr,h4⟩=>?_);subst hr;refine uP hp (thn h4 fun _ s5 ⟨x,H5,I5,r5,y5,st5,fr5⟩=>?_);have I5':=I5.pinned (stat fr5) (T.obj _ _ st5);refine uP hp (thn (hg _ s5 σ3 H5 x u _ I5' r5 (step x H5 y5)) fun _ s6 ⟨σ6,H6,I6,q6⟩=>?_);refine uP hp (thn (hb _ s6 σ6 H6 _ I6 q6) fun f s7 q7=>?_);have again:∀{σ7:St} {H7:Hp},Inv X (pins++pp fp s5.heap) σ7 H7 s7->N σ7 H7->∃m,m<n/\∃i σ' H',Inv X pins σ' H' s7/\tn i s7.heap/\(∀b∈fp,H' b=ab)/\W i m σ' H':=fun {σ7 H7} I7 n7=>by obtain⟨m',hm,w7⟩:=hN σ7 H7 n7;refine⟨m',hm,i+1,σ7,H7,I7.unpinned,T.keep _ _ _ st5 fun b hb o e=>(I7.pin (b,o) (qP _ (qP _ (tt hb e)))).1,fun b hb=>?_,w7⟩;obtain⟨o,e,d⟩:=T.obj _ _ st5 b hb;exact(I7.pin (b,o) (qP _ (qP _ (tt hb e)))).2.1
  cases f with
  |next=>obtain⟨σ7,H7,I7,n7⟩:=q7;exact again I7 n7
  |cont=>obtain⟨σ7,H7,I7,n7⟩:=q7;exact again I7 n7
  |brk=>obtain⟨σ7,H7,I7,q7⟩:=q7;exact⟨σ7,H7,I7.unpinned,q7⟩
  |ret v=>obtain⟨x7,σ7,H7,I7,r7,q7⟩:=q7;exact⟨x7,σ7,H7,I7.unpinned,r7,q7⟩
noncomputable abbrev R2:=V->V->Hp->VK->Prop
noncomputable def OpR (X:Cx) (f:Value->Value->Sem Value) (r:R2):Prop:=
 ∀(pins:ac (aw×bd)) (s:aI) (σ:St) (H:Hp) (x y:V) (v u:Value) (Q:VK),Inv X pins σ H s->bx x v->bx y u->r x y H Q->
  aM .(q) X.A (f v u) (EP X pins σ Q) X.xe s
noncomputable def dB (X:Cx) (f:Value) (r:ac V->Hp->VK->Prop):Prop:=
 ∀(pins:ac (aw×bd)) (s:aI) (σ:St) (H:Hp) (xs:ac V) (us:ac Value) (Q:VK),Inv X pins σ H s->bK xs us->r xs H Q->
  aM .(q) X.A (call f us) (EP X pins σ Q) X.xe s
noncomputable def tOp (r:R2) (ta tb:TE):TE:=fun σ H Q=>ta σ H fun x H1=>tb σ H1 fun y H2=>r x y H2 Q
noncomputable def rI (C:ag->ag->Prop) (g:ag->ag->V):R2:=fun x y H Q=>∃i j,x=.int i/\y=.int j/\C i j/\Q (g i j) H
noncomputable def rI0 (g:ag->ag->V):R2:=fun x y H Q=>∃i j,x=.int i/\y=.int j/\Q (g i j) H
variable {r:R2}
section
variable {a:Expr} {tb tc:TE}
theorem wB (ha:PE X a ta) (hb:PE X b tb) {R:V->V->Hp->Prop} (I:Inv X pins σ H s)
  (h:ta σ H fun x H1=>tb σ H1 fun y H2=>R x y H2) {f:Value->Value->Sem Value} 
  (hf:∀v u s2 x y H2,Inv X pins σ H2 s2->bx x v->bx y u->R x y H2->aM .(q) X.A (f v u) Q X.xe s2) :
  aM .(q) X.A (eval a X.env) (fun v s₁=>aM .(q) X.A (eval b X.env) (fun u s₂=>aM .(q) X.A (f v u) Q X.xe s₂) X.xe s₁) X.xe s:=by
 refine thn (ha pins s σ H _ I h) fun v s1 ⟨x,H1,I1,r1,q1⟩=>?_;refine thn (hb pins s1 σ H1 _ I1 q1) fun u s2 ⟨y,H2,I2,r2,q2⟩=>?_;exact hf v u s2 x y H2 I2 r1 r2 q2
theorem HJ {op:Operator} (ho:OpR X (i6 op) r) (ha:PE X a ta) (hb:PE X b tb):PE X (.BinOp a op b pos) (tOp r ta tb):=by intro pins s σ H Q I h;exact wpAny_BinOp (wB ha hb I h fun v u s2 x y H2 I2 rx ry q=>ho pins s2 σ H2 x y v u Q I2 rx ry q)
theorem opI {f:Value->Value->Sem Value} {C:ag->ag->Prop} {g:ag->ag->ag} 
  (rule:∀(i j:ag) (t u:Tok) (s:aI) (Q:Value->aI->Prop) (E:Value->aI->Prop),C i j->Q (.int (g i j) s.toks) {s with toks:=s.toks+1}->aM .(q) X.A (f (.int i t) (.int j u)) Q E s) :
  OpR X f (rI C fun i j=>.int (g i j)):=by
 intro pins s σ H x y v u Q I rx ry h;obtain⟨i,j,rfl,rfl,hc,q⟩:=h;obtain⟨t,rfl⟩:=rx;obtain⟨t',rfl⟩:=ry;exact rule i j t t' s _ _ hc ⟨.int (g i j),H,I.tok _,⟨_,rfl⟩,q⟩
theorem BB {f:Value->Value->Sem Value} {g:ag->ag->ag} 
  (rule:∀(i j:ag) (t u:Tok) (s:aI) (Q:Value->aI->Prop) (E:Value->aI->Prop),Q (.int (g i j) s.toks) {s with toks:=s.toks+1}->aM .(q) X.A (f (.int i t) (.int j u)) Q E s) :
  OpR X f (rI0 fun i j=>.int (g i j)):=by
 intro pins s σ H x y v u Q I rx ry h;obtain⟨i,j,rfl,rfl,q⟩:=h;obtain⟨t,rfl⟩:=rx;obtain⟨t',rfl⟩:=ry;exact rule i j t t' s _ _ ⟨.int (g i j),H,I.tok _,⟨_,rfl⟩,q⟩
theorem tQ {f:Value->Value->Sem Value} {g:ag->ag->aX} 
  (rule:∀(i j:ag) (t u:Tok) (s:aI) (Q:Value->aI->Prop) (E:Value->aI->Prop),Q (.bool (g i j)) s->aM .(q) X.A (f (.int i t) (.int j u)) Q E s) :
  OpR X f (rI0 fun i j=>.bl (g i j)):=by
 intro pins s σ H x y v u Q I rx ry h;obtain⟨i,j,rfl,rfl,q⟩:=h;obtain⟨t,rfl⟩:=rx;obtain⟨t',rfl⟩:=ry;exact rule i j t t' s _ _ ⟨.bl (g i j),H,I,rfl,q⟩
noncomputable def PP (i j:ag):Prop:=0<j/\j<1073741824
noncomputable def t7 (i j:ag):Prop:=(-(2 ^ 64)<i/\i<2 ^ 64)\/(-(2 ^ 64)<j/\j<2 ^ 64)
theorem t7.ok {i j:ag} (h:t7 i j):IntMulOk i j:=by
 rcases h with⟨h1,h2⟩|⟨h1,h2⟩
 .exact .of_left (intBits_le_64 h1 h2)
 .exact .of_right (intBits_le_64 h1 h2)
theorem Mh:OpR X (i6 .Add) (rI0 fun i j=>.int (i+j)):=BB fun _ _ _ _ _ _ _ q=>add_int q
theorem N3:OpR X (i6 .Sub) (rI0 fun i j=>.int (i-j)):=BB fun _ _ _ _ _ _ _ q=>sub_int q
theorem OA:OpR X (i6 .Mult) (rI t7 fun i j=>.int (i*j)):=opI fun _ _ _ _ _ _ _ hc q=>mul_int q hc.ok
theorem Ie:OpR X (i6 .FloorDiv) (rI PP fun i j=>.int (i / j)):=opI fun i j _ _ _ _ _ hc q=>by have h1:(0:ag)<j:=hc.1;have h2:j<1073741824:=hc.2;exact floordiv_int .(f) (by rw[Int.fdiv_eq_ediv_of_nonneg i .(f)];exact q) (.inl (PyProof.noPylong_small .(f)))
theorem MN:OpR X (i6 .Mod) (rI (fun _ j=>0<j) fun i j=>.int (i%j)):=opI fun i j _ _ _ _ _ hc q=>by have h1:(0:ag)<j:=hc;exact mod_int' .(f) (by rw[Int.fmod_eq_emod_of_nonneg i .(f)];exact q)
end
noncomputable def w8:V->V->aX
 |.non,.non=>ai|.non,.int _=>ai|.int _,.non=>ai|.non,.bl _=>ai|.bl _,.non=>ai|.non,.str _=>ai|.str _,.non=>ai
 |.int _,.int _=>ai|.bl _,.bl _=>ai|.str _,.str _=>ai|.byt _,.byt _=>ai
 |.int _,.str _=>ai|.str _,.int _=>ai|.bl _,.str _=>ai|.str _,.bl _=>ai
 |_,_=>aq
noncomputable def rEq:R2:=fun x y H Q=>w8 x y=ai/\Q (.bl (decide (x=y))) H
noncomputable def rNe:R2:=fun x y H Q=>w8 x y=ai/\Q (.bl (!decide (x=y))) H
theorem Bl {i j:ag} :decide (V.int i=V.int j)=(i==j):=by rw[oI];simp
theorem A7 {i j:aX} :decide (V.bl i=V.bl j)=(i==j):=by rw[oI];simp
theorem Dp {i j:ak} :decide (V.str i=V.str j)=(i==j):=by rw[oI];simp
theorem CV {i j:bR UInt8} :decide (V.byt i=V.byt j)=(i.toList==j.toList):=by rw[oI];cases i;cases j;simp
variable {r':R2} {op':CmpOp}
section
variable {a:Expr} {tb tc:TE}
theorem cN {Q:VK} {k k':aX} (I:Inv X pins σ H s) (q:Q (.bl k) H) (e:k=k'):EP X pins σ Q (.bool k') s:=by subst e;exact⟨.bl k,H,I,rfl,q⟩
theorem Ks:OpR X (dh .Eq) rEq:=by
 intro pins s σ H x y v u Q I rx ry h;obtain⟨hs,q⟩:=h;cases x with
 |non=>
  cases rx;cases y with
  |non=>cases ry;exact SN .(aj)
  |bl j=>cases ry;exact SO .(aj)
  |int j=>obtain⟨t',rfl⟩:=ry;exact SQ .(aj)
  |str j=>obtain⟨t',rfl⟩:=ry;exact SS .(aj)
  |_=>exact bN (show aq=ai from hs) qt
 |bl i=>
  cases rx;cases y with
  |non=>cases ry;exact SU .(aj)
  |bl j=>cases ry;exact eq_bool (cN I q A7)
  |str j=>obtain⟨t',rfl⟩:=ry;exact SV .(aj)
  |_=>exact bN (show aq=ai from hs) qt
 |int i=>
  obtain⟨t,rfl⟩:=rx;cases y with
  |non=>cases ry;exact SW .(aj)
  |int j=>obtain⟨t',rfl⟩:=ry;exact eq_int (cN I q Bl)
  |str j=>obtain⟨t',rfl⟩:=ry;exact SX .(aj)
  |_=>exact bN (show aq=ai from hs) qt
 |str i=>
  obtain⟨t,rfl⟩:=rx;cases y with
  |non=>cases ry;exact SY .(aj)
  |bl j=>cases ry;exact SZ .(aj)
  |int j=>obtain⟨t',rfl⟩:=ry;exact S0 .(aj)
  |str j=>obtain⟨t',rfl⟩:=ry;exact eq_str (cN I q Dp)
  |_=>exact bN (show aq=ai from hs) qt
 |byt i=>
  obtain⟨t,rfl⟩:=rx;cases y with
  |byt j=>obtain⟨t',rfl⟩:=ry;exact PySem.W.eq_bytes (cN I q CV)
  |_=>exact bN (show aq=ai from hs) qt
 |_=>cases y<;>exact bN (show aq=ai from hs) qt
theorem GP:OpR X (dh .NotEq) rNe:=by
 intro pins s σ H x y v u Q I rx ry h;obtain⟨hs,q⟩:=h;cases x with
 |non=>
  cases rx;cases y with
  |non=>cases ry;exact S1 .(aj)
  |bl j=>cases ry;exact S2 .(aj)
  |int j=>obtain⟨t',rfl⟩:=ry;exact S3 .(aj)
  |str j=>obtain⟨t',rfl⟩:=ry;exact S4 .(aj)
  |_=>exact bN (show aq=ai from hs) qt
 |bl i=>
  cases rx;cases y with
  |non=>cases ry;exact S5 .(aj)
  |bl j=>cases ry;exact ne_bool (cN I q (cK not A7))
  |str j=>obtain⟨t',rfl⟩:=ry;exact S6 .(aj)
  |_=>exact bN (show aq=ai from hs) qt
 |int i=>
  obtain⟨t,rfl⟩:=rx;cases y with
  |non=>cases ry;exact S7 .(aj)
  |int j=>obtain⟨t',rfl⟩:=ry;exact ne_int (cN I q (cK not Bl))
  |str j=>obtain⟨t',rfl⟩:=ry;exact S8 .(aj)
  |_=>exact bN (show aq=ai from hs) qt
 |str i=>
  obtain⟨t,rfl⟩:=rx;cases y with
  |non=>cases ry;exact S9 .(aj)
  |bl j=>cases ry;exact S' .(aj)
  |int j=>obtain⟨t',rfl⟩:=ry;exact Ta .(aj)
  |str j=>obtain⟨t',rfl⟩:=ry;exact ne_str (cN I q (cK not Dp))
  |_=>exact bN (show aq=ai from hs) qt
 |byt i=>
  obtain⟨t,rfl⟩:=rx;cases y with
  |byt j=>obtain⟨t',rfl⟩:=ry;exact PySem.W.ne_bytes (cN I q (cK not CV))
  |_=>exact bN (show aq=ai from hs) qt
 |_=>cases y<;>exact bN (show aq=ai from hs) qt
theorem Gz:OpR X (dh .Lt) (rI0 fun i j=>.bl (decide (i<j))):=tQ fun _ _ _ _ _ _ _ q=>lt_int q
theorem GU:OpR X (dh .LtE) (rI0 fun i j=>.bl (decide (i<=j))):=tQ fun _ _ _ _ _ _ _ q=>le_int q
theorem Lq:OpR X (dh .Gt) (rI0 fun i j=>.bl (decide (j<i))):=tQ fun _ _ _ _ _ _ _ q=>gt_int q
theorem FO:OpR X (dh .GtE) (rI0 fun i j=>.bl (decide (j<=i))):=tQ fun _ _ _ _ _ _ _ q=>ge_int q
theorem OQ:OpR X (dh .Lt) (fun x y H Q=>∃i j,x=.str i/\y=.str j/\Q (.bl (decide (i.cps.toList<j.cps.toList))) H):=by intro pins s σ H x y v u Q I rx ry h;obtain⟨i,j,rfl,rfl,q⟩:=h;obtain⟨t,rfl⟩:=rx;obtain⟨t',rfl⟩:=ry;exact lt_str (cN I q rfl)
theorem Lg:OpR X (dh .Is) (fun x y H Q=>y=.non/\Q (.bl (decide (x=.non))) H):=by
 intro pins s σ H x y v u Q I rx ry h;obtain⟨rfl,q⟩:=h;cases ry;refine is_none_gen (cN I q ?_);cases x<;>first
  |(cases rx;rfl)
  |(obtain⟨t,rfl⟩:=rx;rfl)
theorem Ka:OpR X (dh .IsNot) (fun x y H Q=>y=.non/\Q (.bl (!decide (x=.non))) H):=by
 intro pins s σ H x y v u Q I rx ry h;obtain⟨rfl,q⟩:=h;cases ry;refine isnot_none_gen (cN I q ?_);cases x<;>first
  |(cases rx;rfl)
  |(obtain⟨t,rfl⟩:=rx;rfl)
theorem OpR.or {f:Value->Value->Sem Value} (h:OpR X f r) (h':OpR X f r'):OpR X f (fun x y H Q=>r x y H Q\/r' x y H Q):=by
 intro pins s σ H x y v u Q I rx ry q;rcases q with q|q
 .exact h pins s σ H x y v u Q I rx ry q
 .exact h' pins s σ H x y v u Q I rx ry q
theorem bq (b:Expr) (h:op≠.In:=by decide) (h2:op≠.NotIn:=by decide):lP op b=aq:=by
 have e1:(op==Qw)=aq:=by cases op<;>first|rfl|exact bN rfl h
 have e2:(op==Qx)=aq:=by cases op<;>first|rfl|exact bN rfl h2
 cases b<;>simp[lP,e1,e2]
theorem GB (ho:OpR X (dh op) r) (ha:PE X a ta) (hb:PE X b tb) (hm:lP op b=aq):PE X (.Compare a [op] [b] pos) (tOp r ta tb):=by intro pins s σ H Q I h;exact wpAny_Compare1 (wB ha hb I h fun v u s2 x y H2 I2 rx ry q=>ho pins s2 σ H2 x y v u Q I2 rx ry q) hm
noncomputable def C0 (t:TE):TT:=fun σ H Q=>t σ H fun x H'=>∃k,x=.bl k/\Q k H'
theorem My (ho:OpR X (dh op) r) (ha:PE X a ta) (hb:PE X b tb) (hm:lP op b=aq):PT X (.Compare a [op] [b] pos) (C0 (tOp r ta tb)):=by
 intro pins s σ H Q I h;refine Qy (thn (ha pins s σ H _ I h) fun v s1 ⟨x,H1,I1,r1,q1⟩=>thn (hb pins s1 σ H1 _ I1 q1) fun u s2 ⟨y,H2,I2,r2,q2⟩=>
  thn (ho pins s2 σ H2 x y v u _ I2 r1 r2 q2) fun c s3 ⟨z,H3,I3,r3,k,e,q3⟩=>?_) hm
 subst e;cases r3;exact kz ⟨H3,I3,q3⟩
noncomputable def xj (r r':R2) (ta tb tc:TE):TE:=fun σ H Q=>ta σ H fun x H1=>tb σ H1 fun y H2=>r x y H2 fun z H3=>∃k,z=.bl k /\
 (if k=ai then tc σ H3 fun w' H4=>r' y w' H4 Q else Q (.bl aq) H3)
theorem OK (ho:OpR X (dh op) r) (ho':OpR X (dh op') r') (ha:PE X a ta) (hb:PE X b tb) (hc:PE X c tc)
  (hm:yD [op,op'] [b,c]=aq:=by with_unfolding_all rfl):PE X (.Compare a [op,op'] [b,c] pos) (xj r r' ta tb tc):=by
 intro pins s σ H Q I h;refine Compare_chain (thn (ha pins s σ H _ I h) fun v s1 ⟨x,H1,I1,r1,q1⟩=>chain_link (thn (hb pins s1 σ H1 _ I1 q1) fun u s2 ⟨y,H2,I2,r2,q2⟩=>
  thn (ho pins s2 σ H2 x y v u _ I2 r1 r2 q2) fun d s3 ⟨z,H3,I3,r3,k,e,q3⟩=>?_)) hm
 subst e;cases r3;refine kz ?_;cases k with
 |false=>exact ite_ff ⟨.bl aq,H3,I3,rfl,q3⟩
 |true=>exact ite_tt (chain_last (thn (hc pins s3 σ H3 _ I3 q3) fun w' s4 ⟨z',H4,I4,r4,q4⟩=>ho' pins s4 σ H4 y z' u w' Q I4 r2 r4 q4))
theorem L7 (ho:OpR X (dh op) r) (ho':OpR X (dh op') r') (ha:PE X a ta) (hb:PE X b tb) (hc:PE X c tc)
  (hm:yD [op,op'] [b,c]=aq:=by with_unfolding_all rfl):PT X (.Compare a [op,op'] [b,c] pos) (C0 (xj r r' ta tb tc)):=by
 intro pins s σ H Q I h;refine isTrue_chain (thn (ha pins s σ H _ I h) fun v s1 ⟨x,H1,I1,r1,q1⟩=>test_link (thn (hb pins s1 σ H1 _ I1 q1) fun u s2 ⟨y,H2,I2,r2,q2⟩=>
  thn (ho pins s2 σ H2 x y v u _ I2 r1 r2 q2) fun d s3 ⟨z,H3,I3,r3,k,e,q3⟩=>?_)) hm
 subst e;cases r3;refine kz ?_;cases k with
 |false=>
  obtain⟨k',e',q'⟩:=q3;cases e';exact ite_ff ⟨H3,I3,q'⟩
 |true=>
  refine ite_tt (test_last (thn (hc pins s3 σ H3 _ I3 q3) fun w' s4 ⟨z',H4,I4,r4,q4⟩=>thn (ho' pins s4 σ H4 y z' u w' _ I4 r2 r4 q4) fun d' s5 ⟨z2,H5,I5,r5,k2,e2,q5⟩=>?_));subst e2;cases r5;exact kz ⟨H5,I5,q5⟩
theorem uc:(aV:al)<2 ^ 63:=by rw[eX];decide
theorem Kt:OpR X (i6 .Add) (fun x y H Q=>∃i j,x=.str i/\y=.str j/\i.length+j.length<=aV/\Q (.str (i++j)) H):=by intro pins s σ H x y v u Q I rx ry h;obtain⟨i,j,rfl,rfl,hz,q⟩:=h;obtain⟨t,rfl⟩:=rx;obtain⟨t',rfl⟩:=ry;exact add_str (fun t' tk=>⟨.str (i++j),H,I.tok _,⟨_,rfl⟩,q⟩) hz
theorem dY {x:V} {us:ac Value} (r:bK [x] us):∃u,us=[u]/\bx x u:=by
 cases r with
 |cons r1 r2=>cases r2;exact⟨_,rfl,r1⟩
theorem xP {x y:V} {us:ac Value} (r:bK [x,y] us):∃u w',us=[u,w']/\bx x u/\bx y w':=by
 cases r with
 |cons r1 r2=>
  cases r2 with
  |cons r3 r4=>cases r4;exact⟨_,_,rfl,r1,r3⟩
theorem Ky:dB X (.builtin "abs") (fun xs H Q=>∃i,xs=[.int i]/\Q (.int (if i<0 then -i else i)) H):=by intro pins s σ H xs us Q I r h;obtain⟨i,rfl,q⟩:=h;obtain⟨u,rfl,t,rfl⟩:=dY r;exact call_abs_int fun u tk=>⟨.int (if i<0 then -i else i),H,I.tok _,⟨_,rfl⟩,q⟩
theorem L8 (hc:X.calm=ai):dB X (.builtin "max") (fun xs H Q=>∃i j,xs=[.int i,.int j]/\Q (.int (if j > i then j else i)) H):=by
 intro pins s σ H xs us Q I r h;obtain⟨i,j,rfl,q⟩:=h;obtain⟨u,w',rfl,⟨t,rfl⟩,⟨t',rfl⟩⟩:=xP r;refine max_two_ints (I.ok.hd hc) fun h' tk k=>⟨_,H,I.kept k,?_,q⟩;by_cases hj:j > i
 .rw[qX hj,qX hj];exact⟨_,rfl⟩
 .rw[qY hj,qY hj];exact⟨_,rfl⟩
theorem O6 (hc:X.calm=ai):dB X (.builtin "min") (fun xs H Q=>∃i j,xs=[.int i,.int j]/\Q (.int (if j<i then j else i)) H):=by
 intro pins s σ H xs us Q I r h;obtain⟨i,j,rfl,q⟩:=h;obtain⟨u,w',rfl,⟨t,rfl⟩,⟨t',rfl⟩⟩:=xP r;refine min_two_ints (I.ok.hd hc) fun h' tk k=>⟨_,H,I.kept k,?_,q⟩;by_cases hj:j<i
 .rw[qX hj,qX hj];exact⟨_,rfl⟩
 .rw[qY hj,qY hj];exact⟨_,rfl⟩
theorem FX:dB X (.type "int") (fun xs H Q=>(∃i,xs=[.int i]/\Q (.int i) H)\/∃k,xs=[.bl k]/\Q (.int (if k then 1 else 0)) H):=by
 intro pins s σ H xs us Q I r h;rcases h with⟨i,rfl,q⟩|⟨k,rfl,q⟩
 .obtain⟨u,rfl,t,rfl⟩:=dY r;exact call_int_int ⟨.int i,H,I,⟨_,rfl⟩,q⟩
 .obtain⟨u,rfl,r1⟩:=dY r;cases r1;exact call_int_bool ⟨.int (if k then 1 else 0),H,I.tok _,⟨_,rfl⟩,q⟩
noncomputable def O1 (K:bi) (x:V) (H:Hp) (n:al):Prop:=
 match x with
 |.str y=>y.length<=aV/\n=y.length
 |.byt y=>y.size<=aV/\n=y.size
 |.ref p=>(∃xs,SqL K H p xs/\n=xs.length)\/∃xs,SqT K H p xs/\n=xs.length
 |_=>False
theorem PK:dB X (.builtin "len") (fun xs H Q=>∃x n,xs=[x]/\O1 X.K x H n/\Q (.int n) H):=by
 intro pins s σ H xs us Q I r h;obtain⟨x,n,rfl,e,q⟩:=h;obtain⟨u,rfl,rx⟩:=dY r;have hl:=uc;have hs:aV=16777216:=eX;cases x with
 |str y=>
  obtain⟨t,rfl⟩:=rx;obtain⟨hy,e'⟩:y.length<=aV/\n=y.length:=e;subst e';exact len_str .(f) ⟨.int _,H,I.tok _,⟨_,rfl⟩,q⟩
 |byt y=>
  obtain⟨t,rfl⟩:=rx;obtain⟨hy,e'⟩:y.size<=aV/\n=y.size:=e;subst e';exact PySem.W.len_bytes .(f) ⟨.int _,H,I.tok _,⟨_,rfl⟩,q⟩
 |ref p=>
  cases rx;have e':(∃xs,SqL X.K H p xs/\n=xs.length)\/∃xs,SqT X.K H p xs/\n=xs.length:=e;rcases e' with⟨xs,hx,e'⟩|⟨xs,hx,e'⟩
  .subst e';obtain⟨its,r',pl,hz⟩:=I.list hx;have hlen:=r'.length;exact Calls.call_len_list pl.isList (by simp only[qA];omega) ⟨.int xs.length,H,I.tok _,⟨_,by simp only[qA];rw[hlen]⟩,q⟩
  .subst e';obtain⟨its,r',pl,hz⟩:=I.tuple hx;have hlen:=r'.length;exact len_tuple pl (by simp only[qA];omega) ⟨.int xs.length,H,I.tok _,⟨_,by simp only[qA];rw[hlen]⟩,q⟩
 |_=>exact(show False from e).elim
end
structure ObjM (h:Heap) (x dx C:aw) (mA:ak->ar Value):Prop where
 obj:h.get? x=aa (mX C dx)
 ns:h.Ns1 dx mA
 ne:dx≠x
variable {dx:aw} {mA:ak->ar Value}
theorem P6 {h:Heap} (n:h.Ns1 dx mA):∃od,h.get? dx=aa od/\∀name,yE name od=aa (mA name):=by
 obtain⟨o,es,ep,ho,hd,hk,_,hm⟩:=n;refine⟨o,ho,fun name=>?_⟩;have e:=hm name;unfold nsFind findBy at e;rw[←Array.find?_toList] at e;unfold yE;rw[hd];dsimp only;split
 .rename_i y q;rw[q] at e;exact cK aa e
 .rename_i q;rw[q] at e;have a:es.toList.any (·.refKey)=aq:=by rw[QG];intro y hy;obtain⟨z,t,hkey⟩:=hk y (Ey.mp hy);simp[DictEntry.refKey,hkey]
  have a':¬es.toList.any (·.refKey)=ai:=by rw[a];exact qt
  rw[qY a'];exact cK aa e
variable {C:aw}
theorem ObjM.look {h:Heap} {x:aw} (I:ObjM h x dx C mA):∃od,PySem.W.InstAt h x (mX C dx) C (aa od)/\∀name,yE name od=aa (mA name):=
 let ⟨od,ho,hl⟩:=P6 I.ns
 ⟨od,⟨I.obj,rfl,rfl,ho⟩,hl⟩
variable {prog:dy} {name:ak} {pl:Sem aX} {ns:ac ak} {R:Result->aI->Prop} {kw:ac (ak×Value)}
section
variable {E:Value->aI->Prop} {x f:aw} {v:Value}
theorem IW {expr:aX} (X:K.In s.heap) (I:ObjM s.heap x dx C mA) (hg:uQ K C name=ai) (hh:yF K C=ai)
  (ha:dG K (.ref C) name=aa ab) (hv:mA name=aa v) (hv':QH v=ai) (h:Q v {s with toks:=s.toks+1}) :
  aM .(Q) A (getAttr (.ref x) name expr) Q E s:=by
 obtain⟨od,J,hl⟩:=I.look;exact PySem.W.get_value X J (Ez hg).1 (PySem.W.findObj_own hh ha rfl (by rw[hl,hv])) hv' h
theorem LL {Q:Value×ac Value->aI->Prop} (X:K.In s.heap) (I:ObjM s.heap x dx C mA) (hg:uQ K C name=ai)
  (hf:dG K (.ref C) name=aa (aa (.ref f))) (ht:uR K (.ref f)=ai) (hv:mA name=ab) (h:Q (.ref f,[.ref x]) s) :
  aM .(Q) A (oJ (.ref x) name pl) Q E s:=by
 obtain⟨od,J,hl⟩:=I.look;exact PySem.W.method_fn X J (Ez hg).1 (Ez hg).2 hf (kC.mp ht) (by show(yE name od).map (·.isSome)=aa aq;rw[hl,hv];rfl) h
theorem Gs {Q:lO->aI->Prop} (X:K.In s.heap) (I:ObjM s.heap x dx C mA)
  (hs:dG K (.ref C) "__setattr__"=aa (aa (.builtin "object.__setattr__"))) (hp:EA K C=ai) (ht:EB K C name=aa ab) (hh:yF K C=ai)
  (hw:En mA ns) (hsz:ns.length<=aV)
  (h:∀h',ObjM h' x dx C (fun y=>if y=name then aa v else mA y)->iq dx s.heap h'->Q () {s with heap:=h',toks:=s.toks+2}) :
  aM .(Q) A (setAttr (.ref x) name v) Q E s:=by
 obtain⟨od,J,hl⟩:=I.look;refine PySem.W.set_plain X J hs (PySem.W.osa_open (s:={s with toks:=s.toks+1}) (r:=ab) X J hp ht fun b=>?_);obtain⟨cd,hc,hd'⟩:=PySem.W.any_some hh;have hx:s.heap.get? x=aa ⟨.ref C,aa dx,.plain,#[]⟩:=I.obj;refine qx (qz (qx (qx (wpAny_loadPart hx (qx (Tc (s:={s with toks:=s.toks+1}) (PySem.W.looks_clsIn X hc) ?_))))));rw[hd'];refine qz (a:=aa dx) (qx (qz (qx ?_)));refine wpAny_nsSet1 (s:={s with toks:=s.toks+1}) I.ns fun h' hn2 hs2=>?_;obtain⟨oD,esD,epD,hoD,hdD,hcD⟩:=hn2.count (Td name v hw);refine qx (wpAny_lookBehind hoD (by rw[hdD];exact pastItsLine_dict (qL hcD (by rw[qj];omega))) ?_);exact qz (h _ ⟨(hs2.2 _ (dF I.ne)).trans I.obj,hn2,I.ne⟩ hs2)
theorem IF {vs:ac Value} (X:K.In s.heap) (hm:yG K C=ai)
  (hi:dG K (.ref C) "__init__"=aa (aa (.ref f))) (hf:PySem.W.typeIn K (.ref f)=aa (.type "function"))
  (h:iu .(Q) (A.under (.builtin "type.__call__" ⟨.ref C::vs,kw⟩)) (.call (.ref f) ⟨.ref .(X)::vs,kw⟩) (PySem.W.InitBack .(X) R)
   {s with heap:=(s.heap.push lR).push (mX C s.heap.objs.size)}) :
  iu .(Q) A (.call (.ref C) ⟨vs,kw⟩) R s:=by
 obtain⟨hh,g,d,t,os⟩:=s;exact PySem.W.make_core (PySem.W.makes_of X hm) (PySem.W.looks_findIn X hi) (fun self=>PySem.W.bind_fn X self hf) (.inl rfl) h
end
noncomputable def eY (f:ak) (v:V):ac (ak×V)->ac (ak×V)
 |[]=>[(f,v)]
 |(g,x)::r=>if g=f then (g,v)::r else (g,x)::eY f v r
theorem Bg (f g:ak) (v:V):∀fs:ac (ak×V),(eY f v fs).lookup g=if g=f then aa v else fs.lookup g
 |[]=>by
  show dz g [(f,v)]=_;by_cases h:g=f
  .have hb:(g==f)=ai:=kC.mpr h;simp only[dz,hb,qX h]
  .have hb:(g==f)=aq:=mW.mpr h;simp only[dz,hb,qY h]
 |(k,x)::r=>by
  have ih:=Bg f g v r;rw[show eY f v ((k,x)::r)=(if k=f then (k,v)::r else (k,x)::eY f v r) from rfl];by_cases hk:k=f
  .rw[qX hk];by_cases h:g=k
   .have hb:(g==k)=ai:=kC.mpr h;simp only[dz,hb,qX (h.trans hk)]
   .have hb:(g==k)=aq:=mW.mpr h;simp only[dz,hb,qY (fun e:g=f=>h (e.trans hk.symm))]
  .rw[qY hk];by_cases h:g=k
   .have hb:(g==k)=ai:=kC.mpr h;simp only[dz,hb,qY (fun e:g=f=>hk (h.symm.trans e))]
   .have hb:(g==k)=aq:=mW.mpr h;simp only[dz,hb];exact ih
theorem vU (f:ak) (v:V):∀fs:ac (ak×V),f∈(eY f v fs).map (·.1)/\∀g,g∈fs.map (·.1)->g∈(eY f v fs).map (·.1)
 |[]=>⟨by simp[eY],fun g h=>by simp at h⟩
 |(k,x)::r=>by
  obtain⟨i1,i2⟩:=vU f v r;rw[show eY f v ((k,x)::r)=(if k=f then (k,v)::r else (k,x)::eY f v r) from rfl];by_cases hk:k=f
  .rw[qX hk];subst hk;exact⟨by simp,fun g h=>by simpa using h⟩
  .rw[qY hk];refine⟨?_,fun g h=>?_⟩
   .rw[qo];exact qi _ i1
   .rw[qo] at h ⊢;rcases cM.mp h with e|e
    .exact cM.mpr (.inl e)
    .exact qi _ (i2 g e)
theorem Ej (f:ak) (v:V):∀fs:ac (ak×V),(eY f v fs).length<=fs.length+1
 |[]=>by simp[eY]
 |(k,x)::r=>by
  have ih:=Ej f v r;rw[show eY f v ((k,x)::r)=(if k=f then (k,v)::r else (k,x)::eY f v r) from rfl];by_cases hk:k=f
  .rw[qX hk,qj,qj];omega
  .rw[qY hk,qj,qj];omega
theorem dU.some_of {o:ar Value} (r:dU (aa v) o):∃u,o=aa u/\bx v u:=by
 cases o with
 |none=>exact(show False from r).elim
 |some u=>exact⟨u,rfl,r⟩
theorem dU.none_of {o:ar Value} (r:dU ab o):o=ab:=by
 cases o with
 |none=>rfl
 |some u=>exact(show False from r).elim
theorem IN (r:bx v u):QH u=ai:=by
 cases v with
 |non=>cases(show u=oE from r);rfl
 |bl b=>cases(show u=jL b from r);rfl
 |int i=>obtain⟨t,e⟩:=(show ∃t,u=cZ i t from r);cases e;rfl
 |str x=>obtain⟨t,e⟩:=(show ∃t,u=rj x t from r);cases e;rfl
 |byt b=>obtain⟨t,e⟩:=(show ∃t,u=Qt b t from r);cases e;rfl
 |flt b=>obtain⟨t,e⟩:=(show ∃t,u=Em b t from r);cases e;rfl
 |ref a=>cases(show u=cc a from r);rfl
 |ty n=>cases(show u=lM n from r);rfl
section
variable {h:Heap} {fs fs':ac (ak×V)}
theorem tf (hok:HOk P w H h) (e:H a=aa (.ins C dx fs)):∃mA,ObjM h a dx C mA/\(∀f,dU (fs.lookup f) (mA f))/\En mA (fs.map (·.1))/\fs.length<=1000/\H dx=aa (.own a):=by obtain⟨d,z,ne,ob,mA,n,r,q⟩:=(show cV P w H h a (.ins C dx fs) from hok a _ e);exact⟨mA,⟨ob,n,ne⟩,r,q,z,d⟩
end
structure Cls (K:bi) (C:aw):Prop where
 pg:uQ K C fZ=ai
 hd:yF K C=ai
 po:EA K C=ai
 sa:dG K (.ref C) "__setattr__"=aa (aa (.builtin "object.__setattr__"))
theorem Cls.get (c:Cls K C) (f:ak):uQ K C f=ai:=c.pg
noncomputable def kZ (K:bi) (C:aw) (f:ak):Prop:=dG K (.ref C) f=aa ab
theorem kZ.taker {K:bi} {C:aw} {f:ak} (n:kZ K C f):EB K C f=aa ab:=by unfold EB;rw[show dG K (.ref C) f=aa ab from n];rfl
structure Meth (K:bi) (C:aw) (m:ak) (f:aw):Prop where
 at_:dG K (.ref C) m=aa (aa (.ref f))
 fn:uR K (.ref f)=ai
 kp:i7 K (.ref f)=ai
variable {m:ak} {env:dc}
section
variable {fs:ac (ak×V)} {f:ak} {E:Value->aI->Prop}
theorem K6 {b:aX} (I:Inv X pins σ H s) (e:H a=aa (.ins C dx fs)) (c:Cls X.K C) (n:kZ X.K C f) (l:fs.lookup f=aa v)
  (h:∀u s',Inv X pins σ H s'->bx v u->Q u s'):aM .(q) A (getAttr (.ref a) f b) Q E s:=by
 obtain⟨mA,O,r,_,_,_⟩:=tf I.hok e;obtain⟨u,hu,ru⟩:=dU.some_of (v:=v) (o:=mA f) (by rw[←l];exact r f);exact IW I.kIn O (c.get f) c.hd n hu (IN ru) (h u _ (I.tok _) ru)
theorem xt {g:aw} {Q:Value×ac Value->aI->Prop} (I:Inv X pins σ H s) (e:H a=aa (.ins C dx fs)) (c:Cls X.K C) (k:Meth X.K C m g) (l:fs.lookup m=ab)
  (h:Q (.ref g,[.ref a]) s):aM .(q) A (oJ (.ref a) m pl) Q E s:=by
 obtain⟨mA,O,r,_,_,_⟩:=tf I.hok e;have hn:mA m=ab:=dU.none_of (by rw[←l];exact r m);exact LL I.kIn O (c.get m) k.at_ k.fn hn h
theorem K3 {y:V} {Q:lO->aI->Prop} (I:Inv X pins σ H s) (e:H a=aa (.ins C dx fs)) (c:Cls X.K C) (n:kZ X.K C f) (hl:fs.length<1000) (ry:bx y u)
  (h:∀s',Inv X pins σ (upd H a (.ins C dx (eY f y fs))) s'->Q () s'):aM .(q) A (setAttr (.ref a) f u) Q E s:=by
 obtain⟨mA,O,r,wi,_,ho⟩:=tf I.hok e;have hz:(fs.map (·.1)).length<=aV:=by rw[qg,eX];omega
 refine Gs I.kIn O c.sa c.po n.taker c.hd wi hz fun h' O' sb=>h _ ?_;have hd:∃o,h'.get? dx=aa o:=let ⟨o,_,_,e',_⟩:=O'.ns;⟨o,e'⟩
 refine I.write (x:=a) (e:=dx) (by rw[e];exact iw) (.inr ho) (fun b q hb z=>(sb.2 b hb).trans z) hd ?_;refine⟨by rw[a4 O.ne];exact ho,?_,O.ne,O'.obj,_,O'.ns,fun g=>?_,fun g hg=>?_⟩
 .have:=Ej f y fs;omega
 .show dU ((eY f y fs).lookup g) (if g=f then aa u else mA g);rw[Bg];by_cases q:g=f
  .rw[qX q,qX q];exact ry
  .rw[qY q,qY q];exact r g
 .by_cases q:g=f
  .rw[q];exact(vU f y fs).1
  .refine(vU f y fs).2 g (wi g fun z=>hg ?_);show(if g=f then aa u else mA g)=ab;rw[qY q];exact z
theorem Inv.made (I:Inv X pins σ H s):Inv X pins σ (upd (upd H s.heap.objs.size (.own .(X))) .(X) (.ins C s.heap.objs.size []))
  {s with heap:=(s.heap.push lR).push (mX C s.heap.objs.size)}:=by
 have e1:(s.heap.push lR).get? s.heap.objs.size=aa lR:=qF s.heap rfl;have e2:((s.heap.push lR).push (mX C s.heap.objs.size)).get? .(X)=aa (mX C s.heap.objs.size):=by
  have:=qF (s.heap.push lR) (o:=mX C s.heap.objs.size) rfl
  rwa [mZ] at this
 have e3:(s.heap.push lR).Ns s.heap.objs.size (fun _=>ab):=⟨lR,#[],_,e1,rfl,(fun e he=>bN he (by simp)),fun _=>rfl⟩;have I1:=I.laid (a:=s.heap.objs.size) (o:=.own .(X)) (h':=s.heap.push lR) (t':=s.toks) (fun b u q=>qu _ q) (qw _) ⟨_,e1⟩;refine I1.laid (a:=s.heap.objs.size+1) (o:=.ins C s.heap.objs.size []) (t':=s.toks) (fun b u q=>qu _ q) (yH (mZ _ _)) ?_;have ne:s.heap.objs.size≠s.heap.objs.size+1:=qB (uS _);refine⟨by rw[a4 ne,bW],ix _,ne,e2,fun _=>ab,(Heap.Ns1.of_empty e3).at fun o q=>qu _ q,fun _=>iw,fun y hy=>bN rfl hy⟩
theorem K2 (hb:gx e f env (eval e env)=eval e env)
  (h:aM .(Q) A (eval e env) (fun o s₁=>aM .(Q) A (getAttr o f ai) Q E s₁) E s):aM .(Q) A (eval (.Attribute e f pos) env) Q E s:=
 Attribute_any_ h (by rw[arm_eval_Attribute,hb])
end
noncomputable def IG (K:bi) (ta:TE) (f:ak):TE:=fun σ H Q=>ta σ H fun x H1=>∃a C dx fs v,x=.ref a/\H1 a=aa (.ins C dx fs)/\Cls K C/\kZ K C f/\fs.lookup f=aa v/\Q v H1
noncomputable def MY (K:bi) (ta tv:TE) (f:ak):TS:=fun D σ H=>tv σ H fun y H1=>ta σ H1 fun x H2=>∃a C dx fs,x=.ref a/\H2 a=aa (.ins C dx fs)/\Cls K C/\kZ K C f/\fs.length<1000 /\
 D.nx σ (upd H2 a (.ins C dx (eY f y fs)))
variable {o value:Expr} {tpos apos:dq} {tv:TE}
section
variable {f:ak}
theorem wD (he:PE X e ta) (hb:gx e f X.env (eval e X.env)=eval e X.env):PE X (.Attribute e f pos) (IG X.K ta f):=by intro pins s σ H Q I h;refine K2 hb (thn (he pins s σ H _ I h) fun u s1 ⟨x,H1,I1,rx,a,C,dx,fs,v,ex,ea,c,n,l,q⟩=>?_);subst ex;obtain rfl:u=cc a:=rx;exact K6 I1 ea c n l fun u' s2 I2 ru=>⟨v,H1,I2,ru,q⟩
theorem CG (ha:PE X o ta) (hv:PE X value tv) (hs:fK value (aa (.Attribute o f pos')) pos.line X.env=bB aq):PS X (.Assign [.Attribute o f pos'] value pos) (MY X.K ta tv f):=by intro pins s σ H D I h;refine plainObj_wpAny_Assign_Attribute (thn (hv pins s σ H _ I h) fun u s1 ⟨y,H1,I1,ry,q⟩=>thn (ha pins s1 σ H1 _ I1 q) fun ov s2 ⟨x,H2,I2,rx,a,C,dx,fs,ex,ea,c,n,l,q2⟩=>?_) hs;subst ex;obtain rfl:ov=cc a:=rx;exact K3 I2 ea c n l ry fun s3 I3=>⟨σ,_,I3,q2⟩
theorem SG {args:ac Expr} (he:PE X e te) (I:Inv X pins σ H s)
  (h:te σ H fun x H1=>∃a C dx fs g,x=.ref a/\H1 a=aa (.ins C dx fs)/\Cls X.K C/\Meth X.K C m g/\fs.lookup m=ab /\
   ∀s1,Inv X pins σ H1 s1->aM .(q) X.A (rq pos (.ref g) [.ref a] (cC pos (a6 args X.env)) (i8 pos (i9 [] X.env))) Q X.xe s1)
  (ht:eval (.Call (.Attribute e m apos) args [] pos) X.env=(do
   let ov ←eval e X.env
   oF apos.atName
   let (f,first) ←jM [ov] (oJ ov m pl)
   rq pos f first (cC pos (a6 args X.env)) (i8 pos (i9 [] X.env)))) :
  aM .(q) X.A (eval (.Call (.Attribute e m apos) args [] pos) X.env) Q X.xe s:=by
 refine EC (pl:=pl) (thn (he pins s σ H _ I h) fun u s1 ⟨x,H1,I1,rx,a,C,dx,fs,g,ex,ea,c,k,l,q⟩=>?_) ht;subst ex;obtain rfl:u=cc a:=rx;exact xt I1 ea c k l (q s1 I1)
end
section
variable {E:Value->aI->Prop} {c:Value} {b:aX}
inductive TyOf (K:bi) (H:Hp):V->Value->Prop where
 |non:TyOf K H .non (.type "NoneType")
 |bl (x:aX):TyOf K H (.bl x) (.type "bool")
 |int (i:ag):TyOf K H (.int i) (.type "int")
 |str (x:ak):TyOf K H (.str x) (.type "str")
 |flt (x:UInt64):TyOf K H (.flt x) (.type "float")
 |lst {a:aw} {xs:ac V} (e:H a=aa (.lst xs)):TyOf K H (.ref a) (.type "list")
 |frz {a:aw} {o:bd} {xs:ac V} (e:H a=aa (.frz o (.lst xs))):TyOf K H (.ref a) (.type "list")
 |tup {a:aw} {xs:ac V} (e:H a=aa (.tup xs)):TyOf K H (.ref a) (.type "tuple")
 |dK {a:aw} {kvs:ac (Key×V)} (e:H a=aa (.dK kvs)):TyOf K H (.ref a) (.type "dict")
 |dT {a:aw} {kvs:ac (ac Key×V)} (e:H a=aa (.dT kvs)):TyOf K H (.ref a) (.type "dict")
 |ins {a C dx:aw} {fs:ac (ak×V)} (e:H a=aa (.ins C dx fs)) (cl:Cls K C) (ha:dG K (.ref C) "__class__"=aa (aa (.builtin "object.__class__")))
   (hn:PySem.W.specialIn K (.builtin "object.__class__") "__get__"=aa (aa (.builtin "getset_descriptor.__get__"))) (htk:PySem.W.takesIn K (.builtin "object.__class__")=aa ai)
   (hm:PySem.W.mroIn K C (.type "object")=aa ai):TyOf K H (.ref a) (.ref C)
theorem IA {x:V} {t:Value} (I:Inv X pins σ H s) (rx:bx x u) (ty:TyOf X.K H x t) (e:QI X.K t c=aa b) (h:∀tk,Q (.bool b) {s with toks:=tk}) :
  aM .(q) A (call (.builtin "isinstance") [u,c]) Q E s:=by
 cases ty with
 |non=>cases(show u=oE from rx);exact jP PySem.W.kitx_none I.kIn iw e (fun z=>nomatch z) h
 |bl y=>cases(show u=jL y from rx);exact jP PySem.W.kitx_bool I.kIn iw e (fun z=>nomatch z) h
 |int i=>obtain⟨t,q⟩:=(show ∃t,u=cZ i t from rx);cases q;exact jP PySem.W.kitx_int I.kIn iw e (fun z=>nomatch z) h
 |str y=>obtain⟨t,q⟩:=(show ∃t,u=rj y t from rx);cases q;exact jP PySem.W.kitx_str I.kIn iw e (fun z=>nomatch z) h
 |flt y=>obtain⟨t,q⟩:=(show ∃t,u=Em y t from rx);cases q;exact jP PySem.W.kitx_float I.kIn iw e (fun z=>nomatch z) h
 | @lst a xs ea=>
  cases(show u=cc a from rx);obtain⟨_,_,n,_,h1⟩:=(show cV X.prog X.w H s.heap a (.lst xs) from I.hok a _ ea);exact jP QJ I.kIn ⟨_,h1,rfl⟩ e (fun z=>nomatch z) h
 | @frz a ob xs ea=>
  cases(show u=cc a from rx);obtain⟨_,_,_,n,_,h1⟩:=(show cV X.prog X.w H s.heap a (.frz ob (.lst xs)) from I.hok a _ ea);exact jP QJ I.kIn ⟨_,h1,rfl⟩ e (fun z=>nomatch z) h
 | @tup a xs ea=>
  cases(show u=cc a from rx);obtain⟨_,_,_,p⟩:=(show cV X.prog X.w H s.heap a (.tup xs) from I.hok a _ ea);obtain⟨o,h1,h2,_⟩:=p;exact jP PySem.W.kitx_tuple I.kIn ⟨o,h1,h2⟩ e (fun z=>nomatch z) h
 | @dK a kvs ea=>
  cases(show u=cc a from rx);obtain⟨_,_,vs,_,p⟩:=(show cV X.prog X.w H s.heap a (.dK kvs) from I.hok a _ ea);obtain⟨o,es,ep,h1,h2,_⟩:=p;exact jP QK I.kIn ⟨o,h1,h2.1⟩ e (fun z=>nomatch z) h
 | @dT a kvs ea=>
  cases(show u=cc a from rx);obtain⟨_,_,xs,_,o,es,ep,h1,h2,_⟩:=(show cV X.prog X.w H s.heap a (.dT kvs) from I.hok a _ ea);exact jP QK I.kIn ⟨o,h1,h2.1⟩ e (fun z=>nomatch z) h
 | @ins a C dx fs ea cl ha hn htk hm=>
  cases(show u=cc a from rx);obtain⟨mA,O,_⟩:=tf I.hok ea;obtain⟨od,J,_⟩:=O.look;exact jP (PySem.W.kitx_own (cl.get _) cl.hd ha hn htk hm) I.kIn J e (fun z=>nomatch z) h
end
structure Room (k:al) (A:eB):Prop where
 hd:A.handled=ab
 dp:A.depth+3*k+5<recursionLimit
 un:A.units+16*k+200<cg
theorem Room.mono {k:al} (r:Room k A) (h:j<=k):Room j A:=⟨r.hd,by have:=r.dp;omega,by have:=r.un;omega⟩
theorem Room.deeper {k:al} (r:Room (k+1) A) (env:dc):Room k (A.deeper env):=
 ⟨r.hd,by have:=r.dp;show A.depth+1+3*k+5 < _;omega,by have:=r.un;show A.units+3+16*k+200 < _;omega⟩
theorem Jb {us:ac Value} :(A.under (.builtin "type.__call__" ⟨.ref C::us,kw⟩)).depth=A.depth+1:=by
 first|rfl|simp[ED,Code.weight,Code.isCreation,Code.isGuard,Code.isCaller,QL,EE,guardIds]
theorem Il {us:ac Value} :(A.under (.builtin "type.__call__" ⟨.ref C::us,kw⟩)).units=A.units+1:=by
 first|rfl|simp[ED,Code.cUnits,QL,EE]
theorem Room.make {k:al} (r:Room (k+1) A) (C:aw) (us:ac Value) (kw:ac (ak×Value)):Room k (A.under (.builtin "type.__call__" ⟨.ref C::us,kw⟩)):=
 ⟨r.hd,by have:=r.dp;rw[Jb];omega,by have:=r.un;rw[Il];omega⟩
theorem Room.depth {k:al} (r:Room k A):A.depth<recursionLimit:=by have:=r.dp;omega
noncomputable def DX:TA:=fun _ H Q=>Q [] H
noncomputable def F5 (ta:TE) (tr:TA):TA:=fun σ H Q=>ta σ H fun x H1=>tr σ H1 fun xs H2=>Q (x::xs) H2
section
variable {t:TA}
theorem jI:PA X [] DX:=fun _ _ _ _ H Q I h=>yI ⟨[],H,I,.nil,h⟩
theorem jq (ha:PE X e te) (hr:PA X es t) (hs:a6 (e::es) X.env=(aq,eval e X.env)::a6 es X.env:=by rfl):PA X (e::es) (F5 te t):=by intro pos pins s σ H Q I h;rw[hs];show aM _ _ (spliced ((aq,eval e X.env)::cC pos (a6 es X.env))) _ _ s;refine uT (thn (ha pins s σ H _ I h) fun u s1 ⟨x,H1,I1,r1,q1⟩=>?_);exact thn (hr pos pins s1 σ H1 _ I1 q1) fun us s2 ⟨xs,H2,I2,r2,q2⟩=>⟨x::xs,H2,I2,.cons r1 r2,q2⟩
noncomputable def Ju (t:TA):TE:=fun σ H Q=>t σ H fun xs H1=>xs.length<=aV/\∀p,H1 p=ab->Q (.ref p) (upd H1 p (.tup xs))
noncomputable def Nf (t:TA):TE:=fun σ H Q=>t σ H fun xs H1=>xs.length<=aV/\∀p,H1 p=ab->Q (.ref p) (upd H1 p (.lst xs))
theorem Iz {x1} (h:PA X es t):PE X (.Tuple es x1 pos) (Ju t):=by intro pins s σ H Q I hq;refine wpAny_Tuple_spliced (thn (h pos pins s σ H _ I hq) fun us s1 ⟨xs,H1,I1,r,z,q⟩=>⟨by rw[←r.length];exact z,?_⟩);have hf:H1 s1.heap.objs.size=ab:=I1.hok.fresh (qw _);refine⟨.ref s1.heap.objs.size,upd H1 s1.heap.objs.size (.tup xs),I1.laid (t':=s1.toks) (fun b u e=>qu _ e) (qw _) ?_,rfl,q _ hf⟩;exact⟨z,us,r,⟨_,qF _ rfl,rfl,_,rfl⟩⟩
theorem L3 (h:PA X es t):PE X (.List es pos) (Nf t):=by intro pins s σ H Q I hq;refine wpAny_List_spliced (thn (h pos pins s σ H _ I hq) fun us s1 ⟨xs,H1,I1,r,z,q⟩=>⟨by rw[←r.length];exact z,?_⟩);have hf:H1 s1.heap.objs.size=ab:=I1.hok.fresh (qw _);refine⟨.ref s1.heap.objs.size,upd H1 s1.heap.objs.size (.lst xs),I1.laid (t':=s1.toks) (fun b u e=>qu _ e) (qw _) ?_,rfl,q _ hf⟩;exact⟨z,us,0,r,qF _ rfl⟩
end
noncomputable abbrev Sp:=ac V->Hp->VK->XK->Prop
noncomputable abbrev CXT:=ac dc->Hp->aI->XK->Value->aI->Prop
structure Env0 (P:dy) (w:cS) (K:bi) (mg:ak->ar Value) (base:Heap) (A:eB) (outer:ac dc) (s:aI) (H:Hp):Prop where
 frames:A.frames=aa outer
 mod:Mod K mg base
 bs:∀b o,base.get? b=aa o->s.heap.get? b=aa o/\H b=ab
 bsz:base.objs.size<=s.heap.objs.size
 funs:s.heap.FunFrames base outer
 frf:∀b∈frs outer,H b=ab
 hok:HOk P w H s.heap
 bare:ky s.gens
noncomputable def CE (outer:ac dc) (P:dy) (w:cS) (H:Hp) (s:aI) (Q:VK) (u:Value) (s':aI):Prop:=
 ∃v H',s'.os=s.os/\ky s'.gens/\Un (frs outer) [] H H' s.heap s'.heap/\HOk P w H' s'.heap/\bx v u/\Q v H'
noncomputable def CR (CX:CXT) (outer:ac dc) (P:dy) (w:cS) (H:Hp) (s:aI) (Q:VK) (E:XK) (r:Result) (s':aI):Prop:=
 match r with
 |.ok (.ret u)=>CE outer P w H s Q u s'
 |.ok _=>False
 |.error e=>CX outer H s E e s'
structure FnOk (P:dy) (w:cS) (K:bi) (mg:ak->ar Value) (base:Heap) (CX:CXT) (k:al) (f:aw) (fd:m4) (ps:ac ak) (sp:Sp):Prop where
 len:∀vs H Q E,sp vs H Q E->vs.length=ps.length
 run:∀(A:eB) (outer:ac dc) (s:aI) (H:Hp) (args:Args) (us:ac Value) (vs:ac V) (Q:VK) (E:XK),Room k A->Env0 P w K mg base A outer s H->rA s fd args (ps.zip us)->bK vs us->sp vs H Q E->
  iu (aQ P w) A (.call (.ref f) args) (CR CX outer P w H s Q E) s
variable {mg:ak->ar Value} {base:Heap} {CX:CXT} {fd:m4} {ps:ac ak} {sp:Sp}
theorem FnOk.imp {k:al} {f:aw} {sp':Sp} (F:FnOk P w K mg base CX k f fd ps sp)
  (h:∀vs H Q E,sp' vs H Q E->sp vs H Q E):FnOk P w K mg base CX k f fd ps sp':=
 ⟨fun vs H Q E q=>F.len vs H Q E (h _ _ _ _ q),fun A outer s H args us vs Q E hr he hb hv hs=>F.run A outer s H args us vs Q E hr he hb hv (h _ _ _ _ hs)⟩
variable {outer:ac dc}
theorem Env0.make (e:Env0 P w K mg base A outer s H) (C:aw) (us:ac Value) (kw:ac (ak×Value)) :
  Env0 P w K mg base (A.under (.builtin "type.__call__" ⟨.ref C::us,kw⟩)) outer s H:=⟨by first|exact e.frames|(simpa[ED,Code.envs,EE,pushEnvs] using e.frames),e.mod,e.bs,e.bsz,e.funs,e.frf,e.hok,e.bare⟩
theorem Inv.env0 (I:Inv X pins σ H s):Env0 X.prog X.w X.K X.mg X.base X.A X.stack s H:=
 ⟨I.ok.frames,I.ok.mod,I.bs,qL I.ok.bsz I.sz,I.stack,I.stkFree,I.hok,I.bare⟩
theorem Inv.after {Q:VK} (I:Inv X pins σ H s) (h:CE X.stack X.prog X.w H s Q u s'):EP X pins σ Q u s':=by obtain⟨v,H',os,bare,un,hok,r,q⟩:=h;obtain⟨hh,g,d,t,os'⟩:=s';obtain rfl:os'=s.os:=os;exact⟨v,H',I.call (h':=hh) (g':=g) (d':=d) (t':=t) (ch:=[]) un hok bare (fun b z=>bN z (by simp)),r,q⟩
noncomputable def M4 (sp:Sp) (dvs:ac V) (E:XK) (t:TA):TE:=fun σ H Q=>t σ H fun vs H1=>sp (vs++dvs) H1 Q E
noncomputable def AV (C:aw) (m:ak) (sp:Sp) (dvs:ac V) (E:XK) (ta:TE) (t:TA):TE:=fun σ H Q=>ta σ H fun x H1=>∃a dx fs,x=.ref a/\H1 a=aa (.ins C dx fs)/\fs.lookup m=ab /\
 t σ H1 fun vs H2=>sp (x::(vs++dvs)) H2 Q E
noncomputable def La (C:aw) (sp:Sp) (dvs:ac V) (E:XK) (t:TA):TE:=fun σ H Q=>t σ H fun vs H1=>∀x dx,H1 x=ab->H1 dx=ab->dx≠x->
 sp (.ref x::(vs++dvs)) (upd (upd H1 dx (.own x)) x (.ins C dx [])) (fun v H2=>v=.non/\Q (.ref x) H2) E
noncomputable def gL (K:bi) (fd:m4) (ps:ac ak) (ds:ac Value):Prop:=
 ∀(s:aI) (us:ac Value),K.In s.heap->(us++ds).length=ps.length->rA s fd ⟨us,[]⟩ (ps.zip (us++ds))
theorem gL.all (h:∀us:ac Value,us.length=ps.length->lS fd ⟨us,[]⟩=bB (ps.zip us)):gL K fd ps []:=fun s us _ hl=>by rw[lT] at hl ⊢;exact .of_eq (h us hl)
noncomputable def mx (CX:CXT) (X:Cx) (E:XK):Prop:=∀(pins:ac (aw×bd)) (σ:St) (H:Hp) (s:aI) (e:Value) (s':aI),Inv X pins σ H s->CX X.stack H s E e s'->X.xe e s'
variable {vs:ac V}
section
variable {k:al} {f:aw} {dvs:ac V} {ds:ac Value} {E:XK} {t:TA}
theorem wV {Q:VK} {us:ac Value} (F:FnOk X.prog X.w X.K X.mg X.base CX k f fd ps sp) (hr:Room k X.A) (hb:gL X.K fd ps ds) (hd:bK dvs ds) (hx:mx CX X E)
  (I:Inv X pins σ H s) (r:bK vs us) (h:sp (vs++dvs) H Q E):aM .(q) X.A (call (.ref f) us) (EP X pins σ Q) X.xe s:=by
 have r2:bK (vs++dvs) (us++ds):=r.append hd;have hl:(us++ds).length=ps.length:=by rw[←r2.length];exact F.len _ _ _ _ h
 refine yJ (rB (F.run X.A X.stack s H ⟨us,[]⟩ (us++ds) (vs++dvs) Q E hr I.env0 (hb s us I.kIn hl) r2 h) fun r s' hq=>?_);cases r with
 |error e=>exact hx pins σ H s e s' I hq
 |ok fl=>
  cases fl with
  |ret u=>exact I.after hq
  |next=>exact ir hq
  |brk=>exact ir hq
  |cont=>exact ir hq
theorem NA (F:FnOk X.prog X.w X.K X.mg X.base CX k f fd ps sp) (hr:Room k X.A) (hg:Gl X x) (hm:X.mg x=aa (.ref f)) (hk:i7 X.K (.ref f)=ai) (hb:gL X.K fd ps ds) (hd:bK dvs ds) (hx:mx CX X E)
  (ha:PA X (e::es) t) (hdb:.(E)=aq:=by decide) (he:a6 (e::es) X.env=(aq,eval e X.env)::a6 es X.env:=by rfl) (hpl:(cC pos (a6 es X.env)).any (·.1)=aq:=by rfl) :
  PE X .(ax) (M4 sp dvs E t):=by
 intro pins s σ H Q I h;refine yK (wG I hg hm ?_ hdb);refine EF (h₀:=X.base) I.ok.mod.kin hk (thn (ha pos pins s σ H _ I h) fun us s1 ⟨vs,H1,I1,r,q⟩=>⟨I1.kIn,?_⟩) he hpl;exact wV F hr hb hd hx I1 r q
theorem Qd (he:PE X o ta) (c:Cls X.K C) (hm:Meth X.K C m f) (F:FnOk X.prog X.w X.K X.mg X.base CX k f fd ps sp) (hr:Room k X.A) (hb:gL X.K fd ps ds) (hd:bK dvs ds) (hx:mx CX X E) (ha:PA X (e::es) t)
  (hst:a6 (e::es) X.env=(aq,eval e X.env)::a6 es X.env:=by rfl) (hpl:(cC pos (a6 es X.env)).any (·.1)=aq:=by rfl)
  (ht:eval (.Call (.Attribute o m apos) (e::es) [] pos) X.env=(do
   let ov ←eval o X.env
   oF apos.atName
   let (f,first) ←jM [ov] (oJ ov m pl)
   rq pos f first (cC pos (a6 (e::es) X.env)) (i8 pos (i9 [] X.env))):=by rfl) :
  PE X (.Call (.Attribute o m apos) (e::es) [] pos) (AV C m sp dvs E ta t):=by
 intro pins s σ H Q I h;refine EC (pl:=pl) (thn (he pins s σ H _ I h) fun u s1 ⟨x,H1,I1,rx,a,dx,fs,ex,ea,l,q⟩=>?_) ht;subst ex;obtain rfl:u=cc a:=rx;refine xt I1 ea c hm l ?_;refine EF (first:=[.ref a]) (h₀:=X.base) I.ok.mod.kin hm.kp (thn (ha pos pins s1 σ H1 _ I1 q) fun us s2 ⟨vs,H2,I2,r,q2⟩=>⟨I2.kIn,?_⟩) hst hpl;exact wV (us:=.ref a::us) (vs:=.ref a::vs) F hr hb hd hx I2 (.cons rfl r) q2
theorem NN (he:PE X o ta) (c:Cls X.K C) (hm:Meth X.K C m f) (F:FnOk X.prog X.w X.K X.mg X.base CX k f fd ps sp) (hr:Room k X.A) (hb:gL X.K fd ps ds) (hd:bK dvs ds) (hx:mx CX X E)
  (ht:eval (.Call (.Attribute o m apos) [] [] pos) X.env=(do
   let ov ←eval o X.env
   oF apos.atName
   let (f,first) ←jM [ov] (oJ ov m pl)
   rq pos f first (cC pos (a6 [] X.env)) (i8 pos (i9 [] X.env))):=by rfl) :
  PE X (.Call (.Attribute o m apos) [] [] pos) (AV C m sp dvs E ta DX):=by
 intro pins s σ H Q I h;refine EC (pl:=pl) (thn (he pins s σ H _ I h) fun u s1 ⟨x,H1,I1,rx,a,dx,fs,ex,ea,l,q⟩=>?_) ht;subst ex;obtain rfl:u=cc a:=rx;refine xt I1 ea c hm l ?_;exact PySem.W.callWith_K0 (first:=[.ref a]) I1.kIn hm.kp (wV (us:=[.ref a]) (vs:=[.ref a]) F hr hb hd hx I1 (.cons rfl .nil) q)
structure Mk (K:bi) (C f:aw):Prop where
 makes:yG K C=ai
 init:dG K (.ref C) "__init__"=aa (aa (.ref f))
 fn:uR K (.ref f)=ai
 kp:i7 K (.ref C)=ai
theorem IL {Q:VK} {us:ac Value} (M:Mk X.K C f) (F:FnOk X.prog X.w X.K X.mg X.base CX k f fd ps sp) (hr:Room (k+1) X.A) (hb:gL X.K fd ps ds) (hd:bK dvs ds)
  (hx:mx CX X E) (I:Inv X pins σ H s) (r:bK vs us)
  (h:∀x dx,H x=ab->H dx=ab->dx≠x->sp (.ref x::(vs++dvs)) (upd (upd H dx (.own x)) x (.ins C dx [])) (fun v H2=>v=.non/\Q (.ref x) H2) E) :
  aM .(q) X.A (call (.ref C) us) (EP X pins σ Q) X.xe s:=by
 have hq:=h .(X) s.heap.objs.size (I.hok.fresh (iy _)) (I.hok.fresh (qw _)) (qB (uS _));have I2:=Inv.made (C:=C) I;have r2:bK (V.ref .(X)::(vs++dvs)) (cc .(X)::(us++ds)):=.cons rfl (r.append hd);have hl:(cc .(X)::us++ds).length=ps.length:=by have e:=r2.length;rw[F.len _ _ _ _ hq] at e;exact e.symm
 refine yJ (IF (f:=f) I.kIn M.makes M.init (kC.mp M.fn) (rB (F.run _ X.stack _ _ ⟨cc .(X)::us,[]⟩ (cc .(X)::(us++ds)) _ _ E (hr.make C us [])
  (I2.env0.make C us []) (hb _ (cc .(X)::us) I2.kIn hl) r2 hq) fun r s' hq'=>?_))
 cases r with
 |error e=>exact hx pins σ _ _ e s' I2 hq'
 |ok fl=>
  cases fl with
  |ret u=>
   obtain⟨v,H',I3,rv,ev,q3⟩:=I2.after hq';subst ev;exact⟨rv,⟨V.ref .(X),H',I3,rfl,q3⟩⟩
  |next=>exact ir hq'
  |brk=>exact ir hq'
  |cont=>exact ir hq'
theorem MI (M:Mk X.K C f) (F:FnOk X.prog X.w X.K X.mg X.base CX k f fd ps sp) (hr:Room (k+1) X.A) (hg:Gl X x) (hm:X.mg x=aa (.ref C)) (hb:gL X.K fd ps ds) (hd:bK dvs ds) (hx:mx CX X E)
  (ha:PA X (e::es) t) (hdb:.(E)=aq:=by decide) (he:a6 (e::es) X.env=(aq,eval e X.env)::a6 es X.env:=by rfl) (hpl:(cC pos (a6 es X.env)).any (·.1)=aq:=by rfl) :
  PE X .(ax) (La C sp dvs E t):=by
 intro pins s σ H Q I h;refine yK (wG I hg hm ?_ hdb);refine EF (h₀:=X.base) I.ok.mod.kin M.kp (thn (ha pos pins s σ H _ I h) fun us s1 ⟨vs,H1,I1,r,q⟩=>⟨I1.kIn,?_⟩) he hpl;exact IL M F hr hb hd hx I1 r q
end
structure FnScope (N P:ac ak) (sc:Scope):Prop where
 kind:sc.kind=.function
 co:sc.isCoroutine=aq
 gen:sc.isGenerator=aq
 nd:N.Nodup
 pre:N.take P.length=P
 par:∀x∈P,sc.names.lookup x=aa .local\/sc.names.lookup x=aa .cell
 nofree:∀y∈sc.names,y.2≠.free
theorem AY {kindOf:ak->ar gZ} {x:ak}:∀{binds:ac (ak×Value)} {m:ak->ar Value},(∀v,(x,v)∉binds)->lU kindOf binds m x=m x
 |[],_,_=>rfl
 |(n,v)::r,m,h=>by
  unfold lU;rw[AY fun w hw=>h w (qi _ hw)];split
  .have:x≠n:=by rintro rfl;exact h v qh
   simp[this]
  .rfl
theorem Ek {kindOf:ak->ar gZ} {x:ak}:∀{binds:ac (ak×Value)} {m:ak->ar Value},(∀v,(x,v)∉binds)->lV kindOf binds m x=m x
 |[],_,_=>rfl
 |(n,v)::r,m,h=>by
  unfold lV;rw[Ek fun w hw=>h w (qi _ hw)];split
  .rfl
  .have:x≠n:=by rintro rfl;exact h v qh
   simp[this]
theorem Dq {kindOf:ak->ar gZ} {x:ak} {v:Value}:∀{P:ac ak} {vs:ac Value} {i:al} {m:ak->ar Value},P.Nodup->P[i]?=aa x->vs[i]?=aa v->kindOf x=aa .local->
  lU kindOf (P.zip vs) m x=aa v
 |[],_,_,_,_,h,_,_=>by simp at h
 |_::_,[],_,_,_,_,h,_=>by simp at h
 |p::P,w::vs,0,m,nd,h1,h2,hk=>by
  simp at h1 h2;subst h1;subst h2;show lU kindOf ((p,w)::P.zip vs) m p=_;unfold lU;rw[AY fun v hv=>(kD.mp nd).1 (EG hv).1,qX hk];simp
 |p::P,w::vs,i+1,m,nd,h1,h2,hk=>by show lU kindOf ((p,w)::P.zip vs) m x=_;unfold lU;exact Dq (i:=i) (kD.mp nd).2 (by simpa using h1) (by simpa using h2) hk
theorem BI {kindOf:ak->ar gZ} {x:ak} {v:Value}:∀{P:ac ak} {vs:ac Value} {i:al} {m:ak->ar Value},P.Nodup->P[i]?=aa x->vs[i]?=aa v->kindOf x≠aa .local->
  lV kindOf (P.zip vs) m x=aa v
 |[],_,_,_,_,h,_,_=>by simp at h
 |_::_,[],_,_,_,_,h,_=>by simp at h
 |p::P,w::vs,0,m,nd,h1,h2,hk=>by
  simp at h1 h2;subst h1;subst h2;show lV kindOf ((p,w)::P.zip vs) m p=_;unfold lV;rw[Ek fun v hv=>(kD.mp nd).1 (EG hv).1,qY hk];simp
 |p::P,w::vs,i+1,m,nd,h1,h2,hk=>by show lV kindOf ((p,w)::P.zip vs) m x=_;unfold lV;exact BI (i:=i) (kD.mp nd).2 (by simpa using h1) (by simpa using h2) hk
noncomputable def gD (N:ac ak) (vs:ac V):St:=vs.map aa++ce (N.length-vs.length) ab
noncomputable def ii (CX:CXT) (P:dy) (w:cS) (K:bi) (mg:ak->ar Value) (base:Heap) (N:ac ak) (qual:ak) (scope:Scope) (f:aw) (cd:Value) (A:eB) (outer:ac dc) (s:aI) (H:Hp) (E:XK):Cx where
 prog:=P
 w:=w
 K:=K
 mg:=mg
 base:=base
 A:=A.deeper (fy qual scope s.heap.objs.size f cd)
 N:=N
 s₀:=s
 H₀:=H
 env:=fy qual scope s.heap.objs.size f cd
 outer:=outer
 stack:=fy qual scope s.heap.objs.size f cd::outer
 ex:=[]
 calm:=ai
 fn:=fun _=>ai
 pn:=[]
 xe:=fun e s'=>aM (aQ P w) (A.deeper (fy qual scope s.heap.objs.size f cd)) (leaving (fy qual scope s.heap.objs.size f cd) e) (fun _ s''=>CX outer H s E e s'') (fun e' s''=>CX outer H s E e' s'') s'
variable {sc:Scope}
theorem CQ (h:sc.names.lookup x=aa .cell):∃c,(yL n sc.names []).lookup x=aa c:=by have q:=QM sc.names n [] (.inl h);exact g0.mp q
variable {qual:ak} {scope:Scope} {cd:Value}
theorem HL {f:aw} {s1:aI} {E:XK} {us:ac Value} 
  (S:FnScope N ps scope) (hd:A.handled=ab) (e0:Env0 P w K mg base A outer s H) (hl:vs.length=ps.length) (r:bK vs us)
  (x:InCallC s s.heap.objs.size (lU (fy qual scope s.heap.objs.size f cd).kindOf (ps.zip us) fun _=>ab) (yL .(X) scope.names []) (lV (fy qual scope s.heap.objs.size f cd).kindOf (ps.zip us) fun _=>ab) s1) :
  Inv (ii CX P w K mg base N qual scope f cd A outer s H E) [] (gD N vs) H s1:=by
 have hpl:ps.length<=N.length:=by have:=cK f8 S.pre;rw[qD] at this;omega
 obtain⟨h1,tk,rfl,hk⟩:=x.done;have noA:∀b:aw,b∉(ii CX P w K mg base N qual scope f cd A outer s H E).ex:=fun b z=>bN (show b∈([]:ac aw) from z) (by simp);refine⟨⟨e0.mod,S.kind,rfl,rfl,qw _,fun y z c h1 h2=>?_,fun y hy=>?_,fun y c _ h=>?_,fun _=>hd,Around.frames_deeper e0.frames,.inr ⟨rfl,rfl⟩,fun b z=>bN z (noA b),e0.bs,e0.bsz,fun b _ _=>noA b,fun b z=>bN z (noA b),e0.funs,e0.frf⟩,
  rfl,e0.bare,Un.kept hk,⟨_,x.toInCall.ns,fun i y v h1 h2 h3=>?_⟩,fun y c h=>⟨_,x.cell y c h⟩,e0.hok.fresh (qw _),fun y c h=>?_,fun p hp=>bN (show p∈([]:ac (aw×bd)) from hp) (by simp),e0.hok.kept hk,?_⟩
 .exact name_of_addr x.apart (m5 h1) (m5 h2)
 .have hy:scope.names.lookup y=aa .cell\/scope.names.lookup y=aa .free:=hy;rcases hy with hy|hy
  .exact CQ hy
  .exact bN rfl (S.nofree _ (m5 hy))
 .exact rl (x.above y c (m5 h))
 .have hi:i<vs.length:=by
   unfold gD at h2;by_cases hi:i<vs.length
   .exact hi
   .rw[qJ (by simpa using hi)] at h2;rw[yM] at h2;split at h2<;>cases h2
  have ha:vs[i]?=aa v:=by
   unfold gD at h2;rw[qy (by simpa using hi),ql] at h2;cases e:vs[i]? with
   |none=>rw[e] at h2;cases h2
   |some a=>rw[e] at h2;cases h2;rfl
  obtain⟨u,hu,rv⟩:=r.get ha;have hp:ps[i]?=aa y:=by rw[←S.pre,yN .(f)];exact h1
  have ndP:ps.Nodup:=by rw[←S.pre];exact S.nd.sublist (EH _ _)
  refine⟨u,rv,?_⟩;rcases S.par y (qO hp) with k|k
  .exact .inl ⟨k,Dq ndP hp hu k⟩
  .obtain⟨c,e⟩:=CQ (n:=s.heap.objs.size+1) k;refine .inr ⟨.inl k,c,e,?_⟩;have q:=x.cell y c e;rw[BI ndP hp hu (by show scope.names.lookup y≠_;rw[k];decide)] at q;exact q
 .exact e0.hok.fresh (rl (x.above y c (m5 h)))
 .unfold gD;show _=N.length;rw[qk,qg,List.length_replicate];omega
variable {doc pm cdv ct oc:Value} {an od:ar aw} {osl:bR (ar Value)}
theorem Of {k:al} {f:aw} {params:Arguments} {body:ac Stmt} {dV kV:Value} 
  (lk:K.lookup f=aa ⟨oc,od,.func (hG name qual params body scope dV kV doc pm an cdv ct),osl⟩) (hcd:rC K cdv qual=ai) (S:FnScope N ps scope)
  (len:∀vs H Q E,sp vs H Q E->vs.length=ps.length)
  (hbody:∀(A:eB) (outer:ac dc) (s:aI) (H:Hp) (vs:ac V) (Q:VK) (E:XK),Room k (A.deeper (fy qual scope s.heap.objs.size f cdv))->sp vs H Q E->
   ∃t,PSs (ii CX P w K mg base N qual scope f cdv A outer s H E) body t/\t {nx:=fun _ H'=>Q .non H',rt:=Q} (gD N vs) H) :
  FnOk P w K mg base CX (k+1) f (hG name qual params body scope dV kV doc pm an cdv ct) ps sp:=by
 refine⟨len,fun A outer s H args us vs Q E hr e0 hb r hsp=>?_⟩;have hl:=len _ _ _ _ hsp;have KX:K.In s.heap:=e0.mod.kin.keeps fun b o e=>(e0.bs b o e).1;have lim:s.heap.NoLimit:=e0.mod.nolimit.keeps fun b o e=>(e0.bs b o e).1;have hkind:∀y∈ps.zip us,scope.names.lookup y.1=aa .local\/(scope.names.lookup y.1=aa .cell/\((yL .(X) scope.names []).lookup y.1).isSome=ai):=fun⟨n,v⟩ hy=>by
  rcases S.par n (EG hy).1 with q|q
  .exact .inl q
  .exact .inr ⟨q,QM _ _ _ (.inl q)⟩
 refine codeAny_call_function hr.depth (KX _ _ lk) rfl S.co S.gen rfl (PySem.W.codeRec_of KX hcd) (hb _ _ _ _ ?_);refine wpAny_newFunctionEnv_cells S.kind hkind fun env he s1 x=>?_;subst he;refine⟨lim.keeps x.toInCall.keep,codeAny_func ?_⟩;obtain⟨t,ht,hq⟩:=hbody A outer s H vs Q E (hr.deeper _) hsp;have I:Inv (ii CX P w K mg base N qual scope f cdv A outer s H E) [] (gD N vs) H s1:=HL S hr.hd e0 hl r x;refine gY (ht [] s1 (gD N vs) H _ I hq) (fun fl s' hs=>?_) fun e s' hs=>hs;have fin:∀{σ':St} {H':Hp} {v:V} {u:Value},Inv (ii CX P w K mg base N qual scope f cdv A outer s H E) [] σ' H' s'->bx v u->Q v H'->CE outer P w H s Q u s':=
  fun {σ' H' v u} J rv q=>⟨v,H',J.os,J.bare,J.base,J.hok,rv,q⟩
 cases fl with
 |ret u=>
  obtain⟨v,σ',H',J,rv,q⟩:=hs;exact fin J rv q
 |next=>
  obtain⟨σ',H',J,q⟩:=hs;exact fin (v:=V.non) (u:=oE) J rfl q
 |brk=>
  obtain⟨_,_,_,q⟩:=hs;exact ir q
 |cont=>
  obtain⟨_,_,_,q⟩:=hs;exact ir q
variable {T:c9}
section
variable {t:TA} {id:c9} {r:ac V->Hp->VK->Prop}
noncomputable def tCB (r:ac V->Hp->VK->Prop) (t:TA):TE:=fun σ H Q=>t σ H fun vs H1=>r vs H1 Q
theorem xM (hc:dB X (.builtin id) r) (hg:Gl X x) (hm:X.mg x=ab) (hv:lN x=aa (.builtin id)) (ha:PA X (e::es) t) (hn:x≠"__name__":=by decide) (hdb:.(E)=aq:=by decide)
  (he:a6 (e::es) X.env=(aq,eval e X.env)::a6 es X.env:=by rfl) (hpl:(cC pos (a6 es X.env)).any (·.1)=aq:=by rfl):PE X .(ax) (tCB r t):=by
 intro pins s σ H Q I h;refine yK (nS I hg hm hv ?_ hn hdb);exact Te (thn (ha pos pins s σ H _ I h) fun us s1 ⟨vs,H1,I1,r1,q1⟩=>hc pins s1 σ H1 vs us Q I1 r1 q1) he hpl
theorem pK (hc:dB X (.type T) r) (hg:Gl X x) (hm:X.mg x=ab) (hv:lN x=aa (.type T)) (ha:PA X (e::es) t) (hn:x≠"__name__":=by decide) (hdb:.(E)=aq:=by decide)
  (he:a6 (e::es) X.env=(aq,eval e X.env)::a6 es X.env:=by rfl) (hpl:(cC pos (a6 es X.env)).any (·.1)=aq:=by rfl):PE X .(ax) (tCB r t):=by
 intro pins s σ H Q I h;refine yK (nS I hg hm hv ?_ hn hdb);exact yC (thn (ha pos pins s σ H _ I h) fun us s1 ⟨vs,H1,I1,r1,q1⟩=>hc pins s1 σ H1 vs us Q I1 r1 q1) he hpl
end
variable {sl:aw} {vl vu:Value} {hi:ar ag} {items:bR Value}
namespace HT
section
variable {E:Value->aI->Prop}
noncomputable def sIx (n d:al):ar ag->al
 |none=>d
 |some v=>if v<0 then (v+(n:ag)).toNat else min v.toNat n
theorem Ph (n d:al) (hd:d<=n) (o:ar ag):sIx n d o<=n:=by
 cases o with
 |none=>exact hd
 |some v=>
  show(if v<0 then (v+(n:ag)).toNat else min v.toNat n)<=n;by_cases hv:v<0
  .rw[qX hv];omega
  .rw[qY hv];exact EI _ _
theorem AG (v:ag) (n d:al):(if v<0 then max (v+(n:ag)) 0 else min v (n:ag))=((sIx n d (aa v):al):ag):=by
 show(if v<0 then max (v+(n:ag)) 0 else min v (n:ag))=(((if v<0 then (v+(n:ag)).toNat else min v.toNat n):al):ag);by_cases hv:v<0
 .simp only[qX hv];omega
 .simp only[qY hv];omega
theorem O4 (lo hi:ar ag) (n:al):EJ lo hi 1 (n:ag)=(((sIx n 0 lo:al):ag),((sIx n n hi:al):ag)):=by
 have h1:¬((1:ag)<0):=by omega
 unfold EJ;simp only[h1,c4];refine Prod.ext ?_ ?_
 .cases lo with
  |none=>rfl
  |some v=>exact AG v n 0
 .cases hi with
  |none=>rfl
  |some v=>exact AG v n n
theorem Gw (i j:al):yO (i:ag) (j:ag) 1=j-i:=by
 unfold yO;have h1:(1:ag) > 0:=by omega
 simp only[h1,cA,Int.ediv_one];split<;>omega
theorem Ag {v:Value} {o:ar ag} {Q:ar ag->aI->Prop} (p:m6 v o) (h:Q o s):aM .(Q) A (Tf v) Q E s:=by
 cases p with
 |none=>exact QN h
 |int i t=>exact slicePart_int h
theorem IX {lo:ar ag} {Q:ag×ag×al->aI->Prop} (hs:s.heap.IsSliceOf sl vl vu .none) (pl:m6 vl lo) (pu:m6 vu hi)
  (h:Q (((sIx n 0 lo:al):ag),1,sIx n n hi-sIx n 0 lo) s):aM .(Q) A (QO (.ref sl) (bB (n:ag))) Q E s:=by
 obtain⟨os,hos,hcs,hds⟩:=id hs;unfold QO Tg;refine qx (qx (EK hos hds (x:=vl) rfl (qx (EK hos hds (x:=vu) rfl (qx (EK hos hds (x:=.none) rfl (qz ?_)))))));refine qx (QN ?_);show aM _ _ (if ((1:ag)==0)=ai then _ else _) _ _ s;rw[qY .(g)];refine qx (Ag pl (qx (Ag pu (qx (qz ?_)))));show aM _ _ (match EJ lo hi 1 (n:ag) with|(lo,hi)=>bB (lo,(1:ag),yO lo hi 1)) _ _ s;rw[O4 lo hi n];show aM _ _ (bB (((sIx n 0 lo:al):ag),(1:ag),yO ((sIx n 0 lo:al):ag) ((sIx n n hi:al):ag) 1)) _ _ s;rw[Gw];exact qz h
theorem LM (xs:bR Value) (i k:al):((cP k).filterMap fun(m:al)=>xs[((i:ag)+(m:ag)*1).toNat]?).toArray=((xs.toList.drop i).take k).toArray:=by
 have e:(fun(m:al)=>xs[((i:ag)+(m:ag)*1).toNat]?)=fun m=>xs[i+m]?:=by
  funext m
  have:((i:ag)+(m:ag)*1).toNat=i+m:=by omega
  rw[this]
 rw[e];have:=yP xs i k;rw[List.filterMap_map] at this;have e2:((fun x=>xs[x]?) ∘ fun x=>i+x)=fun m=>xs[i+m]?:=rfl;rw[e2] at this;rw[this]
theorem getItem_tuple_cut {t:aw} {lo:ar ag} (ht:IsTup s.heap t items) (hs:s.heap.IsSliceOf sl vl vu .none) (pl:m6 vl lo) (pu:m6 vu hi)
  (hw:¬(sIx items.size 0 lo=0/\sIx items.size items.size hi=items.size))
  (h:Q (.ref s.heap.objs.size) {s with heap:=s.heap.push {cls:=.type "tuple",data:=.seq ((items.toList.drop (sIx items.size 0 lo)).take (sIx items.size items.size hi-sIx items.size 0 lo)).toArray} })
  (hsz:items.size<=aV):aM .(Q) A (m8 (.ref t) (.ref sl)) Q E s:=by
 have htake:sizeOk (.seq ((items.toList.drop (sIx items.size 0 lo)).take (sIx items.size items.size hi-sIx items.size 0 lo)).toArray):=by show((items.toList.drop (sIx items.size 0 lo)).take (sIx items.size items.size hi-sIx items.size 0 lo)).toArray.size<=aV;rw[qA,qD,ja,fJ];omega
 have hj:sIx items.size items.size hi<=items.size:=Ph _ _ (qw _) hi;obtain⟨os,hos,hcs,hds⟩:=id hs;have hTs:s.TypeIs (.ref sl) "slice":=⟨os,hos,hcs⟩;unfold m8
 try with_reducible refine iz ?_
 first|refine qx (qz ?_)|skip
 refine qx (wpAny_sequenceKey ht.typeIs .(g) ?_);refine qx (EL (name:=yQ "__getitem__") ht.typeIs EM
  (rD EM ht.typeIs entry_tuple_getitem ?_ (args_tuple_getitem _ _)))
 show aM _ _ (Th (.ref t) >>= _) _ _ s;refine qx (tupleItemsOf_ ht ?_);refine qx (rE hTs ?_);rw[qX .(g)];refine qx (IX hs pl pu ?_);have hno:¬((((sIx items.size 0 lo:al):ag)==0 && (1:ag)==1 && (sIx items.size items.size hi-sIx items.size 0 lo)==items.size)=ai):=by intro q;rw[gI,gI] at q;have q1:((sIx items.size 0 lo:al):ag)=0:=eq_of_beq q.1.1;have q2:sIx items.size items.size hi-sIx items.size 0 lo=items.size:=eq_of_beq q.2;exact hw ⟨by omega,by omega⟩
 show aM _ _ (if (((sIx items.size 0 lo:al):ag)==0 && (1:ag)==1 && (sIx items.size items.size hi-sIx items.size 0 lo)==items.size)=ai then _ else _) _ _ s;rw[qY hno,LM]
 first
  |exact qx (m:=yR _) (lQ (qz ⟨_,rfl,qz h⟩) htake)
  |exact qx (m:=yR _) (lQ (qx (qz (qz ⟨_,rfl,qz h⟩))) htake)
  |exact qx (qx (m:=yR _) (lQ (qz (qz ⟨_,rfl,qz h⟩)) htake))
  |exact qx (qx (m:=yR _) (lQ (qz ⟨_,rfl,qz h⟩) htake))
end
end HT
noncomputable abbrev TO:=St->Hp->(ar ag->Hp->Prop)->Prop
noncomputable def PO (X:Cx) (e:ar Expr) (t:TO):Prop:=
 ∀(pins:ac (aw×bd)) (s:aI) (σ:St) (H:Hp) (Q:ar ag->Hp->Prop),Inv X pins σ H s->t σ H Q->
  aM .(q) X.A (evalPart e X.env) (fun u s'=>∃o H',Inv X pins σ H' s'/\m6 u o/\Q o H') X.xe s
noncomputable def OU:TO:=fun _ H Q=>Q ab H
noncomputable def Na (t:TE):TO:=fun σ H Q=>t σ H fun x H1=>∃i,x=.int i/\Q (aa i) H1
theorem Gm {ns:ac ag} :∀{us:ac Value},bK (ns.map V.int) us->jb us ns:=by
 induction ns with
 |nil=>intro us r;rw[qN] at r;cases r;exact .nil
 |cons n ns ih=>
  intro us r;rw[qo] at r;cases r with
  |cons r1 r2=>
   obtain⟨t,e⟩:=r1;subst e;exact .cons n t (ih r2)
variable {p2:dq}
section
variable {lo hi:ar Expr} {tl th:TO}
theorem Hj:PO X ab OU:=by intro pins s σ H Q I h;rw[evalPart_none];exact qz ⟨ab,H,I,.none,h⟩
theorem No (h:PE X e te):PO X (aa e) (Na te):=by intro pins s σ H Q I hw;rw[evalPart_some];refine thn (h pins s σ H _ I hw) fun u s1 ⟨x,H1,I1,r1,q1⟩=>?_;obtain⟨i,rfl,q⟩:=q1;obtain⟨t,rfl⟩:=r1;exact⟨aa i,H1,I1,.int i t,q⟩
noncomputable def SlR (X:Cx) (r:V->ar ag->ar ag->Hp->VK->Prop):Prop:=
 ∀(pins:ac (aw×bd)) (s:aI) (σ:St) (H:Hp) (x:V) (v vl vu:Value) (lo hi:ar ag) (sl:aw) (Q:VK),Inv X pins σ H s->bx x v->s.heap.IsSliceOf sl vl vu .none->m6 vl lo->m6 vu hi->r x lo hi H Q->
  ∃T id,uU (.type T) "__getitem__"=bB (aa (.builtin id))/\s.TypeIs v T/\aM .(q) X.A (m8 v (.ref sl)) (EP X pins σ Q) X.xe s
theorem SlR.or {r r':V->ar ag->ar ag->Hp->VK->Prop} (h:SlR X r) (h':SlR X r'):SlR X (fun x lo hi H Q=>r x lo hi H Q\/r' x lo hi H Q):=by
 intro pins s σ H x v vl vu lo hi sl Q I rx hs pl pu q;rcases q with q|q
 .exact h pins s σ H x v vl vu lo hi sl Q I rx hs pl pu q
 .exact h' pins s σ H x v vl vu lo hi sl Q I rx hs pl pu q
noncomputable def tSl (r:V->ar ag->ar ag->Hp->VK->Prop) (te:TE) (tl th:TO):TE:=fun σ H Q=>te σ H fun x H1=>tl σ H1 fun l H2=>th σ H2 fun u H3=>r x l u H3 Q
theorem F8 {r:V->ar ag->ar ag->Hp->VK->Prop} (hr:SlR X r) (he:PE X e te) (hl:PO X lo tl) (hu:PO X hi th):PE X (.Subscript e (.Slice lo hi ab p2) pos) (tSl r te tl th):=by intro pins s σ H Q I h;refine EN (thn (he pins s σ H _ I h) fun v s1 ⟨x,H1,I1,r1,q1⟩=>?_);refine wpAny_Slice (thn (hl pins s1 σ H1 _ I1 q1) fun vl s2 ⟨l,H2,I2,pl,q2⟩=>thn (hu pins s2 σ H2 _ I2 q2) fun vu s3 ⟨u,H3,I3,pu,q3⟩=>?_);rw[evalPart_none];refine qz ?_;have I4:Inv X pins σ H3 {s3 with heap:=s3.heap.push {cls:=.type "slice",data:=.fields #[vl,vu,.none]} }:=I3.kept (t':=s3.toks) fun b ob q=>qu _ q;obtain⟨T,id,hT,ht,hg⟩:=hr pins {s3 with heap:=s3.heap.push {cls:=.type "slice",data:=.fields #[vl,vu,.none]} } σ H3 x v vl vu l u s3.heap.objs.size Q I4 r1 (Ti ..) pl pu q3;show aM .(q) X.A (EO e (.Slice lo hi ab p2) v (.ref s3.heap.objs.size)) (EP X pins σ Q) X.xe {s3 with heap:=s3.heap.push {cls:=.type "slice",data:=.fields #[vl,vu,.none]} };exact tail_any (ops:=[.ref s3.heap.objs.size,v]) ht hT hg (by with_unfolding_all rfl)
noncomputable def kR (xs:ac V) (lo hi:ar ag):ac V:=(xs.drop (HT.sIx xs.length 0 lo)).take (HT.sIx xs.length xs.length hi-HT.sIx xs.length 0 lo)
theorem BZ (xs:ac V) (lo hi:ar ag):(kR xs lo hi).length<=xs.length:=by unfold kR;rw[qD,ja];omega
noncomputable def N2 (K:bi):V->ar ag->ar ag->Hp->VK->Prop:=fun x lo hi H Q=>∃a xs,x=.ref a/\SqT K H a xs /\
 ¬(HT.sIx xs.length 0 lo=0/\HT.sIx xs.length xs.length hi=xs.length)/\∀p,H p=ab->Q (.ref p) (upd H p (.tup (kR xs lo hi)))
theorem IC:SlR X (N2 X.K):=by
 intro pins s σ H x v vl vu lo hi sl Q I rx hs pl pu h;obtain⟨a,xs,rfl,hx,hw,q⟩:=h;cases rx;obtain⟨its,r,ht,hz⟩:=I.tuple hx;have hlen:its.toArray.size=xs.length:=by rw[qA];exact r.length.symm
 refine⟨"tuple",_,EM.lookup,ht.typeIs,?_⟩;refine HT.getItem_tuple_cut ht hs pl pu (by rw[hlen];exact hw) ?_ (by rw[hlen];exact hz);rw[hlen];refine⟨.ref s.heap.objs.size,_,I.laid (t':=s.toks) (o:=.tup (kR xs lo hi)) (fun b ob q=>qu _ q) (qw _) ?_,rfl,q _ (I.hok.fresh (qw _))⟩;exact⟨qL (BZ xs lo hi) hz,_,(r.drop (HT.sIx xs.length 0 lo)).take (HT.sIx xs.length xs.length hi-HT.sIx xs.length 0 lo),Ex _ _⟩
end
noncomputable def ixN (n:al) (i:ag):ar al:=if 0<=i then (if i<n then aa i.toNat else ab) else if -(n:ag)<=i then aa (i+n).toNat else ab
noncomputable def atI (xs:ac α) (i:ag):ar α:=(ixN xs.length i).bind fun j=>xs[j]?
theorem NH {i:ag} (h:ixN n i=aa j):seqIndex? i n=aa j/\j<n /\ -(n:ag)<=i/\i<n:=by
 unfold ixN at h;by_cases h0:0<=i
 .rw[qX h0] at h;by_cases h1:i<n
  .rw[qX h1] at h;have e:i.toNat=j:=qG h;exact⟨by rw[seqIndex_of h0 h1,e],by omega,by omega,h1⟩
  .rw[qY h1] at h;cases h
 .rw[qY h0] at h;by_cases h1 : -(n:ag)<=i
  .rw[qX h1] at h;have e:(i+n).toNat=j:=qG h;exact⟨by rw[seqIndex_neg .(f) h1,e],by omega,h1,by omega⟩
  .rw[qY h1] at h;cases h
theorem wR {xs:ac α} {i:ag} {v:α} (h:atI xs i=aa v):∃j,seqIndex? i xs.length=aa j/\xs[j]?=aa v/\j<xs.length /\ -(xs.length:ag)<=i/\i<xs.length:=by
 unfold atI at h;cases e:ixN xs.length i with
 |none=>rw[e] at h;cases h
 |some j=>
  rw[e] at h;obtain⟨h1,h2,h3,h4⟩:=NH e;exact⟨j,h1,h,h2,h3,h4⟩
theorem lz {xs:ac α} {v:α} (h:xs[j]?=aa v):atI xs (j:ag)=aa v:=by
 have hj:j<xs.length:=(cX.mp h).1;have e:ixN xs.length (j:ag)=aa j:=by unfold ixN;rw[qX .(f),qX .(f)];simp
 unfold atI;rw[e];exact h
noncomputable def AB (b:Expr):Prop:=∀o i,yS b aq o i=operate [o,i] (m8 o i)
noncomputable def IxR (X:Cx) (r:R2):Prop:=
 ∀(value slice:Expr) (pins:ac (aw×bd)) (s:aI) (σ:St) (H:Hp) (x y:V) (v u:Value) (Q:VK),Inv X pins σ H s->bx x v->bx y u->r x y H Q->
  yS slice aq v u=operate [v,u] (m8 v u)->aM .(q) X.A (EO value slice v u) (EP X pins σ Q) X.xe s
noncomputable def MtR (X:Cx) (id:c9) (r:V->ac V->Hp->VK->Prop):Prop:=
 ∀(pins:ac (aw×bd)) (s:aI) (σ:St) (H:Hp) (x:V) (xs:ac V) (v:Value) (us:ac Value) (Q:VK),Inv X pins σ H s->bx x v->bK xs us->r x xs H Q->
  aM .(q) X.A (call (.builtin id) (v::us)) (EP X pins σ Q) X.xe s
variable {to:TE} {cpos:dq}
section
variable {a:Expr} {tb:TE}
theorem IxR.or (h:IxR X r) (h':IxR X r'):IxR X (fun x y H Q=>r x y H Q\/r' x y H Q):=by
 intro value slice pins s σ H x y v u Q I rx ry q hs;rcases q with q|q
 .exact h value slice pins s σ H x y v u Q I rx ry q hs
 .exact h' value slice pins s σ H x y v u Q I rx ry q hs
theorem J0 (hr:IxR X r) (ha:PE X a ta) (hb:PE X b tb) (hs:AB b):PE X (.Subscript a b pos) (tOp r ta tb):=by intro pins s σ H Q I h;exact EN (wB ha hb I h fun v u s2 x y H2 I2 rx ry q=>hr a b pins s2 σ H2 x y v u Q I2 rx ry q (hs _ _))
noncomputable def Ea (K:bi):R2:=fun x y H Q=>∃p xs i v,x=.ref p/\y=.int i/\SqL K H p xs/\atI xs i=aa v/\Q v H
noncomputable def zL (K:bi):R2:=fun x y H Q=>∃p xs i v,x=.ref p/\y=.int i/\SqT K H p xs/\atI xs i=aa v/\Q v H
noncomputable def Ei:R2:=fun x y H Q=>∃z i c,x=.str z/\y=.int i/\z.length<=aV/\atI z.cps.toList i=aa c/\Q (.str ⟨#[c]⟩) H
theorem Ki:IxR X (Ea X.K):=by
 intro value slice pins s σ H x y v u Q I rx ry h hs;obtain⟨p,xs,i,z,rfl,rfl,hq,he,q⟩:=h;cases rx;obtain⟨t,rfl⟩:=ry;obtain⟨its,r,pl,hz⟩:=I.list hq;obtain⟨j,h1,h2,h3,h4,h5⟩:=wR he;obtain⟨w,ew,rw'⟩:=r.get h2;have hl:=r.length;have hn:=uc;have fin:EP X pins σ Q w s:=⟨z,H,I,rw',q⟩;by_cases h0:0<=i
 .have hj:i.toNat=j:=by rw[seqIndex_of h0 h5] at h1;exact qG h1
  exact item_listR pl.isList h0 .(f) (by rw[hj];simpa using ew) fin hs
 .have hj:(i+(its.toArray.size:ag)).toNat=j:=by rw[seqIndex_neg .(f) h4] at h1;rw[qA,←hl];exact qG h1
  exact QP (x:=w) pl.isList.typeIs QQ.lookup
   (wpAny_getItem_list_neg (Q:=fun r s'=>r=w/\EP X pins σ Q r s') pl.isList .(f) (by rw[qA]<;>omega) .(f) (by rw[hj];simpa using ew) ⟨rfl,fin⟩) hs
theorem LD:IxR X (zL X.K):=by
 intro value slice pins s σ H x y v u Q I rx ry h hs;obtain⟨p,xs,i,z,rfl,rfl,hq,he,q⟩:=h;cases rx;obtain⟨t,rfl⟩:=ry;obtain⟨its,r,pl,hz⟩:=I.tuple hq;obtain⟨j,h1,h2,h3,h4,h5⟩:=wR he;obtain⟨w,ew,rw'⟩:=r.get h2;have hl:=r.length;have hn:=uc;have fin:EP X pins σ Q w s:=⟨z,H,I,rw',q⟩;exact QP (x:=w) pl.typeIs slot_tuple_getitem.lookup
  (getItem_tuple (j:=j) (Q:=fun r s'=>r=w/\EP X pins σ Q r s') pl .(f) .(f) (by rw[qA,←hl];exact h1) (by simpa using ew) ⟨rfl,fin⟩) hs
theorem MH:IxR X Ei:=by
 intro value slice pins s σ H x y v u Q I rx ry h hs;obtain⟨z,i,c,rfl,rfl,hz,he,q⟩:=h;obtain⟨t,rfl⟩:=rx;obtain⟨t',rfl⟩:=ry;obtain⟨j,h1,h2,h3,h4,h5⟩:=wR he;have hl:z.cps.toList.length=z.length:=by simp[rF]
 rw[hl] at h1 h4 h5;have hn:=uc;exact tail_any (uV s z t) slot_str_getitem.lookup (getItem_str (c:=c) (by have e1:decide (i < -(2 ^ 63:ag))=aq:=qM .(f);have e2:decide (i ≥ 2 ^ 63)=aq:=qM .(f);rw[e1,e2,Bool.or_false]) (by rw[h1];simpa using h2) ⟨.str ⟨#[c]⟩,H,I.tok _,⟨_,rfl⟩,q⟩) hs
noncomputable def rIx (K:bi):R2:=fun x y H Q=>Ea K x y H Q\/zL K x y H Q\/Ei x y H Q
theorem Nt:IxR X (rIx X.K):=Ki.or (LD.or MH)
theorem Inv.lst {p:aw} {xs:ac V} (I:Inv X pins σ H s) (h:H p=aa (.lst xs)) :
  ∃(its:ac Value) (n:al),bK xs its/\s.heap.get? p=aa {cls:=.type "list",data:=.seq its.toArray n}/\xs.length<=aV:=by
 obtain⟨z,its,n,r,e⟩:=I.hok p _ h;exact⟨its,n,r,e,z⟩
theorem Ng (lo hi:ar ag) (n:al):(oK lo hi ab n).1=((HT.sIx n 0 lo:al):ag)/\(oK lo hi ab n).2.1=((HT.sIx n n hi:al):ag)/\(oK lo hi ab n).2.2=1:=by
 refine⟨?_,?_,rfl⟩
 .cases lo with
  |none=>simp[oK,HT.sIx]
  |some i=>
   simp only[oK,HT.sIx,QR,show(1:ag) > 0 by decide,cA];by_cases h:i<0
   .simp only[h,cA]<;>omega
   .simp only[h,c4]<;>omega
 .cases hi with
  |none=>simp[oK,HT.sIx]
  |some i=>
   simp only[oK,HT.sIx,QR,show(1:ag) > 0 by decide,cA];by_cases h:i<0
   .simp only[h,cA]<;>omega
   .simp only[h,c4]<;>omega
theorem PY (its:ac Value) (lo hi:ar ag):slicePick its.toArray lo hi ab=((its.drop (HT.sIx its.length 0 lo)).take (HT.sIx its.length its.length hi-HT.sIx its.length 0 lo)).toArray:=by obtain⟨h1,h2,h3⟩:=Ng lo hi its.toArray.size;unfold slicePick;rw[h1,h2,h3];simp only[QS,yP,qA]<;>rfl
noncomputable def Mc (K:bi):V->ar ag->ar ag->Hp->VK->Prop:=fun x lo hi H Q=>∃a xs,x=.ref a/\SqL K H a xs/\∀p,H p=ab->Q (.ref p) (upd H p (.lst (kR xs lo hi)))
theorem Pv:SlR X (Mc X.K):=by intro pins s σ H x v vl vu lo hi sl Q I rx hs pl pu h;obtain⟨a,xs,rfl,hx,q⟩:=h;cases rx;obtain⟨its,r,ht,hz⟩:=I.list hx;have hlen:=r.length;refine⟨"list",_,QQ.lookup,ht.isList.typeIs,?_⟩;refine wpAny_getItem_list_slice ht.isList hs pl pu .none (by simp) ?_ (by rw[qA]<;>omega);rw[PY,←hlen];refine⟨.ref s.heap.objs.size,_,I.laid (t':=s.toks) (o:=.lst (kR xs lo hi)) (fun b ob q=>qu _ q) (qw _) ?_,rfl,q _ (I.hok.fresh (qw _))⟩;exact⟨qL (BZ xs lo hi) hz,_,0,(r.drop (HT.sIx xs.length 0 lo)).take (HT.sIx xs.length xs.length hi-HT.sIx xs.length 0 lo),qF _ rfl⟩
theorem ML:dB X (.type "tuple") (fun xs H Q=>∃p ys,xs=[.ref p]/\((SqL X.K H p ys/\∀l,H l=ab->Q (.ref l) (upd H l (.tup ys)))\/(SqT X.K H p ys/\Q (.ref p) H))):=by
 intro pins s σ H xs us Q I r h;obtain⟨p,ys,rfl,h⟩:=h;obtain⟨u,rfl,rx⟩:=dY r;cases rx;rcases h with⟨hq,q⟩|⟨hq,q⟩
 .obtain⟨its,r',pl,hz⟩:=I.list hq;have hlen:=r'.length;refine call_tuple_list pl.isList (fun h' kp=>?_) (by simp only[qA]<;>omega);have I1:Inv X pins σ H {s with heap:=h'}:=I.kept (t':=s.toks) kp;have I2:Inv X pins σ (upd H h'.objs.size (.tup ys)) {s with heap:=h'.push {cls:=.type "tuple",data:=.seq its.toArray} } :=
   I1.laid (t':=s.toks) (fun b o e=>qu _ e) (qw _) (show cV X.prog X.w _ _ _ (.tup ys) from⟨hz,its,r',Ex _ _⟩)
  exact⟨.ref h'.objs.size,_,I2,rfl,q _ (I1.hok.fresh (qw _))⟩
 .obtain⟨its,r',pl,hz⟩:=I.tuple hq;exact call_tuple_same pl ⟨.ref p,H,I,rfl,q⟩
noncomputable def tyV (K:bi) (T:c9) (x:V) (H:Hp):Prop:=match x with
 |.str _=>T="str"
 |.int _=>T="int"
 |.ref p=>(T="list"/\∃xs,SqL K H p xs)\/(T="tuple"/\∃o,K.lookup p=aa o/\o.cls=.type "tuple"/\o.dict=ab) \/
   (T="dict"/\((∃kvs,H p=aa (.dK kvs))\/∃kvs,H p=aa (.dT kvs)))\/(T="set"/\∃S n,H p=aa (.set S n))
 |_=>False
theorem Gf {x:V} {v:Value} (I:Inv X pins σ H s) (r:bx x v) (ty:tyV X.K T x H) :
  s.TypeIs v T/\∀a,v=.ref a->∃ob,s.heap.get? a=aa ob/\ob.dict=ab:=by
 cases x with
 |str z=>
  obtain⟨t,rfl⟩:=r;cases(show T="str" from ty);exact⟨uV s z t,fun _ e=>nomatch e⟩
 |int i=>
  obtain⟨t,rfl⟩:=r;cases(show T="int" from ty);exact⟨EQ s i t,fun _ e=>nomatch e⟩
 |ref p=>
  cases r;rcases ty with⟨rfl,xs,hq⟩|⟨rfl,o,hk,hc,hd⟩|⟨rfl,hk⟩|⟨rfl,S,n,hk⟩
  .obtain⟨its,_,pl,_⟩:=I.list hq;refine⟨pl.isList.typeIs,fun a e=>?_⟩;cases e;obtain⟨o,n,e,c,hd,_⟩:=pl;exact⟨o,e,hd⟩
  .refine⟨⟨o,I.kIn p o hk,hc⟩,fun a e=>?_⟩;cases e;exact⟨o,I.kIn _ o hk,hd⟩
  .have z:∃o,s.heap.get? p=aa o/\o.ExactDict:=by
    rcases hk with⟨kvs,hk⟩|⟨kvs,hk⟩
    .obtain⟨_,_,_,_,o,_,_,e,ex,_⟩:=I.hok p _ hk;exact⟨o,e,ex⟩
    .obtain⟨_,_,_,_,o,_,_,e,ex,_⟩:=I.hok p _ hk;exact⟨o,e,ex⟩
   obtain⟨o,e,ex⟩:=z;refine⟨⟨o,e,ex.1⟩,fun a e2=>?_⟩;cases e2;exact⟨o,e,ex.2.1⟩
  .obtain⟨o,_,_,_,e,ex,_⟩:=I.hok p _ hk;refine⟨⟨o,e,ex.1⟩,fun a e2=>?_⟩;cases e2;exact⟨o,e,ex.2.1⟩
 |_=>exact ir ty
noncomputable def tBM (K:bi) (T:c9) (r:V->ac V->Hp->VK->Prop) (to:TE) (t:TA):TE:=fun σ H Q=>to σ H fun x H1=>tyV K T x H1/\t σ H1 fun xs H2=>r x xs H2 Q
variable {t:TA} {id:c9} {r:V->ac V->Hp->VK->Prop}
theorem wC (pa:PlainAttrs T) (slot:Slot T name id) (hty:typeOf (.builtin id)=bB (.type "method_descriptor")) (hm:MtR X id r) (ho:PE X o to) (ha:PA X (e::es) t)
  (hbase:gx o name X.env (eval o X.env)=eval o X.env:=by rfl)
  (hfew:((cC cpos (a6 (e::es) X.env)).all (fun x=>!x.1) && (i8 cpos (i9 [] X.env)).all (fun x=>x.1.isSome)
   && decide ((e::es).length+([]:ac jc).length+(if ([]:ac jc).isEmpty then 0 else 1)<30))=ai:=by rfl)
  (hline:(apos.endLine==cpos.line)=ai:=by rfl) (hs:a6 (e::es) X.env=(aq,eval e X.env)::a6 es X.env:=by rfl) (hplain:(cC cpos (a6 es X.env)).any (·.1)=aq:=by rfl) :
  PE X (.Call (.Attribute o name apos) (e::es) [] cpos) (tBM X.K T r to t):=by
 intro pins s σ H Q I h;refine wpAny_Call_method_late hbase hfew hline rfl (thn (ho pins s σ H _ I h) fun v s1 ⟨x,H1,I1,r1,ty,q1⟩=>?_);obtain⟨h1,h2⟩:=Gf I1 r1 ty;refine⟨T,id,pa,slot,hty,h1,h2,?_⟩;have hA:=ha cpos pins s1 σ H1 _ I1 q1;rw[hs] at hA ⊢;refine uW (by show(aq || (cC cpos (a6 es X.env)).any (·.1))=aq;rw[hplain]<;>rfl) (yT ?_);exact thn hA fun us s2 ⟨vs,H2,I2,r2,q2⟩=>hm pins s2 σ H2 x vs v us Q I2 r1 r2 q2
end
noncomputable def MtM (X:Cx) (id:c9) (r:V->ac V->Hp->VK->Prop):Prop:=
 ∀(pins:ac (aw×bd)) (s:aI) (σ:St) (H:Hp) (x:V) (xs:ac V) (v:Value) (us:ac Value) (Q:VK),Inv X pins σ H s->bx x v->bK xs us->r x xs H Q->
  aM .(q) X.A (call (.builtin id) (v::us)) (EP X pins σ Q) X.xe s
theorem bK.one:∀{x:V} {us:ac Value},bK [x] us->∃u,us=[u]/\bx x u
 |_,_,.cons r .nil=>⟨_,rfl,r⟩
theorem bK.rep {xs:ac V} {us:ac Value} (h:bK xs us):∀k:al,bK (ce k xs).flatten (ce k us).flatten
 |0=>.nil
 |k+1=>by rw[lW,lW,oM,oM];exact bK.append h (bK.rep h k)
theorem BM (its:ac Value):∀(k:al) (acc:ac Value),
  ER (fun x1 x2=>x1++x2) acc.toArray (ce k its.toArray)=(acc++(ce k its).flatten).toArray
 |0,acc=>by simp
 |k+1,acc=>by
  have e:acc.toArray++its.toArray=(acc++its).toArray:=by simp
  have e2:(acc++its)++(ce k its).flatten=acc++(ce (k+1) its).flatten:=by rw[lW,oM,oN]
  rw[←e2,←BM its k (acc++its),←e,lW,jd]
variable {its:ac Value}
section
variable {l b:aw} {xs zs:ac V}
theorem Inv.lset {its':ac Value} {f:bR Value->bR Value} (I:Inv X pins σ H s) (hH:H l=aa (.lst xs))
  (e:s.heap.get? l=aa {cls:=.type "list",data:=.seq its.toArray n}) (hf:f its.toArray=its'.toArray) (hv:bK ys its') (hz:ys.length<=aV) :
  Inv X pins σ (upd H l (.lst ys)) {s with heap:=s.heap.update l (QT f),toks:=t'}:=by
 have q:=PySem.IsL.update e f;rw[hf] at q;refine I.write (x:=l) (e:=l) (by rw[hH];exact trivial) (.inl rfl) (fun b' u hb hu=>(Heap.get?_update_other s.heap (QT f) (dF hb)).trans hu) ⟨_,q⟩ ?_;exact⟨hz,its',_,hv,q⟩
theorem Inv.lnew (I:Inv X pins σ H s) (hv:bK ys its) (hz:ys.length<=aV) :
  Inv X pins σ (upd H s.heap.objs.size (.lst ys)) {s with heap:=s.heap.push {cls:=.type "list",data:=.seq its.toArray},toks:=t'} :=
 I.laid (fun _ _ q=>qu _ q) (qw _) ⟨hz,its,0,hv,qF _ rfl⟩
theorem Inv.fresh (I:Inv X pins σ H s):H s.heap.objs.size=ab:=I.hok.fresh (qw _)
theorem Inv.lstM (I:Inv X pins σ H s) (hH:H l=aa (.lst xs)):xs.length<=aV/\∃(its:ac Value) (n:al),bK xs its/\xs.length=its.length/\s.heap.get? l=aa {cls:=.type "list",data:=.seq its.toArray n}:=by obtain⟨z,its,n,r,e⟩:=I.hok l _ hH;exact⟨z,its,n,r,r.length,e⟩
theorem Dj (h:n<=aV):yU n=aq:=by unfold yU;exact qM .(f)
end
noncomputable def Mo:V->ac V->Hp->VK->Prop:=fun x vs H Q=>∃l xs y,x=.ref l/\vs=[y]/\H l=aa (.lst xs)/\xs.length<aV/\Q .non (upd H l (.lst (xs++[y])))
theorem Bh:MtM X "list.append" Mo:=by intro pins s σ H x vs v us Q I rx rv h;obtain⟨l,xs,y,rfl,rfl,hH,hz,q⟩:=h;cases rx;obtain⟨u,rfl,ru⟩:=rv.one;obtain⟨z,its,n,r,hl,e⟩:=I.lstM hH;refine uX QU ⟨_,e,rfl⟩ F.entry_list_append (F.args_list_append_2 _ _) (PySem.list_append l its.toArray n u (by rw[qA];omega)) ⟨e,?_⟩;refine⟨.non,_,I.lset (its':=its++[u]) hH e (by simp) (r.append (.cons ru .nil)) ?_,rfl,q⟩;rw[qk,qU];omega
noncomputable def Mu:V->ac V->Hp->VK->Prop:=fun x vs H Q=>∃l b xs zs,x=.ref l/\vs=[.ref b]/\H l=aa (.lst xs)/\H b=aa (.lst zs)/\xs.length+zs.length<=aV/\Q .non (upd H l (.lst (xs++zs)))
theorem Mn:MtM X "list.extend" Mu:=by
 intro pins s σ H x vs v us Q I rx rv h;obtain⟨l,b,xs,zs,rfl,rfl,hH,hB,hz,q⟩:=h;cases rx;obtain⟨u,rfl,ru⟩:=rv.one;cases ru;obtain⟨z,its,n,r,hl,e⟩:=I.lstM hH;obtain⟨z2,its2,n2,r2,hl2,e2⟩:=I.lstM hB;have hsz:its.toArray.size+its2.toArray.size<=aV:=by rw[qA,qA];omega
 have hlong:¬(!its.toArray.isEmpty && yU (its.toArray.size+its2.toArray.size))=ai:=by rw[Dj hsz,uY];exact qt
 refine uX QV ⟨_,e,rfl⟩ F.entry_list_extend (F.args_list_extend_2 _ _)
  (AutoSeq1.list_extend_list_list_0 l its.toArray n b its2.toArray n2 hlong (by rw[qA];omega) .(f)) ⟨e,e2,?_⟩
 refine⟨.non,_,I.lset (its':=its++its2) hH e (by simp) (r.append r2) ?_,rfl,q⟩;rw[qk];omega
noncomputable def vO:R2:=fun x y H Q=>∃l b xs zs,x=.ref l/\y=.ref b/\H l=aa (.lst xs)/\H b=aa (.lst zs)/\xs.length+zs.length<=aV/\∀p,H p=ab->Q (.ref p) (upd H p (.lst (xs++zs)))
theorem Pk:OpR X (i6 .Add) vO:=by
 intro pins s σ H x y v u Q I rx ry h;obtain⟨l,b,xs,zs,rfl,rfl,hH,hB,hz,q⟩:=h;cases rx;cases ry;obtain⟨z,its,n,r,hl,e⟩:=I.lstM hH;obtain⟨z2,its2,n2,r2,hl2,e2⟩:=I.lstM hB;refine PySem.P.add_list e e2 ?_ (by rw[qA,qA];omega);have ea:its.toArray++its2.toArray=(its++its2).toArray:=by simp
 rw[ea];exact⟨.ref _,_,I.lnew (t':=s.toks) (r.append r2) (by rw[qk];omega),rfl,q _ I.fresh⟩
noncomputable def B5:R2:=fun x y H Q=>∃l k xs,x=.ref l/\y=.int k/\H l=aa (.lst xs) /\ -(2 ^ 63)<=k/\k<2 ^ 63/\xs.length*k.toNat<=aV /\
 ∀p,H p=ab->Q (.ref p) (upd H p (.lst (ce k.toNat xs).flatten))
theorem Cd (xs:ac α) (k:al):(ce k xs).flatten.length=k*xs.length:=by
 induction k with
 |zero=>simp
 |succ k ih=>rw[lW,oM,qk,ih,yV,Nat.add_comm]
theorem HA:OpR X (i6 .Mult) B5:=by
 intro pins s σ H x y v u Q I rx ry h;obtain⟨l,k,xs,rfl,rfl,hH,h1,h2,hz,q⟩:=h;cases rx;obtain⟨t,rfl⟩:=ry;obtain⟨z,its,n,r,hl,e⟩:=I.lstM hH;have hlen:its.toArray.size*k.toNat<=aV:=by rw[qA,←hl];exact hz
 have hcap:¬its.toArray.size*k.toNat > (2 ^ 63-1) / 8:=by
  have:(aV:al)<=(2 ^ 63-1) / 8:=by decide
  omega
 have hfit:¬(!Tj k)=ai:=by rw[fitsIndex_both h1 h2];exact qt
 have hlong:¬yU (its.toArray.size*k.toNat)=ai:=by rw[Dj hlen];exact qt
 have hnew:ER (fun x1 x2=>x1++x2) #[] (ce (if its.toArray.isEmpty=ai then 0 else k.toNat) its.toArray)=(ce k.toNat its).flatten.toArray:=by
  have f0:∀m:al,ER (fun x1 x2=>x1++x2) #[] (ce m its.toArray)=(ce m its).flatten.toArray:=fun m=>by have:=BM its m [];rw[qQ] at this;exact this
  rw[f0];cases its with
  |nil=>simp
  |cons a r'=>rw[qY (by simp)]
 refine wpAny_binaryOp_repeat_ref (T:="list") (U:="int") .(g) ⟨_,e,rfl⟩ (fun s'=>EQ s' k t) noFill_list_mul F.fills_int_mul QW repeat_list F.slot_int_index.lookup
  (uX QW (EQ s k t) F.entry_int_rmul (F.args_int_rmul_2 _ _) (int___rmul___int_list k t l its.toArray n)
   ⟨e,rfl,⟨_,e,rfl⟩,uX F.slot_list_mul ⟨_,e,rfl⟩ F.entry_list_mul (F.args_list_mul_2 _ _) (AutoListH.list___mul___list_int_3 l its.toArray n k t hfit hcap hlong) ⟨e,?_⟩⟩)
 rw[hnew];exact⟨.ref _,_,I.lnew (t':=s.toks) (r.rep k.toNat) (by rw[Cd,QX];exact hz),rfl,q _ I.fresh⟩
section
variable [er κ]
noncomputable def fH (kvs:ac (κ×V)) (k:κ):ar V:=(kvs.find? fun kv=>decide (kv.1=k)).map (·.2)
noncomputable def dR (kvs:ac (κ×V)) (k:κ) (v:V):ac (κ×V):=
 if (kvs.any fun kv=>decide (kv.1=k))=ai then kvs.map (fun kv=>if kv.1=k then (kv.1,v) else kv) else kvs++[(k,v)]
noncomputable def kq (kvs:ac (κ×V)) (k:κ):ac (κ×V):=kvs.filter fun kv=>decide (kv.1≠k)
theorem ti {p:κ×V} {r:ac (κ×V)} {k:κ} (e:p.1=k):fH (p::r) k=aa p.2:=by simp[fH,eC,e]
theorem tj {p:κ×V} {r:ac (κ×V)} {k:κ} (e:¬p.1=k):fH (p::r) k=fH r k:=by simp[fH,eC,e]
theorem Dt (k:κ):∀kvs:ac (κ×V),(kvs.any fun kv=>decide (kv.1=k))=(fH kvs k).isSome
 |[]=>rfl
 |p::r=>by
  rw[kF];by_cases e:p.1=k
  .simp only[ti e,qR e,Bool.true_or,Option.isSome_some]
  .rw[tj e,qM e,yW];exact Dt k r
theorem CM (kvs:ac (κ×V)) (k:κ) (v:V):(dR kvs k v).length<=kvs.length+1:=by
 unfold dR;split
 .rw[qg];omega
 .rw[qk,qj,qm];omega
theorem dU.isSome_eq {o:ar V} {u:ar Value} (r:dU o u):o.isSome=u.isSome:=by
 cases o with
 |none=>cases u with
  |none=>rfl
  |some _=>exact(show False from r).elim
 |some _=>cases u with
  |none=>exact(show False from r).elim
  |some _=>rfl
theorem dU.getD {o:ar V} {u:ar Value} {d:V} {d':Value} (r:dU o u) (rd:bx d d'):bx (o.getD d) (u.getD d'):=by
 cases o with
 |none=>cases u with
  |none=>exact rd
  |some _=>exact(show False from r).elim
 |some _=>cases u with
  |none=>exact(show False from r).elim
  |some _=>exact r
theorem KV.val {kvs:ac (κ×V)} {vs:ac (κ×Value)} (r:KV kvs vs) (k:κ):dU (fH kvs k) (m9 vs k):=by
 unfold KV at r
 induction r with
 |nil=>exact iw
 | @cons p q ps qs h t ih=>
  obtain⟨h1,h2⟩:=h;by_cases e:p.1=k
  .have e':q.1=k:=h1.symm.trans e;have b:m9 (q::qs) k=aa q.2:=by simp[m9,eC,e']
   rw[ti e,b];exact h2
  .have e':¬q.1=k:=fun z=>e (h1.trans z);have b:m9 (q::qs) k=m9 qs k:=by simp[m9,eC,e']
   rw[tj e,b];exact ih
theorem KV.any {kvs:ac (κ×V)} {vs:ac (κ×Value)} (r:KV kvs vs) (k:κ):(kvs.any fun kv=>decide (kv.1=k))=vs.any fun kv=>decide (kv.1=k):=by
 unfold KV at r
 induction r with
 |nil=>rfl
 |cons h t ih=>rw[kF,kF,ih,h.1]
theorem KV.repl {kvs:ac (κ×V)} {vs:ac (κ×Value)} (r:KV kvs vs) (k:κ) {y:V} (ry:bx y u) :
  KV (kvs.map fun kv=>if kv.1=k then (kv.1,y) else kv) (vs.map fun kv=>if kv.1=k then (kv.1,u) else kv):=by
 unfold KV at r ⊢
 induction r with
 |nil=>exact .nil
 | @cons p q ps qs h t ih=>
  rw[qo,qo];refine .cons ?_ ih;obtain⟨h1,h2⟩:=h;by_cases e:p.1=k
  .rw[qX e,qX (h1.symm.trans e)];exact⟨h1,ry⟩
  .rw[qY e,qY (fun z=>e (h1.trans z))];exact⟨h1,h2⟩
theorem KV.put {kvs:ac (κ×V)} {vs:ac (κ×Value)} (r:KV kvs vs) (k:κ) {y:V} (ry:bx y u):KV (dR kvs k y) (stored vs k u):=by
 unfold dR stored;rw[r.any k];by_cases e:(vs.any fun kv=>decide (kv.1=k))=ai
 .rw[qX e,qX e];exact r.repl k ry
 .rw[qY e,qY e];exact Paired.snoc r ⟨rfl,ry⟩
theorem KV.drop {kvs:ac (κ×V)} {vs:ac (κ×Value)} (r:KV kvs vs) (k:κ):KV (kq kvs k) (without vs k):=by
 unfold KV at r ⊢;unfold kq without
 induction r with
 |nil=>exact .nil
 | @cons p q ps qs h t ih=>
  obtain⟨h1,h2⟩:=h;rw[rG,rG];by_cases e:p.1=k
  .have a:¬decide (p.1≠k)=ai:=by simp[e]
   have b:¬decide (q.1≠k)=ai:=by simp[h1.symm.trans e]
   rw[qY a,qY b];exact ih
  .have e':¬q.1=k:=fun z=>e (h1.trans z);have a:decide (p.1≠k)=ai:=by simp[e]
   have b:decide (q.1≠k)=ai:=by simp[e']
   rw[qX a,qX b];exact .cons ⟨h1,h2⟩ ih
theorem KV.keys {kvs:ac (κ×V)} {vs:ac (κ×Value)} (r:KV kvs vs):kvs.map (·.1)=vs.map (·.1):=by
 unfold KV at r
 induction r with
 |nil=>rfl
 |cons h t ih=>rw[qo,qo,ih,h.1]
theorem KV.length {kvs:ac (κ×V)} {vs:ac (κ×Value)} (r:KV kvs vs):kvs.length=vs.length:=Paired.length r
theorem Ah (kvs:ac (κ×V)) (k:κ):(kq kvs k).length<=kvs.length:=na _ _
end
theorem iH {k:Key} (r:bx (kV k) u):(cr P w).is k u=ai:=by
 cases k with
 |inl i=>obtain⟨t,e⟩:=(show ∃t,u=cZ i t from r);subst e;exact Px P w i t
 |inr x=>obtain⟨t,e⟩:=(show ∃t,u=rj x t from r);subst e;exact LB P w x t
theorem AC {P:dy} {w:cS}:∀{ks:ac Key} {us:ac Value},bK (ks.map kV) us->ItemsAre (cr P w) ks us
 |[],_,r=>by rw[qN] at r;cases r;exact .nil
 |k::ks,_,r=>by
  rw[qo] at r;cases r with
  |cons h t=>exact .cons (iH h) (AC t)
noncomputable abbrev KT (H:Hp):ac (ac Key×V)->ac (ac Key×aw×Value)->Prop:=Paired fun p q=>p.1=q.1/\H q.2.1=aa (.tup (p.1.map kV))/\bx p.2 q.2.2
variable {kvs:ac (ac Key×V)}
theorem KT.val {xs:ac (ac Key×aw×Value)} (r:KT H kvs xs) (k:ac Key):dU (fH kvs k) ((lX xs k).map (·.2)):=by
 induction r with
 |nil=>exact iw
 | @cons p q ps qs h t ih=>
  obtain⟨h1,_,h2⟩:=h;by_cases e:p.1=k
  .have e':q.1=k:=h1.symm.trans e;have b:lX (q::qs) k=aa q.2:=by simp[lX,eC,e']
   rw[ti e,b];exact h2
  .have e':¬q.1=k:=fun z=>e (h1.trans z);have b:lX (q::qs) k=lX qs k:=by simp[lX,eC,e']
   rw[tj e,b];exact ih
theorem KT.repl {xs:ac (ac Key×aw×Value)} (r:KT H kvs xs) (k:ac Key) {y:V} (ry:bx y u) :
  KT H (kvs.map fun kv=>if kv.1=k then (kv.1,y) else kv) (xs.map (putAt k u)):=by
 induction r with
 |nil=>exact .nil
 | @cons p q ps qs h t ih=>
  rw[qo,qo];refine .cons ?_ ih;obtain⟨h1,h2,h3⟩:=h;unfold putAt;by_cases e:p.1=k
  .rw[qX e,qX (h1.symm.trans e)];exact⟨h1,h2,ry⟩
  .rw[qY e,qY (fun z=>e (h1.trans z))];exact⟨h1,h2,h3⟩
theorem KT.put {xs:ac (ac Key×aw×Value)} (r:KT H kvs xs) (k:ac Key) {b:aw} {y:V} (hb:H b=aa (.tup (k.map kV))) (ry:bx y u) :
  KT H (dR kvs k y) (storedH xs k b u):=by
 have e:(kvs.any fun kv=>decide (kv.1=k))=(lX xs k).isSome:=by rw[Dt,(r.val k).isSome_eq,nc]
 unfold dR storedH;rw[e];by_cases q:(lX xs k).isSome=ai
 .rw[qX q,qX q];exact r.repl k ry
 .rw[qY q,qY q];exact Paired.snoc r ⟨rfl,hb,ry⟩
theorem KT.keeps {xs:ac (ac Key×aw×Value)} (r:KT H kvs xs) (ht:∀b ys,H b=aa (.tup ys)->H' b=aa (.tup ys)):KT H' kvs xs:=
 Paired.mapP r fun _ _ z=>⟨z.1,ht _ _ z.2.1,z.2.2⟩
section
variable {h:Heap}
theorem AZ {u:HO} (ok:HOk P w H h) (e:Rd H a u):cV P w H h a u:=e.ok ok
theorem gi {kvs:ac (Key×V)} (ok:HOk P w H h) (e:Rd H a (.dK kvs)):kvs.length<=aV/\(a==kr)=aq/\∃vs,KV kvs vs/\h.DictOf (cr P w) a vs:=
 show cV P w H h a (.dK kvs) from AZ ok e
theorem x6 {kvs:ac (Key×V)} (ok:HOk P w H h) (e:H a=aa (.dK kvs)):kvs.length<=aV/\(a==kr)=aq/\∃vs,KV kvs vs/\h.DictOf (cr P w) a vs:=gi ok (.inl e)
theorem j7 {ks:ac Key} (ok:HOk P w H h) (e:H a=aa (.tup (ks.map kV))):(ku (cr P w)).is h ks a:=by obtain⟨_,its,r,o,h1,h2,n,h3⟩:=(show cV P w H h a (.tup (ks.map kV)) from ok a _ e);exact⟨o,its.toArray,n,h1,h2,h3,by simpa using AC r⟩
theorem lI (ok:HOk P w H h) (e:Rd H a (.dT kvs)):kvs.length<=aV/\(a==kr)=aq /\
  ∃xs,KT H kvs xs/\h.DictOfH (ku (cr P w)) a xs:=by
 obtain⟨z,y,xs,r,o,es,ep,h1,h2,h3,h4,h5⟩:=(show cV P w H h a (.dT kvs) from AZ ok e);refine⟨z,y,xs,r,o,es,ep,h1,h2,h3,h4,fun x hx=>?_,h5⟩;have all:∀{l:ac (ac Key×V)} {m:ac (ac Key×aw×Value)},KT H l m->∀x∈m,(ku (cr P w)).is h x.1 x.2.1:=by
  intro l m q
  induction q with
  |nil=>intro x hx;exact nomatch hx
  | @cons p q ps qs hq t ih=>
   intro x hx;rcases cM.mp hx with e|hx
   .subst e;exact j7 ok (by rw[←hq.1];exact hq.2.1)
   .exact ih x hx
 exact all r x hx
theorem Pn (ok:HOk P w H h) (e:H a=aa (.dT kvs)):kvs.length<=aV/\(a==kr)=aq /\
  ∃xs,KT H kvs xs/\h.DictOfH (ku (cr P w)) a xs:=lI ok (.inl e)
end
noncomputable def fP (H:Hp) (a:aw) (y:V) (r:ar V):Prop:=
 (∃kvs k,Rd H a (.dK kvs)/\y=kV k/\r=fH kvs k)\/∃kvs k b,Rd H a (.dT kvs)/\y=.ref b/\H b=aa (.tup (k.map kV))/\r=fH kvs k
noncomputable def kc (H:Hp) (a:aw) (y v:V) (H':Hp):Prop:=
 (∃kvs k,H a=aa (.dK kvs)/\y=kV k/\kvs.length<aV/\H'=upd H a (.dK (dR kvs k v))) \/
 ∃kvs k b,H a=aa (.dT kvs)/\y=.ref b/\H b=aa (.tup (k.map kV))/\kvs.length<aV/\H'=upd H a (.dT (dR kvs k v))
theorem fP.k {kvs:ac (Key×V)} {k:Key} (e:H a=aa (.dK kvs)):fP H a (kV k) (fH kvs k):=.inl ⟨kvs,k,.inl e,rfl,rfl⟩
theorem fP.t {b:aw} {k:ac Key} (e:H a=aa (.dT kvs)) (eb:H b=aa (.tup (k.map kV))):fP H a (.ref b) (fH kvs k):=.inr ⟨kvs,k,b,.inl e,rfl,eb,rfl⟩
theorem kc.k {kvs:ac (Key×V)} {k:Key} (e:H a=aa (.dK kvs)) (hl:kvs.length<aV):kc H a (kV k) v (upd H a (.dK (dR kvs k v))):=.inl ⟨kvs,k,e,rfl,hl,rfl⟩
theorem kc.t {b:aw} {k:ac Key} (e:H a=aa (.dT kvs)) (eb:H b=aa (.tup (k.map kV))) (hl:kvs.length<aV) :
  kc H a (.ref b) v (upd H a (.dT (dR kvs k v))):=.inr ⟨kvs,k,b,e,rfl,eb,hl,rfl⟩
section
variable {y:V} {r:Value} {o:ar V} {E:Value->aI->Prop}
theorem Inv.big (I:Inv X pins σ H s):kr<s.heap.objs.size:=by have h:fY<s.heap.objs.size:=(I.mod.glob.keeps I.bk).lt;exact rH .(g) h
theorem IP (hu:A.units+1<cg) (I:Inv X pins σ H s) (g:fP H a y (aa v)) (ry:bx y u) (h:∀w' s',Inv X pins σ H s'->bx v w'->Q w' s') :
  aM .(q) A (m8 (.ref a) u) Q E s:=by
 rcases g with⟨kvs,k,e,ey,l⟩|⟨kvs,k,b,e,ey,eb,l⟩
 .subst ey;obtain⟨z,hd,vs,rel,dd⟩:=gi I.hok e;obtain⟨w',hw,rw'⟩:=dU.some_of (v:=v) (o:=m9 vs k) (by rw[l];exact rel.val k);exact wpAny_getItem_of (iH ry) dd.mapOf hw (h w' _ (I.tok _) rw')
 .subst ey;cases(show u=cc b from ry);obtain⟨z,hd,xs,rel,dd⟩:=lI I.hok e;obtain⟨w',hw,rw'⟩:=dU.some_of (v:=v) (o:=(lX xs k).map (·.2)) (by rw[l];exact rel.val k);obtain⟨p,hp,hp2⟩:=oMd hw;refine wpAny_getItem_heap (rJ hu) (j7 I.hok eb) dd hp ?_;rw[hp2];exact h w' _ (I.tok _) rw'
theorem Ii (hu:A.units+1<cg) (I:Inv X pins σ H s) (g:fP H a y o) (ry:bx y u) (h:∀s',Inv X pins σ H s'->Q (.bool o.isSome) s') :
  aM .(q) A (dh .In u (.ref a)) Q E s:=by
 rcases g with⟨kvs,k,e,ey,l⟩|⟨kvs,k,b,e,ey,eb,l⟩
 .subst ey;obtain⟨z,hd,vs,rel,dd⟩:=gi I.hok e;refine wpAny_in_of (iH ry) hd dd.mapOf ?_;rw[←(rel.val k).isSome_eq,←l];exact h _ (I.tok _)
 .subst ey;cases(show u=cc b from ry);obtain⟨z,hd,xs,rel,dd⟩:=lI I.hok e;refine wpAny_in_heap (rJ hu) (j7 I.hok eb) hd dd ?_;have q:=(rel.val k).isSome_eq;rw[nc] at q;rw[←q,←l];exact h _ (I.tok _)
theorem Mx (hu:A.units+1<cg) (I:Inv X pins σ H s) (g:fP H a y o) (ry:bx y u) (h:∀s',Inv X pins σ H s'->Q (.bool (!o.isSome)) s') :
  aM .(q) A (dh .NotIn u (.ref a)) Q E s:=by
 rcases g with⟨kvs,k,e,ey,l⟩|⟨kvs,k,b,e,ey,eb,l⟩
 .subst ey;obtain⟨z,hd,vs,rel,dd⟩:=gi I.hok e;refine wpAny_notIn_of (iH ry) hd dd.mapOf ?_;rw[←(rel.val k).isSome_eq,←l];exact h _ (I.tok _)
 .subst ey;cases(show u=cc b from ry);obtain⟨z,hd,xs,rel,dd⟩:=lI I.hok e;refine wpAny_notIn_heap (rJ hu) (j7 I.hok eb) hd dd ?_;have q:=(rel.val k).isSome_eq;rw[nc] at q;rw[←q,←l];exact h _ (I.tok _)
theorem tV {ob:HO} (I:Inv X pins σ H s) (mu:Mut (H a)) (hs:iq a s.heap h') (he:∃q,h'.get? a=aa q) (new:cV X.prog X.w (upd H a ob) h' a ob) :
  Inv X pins σ (upd H a ob) {s with heap:=h',toks:=t'} :=
 I.write (x:=a) (e:=a) mu (.inl rfl) (fun b q hb z=>(hs.2 b hb).trans z) he new
theorem vJ {kvs:ac (Key×V)} {vs:ac (Key×Value)} (z:kvs.length<=aV) (hd:(a==kr)=aq) (rel:KV kvs vs) (dd:h'.DictOf (cr P w) a vs) :
  cV P w H' h' a (.dK kvs):=⟨z,hd,vs,rel,dd⟩
theorem KM {Q:lO->aI->Prop} (hu:A.units+1<cg) (I:Inv X pins σ H s) (g:kc H a y v H') (ry:bx y u) (rv:bx v r) (h:∀s',Inv X pins σ H' s'->Q () s') :
  aM .(q) A (setItem (.ref a) u r) Q E s:=by
 rcases g with⟨kvs,k,e,ey,l,eH⟩|⟨kvs,k,b,e,ey,eb,l,eH⟩
 .subst ey eH;obtain⟨z,hd,vs,rel,dd⟩:=x6 I.hok e;have hz:vs.length<=aV:=by rw[←rel.length];exact z
  have hl:(dR kvs k v).length<=aV:=by have:=CM kvs k v;omega
  refine wpAny_setItem_pairs (hsz:=hz) (iH ry) dd fun h' dd' hs=>h _ ?_;have he:∃q,h'.get? a=aa q:=let ⟨q,_,_,hq,_⟩:=dd';⟨q,hq⟩
  exact tV I (by rw[e];exact iw) hs he (vJ hl hd (rel.put k rv) dd')
 .subst ey eH;cases(show u=cc b from ry);obtain⟨z,hd,xs,rel,dd⟩:=Pn I.hok e;have hz:xs.length<=aV:=by rw[←Paired.length rel];exact z
  have hl:(dR kvs k v).length<=aV:=by have:=CM kvs k v;omega
  refine wpAny_setItem_heap (hsz:=hz) (rJ hu) (j7 I.hok eb) dd fun h' dd' hs=>h _ ?_;obtain⟨q,es,ep,hq,h2,h3,h4,_,h5⟩:=dd';refine tV I (by rw[e];exact iw) hs ⟨q,hq⟩ ⟨hl,hd,_,(rel.put k eb rv).keeps fun c ys ec=>?_,q,es,ep,hq,h2,h3,h4,h5⟩;rw[a4 (vT ec e (fun z=>nomatch z))];exact ec
end
section
variable {kvs:ac (Key×V)} {k:Key} {E:Value->aI->Prop}
theorem SJ {Q:lO->aI->Prop} (I:Inv X pins σ H s) (e:H a=aa (.dK kvs)) (ry:bx (kV k) u) (l:(fH kvs k).isSome=ai) (h:∀s',Inv X pins σ (upd H a (.dK (kq kvs k))) s'->Q () s') :
  aM .(q) A (delItem (.ref a) u) Q E s:=by
 obtain⟨z,hd,vs,rel,dd⟩:=x6 I.hok e;refine wpAny_delItem_slot dd.typeIs .(g) QY
  (oO QY dd.typeIs PySem.F.entry_dict_delitem (PySem.F.args_dict_delitem_2 _ _) (meets_dict_delitem_pairs (cr X.prog X.w) a (iH ry)) ⟨vs,dd,by rw[←rel.length];exact z,by rw[←(rel.val k).isSome_eq];exact l,fun h' dd' hs=>h _ ?_⟩)
 have he:∃q,h'.get? a=aa q:=let ⟨q,_,_,hq,_⟩:=dd';⟨q,hq⟩
 exact tV I (by rw[e];exact iw) hs he (vJ (qL (Ah kvs k) z) hd (rel.drop k) dd')
theorem K0 {more:ac Value} (I:Inv X pins σ H s) (e:H a=aa (.dK kvs)) (ry:bx (kV k) u) (l:fH kvs k=aa v) (hm:more=[]\/∃x,more=[x])
  (h:∀w' s',Inv X pins σ (upd H a (.dK (kq kvs k))) s'->bx v w'->Q w' s'):aM .(q) A (call (.builtin "dict.pop") (.ref a::u::more)) Q E s:=by
 obtain⟨z,hd,vs,rel,dd⟩:=x6 I.hok e;obtain⟨w',hw,rw'⟩:=dU.some_of (v:=v) (o:=m9 vs k) (by rw[←l];exact rel.val k);have hp:(keyPart u).isSome=ai:=by
  cases k with
  |inl i=>obtain⟨t,q⟩:=(show ∃t,u=cZ i t from ry);subst q;rfl
  |inr x=>obtain⟨t,q⟩:=(show ∃t,u=rj x t from ry);subst q;rfl
 have ha:oP "dict.pop" ⟨.ref a::u::more,[]⟩:=by
  rcases hm with q|⟨x,q⟩
  .subst q;exact PySem.F.args_dict_pop_2 _ _
  .subst q;exact PySem.F.args_dict_pop_3 _ _ _
 refine oO QZ dd.typeIs PySem.F.entry_dict_pop ha (meets_dict_pop_there (cr X.prog X.w) a (iH ry) more hm hp)
  ⟨vs,w',dd,by rw[←rel.length];exact z,hw,fun h' dd' hs=>h w' _ ?_ rw'⟩
 have he:∃q,h'.get? a=aa q:=let ⟨q,_,_,hq,_⟩:=dd';⟨q,hq⟩
 exact tV I (by rw[e];exact iw) hs he (vJ (qL (Ah kvs k) z) hd (rel.drop k) dd')
end
noncomputable def tS (i:Expr):Prop:=∀ov iv,yS i aq ov iv=operate [ov,iv] (m8 ov iv)
theorem Mr {E:Value->aI->Prop} {slice:Expr} {id:c9} 
  (hl:uU (.type T) "__getitem__"=bB (aa (.builtin id))) (hs:tS slice)
  (h:aM .(Q) A (eval value env) (fun o s₁=>aM .(Q) A (eval slice env) (fun i s₂=>s₂.TypeIs o T/\aM .(Q) A (m8 o i) Q E s₂) E s₁) E s) :
  aM .(Q) A (eval (.Subscript value slice pos) env) Q E s:=by
 refine EN (gY h (fun o s₁ h₁=>gY h₁ (fun i s₂ h₂=>?_) fun _ _ x=>x) fun _ _ x=>x);obtain⟨hT,h₂⟩:=h₂;unfold EO;refine qx ?_;rw[getitemInPython_of_ne hT.not_modules];refine qx (ES hT hl ?_);have fin:aM .(Q) A (yS slice aq o i) (fun r s₃=>aM .(Q) A (letTemporaryGo value o r >>= fun _=>bB r) Q E s₃) E s₂:=by rw[hs o i];exact wpAny_operating (gY h₂ (fun r s₃ h₃=>qx (wpAny_letTemporaryGo (qz h₃))) fun _ _ x=>x)
 first
  |exact qz (qx fin)
  |exact qx (qz (qx fin))
  |exact qx fin
theorem NW {y:V} {o:ar V} (I:Inv X pins σ H s) (g:fP H a y o):s.TypeIs (.ref a) "dict":=by
 rcases g with⟨kvs,k,e,_,_⟩|⟨kvs,k,b,e,_,_,_⟩
 .obtain⟨_,_,vs,_,dd⟩:=gi I.hok e;exact dd.typeIs
 .obtain⟨_,_,xs,_,dd⟩:=lI I.hok e;exact dd.typeIs
noncomputable def NS (td ty:TE):TE:=fun σ H Q=>td σ H fun x H1=>ty σ H1 fun y H2=>∃a v,x=.ref a/\fP H2 a y (aa v)/\Q v H2
noncomputable def Pz (td ty tv:TE):TS:=fun D σ H=>tv σ H fun v H1=>td σ H1 fun x H2=>ty σ H2 fun y H3=>∃a H4,x=.ref a/\kc H3 a y v H4/\D.nx σ H4
variable {td ty:TE}
section
variable {i:Expr}
theorem AW (hu:X.A.units+1<cg) (ho:PE X o td) (hi:PE X i ty) (hs:tS i):PE X (.Subscript o i pos) (NS td ty):=by intro pins s σ H Q I h;refine Mr PySem.F.slot_dict_getitem.lookup hs (thn (ho pins s σ H _ I h) fun u s1 ⟨x,H1,I1,rx,q1⟩=>thn (hi pins s1 σ H1 _ I1 q1) fun iv s2 ⟨y,H2,I2,ry,a,v,ex,g,q2⟩=>?_);subst ex;obtain rfl:u=cc a:=rx;exact⟨NW I2 g,IP hu I2 g ry fun w' s3 I3 rw'=>⟨v,H2,I3,rw',q2⟩⟩
theorem D0 (hu:X.A.units+1<cg) (ho:PE X o td) (hi:PE X i ty) (hv:PE X value tv) (hs:fK value (aa (.Subscript o i pos')) pos.line X.env=bB aq) :
  PS X (.Assign [.Subscript o i pos'] value pos) (Pz td ty tv):=by
 intro pins s σ H D I h;refine wpAny_Assign_Subscript (thn (hv pins s σ H _ I h) fun r s1 ⟨v,H1,I1,rv,q1⟩=>thn (ho pins s1 σ H1 _ I1 q1) fun u s2 ⟨x,H2,I2,rx,q2⟩=>thn (hi pins s2 σ H2 _ I2 q2) fun iv s3 ⟨y,H3,I3,ry,a,H4,ex,g,q3⟩=>?_) hs;subst ex;obtain rfl:u=cc a:=rx;exact KM hu I3 g ry rv fun s4 I4=>⟨σ,H4,I4,q3⟩
end
theorem Gq (h:Heap) (hb:kr<h.objs.size):cV P w H (h.push {cls:=.type "dict",data:=.dict #[]}) h.objs.size (.dK []):=
 ⟨ix _,mW.mpr (dF (qB hb)),[],.nil,Q0 h⟩
noncomputable def Jm:TE:=fun _ H Q=>∀p,H p=ab->Q (.ref p) (upd H p (.dK []))
theorem xu:PE X (.Dict [] [] pos) Jm:=fun pins s σ H Q I h=>
 wpAny_Dict_empty ⟨.ref s.heap.objs.size,_,I.laid (a:=s.heap.objs.size) (o:=.dK []) (t':=s.toks) (fun _ _ q=>qu _ q) (qw _) (Gq s.heap I.big),rfl,h _ (I.hok.fresh (qw _))⟩
structure M1 (X:Cx) (o:Expr) (m:ak) (apos:dq) (e:Expr) (cpos:dq):Prop where
 base:gx o m X.env (eval o X.env)=eval o X.env
 few:((cC cpos (a6 [e] X.env)).all (fun x=>!x.1) && (i8 cpos (i9 [] X.env)).all (fun x=>x.1.isSome)
  && decide (([e]:ac Expr).length+([]:ac jc).length+(if ([]:ac jc).isEmpty then 0 else 1)<30))=ai
 line:(apos.endLine==cpos.line)=ai
 trees:cC cpos (a6 [e] X.env)=[(aq,eval e X.env)]
structure M2 (X:Cx) (o:Expr) (m:ak) (apos:dq) (e f:Expr) (cpos:dq):Prop where
 base:gx o m X.env (eval o X.env)=eval o X.env
 few:((cC cpos (a6 [e,f] X.env)).all (fun x=>!x.1) && (i8 cpos (i9 [] X.env)).all (fun x=>x.1.isSome)
  && decide (([e,f]:ac Expr).length+([]:ac jc).length+(if ([]:ac jc).isEmpty then 0 else 1)<30))=ai
 line:(apos.endLine==cpos.line)=ai
 trees:cC cpos (a6 [e,f] X.env)=[(aq,eval e X.env),(aq,eval f X.env)]
noncomputable def IsD (H:Hp) (a:aw):Prop:=(∃kvs,Rd H a (.dK kvs))\/∃kvs,Rd H a (.dT kvs)
theorem sq (I:Inv X pins σ H s) (d:IsD H a) :
  s.TypeIs (.ref a) "dict"/\(∀b,cc a=.ref b->∃ob,s.heap.get? b=aa ob/\ob.dict=ab)/\(a==kr)=aq:=by
 rcases d with⟨kvs,e⟩|⟨kvs,e⟩
 .obtain⟨_,hd,vs,_,dd⟩:=gi I.hok e;refine⟨dd.typeIs,fun b q=>?_,hd⟩;cases q;obtain⟨ob,_,_,h1,h2,_⟩:=dd;exact⟨ob,h1,h2.2.1⟩
 .obtain⟨_,hd,xs,_,dd⟩:=lI I.hok e;refine⟨dd.typeIs,fun b q=>?_,hd⟩;cases q;obtain⟨ob,_,_,h1,h2,_⟩:=dd;exact⟨ob,h1,h2.2.1⟩
section
variable {y d:V} {r:Value} {o:ar V} {E:Value->aI->Prop}
theorem Pd (hu:A.units+1<cg) (I:Inv X pins σ H s) (g:fP H a y o) (ry:bx y u) (h:∀w' s',Inv X pins σ H s'->bx (o.getD .non) w'->Q w' s') :
  aM .(q) A (call (.builtin "dict.get") [.ref a,u]) Q E s:=by
 rcases g with⟨kvs,k,e,ey,l⟩|⟨kvs,k,b,e,ey,eb,l⟩
 .subst ey;obtain⟨z,hd,vs,rel,dd⟩:=gi I.hok e;refine oO rK dd.typeIs yX (Q2 _ _) (meets_dict_get (cr X.prog X.w) a (iH ry) hd) ⟨_,dd.mapOf,h _ _ (I.tok _) ?_⟩;rw[l];exact(rel.val k).getD rfl
 .subst ey;cases(show u=cc b from ry);obtain⟨z,hd,xs,rel,dd⟩:=lI I.hok e;refine oO rK dd.typeIs yX (Q2 _ _) (meetsH_dict_get (ku (cr X.prog X.w)) a b hd) ⟨rJ hu,k,xs,j7 I.hok eb,dd,h _ _ (I.tok _) ?_⟩;rw[l];exact(rel.val k).getD rfl
theorem JZ (hu:A.units+1<cg) (I:Inv X pins σ H s) (g:fP H a y o) (ry:bx y u) (rd:bx d r) (h:∀w' s',Inv X pins σ H s'->bx (o.getD d) w'->Q w' s') :
  aM .(q) A (call (.builtin "dict.get") [.ref a,u,r]) Q E s:=by
 rcases g with⟨kvs,k,e,ey,l⟩|⟨kvs,k,b,e,ey,eb,l⟩
 .subst ey;obtain⟨z,hd,vs,rel,dd⟩:=gi I.hok e;refine oO rK dd.typeIs yX (Q3 _ _ _) (meets_dict_get_default (cr X.prog X.w) a (iH ry) hd r) ⟨_,dd.mapOf,h _ _ (I.tok _) ?_⟩;rw[l];exact(rel.val k).getD rd
 .subst ey;cases(show u=cc b from ry);obtain⟨z,hd,xs,rel,dd⟩:=lI I.hok e;refine oO rK dd.typeIs yX (Q3 _ _ _) (meetsH_dict_get_default (ku (cr X.prog X.w)) a b hd r) ⟨rJ hu,k,xs,j7 I.hok eb,dd,h _ _ (I.tok _) ?_⟩;rw[l];exact(rel.val k).getD rd
end
noncomputable def OF (td ty:TE):TE:=fun σ H Q=>td σ H fun x H1=>∃a,x=.ref a/\IsD H1 a/\ty σ H1 fun y H2=>∃o,fP H2 a y o/\Q (o.getD .non) H2
noncomputable def Oo (td ty tx:TE):TE:=fun σ H Q=>td σ H fun x H1=>∃a,x=.ref a/\IsD H1 a/\ty σ H1 fun y H2=>tx σ H2 fun z H3=>∃o,fP H3 a y o/\Q (o.getD z) H3
noncomputable def FI (td ty:TE):TE:=fun σ H Q=>td σ H fun x H1=>∃a,x=.ref a/\IsD H1 a/\ty σ H1 fun y H2=>∃kvs k v,H2 a=aa (.dK kvs)/\y=kV k/\fH kvs k=aa v/\Q v (upd H2 a (.dK (kq kvs k)))
section
variable {f:Expr} {tx:TE}
theorem F3 (hu:X.A.units+1<cg) (ho:PE X o td) (he:PE X e ty) (m:M1 X o "get" apos e cpos):PE X (.Call (.Attribute o "get" apos) [e] [] cpos) (OF td ty):=by intro pins s σ H Q I h;refine ET m.base m.few m.line yY rK Q4 (thn (ho pins s σ H _ I h) fun u s1 ⟨x,H1,I1,rx,a,ex,d,q1⟩=>?_);subst ex;obtain rfl:u=cc a:=rx;obtain⟨t1,t2,_⟩:=sq I1 d;refine⟨t1,t2,?_⟩;rw[m.trees];refine uW rfl (yT (uT (thn (he pins s1 σ H1 _ I1 q1) fun iv s2 ⟨y,H2,I2,ry,ov,g,q2⟩=>yI ?_)));exact Pd hu I2 g ry fun w' s3 I3 rw'=>⟨_,H2,I3,rw',q2⟩
theorem Hn (hu:X.A.units+1<cg) (ho:PE X o td) (he:PE X e ty) (hf:PE X f tx) (m:M2 X o "get" apos e f cpos):PE X (.Call (.Attribute o "get" apos) [e,f] [] cpos) (Oo td ty tx):=by
 intro pins s σ H Q I h;refine ET m.base m.few m.line yY rK Q4 (thn (ho pins s σ H _ I h) fun u s1 ⟨x,H1,I1,rx,a,ex,d,q1⟩=>?_);subst ex;obtain rfl:u=cc a:=rx;obtain⟨t1,t2,_⟩:=sq I1 d;refine⟨t1,t2,?_⟩;rw[m.trees];refine uW rfl (yT (uT (thn (he pins s1 σ H1 _ I1 q1) fun iv s2 ⟨y,H2,I2,ry,q2⟩=>
  uT (thn (hf pins s2 σ H2 _ I2 q2) fun fv s3 ⟨z,H3,I3,rz,ov,g,q3⟩=>yI ?_))))
 exact JZ hu I3 g ry rz fun w' s4 I4 rw'=>⟨_,H3,I4,rw',q3⟩
theorem Oj (ho:PE X o td) (he:PE X e ty) (m:M1 X o "pop" apos e cpos):PE X (.Call (.Attribute o "pop" apos) [e] [] cpos) (FI td ty):=by intro pins s σ H Q I h;refine ET m.base m.few m.line yY QZ PySem.F.type_dict_pop (thn (ho pins s σ H _ I h) fun u s1 ⟨x,H1,I1,rx,a,ex,d,q1⟩=>?_);subst ex;obtain rfl:u=cc a:=rx;obtain⟨t1,t2,_⟩:=sq I1 d;refine⟨t1,t2,?_⟩;rw[m.trees];refine uW rfl (yT (uT (thn (he pins s1 σ H1 _ I1 q1) fun iv s2 ⟨y,H2,I2,ry,kvs,k,v,ea,ey,l,q2⟩=>yI ?_)));subst ey;exact K0 I2 ea ry l (.inl rfl) fun w' s3 I3 rw'=>⟨v,_,I3,rw',q2⟩
end
variable {loose:ac ak} {XP:(ak->ar Value)->Heap->Prop} {YP:cS->Heap->Prop}
namespace Att
open PySem PySem.W PySem.Calls PyProof.Rows
theorem IB {P:yZ} {h:Heap} :∀(ns:ac ag) (vs:ac Value),WellAll P h vs (ns.map Q5)->jb vs ns:=by
 intro ns
 induction ns with
 |nil=>
  intro vs w;rw[qN] at w;cases w;exact .nil
 |cons n ns ih=>
  intro vs w;rw[qo] at w;cases w with
  |cons a b=>
   cases a;exact .cons _ _ (ih _ b)
theorem Bf {l:OpenLaw} (hn:l.most=aa n) {P:yZ} {h:Heap} {args:ac WData} {vals:ac Value} 
  (hpre:l.row.toRowW.claim.pre args=ai) (hwl:WellAll P h vals args) :
  ∃a vs ns,vals=[cc a]/\args=[WData.list (ns.map Q5)]/\h.get? a=aa {cls:=.type "list",data:=.seq vs.toArray}/\jb vs ns/\ns.length<=n:=by
 have hsh:WShape.hasAll [] args [.list .int]=ai:=(pre_splitW hpre).1;have hc:l.pre.holds [] {args:=args}=ai:=(pre_splitW hpre).2;obtain⟨d,r,rfl,h1,h2⟩:=hasAllW_cons hsh;obtain rfl:=hasAllW_nil h2;obtain⟨xs,rfl,h3⟩:=hasW_list h1;obtain⟨ns,rfl⟩:=items_int h3;have hlen:ns.length<=n:=by
  unfold OpenLaw.pre at hc;have h4:(WTm.not (.lt (.lit (.int (n:ag))) (.len (.arg 0)))).holds [] {args:=[.list (ns.map .int)]}=ai:=by have h4:=(holds_andW hc).1;rw[hn] at h4;exact h4
  have h5:=condW_of h4 (w_not (w_lt w_lit (w_len_list (w_arg rfl))));rw[qg] at h5;refine Q6 fun q=>?_;have q':(n:ag)<((ns.length:al):ag):=by omega
  first
   |(rw[qR q'] at h5;exact bN h5 .(g))
   |(simp at h5;omega)
 cases hwl with
 |cons w1 w2=>
  cases w2;cases w1 with
  |list ho hall=>exact⟨_,_,ns,rfl,rfl,ho,IB ns _ hall,hlen⟩
theorem Dh (l:OpenLaw) (args:ac WData):l.row.toRowW.claim.post args (.bool ai) args=ai:=
 postW_of (r:=l.row.toRowW) (X:=(ai==ai))
  (show Q7 [] (.bool ai) .bool=ai by first|rfl|decide|simp[Q7,WShape.arms,WShape.armsAll])
  (show(WTm.eq .res (.lit (.bool ai))).value [] {args:=args,res:=aa (.bool ai),after:=args}=aa (.bool (ai==ai)) from w_eq_bool (w_res rfl) w_lit) rfl
theorem SH {l:OpenLaw} {q:dy} {d:y0} 
  (hn:l.most=aa n) (hdf:d.params.defaults=[])
  (hbind:∀pm cd doc v:Value,lS (docDef d.name d.params d.body d.scope pm cd doc) ⟨[v],[]⟩=bB [(x,v)])
  (hx:d.scope.names.lookup x=aa .local\/d.scope.names.lookup x=aa .cell)
  (hk:d.scope.kind=.function) (hco:d.scope.isCoroutine=aq) (hgen:d.scope.isGenerator=aq)
  (body:∀(w:cS) (s₀ s₁ s:aI) (mg mb:ak->ar Value) (fa:aw) (o:bd) (pm cd doc:Value) (a:aw) (vs:ac Value) (ns:ac ag),
   Ground q loose [] XP w s₀ mg mb s₁.heap->YP w s₁.heap->
   s₁.heap.get? fa=aa o->o.data=.func (docDef d.name d.params d.body d.scope pm cd doc)->s₁.heap.CodeRec cd d.name->mg d.name=aa (.ref fa)->
   s₁.heap.get? a=aa {cls:=.type "list",data:=.seq vs.toArray}->jb vs ns->ns.length<=n->
   s.gens=#[]->s.os=s₁.os->
   Fr s₁.heap s₁.heap.objs.size s.heap (lU (fy d.name d.scope s₁.heap.objs.size fa cd).kindOf [(x,.ref a)] fun _=>ab)->
   Cl s₁.heap.objs.size (yL (s₁.heap.objs.size+1) d.scope.names []) s.heap (lV (fy d.name d.scope s₁.heap.objs.size fa cd).kindOf [(x,.ref a)] fun _=>ab)->
   aM (aQ l.prog w) (ng.deeper (fy d.name d.scope s₁.heap.objs.size fa cd)) (execs d.body (fy d.name d.scope s₁.heap.objs.size fa cd))
    (fun f s'=>f=.ret (.bool ai)/\OldK s₁.heap s'.heap/\s'.os=s₁.os/\ky s'.gens) (fun _ _=>False) s) :
  WalkO q loose XP YP l.row.toRowW d [] (fun f vs=>y6 f vs):=by
 intro w s₀ s₁ mg mb G Y fa o pm cd doc dV kV ho hd hcd hD hmg hg args vals as hpre hlay hrd hwl hlo;obtain rfl:dV=.none:=Q8 hD hdf;obtain rfl:kV=.none:=Q9 hD;obtain⟨a,vs,ns,rfl,rfl,hobj,hints,hlen⟩:=Bf hn hpre hwl;refine enter_call ?_;refine call_cells_ret (o:=o) (by rw[depth_caller];decide) ho (EU hd) G.T.nolimit hcd (hbind pm cd doc (.ref a)) (fun y hy=>?_) (fun h₁ tk F X=>?_) hco hgen hk
 .obtain rfl:y=(x,cc a):=bX.mp hy;rcases hx with e|e
  .exact .inl e
  .exact .inr ⟨e,cellsFrom_some _ _ _ (.inl e)⟩
 .refine gY (body w s₀ s₁ {s₁ with heap:=h₁,toks:=tk} mg mb fa o pm cd doc a vs ns G Y ho (EU hd) hcd hmg hobj hints hlen hg rfl F X) (fun f s' hq=>?_) (fun _ _ hq=>hq);obtain⟨rfl,h2,h3,h4⟩:=hq;exact⟨.inl ⟨.bool ai,.bool ai,[],rfl,fun _=>rfl,.bool ai,Dh l _,fun _=>⟨EV,fun _ hm=>(nomatch hm)⟩⟩,h2,h3,h4⟩
theorem attach_call {l:OpenLaw} {q:dy} {d:y0} 
  (hn:l.most=aa n) (hdf:d.params.defaults=[])
  (call:∀(w:cS) (s₀ s₁:aI) (mg mb:ak->ar Value) (fa:aw) (o:bd) (pm cd doc:Value) (a:aw) (vs:ac Value) (ns:ac ag),
   Ground q loose [] XP w s₀ mg mb s₁.heap->YP w s₁.heap->
   s₁.heap.get? fa=aa o->o.data=.func (docDef d.name d.params d.body d.scope pm cd doc)->s₁.heap.CodeRec cd d.name->mg d.name=aa (.ref fa)->
   s₁.heap.get? a=aa {cls:=.type "list",data:=.seq vs.toArray}->jb vs ns->ns.length<=n->s₁.gens=#[]->
   iu (aQ l.prog w) ng (.call (.ref fa) ⟨[.ref a],[]⟩) (fun r s'=>r=.ok (.ret (.bool ai))/\OldK s₁.heap s'.heap/\s'.os=s₁.os/\ky s'.gens) s₁) :
  WalkO q loose XP YP l.row.toRowW d [] (fun f vs=>y6 f vs):=by
 intro w s₀ s₁ mg mb G Y fa o pm cd doc dV kV ho hd hcd hD hmg hg args vals as hpre hlay hrd hwl hlo;obtain rfl:dV=.none:=Q8 hD hdf;obtain rfl:kV=.none:=Q9 hD;obtain⟨a,vs,ns,rfl,rfl,hobj,hints,hlen⟩:=Bf hn hpre hwl;refine enter_call (rB (call w s₀ s₁ mg mb fa o pm cd doc a vs ns G Y ho (EU hd) hcd hmg hobj hints hlen hg) fun r s' hq=>?_);obtain⟨rfl,h2,h3,h4⟩:=hq;exact⟨.inl ⟨.bool ai,.bool ai,[],rfl,fun _=>rfl,.bool ai,Dh l _,fun _=>⟨EV,fun _ hm=>(nomatch hm)⟩⟩,h2,h3,h4⟩
section
variable {E:Value->aI->Prop} {K:bi}
noncomputable def SF (h:Heap) (L d:aw):ac (aw×bd):=(cP h.objs.size).filterMap fun a=>if a=L\/a=d then ab else (h.get? a).map fun o=>(a,o)
end
end Att
theorem Au:∀{vs:ac Value} {ns:ac ag},jb vs ns->bK (ns.map V.int) vs
 |_,_,.nil=>.nil
 |_,_,.cons n t h=>.cons ⟨t,rfl⟩ (Au h)
noncomputable def wH (H:Hp):Prop:=∀b,H b=ab\/∃o xs,H b=aa (.frz o (.lst xs))
theorem JX {mb:ak->ar Value} {k:al} {fa:aw} {s₁:aI} {vs:ac Value} {ns:ac ag} 
  (KX:K.In s₁.heap) (hns:s₁.heap.Ns fY mg) (hb:s₁.heap.Ns Ep mb) (hbb:∀x:ak,x≠"__name__"->mb x=lN x) (hlim:s₁.heap.NoLimit) (hg:s₁.gens=#[])
  (ha:s₁.heap.get? a=aa {cls:=.type "list",data:=.seq vs.toArray}) (hi:jb vs ns) (hl:ns.length<=aV) (hr:Room k ng)
  (F:∀base:Heap,K.In base->base.Ns fY mg->FnOk P w K mg base CX k fa fd [x] sp) (hbind:∀(s:aI) (u:Value),rA s fd ⟨[u],[]⟩ [(x,u)])
  (hsp:∀H:Hp,wH H->SqL K H a (ns.map V.int)->sp [.ref a] H (fun v _=>v=.bl ai) fun _ _ _=>False)
  (hCX:∀H e s',CX [] H s₁ (fun _ _ _=>False) e s'->False) :
  iu (aQ P w) ng (.call (.ref fa) ⟨[.ref a],[]⟩) (fun r s'=>r=.ok (.ret (.bool ai))/\OldK s₁.heap s'.heap/\s'.os=s₁.os/\ky s'.gens) s₁:=by
 have rv:=Au hi;have lenV:=hi.length;have core:∀H:Hp,wH H->SqL K H a (ns.map V.int)->HOk P w H s₁.heap->(∀b,H b≠ab->b=a)->(H a≠ab->K.lookup a=ab)->
   iu (aQ P w) ng (.call (.ref fa) ⟨[.ref a],[]⟩) (fun r s'=>r=.ok (.ret (.bool ai))/\OldK s₁.heap s'.heap/\s'.os=s₁.os/\ky s'.gens) s₁:=by
  intro H hO hS hok hA hK;have base_of:∀{b:aw} {o:bd},s₁.heap.get? b=aa o->H b=ab->(jV s₁.heap H).get? b=aa o:=fun e n=>Ij e n;have noA:∀{b:aw} {o:bd} {es:bR DictEntry} {ep:al},s₁.heap.get? b=aa o->o.data=.dict es ep->H b=ab:=fun {b o es ep} e d=>by
   cases q:H b with
   |none=>rfl
   |some u=>
    have e':b=a:=hA b (by rw[q];simp);subst e';rw[ha] at e;cases e;have d':Data.seq vs.toArray _=Data.dict es ep:=d;cases d'
  have nsK:∀{b:aw} {m:ak->ar Value},s₁.heap.Ns b m->(jV s₁.heap H).Ns b m:=fun {b m} ⟨o,es,ep,e,d,r⟩=>⟨o,es,ep,base_of e (noA e d),d,r⟩;have hKb:K.In (jV s₁.heap H):=fun b o e=>base_of (KX b o e) (by
   cases q:H b with
   |none=>rfl
   |some u=>
    have e':b=a:=hA b (by rw[q];simp);subst e';rw[hK (by rw[q];simp)] at e;cases e)
  have hM:Mod K mg (jV s₁.heap H):=⟨hKb,nsK hns,⟨mb,nsK hb,hbb⟩,let ⟨mc,h1,h2⟩:=hlim;⟨mc,nsK h1,h2⟩⟩;have e0:Env0 P w K mg (jV s₁.heap H) ng [] s₁ H:=⟨rfl,hM,fun b o e=>Nh e,yH (LA _ _),trivial,fun b hb=>bN (show b∈([]:ac aw) from hb) (by simp),hok,.of_eq hg⟩;refine rB ((F _ hKb (nsK hns)).run ng [] s₁ H ⟨[.ref a],[]⟩ [.ref a] [.ref a] _ _ hr e0 (hbind s₁ (.ref a)) (.cons rfl .nil) (hsp H hO hS)) fun r s' h=>?_;cases r with
  |error e=>exact(hCX H e s' h).elim
  |ok fl=>
   cases fl with
   |next=>exact ir h
   |brk=>exact ir h
   |cont=>exact ir h
   |ret u=>
    obtain⟨v,H',os,bare,un,hok',r',q⟩:=h;have q':v=.bl ai:=q;subst q';obtain rfl:u=jL ai:=r';refine⟨rfl,OldK.of_keep fun b o e=>?_,os,bare⟩;cases q:H b with
    |none=>exact un.keep b o e q (by intro z;exact bN (show b∈([]:ac aw) from z) (by simp)) (by simp)
    |some u=>
     rcases hO b with z|⟨ob,xs,z⟩
     .rw[q] at z;cases z
     .have z2:=un.frzs b ob _ z;obtain⟨e1,_⟩:=hok b _ z;obtain⟨e2,_⟩:=hok' b _ z2;rw[e] at e1;cases e1;exact e2
 cases hk:K.lookup a with
 |some o=>
  have e:=KX a o hk;rw[ha] at e;cases e;refine core (fun _=>ab) (fun _=>.inl rfl) (.inr ⟨_,vs.toArray,_,hk,rfl,rfl,rfl,by rw[qA,lenV];exact hl,by simpa using rv⟩) (fun b u z=>by have z':(ab:ar HO)=aa u:=z;cases z') (fun b z=>bN rfl z) fun z=>bN rfl z
 |none=>
  refine core (fun b=>if b=a then aa (.frz {cls:=.type "list",data:=.seq vs.toArray} (.lst (ns.map V.int))) else ab) (fun b=>?_) (.inl (.inr ⟨{cls:=.type "list",data:=.seq vs.toArray},qX rfl⟩)) (fun b u z=>?_) (fun b z=>?_) fun _=>hk
  .by_cases hb:b=a
   .exact .inr ⟨_,_,qX hb⟩
   .exact .inl (qY hb)
  .by_cases hb:b=a
   .have z':=(qX hb).symm.trans z;cases z';subst hb;exact⟨ha,by rw[qg];exact hl,vs,_,rv,ha⟩
   .have z':=(qY hb).symm.trans z;cases z'
  .by_cases hb:b=a
   .exact hb
   .exact bN (qY hb) z
noncomputable abbrev KOf {h:Heap} (_:K.In h):bi:=K
theorem walk_of {l:EW} {k:al} {q:dy} {d:y0} {K:yZ->bi} {CX:cS->CXT} {sp:cS->Sp} 
  (hn:l.most=aa n) (hn2:n<=aV) (hdf:d.params.defaults=[]) (hr:Room k ng)
  (hY:∀(w:cS) (h:Heap),YP w h->(K w.params).In h)
  (F:∀(w:cS) (mg:ak->ar Value) (fa:aw) (h:Heap),(K w.params).In h->h.Ns fY mg->mg d.name=aa (.ref fa)->
   ∃fd:m4,(∀(s:aI) (u:Value),rA s fd ⟨[u],[]⟩ [(x,u)]) /\
    ∀base:Heap,(K w.params).In base->base.Ns fY mg->FnOk l.prog w (K w.params) mg base (CX w) k fa fd [x] (sp w))
  (hsp:∀(w:cS) (H:Hp) (a:aw) (ns:ac ag),ns.length<=n->wH H->SqL (K w.params) H a (ns.map V.int)->sp w [.ref a] H (fun v _=>v=.bl ai) fun _ _ _=>False)
  (hCX:∀(w:cS) (H:Hp) (s:aI) (e:Value) (s':aI),CX w [] H s (fun _ _ _=>False) e s'->False) :
  Ra q loose XP YP l.row.toRowW d [] (fun f vs=>y6 f vs):=by
 refine Att.attach_call hn hdf fun w s₀ s₁ mg mb fa o pm cd doc a vs ns G Y ho hd hcd hmg hobj hints hlen hg=>?_;have KX:=hY w _ Y;obtain⟨fd,hb,hF⟩:=F w mg fa _ KX G.T.g hmg;exact JX KX G.T.g G.T.b G.T.builtins G.T.nolimit hg hobj hints (qL hlen hn2) hr hF hb (fun H hO hS=>hsp w H a ns hlen hO hS) fun H e s'=>hCX w H s₁ e s'
noncomputable def dO (s:Stmt) (j:al):Stmt:=match s with
 |.ClassDef _ _ _ body _ _ _ _ _ _ _=>body.getD j (.Pass ⟨0,0,0,0⟩)
 |_=>.Pass ⟨0,0,0,0⟩
noncomputable def ij (s:Stmt):Arguments:=match s with
 |.FunctionDef _ a _ _ _ _ _ _ _ _=>a
 |_=>{posonlyargs:=[],args:=[],vararg:=ab,kwonlyargs:=[],kw_defaults:=[],kwarg:=ab,defaults:=[]}
noncomputable def eU (s:Stmt):ac Stmt:=match s with
 |.FunctionDef _ _ b _ _ _ _ _ _ _=>b
 |_=>[]
noncomputable def aS (s:Stmt):Scope:=match s with
 |.FunctionDef _ _ _ _ _ _ sc _ _ _=>sc
 |_=>{kind:=.function,names:=[],isGenerator:=aq,isCoroutine:=aq}
noncomputable abbrev CX0:CXT:=fun _ _ _ _ _ _=>False
noncomputable abbrev E0:XK:=fun _ _ _=>False
theorem tq :mx CX0 X E0:=fun _ _ _ _ _ _ _ h=>h.elim
structure Fun (K:bi) (x qual:ak) (st:Stmt) (f:aw) (fd:m4):Prop where
 ex:∃(oc:Value) (od:ar aw) (kV doc pm:Value) (an:ar aw) (cdv ct:Value) (osl:bR (ar Value)),
  fd=hG x qual (ij st) (eU st) (aS st) .none kV doc pm an cdv ct/\K.lookup f=aa ⟨oc,od,.func fd,osl⟩/\rC K cdv qual=ai
 kp:i7 K (.ref f)=ai
theorem Fun.ok {f:aw} {k:al} (F:Fun K x qual st f fd) (S:FnScope N ps (aS st)) (len:∀vs H Q E,sp vs H Q E->vs.length=ps.length)
  (hbody:∀(cdv:Value) (A:eB) (outer:ac dc) (s:aI) (H:Hp) (vs:ac V) (Q:VK) (E:XK),Room k (A.deeper (fy qual (aS st) s.heap.objs.size f cdv))->sp vs H Q E->
   ∃t,PSs (ii CX0 P w K mg base N qual (aS st) f cdv A outer s H E).nox (eU st) t/\t {nx:=fun _ H'=>Q .non H',rt:=Q} (gD N vs) H):FnOk P w K mg base CX0 (k+1) f fd ps sp:=by
 obtain⟨oc,od,kV,doc,pm,an,cdv,ct,osl,rfl,lk,hcd⟩:=F.ex;refine Of lk hcd S len fun A outer s H vs Q E hr hsp=>?_;obtain⟨t,h,q⟩:=hbody cdv A outer s H vs Q E hr hsp;exact⟨t,h.nox,q⟩
theorem Fun.binds {f:aw} (F:Fun K x qual st f fd)
  (h:∀(kV doc pm:Value) (an:ar aw) (cdv ct:Value) (us:ac Value),us.length=ps.length->lS (hG x qual (ij st) (eU st) (aS st) .none kV doc pm an cdv ct) ⟨us,[]⟩=bB (ps.zip us)):gL K fd ps []:=by
 obtain⟨oc,od,kV,doc,pm,an,cdv,ct,osl,rfl,lk,hcd⟩:=F.ex;exact .all (h kV doc pm an cdv ct)
theorem vx {f:aw} {kV:Value} (l:K.lookup f=aa ⟨oc,od,.func (hG x qual (ij st) (eU st) (aS st) .none kV doc pm an cdv ct),osl⟩)
  (c:rC K cdv qual=ai) (k:i7 K (.ref f)=ai):Fun K x qual st f (hG x qual (ij st) (eU st) (aS st) .none kV doc pm an cdv ct):=⟨⟨oc,od,kV,doc,pm,an,cdv,ct,osl,rfl,l,c⟩,k⟩
theorem pv (i:al) (hN:X.N[i]?=aa x:=by rfl) (hv:Vis X.env.scope x:=by first|exact di rfl|exact cG (di rfl)|exact cG (cG rfl)) (hd:.(E)=aq:=by decide)
  (hcd:(x==("__classdict__":ak))=aq:=by decide):PE X (.Name x pos) (CL i):=iW hN hv hd hcd
theorem mV {A B:Prop} (h:B):if aq=ai then A else B:=by rw[qY qt];exact h
theorem mK {A B:Prop} (h:A):if ai=ai then A else B:=by rw[qX rfl];exact h
noncomputable def bO (H H':Hp):Prop:=∀b o,H b=aa o->H' b=aa o
theorem bO.refl (H:Hp):bO H H:=fun _ _ h=>h
theorem bO.trans (a:bO H H1) (b:bO H1 H2):bO H H2:=fun c o h=>b c o (a c o h)
theorem bO.free (e:bO H H') {l:aw} (h:H' l=ab):H l=ab:=by
 cases q:H l with
 |none=>rfl
 |some o=>
  rw[e l o q] at h;cases h
theorem bO.seq {xs:ac V} (e:bO H H') (h:SqL K H a xs):SqL K H' a xs:=by
 rcases h with(h|⟨o,h⟩)|h
 .exact .inl (.inl (e _ _ h))
 .exact .inl (.inr ⟨o,e _ _ h⟩)
 .exact .inr h
variable {elt:Expr} {ifs:ac Expr}
theorem F9 {target:Expr} {it acc:Value} (I:al->aI->Prop)
  (turn:∀n s,I n s->aM .(Q) A (jO it) (fun r s₁=>match r with
   |none=>R (.ok .next) s₁
   |some v=>aM .(Q) A (uO target it v) (fun _ s₁'=>aM .(Q) A (kA target env v) (fun _ s₂ =>
     aM .(Q) A (uZ ifs ai fun c r=>if r=ai then do let ok ←isTrue c env (eval c env);bB (rL ok) else bB (rL r)) (fun ok s₃ =>
      if ok=ai then aM .(Q) A (eval elt env) (fun x s₄ =>
       aM .(Q) A (call (.builtin "list.append") [acc,x]) (fun _ s₅=>∃m,m<n/\I m s₅) (fun _ _=>False) s₄) (fun _ _=>False) s₃
      else ∃m,m<n/\I m s₃) (fun _ _=>False) s₂) (fun _ _=>False) s₁') (fun _ _=>False) s₁) (fun _ _=>False) s)
  (n:al) (h:I n s) :
  iu .(Q) A (.compLoop (.ListComp elt [⟨target,iter,ifs,0⟩] scope pos) 0 it acc env) R s:=by
 refine codeAny_loop rfl I (fun n s hI=>?_) n h;show aM _ A ((compTurn (.ListComp elt [⟨target,iter,ifs,0⟩] scope pos) 0 it acc env).onRaise (fun x=>do noteFrame x env;theTreesLotGoes x)) _ _ s;refine wpAny_noted ?_;rw[compTurn_list];refine qx (Ev (qx (gY (turn n s hI) (fun r s₁ h₁=>?_) fun _ _ h'=>h'.elim)));cases r with
 |none=>exact qz h₁
 |some v=>
  refine qx (gY h₁ (fun _ s₁' h₁'=>?_) fun _ _ h'=>h'.elim);refine qx (gY h₁' (fun _ s₂ h₂=>qx (gY h₂ (fun ok s₃ h₃=>?_) fun _ _ h'=>h'.elim)) fun _ _ h'=>h'.elim);cases ok with
  |false=>exact qz ⟨rfl,h₃⟩
  |true=>
   exact qx (qx (gY h₃ (fun x s₄ h₄=>qx (gY h₄ (fun _ s₅ h₅=>qz (qz ⟨rfl,h₅⟩)) fun _ _ h'=>h'.elim)) fun _ _ h'=>h'.elim))
noncomputable def iX (X:Cx) (N':ac ak) (scope:Scope) (cl:ac (ak×aw)) (C:aw) (s₀:aI) (H₀:Hp) (fp:ac aw):Cx:=
 {X with N:=N',s₀:=s₀,H₀:=H₀,env:=EX scope cl C X.env,outer:=X.stack,stack:=X.stack,ex:=fp,fn:=fun _=>aq,pn:=[],xe:=fun _ _=>False}
noncomputable def ff (env:dc):ac (ak×gZ)->ac (ak×aw)->ac (ak×aw)
 |[],acc=>acc
 |(n,k)::r,acc=>ff env r (if k==.free then (match env.cells.lookup n with|some c=>(n,c)::acc|none=>acc) else acc)
theorem MB (h:∀y∈scope.names,y.2=.free->∃c,env.cells.lookup y.1=aa c):closureFor scope env=bB (ff env scope.names []):=by
 have all:∀(l:ac (ak×gZ)) (acc:ac (ak×aw)),(∀y∈l,y.2=.free->∃c,env.cells.lookup y.1=aa c)->
   (uZ l acc fun x r=>match x with
    |(name,kind)=>if kind==.free then do let c ←cellOf env name;bB (rL ((name,c)::r)) else bB (rL r):Sem (ac (ak×aw)))=bB (ff env l acc):=by
  intro l
  induction l with
  |nil=>intro acc _;rfl
  |cons y r ih=>
   intro acc hl;obtain⟨n,k⟩:=y;rw[List.forIn_cons];have hr:∀y∈r,y.2=.free->∃c,env.cells.lookup y.1=aa c:=fun y hy=>hl y (qi _ hy);unfold ff;cases hk:(k==nh) with
   |false=>
    simp only[hk,qr,c4,pure_bind];exact ih acc hr
   |true=>
    obtain⟨c,hc⟩:=hl (n,k) qh (by simpa using hk);have hc':env.cells.lookup n=aa c:=hc;simp only[hk,cA,cellOf,hc',pure_bind];exact ih _ hr
 have e:=all scope.names [] h;exact Eq.trans (bind_pure _) e
theorem xQ {env:dc}:∀(l:ac (ak×gZ)) (acc:ac (ak×aw)),(∀x c,acc.lookup x=aa c->env.cells.lookup x=aa c)->∀x c,(ff env l acc).lookup x=aa c->env.cells.lookup x=aa c
 |[],_,h=>h
 |(n,k)::r,acc,h=>by
  unfold ff;refine xQ r _ ?_;split
  .split
   .rename_i c hc;intro x d hx;rw[oQ] at hx;cases e:x==n with
    |true=>
     rw[e] at hx;have e':x=n:=by simpa using e
     have e2:c=d:=qG hx;rw[e',←e2];exact hc
    |false=>rw[e] at hx;exact h x d hx
   .exact h
  .exact h
theorem zM {env:dc}:∀(l:ac (ak×gZ)) (acc:ac (ak×aw)) (x:ak),(acc.lookup x).isSome=ai->((ff env l acc).lookup x).isSome=ai
 |[],_,_,h=>h
 |(n,k)::r,acc,x,h=>by
  unfold ff;refine zM r _ x ?_;split
  .split
   .rw[oQ];split
    .rfl
    .exact h
   .exact h
  .exact h
theorem xZ {env:dc}:∀(l:ac (ak×gZ)) (acc:ac (ak×aw)) (x:ak) (c:aw),(x,nh)∈l->env.cells.lookup x=aa c->((ff env l acc).lookup x).isSome=ai
 |[],_,_,_,h,_=>nomatch h
 |(n,k)::r,acc,x,c,h,hc=>by
  unfold ff;rcases cM.mp h with e|h
  .injection e with e1 e2;subst e1;subst e2;refine zM r _ _ ?_;rw[qX (by rfl),hc];simp
  .exact xZ r _ x c h hc
theorem tm {env:dc}:∀(names:ac (ak×gZ)) (x:ak) (k':gZ),
  (names.map fun(n,k)=>if .(ah) then (n,y7) else (n,k)).lookup x=aa k'->
  names.lookup x=aa k'\/(k'=.cell/\names.lookup x=aa .free)
 |[],_,_,h=>by simp at h
 |(n,k)::r,x,k',h=>by
  have ih:=@tm env r x k';have h':dz x ((if .(ah)=ai then (n,y7) else (n,k))::(r.map fun(n,k)=>if .(ah) then (n,y7) else (n,k)))=aa k':=h;cases hx:x==n with
  |true=>
   by_cases hc:.(ah)=ai
   .rw[qX hc] at h';simp only[oQ,hx] at h' ⊢;have hk:k=.free:=by simp only[gI,kC] at hc;exact hc.1.1
    right
    exact⟨(qG h').symm,by rw[hk]⟩
   .rw[qY hc] at h';simp only[oQ,hx] at h' ⊢;exact .inl h'
  |false=>
   have h2:dz x (r.map fun(n,k)=>if .(ah) then (n,y7) else (n,k))=aa k':=by
    by_cases hc:.(ah)=ai
    .rw[qX hc] at h';simpa only[oQ,hx] using h'
    .rw[qY hc] at h';simpa only[oQ,hx] using h'
   simp only[oQ,hx];exact ih h2
structure CompScope (X:Cx) (scope:Scope):Prop where
 kind:scope.kind=.function
 nocell:∀y∈scope.names,y.2≠.cell
 names:∀y∈scope.names,y.2=.local->scope.names.lookup y.1=aa .local
 free:∀y∈scope.names,y.2=.free->X.env.kindOf y.1=aa .cell\/X.env.kindOf y.1=aa .free
noncomputable def iV (fv:ac (ar al)) (σ:St):St:=fv.map fun o=>o.bind fun j=>(σ[j]?).join
variable {N':ac ak} {fv:ac (ar al)}
theorem Bu (I:Inv X pins σ H s) (S:CompScope X scope):closureFor scope X.env=bB (ff X.env scope.names []):=
 MB fun y hy hf=>I.ok.has y.1 (S.free y hy hf)
theorem N4 (I:Inv X pins σ H s) (S:CompScope X scope) (hf:∀b∈fp,gQ X pins H b) (hlt:∀b∈fp,b<s.heap.objs.size) (hC:s.heap.objs.size<=C) :
  (iX X N' scope (ff X.env scope.names []) C s H fp).Ok:=by
 have sub:=xQ (env:=X.env) scope.names [] (fun x c h=>by simp at h);refine⟨I.ok.mod,S.kind,I.ok.glob,I.ok.blt,hC,fun x y c h1 h2=>I.ok.inj x y c (sub x c h1) (sub y c h2),fun x hx=>?_,fun x c h _=>by simp[iX] at h,I.ok.hd,I.ok.frames,.inl rfl,fun b hb=>⟨?_,fun x c e=>?_⟩,I.bs,qL I.ok.bsz I.sz,
  fun b o e hb=>?_,fun b hb=>?_,I.stack,I.stkFree⟩
 .have hx':((y9 scope X.env).names.lookup x=aa .cell\/(y9 scope X.env).names.lookup x=aa .free):=hx;have hfr:scope.names.lookup x=aa .free:=by
   rcases hx' with h|h
   .rcases tm _ _ _ h with h|⟨_,h⟩
    .exact bN rfl (S.nocell _ (m5 h))
    .exact h
   .rcases tm _ _ _ h with h|⟨h,_⟩
    .exact h
    .cases h
  have hm:=m5 hfr;obtain⟨c,hc⟩:=I.ok.has x (S.free _ hm rfl);exact g0.mp (xZ _ _ x c hm hc)
 .exact qB (qE (hlt b hb) hC)
 .exact(hf b hb).2.2.2.2.1 x c (sub x c e)
 .rcases(hf b hb).2.2.2.1 with z|z
  .exact I.ok.noex b o e z
  .exact bN (qE (qv e) I.ok.bsz) (u0.mpr z)
 .intro z;rcases cM.mp (I.stkSub b z) with e|e
  .exact(hf b hb).2.1 e
  .exact(hf b hb).2.2.1 e
theorem OW (I:Inv X pins σ H s) (S:CompScope X scope) (hf:∀b∈fp,gQ X pins H b) (hlt:∀b∈fp,b<s.heap.objs.size) (hC:C=s.heap.objs.size) (hlen:fv.length=N'.length)
  (hfv:∀(i j:al) x,N'[i]?=aa x->fv[i]?=aa (aa j)->X.N[j]?=aa x/\(X.env.kindOf x=aa .cell\/X.env.kindOf x=aa .free)/\scope.names.lookup x=aa .free) {m:ak->ar Value} (hn:h'.Ns C m) (hk:∀b o,s.heap.get? b=aa o->h'.get? b=aa o) :
  Inv (iX X N' scope (ff X.env scope.names []) C s H fp) [] (iV fv σ) H {s with heap:=h',toks:=t'}:=by
 have ok:=N4 (N':=N') I S hf hlt (C:=C) (yH hC.symm);have sub:=xQ (env:=X.env) scope.names [] (fun x c h=>by simp at h);refine⟨ok,rfl,I.bare,Un.kept hk,⟨m,hn,fun i x v e1 e2 e3=>?_⟩,fun x c e=>?_,?_,fun x c e=>I.freeC x c (sub x c e),fun p hp=>?_,I.hok.kept hk,?_⟩
 .have e1':N'[i]?=aa x:=e1;have e2':(iV fv σ)[i]?=aa (aa v):=e2;unfold iV at e2';rw[ql] at e2';cases q:fv[i]? with
  |none=>rw[q] at e2';cases e2'
  |some o=>
   rw[q] at e2';cases o with
   |none=>cases e2'
   |some j=>
    have e2'':(σ[j]?).join=aa v:=by simpa using e2'
    obtain⟨hN,hkk,hfree⟩:=hfv i j x e1' q;have hσ:σ[j]?=aa (aa v):=by
     cases z:σ[j]? with
     |none=>rw[z] at e2'';cases e2''
     |some w=>rw[z] at e2'';cases w with
      |none=>cases e2''
      |some w'=>simp at e2'';rw[e2'']
    obtain⟨m0,hn0,hl⟩:=I.loc;obtain⟨u,r,l⟩:=hl j x v hN hσ (.inr hkk);refine⟨u,r,.inr ⟨?_,?_⟩⟩
    .rcases e3 with z|z|z
     .have z':(y9 scope X.env).names.lookup x=aa .local:=z;rcases tm _ _ _ z' with y|⟨y,_⟩
      .rw[hfree] at y;cases y
      .cases y
     .exact .inl z
     .exact .inr z
    .rcases l with⟨k,_⟩|⟨_,c,hc,hcell⟩
     .rcases hkk with y|y
      .rw[k] at y;cases y
      .rw[k] at y;cases y
     .obtain⟨c',hc'⟩:=g0.mp (xZ scope.names [] x c (m5 hfree) hc);have e:=sub x c' hc';rw[hc] at e;cases e;obtain⟨oc,ho,hd⟩:=hcell;exact⟨c,hc',oc,hk _ _ ho,hd⟩
 .obtain⟨v,oc,ho,hd⟩:=I.cell x c (sub x c e);exact⟨v,oc,hk _ _ ho,hd⟩
 .exact I.hok.fresh (yH hC.symm)
 .exact bN (show p∈([]:ac (aw×bd)) from hp) (by simp)
 .show(iV fv σ).length=N'.length;unfold iV;rw[qg,hlen]
theorem O5 (I:Inv X pins σ H s) {cl:ac (ak×aw)} (hf:∀b∈fp,gQ X pins H b) (hC:s.heap.objs.size<=C) {σ':St} {pl:ac (aw×bd)} 
  (J:Inv (iX X N' scope cl C s H fp) pl σ' H' s') (hs:iq C s'.heap h'):Inv X pins σ H' {s' with heap:=h'}:=by
 have hCn:H' C=ab:=J.free;refine I.call' (ch:=fp) (s':={s' with heap:=h'}) J.os ?_ ?_ J.bare fun b hb=>⟨(hf b hb).2.2.2.1,(hf b hb).2.1,(hf b hb).2.2.2.2.1,(hf b hb).2.2.2.2.2⟩
 .have U:Un (frs X.stack) fp H H' s.heap s'.heap:=J.base;have neC:∀b o,s.heap.get? b=aa o->b≠C:=fun b o e=>qB (qE (qv e) hC);refine⟨fun b o e n h1 h2=>?_,fun b o e n h1 h2=>?_,U.free,fun b o e h2=>?_,U.tups,U.frzs,U.tbls⟩
  .exact(hs.2 b (neC b o e)).trans (U.keep b o e n h1 h2)
  .obtain⟨sl,q⟩:=U.slot b o e n h1 h2;exact⟨sl,(hs.2 b (neC b o e)).trans q⟩
  .obtain⟨o',q⟩:=U.there b o e h2;exact⟨o',(hs.2 b (neC b o e)).trans q⟩
 .intro b u e;refine(J.hok b u e).stay (fun c v hc q=>(hs.2 c ?_).trans q) (fun _ q=>q) fun _ _ q=>q;rintro rfl;rcases hc with z|z
  .rw[←z,hCn] at e;cases e
  .rw[hCn] at z;cases z
noncomputable def PTs (X:Cx) (es:ac Expr) (t:TT):Prop:=
 ∀(pins:ac (aw×bd)) (s:aI) (σ:St) (H:Hp) (Q:aX->Hp->Prop),Inv X pins σ H s->t σ H Q->
  aM .(q) X.A (uZ es ai fun c r=>if r=ai then do let ok ←isTrue c X.env (eval c X.env);bB (rL ok) else bB (rL r)) (TP X pins σ Q) X.xe s
noncomputable def J2:TT:=fun _ H Q=>Q ai H
theorem KR :PTs X [] J2:=fun _ _ _ H _ I h=>wpAny_tests_nil ⟨H,I,h⟩
theorem KJ {t:TT} (hc:PT X c t):PTs X [c] t:=fun pins s σ H Q I h=>wpAny_tests_one (hc pins s σ H Q I h)
noncomputable def LcW (J:It) (g:TG) (tc:TT) (te:TE) (acc:aw) (Q:V->Hp->Prop) (σ0:St) (H1:Hp):Prop:=
 ∃W:al->al->ac V->St->Hp->Prop,(∃m,W 0 m [] σ0 (upd H1 acc (.lst [])))/\∀i m ys σ' H',W i m ys σ' H'->H' acc=aa (.lst ys) /\
  ((J.stop i H'/\Q (.ref acc) H')\/(J.go i H'/\∀x H2,J.yld i H' x H2->g x σ' H2 fun σ2 H3=>tc σ2 H3 fun b H4=>
   if b=ai then te σ2 H4 fun v H5=>H5 acc=aa (.lst ys)/\ys.length<aV/\∃m',m'<m/\W (i+1) m' (ys++[v]) σ2 (upd H5 acc (.lst (ys++[v])))
   else ∃m',m'<m/\W (i+1) m' ys σ2 H4))
noncomputable def tLC (wi:TI) (g:TG) (tc:TT) (te:TE) (fv:ac (ar al)):TE:=fun σ H Q=>wi σ H fun J H1=>∀acc,H1 acc=ab->LcW J g tc te acc Q (iV fv σ) H1
noncomputable def PB (X:Cx) (N':ac ak) (scope:Scope) (tg:Expr) (ifs:ac Expr) (elt:Expr) (g:TG) (tc:TT) (te:TE):Prop:=
 ∀(cl:ac (ak×aw)) (C:aw) (s₀:aI) (H₀:Hp) (fp:ac aw),PG (iX X N' scope cl C s₀ H₀ fp) tg g/\PTs (iX X N' scope cl C s₀ H₀ fp) ifs tc/\PE (iX X N' scope cl C s₀ H₀ fp) elt te
structure FvOk (X:Cx) (N':ac ak) (scope:Scope) (fv:ac (ar al)):Prop where
 len:fv.length=N'.length
 at':∀(i j:al) x,N'[i]?=aa x->fv[i]?=aa (aa j)->X.N[j]?=aa x/\(X.env.kindOf x=aa .cell\/X.env.kindOf x=aa .free)/\scope.names.lookup x=aa .free
variable {spos:dq}
section
variable {g:TG}
theorem CP {s2:aI} {it:aw} {tn:al->Heap->Prop} {J:It} {Q:VK} {RR:Value->aw->Result->aI->Prop} (hc:X.calm=ai) (S:CompScope X scope) (F:FvOk X N' scope fv) (hb:PB X N' scope tg ifs elt g tc te)
  (I2:Inv X pins σ H1 s2) (T:Turn X.prog X.w X.K tg J fp it tn) (st2:tn 0 s2.heap) (f2:∀b∈fp,gQ X pins H1 b) (q:∀acc,H1 acc=ab->LcW J g tc te acc Q (iV fv σ) H1)
  (hRR:∀(a C:aw) (H':Hp) (s':aI) (m:ak->ar Value),s'.heap.Ns C m->(∀h',iq C s'.heap h'->Inv X pins σ H' {s' with heap:=h'})->gQ X pins H' C->Q (.ref a) H'->RR (.ref a) C (.ok .next) s') :
  aM .(q) X.A (newList []) (fun acc s₃=>aM .(q) X.A (newFunctionEnv scope X.env.globals (ff X.env scope.names []) [] X.env.qual ab .none (aa X.env)) (fun cenv s₄ =>
   iu .(q) X.A (.compStart .(F) 0 (.ref it) acc {cenv with scope:=y9 scope X.env}) (RR acc cenv.locals) s₄) X.xe s₃) X.xe s2:=by
 refine lQ ?_;have hacc:H1 s2.heap.objs.size=ab:=I2.fresh;have I3:Inv X pins σ (upd H1 s2.heap.objs.size (.lst [])) {s2 with heap:=s2.heap.push {cls:=.type "list",data:=.seq ([]:ac Value).toArray} }:=I2.lnew (t':=s2.toks) .nil (ix _);generalize hs3:({s2 with heap:=s2.heap.push {cls:=.type "list",data:=.seq ([]:ac Value).toArray} }:aI)=s3 at I3 ⊢;have up:∀b o,s2.heap.get? b=aa o->s3.heap.get? b=aa o:=fun b o e=>by rw[←hs3];exact qu _ e
 have lt2:∀b∈fp,b<s2.heap.objs.size:=fun b hb=>by obtain⟨o,e,_⟩:=T.obj 0 _ st2 b hb;exact qv e
 have sz3:s2.heap.objs.size<s3.heap.objs.size:=by rw[←hs3];show _<(s2.heap.push _).objs.size;rw[mZ];exact uS _
 have lt3:∀b∈fp,b<s3.heap.objs.size:=fun b hb=>rH (lt2 b hb) sz3;have f3:∀b∈fp,gQ X pins (upd H1 s2.heap.objs.size (.lst [])) b:=fun b hb=>⟨by rw[a4 (qB (lt2 b hb))];exact(f2 b hb).1,(f2 b hb).2⟩;have st3:tn 0 s3.heap:=T.keep _ _ _ st2 fun b _ o e=>up b o e;refine wpAny_newFunctionEnv S.nocell (by intro y hy;simp at hy) (fun h4 hn4 sb4=>?_) S.kind;have k4:∀b o,s3.heap.get? b=aa o->h4.get? b=aa o:=fun b o e=>(sb4.2 b (qB (qv e))).trans (qu _ e);have st4:tn 0 h4:=T.keep _ _ _ st3 fun b _ o e=>k4 b o e;have I4:=OW I3 S f3 lt3 (C:=s3.heap.objs.size) rfl F.len F.at' hn4 k4 (t':=s3.toks+([]:ac (ak×Value)).length);generalize hX:iX X N' scope (ff X.env scope.names []) s3.heap.objs.size s3 (upd H1 s2.heap.objs.size (.lst [])) fp=X' at I4;obtain⟨bg,bt,be⟩:=hb (ff X.env scope.names []) s3.heap.objs.size s3 (upd H1 s2.heap.objs.size (.lst [])) fp;rw[hX] at bg bt be;have hprog:X'.prog=X.prog:=by rw[←hX];rfl
 have hw:X'.w=X.w:=by rw[←hX];rfl
 have hK:X'.K=X.K:=by rw[←hX];rfl
 have hA:X'.A=X.A:=by rw[←hX];rfl
 have hcalm:X'.calm=ai:=by rw[←hX];exact hc
 have hxe:X'.xe=fun _ _=>False:=by rw[←hX];rfl
 have henv:X'.env=EX scope (ff X.env scope.names []) s3.heap.objs.size X.env:=by rw[←hX];rfl
 have stat:∀{H':Hp},(∀b∈fp,H' b=ab)->∀b∈fp,gQ X' [] H' b:=fun {H'} hn b hb=>by have f:=f3 b hb;have ok:=I4.ok;refine⟨hn b hb,(ok.exf b (by rw[←hX];exact hb)).1,ok.exfs b (by rw[←hX];exact hb),.inl (by rw[←hX];exact hb),fun x c e=>(ok.exf b (by rw[←hX];exact hb)).2 x c e,fun p hp=>?_⟩;rw[←hX] at hp;exact bN (show p∈([]:ac (aw×bd)) from hp) (by simp)
 obtain⟨W,⟨m0,w0⟩,turn⟩:=q s2.heap.objs.size hacc;have loop:∀s5:aI,s5={s3 with heap:=h4,toks:=s3.toks+([]:ac (ak×Value)).length} ->
   iu .(q) X.A (.compLoop .(F) 0 (.ref it) (.ref s2.heap.objs.size) (EX scope (ff X.env scope.names []) s3.heap.objs.size X.env))
    (RR (.ref s2.heap.objs.size) s3.heap.objs.size) s5:=by
  intro s5 hs5;refine F9 (fun n s'=>∃i ys σ' H',Inv X' [] σ' H' s'/\tn i s'.heap/\(∀b∈fp,H' b=ab)/\W i n ys σ' H') ?_ m0 ⟨0,[],iV fv σ,_,hs5▸I4,hs5▸st4,fun b hb=>(f3 b hb).1,w0⟩;rintro n s6 ⟨i,ys,σ6,H6,I6,st6,fr6,w6⟩;obtain⟨ha6,turn6⟩:=turn i n ys σ6 H6 w6;rw[←henv];rcases turn6 with⟨stop,qn⟩|⟨go,step⟩
  .have d:=T.done X' hprog hw hK hcalm i [] s6 σ6 H6 (fun _ _=>False) I6 (stat fr6) st6 stop;rw[hA] at d;refine thn d fun r s7 ⟨hr,I7⟩=>?_;subst hr;obtain⟨m7,hn7,_⟩:=I7.loc;have hl:X'.env.locals=s3.heap.objs.size:=by rw[henv];rfl
   refine hRR _ _ H6 s7 m7 (hl▸hn7) (fun h' hs'=>?_) ?_ qn
   .rw[←hX] at I7;exact O5 I3 f3 (qw _) I7 hs'
   .exact I3.fpOk (qw _) (by have:=I7.free;rw[hl] at this;exact this)
  .have d:=T.item X' hprog hw hK hcalm i [] s6 σ6 H6 (fun _ _=>False) I6 (stat fr6) st6 go;rw[hA] at d;refine thn d fun r s7 ⟨u,hr,h7⟩=>?_;subst hr;refine thn h7 fun _ s8 ⟨x,H8,I8,r8,y8,st8,fr8⟩=>?_;have I8':=I8.pinned (stat fr8) (T.obj _ _ st8);have dg:=bg _ s8 σ6 H8 x u _ I8' r8 (step x H8 y8);rw[hprog,hw,hA,hxe] at dg;refine thn dg fun _ s9 ⟨σ9,H9,I9,q9⟩=>?_;have dt:=bt _ s9 σ9 H9 _ I9 q9;rw[hprog,hw,hA,hxe] at dt;refine thn dt fun b s10 ⟨H10,I10,q10⟩=>?_;have again:∀{σ7:St} {H7:Hp} {s7:aI} {ys':ac V},Inv X' ([]++pp fp s8.heap) σ7 H7 s7->(∃m',m'<n/\W (i+1) m' ys' σ7 H7)->∃m,m<n/\∃i ys σ' H',Inv X' [] σ' H' s7/\tn i s7.heap/\(∀b∈fp,H' b=ab)/\W i m ys σ' H':=fun {σ7 H7 s7 ys'} I7 n7=>by obtain⟨m',hm,w7⟩:=n7;refine⟨m',hm,i+1,ys',σ7,H7,I7.unpinned,T.keep _ _ _ st8 fun b hb o e=>(I7.pin (b,o) (qP _ (qP _ (tt hb e)))).1,fun b hb=>?_,w7⟩;obtain⟨o,e,_⟩:=T.obj _ _ st8 b hb;exact(I7.pin (b,o) (qP _ (qP _ (tt hb e)))).2.1
   cases b with
   |false=>
    rw[qY qt] at q10 ⊢;exact again I10 q10
   |true=>
    rw[qX rfl] at q10 ⊢;have de:=be _ s10 σ9 H10 _ I10 q10;rw[hprog,hw,hA,hxe] at de;refine thn de fun v s11 ⟨y,H11,I11,r11,ha11,hz11,n11⟩=>?_;have da:=Bh _ s11 σ9 H11 (.ref s2.heap.objs.size) [y] (.ref s2.heap.objs.size) [v] (fun _ H'=>H'=upd H11 s2.heap.objs.size (.lst (ys++[y]))) I11 rfl (.cons r11 .nil) ⟨_,ys,y,rfl,rfl,ha11,hz11,rfl⟩;rw[hprog,hw,hA,hxe] at da;refine thn da fun _ s12 ⟨_,H12,I12,_,e12⟩=>?_;subst e12;exact again I12 n11
 exact codeAny_compStart_list (loop _ rfl) (T.self _ 0 _ _ _ st4 (loop _ rfl))
theorem Lx (hc:X.calm=ai) (S:CompScope X scope) (F:FvOk X N' scope fv) (hi:PI X tg iter wi) (hb:PB X N' scope tg ifs elt g tc te) (hs:∀x,oH iter X.env x=bB x:=by intro _;rfl) :
  PE X .(F) (tLC wi g tc te fv):=by
 intro pins s σ H Q I h;rw[eval_ListComp];refine Rb (use:=ab) rfl hs (Bu I S) S.kind S.names (thn (hi pins s σ H _ I h) fun x s1 h1=>thn h1 fun itv s2 h2=>?_);obtain⟨it,fp,tn,J,H1,e,I2,T,st2,f2,q⟩:=h2;subst e;refine CP (RR:=fun acc C=>compPost .(q) X.A X.xe ab (EP X pins σ Q) acc C) hc S F hb I2 T st2 f2 q ?_;intro a C H' s' m hn hI hCL hq;exact⟨m,hn,fun h' hs'=>⟨.ref a,H',hI h' hs',rfl,hq⟩⟩
theorem Bw {y:ak} (hN:X.N.Nodup) (hy:X.N[i]?=aa y) (hyl:X.env.scope.names.lookup y=aa .local) (hc:X.calm=ai) (S:CompScope X scope) (F:FvOk X N' scope fv) (hi:PI X tg iter wi) (hb:PB X N' scope tg ifs elt g tc te)
  (hsw:fK .(F) (aa (.Name y py)) spos.line X.env=bB ai)
  (hs:∀x,oH iter X.env x=bB x:=by intro _;rfl) :
  PS X (.Assign [.Name y py] .(F) spos) (pW (tLC wi g tc te fv) (pG i)):=by
 intro pins s σ H D I h;rw[exec_Assign_Name_used _ _ _ _ hsw];refine qx (Ev (qx ?_));show aM _ _ (do let _ ←comprehension .(F) scope X.env _ (newList []) aq (eval iter X.env) (aa (kA (.Name y py) X.env))) _ _ s;refine qx (gY (Rb (use:=aa (kA (.Name y py) X.env)) (Q:=fun _ s'=>SP X pins D .next s') rfl hs (Bu I S) S.kind S.names
  (thn (hi pins s σ H _ I h) fun x s1 h1=>thn h1 fun itv s2 h2=>?_)) (fun _ s' hq=>qz (qz hq)) fun _ _ e=>e)
 obtain⟨it,fp,tn,J,H1,e,I2,T,st2,f2,q⟩:=h2;subst e;refine CP (RR:=fun acc C=>compPost .(q) X.A X.xe (aa (kA (.Name y py) X.env)) (fun _ s'=>SP X pins D .next s') acc C) hc S F hb I2 T st2 f2 q ?_;intro a C H' s' m hn hI hCL hq;show aM _ _ (kA (.Name y py) X.env (.ref a)) _ _ _;have I':Inv X pins σ H' s':=hI s'.heap (EY _ _);refine QB ?_;refine DH (v:=.ref a) I' hN hy (.inl hyl) rfl (fun s'' I'' hch=>?_) (.inr hyl);obtain⟨ad,hsb,had⟩:=hch;obtain⟨f0,f1,f2',f3,f4,f5⟩:=hCL;have hne:C≠ad:=by
  rcases had with z|z
  .rw[z];exact f1
  .exact fun e=>f4 y ad z e.symm
 refine⟨m,hn.sameBut hsb hne,fun h' hs'=>?_⟩;exact⟨_,H',I''.turned (t':=s''.toks) (fun b o hb e=>(hs'.2 b hb).trans e) f0 f1 f3 f4 f5,hq⟩
end
noncomputable def Its (x:ak):It:=⟨fun i _=>i<x.cps.size,fun i H v H'=>H'=H/\∃c,x.cps[i]?=aa c/\v=.str ⟨#[c]⟩,fun i _=>i=x.cps.size⟩
theorem JQ {M:uM} {E:Value->aI->Prop} {n:ak} {it:Value} {Q:lO->aI->Prop} (hQ:Q () s):aM M A (uO (.Name n p) it u) Q E s:=qz hQ
theorem Aw {n:ak} {ty:c9} (it:aw) (x:ak) (t:Tok)
  (W:∀A:eB,A.handled=ab->Walks P w A it [it] [it] x.cps.size (SignAt x) (fun i h=>h.IsStrIter it ty x t i))
  (sf:∀(A:eB) (i:al) (s:aI) (Q:Value->aI->Prop) (E:Value->aI->Prop),s.heap.IsStrIter it ty x t i->Q (.ref it) s->aM (aQ P w) A (oG (.ref it)) Q E s):Turn P w K (.Name n p) (Its x) [it] it (fun i h=>h.IsStrIter it ty x t i) where
 mem:=by simp
 obj:=fun i h st b hb=>by
  have e:b=it:=by simpa using hb
  subst e;obtain⟨o,e,c,d⟩:=st;exact⟨o,e,fun v z=>by rw[d] at z;cases z⟩
 keep:=fun i h h' st k=>by obtain⟨o,e,r⟩:=st;exact⟨o,k it (by simp) o e,r⟩
 item:=by intro X hP hw hK hc i pins s σ H E I hf st hg;subst hP hw hK;obtain⟨f0,f1,f2,f3,f4,f5⟩:=hf it (by simp);refine(W X.A (I.ok.hd hc)).item i s _ _ hg st fun v h' tk hv st' kk=>?_;obtain⟨c,u,hcc,rfl⟩:=hv;have I1:Inv X pins σ H {s with heap:=h',toks:=tk}:=I.turned .(av) f0 f1 f3 f4 f5;exact⟨_,rfl,JQ ⟨.str ⟨#[c]⟩,H,I1,⟨_,rfl⟩,⟨rfl,c,hcc,rfl⟩,st',fun b hb=>(hf b hb).1⟩⟩
 done:=by intro X hP hw hK hc i pins s σ H E I hf st hg;subst hP hw hK;obtain⟨f0,f1,f2,f3,f4,f5⟩:=hf it (by simp);have hi:i=x.cps.size:=hg;subst hi;exact(W X.A (I.ok.hd hc)).done s _ _ st fun h' tk kk=>⟨rfl,I.turned .(av) f0 f1 f3 f4 f5⟩
 self:=sf
noncomputable def FK (te:TE):TI:=fun σ H R=>te σ H fun v H1=>∃x,v=.str x/\R (Its x) H1
theorem MK {n:ak} (he:PE X e te):PI X (.Name n p) e (FK te):=by
 intro pins s σ H R I h;refine thn (he pins s σ H _ I h) fun v s1 ⟨y,H1,I1,r1,q1⟩=>?_;obtain⟨x,e,q⟩:=q1;subst e;obtain⟨t,rfl⟩:=r1;have fin:∀(ty:c9) (o:bd),(s1.heap.push o).IsStrIter s1.heap.objs.size ty x t 0->Turn X.prog X.w X.K (.Name n p) (Its x) [s1.heap.objs.size] s1.heap.objs.size (fun i h=>h.IsStrIter s1.heap.objs.size ty x t i)->
   PIE X pins σ (.Name n p) R (.ref s1.heap.objs.size) {s1 with heap:=s1.heap.push o}:=fun ty o st T=>by
  refine⟨s1.heap.objs.size,[s1.heap.objs.size],_,_,H1,rfl,I1.kept (t':=s1.toks) fun b o e=>qu _ e,T,st,fun b hb=>?_,q⟩;have e:b=s1.heap.objs.size:=by simpa using hb
  subst e;exact I1.fpOk (qw _) (I1.hok.fresh (qw _))
 cases ha:x.cps.all (· < 128)
 .exact wpAny_pyIter_wide ha (fin _ _ ⟨_,qF _ rfl,rfl,rfl⟩ (Aw _ x t (fun A' hA=>Walks.strWide hA _ x t) fun _ _ _ _ _ st h=>wpAny_pyIter_striter_wide st h))
 .exact wpAny_pyIter_ascii ha (fin _ _ ⟨_,qF _ rfl,rfl,rfl⟩ (Aw _ x t (fun A' hA=>Walks.strAscii hA _ x t) fun _ _ _ _ _ st h=>wpAny_pyIter_striter_ascii st h))
noncomputable def Ite (K:bi) (a:aw):It:=
 ⟨fun i H=>∃xs x,SqL K H a xs/\xs[i]?=aa x,fun i H v H'=>∃T x,v=.ref T/\H T=ab/\H'=upd H T (.tup [.int i,x])/\∀xs,SqL K H a xs->xs[i]?=aa x,fun i H=>∃xs,SqL K H a xs/\xs.length<=i⟩
variable {elts:ac Expr}
theorem OC {k1:al} (e it a:aw) (hei:e≠it) :
  Turn P w K (.Tuple elts k1 pos) (Ite K a) [e,it] e (fun i h=>(∃old,IsEnum h e it i old)/\h.IsListIter it a i) where
 mem:=by simp
 obj:=fun i h st b hb=>by
  obtain⟨⟨old,he⟩,o,ho,c,d⟩:=st;rcases cM.mp hb with z|z
  .subst z;exact⟨_,he,fun v z=>by cases z⟩
  .have z':b=it:=by simpa using z
   subst z';exact⟨o,ho,fun v z=>by rw[d] at z;cases z⟩
 keep:=fun i h h' st k=>by obtain⟨⟨old,he⟩,hi⟩:=st;exact⟨⟨old,k e (by simp) _ he⟩,hi.at fun o x=>k it (by simp) o x⟩
 item:=by
  intro X hP hw hK hc i pins s σ H E I hf st hg;subst hP hw hK;obtain⟨xs,x,hq,hx⟩:=hg;obtain⟨its,rv,p,hz⟩:=I.list hq;obtain⟨u,hu,ru⟩:=rv.get hx;obtain⟨⟨old,he⟩,hit⟩:=st;obtain⟨e0,e1,e2,e3,e4,e5⟩:=hf e (by simp);obtain⟨f0,f1,f2,f3,f4,f5⟩:=hf it (by simp);have helt:e<s.heap.objs.size:=qv he;have hilt:it<s.heap.objs.size:=by obtain⟨_,x,_⟩:=hit;exact qv x
  refine wpAny_pyNext_enum_item he hit p.isList (x:=u) (by simpa using hu) hei fun h' ho hit' hT hsz hk=>?_;refine⟨_,rfl,wpAny_letOwnedTupleGo_enum ho fun h2 he2 hs2=>?_⟩;have hs2':iq e h' h2:=hs2;have kk:∀b o,b≠e->b≠it->s.heap.get? b=aa o->h2.get? b=aa o:=fun b o h1 h3 q=>(hs2'.2 b h1).trans (hk b o h1 h3 q);have hT2:h2.get? s.heap.objs.size=aa {cls:=.type "tuple",data:=.seq #[.int i s.toks,u]}:=(hs2'.2 _ (yB helt)).trans hT;have nH:H s.heap.objs.size=ab:=I.fresh;have I1:Inv X pins σ (upd H s.heap.objs.size (.tup [.int i,x])) {s with heap:=h2,toks:=s.toks+1}:=by
   have ne:∀b o,H b=aa o->b≠e/\b≠it:=fun b o q=>⟨fun z=>(by rw[z,e0] at q;cases q),fun z=>(by rw[z,f0] at q;cases q)⟩;refine I.step (g':=s.gens) (d':=s.drawn) (ch:=[e,it]) (fun b hb=>?_) (fun b o _ _ hc q _=>kk b o (fun z=>hc (by simp[z])) (fun z=>hc (by simp[z])) q) (fun b o _ _ hc q _=>⟨o.slots,kk b o (fun z=>hc (by simp[z])) (fun z=>hc (by simp[z])) q⟩) (fun b o _ q n=>?_)
    (fun b o hc q=>⟨o,kk b o (fun z=>hc (by simp[z])) (fun z=>hc (by simp[z])) q⟩) (fun b ys q=>?_) (fun b o y q=>?_) (fun b ps q=>⟨#[],?_⟩) (fun m hm=>?_) (fun b v q=>?_) I.bare
   .rcases cM.mp hb with z|z
    .subst z;exact⟨e3,e1,e4,e5⟩
    .have z':b=it:=by simpa using z
     subst z';exact⟨f3,f1,f4,f5⟩
   .rw[a4 (qB (qv q))];exact n
   .rw[a4 (b7 q nH)];exact q
   .rw[a4 (b7 q nH)];exact q
   .rw[a4 (b7 q nH),q];simp
   .obtain⟨o,es,ep,q,r⟩:=hm;exact⟨o,es,ep,kk _ o (dF e1) (dF f1) q,r⟩
   .by_cases hb:b=s.heap.objs.size
    .subst hb;rw[bW] at q;cases q;exact⟨by show 2<=aV;decide,[.int i s.toks,u],.cons ⟨_,rfl⟩ (.cons ru .nil),⟨_,hT2,rfl,_,rfl⟩⟩
    .rw[a4 hb] at q;refine(I.hok b v q).stay (fun c v hc r=>?_) (fun c r=>by rw[a4 (b7 r nH)];exact r) fun c ys r=>by rw[a4 (b7 r nH)];exact r
     rcases hc with z|z
     .rw[z] at r ⊢;exact kk b v (ne b _ q).1 (ne b _ q).2 r
     .exact kk c v (ne c _ z).1 (ne c _ z).2 r
  refine⟨.ref s.heap.objs.size,_,I1,rfl,⟨_,x,rfl,nH,rfl,fun ys hy=>by rw[I.list_inj hy hq];exact hx⟩,⟨⟨_,by simpa using he2⟩,hit'.at fun o y=>(hs2'.2 it hei.symm).trans y⟩,fun b hb=>?_⟩;rcases cM.mp hb with z|z
  .subst z;rw[a4 (qB helt)];exact e0
  .have z':b=it:=by simpa using z
   subst z';rw[a4 (qB hilt)];exact f0
 done:=by intro X hP hw hK hc i pins s σ H E I hf st hg;subst hP hw hK;obtain⟨xs,hq,hx⟩:=hg;obtain⟨its,rv,p,hz⟩:=I.list hq;obtain⟨⟨old,he⟩,hit⟩:=st;obtain⟨f0,f1,f2,f3,f4,f5⟩:=hf it (by simp);have hl:=rv.length;exact wpAny_pyNext_enum_end (I.ok.hd hc) he hit p.isList (by simp;omega) fun h' eb=>⟨rfl,I.turned (t':=s.toks) (fun b o hb e=>eb b o hb e) f0 f1 f3 f4 f5⟩
 self:=fun A i s Q E st h=>by obtain⟨⟨old,he⟩,_⟩:=st;exact Rc he h
noncomputable def P9 (K:bi) (ta:TA):TI:=fun σ H R=>ta σ H fun vs H1=>∃a,vs=[.ref a]/\(∃xs,SqL K H1 a xs)/\R (Ite K a) H1
theorem Iu {a:Expr} {ta:TA} {k1:al} (hg:Gl X "enumerate") (hm:X.mg "enumerate"=ab) (ha:PA X [a] ta) (hs:a6 [a] X.env=[(aq,eval a X.env)]:=by rfl) :
  PI X (.Tuple elts k1 tpos) (.Call (.Name "enumerate" p) [a] [] pos) (P9 X.K ta):=by
 intro pins s σ H R I h;refine Call_ (nS I hg hm Tk (yC (thn (ha pos pins s σ H _ I h) fun us s1 ⟨vs,H1,I1,r1,q1⟩=>?_) hs rfl));obtain⟨l,e,⟨xs,hq⟩,q⟩:=q1;subst e;obtain⟨u,rfl,r2⟩:=dY r1;cases r2;obtain⟨its,rv,pl,hz⟩:=I1.list hq;refine call_enumerate_list pl.isList fun h' he hit hsz hk=>?_;have I2:Inv X pins σ H1 {s1 with heap:=h'}:=I1.kept (t':=s1.toks) hk;refine Rc he ?_;refine⟨s1.heap.objs.size+1,[s1.heap.objs.size+1,s1.heap.objs.size],_,_,H1,rfl,I2,OC _ _ l (Nat.succ_ne_self _),⟨⟨_,he⟩,hit⟩,fun b hb=>?_,q⟩;rcases cM.mp hb with z|z
 .subst z;exact I1.fpOk (iy _) (I1.hok.fresh (iy _))
 .have z':b=s1.heap.objs.size:=by simpa using z
  subst z';exact I1.fpOk (qw _) (I1.hok.fresh (qw _))
inductive D where
 |non|bl (b:aX)|int (i:ag)|str (x:ak)|tup (l:ac D)|lst (l:ac D)|scr (ns:ac ag)
 |dk (l:ac (Key×D))|fdk (l:ac (Key×D))|dt (l:ac (ac Key×D))|ins (c:ak) (fs:ac (ak×D))|ty (n:c9)
noncomputable def vS:Key->D
 |.inl i=>.int i
 |.inr x=>.str x
structure Cn where
 cls:ak->ar aw
 self:ar aw:=ab
mutual
inductive Rep (Γ:Cn) (K:bi) (G:Hp):V->D->Prop where
 |non:Rep Γ K G .non .non
 |bl (b:aX):Rep Γ K G (.bl b) (.bl b)
 |int (i:ag):Rep Γ K G (.int i) (.int i)
 |str (x:ak):Rep Γ K G (.str x) (.str x)
 |ty (n:c9):Rep Γ K G (.ty n) (.ty n)
 |tup {a:aw} {vs:ac V} {ds:ac D}:G a=aa (.tup vs)->Reps Γ K G vs ds->Rep Γ K G (.ref a) (.tup ds)
 |lst {a:aw} {vs:ac V} {ds:ac D}:G a=aa (.lst vs)->Reps Γ K G vs ds->Rep Γ K G (.ref a) (.lst ds)
 |scr {a:aw} {ns:ac ag}:SqL K G a (ns.map V.int)->Rep Γ K G (.ref a) (.scr ns)
 |dk {a:aw} {us:ac (Key×V)} {kvs:ac (Key×D)}:G a=aa (.dK us)->us.map (·.1)=kvs.map (·.1)->Reps Γ K G (us.map (·.2)) (kvs.map (·.2))->Rep Γ K G (.ref a) (.dk kvs)
 |fdk {a:aw} {o:bd} {us:ac (Key×V)} {kvs:ac (Key×D)}:G a=aa (.frz o (.dK us))->us.map (·.1)=kvs.map (·.1)->Reps Γ K G (us.map (·.2)) (kvs.map (·.2))->Rep Γ K G (.ref a) (.fdk kvs)
 |dt {a:aw} {us:ac (ac Key×V)} {kvs:ac (ac Key×D)}:G a=aa (.dT us)->us.map (·.1)=kvs.map (·.1)->Reps Γ K G (us.map (·.2)) (kvs.map (·.2))->Rep Γ K G (.ref a) (.dt kvs)
 |ins {a C dx:aw} {c:ak} {us:ac (ak×V)} {fs:ac (ak×D)}:G a=aa (.ins C dx us)->Γ.cls c=aa C->us.map (·.1)=fs.map (·.1)->Reps Γ K G (us.map (·.2)) (fs.map (·.2))->Rep Γ K G (.ref a) (.ins c fs)
inductive Reps (Γ:Cn) (K:bi) (G:Hp):ac V->ac D->Prop where
 |nil:Reps Γ K G [] []
 |cons {v:V} {d:D} {vs:ac V} {ds:ac D}:Rep Γ K G v d->Reps Γ K G vs ds->Reps Γ K G (v::vs) (d::ds)
end
variable {Γ:Cn} {G G' G1:Hp}
section
variable {G2:Hp}
mutual
theorem Rep.mono:∀{v:V} {d:D},Rep Γ K G v d->bO G G'->Rep Γ K G' v d
 |_,_,.non,_=>.non
 |_,_,.bl b,_=>.bl b
 |_,_,.int i,_=>.int i
 |_,_,.str x,_=>.str x
 |_,_,.ty x,_=>.ty x
 |_,_,.tup h r,s=>.tup (s _ _ h) (r.mono s)
 |_,_,.lst h r,s=>.lst (s _ _ h) (r.mono s)
 |_,_,.scr h,s=>.scr (s.seq h)
 |_,_,.dk h e r,s=>.dk (s _ _ h) e (r.mono s)
 |_,_,.fdk h e r,s=>.fdk (s _ _ h) e (r.mono s)
 |_,_,.dt h e r,s=>.dt (s _ _ h) e (r.mono s)
 |_,_,.ins h c e r,s=>.ins (s _ _ h) c e (r.mono s)
theorem Reps.mono:∀{vs:ac V} {ds:ac D},Reps Γ K G vs ds->bO G G'->Reps Γ K G' vs ds
 |_,_,.nil,_=>.nil
 |_,_,.cons h r,s=>.cons (h.mono s) (r.mono s)
end
mutual
theorem Rep.re {Γ':Cn} (hc:Γ'.cls=Γ.cls):∀{v:V} {d:D},Rep Γ K G v d->Rep Γ' K G v d
 |_,_,.non=>.non
 |_,_,.bl b=>.bl b
 |_,_,.int i=>.int i
 |_,_,.str x=>.str x
 |_,_,.ty x=>.ty x
 |_,_,.tup h r=>.tup h (r.re hc)
 |_,_,.lst h r=>.lst h (r.re hc)
 |_,_,.scr h=>.scr h
 |_,_,.dk h e r=>.dk h e (r.re hc)
 |_,_,.fdk h e r=>.fdk h e (r.re hc)
 |_,_,.dt h e r=>.dt h e (r.re hc)
 |_,_,.ins h c e r=>.ins h (by rw[hc];exact c) e (r.re hc)
theorem Reps.re {Γ':Cn} (hc:Γ'.cls=Γ.cls):∀{vs:ac V} {ds:ac D},Reps Γ K G vs ds->Reps Γ' K G vs ds
 |_,_,.nil=>.nil
 |_,_,.cons h r=>.cons (h.re hc) (r.re hc)
end
theorem Reps.length:∀{vs:ac V} {ds:ac D},Reps Γ K G vs ds->vs.length=ds.length
 |_,_,.nil=>rfl
 |_,_,.cons _ r=>by rw[qj,qj,r.length]
theorem Reps.get:∀{vs:ac V} {ds:ac D} {i:al} {d:D},Reps Γ K G vs ds->ds[i]?=aa d->∃v,vs[i]?=aa v/\Rep Γ K G v d
 |_,_,_,_,.nil,e=>by simp at e
 |_,_,0,_,.cons r _,e=>by simp at e;subst e;exact⟨_,rfl,r⟩
 |_,_,i+1,d,.cons _ t,e=>by obtain⟨u,h1,h2⟩:=Reps.get (i:=i) (d:=d) t (by simpa using e);exact⟨u,by simpa using h1,h2⟩
theorem Reps.getV:∀{vs:ac V} {ds:ac D} {i:al} {v:V},Reps Γ K G vs ds->vs[i]?=aa v->∃d,ds[i]?=aa d/\Rep Γ K G v d
 |_,_,_,_,.nil,e=>by simp at e
 |_,_,0,_,.cons r _,e=>by simp at e;subst e;exact⟨_,rfl,r⟩
 |_,_,i+1,d,.cons _ t,e=>by obtain⟨u,h1,h2⟩:=Reps.getV (i:=i) (v:=d) t (by simpa using e);exact⟨u,by simpa using h1,h2⟩
theorem Reps.append:∀{vs ws:ac V} {ds es:ac D},Reps Γ K G vs ds->Reps Γ K G ws es->Reps Γ K G (vs++ws) (ds++es)
 |_,_,_,_,.nil,s=>s
 |_,_,_,_,.cons r t,s=>.cons r (t.append s)
theorem Reps.take:∀{vs:ac V} {ds:ac D} (n:al),Reps Γ K G vs ds->Reps Γ K G (vs.take n) (ds.take n)
 |_,_,0,_=>.nil
 |_,_,_+1,.nil=>.nil
 |_,_,n+1,.cons r t=>.cons r (t.take n)
theorem Reps.drop:∀{vs:ac V} {ds:ac D} (n:al),Reps Γ K G vs ds->Reps Γ K G (vs.drop n) (ds.drop n)
 |_,_,0,r=>r
 |_,_,_+1,.nil=>.nil
 |_,_,n+1,.cons _ t=>t.drop n
theorem Reps.ints:∀(ns:ac ag),Reps Γ K G (ns.map V.int) (ns.map D.int)
 |[]=>.nil
 |n::r=>.cons (.int n) (Reps.ints r)
theorem Reps.rep {vs:ac V} {ds:ac D} (h:Reps Γ K G vs ds):∀k:al,Reps Γ K G (ce k vs).flatten (ce k ds).flatten
 |0=>.nil
 |k+1=>by rw[lW,lW,oM,oM];exact h.append (Reps.rep h k)
structure Step (G H G' H':Hp):Prop where
 hh:bO H H'
 gg:bO G G'
 gh:bO G' H'
 out:∀a o,H a=aa o->G' a=G a
theorem Step.refl (gh:bO G H):Step G H G H:=⟨.refl _,.refl _,gh,fun _ _ _=>rfl⟩
theorem Step.trans (a:Step G H G1 H1) (b:Step G1 H1 G2 H2):Step G H G2 H2:=
 ⟨a.hh.trans b.hh,a.gg.trans b.gg,b.gh,fun c o e=>(b.out c o (a.hh c o e)).trans (a.out c o e)⟩
theorem Step.new {p:aw} {o:HO} (gh:bO G H) (hp:H p=ab):Step G H (upd G p o) (upd H p o):=by
 have gp:G p=ab:=gh.free hp;refine⟨fun b u e=>?_,fun b u e=>?_,fun b u e=>?_,fun b u e=>?_⟩
 .rw[a4 (b7 e hp)];exact e
 .rw[a4 (b7 e gp)];exact e
 .by_cases hb:b=p
  .subst hb;rw[bW] at e ⊢;exact e
  .rw[a4 hb] at e ⊢;exact gh b u e
 .rw[a4 (b7 e hp)]
theorem Step.newOwn {p:aw} {o:HO} (gh:bO G H) (hp:H p=ab):Step G H G (upd H p o):=by
 refine⟨fun b u e=>?_,.refl _,fun b u e=>?_,fun _ _ _=>rfl⟩
 .rw[a4 (b7 e hp)];exact e
 .rw[a4 (b7 (gh b u e) hp)];exact gh b u e
end
inductive Slot where
 |sh (d:D)
 |own (ds:ac D)
 |obj (c:ak) (fs:ac (ak×D))
 |objd (c:ak) (fs:ac (ak×D)) (n:ak) (kvs:ac (Key×D))
 |odk (kvs:ac (Key×D))
 |odt (kvs:ac (ac Key×D))
 |tlo (ds es:ac D)
 |pin (a:aw)
 |oll (dss:ac (ac D))
noncomputable abbrev bj:=ac (ar Slot)
noncomputable def Lh:D->aX
 |.non=>ai
 |.bl _=>ai
 |.int _=>ai
 |.str _=>ai
 |_=>aq
noncomputable def mQ (H:Hp):ac aw->ac (ac V)->Prop
 |[],[]=>True
 |p::ps,vs::vss=>H p=aa (.lst vs)/\mQ H ps vss
 |_,_=>False
noncomputable def pR (Γ:Cn) (K:bi) (G:Hp):ac (ac V)->ac (ac D)->Prop
 |[],[]=>True
 |vs::vss,ds::dss=>Reps Γ K G vs ds/\pR Γ K G vss dss
 |_,_=>False
theorem mQ.mem {H:Hp}:∀{ps:ac aw} {vss:ac (ac V)},mQ H ps vss->∀b∈ps,∃o,H b=aa o
 |[],_,_,b,hb=>by cases hb
 |p::ps,[],h,b,hb=>h.elim
 |p::ps,vs::vss,h,b,hb=>by
  rcases cM.mp hb with rfl|hb
  .exact⟨_,h.1⟩
  .exact h.2.mem b hb
theorem mQ.stay {H H':Hp}:∀{ps:ac aw} {vss:ac (ac V)},mQ H ps vss->(∀b∈ps,H' b=H b)->mQ H' ps vss
 |[],[],_,_=>trivial
 |[],_::_,h,_=>h.elim
 |p::ps,[],h,_=>h.elim
 |p::ps,vs::vss,h,e=>⟨(e p qh).trans h.1,h.2.stay fun b hb=>e b (qi _ hb)⟩
theorem pR.map {Γ:Cn} {K:bi} {G G':Hp} (f:∀{vs:ac V} {ds:ac D},Reps Γ K G vs ds->Reps Γ K G' vs ds):∀{vss:ac (ac V)} {dss:ac (ac D)},pR Γ K G vss dss->pR Γ K G' vss dss
 |[],[],_=>trivial
 |[],_::_,h=>h.elim
 |_::_,[],h=>h.elim
 |_::_,_::_,h=>⟨f h.1,h.2.map f⟩
theorem Do:∀{ps qs:ac aw},ps.map V.ref=qs.map V.ref->ps=qs
 |[],[],_=>rfl
 |[],_::_,h=>by cases h
 |_::_,[],h=>by cases h
 |p::ps,q::qs,h=>by have h1:=hU h;rw[V.ref.inj h1.1,Do h1.2]
inductive SR (Γ:Cn) (K:bi) (H₀ G H:Hp):Slot->V->ac aw->Prop where
 |sh {d:D} {v:V}:Rep Γ K G v d->SR Γ K H₀ G H (.sh d) v []
 |own {a:aw} {vs:ac V} {ds:ac D}:H₀ a=ab->G a=ab->H a=aa (.lst vs)->Reps Γ K G vs ds->SR Γ K H₀ G H (.own ds) (.ref a) [a]
 |obj {c:ak} {a C dx:aw} {vs:ac (ak×V)} {fs:ac (ak×D)}:Γ.cls c=aa C->H₀ a=ab->G a=ab->H a=aa (.ins C dx vs)->vs.map (·.1)=fs.map (·.1)->Reps Γ K G (vs.map (·.2)) (fs.map (·.2))->Γ.self=aa a->SR Γ K H₀ G H (.obj c fs) (.ref a) [a]
 |objd {c n:ak} {a C dx p:aw} {vs:ac (ak×V)} {fs:ac (ak×D)} {us:ac (Key×V)} {kvs:ac (Key×D)}:Γ.cls c=aa C->H₀ a=ab->G a=ab->H a=aa (.ins C dx (vs++[(n,.ref p)]))->vs.map (·.1)=fs.map (·.1)->Reps Γ K G (vs.map (·.2)) (fs.map (·.2))->
   H₀ p=ab->G p=ab->H p=aa (.dK us)->us.map (·.1)=kvs.map (·.1)->Reps Γ K G (us.map (·.2)) (kvs.map (·.2))->Γ.self=aa a->SR Γ K H₀ G H (.objd c fs n kvs) (.ref a) [a,p]
 |odk {a:aw} {us:ac (Key×V)} {kvs:ac (Key×D)}:H₀ a=ab->G a=ab->H a=aa (.dK us)->us.map (·.1)=kvs.map (·.1)->Reps Γ K G (us.map (·.2)) (kvs.map (·.2))->SR Γ K H₀ G H (.odk kvs) (.ref a) [a]
 |odt {a:aw} {us:ac (ac Key×V)} {kvs:ac (ac Key×D)}:H₀ a=ab->G a=ab->H a=aa (.dT us)->us.map (·.1)=kvs.map (·.1)->Reps Γ K G (us.map (·.2)) (kvs.map (·.2))->SR Γ K H₀ G H (.odt kvs) (.ref a) [a]
 |tlo {t p:aw} {vs ws:ac V} {ds es:ac D}:H₀ p=ab->G p=ab->H p=aa (.lst ws)->G t=aa (.tup (vs++[.ref p]))->Reps Γ K G vs ds->Reps Γ K G ws es->SR Γ K H₀ G H (.tlo ds es) (.ref t) [p]
 |pin (a:aw):SR Γ K H₀ G H (.pin a) (.ref a) []
 |oll {a:aw} {ps:ac aw} {vss:ac (ac V)} {dss:ac (ac D)}:(∀b∈a::ps,H₀ b=ab/\G b=ab)->(a::ps).Nodup->H a=aa (.lst (ps.map V.ref))->mQ H ps vss->pR Γ K G vss dss->SR Γ K H₀ G H (.oll dss) (.ref a) (a::ps)
variable {H₀:Hp}
section
variable {s:Slot}
theorem SR.fpt (r:SR Γ K H₀ G H s v fp):∀b∈fp,H₀ b=ab/\G b=ab/\∃o,H b=aa o:=by
 cases r with
 |sh r=>intro b hb;cases hb
 |own h1 h2 h3 _=>intro b hb;rw[bX.mp hb];exact⟨h1,h2,_,h3⟩
 |obj _ h1 h2 h3 _ _ _=>intro b hb;rw[bX.mp hb];exact⟨h1,h2,_,h3⟩
 |objd _ h1 h2 h3 _ _ q1 q2 q3 _ _ _=>
  intro b hb;rcases cM.mp hb with rfl|hb
  .exact⟨h1,h2,_,h3⟩
  .rw[bX.mp hb];exact⟨q1,q2,_,q3⟩
 |odk h1 h2 h3 _ _=>intro b hb;rw[bX.mp hb];exact⟨h1,h2,_,h3⟩
 |odt h1 h2 h3 _ _=>intro b hb;rw[bX.mp hb];exact⟨h1,h2,_,h3⟩
 |tlo h1 h2 h3 _ _ _=>intro b hb;rw[bX.mp hb];exact⟨h1,h2,_,h3⟩
 |pin a=>intro b hb;cases hb
 |oll h1 h2 h3 h4 _=>
  intro b hb;refine⟨(h1 b hb).1,(h1 b hb).2,?_⟩;rcases cM.mp hb with rfl|hb
  .exact⟨_,h3⟩
  .exact h4.mem b hb
theorem SR.stay (r:SR Γ K H₀ G H s v fp) (gg:bO G G') (hg:∀b∈fp,G' b=ab) (hh:∀b∈fp,H' b=H b):SR Γ K H₀ G' H' s v fp:=by
 cases r with
 |sh r=>exact .sh (r.mono gg)
 |own h1 h2 h3 h4=>exact .own h1 (hg _ (bX.mpr rfl)) ((hh _ (bX.mpr rfl)).trans h3) (h4.mono gg)
 |obj c h1 h2 h3 h4 h5 hs=>exact .obj c h1 (hg _ (bX.mpr rfl)) ((hh _ (bX.mpr rfl)).trans h3) h4 (h5.mono gg) hs
 |objd c h1 h2 h3 h4 h5 q1 q2 q3 q4 q5 hs=>
  exact .objd c h1 (hg _ qh) ((hh _ qh).trans h3) h4 (h5.mono gg) q1 (hg _ (qi _ qh)) ((hh _ (qi _ qh)).trans q3) q4 (q5.mono gg) hs
 |odk h1 h2 h3 h4 h5=>exact .odk h1 (hg _ (bX.mpr rfl)) ((hh _ (bX.mpr rfl)).trans h3) h4 (h5.mono gg)
 |odt h1 h2 h3 h4 h5=>exact .odt h1 (hg _ (bX.mpr rfl)) ((hh _ (bX.mpr rfl)).trans h3) h4 (h5.mono gg)
 |pin a=>exact .pin a
 |oll h1 h2 h3 h4 h5=>exact .oll (fun b hb=>⟨(h1 b hb).1,hg b hb⟩) h2 ((hh _ qh).trans h3) (h4.stay fun b hb=>hh b (qi _ hb)) (h5.map fun r=>r.mono gg)
 |tlo h1 h2 h3 h4 h5 h6=>exact .tlo h1 (hg _ (bX.mpr rfl)) ((hh _ (bX.mpr rfl)).trans h3) (gg _ _ h4) (h5.mono gg) (h6.mono gg)
theorem SR.stepS (r:SR Γ K H₀ G H s v fp) (t:Step G H G' H'):SR Γ K H₀ G' H' s v fp:=r.stay t.gg (fun b hb=>by
 obtain⟨_,h2,o,h3⟩:=r.fpt b hb;exact(t.out b o h3).trans h2) (fun b hb=>by
 obtain⟨_,_,o,h3⟩:=r.fpt b hb;rw[h3];exact t.hh b o h3)
end
theorem SR.uniq {s:Slot} {fq:ac aw} (r:SR Γ K H₀ G H s v fp) (q:SR Γ K H₀ G H s v fq):fp=fq:=by
 cases r with
 |sh r=>cases q;rfl
 |own h1 h2 h3 _=>cases q;rfl
 |obj _ h1 h2 h3 _ _ _=>cases q;rfl
 |objd _ h1 h2 h3 _ _ q1 q2 q3 _ _ _=>
  cases q with
  |objd _ _ _ k3 _ _ _ _ _ _ _ _=>
   rw[h3] at k3;have z:=(HO.ins.inj (qG k3)).2.2;have z2:=(Re z rfl).2;cases z2;rfl
 |odk h1 h2 h3 _ _=>cases q;rfl
 |odt h1 h2 h3 _ _=>cases q;rfl
 |pin a=>cases q;rfl
 |oll _ _ h3 _ _=>
  cases q with
  |oll _ _ k3 _ _=>
   rw[h3] at k3;rw[Do (HO.lst.inj (qG k3))]
 |tlo _ _ _ h4 _ _=>
  cases q with
  |tlo _ _ _ k4 _ _=>
   rw[h4] at k4;have z:=HO.tup.inj (qG k4);have z2:=(Re z rfl).2;cases z2;rfl
structure EnvRel (Γ:Cn) (K:bi) (H₀ G H:Hp) (ρ:bj) (σ:St):Prop where
 len:ρ.length=σ.length
 sl:∃fps:al->ac aw,(∀(i:al) s,ρ[i]?=aa (aa s)->∃v,σ[i]?=aa (aa v)/\SR Γ K H₀ G H s v (fps i)) /\
  ∀(i j:al) s t,i≠j->ρ[i]?=aa (aa s)->ρ[j]?=aa (aa t)->∀b∈fps i,b∉fps j
structure At (Γ:Cn) (K:bi) (G₀ H₀ G H:Hp) (ρ:bj) (σ:St):Prop where
 st:Step G₀ H₀ G H
 env:EnvRel Γ K H₀ G H ρ σ
noncomputable def gV (ρ:bj):Prop:=∀(i:al) s,ρ[i]?=aa (aa s)->∃d,s=.sh d
variable {G₀:Hp} {ρ:bj} {fp':ac aw} {d:D} {ds:ac D}
theorem EnvRel.ofSh (len:ρ.length=σ.length) (no:gV ρ) (sh:∀(i:al) d,ρ[i]?=aa (aa (.sh d))->∃v,σ[i]?=aa (aa v)/\Rep Γ K G v d):EnvRel Γ K H₀ G H ρ σ :=
 ⟨len,fun _=>[],fun i s e=>by obtain⟨d,rfl⟩:=no i s e;obtain⟨v,h1,h2⟩:=sh i d e;exact⟨v,h1,.sh h2⟩,fun _ _ _ _ _ _ _ b hb=>by cases hb⟩
theorem EnvRel.sh (E:EnvRel Γ K H₀ G H ρ σ) (i:al) (d:D) (e:ρ[i]?=aa (aa (.sh d))):∃v,σ[i]?=aa (aa v)/\Rep Γ K G v d:=by
 obtain⟨fps,h,_⟩:=E.sl;obtain⟨v,h1,h2⟩:=h i _ e;generalize fps i=fp at h2;cases h2 with
 |sh r=>exact⟨v,h1,r⟩
theorem EnvRel.own (E:EnvRel Γ K H₀ G H ρ σ) (i:al) (ds:ac D) (e:ρ[i]?=aa (aa (.own ds))):∃a vs,σ[i]?=aa (aa (.ref a))/\H₀ a=ab/\G a=ab/\H a=aa (.lst vs)/\Reps Γ K G vs ds:=by
 obtain⟨fps,h,_⟩:=E.sl;obtain⟨v,h1,h2⟩:=h i _ e;generalize fps i=fp at h2;cases h2 with
 |own q1 q2 q3 q4=>exact⟨_,_,h1,q1,q2,q3,q4⟩
theorem At.gh (A:At Γ K G₀ H₀ G H ρ σ):bO G H:=A.st.gh
theorem At.step (A:At Γ K G₀ H₀ G H ρ σ) (s:Step G H G' H'):At Γ K G₀ H₀ G' H' ρ σ:=by
 obtain⟨fps,h,ap⟩:=A.env.sl;exact⟨A.st.trans s,A.env.len,fps,fun i t e=>by obtain⟨v,h1,h2⟩:=h i t e;exact⟨v,h1,h2.stepS s⟩,ap⟩
theorem At.put (A:At Γ K G₀ H₀ G H ρ σ) {s':Slot} {v':V} 
  (hfp:fp=[]\/∃s v,ρ[i]?=aa (aa s)/\σ[i]?=aa (aa v)/\SR Γ K H₀ G H s v fp)
  (hH:∀b o,H b=aa o->b∉fp->H' b=aa o) (hS:SR Γ K H₀ G' H' s' v' fp') (hn:∀b∈fp',b∈fp\/H b=ab)
  (gg:bO G G') (gh:bO G' H') (out:∀b o,H b=aa o->b∉fp->G' b=G b) (out2:∀b∈fp,H₀ b=ab):At Γ K G₀ H₀ G' H' (ρ.set i (aa s')) (σ.set i (aa v')):=by
 obtain⟨fps,h,ap⟩:=A.env.sl;have hl:=A.env.len;have old:∀b∈fp,∀j t,j≠i->ρ[j]?=aa (aa t)->b∉fps j:=fun b hb j t hj e=>by
  rcases hfp with rfl|⟨s,v,h1,h2,h3⟩
  .cases hb
  .obtain⟨v2,h4,h5⟩:=h i s h1;rw[h2] at h4;cases h4;have efp:fp=fps i:=h3.uniq h5;subst efp;exact ap i j s t (dF hj) h1 e b hb
 have slj:∀(j:al) t,j≠i->ρ[j]?=aa (aa t)->∃v,σ[j]?=aa (aa v)/\SR Γ K H₀ G' H' t v (fps j):=fun j t hj e=>by
  obtain⟨v,h1,h2⟩:=h j t e;refine⟨v,h1,h2.stay gg (fun b hb=>?_) (fun b hb=>?_)⟩
  .obtain⟨_,q2,o,q3⟩:=h2.fpt b hb;exact(out b o q3 fun z=>old b z j t hj e hb).trans q2
  .obtain⟨_,_,o,q3⟩:=h2.fpt b hb;rw[q3];exact hH b o q3 fun z=>old b z j t hj e hb
 have no2:∀b o,H₀ b=aa o->b∉fp:=fun b o e z=>by rw[out2 b z] at e;cases e
 have hst:Step G₀ H₀ G' H':=⟨fun b o e=>hH b o (A.st.hh b o e) (no2 b o e),A.st.gg.trans gg,gh,fun b o e=>(out b o (A.st.hh b o e) (no2 b o e)).trans (A.st.out b o e)⟩;refine⟨hst,by simp[hl],fun j=>if j=i then fp' else fps j,fun j t e=>?_,fun j k t u hjk e1 e2 b hb=>?_⟩
 .by_cases hj:j=i
  .subst hj;have hlt:j < ρ.length:=by
    rcases je j ρ.length with q|q
    .exact q
    .rw[EZ (by simp;omega)] at e;cases e
   rw[uN hlt] at e;cases e;show ∃v,_/\SR _ _ _ _ _ _ v (if j=j then fp' else fps j);rw[qX rfl];exact⟨v',by rw[uN .(f)],hS⟩
  .rw[mY (dF hj)] at e ⊢;show ∃v,_/\SR _ _ _ _ _ _ v (if j=i then fp' else fps j);rw[qY hj];exact slj j t hj e
 .have cross:∀{k:al} {u:Slot},k≠i->ρ[k]?=aa (aa u)->∀b∈fp',b∉fps k:=fun {k u} hk e b hb hb2=>by
   rcases hn b hb with z|z
   .exact old b z k u hk e hb2
   .obtain⟨v,_,q⟩:=h k u e;obtain⟨_,_,o,q3⟩:=q.fpt b hb2;rw[z] at q3;cases q3
  replace hb:b∈(if j=i then fp' else fps j):=hb
  show b∉(if k=i then fp' else fps k);by_cases hj:j=i
  .subst hj;have hk:k≠j:=dF hjk;rw[qX rfl] at hb;rw[qY hk];rw[mY hjk] at e2;exact cross hk e2 b hb
  .rw[qY hj] at hb;rw[mY (dF hj)] at e1;by_cases hk:k=i
   .subst hk;rw[qX rfl];exact fun z=>cross hj e1 b z hb
   .rw[qY hk];rw[mY (dF hk)] at e2;exact ap j k t u hjk e1 e2 b hb
theorem At.setSh (A:At Γ K G₀ H₀ G H ρ σ) (r:Rep Γ K G v d):At Γ K G₀ H₀ G H (ρ.set i (aa (.sh d))) (σ.set i (aa v)):=
 A.put (fp:=[]) (fp':=[]) (.inl rfl) (fun b o e _=>e) (.sh r) (fun b hb=>by cases hb) (.refl _) A.gh (fun _ _ _ _=>rfl) (fun b hb=>by cases hb)
theorem At.setOwn (A:At Γ K G₀ H₀ G H ρ σ) (ha:H a=ab) (r:Reps Γ K G vs ds):At Γ K G₀ H₀ G (upd H a (.lst vs)) (ρ.set i (aa (.own ds))) (σ.set i (aa (.ref a))):=by have h0:H₀ a=ab:=A.st.hh.free ha;have hg:G a=ab:=A.gh.free ha;refine A.put (fp:=[]) (fp':=[a]) (.inl rfl) (fun b o e _=>by rw[a4 (b7 e ha)];exact e) (.own h0 hg bW r) (fun b hb=>.inr (by rw[bX.mp hb];exact ha)) (.refl _) (fun b o e=>?_) (fun _ _ _ _=>rfl) (fun b hb=>by cases hb);rw[a4 (b7 e hg)];exact A.gh b o e
theorem Qb {l:ac α} {x:α} (h:l[i]?=aa x):l.set i x=l:=by
 apply List.ext_getElem?;intro j;by_cases hj:j=i
 .subst hj;rw[uN (cX.mp h).1,h]
 .rw[mY (dF hj)]
theorem At.ch (A:At Γ K G₀ H₀ G H ρ σ) {s s':Slot} (hi:ρ[i]?=aa (aa s)) (hv:σ[i]?=aa (aa v)) (hs:SR Γ K H₀ G H s v fp)
  (hH:∀b o,H b=aa o->b∉fp->H' b=aa o) (hS:SR Γ K H₀ G' H' s' v fp') (hn:∀b∈fp',b∈fp\/H b=ab)
  (gg:bO G G') (gh:bO G' H') (out:∀b o,H b=aa o->b∉fp->G' b=G b):At Γ K G₀ H₀ G' H' (ρ.set i (aa s')) σ:=by
 have:=A.put (i:=i) (.inr ⟨s,v,hi,hv,hs⟩) hH hS hn gg gh out fun b hb=>(hs.fpt b hb).1
 rwa [Qb hv] at this
theorem At.get (A:At Γ K G₀ H₀ G H ρ σ) {s:Slot} (hi:ρ[i]?=aa (aa s)):∃v fp,σ[i]?=aa (aa v)/\SR Γ K H₀ G H s v fp:=by obtain⟨fps,h,_⟩:=A.env.sl;obtain⟨v,h1,h2⟩:=h i s hi;exact⟨v,_,h1,h2⟩
theorem At.chOwn (A:At Γ K G₀ H₀ G H ρ σ) {es:ac D} {ws:ac V} (hi:ρ[i]?=aa (aa (.own ds))) (ha:σ[i]?=aa (aa (.ref a))) (r:Reps Γ K G ws es):At Γ K G₀ H₀ G (upd H a (.lst ws)) (ρ.set i (aa (.own es))) σ:=by
 obtain⟨v,fp,h1,h2⟩:=A.get hi;rw[ha] at h1;cases h1;cases h2 with
 |own q1 q2 q3 q4=>
  refine A.ch hi ha (.own q1 q2 q3 q4) (fun b o e hb=>?_) (.own q1 q2 bW r) (fun b hb=>.inl hb) (.refl _) (fun b o e=>?_) (fun _ _ _ _=>rfl)
  .rw[a4 (fun z=>hb (bX.mpr z))];exact e
  .rw[a4 (b7 e q2)];exact A.gh b o e
theorem At.freeze (A:At Γ K G₀ H₀ G H ρ σ) (hi:ρ[i]?=aa (aa (.own ds))):∃G',bO G G'/\At Γ K G₀ H₀ G' H (ρ.set i (aa (.sh (.lst ds)))) σ:=by
 obtain⟨v,fp,h1,h2⟩:=A.get hi;cases h2 with
 |own q1 q2 q3 q4=>
  rename_i a vs;have sm:bO G (upd G a (.lst vs)):=fun b o e=>by rw[a4 (b7 e q2)];exact e
  refine⟨upd G a (.lst vs),sm,A.ch hi h1 (.own q1 q2 q3 q4) (fun b o e hb=>e) (.sh (.lst bW (q4.mono sm))) (fun b hb=>by cases hb) sm (fun b o e=>?_) (fun b o e hb=>?_)⟩
  .by_cases hb:b=a
   .subst hb;rw[bW] at e;cases e;exact q3
   .rw[a4 hb] at e;exact A.gh b o e
  .rw[a4 (fun z=>hb (bX.mpr z))]
mutual
inductive NewL (H G:Hp):V->D->Prop where
 |flat {v:V} {d:D}:Lh d=ai->NewL H G v d
 |tup {a:aw} {vs:ac V} {ds:ac D}:G a=aa (.tup vs)->NewLs H G vs ds->NewL H G (.ref a) (.tup ds)
 |lst {a:aw} {vs:ac V} {ds:ac D}:G a=aa (.lst vs)->H a=ab->NewLs H G vs ds->NewL H G (.ref a) (.lst ds)
inductive NewLs (H G:Hp):ac V->ac D->Prop where
 |nil:NewLs H G [] []
 |cons {v:V} {d:D} {vs:ac V} {ds:ac D}:NewL H G v d->NewLs H G vs ds->NewLs H G (v::vs) (d::ds)
end
inductive Fl where
 |nx|bk|ct|rt (d:D)|ow (ds:ac D)|nw (d:D)|od (kvs:ac (Key×D))
noncomputable abbrev FE:=bj->ar D
noncomputable abbrev FT:=bj->ar aX
noncomputable abbrev FA:=bj->ar (ac D)
noncomputable abbrev FS:=bj->ar (Fl×bj)
inductive TD (Γ:Cn) (K:bi) (f:FE) (σ:St) (H:Hp) (Q:VK):Prop where
 |mk:∀G₀ H₀ G ρ d,At Γ K G₀ H₀ G H ρ σ->f ρ=aa d->(∀v G' H',Step G H G' H'->Rep Γ K G' v d->Q v H')->TD Γ K f σ H Q
inductive TDt (Γ:Cn) (K:bi) (f:FT) (σ:St) (H:Hp) (Q:aX->Hp->Prop):Prop where
 |mk:∀G₀ H₀ G ρ b,At Γ K G₀ H₀ G H ρ σ->f ρ=aa b->(∀G' H',Step G H G' H'->Q b H')->TDt Γ K f σ H Q
inductive TDa (Γ:Cn) (K:bi) (f:FA) (σ:St) (H:Hp) (Q:ac V->Hp->Prop):Prop where
 |mk:∀G₀ H₀ G ρ ds,At Γ K G₀ H₀ G H ρ σ->f ρ=aa ds->(∀vs G' H',Step G H G' H'->Reps Γ K G' vs ds->Q vs H')->TDa Γ K f σ H Q
noncomputable def Ia (Γ:Cn) (K:bi) (E:Ends) (H₀ G' H':Hp) (σ':St):Fl->Prop
 |.nx=>E.nx σ' H'
 |.bk=>E.bk σ' H'
 |.ct=>E.ct σ' H'
 |.rt d=>∀v,Rep Γ K G' v d->E.rt v H'
 |.ow ds=>∀p vs,H₀ p=ab->G' p=ab->H' p=aa (.lst vs)->Reps Γ K G' vs ds->E.rt (.ref p) H'
 |.nw d=>∀v,Rep Γ K G' v d->NewL H₀ G' v d->E.rt v H'
 |.od kvs=>∀p us,H₀ p=ab->G' p=ab->H' p=aa (.dK us)->us.map (·.1)=kvs.map (·.1)->Reps Γ K G' (us.map (·.2)) (kvs.map (·.2))->E.rt (.ref p) H'
inductive TDs (Γ:Cn) (K:bi) (g:FS) (E:Ends) (σ:St) (H:Hp):Prop where
 |mk:∀G₀ H₀ G ρ fl ρ',At Γ K G₀ H₀ G H ρ σ->g ρ=aa (fl,ρ')->(∀σ' G' H',bO G G'->At Γ K G₀ H₀ G' H' ρ' σ'->Ia Γ K E H₀ G' H' σ' fl)->TDs Γ K g E σ H
inductive TDo (Γ:Cn) (K:bi) (f:FA) (σ:St) (H:Hp) (Q:VK):Prop where
 |mk:∀G₀ H₀ G ρ ds,At Γ K G₀ H₀ G H ρ σ->f ρ=aa ds->(∀p vs G' H',Step G H G' H'->H' p=ab->Reps Γ K G' vs ds->Q (.ref p) (upd H' p (.lst vs)))->TDo Γ K f σ H Q
structure DE (Γ:Cn) (X:Cx) (e:Expr) (f:FE):Prop where
 out:PE X e (TD Γ X.K f)
structure DT (Γ:Cn) (X:Cx) (e:Expr) (f:FT):Prop where
 out:PT X e (TDt Γ X.K f)
structure DW (Γ:Cn) (X:Cx) (e:Expr) (f:FT):Prop where
 out:PW X e (TDt Γ X.K f)
structure DA (Γ:Cn) (X:Cx) (es:ac Expr) (f:FA):Prop where
 out:PA X es (TDa Γ X.K f)
structure DS (Γ:Cn) (X:Cx) (st:Stmt) (g:FS):Prop where
 out:PS X st (TDs Γ X.K g)
structure DSs (Γ:Cn) (X:Cx) (st:ac Stmt) (g:FS):Prop where
 out:PSs X st (TDs Γ X.K g)
structure DO (Γ:Cn) (X:Cx) (e:Expr) (f:FA):Prop where
 out:PE X e (TDo Γ X.K f)
variable {fa fb fc f:FE}
section
variable {a:Expr}
theorem PE.imp {t t':TE} (h:PE X e t) (i:∀σ H Q,t' σ H Q->t σ H Q):PE X e t':=fun pins s σ H Q I q=>h pins s σ H Q I (i _ _ _ q)
theorem PT.imp {t t':TT} (h:PT X e t) (i:∀σ H Q,t' σ H Q->t σ H Q):PT X e t':=fun pins s σ H Q I q=>h pins s σ H Q I (i _ _ _ q)
theorem PW.imp {t t':TT} (h:PW X e t) (i:∀σ H Q,t' σ H Q->t σ H Q):PW X e t':=fun wh pins s σ H Q I q=>h wh pins s σ H Q I (i _ _ _ q)
theorem PA.imp {t t':TA} (h:PA X es t) (i:∀σ H Q,t' σ H Q->t σ H Q):PA X es t':=fun p pins s σ H Q I q=>h p pins s σ H Q I (i _ _ _ q)
theorem PS.imp {t t':TS} (h:PS X st t) (i:∀E σ H,t' E σ H->t E σ H):PS X st t':=fun pins s σ H E I q=>h pins s σ H E I (i _ _ _ q)
theorem PSs.imp {st:ac Stmt} {t t':TS} (h:PSs X st t) (i:∀E σ H,t' E σ H->t E σ H):PSs X st t':=fun pins s σ H E I q=>h pins s σ H E I (i _ _ _ q)
noncomputable def vSh (i:al):FE:=fun ρ=>match ρ[i]? with
 |some (aa (.sh d))=>aa d
 |_=>ab
theorem Lr (h:vSh i ρ=aa d):ρ[i]?=aa (aa (.sh d)):=by
 unfold vSh at h;split at h
 .rename_i e;cases h;exact e
 .cases h
theorem af (i:al) (hN:X.N[i]?=aa x:=by rfl) (hv:Vis X.env.scope x:=by first|exact di rfl|exact cG (di rfl)|exact cG (cG rfl)) (hd:.(E)=aq:=by decide)
  (hcd:(x==("__classdict__":ak))=aq:=by decide):DE Γ X (.Name x pos) (vSh i):=⟨(iW hN hv hd hcd).imp fun σ H Q ⟨G₀,H₀,G,ρ,d,A,h,k⟩=>by
 obtain⟨v,h1,h2⟩:=A.env.sh i d (Lr h);exact⟨v,h1,k v G H (.refl A.gh) h2⟩⟩
noncomputable def vC (d:D):FE:=fun _=>aa d
theorem TD.const (r:∀G,Rep Γ X.K G v d) (h:PE X e (tC v)):DE Γ X e (vC d):=⟨h.imp fun σ H Q ⟨G₀,H₀,G,ρ,d',A,h,k⟩=>by cases h;exact k v G H (.refl A.gh) (r G)⟩
theorem ao {i j}:DE Γ X (.Constant (.int i) j pos) (vC (.int i)):=TD.const (fun _=>.int i) KF
theorem cW {i j}:DE Γ X (.Constant (.bool i) j pos) (vC (.bl i)):=TD.const (fun _=>.bl i) MP
theorem dD {j}:DE Γ X (.Constant .none j pos) (vC .non):=TD.const (fun _=>.non) Lv
theorem cH {i j}:DE Γ X (.Constant (.str i) j pos) (vC (.str i)):=TD.const (fun _=>.str i) Lu
theorem il {i:ag} {t:Tok} (hg:Gl X x) (hm:X.mg x=aa (.int i t)) (hd:.(E)=aq:=by decide):DE Γ X (.Name x pos) (vC (.int i)):=TD.const (fun _=>.int i) (Jr hg hm ⟨t,rfl⟩ hd)
noncomputable def b2 (g:D->D->ar D) (fa fb:FE):FE:=fun ρ=>(fa ρ).bind fun x=>(fb ρ).bind fun y=>g x y
noncomputable def b1 (g:D->ar D) (fa:FE):FE:=fun ρ=>(fa ρ).bind g
noncomputable def gn (Γ:Cn) (K:bi) (g:D->D->ar D) (r:R2):Prop:=
 ∀{G H v u x y z},bO G H->Rep Γ K G v x->Rep Γ K G u y->g x y=aa z->∀Q:VK,(∀w G' H',Step G H G' H'->Rep Γ K G' w z->Q w H')->r v u H Q
theorem TD.two {g:D->D->ar D} (hr:gn Γ X.K g r):∀σ H Q,TD Γ X.K (b2 g fa fb) σ H Q->tOp r (TD Γ X.K fa) (TD Γ X.K fb) σ H Q:=by
 rintro σ H Q ⟨G₀,H₀,G,ρ,d,A,h,k⟩;unfold b2 at h;cases ha:fa ρ with
 |none=>rw[ha] at h;cases h
 |some x=>
  cases hb:fb ρ with
  |none=>rw[ha] at h;simp only[qc,hb,Rf] at h;cases h
  |some y=>
   simp only[ha,hb,qc] at h;refine⟨G₀,H₀,G,ρ,x,A,ha,fun v G1 H1 s1 r1=>⟨G₀,H₀,G1,ρ,y,A.step s1,hb,fun u G2 H2 s2 r2=>?_⟩⟩;exact hr s2.gh (r1.mono s2.gg) r2 h Q fun w G' H' s r=>k w G' H' ((s1.trans s2).trans s) r
theorem pZ {op:Operator} {g:D->D->ar D} (ho:OpR X (i6 op) r) (hr:gn Γ X.K g r) (ha:DE Γ X a fa) (hb:DE Γ X b fb):DE Γ X (.BinOp a op b pos) (b2 g fa fb):=⟨(HJ ho ha.1 hb.1).imp (TD.two hr)⟩
noncomputable def aK:D->D->ar D
 |.int i,.int j=>aa (.int (i+j))
 |.str x,.str y=>if x.length+y.length<=aV then aa (.str (x++y)) else ab
 |.lst x,.lst y=>if x.length+y.length<=aV then aa (.lst (x++y)) else ab
 |_,_=>ab
noncomputable def eN:D->D->ar D
 |.int i,.int j=>aa (.int (i-j))
 |_,_=>ab
noncomputable def jh (x:ak) (n:al):ak:=⟨(ce n x.cps.toList).flatten.toArray⟩
noncomputable def cv:D->D->ar D
 |.int i,.int j=>if (-(2 ^ 64)<i/\i<2 ^ 64)\/(-(2 ^ 64)<j/\j<2 ^ 64) then aa (.int (i*j)) else ab
 |.lst x,.int j=>if -(2 ^ 63)<=j/\j<2 ^ 63/\x.length*j.toNat<=aV then aa (.lst (ce j.toNat x).flatten) else ab
 |.str x,.int j=>if 0<=j/\j<1000/\x.length<1000 then aa (.str (jh x j.toNat)) else ab
 |_,_=>ab
noncomputable def dA:D->D->ar D
 |.int i,.int j=>if 0<j/\j<1073741824 then aa (.int (i / j)) else ab
 |_,_=>ab
noncomputable def bz:D->D->ar D
 |.int i,.int j=>if 0<j then aa (.int (i%j)) else ab
 |_,_=>ab
theorem Rep.int_inv {i:ag} (r:Rep Γ K G v (.int i)):v=.int i:=by cases r;rfl
theorem Rep.str_inv {i:ak} (r:Rep Γ K G v (.str i)):v=.str i:=by cases r;rfl
theorem Rep.bl_inv {i:aX} (r:Rep Γ K G v (.bl i)):v=.bl i:=by cases r;rfl
theorem Rep.lst_inv (r:Rep Γ K G v (.lst ds)):∃a vs,v=.ref a/\G a=aa (.lst vs)/\Reps Γ K G vs ds:=by cases r;exact⟨_,_,rfl,by assumption,by assumption⟩
theorem Rep.tup_inv (r:Rep Γ K G v (.tup ds)):∃a vs,v=.ref a/\G a=aa (.tup vs)/\Reps Γ K G vs ds:=by cases r;exact⟨_,_,rfl,by assumption,by assumption⟩
theorem Rep.scr_inv {ns:ac ag} (r:Rep Γ K G v (.scr ns)):∃a,v=.ref a/\SqL K G a (ns.map V.int):=by cases r;exact⟨_,rfl,by assumption⟩
theorem lr {Q:VK} (gh:bO G H) (r:Reps Γ K G vs ds) (k:∀w G' H',Step G H G' H'->Rep Γ K G' w (.lst ds)->Q w H'):∀p,H p=ab->Q (.ref p) (upd H p (.lst vs)):=fun p hp=>by have s:=Step.new (o:=.lst vs) gh hp;exact k _ _ _ s (.lst bW (r.mono s.gg))
theorem xy {Q:VK} (gh:bO G H) (r:Reps Γ K G vs ds) (k:∀w G' H',Step G H G' H'->Rep Γ K G' w (.tup ds)->Q w H'):∀p,H p=ab->Q (.ref p) (upd H p (.tup vs)):=fun p hp=>by have s:=Step.new (o:=.tup vs) gh hp;exact k _ _ _ s (.tup bW (r.mono s.gg))
theorem JW :gn Γ K aK (fun x y H Q=>(rI0 (fun i j=>V.int (i+j)) x y H Q\/(∃i j,x=.str i/\y=.str j/\i.length+j.length<=aV/\Q (.str (i++j)) H))\/vO x y H Q):=by
 intro G H v u x y z gh r1 r2 h Q k;unfold aK at h;split at h
 .cases h;cases r1.int_inv;cases r2.int_inv;exact .inl (.inl ⟨_,_,rfl,rfl,k _ G H (.refl gh) (.int _)⟩)
 .split at h
  .cases h;cases r1.str_inv;cases r2.str_inv;exact .inl (.inr ⟨_,_,rfl,rfl,by assumption,k _ G H (.refl gh) (.str _)⟩)
  .cases h
 .split at h
  .rename_i hz;cases h;obtain⟨a,vs,rfl,ha,ra⟩:=r1.lst_inv;obtain⟨b,us,rfl,hb,rb⟩:=r2.lst_inv;exact .inr ⟨a,b,vs,us,rfl,rfl,gh _ _ ha,gh _ _ hb,by rw[ra.length,rb.length];exact hz,lr gh (ra.append rb) k⟩
  .cases h
 .cases h
theorem LS:OpR X (i6 .Add) (fun x y H Q=>(rI0 (fun i j=>V.int (i+j)) x y H Q\/(∃i j,x=.str i/\y=.str j/\i.length+j.length<=aV/\Q (.str (i++j)) H))\/vO x y H Q):=(Mh.or Kt).or Pk
theorem bL (ha:DE Γ X a fa) (hb:DE Γ X b fb):DE Γ X (.BinOp a .Add b pos) (b2 aK fa fb):=pZ LS JW ha hb
theorem Hd {g:D->D->ar D} {o:ag->ag->ag} (hg:∀x y z,g x y=aa z->∃i j,x=.int i/\y=.int j/\z=.int (o i j)):gn Γ K g (rI0 fun i j=>V.int (o i j)):=by intro G H v u x y z gh r1 r2 h Q k;obtain⟨i,j,rfl,rfl,rfl⟩:=hg x y z h;cases r1.int_inv;cases r2.int_inv;exact⟨_,_,rfl,rfl,k _ G H (.refl gh) (.int _)⟩
theorem Eg {g:D->D->ar D} {C:ag->ag->Prop} {o:ag->ag->ag} (hg:∀x y z,g x y=aa z->∃i j,x=.int i/\y=.int j/\C i j/\z=.int (o i j)):gn Γ K g (rI C fun i j=>V.int (o i j)):=by intro G H v u x y z gh r1 r2 h Q k;obtain⟨i,j,rfl,rfl,hc,rfl⟩:=hg x y z h;cases r1.int_inv;cases r2.int_inv;exact⟨_,_,rfl,rfl,hc,k _ G H (.refl gh) (.int _)⟩
theorem li (ha:DE Γ X a fa) (hb:DE Γ X b fb):DE Γ X (.BinOp a .Sub b pos) (b2 eN fa fb):=pZ N3 (Hd fun x y z h=>by unfold eN at h;split at h<;>cases h;exact⟨_,_,rfl,rfl,rfl⟩) ha hb
theorem lF (ha:DE Γ X a fa) (hb:DE Γ X b fb):DE Γ X (.BinOp a .FloorDiv b pos) (b2 dA fa fb):=pZ Ie (Eg fun x y z h=>by
 unfold dA at h;split at h
 .split at h<;>cases h;exact⟨_,_,rfl,rfl,by assumption,rfl⟩
 .cases h) ha hb
theorem c0 (ha:DE Γ X a fa) (hb:DE Γ X b fb):DE Γ X (.BinOp a .Mod b pos) (b2 bz fa fb):=pZ MN (Eg fun x y z h=>by
 unfold bz at h;split at h
 .split at h<;>cases h;exact⟨_,_,rfl,rfl,by assumption,rfl⟩
 .cases h) ha hb
theorem D8 (a:bR al):∀(k:al) (acc:ac al),(ce k a).foldl (·++·) acc.toArray=(acc++(ce k a.toList).flatten).toArray
 |0,acc=>by simp
 |k+1,acc=>by
  rw[lW,jd,lW,oM,←oN,←D8 a k (acc++a.toList)]
  congr 1
  simp
noncomputable def zU:R2:=fun x y H Q=>∃z n,x=.str z/\y=.int n/\0<=n/\n<1000/\z.length<1000/\Q (.str (jh z n.toNat)) H
theorem Ge:OpR X (i6 .Mult) zU:=by
 intro pins s σ H x y v u Q I rx ry h;obtain⟨z,n,rfl,rfl,h0,h1,h2,q⟩:=h;obtain⟨t,rfl⟩:=rx;obtain⟨t',rfl⟩:=ry;have hl:z.length*n.toNat<=1000000:=qL (Nat.mul_le_mul (rl h2) (show n.toNat<=1000 by omega)) .(g);have e0:(ce n.toNat z.cps).foldl (·++·) #[]=(jh z n.toNat).cps:=by have:=D8 z.cps n.toNat [];simpa[jh] using this
 refine PySem.P.mul_str ?_ (fun h _=>?_) (fun _ _=>?_) ?_
 .rw[qM .(f),qM .(f)];rfl
 .have e:(z.length:ag)*n=((z.length*n.toNat:al):ag):=by rw[Int.natCast_mul];congr 1;omega
  have:(z.length:ag)<=(2 ^ 63-1:ag) / n:=Int.le_ediv_of_mul_le .(f) (by rw[e];omega);omega
 .unfold Tl;exact qM (by have:=eX;omega)
 .split
  .have:n=0:=by omega
   subst this;exact⟨by decide,⟨.str _,H,I.tok _,⟨_,rfl⟩,by simpa[jh,fZ] using q⟩⟩
  .split
   .rename_i hc;have ez:jh z n.toNat=z:=by
     rcases E1 _ _▸hc with e|e
     .have:n=1:=by simpa using e
      subst this;simp[jh]
     .have hz:z.cps=#[]:=by
       have:z.cps.size=0:=by simpa[rF] using e
       exact Array.eq_empty_of_size_eq_zero this
      cases z;simp only at hz;subst hz;simp[jh]
    exact⟨.str _,H,I,⟨_,rfl⟩,by rw[←ez];exact q⟩
   .rw[e0];refine⟨?_,⟨.str _,H,I.tok _,⟨_,rfl⟩,q⟩⟩;have e1:(jh z n.toNat).length=n.toNat*z.length:=by show(ce n.toNat z.cps.toList).flatten.toArray.size=_;rw[qA,Cd];simp[rF]
    show(jh z n.toNat).length<=aV;rw[e1,QX];have:=eX;omega
theorem GN :gn Γ K cv (fun x y H Q=>(rI t7 (fun i j=>V.int (i*j)) x y H Q\/B5 x y H Q)\/zU x y H Q):=by
 intro G H v u x y z gh r1 r2 h Q k;unfold cv at h;split at h
 .split at h
  .cases h;cases r1.int_inv;cases r2.int_inv;exact .inl (.inl ⟨_,_,rfl,rfl,by assumption,k _ G H (.refl gh) (.int _)⟩)
  .cases h
 .split at h
  .rename_i hz;cases h;obtain⟨a,vs,rfl,ha,ra⟩:=r1.lst_inv;cases r2.int_inv;exact .inl (.inr ⟨a,_,vs,rfl,rfl,gh _ _ ha,hz.1,hz.2.1,by rw[ra.length];exact hz.2.2,lr gh (ra.rep _) k⟩)
  .cases h
 .split at h
  .rename_i hz;cases h;cases r1.str_inv;cases r2.int_inv;exact .inr ⟨_,_,rfl,rfl,hz.1,hz.2.1,hz.2.2,k _ G H (.refl gh) (.str _)⟩
  .cases h
 .cases h
theorem gR (ha:DE Γ X a fa) (hb:DE Γ X b fb):DE Γ X (.BinOp a .Mult b pos) (b2 cv fa fb):=pZ ((OA.or HA).or Ge) GN ha hb
end
variable {y:D} {ft gt:FT} {fr:FA}
section
variable {a:Expr}
theorem Rep.non_inv (r:Rep Γ K G v .non):v=.non:=by cases r;rfl
noncomputable def ltS (x y:ak):aX:=decide (x.cps.toList<y.cps.toList)
noncomputable def ltD:D->D->ar D
 |.int i,.int j=>aa (.bl (decide (i<j)))
 |.str x,.str y=>aa (.bl (ltS x y))
 |_,_=>ab
noncomputable def leD:D->D->ar D
 |.int i,.int j=>aa (.bl (decide (i<=j)))
 |.str x,.str y=>aa (.bl (!ltS y x))
 |_,_=>ab
noncomputable def gtD:D->D->ar D
 |.int i,.int j=>aa (.bl (decide (j<i)))
 |_,_=>ab
noncomputable def geD:D->D->ar D
 |.int i,.int j=>aa (.bl (decide (j<=i)))
 |_,_=>ab
noncomputable def eqS:D->D->ar aX
 |.int i,.int j=>aa (decide (i=j))
 |.bl i,.bl j=>aa (decide (i=j))
 |.str i,.str j=>aa (decide (i=j))
 |.non,.non=>aa ai
 |.non,.int _=>aa aq|.int _,.non=>aa aq|.non,.bl _=>aa aq|.bl _,.non=>aa aq|.non,.str _=>aa aq|.str _,.non=>aa aq
 |.int _,.str _=>aa aq|.str _,.int _=>aa aq|.bl _,.str _=>aa aq|.str _,.bl _=>aa aq
 |_,_=>ab
noncomputable def eqD (x y:D):ar D:=(eqS x y).map D.bl
noncomputable def neD (x y:D):ar D:=(eqS x y).map fun b=>D.bl (!b)
theorem B8 {u:V} {x:D} {k:aX} (r1:Rep Γ K G v x) (r2:Rep Γ K G u y) (h:eqS x y=aa k):w8 v u=ai/\decide (v=u)=k:=by
 unfold eqS at h;split at h<;>cases h
 .cases r1.int_inv;cases r2.int_inv;exact⟨rfl,by simp⟩
 .cases r1.bl_inv;cases r2.bl_inv;exact⟨rfl,by simp⟩
 .cases r1.str_inv;cases r2.str_inv;exact⟨rfl,by simp⟩
 .cases r1.non_inv;cases r2.non_inv;exact⟨rfl,by simp⟩
 .cases r1.non_inv;cases r2.int_inv;exact⟨rfl,by simp⟩
 .cases r1.int_inv;cases r2.non_inv;exact⟨rfl,by simp⟩
 .cases r1.non_inv;cases r2.bl_inv;exact⟨rfl,by simp⟩
 .cases r1.bl_inv;cases r2.non_inv;exact⟨rfl,by simp⟩
 .cases r1.non_inv;cases r2.str_inv;exact⟨rfl,by simp⟩
 .cases r1.str_inv;cases r2.non_inv;exact⟨rfl,by simp⟩
 .cases r1.int_inv;cases r2.str_inv;exact⟨rfl,by simp⟩
 .cases r1.str_inv;cases r2.int_inv;exact⟨rfl,by simp⟩
 .cases r1.bl_inv;cases r2.str_inv;exact⟨rfl,by simp⟩
 .cases r1.str_inv;cases r2.bl_inv;exact⟨rfl,by simp⟩
theorem Jf :gn Γ K eqD rEq:=by
 intro G H v u x y z gh r1 r2 h Q k;unfold eqD at h;cases e:eqS x y with
 |none=>rw[e] at h;cases h
 |some b=>
  rw[e] at h;cases h;obtain⟨h1,h2⟩:=B8 r1 r2 e;exact⟨h1,by rw[h2];exact k _ G H (.refl gh) (.bl _)⟩
theorem GX :gn Γ K neD rNe:=by
 intro G H v u x y z gh r1 r2 h Q k;unfold neD at h;cases e:eqS x y with
 |none=>rw[e] at h;cases h
 |some b=>
  rw[e] at h;cases h;obtain⟨h1,h2⟩:=B8 r1 r2 e;exact⟨h1,by rw[h2];exact k _ G H (.refl gh) (.bl _)⟩
theorem Ae {g:D->D->ar D} {o:ag->ag->aX} (hg:∀x y z,g x y=aa z->∃i j,x=.int i/\y=.int j/\z=.bl (o i j)):gn Γ K g (rI0 fun i j=>V.bl (o i j)):=by intro G H v u x y z gh r1 r2 h Q k;obtain⟨i,j,rfl,rfl,rfl⟩:=hg x y z h;cases r1.int_inv;cases r2.int_inv;exact⟨_,_,rfl,rfl,k _ G H (.refl gh) (.bl _)⟩
theorem Oc:OpR X (dh .LtE) (fun x y H Q=>∃i j,x=.str i/\y=.str j/\Q (.bl (!ltS j i)) H):=by intro pins s σ H x y v u Q I rx ry h;obtain⟨i,j,rfl,rfl,q⟩:=h;obtain⟨t,rfl⟩:=rx;obtain⟨t',rfl⟩:=ry;exact PySem.P.le_str (cN I q (by simp[ltS]))
theorem GJ :gn Γ K ltD (fun x y H Q=>rI0 (fun i j=>V.bl (decide (i<j))) x y H Q\/∃i j,x=.str i/\y=.str j/\Q (.bl (decide (i.cps.toList<j.cps.toList))) H):=by
 intro G H v u x y z gh r1 r2 h Q k;unfold ltD at h;split at h<;>cases h
 .cases r1.int_inv;cases r2.int_inv;exact .inl ⟨_,_,rfl,rfl,k _ G H (.refl gh) (.bl _)⟩
 .cases r1.str_inv;cases r2.str_inv;exact .inr ⟨_,_,rfl,rfl,k _ G H (.refl gh) (.bl _)⟩
theorem KW :gn Γ K leD (fun x y H Q=>rI0 (fun i j=>V.bl (decide (i<=j))) x y H Q\/∃i j,x=.str i/\y=.str j/\Q (.bl (!ltS j i)) H):=by
 intro G H v u x y z gh r1 r2 h Q k;unfold leD at h;split at h<;>cases h
 .cases r1.int_inv;cases r2.int_inv;exact .inl ⟨_,_,rfl,rfl,k _ G H (.refl gh) (.bl _)⟩
 .cases r1.str_inv;cases r2.str_inv;exact .inr ⟨_,_,rfl,rfl,k _ G H (.refl gh) (.bl _)⟩
structure CmpD (Γ:Cn) (X:Cx) (op:CmpOp) (g:D->D->ar D):Prop where
 ex:∃r,OpR X (dh op) r/\gn Γ X.K g r
theorem eh:CmpD Γ X .Lt ltD:=⟨_,Gz.or OQ,GJ⟩
theorem f9:CmpD Γ X .LtE leD:=⟨_,GU.or Oc,KW⟩
theorem kS:CmpD Γ X .Gt gtD:=⟨_,Lq,Ae fun x y z h=>by unfold gtD at h;split at h<;>cases h;exact⟨_,_,rfl,rfl,rfl⟩⟩
theorem DJ:CmpD Γ X .GtE geD:=⟨_,FO,Ae fun x y z h=>by unfold geD at h;split at h<;>cases h;exact⟨_,_,rfl,rfl,rfl⟩⟩
theorem fB:CmpD Γ X .Eq eqD:=⟨_,Ks,Jf⟩
theorem KL:CmpD Γ X .NotEq neD:=⟨_,GP,GX⟩
theorem dJ {g:D->D->ar D} (h:CmpD Γ X op g) (ha:DE Γ X a fa) (hb:DE Γ X b fb) (hm:lP op b=aq):DE Γ X (.Compare a [op] [b] pos) (b2 g fa fb):=⟨by obtain⟨r,ho,hr⟩:=h.ex;exact(GB ho ha.1 hb.1 hm).imp (TD.two hr)⟩
noncomputable def chD (g g':D->D->ar D) (fa fb fc:FE):FE:=fun ρ=>(fa ρ).bind fun x=>(fb ρ).bind fun y=>(g x y).bind fun z=>match z with
 |.bl ai=>(fc ρ).bind fun w=>g' y w
 |.bl aq=>aa (.bl aq)
 |_=>ab
theorem TD.chain {g g':D->D->ar D} (hr:gn Γ X.K g r) (hr':gn Γ X.K g' r'):∀σ H Q,TD Γ X.K (chD g g' fa fb fc) σ H Q->xj r r' (TD Γ X.K fa) (TD Γ X.K fb) (TD Γ X.K fc) σ H Q:=by
 rintro σ H Q ⟨G₀,H₀,G,ρ,d,A,h,k⟩;unfold chD at h;obtain⟨x,ha,h⟩:=oBd h;obtain⟨y,hb,h⟩:=oBd h;obtain⟨z,hz,h⟩:=oBd h;refine⟨G₀,H₀,G,ρ,x,A,ha,fun v G1 H1 s1 r1=>⟨G₀,H₀,G1,ρ,y,A.step s1,hb,fun u G2 H2 s2 r2=>?_⟩⟩;refine hr s2.gh (r1.mono s2.gg) r2 hz _ fun w G3 H3 s3 r3=>?_;split at h
 .cases r3.bl_inv;obtain⟨w,hc,h⟩:=oBd h;refine⟨ai,rfl,mK ⟨G₀,H₀,G3,ρ,w,((A.step s1).step s2).step s3,hc,fun q G4 H4 s4 r4=>?_⟩⟩;exact hr' s4.gh ((r2.mono s3.gg).mono s4.gg) r4 h Q fun w' G' H' s r=>k w' G' H' ((((s1.trans s2).trans s3).trans s4).trans s) r
 .cases r3.bl_inv;cases h;exact⟨aq,rfl,mV (k _ G3 H3 ((s1.trans s2).trans s3) (.bl _))⟩
 .cases h
theorem wq {g g':D->D->ar D} (h:CmpD Γ X op g) (h':CmpD Γ X op' g') (ha:DE Γ X a fa) (hb:DE Γ X b fb) (hc:DE Γ X c fc) (hm:yD [op,op'] [b,c]=aq:=by with_unfolding_all rfl) :
  DE Γ X (.Compare a [op,op'] [b,c] pos) (chD g g' fa fb fc):=⟨by
 obtain⟨r,ho,hr⟩:=h.ex;obtain⟨r',ho',hr'⟩:=h'.ex;exact(OK ho ho' ha.1 hb.1 hc.1 hm).imp (TD.chain hr hr')⟩
noncomputable def toB (f:FE):FT:=fun ρ=>(f ρ).bind fun d=>match d with
 |.bl b=>aa b
 |_=>ab
theorem TDt.val :∀σ H Q,TDt Γ X.K (toB f) σ H Q->TD Γ X.K f σ H fun x H'=>∃k,x=.bl k/\Q k H':=by rintro σ H Q ⟨G₀,H₀,G,ρ,b,A,h,k⟩;unfold toB at h;obtain⟨d,hd,h⟩:=oBd h;split at h<;>cases h;exact⟨G₀,H₀,G,ρ,_,A,hd,fun v G' H' s r=>⟨b,r.bl_inv,k G' H' s⟩⟩
theorem bF {g:D->D->ar D} (h:CmpD Γ X op g) (ha:DE Γ X a fa) (hb:DE Γ X b fb) (hm:lP op b=aq):DT Γ X (.Compare a [op] [b] pos) (toB (b2 g fa fb)):=⟨by obtain⟨r,ho,hr⟩:=h.ex;exact(My ho ha.1 hb.1 hm).imp fun σ H Q q=>TD.two hr σ H _ (TDt.val σ H Q q)⟩
theorem Bv {g g':D->D->ar D} (h:CmpD Γ X op g) (h':CmpD Γ X op' g') (ha:DE Γ X a fa) (hb:DE Γ X b fb) (hc:DE Γ X c fc) (hm:yD [op,op'] [b,c]=aq:=by with_unfolding_all rfl) :
  DT Γ X (.Compare a [op,op'] [b,c] pos) (toB (chD g g' fa fb fc)):=⟨by
 obtain⟨r,ho,hr⟩:=h.ex;obtain⟨r',ho',hr'⟩:=h'.ex;exact(L7 ho ho' ha.1 hb.1 hc.1 hm).imp fun σ H Q q=>TD.chain hr hr' σ H _ (TDt.val σ H Q q)⟩
theorem bQ (h:DE Γ X e f) (he:∀whole,isTrue e X.env whole=(do let v ←whole;oF e.pos;jM [v] (truthy v)):=by intro _;rfl):DT Γ X e (toB f):=⟨(Hh h.1 he).imp TDt.val⟩
noncomputable def bC (f:FT):FT:=fun ρ=>(f ρ).map (!·)
noncomputable def cD (f g:FT):FT:=fun ρ=>(f ρ).bind fun b=>if b=ai then g ρ else aa aq
noncomputable def orT (f g:FT):FT:=fun ρ=>(f ρ).bind fun b=>if b=ai then aa ai else g ρ
variable {bY:ac Expr}
theorem DW.dt (h:DW Γ X e ft):DT Γ X e ft:=⟨h.1.pt⟩
theorem b5 (h:DT Γ X a ft):DT Γ X (.UnaryOp .Not a pos) (bC ft):=⟨(II h.1).imp fun σ H Q=>by rintro⟨G₀,H₀,G,ρ,b,A,h,k⟩;unfold bC at h;obtain⟨c,hc,h⟩:=oMd h;exact⟨G₀,H₀,G,ρ,c,A,hc,fun G' H' s=>by show Q (!c) H';rw[h];exact k G' H' s⟩⟩
theorem gU (h:DT Γ X a ft):DW Γ X (.BoolOp .And [a] pos) ft:=⟨F2 h.1⟩
theorem c6 (h:DT Γ X a ft):DW Γ X (.BoolOp .Or [a] pos) ft:=⟨Mq h.1⟩
theorem gW (h:DT Γ X a ft) (h':DW Γ X (.BoolOp .And (b::bY) pos) gt):DW Γ X (.BoolOp .And (a::b::bY) pos) (cD ft gt):=⟨(JO h.1 h'.1).imp fun σ H Q=>by
 rintro⟨G₀,H₀,G,ρ,r,A,h,k⟩;unfold cD at h;obtain⟨c,hc,h⟩:=oBd h;refine⟨G₀,H₀,G,ρ,c,A,hc,fun G1 H1 s1=>?_⟩;cases c with
 |true=>exact mK ⟨G₀,H₀,G1,ρ,r,A.step s1,by simpa using h,fun G' H' s=>k G' H' (s1.trans s)⟩
 |false=>
  rw[qY qt] at h;cases h;exact mV (k _ _ s1)⟩
theorem cL (h:DT Γ X a ft) (h':DW Γ X (.BoolOp .Or (b::bY) pos) gt):DW Γ X (.BoolOp .Or (a::b::bY) pos) (orT ft gt):=⟨(Qm h.1 h'.1).imp fun σ H Q=>by
 rintro⟨G₀,H₀,G,ρ,r,A,h,k⟩;unfold orT at h;obtain⟨c,hc,h⟩:=oBd h;refine⟨G₀,H₀,G,ρ,c,A,hc,fun G1 H1 s1=>?_⟩;cases c with
 |false=>exact mV ⟨G₀,H₀,G1,ρ,r,A.step s1,by simpa using h,fun G' H' s=>k G' H' (s1.trans s)⟩
 |true=>
  rw[qX rfl] at h;cases h;exact mK (k _ _ s1)⟩
noncomputable def cE (fa fb:FE):FE:=fun ρ=>(fa ρ).bind fun d=>match d with
 |.bl ai=>fb ρ
 |.bl aq=>aa (.bl aq)
 |_=>ab
noncomputable def orD (fa fb:FE):FE:=fun ρ=>(fa ρ).bind fun d=>match d with
 |.bl ai=>aa (.bl ai)
 |.bl aq=>fb ρ
 |_=>ab
noncomputable def sP (fa:FE):FE:=fun ρ=>(fa ρ).bind fun d=>match d with
 |.bl b=>aa (.bl (!b))
 |_=>ab
theorem fU {op} (h:DE Γ X a fa):DE Γ X (.BoolOp op [a] pos) fa:=⟨Ov h.1⟩
theorem eQ (ha:DE Γ X a fa) (hb:DE Γ X (.BoolOp .And (b::bY) pos) fb):DE Γ X (.BoolOp .And (a::b::bY) pos) (cE fa fb):=⟨(Ih ha.1 hb.1).imp fun σ H Q=>by
 rintro⟨G₀,H₀,G,ρ,d,A,h,k⟩;unfold cE at h;obtain⟨x,hx,h⟩:=oBd h;refine⟨G₀,H₀,G,ρ,x,A,hx,fun v G1 H1 s1 r1=>?_⟩;split at h
 .cases r1.bl_inv;exact⟨ai,rfl,mK ⟨G₀,H₀,G1,ρ,d,A.step s1,h,fun w G' H' s r=>k w G' H' (s1.trans s) r⟩⟩
 .cases r1.bl_inv;cases h;exact⟨aq,rfl,mV (k _ G1 H1 s1 (.bl _))⟩
 .cases h⟩
theorem Ms (ha:DE Γ X a fa) (hb:DE Γ X (.BoolOp .Or (b::bY) pos) fb):DE Γ X (.BoolOp .Or (a::b::bY) pos) (orD fa fb):=⟨(PR ha.1 hb.1).imp fun σ H Q=>by
 rintro⟨G₀,H₀,G,ρ,d,A,h,k⟩;unfold orD at h;obtain⟨x,hx,h⟩:=oBd h;refine⟨G₀,H₀,G,ρ,x,A,hx,fun v G1 H1 s1 r1=>?_⟩;split at h
 .cases r1.bl_inv;cases h;exact⟨ai,rfl,mK (k _ G1 H1 s1 (.bl _))⟩
 .cases r1.bl_inv;exact⟨aq,rfl,mV ⟨G₀,H₀,G1,ρ,d,A.step s1,h,fun w G' H' s r=>k w G' H' (s1.trans s) r⟩⟩
 .cases h⟩
theorem LF (ha:DE Γ X a fa):DE Γ X (.UnaryOp .Not a pos) (sP fa):=⟨(Gb ha.1).imp fun σ H Q=>by
 rintro⟨G₀,H₀,G,ρ,d,A,h,k⟩;unfold sP at h;obtain⟨x,hx,h⟩:=oBd h;refine⟨G₀,H₀,G,ρ,x,A,hx,fun v G1 H1 s1 r1=>?_⟩;split at h
 .cases r1.bl_inv;cases h;exact⟨_,rfl,k _ G1 H1 s1 (.bl _)⟩
 .cases h⟩
noncomputable def aj:FA:=fun _=>aa []
noncomputable def ae (fa:FE) (fr:FA):FA:=fun ρ=>(fa ρ).bind fun x=>(fr ρ).map (x::·)
theorem av:DA Γ X [] aj:=⟨jI.imp fun σ H Q=>by rintro⟨G₀,H₀,G,ρ,d,A,h,k⟩;cases h;exact k _ G H (.refl A.gh) .nil⟩
theorem ah (ha:DE Γ X e fa) (hr:DA Γ X es fr) (hs:a6 (e::es) X.env=(aq,eval e X.env)::a6 es X.env:=by rfl):DA Γ X (e::es) (ae fa fr):=⟨(jq ha.1 hr.1 hs).imp fun σ H Q=>by rintro⟨G₀,H₀,G,ρ,d,A,h,k⟩;unfold ae at h;obtain⟨x,hx,h⟩:=oBd h;obtain⟨xs,hxs,h⟩:=oMd h;subst h;exact⟨G₀,H₀,G,ρ,x,A,hx,fun v G1 H1 s1 r1=>⟨G₀,H₀,G1,ρ,xs,A.step s1,hxs,fun vs G2 H2 s2 r2=>k _ G2 H2 (s1.trans s2) (.cons (r1.mono s2.gg) r2)⟩⟩⟩
noncomputable def szF (fr:FA):FA:=fun ρ=>(fr ρ).bind fun l=>if l.length<=aV then aa l else ab
noncomputable def aH (fr:FA):FE:=fun ρ=>(fr ρ).map D.lst
noncomputable def aT (fr:FA):FE:=fun ρ=>(fr ρ).map D.tup
theorem DO.de (h:DO Γ X e fr):DE Γ X e (aH fr):=⟨h.1.imp fun σ H Q=>by rintro⟨G₀,H₀,G,ρ,d,A,h,k⟩;unfold aH at h;obtain⟨ds,hd,rfl⟩:=oMd h;exact⟨G₀,H₀,G,ρ,ds,A,hd,fun p vs G' H' s hp r=>lr s.gh r (fun w G2 H2 s2 r2=>k w G2 H2 (s.trans s2) r2) p hp⟩⟩
theorem cx (h:DA Γ X es fr):DO Γ X (.List es pos) (szF fr):=⟨(L3 h.1).imp fun σ H Q=>by
 rintro⟨G₀,H₀,G,ρ,d,A,h,k⟩;unfold szF at h;obtain⟨ds,hd,h⟩:=oBd h;split at h
 .rename_i hz;cases h;exact⟨G₀,H₀,G,ρ,d,A,hd,fun vs G' H' s r=>⟨by rw[r.length];exact hz,fun p hp=>k p vs G' H' s hp r⟩⟩
 .cases h⟩
theorem b4 {x1} (h:DA Γ X es fr):DE Γ X (.Tuple es x1 pos) (aT (szF fr)):=⟨(Iz h.1).imp fun σ H Q=>by
 rintro⟨G₀,H₀,G,ρ,d,A,h,k⟩;unfold aT szF at h;obtain⟨ds',hd',rfl⟩:=oMd h;obtain⟨ds,hd,h⟩:=oBd hd';split at h
 .rename_i hz;cases h;exact⟨G₀,H₀,G,ρ,ds',A,hd,fun vs G' H' s r=>⟨by rw[r.length];exact hz,xy s.gh r fun w G2 H2 s2 r2=>k w G2 H2 (s.trans s2) r2⟩⟩
 .cases h⟩
noncomputable def xz (Γ:Cn) (K:bi) (g:ac D->ar D) (r:ac V->Hp->VK->Prop):Prop:=
 ∀{G H vs ds z},bO G H->Reps Γ K G vs ds->g ds=aa z->∀Q:VK,(∀w G' H',Step G H G' H'->Rep Γ K G' w z->Q w H')->r vs H Q
noncomputable def cF (g:ac D->ar D) (fr:FA):FE:=fun ρ=>(fr ρ).bind g
theorem TD.call {g:ac D->ar D} {r:ac V->Hp->VK->Prop} (hr:xz Γ X.K g r):∀σ H Q,TD Γ X.K (cF g fr) σ H Q->tCB r (TDa Γ X.K fr) σ H Q:=by rintro σ H Q ⟨G₀,H₀,G,ρ,d,A,h,k⟩;unfold cF at h;obtain⟨ds,hd,h⟩:=oBd h;exact⟨G₀,H₀,G,ρ,ds,A,hd,fun vs G1 H1 s1 r1=>hr s1.gh r1 h Q fun w G' H' s r=>k w G' H' (s1.trans s) r⟩
structure BltD (Γ:Cn) (X:Cx) (id:c9) (g:ac D->ar D):Prop where
 ex:∃r,dB X (.builtin id) r/\xz Γ X.K g r
structure TyD (Γ:Cn) (X:Cx) (id:c9) (g:ac D->ar D):Prop where
 ex:∃r,dB X (.type id) r/\xz Γ X.K g r
theorem bZ {id:c9} {g:ac D->ar D} (hc:BltD Γ X id g) (hg:Gl X x) (hm:X.mg x=ab) (hv:lN x=aa (.builtin id)) (ha:DA Γ X (e::es) fr) (hn:x≠"__name__":=by decide) (hdb:.(E)=aq:=by decide)
  (he:a6 (e::es) X.env=(aq,eval e X.env)::a6 es X.env:=by rfl) (hpl:(cC pos (a6 es X.env)).any (·.1)=aq:=by rfl):DE Γ X .(ax) (cF g fr):=⟨by
 obtain⟨r,h1,h2⟩:=hc.ex;exact(xM h1 hg hm hv ha.1 hn hdb he hpl).imp (TD.call h2)⟩
theorem gN {id:c9} {g:ac D->ar D} (hc:TyD Γ X id g) (hg:Gl X x) (hm:X.mg x=ab) (hv:lN x=aa (.type id)) (ha:DA Γ X (e::es) fr) (hn:x≠"__name__":=by decide) (hdb:.(E)=aq:=by decide)
  (he:a6 (e::es) X.env=(aq,eval e X.env)::a6 es X.env:=by rfl) (hpl:(cC pos (a6 es X.env)).any (·.1)=aq:=by rfl):DE Γ X .(ax) (cF g fr):=⟨by
 obtain⟨r,h1,h2⟩:=hc.ex;exact(pK h1 hg hm hv ha.1 hn hdb he hpl).imp (TD.call h2)⟩
theorem lD {n:c9} (hg:Gl X x) (hm:X.mg x=ab) (hv:lN x=aa (.type n)) (hn:x≠"__name__":=by decide) (hd:.(E)=aq:=by decide):DE Γ X (.Name x pos) (vC (.ty n)):=TD.const (fun _=>.ty n) (KO hg hm hv rfl hn hd)
theorem Reps.one (r:Reps Γ K G vs [d]):∃v,vs=[v]/\Rep Γ K G v d:=by
 cases r with
 |cons h t=>cases t;exact⟨_,rfl,h⟩
theorem Reps.two {d':D} (r:Reps Γ K G vs [d,d']):∃v u,vs=[v,u]/\Rep Γ K G v d/\Rep Γ K G u d':=by
 cases r with
 |cons h t=>cases t with
  |cons h2 t2=>cases t2;exact⟨_,_,rfl,h,h2⟩
noncomputable def sL:ac D->ar D
 |[.int i]=>aa (.int (if i<0 then -i else i))
 |_=>ab
theorem Gc:BltD Γ X "abs" sL:=⟨_,Ky,fun {G H vs ds z} gh r h Q k=>by unfold sL at h;split at h<;>cases h;obtain⟨v,rfl,r1⟩:=r.one;cases r1.int_inv;exact⟨_,rfl,k _ G H (.refl gh) (.int _)⟩⟩
noncomputable def gC:ac D->ar D
 |[.int i,.int j]=>aa (.int (if j > i then j else i))
 |_=>ab
theorem tP (hc:X.calm=ai):BltD Γ X "max" gC:=⟨_,L8 hc,fun {G H vs ds z} gh r h Q k=>by unfold gC at h;split at h<;>cases h;obtain⟨v,u,rfl,r1,r2⟩:=r.two;cases r1.int_inv;cases r2.int_inv;exact⟨_,_,rfl,k _ G H (.refl gh) (.int _)⟩⟩
noncomputable def ig:ac D->ar D
 |[.int i,.int j]=>aa (.int (if j<i then j else i))
 |_=>ab
theorem tX (hc:X.calm=ai):BltD Γ X "min" ig:=⟨_,O6 hc,fun {G H vs ds z} gh r h Q k=>by unfold ig at h;split at h<;>cases h;obtain⟨v,u,rfl,r1,r2⟩:=r.two;cases r1.int_inv;cases r2.int_inv;exact⟨_,_,rfl,k _ G H (.refl gh) (.int _)⟩⟩
noncomputable def b9:ac D->ar D
 |[.str x]=>if x.length<=aV then aa (.int (x.length:al)) else ab
 |[.lst l]=>aa (.int (l.length:al))
 |[.tup l]=>aa (.int (l.length:al))
 |[.scr l]=>aa (.int (l.length:al))
 |_=>ab
theorem fA:BltD Γ X "len" b9:=⟨_,PK,fun {G H vs ds z} gh r h Q k=>by
 unfold b9 at h;split at h
 .split at h
  .cases h;obtain⟨v,rfl,r1⟩:=r.one;cases r1.str_inv;exact⟨_,_,rfl,⟨by assumption,rfl⟩,k _ G H (.refl gh) (.int _)⟩
  .cases h
 .cases h;obtain⟨v,rfl,r1⟩:=r.one;obtain⟨a,vs,rfl,ha,rv⟩:=r1.lst_inv;exact⟨_,_,rfl,.inl ⟨vs,.inl (.inl (gh _ _ ha)),rfl⟩,k _ G H (.refl gh) (by rw[rv.length];exact .int _)⟩
 .cases h;obtain⟨v,rfl,r1⟩:=r.one;obtain⟨a,vs,rfl,ha,rv⟩:=r1.tup_inv;exact⟨_,_,rfl,.inr ⟨vs,.inl (.inl (gh _ _ ha)),rfl⟩,k _ G H (.refl gh) (by rw[rv.length];exact .int _)⟩
 .cases h;obtain⟨v,rfl,r1⟩:=r.one;obtain⟨a,rfl,ha⟩:=r1.scr_inv;exact⟨_,_,rfl,.inl ⟨_,gh.seq ha,rfl⟩,k _ G H (.refl gh) (by rw[qg];exact .int _)⟩
 .cases h⟩
noncomputable def tyD:D->ar c9
 |.non=>aa "NoneType"
 |.bl _=>aa "bool"
 |.int _=>aa "int"
 |.str _=>aa "str"
 |.lst _=>aa "list"
 |.tup _=>aa "tuple"
 |.dk _=>aa "dict"
 |.dt _=>aa "dict"
 |_=>ab
noncomputable def gf (t c:c9):ar aX:=if (lM t==lM c)=ai then aa ai else if PySem.W.kitMeta c=ai then rN (fun x=>x.contains (lM c)) (PySem.fastBuiltinMro t) else ab
noncomputable def dZ:ac D->ar D
 |[d,.ty c]=>(tyD d).bind fun t=>(gf t c).map D.bl
 |_=>ab
theorem Jk {t:c9} (gh:bO G H) (r:Rep Γ K G v d) (h:tyD d=aa t):TyOf K H v (.type t):=by
 unfold tyD at h;split at h<;>cases h
 .cases r.non_inv;exact .non
 .cases r.bl_inv;exact .bl _
 .cases r.int_inv;exact .int _
 .cases r.str_inv;exact .str _
 .obtain⟨a,vs,rfl,ha,_⟩:=r.lst_inv;exact .lst (gh _ _ ha)
 .obtain⟨a,vs,rfl,ha,_⟩:=r.tup_inv;exact .tup (gh _ _ ha)
 .cases r with
  |dk h _ _=>exact .dK (gh _ _ h)
 .cases r with
  |dt h _ _=>exact .dT (gh _ _ h)
theorem kT:BltD Γ X "isinstance" dZ:=by
 refine⟨fun vs H Q=>∃v t c b,vs=[v,.ty c]/\TyOf X.K H v (.type t)/\QI X.K (.type t) (.type c)=aa b/\Q (.bl b) H,?_,?_⟩
 .intro pins s σ H xs us Q I r h;obtain⟨v,t,c,b,rfl,ty,hk,q⟩:=h;obtain⟨u,w',rfl,r1,r2⟩:=xP r;cases r2;exact IA I r1 ty hk fun tk=>⟨.bl b,H,I.tok tk,rfl,q⟩
 .intro G H vs ds z gh r h Q k;unfold dZ at h;split at h
  .obtain⟨t,ht,h⟩:=oBd h;obtain⟨b,hb,rfl⟩:=oMd h;obtain⟨v,u,rfl,r1,r2⟩:=r.two;cases r2;exact⟨v,t,_,b,rfl,Jk gh r1 ht,hb,k _ G H (.refl gh) (.bl _)⟩
  .cases h
end
variable {β:Type} {fo:FE}
section
variable {a:Expr}
theorem Reps.atI {K:bi} {G:Hp} {vs:ac V} {ds:ac D} {i:ag} {d:D} (r:Reps Γ K G vs ds) (h:L2.atI ds i=aa d):∃v,L2.atI vs i=aa v/\Rep Γ K G v d:=by
 unfold L2.atI at h ⊢;rw[r.length];cases e:ixN ds.length i with
 |none=>rw[e] at h;cases h
 |some j=>
  rw[e] at h;obtain⟨v,h1,h2⟩:=r.get (i:=j) (d:=d) h;exact⟨v,h1,h2⟩
theorem NR (g:α->β) (xs:ac α) (i:ag):L2.atI (xs.map g) i=(L2.atI xs i).map g:=by
 unfold L2.atI;rw[qg];cases ixN xs.length i with
 |none=>rfl
 |some j=>simp
noncomputable def ixD:D->D->ar D
 |.lst l,.int i=>atI l i
 |.tup l,.int i=>atI l i
 |.scr l,.int i=>(atI l i).map D.int
 |.str x,.int i=>if x.length<=aV then (atI x.cps.toList i).map fun c=>D.str ⟨#[c]⟩ else ab
 |_,_=>ab
theorem Nz :gn Γ K ixD (rIx K):=by
 intro G H v u x y z gh r1 r2 h Q k;unfold ixD at h;split at h
 .obtain⟨a,vs,rfl,ha,rv⟩:=r1.lst_inv;cases r2.int_inv;obtain⟨w,hw,rw'⟩:=rv.atI h;exact .inl ⟨a,vs,_,w,rfl,rfl,.inl (.inl (gh _ _ ha)),hw,k w G H (.refl gh) rw'⟩
 .obtain⟨a,vs,rfl,ha,rv⟩:=r1.tup_inv;cases r2.int_inv;obtain⟨w,hw,rw'⟩:=rv.atI h;exact .inr (.inl ⟨a,vs,_,w,rfl,rfl,.inl (.inl (gh _ _ ha)),hw,k w G H (.refl gh) rw'⟩)
 .obtain⟨a,rfl,ha⟩:=r1.scr_inv;cases r2.int_inv;obtain⟨n,hn,rfl⟩:=oMd h;exact .inl ⟨a,_,_,.int n,rfl,rfl,gh.seq ha,by rw[NR,hn];rfl,k _ G H (.refl gh) (.int _)⟩
 .split at h
  .cases r1.str_inv;cases r2.int_inv;obtain⟨n,hn,rfl⟩:=oMd h;exact .inr (.inr ⟨_,_,n,rfl,rfl,by assumption,hn,k _ G H (.refl gh) (.str _)⟩)
  .cases h
 .cases h
theorem aB (ha:DE Γ X a fa) (hb:DE Γ X b fb) (hs:AB b:=by intro _ _;rfl):DE Γ X (.Subscript a b pos) (b2 ixD fa fb):=⟨(J0 Nt ha.1 hb.1 hs).imp (TD.two Nz)⟩
noncomputable def dX (xs:ac α) (lo hi:ar ag):ac α:=(xs.drop (HT.sIx xs.length 0 lo)).take (HT.sIx xs.length xs.length hi-HT.sIx xs.length 0 lo)
theorem Pf (g:α->β) (xs:ac α) (lo hi:ar ag):dX (xs.map g) lo hi=(dX xs lo hi).map g:=by unfold dX;simp
theorem Reps.cut (r:Reps Γ K G vs ds) (lo hi:ar ag):Reps Γ K G (kR vs lo hi) (dX ds lo hi):=by unfold kR dX;rw[r.length];exact(r.drop _).take _
noncomputable def ox (x:ak) (lo hi:ar ag):ak:=⟨(dX x.cps.toList lo hi).toArray⟩
theorem B3 (lo hi:ar ag) (n:al):za lo hi 1 n=(cP (HT.sIx n n hi-HT.sIx n 0 lo)).map (HT.sIx n 0 lo+·):=by
 rw[←QS];unfold za;have h1:∀(o:ar ag) (d:al),d<=n->(match o with|none=>(d:ag)|some i=>if (1:ag) > 0 then max 0 (min (if i<0 then i+(n:ag) else i) n) else max (-1) (min (if i<0 then i+(n:ag) else i) ((n:ag)-1)))=((HT.sIx n d o:al):ag):=fun o d hd=>by
  cases o with
  |none=>simp[HT.sIx]
  |some i=>
   simp only[HT.sIx,show(1:ag) > 0 by decide,cA];by_cases h:i<0
   .simp only[h,cA];omega
   .simp only[h,c4];omega
 have e0:=h1 lo 0 (ix _);have e1:=h1 hi n (qw _);rw[←e0,←e1];rfl
theorem CD (x:ak) (lo hi:ar ag):E2 x lo hi=ox x lo hi:=by
 have key:(za lo hi 1 x.length).filterMap (x.cps[·]?)=dX x.cps.toList lo hi:=by rw[B3,yP];unfold dX;rw[show x.cps.toList.length=x.length by simp[rF]]
 unfold E2 ox;split
 .rename_i h;rw[←key];have hl:(za lo hi 1 x.length).length=x.length:=by simpa using h
  rw[B3] at hl ⊢;rw[yP];rw[qg,qS] at hl;have hb:HT.sIx x.length x.length hi<=x.length:=by
   cases hi with
   |none=>simp[HT.sIx]
   |some i=>simp only[HT.sIx];split<;>omega
  have h0:HT.sIx x.length 0 lo=0\/x.length=0:=by omega
  have hx:x.cps.toList.length=x.length:=by simp[rF]
  have e:(x.cps.toList.drop (HT.sIx x.length 0 lo)).take (HT.sIx x.length x.length hi-HT.sIx x.length 0 lo)=x.cps.toList:=by
   rcases h0 with h0|h0
   .rw[h0,ni];rw[h0] at hl;exact rO .(f)
   .have:x.cps.toList=[]:=List.length_eq_zero_iff.mp .(f);rw[this];simp
  rw[e]
 .rw[key]
noncomputable def pN:bj->ar (ar ag):=fun _=>aa ab
noncomputable def pS (f:FE):bj->ar (ar ag):=fun ρ=>(f ρ).bind fun d=>match d with
 |.int i=>aa (aa i)
 |_=>ab
inductive TDp (Γ:Cn) (K:bi) (f:bj->ar (ar ag)) (σ:St) (H:Hp) (Q:ar ag->Hp->Prop):Prop where
 |mk:∀G₀ H₀ G ρ o,At Γ K G₀ H₀ G H ρ σ->f ρ=aa o->(∀G' H',Step G H G' H'->Q o H')->TDp Γ K f σ H Q
structure DP (Γ:Cn) (X:Cx) (e:ar Expr) (f:bj->ar (ar ag)):Prop where
 out:PO X e (TDp Γ X.K f)
theorem fG:DP Γ X ab pN:=⟨fun pins s σ H Q I ⟨G₀,H₀,G,ρ,o,A,h,k⟩=>by cases h;exact Hj pins s σ H Q I (k G H (.refl A.gh))⟩
theorem eR (h:DE Γ X e f):DP Γ X (aa e) (pS f):=⟨fun pins s σ H Q I ⟨G₀,H₀,G,ρ,o,A,q,k⟩=>by unfold pS at q;obtain⟨d,hd,q⟩:=oBd q;split at q<;>cases q;exact No h.1 pins s σ H Q I ⟨G₀,H₀,G,ρ,_,A,hd,fun v G' H' s r=>⟨_,r.int_inv,k G' H' s⟩⟩⟩
theorem JK:SlR X (fun x lo hi H Q=>∃z,x=.str z/\z.length<=aV/\Q (.str (ox z lo hi)) H):=by
 intro pins s σ H x v vl vu lo hi sl Q I rx hs pl pu h;obtain⟨z,rfl,hz,q⟩:=h;obtain⟨t,rfl⟩:=rx;refine⟨"str",_,PySem.F.slot_str_getitem.lookup,uV _ _ _,?_⟩;obtain⟨l,rfl,el⟩:∃l:ar (ag×Tok),vl=partValue l/\l.map (·.1)=lo:=by
  cases pl with
  |none=>exact⟨ab,rfl,rfl⟩
  |int i t=>exact⟨aa (i,t),rfl,rfl⟩
 obtain⟨u,rfl,eu⟩:∃l:ar (ag×Tok),vu=partValue l/\l.map (·.1)=hi:=by
  cases pu with
  |none=>exact⟨ab,rfl,rfl⟩
  |int i t=>exact⟨aa (i,t),rfl,rfl⟩
 refine wpAny_getItem_str_slice (l:=l) (u:=u) (st:=ab) hs rfl ?_;have e:(if ((rN (fun x=>x.fst) (ab:ar (ag×Tok))).getD 1==1 && (slicePicked z l u ab).length==z.length)=ai then z else {cps:=(E3 (fun x=>z.cps[x]?) (slicePicked z l u ab)).toArray})=ox z lo hi:=by
  have e0:E2 z (l.map (·.1)) (u.map (·.1))=ox z lo hi:=by rw[el,eu];exact CD z lo hi
  exact e0
 refine post_val_or_str ⟨?_,fun t' k=>?_⟩
 .rw[e,←CD];exact qL (Txt.slice_le z _ _) hz
 .rw[e];exact⟨.str _,H,I.tok k,⟨_,rfl⟩,q⟩
noncomputable def mr (lo hi:ar ag):D->ar D
 |.lst l=>aa (.lst (dX l lo hi))
 |.scr l=>aa (.lst ((dX l lo hi).map D.int))
 |.tup l=>if HT.sIx l.length 0 lo=0/\HT.sIx l.length l.length hi=l.length then ab else aa (.tup (dX l lo hi))
 |.str x=>if x.length<=aV then aa (.str (ox x lo hi)) else ab
 |_=>ab
noncomputable def slF (f:FE) (fl fh:bj->ar (ar ag)):FE:=fun ρ=>(f ρ).bind fun d=>(fl ρ).bind fun l=>(fh ρ).bind fun h=>mr l h d
variable {fl fh:bj->ar (ar ag)} {lo hi:ar Expr}
theorem fm (he:DE Γ X e f) (hl:DP Γ X lo fl) (hh:DP Γ X hi fh):DE Γ X (.Subscript e (.Slice lo hi ab p2) pos) (slF f fl fh):=⟨(F8 (Pv.or (IC.or JK)) he.1 hl.1 hh.1).imp fun σ H Q=>by
 rintro⟨G₀,H₀,G,ρ,d,A,h,k⟩;unfold slF at h;obtain⟨x,hx,h⟩:=oBd h;obtain⟨l,hl,h⟩:=oBd h;obtain⟨u,hu,h⟩:=oBd h;refine⟨G₀,H₀,G,ρ,x,A,hx,fun v G1 H1 s1 r1=>⟨G₀,H₀,G1,ρ,l,A.step s1,hl,fun G2 H2 s2=>⟨G₀,H₀,G2,ρ,u,(A.step s1).step s2,hu,fun G3 H3 s3=>?_⟩⟩⟩;have s:=(s1.trans s2).trans s3;have r:=r1.mono (s2.gg.trans s3.gg);have gh:=s3.gh;unfold mr at h;split at h
 .cases h;obtain⟨a,vs,rfl,ha,rv⟩:=r.lst_inv;exact .inl ⟨a,vs,rfl,.inl (.inl (gh _ _ ha)),lr gh (rv.cut l u) fun w G4 H4 s4 r4=>k w G4 H4 (s.trans s4) r4⟩
 .cases h;obtain⟨a,rfl,ha⟩:=r.scr_inv;refine .inl ⟨a,_,rfl,gh.seq ha,lr gh ?_ fun w G4 H4 s4 r4=>k w G4 H4 (s.trans s4) r4⟩;show Reps Γ X.K G3 (dX _ l u) _;rw[Pf];exact Reps.ints _
 .split at h
  .cases h
  .rename_i hw;cases h;obtain⟨a,vs,rfl,ha,rv⟩:=r.tup_inv;exact .inr (.inl ⟨a,vs,rfl,.inl (.inl (gh _ _ ha)),by rw[rv.length];exact hw,xy gh (rv.cut l u) fun w G4 H4 s4 r4=>k w G4 H4 (s.trans s4) r4⟩)
 .split at h
  .cases h;cases r.str_inv;exact .inr (.inr ⟨_,rfl,by assumption,k _ _ _ s (.str _)⟩)
  .cases h
 .cases h⟩
structure MtD (Γ:Cn) (X:Cx) (T id:c9) (g:D->ac D->ar D):Prop where
 ex:∃r,MtR X id r/\∀{G H v x vs ds z},bO G H->Rep Γ X.K G v x->Reps Γ X.K G vs ds->g x ds=aa z->∀Q:VK,(∀w G' H',Step G H G' H'->Rep Γ X.K G' w z->Q w H')->r v vs H Q
 ty:∀{G H v x ds z},bO G H->Rep Γ X.K G v x->g x ds=aa z->tyV X.K T v H
noncomputable def mF (g:D->ac D->ar D) (f:FE) (fr:FA):FE:=fun ρ=>(f ρ).bind fun d=>(fr ρ).bind fun ds=>g d ds
theorem On {id:c9} {g:D->ac D->ar D} (pa:PlainAttrs T) (slot:u3 T name id) (hty:typeOf (.builtin id)=bB (.type "method_descriptor")) (hm:MtD Γ X T id g) (ho:DE Γ X o fo) (ha:DA Γ X (e::es) fr)
  (hbase:gx o name X.env (eval o X.env)=eval o X.env:=by rfl)
  (hfew:((cC cpos (a6 (e::es) X.env)).all (fun x=>!x.1) && (i8 cpos (i9 [] X.env)).all (fun x=>x.1.isSome)
   && decide ((e::es).length+([]:ac jc).length+(if ([]:ac jc).isEmpty then 0 else 1)<30))=ai:=by rfl)
  (hline:(apos.endLine==cpos.line)=ai:=by rfl) (hs:a6 (e::es) X.env=(aq,eval e X.env)::a6 es X.env:=by rfl) (hplain:(cC cpos (a6 es X.env)).any (·.1)=aq:=by rfl) :
  DE Γ X (.Call (.Attribute o name apos) (e::es) [] cpos) (mF g fo fr):=⟨by
 obtain⟨r,h1,h2⟩:=hm.ex;refine(wC pa slot hty h1 ho.1 ha.1 hbase hfew hline hs hplain).imp fun σ H Q=>?_;rintro⟨G₀,H₀,G,ρ,d,A,h,k⟩;unfold mF at h;obtain⟨x,hx,h⟩:=oBd h;obtain⟨ds,hd,h⟩:=oBd h;exact⟨G₀,H₀,G,ρ,x,A,hx,fun v G1 H1 s1 r1=>⟨hm.ty s1.gh r1 h,G₀,H₀,G1,ρ,ds,A.step s1,hd,fun vs G2 H2 s2 r2=>h2 s2.gh (r1.mono s2.gg) r2 h Q fun w G3 H3 s3 r3=>k w G3 H3 ((s1.trans s2).trans s3) r3⟩⟩⟩
noncomputable def ie:ac D->ar (ac ak)
 |[]=>aa []
 |.str x::r=>(ie r).map (x::·)
 |_::_=>ab
noncomputable def SI:D->ac D->ar D
 |.str sep,[.lst l]=>(ie l).bind fun ys=>if (ys.map (·.length)).sum+ys.length*sep.length<=16777216 then aa (.str (Txt.join sep ys)) else ab
 |_,_=>ab
theorem t5 {K:bi} {G:Hp}:∀{vs:ac V} {ds:ac D} {ys:ac ak},Reps Γ K G vs ds->ie ds=aa ys->vs=ys.map V.str
 |_,[],ys,r,h=>by cases r;cases h;rfl
 |_,d::ds,ys,.cons h1 h2,h=>by
  cases d with
  |str x=>
   obtain⟨zs,hz,rfl⟩:=oMd (show(ie ds).map (x::·)=aa ys from h);rw[h1.str_inv,t5 h2 hz];rfl
  |_=>cases h
theorem wN:∀{ys:ac ak} {us:ac Value},bK (ys.map V.str) us->StrsAre us ys
 |[],_,r=>by rw[qN] at r;cases r;exact .nil
 |y::ys,_,r=>by
  rw[qo] at r;cases r with
  |cons r1 r2=>
   obtain⟨t,e⟩:=r1;subst e;exact .cons y t (wN r2)
noncomputable def jo:ac D->ar (ac aX)
 |[]=>aa []
 |.bl x::r=>(jo r).map (x::·)
 |_::_=>ab
theorem wl {K:bi} {G:Hp}:∀{vs:ac V} {ds:ac D} {ys:ac aX},Reps Γ K G vs ds->jo ds=aa ys->vs=ys.map V.bl
 |_,[],ys,r,h=>by cases r;cases h;rfl
 |_,d::ds,ys,.cons h1 h2,h=>by
  cases d with
  |bl x=>
   obtain⟨zs,hz,rfl⟩:=oMd (show(jo ds).map (x::·)=aa ys from h);rw[h1.bl_inv,wl h2 hz];rfl
  |_=>cases h
noncomputable def fC:ac D->ar D
 |[.lst l]=>(jo l).map fun bs=>D.bl (bs.all id)
 |_=>ab
noncomputable def xv:ac D->ar D
 |[.lst l]=>(jo l).map fun bs=>D.bl (bs.any id)
 |_=>ab
theorem xx:∀{bs:ac aX} {us:ac Value},bK (bs.map V.bl) us->us=bs.map jL
 |[],_,r=>by rw[qN] at r;cases r;rfl
 |y::ys,_,r=>by
  rw[qo] at r;cases r with
  |cons r1 r2=>cases r1;rw[xx r2];rfl
theorem Jd (bs:ac aX):(cP bs.length).all (fun i=>bs.getD i aq)=bs.all id:=by
 rw[oI,rP,rP];constructor
 .intro h x hx;obtain⟨i,hi,e⟩:=zb.mp hx;have:=h i (eV.mpr hi);simp[oR,hi] at this;rw[←e];exact this
 .intro h i hi;have hi':=eV.mp hi;have:=h (bs[i]) (rQ hi');simp[oR,hi'];exact this
theorem L0 (bs:ac aX):(cP bs.length).any (fun i=>bs.getD i aq)=bs.any id:=by
 rw[oI,u4,u4];constructor
 .rintro⟨i,hi,h⟩;have hi':=eV.mp hi;refine⟨bs[i],rQ hi',?_⟩;simpa[oR,hi'] using h
 .rintro⟨x,hx,h⟩;obtain⟨i,hi,e⟩:=zb.mp hx;refine⟨i,eV.mpr hi,?_⟩;simp[oR,hi,e];exact h
theorem Cy {bs:ac aX} :TruthOf prog w A (fun i v=>(bs.map jL).toArray[i]?=aa v) (fun i=>bs.getD i aq):=fun i v s Q E hP hQ=>by
 have hP':(bs.map jL)[i]?=aa v:=by simpa using hP
 rw[ql] at hP';obtain⟨b,hb,rfl⟩:=oMd hP';have:bs.getD i aq=b:=by simp[oR,hb]
 have hQ':Q (bs.getD i aq) s:=hQ;rw[this] at hQ';exact kz hQ'
theorem h9 (hc:X.calm=ai):BltD Γ X "all" fC:=by
 refine⟨fun vs H Q=>∃(a:aw) (bs:ac aX),vs=[.ref a]/\H a=aa (.lst (bs.map V.bl))/\Q (.bl (bs.all id)) H,?_,?_⟩
 .intro pins s σ H xs us Q I r h;obtain⟨a,bs,rfl,ha,q⟩:=h;obtain⟨u,rfl,ru⟩:=dY r;cases ru;obtain⟨its,rv,pl,_⟩:=I.list (.inl (.inl ha));have e:=xx rv;subst e;refine call_all_walk (rR pl.isList ?_);have ne:a≠s.heap.objs.size:=by obtain⟨o,_,h1,_⟩:=pl;exact qB (qv h1)
  refine⟨s.heap.objs.size,_,_,_,_,_,fun i=>bs.getD i aq,rfl,u5 (A:=X.A.in1) (show X.A.in1.handled=ab from I.ok.hd hc) s.heap.objs.size a ne (bs.map jL).toArray,⟨⟨_,qF _ rfl,rfl,rfl⟩,pl.isList.at fun o q=>qu _ q⟩,Cy,fun h' tk hk=>?_⟩;have e2:(bs.map jL).toArray.size=bs.length:=by simp
  rw[e2,Jd];refine⟨.bl _,H,I.kept fun b o z=>hk b o ?_ (qu _ z),rfl,q⟩;intro z';have:b=s.heap.objs.size:=by simpa using z'
  exact bN (qv z) (by rw[this];exact kx _)
 .intro G H vs ds z gh r h Q k;unfold fC at h;split at h
  .obtain⟨bs,hb,rfl⟩:=oMd h;obtain⟨v,rfl,r1⟩:=r.one;obtain⟨a,ws,rfl,ha,rw'⟩:=r1.lst_inv;refine⟨a,bs,rfl,?_,k _ G H (.refl gh) (.bl _)⟩;rw[←wl rw' hb];exact gh _ _ ha
  .cases h
theorem GV (hc:X.calm=ai):BltD Γ X "any" xv:=by
 refine⟨fun vs H Q=>∃(a:aw) (bs:ac aX),vs=[.ref a]/\H a=aa (.lst (bs.map V.bl))/\Q (.bl (bs.any id)) H,?_,?_⟩
 .intro pins s σ H xs us Q I r h;obtain⟨a,bs,rfl,ha,q⟩:=h;obtain⟨u,rfl,ru⟩:=dY r;cases ru;obtain⟨its,rv,pl,_⟩:=I.list (.inl (.inl ha));have e:=xx rv;subst e;refine call_any_walk (rR pl.isList ?_);have ne:a≠s.heap.objs.size:=by obtain⟨o,_,h1,_⟩:=pl;exact qB (qv h1)
  refine⟨s.heap.objs.size,_,_,_,_,_,fun i=>bs.getD i aq,rfl,u5 (A:=X.A.in1) (show X.A.in1.handled=ab from I.ok.hd hc) s.heap.objs.size a ne (bs.map jL).toArray,⟨⟨_,qF _ rfl,rfl,rfl⟩,pl.isList.at fun o q=>qu _ q⟩,Cy,fun h' tk hk=>?_⟩;have e2:(bs.map jL).toArray.size=bs.length:=by simp
  rw[e2,L0];refine⟨.bl _,H,I.kept fun b o z=>hk b o ?_ (qu _ z),rfl,q⟩;intro z';have:b=s.heap.objs.size:=by simpa using z'
  exact bN (qv z) (by rw[this];exact kx _)
 .intro G H vs ds z gh r h Q k;unfold xv at h;split at h
  .obtain⟨bs,hb,rfl⟩:=oMd h;obtain⟨v,rfl,r1⟩:=r.one;obtain⟨a,ws,rfl,ha,rw'⟩:=r1.lst_inv;refine⟨a,bs,rfl,?_,k _ G H (.refl gh) (.bl _)⟩;rw[←wl rw' hb];exact gh _ _ ha
  .cases h
end
structure Yd (Γ:Cn) (K:bi) (J:It) (G:Hp) (ds:ac D):Prop where
 go:∀(i:al) d G2 H2,ds[i]?=aa d->bO G G2->bO G2 H2->J.go i H2/\∀x H3,J.yld i H2 x H3->∃G3,Step G2 H2 G3 H3/\Rep Γ K G3 x d
 stop:∀G2 H2,bO G G2->bO G2 H2->J.stop ds.length H2
inductive TDi (Γ:Cn) (K:bi) (f:FA) (σ:St) (H:Hp) (R:It->Hp->Prop):Prop where
 |mk:∀G₀ H₀ G ρ ds,At Γ K G₀ H₀ G H ρ σ->f ρ=aa ds->(∀J G' H',Step G H G' H'->Yd Γ K J G' ds->R J H')->TDi Γ K f σ H R
structure DI (Γ:Cn) (X:Cx) (tg e:Expr) (f:FA):Prop where
 out:PI X tg e (TDi Γ X.K f)
theorem PI.imp {t t':TI} (h:PI X tg e t) (i:∀σ H R,t' σ H R->t σ H R):PI X tg e t':=fun pins s σ H R I q=>h pins s σ H R I (i _ _ _ q)
variable {fi:FA} {ts:ac Expr} {gs:FGs} {fe:FE}
section
variable {a:Expr}
theorem IV {a:aw} (h:G a=aa (.tup vs)) (r:Reps Γ K G vs ds):Yd Γ K (Itt K a) G ds:=by refine⟨fun i d G2 H2 hd g1 g2=>?_,fun G2 H2 g1 g2=>⟨vs,.inl (.inl (g2 _ _ (g1 _ _ h))),by rw[r.length];exact qw _⟩⟩;obtain⟨v,hv,rv⟩:=r.get hd;refine⟨⟨vs,v,.inl (.inl (g2 _ _ (g1 _ _ h))),hv⟩,fun x H3 ⟨e1,e2⟩=>?_⟩;subst e1;have:=e2 vs (.inl (.inl (g2 _ _ (g1 _ _ h))));rw[hv] at this;cases this;exact⟨G2,.refl g2,rv.mono g1⟩
theorem Dk {a:aw} (h:SqL K G a vs) (r:Reps Γ K G vs ds):Yd Γ K (Ite K a) G (ds.mapIdx fun i d=>D.tup [.int i,d]):=by refine⟨fun i d G2 H2 hd g1 g2=>?_,fun G2 H2 g1 g2=>⟨vs,g2.seq (g1.seq h),by rw[kG,r.length];exact qw _⟩⟩;rw[E4] at hd;obtain⟨d',hd',rfl⟩:=oMd hd;obtain⟨v,hv,rv⟩:=r.get hd';refine⟨⟨vs,v,g2.seq (g1.seq h),hv⟩,fun x H3 ⟨T,y,e0,hT,e1,e2⟩=>?_⟩;subst e0;have:=e2 vs (g2.seq (g1.seq h));rw[hv] at this;cases this;subst e1;have s:=Step.new (o:=.tup [.int i,v]) g2 hT;exact⟨_,s,.tup bW (.cons (.int _) (.cons ((rv.mono g1).mono s.gg) .nil))⟩
noncomputable def qZ:D->ar (ac D)
 |.lst l=>aa l
 |.tup l=>aa l
 |.scr l=>aa (l.map D.int)
 |_=>ab
noncomputable def itF (f:FE):FA:=fun ρ=>(f ρ).bind qZ
theorem Le {l:Expr} {tl:TE} (hl:PE X l tl):PI X tg l (fun σ H R=>tl σ H fun x H1=>(∃a,x=.ref a/\(∃xs,SqL X.K H1 a xs)/\R (Itl X.K a) H1)\/(∃a,x=.ref a/\(∃xs,SqT X.K H1 a xs)/\R (Itt X.K a) H1)):=by
 intro pins s σ H R I h;refine thn (hl pins s σ H _ I h) fun v s1 ⟨x,H1,I1,r1,q1⟩=>?_;rcases q1 with⟨a,e,⟨xs,hq⟩,q⟩|⟨a,e,⟨xs,hq⟩,q⟩
 .subst e;cases r1;obtain⟨its,rv,p,hz⟩:=I1.list hq;refine rR p.isList ?_;refine⟨s1.heap.objs.size,[s1.heap.objs.size],_,_,H1,rfl,I1.kept (t':=s1.toks) fun b o e=>qu _ e,Os a _,⟨_,qF _ rfl,rfl,rfl⟩,fun b hb=>?_,q⟩;have e:b=s1.heap.objs.size:=by simpa using hb
  subst e;exact I1.fpOk (qw _) (I1.hok.fresh (qw _))
 .subst e;cases r1;obtain⟨its,rv,p,hz⟩:=I1.tuple hq;refine wpAny_pyIter_tuple (show s1.heap.IsTuple a its.toArray from p) ?_;refine⟨s1.heap.objs.size,[s1.heap.objs.size],_,_,H1,rfl,I1.kept (t':=s1.toks) fun b o e=>qu _ e,FZ a _,⟨_,qF _ rfl,rfl,rfl⟩,fun b hb=>?_,q⟩;have e:b=s1.heap.objs.size:=by simpa using hb
  subst e;exact I1.fpOk (qw _) (I1.hok.fresh (qw _))
theorem bu (h:DE Γ X iter f):DI Γ X tg iter (itF f):=⟨(Le h.1).imp fun σ H R=>by
 rintro⟨G₀,H₀,G,ρ,ds,A,h,k⟩;unfold itF at h;obtain⟨d,hd,h⟩:=oBd h;refine⟨G₀,H₀,G,ρ,d,A,hd,fun v G' H' s r=>?_⟩;unfold qZ at h;split at h
 .cases h;obtain⟨a,vs,rfl,ha,rv⟩:=r.lst_inv;refine .inl ⟨a,rfl,⟨vs,.inl (.inl (s.gh _ _ ha))⟩,k _ G' H' s ?_⟩;refine⟨fun i d G2 H2 hd g1 g2=>?_,fun G2 H2 g1 g2=>⟨vs,.inl (.inl (g2 _ _ (g1 _ _ ha))),by rw[rv.length];exact qw _⟩⟩;obtain⟨v,hv,rv'⟩:=rv.get hd;refine⟨⟨vs,v,.inl (.inl (g2 _ _ (g1 _ _ ha))),hv⟩,fun x H3 ⟨e1,e2⟩=>?_⟩;subst e1;have:=e2 vs (.inl (.inl (g2 _ _ (g1 _ _ ha))));rw[hv] at this;cases this;exact⟨G2,.refl g2,rv'.mono g1⟩
 .cases h;obtain⟨a,vs,rfl,ha,rv⟩:=r.tup_inv;exact .inr ⟨a,rfl,⟨vs,.inl (.inl (s.gh _ _ ha))⟩,k _ G' H' s (IV ha rv)⟩
 .rename_i l;cases h;obtain⟨a,rfl,ha⟩:=r.scr_inv;refine .inl ⟨a,rfl,⟨_,s.gh.seq ha⟩,k _ G' H' s ?_⟩;refine⟨fun i d G2 H2 hd g1 g2=>?_,fun G2 H2 g1 g2=>⟨_,g2.seq (g1.seq ha),by simp⟩⟩;rw[ql] at hd;obtain⟨n,hn,rfl⟩:=oMd hd;have hv:(List.map V.int l)[i]?=aa (V.int n):=by rw[ql,hn];rfl
  refine⟨⟨_,_,g2.seq (g1.seq ha),hv⟩,fun x H3 ⟨e1,e2⟩=>?_⟩;subst e1;have:=e2 _ (g2.seq (g1.seq ha));rw[hv] at this;cases this;exact⟨G2,.refl g2,.int _⟩
 .cases h⟩
noncomputable def wT:D->ar (ac D)
 |.str x=>aa (x.cps.toList.map fun c=>D.str ⟨#[c]⟩)
 |_=>ab
noncomputable def itS (f:FE):FA:=fun ρ=>(f ρ).bind wT
theorem F6 {n:ak} {q:dq} (h:DE Γ X iter f):DI Γ X (.Name n q) iter (itS f):=⟨(MK h.1).imp fun σ H R=>by
 rintro⟨G₀,H₀,G,ρ,ds,A,h,k⟩;unfold itS at h;obtain⟨d,hd,h⟩:=oBd h;refine⟨G₀,H₀,G,ρ,d,A,hd,fun v G' H' s r=>?_⟩;unfold wT at h;split at h<;>cases h;cases r.str_inv;rename_i x;refine⟨x,rfl,k _ G' H' s ⟨fun i d G2 H2 hd g1 g2=>?_,fun G2 H2 g1 g2=>?_⟩⟩
 .rw[ql] at hd;obtain⟨c,hc,rfl⟩:=oMd hd;have hc':x.cps[i]?=aa c:=by simpa using hc
  refine⟨(gJ.mp hc').1,fun y H3 ⟨e1,c2,h2,e2⟩=>?_⟩;subst e1;subst e2;rw[hc'] at h2;cases h2;exact⟨G2,.refl g2,.str _⟩
 .show _=x.cps.size;simp⟩
noncomputable def Cm:D->ar (ac D)
 |.lst l=>aa (l.mapIdx fun i d=>D.tup [.int i,d])
 |.scr l=>aa ((l.map D.int).mapIdx fun i d=>D.tup [.int i,d])
 |_=>ab
noncomputable def itE (f:FE):FA:=fun ρ=>(f ρ).bind Cm
theorem iT {k1:al} (hg:Gl X "enumerate") (hm:X.mg "enumerate"=ab) (h:DE Γ X a f) (hs:a6 [a] X.env=[(aq,eval a X.env)]:=by rfl) (hs0:a6 ([a]:ac Expr) X.env=(aq,eval a X.env)::a6 [] X.env:=by rfl) :
  DI Γ X (.Tuple elts k1 tpos) (.Call (.Name "enumerate" p) [a] [] pos) (itE f):=⟨(Iu hg hm (jq h.1 jI hs0) hs).imp fun σ H R=>by
 rintro⟨G₀,H₀,G,ρ,ds,A,h,k⟩;unfold itE at h;obtain⟨d,hd,h⟩:=oBd h;refine⟨G₀,H₀,G,ρ,d,A,hd,fun v G' H' s r=>?_⟩;unfold Cm at h;split at h
 .cases h;obtain⟨a,vs,rfl,ha,rv⟩:=r.lst_inv;exact⟨a,rfl,⟨vs,.inl (.inl (s.gh _ _ ha))⟩,k _ G' H' s (Dk (.inl (.inl ha)) rv)⟩
 .cases h;obtain⟨a,rfl,ha⟩:=r.scr_inv;exact⟨a,rfl,⟨_,s.gh.seq ha⟩,k _ G' H' s (Dk ha (Reps.ints _))⟩
 .cases h⟩
theorem CT :Yd Γ K (Itr lo n) G ((cP n).map fun i:al=>D.int (lo+i)):=by
 refine⟨fun i d G2 H2 hd g1 g2=>?_,fun G2 H2 g1 g2=>?_⟩
 .rw[ql] at hd;obtain⟨j,hj,rfl⟩:=oMd hd;have hi:i<n:=by have:=(cX.mp hj).1;simpa using this
  have e:j=i:=by simpa[hi] using hj.symm
  subst e;refine⟨hi,fun x H3 ⟨e1,e2⟩=>?_⟩;subst e1;subst e2;exact⟨G2,.refl g2,.int _⟩
 .show n<=_;simp
noncomputable def gr:ac D->ar (ac D)
 |[.int j]=>if -(2 ^ 62)<=j/\j<2 ^ 62 then aa ((cP j.toNat).map fun i:al=>D.int (0+i)) else ab
 |_=>ab
noncomputable def lG:ac D->ar (ac D)
 |[.int i,.int j]=>if -(2 ^ 62)<=i/\i<2 ^ 62 /\ -(2 ^ 62)<=j/\j<2 ^ 62 then aa ((cP (j-i).toNat).map fun k:al=>D.int (i+k)) else ab
 |_=>ab
noncomputable def itR (g:ac D->ar (ac D)) (fr:FA):FA:=fun ρ=>(fr ρ).bind g
theorem nE (hg:Gl X "range") (hm:X.mg "range"=ab) (h:DA Γ X [a] fr) (hs:a6 [a] X.env=[(aq,eval a X.env)]:=by rfl):DI Γ X tg (.Call (.Name "range" p) [a] [] pos) (itR gr fr):=⟨(Jo hg hm h.1 hs).imp fun σ H R=>by
 rintro⟨G₀,H₀,G,ρ,ds,A,h,k⟩;unfold itR at h;obtain⟨d,hd,h⟩:=oBd h;refine⟨G₀,H₀,G,ρ,d,A,hd,fun v G' H' s r=>?_⟩;unfold gr at h;split at h
 .split at h
  .rename_i hz;cases h;obtain⟨v,rfl,r1⟩:=r.one;cases r1.int_inv;exact⟨_,rfl,hz.1,hz.2,k _ G' H' s CT⟩
  .cases h
 .cases h⟩
theorem Df (hg:Gl X "range") (hm:X.mg "range"=ab) (h:DA Γ X [a,b] fr) (hs:a6 [a,b] X.env=[(aq,eval a X.env),(aq,eval b X.env)]:=by rfl) (hs2:a6 [b] X.env=[(aq,eval b X.env)]:=by rfl):DI Γ X tg (.Call (.Name "range" p) [a,b] [] pos) (itR lG fr):=⟨(M9 hg hm h.1 hs hs2).imp fun σ H R=>by
 rintro⟨G₀,H₀,G,ρ,ds,A,h,k⟩;unfold itR at h;obtain⟨d,hd,h⟩:=oBd h;refine⟨G₀,H₀,G,ρ,d,A,hd,fun v G' H' s r=>?_⟩;unfold lG at h;split at h
 .split at h
  .rename_i hz;cases h;obtain⟨v,u,rfl,r1,r2⟩:=r.two;cases r1.int_inv;cases r2.int_inv;exact⟨_,_,rfl,hz,k _ G' H' s CT⟩
  .cases h
 .cases h⟩
noncomputable abbrev FG:=D->bj->ar bj
noncomputable abbrev FGs:=ac D->bj->ar bj
inductive TDg (Γ:Cn) (K:bi) (g:FG) (v:V) (σ:St) (H:Hp) (Q:St->Hp->Prop):Prop where
 |mk:∀G₀ H₀ G ρ d ρ',At Γ K G₀ H₀ G H ρ σ->Rep Γ K G v d->g d ρ=aa ρ'->(∀σ',At Γ K G₀ H₀ G H ρ' σ'->Q σ' H)->TDg Γ K g v σ H Q
inductive TDgs (Γ:Cn) (K:bi) (g:FGs) (vs:ac V) (σ:St) (H:Hp) (Q:St->Hp->Prop):Prop where
 |mk:∀G₀ H₀ G ρ ds ρ',At Γ K G₀ H₀ G H ρ σ->Reps Γ K G vs ds->g ds ρ=aa ρ'->(∀σ',At Γ K G₀ H₀ G H ρ' σ'->Q σ' H)->TDgs Γ K g vs σ H Q
structure DG (Γ:Cn) (X:Cx) (tg:Expr) (g:FG):Prop where
 pg:PG X tg (TDg Γ X.K g)
 no:∀d ρ ρ',g d ρ=aa ρ'->gV ρ->gV ρ'
structure DGs (Γ:Cn) (X:Cx) (ts:ac Expr) (g:FGs):Prop where
 pg:PGs X ts (TDgs Γ X.K g)
 no:∀d ρ ρ',g d ρ=aa ρ'->gV ρ->gV ρ'
theorem PG.imp {t t':TG} (h:PG X tg t) (i:∀v σ H Q,t' v σ H Q->t v σ H Q):PG X tg t':=fun pins s σ H v u Q I r q=>h pins s σ H v u Q I r (i _ _ _ _ q)
theorem PGs.imp {t t':TGs} (h:PGs X ts t) (i:∀v σ H Q,t' v σ H Q->t v σ H Q):PGs X ts t':=fun pins s σ H v u Q I r q=>h pins s σ H v u Q I r (i _ _ _ _ q)
noncomputable def ay (i:al):FG:=fun d ρ=>aa (ρ.set i (aa (.sh d)))
theorem Ln (h:gV ρ):gV (ρ.set i (aa (.sh d))):=fun j ds e=>by
 by_cases hj:j=i
 .subst hj;rw[List.getElem?_set,qX rfl] at e;split at e<;>cases e;exact⟨_,rfl⟩
 .rw[mY (dF hj)] at e;exact h j ds e
theorem aL (i:al) (hN:X.N.Nodup) (hi:X.N[i]?=aa x:=by rfl) (hx:Loc X.env.scope x:=by first|exact di rfl|exact cG rfl) (hf:X.fn x=ai\/X.env.scope.names.lookup x=aa .local:=by first|exact .inl rfl|exact .inr rfl|assumption):DG Γ X (.Name x pos) (ay i):=by
 refine⟨(IH hN hi hx hf).imp fun v σ H Q=>?_,fun d ρ ρ' e h=>?_⟩
 .rintro⟨G₀,H₀,G,ρ,d,ρ',A,r,h,k⟩;cases h;exact k _ (A.setSh r)
 .cases e;exact Ln h
noncomputable def bI:FGs:=fun ds ρ=>match ds with
 |[]=>aa ρ
 |_=>ab
noncomputable def aJ (g:FG) (gs:FGs):FGs:=fun ds ρ=>match ds with
 |d::r=>(g d ρ).bind fun ρ'=>gs r ρ'
 |_=>ab
theorem cU:DGs Γ X [] bI:=by
 refine⟨Hi.imp fun vs σ H Q=>?_,fun d ρ ρ' e h=>?_⟩
 .rintro⟨G₀,H₀,G,ρ,ds,ρ',A,r,h,k⟩;unfold bI at h;split at h<;>cases h;cases r;exact⟨rfl,k σ A⟩
 .unfold bI at e;split at e<;>cases e;exact h
theorem bG {g:FG} (h1:DG Γ X e g) (h2:DGs Γ X ts gs) (hs:(jN (e::ts) X.env).map (·.2)=kA e X.env::(jN ts X.env).map (·.2):=by rfl):DGs Γ X (e::ts) (aJ g gs):=by
 refine⟨(K4 h1.pg h2.pg hs).imp fun vs σ H Q=>?_,fun ds ρ ρ' e h=>?_⟩
 .rintro⟨G₀,H₀,G,ρ,ds,ρ',A,r,h,k⟩;unfold aJ at h;split at h
  .obtain⟨ρ1,h1,h⟩:=oBd h;cases r with
   |cons r1 r2=>exact⟨_,_,rfl,G₀,H₀,G,ρ,_,ρ1,A,r1,h1,fun σ1 A1=>⟨G₀,H₀,G,ρ1,_,ρ',A1,r2,h,k⟩⟩
  .cases h
 .unfold aJ at e;split at e
  .obtain⟨ρ1,e1,e⟩:=oBd e;exact h2.no _ _ _ e (h1.no _ _ _ e1 h)
  .cases e
noncomputable def bJ (n:al) (gs:FGs):FG:=fun d ρ=>match d with
 |.tup ds=>if ds.length=n then gs ds ρ else ab
 |_=>ab
theorem cT {k:al} (hc:X.calm=ai) (h:DGs Γ X ts gs) (hn:(jN ts X.env).length=n:=by rfl) (hst:(jN ts X.env).findIdx? (·.1)=ab:=by rfl):DG Γ X (.Tuple ts k pos) (bJ n gs):=by
 refine⟨(Op hc h.pg hn hst).imp fun v σ H Q=>?_,fun ds ρ ρ' e q=>?_⟩
 .rintro⟨G₀,H₀,G,ρ,d,ρ',A,r,h,k⟩;unfold bJ at h;split at h
  .split at h
   .rename_i hl;obtain⟨a,vs,rfl,ha,rv⟩:=r.tup_inv;exact⟨a,vs,rfl,.inl (.inl (A.gh _ _ ha)),by rw[rv.length];exact hl,G₀,H₀,G,ρ,_,ρ',A,rv,h,k⟩
   .cases h
  .cases h
 .unfold bJ at e;split at e
  .split at e
   .exact h.no _ _ _ e q
   .cases e
  .cases e
noncomputable def ga (g:FG) (ft:FT) (fe:FE):ac D->bj->ar (ac D)
 |[],_=>aa []
 |x::xs,ρ=>(g x ρ).bind fun ρ1=>(ft ρ1).bind fun b=>if b=ai then (fe ρ1).bind fun d=>(ga g ft fe xs ρ1).map (d::·) else ga g ft fe xs ρ1
noncomputable def fu (fv:ac (ar al)) (ρ:bj):bj:=fv.map fun o=>o.bind fun j=>match ρ[j]? with
 |some (aa (.sh d))=>aa (.sh d)
 |_=>ab
noncomputable def a9 (fi:FA) (g:FG) (ft:FT) (fe:FE) (fv:ac (ar al)):FA:=fun ρ=>(fi ρ).bind fun xs=>if xs.length<=aV then ga g ft fe xs (fu fv ρ) else ab
structure DTs (Γ:Cn) (X:Cx) (es:ac Expr) (f:FT):Prop where
 out:PTs X es (TDt Γ X.K f)
theorem PTs.imp {t t':TT} (h:PTs X es t) (i:∀σ H Q,t' σ H Q->t σ H Q):PTs X es t':=fun pins s σ H Q I q=>h pins s σ H Q I (i _ _ _ q)
noncomputable def tT:FT:=fun _=>aa ai
theorem cq:DTs Γ X [] tT:=⟨KR.imp fun σ H Q=>by rintro⟨G₀,H₀,G,ρ,b,A,h,k⟩;cases h;exact k G H (.refl A.gh)⟩
theorem ko (h:DT Γ X c ft):DTs Γ X [c] ft:=⟨KJ h.1⟩
variable {g:FG}
structure DB (Γ:Cn) (X:Cx) (N':ac ak) (scope:Scope) (tg:Expr) (ifs:ac Expr) (elt:Expr) (g:FG) (ft:FT) (fe:FE):Prop where
 out:∀(cl:ac (ak×aw)) (C:aw) (s₀:aI) (H₀:Hp) (fp:ac aw),DG Γ (iX X N' scope cl C s₀ H₀ fp) tg g/\DTs Γ (iX X N' scope cl C s₀ H₀ fp) ifs ft/\DE Γ (iX X N' scope cl C s₀ H₀ fp) elt fe
theorem DB.pb (h:DB Γ X N' scope tg ifs elt g ft fe):PB X N' scope tg ifs elt (TDg Γ X.K g) (TDt Γ X.K ft) (TD Γ X.K fe):=fun cl C s₀ H₀ fp=>⟨(h.1 cl C s₀ H₀ fp).1.pg,(h.1 cl C s₀ H₀ fp).2.1.1,(h.1 cl C s₀ H₀ fp).2.2.1⟩
theorem Mg (A:At Γ K G₀ H₀ G H ρ σ):At Γ K G H G H (fu fv ρ) (iV fv σ)/\gV (fu fv ρ):=by
 have no:gV (fu fv ρ):=fun i ds e=>by
  unfold fu at e;rw[ql] at e;obtain⟨o,ho,e⟩:=oMd e;cases o with
  |none=>cases e
  |some j=>
   simp only[qc] at e;split at e<;>cases e;exact⟨_,rfl⟩
 refine⟨⟨.refl A.gh,.ofSh (by simp[fu,iV]) no fun i d e=>?_⟩,no⟩;unfold fu at e;unfold iV;rw[ql] at e ⊢;obtain⟨o,ho,e⟩:=oMd e;rw[ho];cases o with
 |none=>cases e
 |some j=>
  simp only[qc] at e;split at e
  .rename_i d' hd';cases e;obtain⟨v,h1,h2⟩:=A.env.sh j d hd';exact⟨v,by simp[h1],h2⟩
  .cases e
theorem xg (no:∀d ρ ρ',g d ρ=aa ρ'->gV ρ->gV ρ'):∀σ H Q,TDo Γ X.K (a9 fi g ft fe fv) σ H Q->tLC (TDi Γ X.K fi) (TDg Γ X.K g) (TDt Γ X.K ft) (TD Γ X.K fe) fv σ H Q:=by
 rintro σ H Q ⟨G₀,H₀,G,ρ,ds,A,h,k⟩;unfold a9 at h;obtain⟨xs,hx,h⟩:=oBd h;split at h
 case isFalse=>cases h
 rename_i hz;refine⟨G₀,H₀,G,ρ,xs,A,hx,fun J G1 H1 s1 Y acc hacc=>?_⟩;have gacc:G1 acc=ab:=s1.gh.free hacc;obtain⟨A0,no0⟩:=Mg (fv:=fv) (A.step s1);refine⟨fun i m ys σ' H'=>m=xs.length-i/\i<=xs.length/\ys.length<=i/\∃G' ρ' done bY,At Γ X.K G1 H1 G' H' ρ' σ'/\gV ρ'/\H' acc=aa (.lst ys)/\G' acc=ab/\Reps Γ X.K G' ys done/\ga g ft fe (xs.drop i) ρ'=aa bY/\done++bY=ds,?_,?_⟩
 .refine⟨xs.length,rfl,ix _,qw _,G1,fu fv ρ,[],ds,?_,no0,bW,gacc,.nil,by rw[ni];exact h,rfl⟩;have sn:=Step.newOwn (o:=.lst []) s1.gh hacc;exact⟨sn,.ofSh A0.env.len no0 A0.env.sh⟩
 .rintro i m ys σ' H' ⟨hm,hi,hyi,G',ρ',done,bY,A',no',hacc',gacc',ry,hr,hd⟩;subst hm;refine⟨hacc',?_⟩;by_cases hlt:i<xs.length
  .right
   have hxi:xs[i]?=aa xs[i]:=by simp[hlt]
   obtain⟨go,yl⟩:=Y.go i _ G' H' hxi A'.st.gg A'.gh;refine⟨go,fun x H2 hy=>?_⟩;obtain⟨G2,s2,r2⟩:=yl x H2 hy;have A2:=A'.step s2;have hdr:xs.drop i=xs[i]::xs.drop (i+1):=u6 hlt;rw[hdr] at hr;unfold ga at hr;obtain⟨ρ1,h1,hr⟩:=oBd hr;obtain⟨b,h2,hr⟩:=oBd hr;refine⟨G1,H1,G2,ρ',_,ρ1,A2,r2,h1,fun σ2 A3=>⟨G1,H1,G2,ρ1,b,A3,h2,fun G4 H4 s4=>?_⟩⟩;have no1:=no _ _ _ h1 no';have hH4:H4 acc=aa (.lst ys):=s4.hh _ _ (s2.hh _ _ hacc');have hG4:G4 acc=ab:=(s4.out _ _ (s2.hh _ _ hacc')).trans ((s2.out _ _ hacc').trans gacc');cases b with
   |false=>
    rw[qY qt] at hr;refine mV ⟨xs.length-(i+1),by omega,rfl,hlt,by omega,G4,ρ1,done,bY,A3.step s4,no1,hH4,hG4,(ry.mono s2.gg).mono s4.gg,hr,hd⟩
   |true=>
    rw[qX rfl] at hr;obtain⟨d,h3,hr⟩:=oBd hr;obtain⟨zs,h5,rfl⟩:=oMd hr;refine mK ⟨G1,H1,G4,ρ1,d,A3.step s4,h3,fun v G5 H5 s5 r5=>?_⟩;have A5:=(A3.step s4).step s5;have hH5:H5 acc=aa (.lst ys):=s5.hh _ _ hH4;have hG5:G5 acc=ab:=(s5.out _ _ hH4).trans hG4;refine⟨hH5,by omega,xs.length-(i+1),by omega,rfl,hlt,by rw[qk,qU];omega,G5,ρ1,done++[d],zs,?_,no1,bW,hG5,((((ry.mono s2.gg).mono s4.gg).mono s5.gg).append (.cons r5 .nil)),h5,by rw[oN];exact hd⟩;refine⟨⟨fun b o e=>?_,A5.st.gg,fun b o e=>?_,A5.st.out⟩,.ofSh A5.env.len no1 A5.env.sh⟩
    .rw[a4 (b7 e hacc)];exact A5.st.hh b o e
    .rw[a4 (b7 e hG5)];exact A5.st.gh b o e
  .left
   have e:i=xs.length:=by omega
   subst e;rw[zc] at hr;cases hr;rw[lT] at hd;subst hd;refine⟨Y.stop G' H' A'.st.gg A'.gh,?_⟩;have hf:H'=upd (fun b=>if b=acc then ab else H' b) acc (.lst ys):=by
    funext b
    by_cases hb:b=acc
    .subst hb;rw[bW];exact hacc'
    .rw[a4 hb,qY hb]
   rw[hf];refine k acc ys G' (fun b=>if b=acc then ab else H' b) (s1.trans ⟨fun b o e=>?_,A'.st.gg,fun b o e=>?_,A'.st.out⟩) (qX rfl) ry
   .show(if b=acc then ab else H' b)=aa o;rw[qY (b7 e hacc)];exact A'.st.hh b o e
   .show(if b=acc then ab else H' b)=aa o;rw[qY (b7 e gacc')];exact A'.st.gh b o e
theorem cu (hc:X.calm=ai) (S:CompScope X scope) (F:FvOk X N' scope fv) (hi:DI Γ X tg iter fi) (hb:DB Γ X N' scope tg ifs elt g ft fe) (hs:∀x,oH iter X.env x=bB x:=by intro _;rfl) :
  DO Γ X .(F) (a9 fi g ft fe fv):=⟨(Lx hc S F hi.1 hb.pb hs).imp (xg (hb.1 [] 0 X.s₀ X.H₀ []).1.no)⟩
end
variable {g g':FS} {sts:ac Stmt} {gg:FG} {vp:dq}
section
variable {a:Expr}
noncomputable def aP:FS:=fun ρ=>aa (.nx,ρ)
noncomputable def ax (g g':FS):FS:=fun ρ=>(g ρ).bind fun r=>match r.1 with
 |.nx=>g' r.2
 |fl=>aa (fl,r.2)
theorem bp:DSs Γ X [] aP:=⟨HE.imp fun E σ H=>by rintro⟨G₀,H₀,G,ρ,fl,ρ',A,h,k⟩;cases h;exact k σ G H (.refl _) A⟩
theorem aD (h:DS Γ X st g):DSs Γ X [st] g:=⟨LQ h.1⟩
theorem aC (h1:DS Γ X st g) (h2:DSs Γ X sts g'):DSs Γ X (st::sts) (ax g g'):=⟨(Pg h1.1 h2.1).imp fun E σ H=>by
 rintro⟨G₀,H₀,G,ρ,fl,ρ',A,h,k⟩;unfold ax at h;obtain⟨⟨fl1,ρ1⟩,h1,h⟩:=oBd h;refine⟨G₀,H₀,G,ρ,fl1,ρ1,A,h1,fun σ1 G1 H1 sm A1=>?_⟩;cases fl1 with
 |nx=>exact⟨G₀,H₀,G1,ρ1,fl,ρ',A1,h,fun σ' G' H' sm' A'=>k σ' G' H' (sm.trans sm') A'⟩
 |bk=>cases h;exact k σ1 G1 H1 sm A1
 |ct=>cases h;exact k σ1 G1 H1 sm A1
 |rt d=>cases h;exact k σ1 G1 H1 sm A1
 |ow d=>cases h;exact k σ1 G1 H1 sm A1
 |nw d=>cases h;exact k σ1 G1 H1 sm A1
 |od d=>cases h;exact k σ1 G1 H1 sm A1⟩
noncomputable def aE (f:FE):FS:=fun ρ=>(f ρ).map fun d=>(.rt d,ρ)
theorem aN (h:DE Γ X e f):DS Γ X (.Return (aa e) pos) (aE f):=⟨(Gk h.1).imp fun E σ H=>by rintro⟨G₀,H₀,G,ρ,fl,ρ',A,h,k⟩;unfold aE at h;obtain⟨d,hd,h⟩:=oMd h;cases h;exact⟨G₀,H₀,G,ρ,d,A,hd,fun v G' H' s r=>k σ G' H' s.gg (A.step s) v r⟩⟩
noncomputable def aG (i:al) (f:FE):FS:=fun ρ=>(f ρ).map fun d=>(.nx,ρ.set i (aa (.sh d)))
theorem a8 (i:al) (hN:X.N.Nodup) (h:DE Γ X e f) (hi:X.N[i]?=aa x:=by rfl) (hx:Loc X.env.scope x:=by first|exact di rfl|exact cG rfl) (hs:fK e (aa (.Name x pos')) pos.line X.env=bB aq:=by rfl) (hf:X.fn x=ai\/X.env.scope.names.lookup x=aa .local:=by first|exact .inl rfl|exact .inr rfl|assumption) :
  DS Γ X (.Assign [.Name x pos'] e pos) (aG i f):=⟨(uk hN hi hx h.1 hs hf).imp fun E σ H=>by
 rintro⟨G₀,H₀,G,ρ,fl,ρ',A,h,k⟩;unfold aG at h;obtain⟨d,hd,h⟩:=oMd h;cases h;exact⟨G₀,H₀,G,ρ,d,A,hd,fun v G' H' s r=>k _ G' H' s.gg ((A.step s).setSh r)⟩⟩
noncomputable def dL (i:al) (f:FA):FS:=fun ρ=>(f ρ).map fun d=>(.nx,ρ.set i (aa (.own d)))
theorem Cu :∀E σ H,TDs Γ X.K (dL i fr) E σ H->pW (TDo Γ X.K fr) (pG i) E σ H:=by rintro E σ H ⟨G₀,H₀,G,ρ,fl,ρ',A,h,k⟩;unfold dL at h;obtain⟨d,hd,h⟩:=oMd h;cases h;exact⟨G₀,H₀,G,ρ,d,A,hd,fun p vs G' H' s hp r=>k _ G' _ s.gg ((A.step s).setOwn hp r)⟩
theorem iP (i:al) (hN:X.N.Nodup) (h:DO Γ X e fr) (hi:X.N[i]?=aa x:=by rfl) (hx:Loc X.env.scope x:=by first|exact di rfl|exact cG rfl) (hs:fK e (aa (.Name x pos')) pos.line X.env=bB aq:=by rfl) (hf:X.fn x=ai\/X.env.scope.names.lookup x=aa .local:=by first|exact .inl rfl|exact .inr rfl|assumption) :
  DS Γ X (.Assign [.Name x pos'] e pos) (dL i fr):=⟨(uk hN hi hx h.1 hs hf).imp Cu⟩
theorem J5 :∀E σ H,TDs Γ X.K (aG i (aH fr)) E σ H->pW (TDo Γ X.K fr) (pG i) E σ H:=by rintro E σ H ⟨G₀,H₀,G,ρ,fl,ρ',A,h,k⟩;unfold aG aH at h;obtain⟨d,hd,h⟩:=oMd h;obtain⟨ds,hd',rfl⟩:=oMd hd;cases h;refine⟨G₀,H₀,G,ρ,ds,A,hd',fun p vs G' H' s hp r=>?_⟩;have s2:=Step.new (o:=.lst vs) s.gh hp;exact k _ _ _ (s.gg.trans s2.gg) (((A.step s).step s2).setSh (.lst bW (r.mono s2.gg)))
theorem jp (i:al) {y:ak} (hN:X.N.Nodup) (hc:X.calm=ai) (S:CompScope X scope) (F:FvOk X N' scope fv) (hi:DI Γ X tg iter fi) (hb:DB Γ X N' scope tg ifs elt gg ft fe)
  (hy:X.N[i]?=aa y:=by rfl) (hyl:X.env.scope.names.lookup y=aa .local:=by rfl) (hsw:fK .(F) (aa (.Name y py)) spos.line X.env=bB ai:=by rfl) (hs:∀x,oH iter X.env x=bB x:=by intro _;rfl) :
  DS Γ X (.Assign [.Name y py] .(F) spos) (aG i (aH (a9 fi gg ft fe fv))):=⟨(Bw hN hy hyl hc S F hi.1 hb.pb hsw hs).imp fun E σ H q=>xg (hb.1 [] 0 X.s₀ X.H₀ []).1.no σ H _ (J5 E σ H q)⟩
theorem Om (i:al) {y:ak} (hN:X.N.Nodup) (hc:X.calm=ai) (S:CompScope X scope) (F:FvOk X N' scope fv) (hi:DI Γ X tg iter fi) (hb:DB Γ X N' scope tg ifs elt gg ft fe)
  (hy:X.N[i]?=aa y:=by rfl) (hyl:X.env.scope.names.lookup y=aa .local:=by rfl) (hsw:fK .(F) (aa (.Name y py)) spos.line X.env=bB ai:=by rfl) (hs:∀x,oH iter X.env x=bB x:=by intro _;rfl) :
  DS Γ X (.Assign [.Name y py] .(F) spos) (dL i (a9 fi gg ft fe fv)):=⟨(Bw hN hy hyl hc S F hi.1 hb.pb hsw hs).imp fun E σ H q=>xg (hb.1 [] 0 X.s₀ X.H₀ []).1.no σ H _ (Cu E σ H q)⟩
noncomputable def c7 (i:al) (f:FE):FS:=fun ρ=>match ρ[i]? with
 |some (aa (.own ds))=>(f ρ).bind fun d=>if ds.length<aV then aa (.nx,ρ.set i (aa (.own (ds++[d])))) else ab
 |_=>ab
theorem jB (i:al) (h:DE Γ X e f) (hN:X.N[i]?=aa x:=by rfl) (hv:Vis X.env.scope x:=by first|exact di rfl|exact cG (di rfl)|exact cG (cG rfl)) (hd:.(E)=aq:=by decide)
  (hcd:(x==("__classdict__":ak))=aq:=by decide)
  (hbase:gx (.Name x vp) "append" X.env (eval (.Name x vp) X.env)=eval (.Name x vp) X.env:=by rfl)
  (hfew:((cC cpos (a6 [e] X.env)).all (fun x=>!x.1) && (i8 cpos (i9 [] X.env)).all (fun x=>x.1.isSome)
   && decide ([e].length+([]:ac jc).length+(if ([]:ac jc).isEmpty then 0 else 1)<30))=ai:=by rfl)
  (hline:(apos.endLine==cpos.line)=ai:=by rfl) (hs:a6 [e] X.env=(aq,eval e X.env)::a6 [] X.env:=by rfl) (hplain:(cC cpos (a6 [] X.env)).any (·.1)=aq:=by rfl)
  (hsw:fK (.Call (.Attribute (.Name x vp) "append" apos) [e] [] cpos) ab pos.line X.env=bB aq:=by rfl) :
  DS Γ X (.Expr (.Call (.Attribute (.Name x vp) "append" apos) [e] [] cpos) pos) (c7 i f):=⟨(wA (wC E5 QU PySem.F.type_list_append Bh (iW hN hv hd hcd) (jq h.1 jI hs) hbase hfew hline hs hplain) hsw).imp fun E σ H=>by
  rintro⟨G₀,H₀,G,ρ,fl,ρ',A,h,k⟩;unfold c7 at h;split at h
  .rename_i ds hi;obtain⟨d,hd,h⟩:=oBd h;split at h
   .rename_i hz;cases h;obtain⟨a,vs,h1,h2,h3,h4,h5⟩:=A.env.own i ds hi;refine⟨.ref a,h1,.inl ⟨rfl,vs,.inl (.inl h4)⟩,G₀,H₀,G,ρ,d,A,hd,fun v G1 H1 s1 r1=>?_⟩;have A1:=A.step s1;refine⟨a,vs,v,rfl,rfl,s1.hh _ _ h4,by rw[h5.length];exact hz,?_⟩;exact k σ G1 _ s1.gg (A1.chOwn hi h1 ((h5.mono s1.gg).append (.cons r1 .nil)))
   .cases h
  .cases h⟩
noncomputable def eF (i:al) (g:FS):FS:=fun ρ=>match ρ[i]? with
 |some (aa (.own ds))=>g (ρ.set i (aa (.sh (.lst ds))))
 |_=>ab
theorem TDs.frz (i:al):∀E σ H,TDs Γ X.K (eF i g) E σ H->TDs Γ X.K g E σ H:=by
 rintro E σ H ⟨G₀,H₀,G,ρ,fl,ρ',A,h,k⟩;unfold eF at h;split at h
 .rename_i ds hi;obtain⟨G',sm,A'⟩:=A.freeze hi;exact⟨G₀,H₀,G',_,fl,ρ',A',h,fun σ1 G1 H1 sm1 A1=>k σ1 G1 H1 (sm.trans sm1) A1⟩
 .cases h
theorem ia (i:al) (h:DSs Γ X sts g):DSs Γ X sts (eF i g):=⟨h.1.imp (TDs.frz i)⟩
noncomputable def sIf (ft:FT) (g g':FS):FS:=fun ρ=>(ft ρ).bind fun c=>if c=ai then g ρ else g' ρ
theorem bo {sa sb:ac Stmt} (hc:DT Γ X c ft) (ha:DSs Γ X sa g) (hb:DSs Γ X sb g'):DS Γ X (.If c sa sb pos) (sIf ft g g'):=⟨(K1 hc.1 ha.1 hb.1).imp fun E σ H=>by
 rintro⟨G₀,H₀,G,ρ,fl,ρ',A,h,k⟩;unfold sIf at h;obtain⟨x,hx,h⟩:=oBd h;refine⟨G₀,H₀,G,ρ,x,A,hx,fun G1 H1 s1=>?_⟩;cases x with
 |true=>exact mK ⟨G₀,H₀,G1,ρ,fl,ρ',A.step s1,by simpa using h,fun σ2 G2 H2 sm2 A2=>k σ2 G2 H2 (s1.gg.trans sm2) A2⟩
 |false=>exact mV ⟨G₀,H₀,G1,ρ,fl,ρ',A.step s1,by simpa using h,fun σ2 G2 H2 sm2 A2=>k σ2 G2 H2 (s1.gg.trans sm2) A2⟩⟩
noncomputable def dM (gg:FG) (f:FE):FS:=fun ρ=>(f ρ).bind fun d=>(gg d ρ).map fun ρ'=>(.nx,ρ')
theorem rh (h:DE Γ X e f) (hg:DG Γ X tg gg) (hs:yy [tg] e pos.line X.env=bB aq:=by rfl) (hw:yz [tg] e X.env=bB ab:=by rfl)
  (h1:(jN [tg] X.env).map (·.2)=[kA tg X.env]:=by rfl):DS Γ X (.Assign [tg] e pos) (dM gg f):=⟨(Ku h.1 hg.pg hs hw h1).imp fun E σ H=>by
 rintro⟨G₀,H₀,G,ρ,fl,ρ',A,h,k⟩;unfold dM at h;obtain⟨d,hd,h⟩:=oBd h;obtain⟨ρ1,h1,h⟩:=oMd h;cases h;exact⟨G₀,H₀,G,ρ,d,A,hd,fun v G' H' s r=>⟨G₀,H₀,G',ρ,d,ρ',A.step s,r,h1,fun σ' A'=>k σ' G' H' s.gg A'⟩⟩⟩
noncomputable def fz (gg:FG) (body:FS):ac D->FS
 |[],ρ=>aa (.nx,ρ)
 |x::xs,ρ=>(gg x ρ).bind fun ρ1=>(body ρ1).bind fun r=>match r.1 with
  |.nx=>fz gg body xs r.2
  |.ct=>fz gg body xs r.2
  |.bk=>aa (.nx,r.2)
  |.rt d=>aa (.rt d,r.2)
  |.ow d=>aa (.ow d,r.2)
  |.nw d=>aa (.nw d,r.2)
  |.od d=>aa (.od d,r.2)
noncomputable def bD (fi:FA) (gg:FG) (body:FS):FS:=fun ρ=>(fi ρ).bind fun xs=>fz gg body xs ρ
theorem b8 {body:ac Stmt} (hp:PassesOwn .(q) X.A X.env X.xe) (hc:X.calm=ai) (hi:DI Γ X tg iter fi) (hg:DG Γ X tg gg) (hb:DSs Γ X body g) (hs:∀x,oH iter X.env x=bB x:=by intro _;rfl) :
  DS Γ X (.For tg iter body [] pos) (bD fi gg g):=⟨(Oe hp hc hi.1 hg.pg hb.1 hs).imp fun E σ H=>by
 rintro⟨G₀,H₀,G,ρ,fl,ρ',A,h,k⟩;unfold bD at h;obtain⟨xs,hx,h⟩:=oBd h;refine⟨G₀,H₀,G,ρ,xs,A,hx,fun J G1 H1 s1 Y=>?_⟩;refine⟨fun i m σ' H'=>m=xs.length-i/\i<=xs.length/\∃G' ρ1,bO G1 G'/\At Γ X.K G₀ H₀ G' H' ρ1 σ'/\fz gg g (xs.drop i) ρ1=aa (fl,ρ'),⟨xs.length,rfl,ix _,G1,ρ,.refl _,A.step s1,by rw[ni];exact h⟩,?_⟩;rintro i m σ' H' ⟨rfl,hi,G',ρ1,sm,A',hr⟩;by_cases hlt:i<xs.length
 .right
  have hxi:xs[i]?=aa xs[i]:=by simp[hlt]
  obtain⟨go,yl⟩:=Y.go i _ G' H' hxi sm A'.gh;have hdr:xs.drop i=xs[i]::xs.drop (i+1):=u6 hlt;rw[hdr] at hr;unfold fz at hr;obtain⟨ρ2,h2,hr⟩:=oBd hr;obtain⟨⟨fl3,ρ3⟩,h3,hr⟩:=oBd hr;refine⟨go,fun σ3 H3=>(fl3=.nx\/fl3=.ct)/\∃G3,bO G1 G3/\At Γ X.K G₀ H₀ G3 H3 ρ3 σ3,fun σ3 H3 ⟨hfl,G3,sm3,A3⟩=>?_,fun x H2 hy=>?_⟩
  .refine⟨xs.length-(i+1),by omega,rfl,hlt,G3,ρ3,sm3,A3,?_⟩;rcases hfl with e|e<;>subst e<;>exact hr
  .obtain⟨G2,s2,r2⟩:=yl x H2 hy;refine⟨G₀,H₀,G2,ρ1,_,ρ2,A'.step s2,r2,h2,fun σ2 A2=>⟨G₀,H₀,G2,ρ2,fl3,ρ3,A2,h3,fun σ3 G3 H3 sm3 A3=>?_⟩⟩;have smm:bO G1 G3:=(sm.trans s2.gg).trans sm3;cases fl3 with
   |nx=>exact⟨.inl rfl,G3,smm,A3⟩
   |ct=>exact⟨.inr rfl,G3,smm,A3⟩
   |bk=>cases hr;exact k σ3 G3 H3 (s1.gg.trans smm) A3
   |rt d=>cases hr;exact k σ3 G3 H3 (s1.gg.trans smm) A3
   |ow d=>cases hr;exact k σ3 G3 H3 (s1.gg.trans smm) A3
   |nw d=>cases hr;exact k σ3 G3 H3 (s1.gg.trans smm) A3
   |od d=>cases hr;exact k σ3 G3 H3 (s1.gg.trans smm) A3
 .left
  have e:i=xs.length:=by omega
  subst e;rw[zc] at hr;cases hr;exact⟨Y.stop G' H' sm A'.gh,k σ' G' H' (s1.gg.trans sm) A'⟩⟩
end
variable {fk:FE} {F:ac D->ar D}
section
variable {a:Expr} {fw:FE}
inductive spF (Γ:Cn) (K:bi) (n:al) (F:ac D->ar D) (vs:ac V) (H:Hp) (Q:VK) (_e3:XK):Prop where
 |mk:∀G ds d,bO G H->Reps Γ K G vs ds->ds.length=n->F ds=aa d->(∀v G' H',Step G H G' H'->Rep Γ K G' v d->Q v H')->spF Γ K n F vs H Q _e3
noncomputable def aY (n:al) (g:FS):ac D->ar D:=fun ds=>(g (ds.map (fun d=>aa (Slot.sh d))++ce n ab)).bind fun r=>match r.1 with
 |.rt d=>aa d
 |.nx=>aa .non
 |_=>ab
theorem Km {m:al} (gh:bO G H) (r:Reps Γ K G vs ds) (hm:m=N.length-vs.length):At Γ K G H G H (ds.map (fun d=>aa (Slot.sh d))++ce m ab) (gD N vs):=by
 have no:gV (ds.map (fun d=>aa (Slot.sh d))++ce m ab):=fun i es e=>by
  by_cases hi:i<ds.length
  .rw[qy (by simpa using hi),ql] at e;obtain⟨d,_,e⟩:=oMd e;cases e;exact⟨_,rfl⟩
  .rw[qJ (by simpa using hi),yM] at e;split at e<;>cases e
 refine⟨.refl gh,.ofSh (by simp[gD,r.length,hm]) no fun i d e=>?_⟩;by_cases hi:i<ds.length
 .rw[qy (by simpa using hi),ql] at e;obtain⟨d',hd,e⟩:=oMd e;cases e;obtain⟨v,hv,rv⟩:=r.get hd;refine⟨v,?_,rv⟩;unfold gD;rw[qy (by rw[qg,r.length];exact hi),ql,hv];rfl
 .rw[qJ (by simpa using hi),yM] at e;split at e<;>cases e
theorem Fun.okD {f:aw} {k:al} (F:Fun K x qual st f fd) (S:FnScope N ps (aS st))
  (hbody:∀(cdv:Value) (A:eB) (outer:ac dc) (s:aI) (H:Hp) (E:XK),Room k (A.deeper (fy qual (aS st) s.heap.objs.size f cdv))->
   DSs Γ (ii CX0 P w K mg base N qual (aS st) f cdv A outer s H E).nox (eU st) g):FnOk P w K mg base CX0 (k+1) f fd ps (spF Γ K ps.length (aY (N.length-ps.length) g)):=by
 refine F.ok S (fun vs H Q E h=>?_) (fun cdv A outer s H vs Q E hr h=>?_)
 .obtain⟨G,ds,d,_,r,hl,_⟩:=h;rw[r.length,hl]
 .obtain⟨G,ds,d,gh,r,hl,hd,k⟩:=h;refine⟨_,(hbody cdv A outer s H E hr).1,?_⟩;unfold aY at hd;obtain⟨⟨fl,ρ'⟩,hg,hd⟩:=oBd hd;refine⟨G,H,G,_,fl,ρ',Km gh r (by rw[r.length,hl]),hg,fun σ' G' H' sm A'=>?_⟩;cases fl with
  |rt d'=>cases hd;exact fun v rv=>k v G' H' A'.st rv
  |nx=>cases hd;exact k .non G' H' A'.st .non
  |bk=>cases hd
  |ct=>cases hd
  |ow d=>cases hd
  |nw d=>cases hd
  |od d=>cases hd
theorem Ht {k:al} {fx:aw} (Fo:FnOk X.prog X.w X.K X.mg X.base CX0 k fx fd ps (spF Γ X.K n F)) (hr:Room k X.A) (hg:Gl X x) (hm:X.mg x=aa (.ref fx)) (hk:i7 X.K (.ref fx)=ai) (hb:gL X.K fd ps [])
  (ha:DA Γ X (e::es) fr) (hn:∀ρ ds,fr ρ=aa ds->ds.length=n) (hdb:.(E)=aq:=by decide) (he:a6 (e::es) X.env=(aq,eval e X.env)::a6 es X.env:=by rfl) (hpl:(cC pos (a6 es X.env)).any (·.1)=aq:=by rfl) :
  DE Γ X .(ax) (cF F fr):=⟨(NA Fo hr hg hm hk hb .nil tq ha.1 hdb he hpl).imp fun σ H Q=>by
 rintro⟨G₀,H₀,G,ρ,d,A,h,k⟩;unfold cF at h;obtain⟨ds,hd,h⟩:=oBd h;refine⟨G₀,H₀,G,ρ,ds,A,hd,fun vs G1 H1 s1 r1=>?_⟩;show spF Γ X.K n F (vs++[]) H1 Q E0;rw[lT];exact⟨G1,ds,d,s1.gh,r1,hn ρ ds hd,h,fun v G' H' s r=>k v G' H' (s1.trans s) r⟩⟩
theorem LZ (h:aj ρ=aa ds):ds.length=0:=by cases h;rfl
theorem mz (hn:∀ρ ds,fr ρ=aa ds->ds.length=n):∀ρ ds,ae fa fr ρ=aa ds->ds.length=n+1:=fun ρ ds h=>by unfold ae at h;obtain⟨x,hx,h⟩:=oBd h;obtain⟨xs,hxs,rfl⟩:=oMd h;rw[qj,hn ρ xs hxs]
end
structure Cal (Γ:Cn) (P:dy) (w:cS) (K:bi) (mg:ak->ar Value) (base:Heap) (x:ak) (n k:al) (F:ac D->ar D):Prop where
 ex:∃f fd ps,FnOk P w K mg base CX0 k f fd ps (spF Γ K n F)/\mg x=aa (.ref f)/\i7 K (.ref f)=ai/\gL K fd ps []
structure Dfn (K:bi) (mg:ak->ar Value) (x:ak) (st:Stmt):Prop where
 ex:∃f fd,Fun K x x st f fd/\mg x=aa (.ref f)
theorem jx {k:al} (C:Cal Γ X.prog X.w X.K X.mg X.base x n k F) (hr:Room j X.A) (hk:k<=j) (hg:Gl X x) (ha:DA Γ X (e::es) fr) (hn:∀ρ ds,fr ρ=aa ds->ds.length=n)
  (hdb:.(E)=aq:=by decide) (he:a6 (e::es) X.env=(aq,eval e X.env)::a6 es X.env:=by rfl) (hpl:(cC pos (a6 es X.env)).any (·.1)=aq:=by rfl) :
  DE Γ X .(ax) (cF F fr):=by
 obtain⟨f,fd,ps,h1,h2,h3,h4⟩:=C.ex;exact Ht h1 (hr.mono hk) hg h2 h3 h4 ha hn hdb he hpl
theorem Dfn.cal {k:al} (F:Dfn K mg x st) (S:FnScope N ps (aS st))
  (hb:∀(kV doc pm:Value) (an:ar aw) (cdv ct:Value) (us:ac Value),us.length=ps.length->lS (hG x x (ij st) (eU st) (aS st) .none kV doc pm an cdv ct) ⟨us,[]⟩=bB (ps.zip us))
  (hbody:∀(f:aw) (cdv:Value) (A:eB) (outer:ac dc) (s:aI) (H:Hp) (E:XK),Room k (A.deeper (fy x (aS st) s.heap.objs.size f cdv))->
   DSs Γ (ii CX0 P w K mg base N x (aS st) f cdv A outer s H E).nox (eU st) g):Cal Γ P w K mg base x ps.length (k+1) (aY (N.length-ps.length) g):=by
 obtain⟨f,fd,h1,h2⟩:=F.ex;exact⟨f,fd,ps,h1.okD S (hbody f),h2,h1.kp,h1.binds hb⟩
theorem Dfn.mk' {h:Heap} {f:aw} {kV:Value} (X:K.In h) (G:h.Ns fY mg) (a:zd K fY x=aa (aa (.ref f)))
  (l:K.lookup f=aa ⟨oc,od,.func (hG x x (ij st) (eU st) (aS st) .none kV doc pm an cdv ct),osl⟩) (c:rC K cdv x=ai) (k:i7 K (.ref f)=ai):Dfn K mg x st:=
 ⟨f,_,vx l c k,ze X G a⟩
noncomputable def C5 (names:ac (ak×gZ)) (outer:ac (ak×gZ)):aX:=
 names.all fun y=>y.2 != .cell && (y.2 != .local || names.lookup y.1==aa .local) && (y.2 != .free || outer.lookup y.1==aa .cell || outer.lookup y.1==aa .free)
theorem CompScope.of (hk:scope.kind=.function) (h:C5 scope.names X.env.scope.names=ai):CompScope X scope:=by
 unfold C5 at h;rw[rP] at h;refine⟨hk,fun y hy e=>?_,fun y hy e=>?_,fun y hy e=>?_⟩
 .have:=h y hy;rw[e] at this;simp at this
 .have:=h y hy;rw[e] at this;simpa using this
 .have:=h y hy;rw[e] at this;simpa[Env.kindOf] using this
noncomputable def DL (N':ac ak) (fv:ac (ar al)) (N:ac ak) (outer names:ac (ak×gZ)):aX:=
 fv.length==N'.length && (N'.zip fv).all fun y=>match y.2 with
  |none=>ai
  |some j=>N[j]?==aa y.1 && (outer.lookup y.1==aa .cell || outer.lookup y.1==aa .free) && names.lookup y.1==aa .free
theorem FvOk.of (h:DL N' fv X.N X.env.scope.names scope.names=ai):FvOk X N' scope fv:=by
 unfold DL at h;rw[gI,rP] at h;obtain⟨h1,h2⟩:=h;refine⟨by simpa using h1,fun i j x e1 e2=>?_⟩;have hm:(x,aa j)∈N'.zip fv:=by refine u7.mpr ⟨i,?_⟩;rw[List.getElem?_zip_eq_some];exact⟨e1,e2⟩
 have:=h2 _ hm;simp only[gI,E1,kC] at this;exact⟨this.1.1,this.1.2,this.2⟩
mutual
def pdD:D->ar rS
 |.non=>aa .none
 |.bl b=>aa (.bool b)
 |.int i=>aa (.int i)
 |.str x=>aa (.str x)
 |.tup l=>(gm l).map Rg
 |.lst l=>(gm l).map PyData.list
 |.scr ns=>aa (.list (ns.map Rh))
 |_=>ab
def gm:ac D->ar (ac rS)
 |[]=>aa []
 |d::r=>(pdD d).bind fun p=>(gm r).map (p::·)
end
theorem As {h:Heap}:∀{ns:ac ag} {us:ac Value},bK (ns.map V.int) us->∃as,ReadsAll h us (ns.map Rh) as
 |[],_,r=>by rw[qN] at r;cases r;exact⟨_,.nil⟩
 |n::ns,_,r=>by
  rw[qo] at r;cases r with
  |cons r1 r2=>
   obtain⟨t,e⟩:=r1;subst e;obtain⟨as,q⟩:=As r2;exact⟨_,.cons (.int n t) q⟩
mutual
theorem Rep.reads (I:Inv X pins σ H s) (gh:bO G H):∀{v:V} {d:D} {u:Value} {p:rS},Rep Γ X.K G v d->bx v u->pdD d=aa p->∃as,Reads s.heap u p as
 |_,_,u,p,.non,r,h=>by cases r;rw[pdD] at h;cases h;exact⟨_,.none⟩
 |_,_,u,p,.bl b,r,h=>by cases r;rw[pdD] at h;cases h;exact⟨_,.bool b⟩
 |_,_,u,p,.int i,r,h=>by obtain⟨t,rfl⟩:=r;rw[pdD] at h;cases h;exact⟨_,.int i t⟩
 |_,_,u,p,.str x,r,h=>by obtain⟨t,rfl⟩:=r;rw[pdD] at h;cases h;exact⟨_,.str x t⟩
 |_,_,u,p,.ty n,r,h=>by rw[pdD] at h;cases h;all_goals (intros;contradiction)
 |_,_,u,p,.tup ha rs,r,h=>by
  cases r;rw[pdD] at h;obtain⟨ps,hp,rfl⟩:=oMd h;obtain⟨its,rv,⟨o,e1,e2,n,e3⟩,_⟩:=I.tuple (.inl (.inl (gh _ _ ha)));obtain⟨as,q⟩:=Reps.reads I gh rs rv hp;exact⟨_,.tuple e1 e2 e3 (by simpa using q)⟩
 |_,_,u,p,.lst ha rs,r,h=>by
  cases r;rw[pdD] at h;obtain⟨ps,hp,rfl⟩:=oMd h;obtain⟨its,rv,⟨o,n,e1,e2,_,e3⟩,_⟩:=I.list (.inl (.inl (gh _ _ ha)));obtain⟨as,q⟩:=Reps.reads I gh rs rv hp;exact⟨_,.list e1 e2 e3 (by simpa using q)⟩
 |_,_,u,p,.scr hs,r,h=>by
  cases r;rw[pdD] at h;cases h;obtain⟨its,rv,⟨o,n,e1,e2,_,e3⟩,_⟩:=I.list (gh.seq hs);obtain⟨as,q⟩:=As (h:=s.heap) rv;exact⟨_,.list e1 e2 e3 (by simpa using q)⟩
 |_,_,u,p,.dk ha _ _,r,h=>by rw[pdD] at h;cases h;all_goals (intros;contradiction)
 |_,_,u,p,.fdk ha _ _,r,h=>by rw[pdD] at h;cases h;all_goals (intros;contradiction)
 |_,_,u,p,.dt ha _ _,r,h=>by rw[pdD] at h;cases h;all_goals (intros;contradiction)
 |_,_,u,p,.ins ha _ _ _,r,h=>by rw[pdD] at h;cases h;all_goals (intros;contradiction)
theorem Reps.reads (I:Inv X pins σ H s) (gh:bO G H):∀{vs:ac V} {ds:ac D} {us:ac Value} {ps:ac rS},Reps Γ X.K G vs ds->bK vs us->gm ds=aa ps->∃as,ReadsAll s.heap us ps as
 |_,_,_,_,.nil,r,h=>by cases r;rw[gm] at h;cases h;exact⟨_,.nil⟩
 |_,_,_,_,.cons r1 r2,r,h=>by
  cases r with
  |cons q1 q2=>
   rw[gm] at h;obtain⟨p,hp,h⟩:=oBd h;obtain⟨ps,hps,rfl⟩:=oMd h;obtain⟨as,a1⟩:=Rep.reads I gh r1 q1 hp;obtain⟨bs,a2⟩:=Reps.reads I gh r2 q2 hps;exact⟨_,.cons a1 a2⟩
end
section
variable {a:Expr}
noncomputable def eqX (x y:D):ar aX:=(pdD x).bind fun p=>(pdD y).bind fun q=>if dH p=ai/\dH q=ai then aa (hV p q) else ab
noncomputable def pU (x y:D):ar D:=(eqX x y).map D.bl
noncomputable def mf (x y:D):ar D:=(eqX x y).map fun b=>D.bl (!b)
noncomputable def rX (Γ:Cn) (K:bi) (neg:aX):R2:=fun x y H Q=>∃G d e b,bO G H/\Rep Γ K G x d/\Rep Γ K G y e/\eqX d e=aa b/\Q (.bl (if neg then !b else b)) H
theorem vz {x:D} {b:aX} (h:eqX x y=aa b):∃p q,pdD x=aa p/\pdD y=aa q/\dH p=ai/\dH q=ai/\b=hV p q:=by
 unfold eqX at h;obtain⟨p,hp,h⟩:=oBd h;obtain⟨q,hq,h⟩:=oBd h;split at h
 .rename_i hz;cases h;exact⟨p,q,hp,hq,hz.1,hz.2,rfl⟩
 .cases h
theorem GF (hu:X.A.units+64<cg):OpR X (dh .Eq) (rX Γ X.K aq):=by intro pins s σ H x y v u Q I rx ry h;obtain⟨G,d,e,b,gh,r1,r2,hb,q⟩:=h;obtain⟨p,q',hp,hq,s1,s2,rfl⟩:=vz hb;obtain⟨as,a1⟩:=r1.reads I gh rx hp;obtain⟨bs,a2⟩:=r2.reads I gh ry hq;exact eq_dataH a1 a2 s1 s2 hu ⟨.bl _,H,I,rfl,q⟩
theorem JE (hu:X.A.units+64<cg):OpR X (dh .NotEq) (rX Γ X.K ai):=by intro pins s σ H x y v u Q I rx ry h;obtain⟨G,d,e,b,gh,r1,r2,hb,q⟩:=h;obtain⟨p,q',hp,hq,s1,s2,rfl⟩:=vz hb;obtain⟨as,a1⟩:=r1.reads I gh rx hp;obtain⟨bs,a2⟩:=r2.reads I gh ry hq;exact ne_dataH a1 a2 s1 s2 hu ⟨.bl _,H,I,rfl,q⟩
theorem LP (hu:X.A.units+64<cg):CmpD Γ X .Eq pU:=⟨_,GF (Γ:=Γ) hu,fun {G H v u x y z} gh r1 r2 h Q k=>by unfold pU at h;obtain⟨b,hb,rfl⟩:=oMd h;exact⟨G,x,y,b,gh,r1,r2,hb,k _ G H (.refl gh) (.bl _)⟩⟩
theorem P' (hu:X.A.units+64<cg):CmpD Γ X .NotEq mf:=⟨_,JE (Γ:=Γ) hu,fun {G H v u x y z} gh r1 r2 h Q k=>by unfold mf at h;obtain⟨b,hb,rfl⟩:=oMd h;exact⟨G,x,y,b,gh,r1,r2,hb,k _ G H (.refl gh) (.bl _)⟩⟩
noncomputable def inX (x y:D):ar aX:=(pdD x).bind fun p=>(pdD y).bind fun q=>match q with
 |.list l=>if dH p=ai/\jQ l=ai then aa (l.any fun z=>hV z p) else ab
 |_=>ab
noncomputable def fE (x y:D):ar D:=(inX x y).map D.bl
noncomputable def fV (x y:D):ar D:=(inX x y).map fun b=>D.bl (!b)
noncomputable def Ax (Γ:Cn) (K:bi) (neg:aX):R2:=fun x y H Q=>∃G d e b,bO G H/\Rep Γ K G x d/\Rep Γ K G y e/\inX d e=aa b/\Q (.bl (if neg then !b else b)) H
theorem Dv {x:D} {b:aX} (h:inX x y=aa b):∃p l,pdD x=aa p/\pdD y=aa (.list l)/\dH p=ai/\jQ l=ai/\b=l.any fun z=>hV z p:=by
 unfold inX at h;obtain⟨p,hp,h⟩:=oBd h;obtain⟨q,hq,h⟩:=oBd h;split at h
 .split at h
  .rename_i hz;cases h;exact⟨p,_,hp,hq,hz.1,hz.2,rfl⟩
  .cases h
 .cases h
theorem Cr {p:rS} (h:dH p=ai):p.canLay0=ai/\p.depth<=64:=by unfold dH at h;rw[gI] at h;exact⟨h.1,fL h.2⟩
theorem Pq (hu:X.A.units+66<cg):OpR X (dh .In) (Ax Γ X.K aq):=by intro pins s σ H x y v u Q I rx ry h;obtain⟨G,d,e,b,gh,r1,r2,hb,q⟩:=h;obtain⟨p,l,hp,hq,s1,s2,rfl⟩:=Dv hb;obtain⟨as,a1⟩:=r1.reads I gh rx hp;obtain⟨bs,a2⟩:=r2.reads I gh ry hq;obtain⟨c1,c2⟩:=Cr s1;have:=EI (nj l) p.depth;exact SeqAt.in_list_reads a2 a1 s2 c1 .(f) ⟨.bl _,H,I,rfl,q⟩
theorem LV (hu:X.A.units+66<cg):OpR X (dh .NotIn) (Ax Γ X.K ai):=by intro pins s σ H x y v u Q I rx ry h;obtain⟨G,d,e,b,gh,r1,r2,hb,q⟩:=h;obtain⟨p,l,hp,hq,s1,s2,rfl⟩:=Dv hb;obtain⟨as,a1⟩:=r1.reads I gh rx hp;obtain⟨bs,a2⟩:=r2.reads I gh ry hq;obtain⟨c1,c2⟩:=Cr s1;have:=EI (nj l) p.depth;exact SeqAt.notIn_list_reads a2 a1 s2 c1 .(f) ⟨.bl _,H,I,rfl,q⟩
theorem o2 (hu:X.A.units+66<cg):CmpD Γ X .In fE:=⟨_,Pq (Γ:=Γ) hu,fun {G H v u x y z} gh r1 r2 h Q k=>by unfold fE at h;obtain⟨b,hb,rfl⟩:=oMd h;exact⟨G,x,y,b,gh,r1,r2,hb,k _ G H (.refl gh) (.bl _)⟩⟩
theorem uf (hu:X.A.units+66<cg):CmpD Γ X .NotIn fV:=⟨_,LV (Γ:=Γ) hu,fun {G H v u x y z} gh r1 r2 h Q k=>by unfold fV at h;obtain⟨b,hb,rfl⟩:=oMd h;exact⟨G,x,y,b,gh,r1,r2,hb,k _ G H (.refl gh) (.bl _)⟩⟩
theorem a7 {k:al} (hr:Room k X.A):X.A.units+66<cg:=by have:=hr.un;omega
theorem gB {k:al} (hr:Room k X.A):X.A.units+64<cg:=by have:=hr.un;omega
noncomputable def me (d:D):aX:=match d with
 |.non=>ai
 |_=>aq
noncomputable def isD (x y:D):ar D:=match y with
 |.non=>aa (.bl (me x))
 |_=>ab
noncomputable def pP (x y:D):ar D:=match y with
 |.non=>aa (.bl (!me x))
 |_=>ab
theorem Dz (r:Rep Γ K G v d):decide (v=.non)=me d:=by cases r<;>simp[me]
theorem j3:CmpD Γ X .Is isD:=⟨_,Lg,fun {G H v u x y z} gh r1 r2 h Q k=>by unfold isD at h;split at h<;>cases h;exact⟨r2.non_inv,by rw[Dz r1];exact k _ G H (.refl gh) (.bl _)⟩⟩
theorem vP:CmpD Γ X .IsNot pP:=⟨_,Ka,fun {G H v u x y z} gh r1 r2 h Q k=>by unfold pP at h;split at h<;>cases h;exact⟨r2.non_inv,by rw[Dz r1];exact k _ G H (.refl gh) (.bl _)⟩⟩
end
variable {fx:FE}
section
variable {a i:Expr}
noncomputable def bwT (i:al) (ft:FT):FT:=fun ρ=>match ρ[i]? with
 |some (aa (.own ds))=>ft (ρ.set i (aa (.sh (.lst ds))))
 |_=>ab
theorem Step.back (gh:bO G H) (s1:bO G G1) (s:Step G1 H G' H'):Step G H G H':=⟨s.hh,.refl _,(s1.trans s.gg).trans s.gh,fun _ _ _=>rfl⟩
theorem zT (i:al) (h:DT Γ X c ft):DT Γ X c (bwT i ft):=⟨h.1.imp fun σ H Q=>by
 rintro⟨G₀,H₀,G,ρ,b,A,h,k⟩;unfold bwT at h;split at h
 .rename_i ds hi;obtain⟨G1,sm,A1⟩:=A.freeze hi;exact⟨G₀,H₀,G1,_,b,A1,h,fun G' H' s=>k G H' (s.back A.gh sm)⟩
 .cases h⟩
noncomputable def iD (i:al) (f:FE):FS:=fun ρ=>match ρ[i]? with
 |some (aa (.own ds))=>(f ρ).bind fun d=>match d with
  |.lst l=>if ds.length+l.length<=aV then aa (.nx,ρ.set i (aa (.own (ds++l)))) else ab
  |_=>ab
 |_=>ab
theorem vy (i:al) (h:DE Γ X e f) (hN:X.N[i]?=aa x:=by rfl) (hv:Vis X.env.scope x:=by first|exact di rfl|exact cG (di rfl)|exact cG (cG rfl)) (hd:.(E)=aq:=by decide)
  (hcd:(x==("__classdict__":ak))=aq:=by decide)
  (hbase:gx (.Name x vp) "extend" X.env (eval (.Name x vp) X.env)=eval (.Name x vp) X.env:=by rfl)
  (hfew:((cC cpos (a6 [e] X.env)).all (fun x=>!x.1) && (i8 cpos (i9 [] X.env)).all (fun x=>x.1.isSome)
   && decide ([e].length+([]:ac jc).length+(if ([]:ac jc).isEmpty then 0 else 1)<30))=ai:=by rfl)
  (hline:(apos.endLine==cpos.line)=ai:=by rfl) (hs:a6 [e] X.env=(aq,eval e X.env)::a6 [] X.env:=by rfl) (hplain:(cC cpos (a6 [] X.env)).any (·.1)=aq:=by rfl)
  (hsw:fK (.Call (.Attribute (.Name x vp) "extend" apos) [e] [] cpos) ab pos.line X.env=bB aq:=by rfl) :
  DS Γ X (.Expr (.Call (.Attribute (.Name x vp) "extend" apos) [e] [] cpos) pos) (iD i f):=⟨(wA (wC E5 QV PySem.F.type_list_extend Mn (iW hN hv hd hcd) (jq h.1 jI hs) hbase hfew hline hs hplain) hsw).imp fun E σ H=>by
  rintro⟨G₀,H₀,G,ρ,fl,ρ',A,h,k⟩;unfold iD at h;split at h
  .rename_i ds hi;obtain⟨d,hd,h⟩:=oBd h;split at h
   .rename_i l;split at h
    .rename_i hz;cases h;obtain⟨a,vs,h1,h2,h3,h4,h5⟩:=A.env.own i ds hi;refine⟨.ref a,h1,.inl ⟨rfl,vs,.inl (.inl h4)⟩,G₀,H₀,G,ρ,_,A,hd,fun v G1 H1 s1 r1=>?_⟩;have A1:=A.step s1;obtain⟨b,us,rfl,hb,rb⟩:=r1.lst_inv;refine⟨a,b,vs,us,rfl,rfl,s1.hh _ _ h4,s1.gh _ _ hb,by rw[h5.length,rb.length];exact hz,?_⟩;exact k σ G1 _ s1.gg (A1.chOwn hi h1 ((h5.mono s1.gg).append rb))
    .cases h
   .cases h
  .cases h⟩
noncomputable def gS:ac D->ar D
 |[.int i]=>aa (.int i)
 |[.bl k]=>aa (.int (if k then 1 else 0))
 |_=>ab
theorem um:TyD Γ X "int" gS:=⟨_,FX,fun {G H vs ds z} gh r h Q k=>by
 unfold gS at h;split at h<;>cases h
 .obtain⟨v,rfl,r1⟩:=r.one;cases r1.int_inv;exact .inl ⟨_,rfl,k _ G H (.refl gh) (.int _)⟩
 .obtain⟨v,rfl,r1⟩:=r.one;cases r1.bl_inv;exact .inr ⟨_,rfl,k _ G H (.refl gh) (.int _)⟩⟩
noncomputable def vE:ac D->ar D
 |[.lst l]=>aa (.tup l)
 |[.tup l]=>aa (.tup l)
 |_=>ab
theorem NF:TyD Γ X "tuple" vE:=⟨_,ML,fun {G H vs ds z} gh r h Q k=>by
 unfold vE at h;split at h<;>cases h
 .obtain⟨v,rfl,r1⟩:=r.one;obtain⟨a,us,rfl,ha,ra⟩:=r1.lst_inv;exact⟨a,us,rfl,.inl ⟨.inl (.inl (gh _ _ ha)),xy gh ra k⟩⟩
 .obtain⟨v,rfl,r1⟩:=r.one;obtain⟨a,us,rfl,ha,ra⟩:=r1.tup_inv;exact⟨a,us,rfl,.inr ⟨.inl (.inl (gh _ _ ha)),k _ G H (.refl gh) (.tup ha ra)⟩⟩⟩
noncomputable def ck [er κ] (kvs:ac (κ×α)) (k:κ):ar α:=(kvs.find? fun kv=>decide (kv.1=k)).map (·.2)
noncomputable def eG [er κ] (kvs:ac (κ×α)) (k:κ) (v:α):ac (κ×α):=
 if (kvs.any fun kv=>decide (kv.1=k))=ai then kvs.map (fun kv=>if kv.1=k then (kv.1,v) else kv) else kvs++[(k,v)]
theorem mM {κ:Type} [er κ] {K:bi} {G:Hp} {k:κ}:∀{us:ac (κ×V)} {kvs:ac (κ×D)},us.map (·.1)=kvs.map (·.1)->Reps Γ K G (us.map (·.2)) (kvs.map (·.2))->
  (ck kvs k=ab/\fH us k=ab)\/∃d v,ck kvs k=aa d/\fH us k=aa v/\Rep Γ K G v d
 |[],[],_,_=>.inl ⟨rfl,rfl⟩
 |[],_::_,e,_=>by cases e
 |_::_,[],e,_=>by cases e
 |(k1,v)::us,(k2,d)::kvs,e,r=>by
  have e1:k1=k2:=(hU e).1;have e2:us.map (·.1)=kvs.map (·.1):=(hU e).2;subst e1;have r:Reps Γ K G (v::us.map (·.2)) (d::kvs.map (·.2)):=r;cases r with
  |cons r1 r2=>
   by_cases h:k1=k
   .exact .inr ⟨d,v,by simp[ck,eC,h],ti h,r1⟩
   .have:=mM (k:=k) e2 r2;rw[tj (p:=(k1,v)) h];simpa[ck,eC,h] using this
theorem Cw {κ:Type} [er κ] {k:κ} {α β:Type}:∀{us:ac (κ×α)} {kvs:ac (κ×β)},us.map (·.1)=kvs.map (·.1)->(us.any fun kv=>decide (kv.1=k))=(kvs.any fun kv=>decide (kv.1=k))
 |[],[],_=>rfl
 |[],_::_,e=>by cases e
 |_::_,[],e=>by cases e
 |(k1,v)::us,(k2,d)::kvs,e=>by have e1:k1=k2:=(hU e).1;subst e1;rw[kF,kF,Cw (us:=us) (kvs:=kvs) (hU e).2]
theorem C2 {κ:Type} [er κ] {K:bi} {G:Hp} {k:κ} {v:V} {d:D} (rv:Rep Γ K G v d):∀{us:ac (κ×V)} {kvs:ac (κ×D)},us.map (·.1)=kvs.map (·.1)->Reps Γ K G (us.map (·.2)) (kvs.map (·.2))->
  (us.map fun kv=>if kv.1=k then (kv.1,v) else kv).map (·.1)=(kvs.map fun kv=>if kv.1=k then (kv.1,d) else kv).map (·.1)/\Reps Γ K G ((us.map fun kv=>if kv.1=k then (kv.1,v) else kv).map (·.2)) ((kvs.map fun kv=>if kv.1=k then (kv.1,d) else kv).map (·.2))
 |[],[],_,_=>⟨rfl,.nil⟩
 |[],_::_,e,_=>by cases e
 |_::_,[],e,_=>by cases e
 |(k1,u)::us,(k2,x)::kvs,e,r=>by
  have e1:k1=k2:=(hU e).1;have e2:us.map (·.1)=kvs.map (·.1):=(hU e).2;subst e1;have r:Reps Γ K G (u::us.map (·.2)) (x::kvs.map (·.2)):=r;cases r with
  |cons r1 r2=>
   obtain⟨h1,h2⟩:=C2 (k:=k) rv e2 r2;by_cases h:k1=k
   .subst h;simp only[qo,cA];exact⟨by rw[h1],.cons rv h2⟩
   .simp only[qo,qY h];exact⟨by rw[h1],.cons r1 h2⟩
theorem uB [er κ] {k:κ} (rv:Rep Γ K G v d) {us:ac (κ×V)} {kvs:ac (κ×D)} (e:us.map (·.1)=kvs.map (·.1)) (r:Reps Γ K G (us.map (·.2)) (kvs.map (·.2))) :
  (dR us k v).map (·.1)=(eG kvs k d).map (·.1)/\Reps Γ K G ((dR us k v).map (·.2)) ((eG kvs k d).map (·.2)):=by
 unfold dR eG;rw[Cw (k:=k) e];split
 .exact C2 rv e r
 .simp only[gK,qo,qN];exact⟨by rw[e],r.append (.cons rv .nil)⟩
noncomputable def gF:D->ar Key
 |.int i=>aa (.inl i)
 |.str x=>aa (.inr x)
 |_=>ab
noncomputable def gy:ac D->ar (ac Key)
 |[]=>aa []
 |d::r=>(gF d).bind fun k=>(gy r).map (k::·)
theorem lH {k:Key} (r:Rep Γ K G v d) (h:gF d=aa k):v=kV k:=by
 unfold gF at h;split at h<;>cases h
 .exact r.int_inv
 .exact r.str_inv
theorem mS {K:bi} {G:Hp}:∀{vs:ac V} {ds:ac D} {ks:ac Key},Reps Γ K G vs ds->gy ds=aa ks->vs=ks.map kV
 |_,[],ks,r,h=>by cases r;cases h;rfl
 |_,d::ds,ks,.cons h1 h2,h=>by unfold gy at h;obtain⟨k,hk,h⟩:=oBd h;obtain⟨zs,hz,rfl⟩:=oMd h;rw[lH h1 hk,mS h2 hz];rfl
noncomputable def jJ (d k:D):ar (ar D):=match d,k with
 |.dk l,k=>(gF k).map (ck l)
 |.fdk l,k=>(gF k).map (ck l)
 |.dt l,.tup t=>(gy t).map (ck l)
 |_,_=>ab
theorem Bo {k:D} {r:ar D} (gh:bO G H) (rv:Rep Γ K G v d) (h:jJ d k=aa r):∃a,v=.ref a/\IsD H a:=by
 unfold jJ at h;split at h
 .cases rv with
  |dk h _ _=>exact⟨_,rfl,.inl ⟨_,.inl (gh _ _ h)⟩⟩
 .cases rv with
  |fdk h _ _=>exact⟨_,rfl,.inl ⟨_,.inr ⟨_,gh _ _ h⟩⟩⟩
 .cases rv with
  |dt h _ _=>exact⟨_,rfl,.inr ⟨_,.inl (gh _ _ h)⟩⟩
 .cases h
theorem pV {y:V} {k:D} {r:ar D} (gh:bO G H) (rv:Rep Γ K G v d) (ry:Rep Γ K G y k) (h:jJ d k=aa r) :
  ∃a o,v=.ref a/\fP H a y o/\((r=ab/\o=ab)\/∃w z,r=aa z/\o=aa w/\Rep Γ K G w z):=by
 unfold jJ at h;split at h
 .obtain⟨kk,hk,rfl⟩:=oMd h;cases rv with
  |dk h1 h2 h3=>
   have ey:=lH ry hk;subst ey;refine⟨_,_,rfl,fP.k (gh _ _ h1),?_⟩;rcases mM (k:=kk) h2 h3 with⟨q1,q2⟩|⟨z,w,q1,q2,q3⟩
   .exact .inl ⟨q1,q2⟩
   .exact .inr ⟨w,z,q1,q2,q3⟩
 .obtain⟨kk,hk,rfl⟩:=oMd h;cases rv with
  |fdk h1 h2 h3=>
   have ey:=lH ry hk;subst ey;refine⟨_,_,rfl,.inl ⟨_,kk,.inr ⟨_,gh _ _ h1⟩,rfl,rfl⟩,?_⟩;rcases mM (k:=kk) h2 h3 with⟨q1,q2⟩|⟨z,w,q1,q2,q3⟩
   .exact .inl ⟨q1,q2⟩
   .exact .inr ⟨w,z,q1,q2,q3⟩
 .obtain⟨kk,hk,rfl⟩:=oMd h;cases rv with
  |dt h1 h2 h3=>
   obtain⟨b,ys,rfl,hb,rb⟩:=ry.tup_inv;have ey:=mS rb hk;subst ey;refine⟨_,_,rfl,fP.t (gh _ _ h1) (gh _ _ hb),?_⟩;rcases mM (k:=kk) h2 h3 with⟨q1,q2⟩|⟨z,w,q1,q2,q3⟩
   .exact .inl ⟨q1,q2⟩
   .exact .inr ⟨w,z,q1,q2,q3⟩
 .cases h
noncomputable def aW (d k:D):ar D:=(jJ d k).bind id
theorem bV (hu:X.A.units+66<cg) (ho:DE Γ X o fo) (hi:DE Γ X i fi') (hs:tS i:=by intro _ _;rfl):DE Γ X (.Subscript o i pos) (b2 aW fo fi'):=⟨(AW .(f) ho.1 hi.1 hs).imp fun σ H Q=>by
 rintro⟨G₀,H₀,G,ρ,d,A,h,k⟩;unfold b2 at h;obtain⟨x,hx,h⟩:=oBd h;obtain⟨y,hy,h⟩:=oBd h;refine⟨G₀,H₀,G,ρ,x,A,hx,fun v G1 H1 s1 r1=>⟨G₀,H₀,G1,ρ,y,A.step s1,hy,fun u G2 H2 s2 r2=>?_⟩⟩;unfold aW at h;obtain⟨r,hr,h⟩:=oBd h;obtain⟨a,ov,rfl,hg,hc⟩:=pV s2.gh (r1.mono s2.gg) r2 hr;rcases hc with⟨rfl,_⟩|⟨w,z,rfl,rfl,rw'⟩
 .cases h
 .cases h;exact⟨a,w,rfl,hg,k w G2 H2 (s1.trans s2) rw'⟩⟩
noncomputable def wZ (d k:D):ar D:=(jJ d k).map fun r=>r.getD .non
theorem Jl (hu:X.A.units+66<cg) (ho:DE Γ X o fo) (he:DE Γ X e f) (m:M1 X o "get" apos e cpos:=by exact⟨rfl,rfl,rfl,rfl⟩):DE Γ X (.Call (.Attribute o "get" apos) [e] [] cpos) (b2 wZ fo f):=⟨(F3 .(f) ho.1 he.1 m).imp fun σ H Q=>by
 rintro⟨G₀,H₀,G,ρ,d,A,h,k⟩;unfold b2 at h;obtain⟨x,hx,h⟩:=oBd h;obtain⟨y,hy,h⟩:=oBd h;unfold wZ at h;obtain⟨r,hr,rfl⟩:=oMd h;refine⟨G₀,H₀,G,ρ,x,A,hx,fun v G1 H1 s1 r1=>?_⟩;obtain⟨a0,e0,d0⟩:=Bo s1.gh r1 hr;refine⟨a0,e0,d0,G₀,H₀,G1,ρ,y,A.step s1,hy,fun u G2 H2 s2 r2=>?_⟩;obtain⟨a,ov,e1,hg,hc⟩:=pV s2.gh (r1.mono s2.gg) r2 hr;subst e0;cases e1;rcases hc with⟨rfl,rfl⟩|⟨w,z,rfl,rfl,rw'⟩
 .exact⟨ab,hg,k _ G2 H2 (s1.trans s2) .non⟩
 .exact⟨aa w,hg,k w G2 H2 (s1.trans s2) rw'⟩⟩
noncomputable def ip (d k x:D):ar D:=(jJ d k).map fun r=>r.getD x
noncomputable def b3 (g:D->D->D->ar D) (fa fb fc:FE):FE:=fun ρ=>(fa ρ).bind fun x=>(fb ρ).bind fun y=>(fc ρ).bind fun z=>g x y z
theorem yc (hu:X.A.units+66<cg) (ho:DE Γ X o fo) (he:DE Γ X e f) (hf:DE Γ X c fc) (m:M2 X o "get" apos e c cpos:=by exact⟨rfl,rfl,rfl,rfl⟩):DE Γ X (.Call (.Attribute o "get" apos) [e,c] [] cpos) (b3 ip fo f fc):=⟨(Hn .(f) ho.1 he.1 hf.1 m).imp fun σ H Q=>by
 rintro⟨G₀,H₀,G,ρ,d,A,h,k⟩;unfold b3 at h;obtain⟨x,hx,h⟩:=oBd h;obtain⟨y,hy,h⟩:=oBd h;obtain⟨z,hz,h⟩:=oBd h;unfold ip at h;obtain⟨r,hr,rfl⟩:=oMd h;refine⟨G₀,H₀,G,ρ,x,A,hx,fun v G1 H1 s1 r1=>?_⟩;obtain⟨a0,e0,d0⟩:=Bo s1.gh r1 hr;refine⟨a0,e0,d0,G₀,H₀,G1,ρ,y,A.step s1,hy,fun u G2 H2 s2 r2=>⟨G₀,H₀,G2,ρ,z,(A.step s1).step s2,hz,fun w3 G3 H3 s3 r3=>?_⟩⟩;obtain⟨a,ov,e1,hg,hc⟩:=pV s3.gh (r1.mono (s2.gg.trans s3.gg)) (r2.mono s3.gg) hr;subst e0;cases e1;rcases hc with⟨rfl,rfl⟩|⟨w,z,rfl,rfl,rw'⟩
 .exact⟨ab,hg,k _ G3 H3 ((s1.trans s2).trans s3) r3⟩
 .exact⟨aa w,hg,k w G3 H3 ((s1.trans s2).trans s3) rw'⟩⟩
noncomputable def gA (k d:D):ar D:=(jJ d k).map fun r=>.bl r.isSome
noncomputable def mo (k d:D):ar D:=(jJ d k).map fun r=>.bl (!r.isSome)
noncomputable def Cb (Γ:Cn) (K:bi) (neg:aX):R2:=fun y x H Q=>∃G k d r,bO G H/\Rep Γ K G y k/\Rep Γ K G x d/\jJ d k=aa r/\Q (.bl (if neg then !r.isSome else r.isSome)) H
theorem Kv (hu:X.A.units+66<cg):OpR X (dh .In) (Cb Γ X.K aq):=by
 intro pins s σ H x y v u Q I rx ry h;obtain⟨G,kd,d,r,gh,r1,r2,hr,q⟩:=h;obtain⟨a,ov,rfl,hg,hc⟩:=pV gh r2 r1 hr;cases ry;have e:ov.isSome=r.isSome:=by rcases hc with⟨rfl,rfl⟩|⟨w,z,rfl,rfl,_⟩<;>rfl
 exact Ii .(f) I hg rx fun s3 I3=>⟨.bl _,H,I3,rfl,by rw[e];exact q⟩
theorem HU (hu:X.A.units+66<cg):OpR X (dh .NotIn) (Cb Γ X.K ai):=by
 intro pins s σ H x y v u Q I rx ry h;obtain⟨G,kd,d,r,gh,r1,r2,hr,q⟩:=h;obtain⟨a,ov,rfl,hg,hc⟩:=pV gh r2 r1 hr;cases ry;have e:ov.isSome=r.isSome:=by rcases hc with⟨rfl,rfl⟩|⟨w,z,rfl,rfl,_⟩<;>rfl
 exact Mx .(f) I hg rx fun s3 I3=>⟨.bl _,H,I3,rfl,by rw[e];exact q⟩
theorem x8 (hu:X.A.units+66<cg):CmpD Γ X .In gA:=⟨_,Kv (Γ:=Γ) hu,fun {G H v u x y z} gh r1 r2 h Q k=>by unfold gA at h;obtain⟨r,hr,rfl⟩:=oMd h;exact⟨G,x,y,r,gh,r1,r2,hr,k _ G H (.refl gh) (.bl _)⟩⟩
theorem AQ (hu:X.A.units+66<cg):CmpD Γ X .NotIn mo:=⟨_,HU (Γ:=Γ) hu,fun {G H v u x y z} gh r1 r2 h Q k=>by unfold mo at h;obtain⟨r,hr,rfl⟩:=oMd h;exact⟨G,x,y,r,gh,r1,r2,hr,k _ G H (.refl gh) (.bl _)⟩⟩
noncomputable def sNo:FS:=fun _=>ab
theorem GD :DS Γ X st sNo:=⟨fun pins s σ H E I q=>by obtain⟨G₀,H₀,G,ρ,fl,ρ',A,h,k⟩:=q;cases h⟩
end
structure CF (Γ:Cn) (K:bi) (c:ak) (attrs:ac ak):Prop where
 ex:∃C,Γ.cls c=aa C/\Cls K C/\∀f∈attrs,kZ K C f
variable {attrs:ac ak} {ke:Expr}
section
variable {a i:Expr} {fv:FE} {cl fl n:ak}
theorem jY {K:bi} {G:Hp} {k:ak}:∀{us:ac (ak×V)} {fs:ac (ak×D)},us.map (·.1)=fs.map (·.1)->Reps Γ K G (us.map (·.2)) (fs.map (·.2))->
  (fs.lookup k=ab/\us.lookup k=ab)\/∃d v,fs.lookup k=aa d/\us.lookup k=aa v/\Rep Γ K G v d
 |[],[],_,_=>.inl ⟨rfl,rfl⟩
 |[],_::_,e,_=>by cases e
 |_::_,[],e,_=>by cases e
 |(k1,v)::us,(k2,d)::fs,e,r=>by
  have e1:k1=k2:=(hU e).1;have e2:us.map (·.1)=fs.map (·.1):=(hU e).2;subst e1;have r:Reps Γ K G (v::us.map (·.2)) (d::fs.map (·.2)):=r;cases r with
  |cons r1 r2=>
   by_cases h:k=k1
   .subst h;exact .inr ⟨d,v,by simp[dz],by simp[dz],r1⟩
   .have hb:(k==k1)=aq:=by simpa using h
    have:=jY (k:=k) e2 r2;simpa[dz,hb] using this
theorem wQ {f:ak} {v:V}:∀{fs:ac (ak×V)},fs.lookup f=ab->eY f v fs=fs++[(f,v)]
 |[],_=>rfl
 |(g,x)::r,h=>by
  by_cases e:f=g
  .subst e;simp[dz] at h
  .have hb:(f==g)=aq:=by simpa using e
   rw[eY,qY (fun z=>e z.symm),wQ (by simpa[dz,hb] using h)];rfl
noncomputable def Af (c f:ak):D->ar D
 |.ins c' fs=>if c'=c then fs.lookup f else ab
 |_=>ab
noncomputable def gd (c f:ak) (fo:FE):FE:=fun ρ=>(fo ρ).bind (Af c f)
theorem jG (hc:CF Γ X.K cl attrs) (hf:fl∈attrs) (ho:DE Γ X o fo) (hb:gx o fl X.env (eval o X.env)=eval o X.env:=by rfl):DE Γ X (.Attribute o fl pos) (gd cl fl fo):=⟨(wD ho.1 hb).imp fun σ H Q=>by
 rintro⟨G₀,H₀,G,ρ,d,A,h,k⟩;unfold gd at h;obtain⟨x,hx,hq⟩:=oBd h;clear h;refine⟨G₀,H₀,G,ρ,x,A,hx,fun v G1 H1 s1 r1=>?_⟩;unfold Af at hq;split at hq
 .split at hq
  .rename_i ec;subst ec;obtain⟨C,q1,q2,q3⟩:=hc.ex;cases r1 with
   |ins h1 h2 h3 h4=>
    rw[q1] at h2;cases h2;rcases jY (k:=fl) h3 h4 with⟨z1,_⟩|⟨d',v',z1,z2,z3⟩
    .rw[z1] at hq;cases hq
    .rw[z1] at hq;cases hq;exact⟨_,C,_,_,v',rfl,s1.gh _ _ h1,q2,q3 fl hf,z2,k v' G1 H1 s1 z3⟩
  .cases hq
 .cases hq⟩
noncomputable def Ak (f:ak):Slot->ar D
 |.obj _ fs=>fs.lookup f
 |.objd _ fs n _=>if f=n then ab else fs.lookup f
 |_=>ab
noncomputable def LG:Slot->ar ak
 |.obj c _=>aa c
 |.objd c _ _ _=>aa c
 |_=>ab
noncomputable def jD (c f:ak) (i:al):FE:=fun ρ=>match ρ[i]? with
 |some (aa s)=>if LG s=aa c then Ak f s else ab
 |_=>ab
theorem MS {vs:ac (ak×V)} {f:ak} {w:V} (h:vs.lookup f=aa v):(vs++[(n,w)]).lookup f=aa v:=by
 induction vs with
 |nil=>cases h
 |cons p r ih=>
  obtain⟨g,x⟩:=p;by_cases e:f=g
  .subst e;simpa[dz] using h
  .have hb:(f==g)=aq:=by simpa using e
   simp only[qq,dz,hb] at h ⊢;exact ih h
theorem ui (i:al) (hc:CF Γ X.K cl attrs) (hf:fl∈attrs) (hN:X.N[i]?=aa x:=by rfl) (hv:Vis X.env.scope x:=by first|exact di rfl|exact cG (di rfl)|exact cG (cG rfl)) (hd:.(E)=aq:=by decide)
  (hcd:(x==("__classdict__":ak))=aq:=by decide) (hb:gx (.Name x vp) fl X.env (eval (.Name x vp) X.env)=eval (.Name x vp) X.env:=by rfl):DE Γ X (.Attribute (.Name x vp) fl pos) (jD cl fl i):=⟨(wD (iW hN hv hd hcd) hb).imp fun σ H Q=>by
 rintro⟨G₀,H₀,G,ρ,d,A,h,k⟩;unfold jD at h;split at h
 .rename_i s hi;split at h
  .rename_i hcl;obtain⟨C,q1,q2,q3⟩:=hc.ex;obtain⟨v,fp,h1,h2⟩:=A.get hi;cases h2 with
   |sh _=>cases h
   |own _ _ _ _=>cases h
   |odk _ _ _ _ _=>cases h
   |odt _ _ _ _ _=>cases h
   |tlo _ _ _ _ _ _=>cases h
   |oll _ _ _ _ _=>cases h
   |pin _=>cases h
   |obj g1 g2 g3 g4 g5 g6 g7=>
    cases hcl;rw[q1] at g1;cases g1;have h:dz fl _=aa d:=h;rcases jY (k:=fl) g5 g6 with⟨z1,_⟩|⟨d',v',z1,z2,z3⟩
    .rw[z1] at h;cases h
    .rw[z1] at h;cases h;exact⟨_,h1,_,C,_,_,v',rfl,g4,q2,q3 fl hf,z2,k v' G H (.refl A.gh) z3⟩
   |objd g1 g2 g3 g4 g5 g6 _ _ _ _ _ g7=>
    cases hcl;rw[q1] at g1;cases g1;unfold Ak at h;simp only at h;split at h
    .cases h
    .rcases jY (k:=fl) g5 g6 with⟨z1,_⟩|⟨d',v',z1,z2,z3⟩
     .rw[z1] at h;cases h
     .rw[z1] at h;cases h;exact⟨_,h1,_,C,_,_,v',rfl,g4,q2,q3 fl hf,MS z2,k v' G H (.refl A.gh) z3⟩
  .cases h
 .cases h⟩
noncomputable def gG (c f:ak) (i:al) (fv:FE):FS:=fun ρ=>(fv ρ).bind fun d=>match ρ[i]? with
 |some (aa (.obj c' fs))=>if c'=c/\fs.lookup f=ab/\fs.length<100 then aa (.nx,ρ.set i (aa (.obj c (fs++[(f,d)])))) else ab
 |_=>ab
theorem ju (i:al) (hc:CF Γ X.K cl attrs) (hf:fl∈attrs) (hv':DE Γ X value fv) (hN:X.N[i]?=aa x:=by rfl) (hv:Vis X.env.scope x:=by first|exact di rfl|exact cG (di rfl)|exact cG (cG rfl)) (hd:.(E)=aq:=by decide)
  (hcd:(x==("__classdict__":ak))=aq:=by decide) (hs:fK value (aa (.Attribute (.Name x vp) fl pos')) pos.line X.env=bB aq:=by rfl):DS Γ X (.Assign [.Attribute (.Name x vp) fl pos'] value pos) (gG cl fl i fv):=⟨(CG (iW hN hv hd hcd) hv'.1 hs).imp fun E σ H=>by
 rintro⟨G₀,H₀,G,ρ,flw,ρ',A,h,k⟩;unfold gG at h;obtain⟨d,hd,h⟩:=oBd h;split at h
 .rename_i c' fs hi;split at h
  .rename_i hz;obtain⟨rfl,hz2,hz3⟩:=hz;cases h;obtain⟨C,q1,q2,q3⟩:=hc.ex;refine⟨G₀,H₀,G,ρ,d,A,hd,fun v G1 H1 s1 r1=>?_⟩;have A1:=A.step s1;obtain⟨w,fp,h1,h2⟩:=A1.get hi;cases h2 with
   |obj g1 g2 g3 g4 g5 g6 g7=>
    rename_i a C' dx vs;have g1':=g1;rw[q1] at g1;cases g1;have hl:vs.lookup fl=ab:=by
     rcases jY (k:=fl) g5 g6 with⟨_,z2⟩|⟨d',v',z1,_,_⟩
     .exact z2
     .rw[z1] at hz2;cases hz2
    have hlen:vs.length=fs.length:=by simpa using cK f8 g5
    refine⟨_,h1,a,C,dx,vs,rfl,g4,q2,q3 fl hf,by omega,?_⟩;rw[wQ hl];refine k σ G1 _ s1.gg (A1.ch hi h1 (.obj g1' g2 g3 g4 g5 g6 g7) (fun b o e hb=>?_) (.obj (vs:=vs++[(fl,v)]) g1' g2 g3 bW (by simp[g5]) (by simpa using g6.append (.cons r1 .nil)) g7) (fun b hb=>.inl hb) (.refl _) (fun b o e=>?_) (fun _ _ _ _=>rfl))
    .rw[a4 (fun z=>hb (bX.mpr z))];exact e
    .rw[a4 (b7 e g3)];exact A1.gh b o e
  .cases h
 .cases h⟩
noncomputable def og (c f:ak) (i:al):FS:=fun ρ=>match ρ[i]? with
 |some (aa (.obj c' fs))=>if c'=c/\fs.lookup f=ab/\fs.length<100 then aa (.nx,ρ.set i (aa (.objd c fs f []))) else ab
 |_=>ab
theorem M6 (i:al) (hc:CF Γ X.K cl attrs) (hf:fl∈attrs) {dp:dq} (hN:X.N[i]?=aa x:=by rfl) (hv:Vis X.env.scope x:=by first|exact di rfl|exact cG (di rfl)|exact cG (cG rfl)) (hd:.(E)=aq:=by decide)
  (hcd:(x==("__classdict__":ak))=aq:=by decide) (hs:fK (.Dict [] [] dp) (aa (.Attribute (.Name x vp) fl pos')) pos.line X.env=bB aq:=by rfl):DS Γ X (.Assign [.Attribute (.Name x vp) fl pos'] (.Dict [] [] dp) pos) (og cl fl i):=⟨(CG (iW hN hv hd hcd) xu hs).imp fun E σ H=>by
 rintro⟨G₀,H₀,G,ρ,flw,ρ',A,h,k⟩ p hp;unfold og at h;split at h
 .rename_i c' fs hi;split at h
  .rename_i hz;obtain⟨rfl,hz2,hz3⟩:=hz;cases h;obtain⟨C,q1,q2,q3⟩:=hc.ex;obtain⟨w,fp,h1,h2⟩:=A.get hi;cases h2 with
   |obj g1 g2 g3 g4 g5 g6 g7=>
    rename_i a C' dx vs;have g1':=g1;rw[q1] at g1;cases g1;have hl:vs.lookup fl=ab:=by
     rcases jY (k:=fl) g5 g6 with⟨_,z2⟩|⟨d',v',z1,_,_⟩
     .exact z2
     .rw[z1] at hz2;cases hz2
    have hlen:vs.length=fs.length:=by simpa using cK f8 g5
    have npa:a≠p:=b7 g4 hp;refine⟨_,h1,a,C,dx,vs,rfl,by rw[a4 npa];exact g4,q2,q3 fl hf,by omega,?_⟩;rw[wQ hl];have hp0:H₀ p=ab:=A.st.hh.free hp;have hpg:G p=ab:=A.gh.free hp;refine k σ G _ (.refl _) (A.ch hi h1 (.obj g1' g2 g3 g4 g5 g6 g7) (fun b o e hb=>?_) (.objd (vs:=vs) (p:=p) (us:=[]) (kvs:=[]) g1' g2 g3 bW g5 g6 hp0 hpg (by rw[a4 npa.symm,bW]) rfl .nil g7) (fun b hb=>?_) (.refl _) (fun b o e=>?_) (fun _ _ _ _=>rfl))
    .rw[a4 (fun z=>hb (bX.mpr z)),a4 (b7 e hp)];exact e
    .rcases cM.mp hb with rfl|hb
     .exact .inl (bX.mpr rfl)
     .rw[bX.mp hb];exact .inr hp
    .rw[a4 (b7 e g3),a4 (b7 e hpg)];exact A.gh b o e
  .cases h
 .cases h⟩
noncomputable def jr (c f:ak) (i:al) (fk fv:FE):FS:=fun ρ=>(fv ρ).bind fun d=>(fk ρ).bind fun kd=>(gF kd).bind fun k=>match ρ[i]? with
 |some (aa (.objd c' fs n kvs))=>if c'=c/\n=f/\fs.lookup f=ab/\kvs.length<100000 then aa (.nx,ρ.set i (aa (.objd c fs n (eG kvs k d)))) else ab
 |_=>ab
theorem GQ {vs:ac (ak×V)} {f:ak} {w:V} (h:vs.lookup f=ab):(vs++[(f,w)]).lookup f=aa w:=by
 induction vs with
 |nil=>simp[dz]
 |cons p r ih=>
  obtain⟨g,x⟩:=p;by_cases e:f=g
  .subst e;simp[dz] at h
  .have hb:(f==g)=aq:=by simpa using e
   simp only[qq,dz,hb] at h ⊢;exact ih h
theorem J1 (i:al) (hu:X.A.units+66<cg) (hc:CF Γ X.K cl attrs) (hf:fl∈attrs) {ap:dq} (hk:DE Γ X ke fk) (hv':DE Γ X value fv) (hN:X.N[i]?=aa x:=by rfl) (hv:Vis X.env.scope x:=by first|exact di rfl|exact cG (di rfl)|exact cG (cG rfl)) (hd:.(E)=aq:=by decide)
  (hcd:(x==("__classdict__":ak))=aq:=by decide) (hb:gx (.Name x vp) fl X.env (eval (.Name x vp) X.env)=eval (.Name x vp) X.env:=by rfl) (hs:fK value (aa (.Subscript (.Attribute (.Name x vp) fl ap) ke pos')) pos.line X.env=bB aq:=by rfl) :
  DS Γ X (.Assign [.Subscript (.Attribute (.Name x vp) fl ap) ke pos'] value pos) (jr cl fl i fk fv):=⟨(D0 .(f) (wD (iW hN hv hd hcd) hb) hk.1 hv'.1 hs).imp fun E σ H=>by
 rintro⟨G₀,H₀,G,ρ,flw,ρ',A,h,k⟩;unfold jr at h;obtain⟨d,hd,ha⟩:=oBd h;clear h;obtain⟨kd,hkd,hb1⟩:=oBd ha;clear ha;obtain⟨kk,hkk,hq⟩:=oBd hb1;clear hb1;split at hq
 .rename_i c' fs n kvs hi;split at hq
  .rename_i hz;obtain⟨rfl,rfl,hz2,hz3⟩:=hz;cases hq;obtain⟨C,q1,q2,q3⟩:=hc.ex;refine⟨G₀,H₀,G,ρ,d,A,hd,fun v G1 H1 s1 r1=>?_⟩;have A1:=A.step s1;obtain⟨w,fp,h1,h2⟩:=A1.get hi;cases h2 with
   |objd g1 g2 g3 g4 g5 g6 y1 y2 y3 y4 y5 g7=>
    rename_i a C' dx p vs us;have g1':=g1;rw[q1] at g1;cases g1;have hl:vs.lookup n=ab:=by
     rcases jY (k:=n) g5 g6 with⟨_,z2⟩|⟨d',v',z1,_,_⟩
     .exact z2
     .rw[z1] at hz2;cases hz2
    refine⟨_,h1,a,C,dx,_,.ref p,rfl,g4,q2,q3 n hf,GQ hl,G₀,H₀,G1,ρ,kd,A1,hkd,fun u G2 H2 s2 r2=>?_⟩;have A2:=A1.step s2;have eu:=lH r2 hkk;subst eu;have hp2:H2 p=aa (.dK us):=s2.hh _ _ y3;have ha2:H2 a=aa (.ins C dx (vs++[(n,.ref p)])):=s2.hh _ _ g4;have ga2:G2 a=ab:=(s2.out _ _ g4).trans g3;have gp2:G2 p=ab:=(s2.out _ _ y3).trans y2;have npa:a≠p:=vT ha2 hp2 (by intro z;cases z);have hlen:us.length=kvs.length:=by simpa using cK f8 y4
    obtain⟨w1,w2⟩:=uB (k:=kk) (r1.mono s2.gg) y4 (y5.mono s2.gg);refine⟨p,_,rfl,kc.k hp2 (by have:=eX;omega),?_⟩;refine k σ G2 _ (s1.gg.trans s2.gg) (A2.ch hi h1 (.objd g1' g2 ga2 ha2 g5 (g6.mono s2.gg) y1 gp2 hp2 y4 (y5.mono s2.gg) g7) (fun b o e hb=>?_) (.objd (p:=p) g1' g2 ga2 (by rw[a4 npa];exact ha2) g5 (g6.mono s2.gg) y1 gp2 bW w1 w2 g7) (fun b hb=>.inl hb) (.refl _) (fun b o e=>?_) (fun _ _ _ _=>rfl))
    .rw[a4 (fun z=>hb (by rw[z];exact qi _ qh))];exact e
    .rw[a4 (b7 e gp2)];exact A2.gh b o e
  .cases hq
 .cases hq⟩
noncomputable def Dc:Slot->ar D
 |.obj c fs=>aa (.ins c fs)
 |.objd c fs n kvs=>aa (.ins c (fs++[(n,.dk kvs)]))
 |_=>ab
theorem At.done (A:At Γ K G₀ H₀ G H ρ σ) {i:al} {s:Slot} (hi:ρ[i]?=aa (aa s)) (hd:Dc s=aa d):∃a G',Γ.self=aa a/\Step G₀ H₀ G' H/\Rep Γ K G' (.ref a) d:=by
 obtain⟨v,fp,h1,h2⟩:=A.get hi;cases h2 with
 |sh _=>cases hd
 |own _ _ _ _=>cases hd
 |odk _ _ _ _ _=>cases hd
 |odt _ _ _ _ _=>cases hd
 |tlo _ _ _ _ _ _=>cases hd
 |oll _ _ _ _ _=>cases hd
 |pin _=>cases hd
 |obj g1 g2 g3 g4 g5 g6 g7=>
  cases hd;rename_i a C dx vs fs;have sm:bO G (upd G a (.ins C dx vs)):=fun b o e=>by rw[a4 (b7 e g3)];exact e
  refine⟨a,upd G a (.ins C dx vs),g7,⟨A.st.hh,A.st.gg.trans sm,fun b o e=>?_,fun b o e=>?_⟩,.ins bW g1 g5 (g6.mono sm)⟩
  .by_cases hb:b=a
   .subst hb;rw[bW] at e;cases e;exact g4
   .rw[a4 hb] at e;exact A.gh b o e
  .rw[a4 (b7 e g2)];exact A.st.out b o e
 |objd g1 g2 g3 g4 g5 g6 y1 y2 y3 y4 y5 g7=>
  cases hd;rename_i n a C dx p vs fs us kvs;have npa:a≠p:=vT g4 y3 (by intro z;cases z);have sm:bO G (upd (upd G p (.dK us)) a (.ins C dx (vs++[(n,.ref p)]))):=fun b o e=>by rw[a4 (b7 e g3),a4 (b7 e y2)];exact e
  refine⟨a,_,g7,⟨A.st.hh,A.st.gg.trans sm,fun b o e=>?_,fun b o e=>?_⟩,.ins (us:=vs++[(n,.ref p)]) (fs:=fs++[(n,.dk kvs)]) bW g1 (by simp[g5]) ?_⟩
  .by_cases hb:b=a
   .subst hb;rw[bW] at e;cases e;exact g4
   .rw[a4 hb] at e;by_cases hb':b=p
    .subst hb';rw[bW] at e;cases e;exact y3
    .rw[a4 hb'] at e;exact A.gh b o e
  .rw[a4 (b7 e g2),a4 (b7 e y1)];exact A.st.out b o e
  .have r2:Rep Γ K (upd (upd G p (.dK us)) a (.ins C dx (vs++[(n,.ref p)]))) (.ref p) (.dk kvs):=.dk (us:=us) (by rw[a4 npa.symm,bW]) y4 (y5.mono sm);simpa using(g6.mono sm).append (.cons r2 .nil)
end
noncomputable def Cn.mk1 (Γ:Cn) (x:aw):Cn:=⟨Γ.cls,aa x⟩
section
variable {c:ak} {x:aw}
theorem Rep.to1 (x:aw) (r:Rep Γ K G v d):Rep (Γ.mk1 x) K G v d:=Rep.re (Γ:=Γ) (Γ':=Γ.mk1 x) rfl r
theorem Rep.of1 (r:Rep (Γ.mk1 x) K G v d):Rep Γ K G v d:=Rep.re (Γ:=Γ.mk1 x) (Γ':=Γ) rfl r
theorem Reps.of1 {v:ac V} {d:ac D} (r:Reps (Γ.mk1 x) K G v d):Reps Γ K G v d:=Reps.re (Γ:=Γ.mk1 x) (Γ':=Γ) rfl r
theorem CF.re (h:CF Γ K c attrs) (x:aw):CF (Γ.mk1 x) K c attrs:=⟨h.ex⟩
theorem IR {Q:VK} {E:XK} (x:aw) (h:spF (Γ.mk1 x) K n F vs H Q E):spF Γ K n F vs H Q E:=by obtain⟨G,ds,d,h1,h2,h3,h4,k⟩:=h;exact⟨G,ds,d,h1,h2.of1,h3,h4,fun v G' H' s r=>k v G' H' s (r.to1 x)⟩
theorem Cal.re {y:ak} {k:al} (C:Cal Γ P w K mg base y n k F) (x:aw):Cal (Γ.mk1 x) P w K mg base y n k F:=by obtain⟨f,fd,ps,h1,h2,h3,h4⟩:=C.ex;exact⟨f,fd,ps,h1.imp fun vs H Q E q=>IR x q,h2,h3,h4⟩
structure CalM (Γ:Cn) (P:dy) (w:cS) (K:bi) (mg:ak->ar Value) (base:Heap) (c m:ak) (n k:al) (F:ac D->ar D):Prop where
 ex:∃C f fd ps,Γ.cls c=aa C/\Cls K C/\Meth K C m f/\FnOk P w K mg base CX0 k f fd ps (spF Γ K n F)/\gL K fd ps []
inductive spI (Γ:Cn) (K:bi) (C:aw) (n:al) (F:ac D->ar D) (vs:ac V) (H:Hp) (Q:VK) (_e3:XK):Prop where
 |mk:∀x dx H1 G ds d us,vs=.ref x::us->H=upd (upd H1 dx (.own x)) x (.ins C dx [])->H1 x=ab->H1 dx=ab->dx≠x->bO G H1->Reps Γ K G us ds->ds.length=n->F ds=aa d->(∀G' H',Step G H1 G' H'->Rep Γ K G' (.ref x) d->Q .non H')->spI Γ K C n F vs H Q _e3
structure CalI (Γ:Cn) (P:dy) (w:cS) (K:bi) (mg:ak->ar Value) (base:Heap) (c:ak) (n k:al) (F:ac D->ar D):Prop where
 ex:∃C f fd ps,Γ.cls c=aa C/\Mk K C f/\mg c=aa (.ref C)/\FnOk P w K mg base CX0 k f fd ps (spI Γ K C n F)/\gL K fd ps []
end
section
variable {c:ak}
noncomputable def c5 (c m:ak) (F:ac D->ar D) (fo:FE) (fr:FA):FE:=fun ρ=>(fo ρ).bind fun d=>match d with
 |.ins c' fs=>if c'=c/\fs.lookup m=ab then (fr ρ).bind fun ds=>F (d::ds) else ab
 |_=>ab
theorem ou {k:al} (C:CalM Γ X.prog X.w X.K X.mg X.base c m (n+1) k F) (hr:Room j X.A) (hk:k<=j) (ho:DE Γ X o fo) (ha:DA Γ X (e::es) fr) (hn:∀ρ ds,fr ρ=aa ds->ds.length=n)
  (hst:a6 (e::es) X.env=(aq,eval e X.env)::a6 es X.env:=by rfl) (hpl:(cC pos (a6 es X.env)).any (·.1)=aq:=by rfl)
  (ht:eval (.Call (.Attribute o m apos) (e::es) [] pos) X.env=(do
   let ov ←eval o X.env
   oF apos.atName
   let (f,first) ←jM [ov] (oJ ov m pl)
   rq pos f first (cC pos (a6 (e::es) X.env)) (i8 pos (i9 [] X.env))):=by rfl) :
  DE Γ X (.Call (.Attribute o m apos) (e::es) [] pos) (c5 c m F fo fr):=⟨by
 obtain⟨Ca,f,fd,ps,h0,h1,h2,h3,h4⟩:=C.ex;refine(Qd ho.1 h1 h2 h3 (hr.mono hk) h4 .nil tq ha.1 hst hpl ht).imp fun σ H Q=>?_;rintro⟨G₀,H₀,G,ρ,d,A,h,k⟩;unfold c5 at h;obtain⟨x,hx,hq⟩:=oBd h;clear h;refine⟨G₀,H₀,G,ρ,x,A,hx,fun v G1 H1 s1 r1=>?_⟩;split at hq
 .rename_i c' fs;split at hq
  .rename_i hz;obtain⟨rfl,hz2⟩:=hz;obtain⟨ds,hds,hF⟩:=oBd hq;have r1':=r1;cases r1 with
   |ins g1 g2 g3 g4=>
    rw[h0] at g2;cases g2;rename_i _ _ us0;have hl:dz m us0=ab:=by
     rcases jY (k:=m) g3 g4 with⟨_,z2⟩|⟨d',v',z1,_,_⟩
     .exact z2
     .rw[z1] at hz2;cases hz2
    refine⟨_,_,_,rfl,s1.gh _ _ g1,hl,G₀,H₀,G1,ρ,ds,A.step s1,hds,fun vs G2 H2 s2 r2=>?_⟩;show spF Γ X.K (n+1) F (_::(vs++[])) H2 Q E0;rw[lT];exact⟨G2,_,d,s2.gh,.cons (r1'.mono s2.gg) r2,by rw[qj,hn ρ ds hds],hF,fun v G' H' s r=>k v G' H' ((s1.trans s2).trans s) r⟩
  .cases hq
 .cases hq⟩
theorem jC {k:al} (C:CalM Γ X.prog X.w X.K X.mg X.base c m 1 k F) (hr:Room j X.A) (hk:k<=j) (ho:DE Γ X o fo)
  (ht:eval (.Call (.Attribute o m apos) [] [] pos) X.env=(do
   let ov ←eval o X.env
   oF apos.atName
   let (f,first) ←jM [ov] (oJ ov m pl)
   rq pos f first (cC pos (a6 [] X.env)) (i8 pos (i9 [] X.env))):=by rfl) :
  DE Γ X (.Call (.Attribute o m apos) [] [] pos) (c5 c m F fo aj):=⟨by
 obtain⟨Ca,f,fd,ps,h0,h1,h2,h3,h4⟩:=C.ex;refine(NN ho.1 h1 h2 h3 (hr.mono hk) h4 .nil tq ht).imp fun σ H Q=>?_;rintro⟨G₀,H₀,G,ρ,d,A,h,k⟩;unfold c5 at h;obtain⟨x,hx,hq⟩:=oBd h;clear h;refine⟨G₀,H₀,G,ρ,x,A,hx,fun v G1 H1 s1 r1=>?_⟩;split at hq
 .rename_i c' fs;split at hq
  .rename_i hz;obtain⟨rfl,hz2⟩:=hz;obtain⟨ds,hds,hF⟩:=oBd hq;cases hds;have r1':=r1;cases r1 with
   |ins g1 g2 g3 g4=>
    rw[h0] at g2;cases g2;rename_i _ _ us0;have hl:dz m us0=ab:=by
     rcases jY (k:=m) g3 g4 with⟨_,z2⟩|⟨d',v',z1,_,_⟩
     .exact z2
     .rw[z1] at hz2;cases hz2
    refine⟨_,_,_,rfl,s1.gh _ _ g1,hl,?_⟩;exact⟨G1,_,d,s1.gh,.cons r1' .nil,rfl,hF,fun v G' H' s r=>k v G' H' (s1.trans s) r⟩
  .cases hq
 .cases hq⟩
theorem GE {k:al} (C:CalI Γ X.prog X.w X.K X.mg X.base c n k F) (hr:Room j X.A) (hk:k+1<=j) (hg:Gl X c) (ha:DA Γ X (e::es) fr) (hn:∀ρ ds,fr ρ=aa ds->ds.length=n)
  (hdb:(c==("__debug__":ak))=aq:=by decide) (he:a6 (e::es) X.env=(aq,eval e X.env)::a6 es X.env:=by rfl) (hpl:(cC pos (a6 es X.env)).any (·.1)=aq:=by rfl) :
  DE Γ X (.Call (.Name c p) (e::es) [] pos) (cF F fr):=⟨by
 obtain⟨Ca,f,fd,ps,h0,h1,h2,h3,h4⟩:=C.ex;refine(MI h1 h3 (hr.mono hk) hg h2 h4 .nil tq ha.1 hdb he hpl).imp fun σ H Q=>?_;rintro⟨G₀,H₀,G,ρ,d,A,h,k⟩;unfold cF at h;obtain⟨ds,hd,hq⟩:=oBd h;refine⟨G₀,H₀,G,ρ,ds,A,hd,fun vs G1 H1 s1 r1 x dx hx hdx hne=>?_⟩;rw[lT];exact⟨x,dx,H1,G1,ds,d,vs,rfl,rfl,hx,hdx,hne,s1.gh,r1,hn ρ ds hd,hq,fun G' H' s r=>⟨rfl,k _ G' H' (s1.trans s) r⟩⟩⟩
end
noncomputable def nB (n:al) (c:ak) (g:FS):ac D->ar D:=fun ds=>(g (aa (.obj c [])::ds.map (fun d=>aa (Slot.sh d))++ce n ab)).bind fun r=>match r.1 with
 |.nx=>match r.2[0]? with
  |some (aa s)=>Dc s
  |_=>ab
 |_=>ab
variable {s0:ak}
section
variable {c:ak}
theorem Fun.okI {f:aw} {k:al} (F:Fun K x qual st f fd) (S:FnScope N (s0::ps) (aS st)) (hC:Γ.cls c=aa C)
  (hbody:∀(y:aw) (cdv:Value) (A:eB) (outer:ac dc) (s:aI) (H:Hp) (E:XK),Room k (A.deeper (fy qual (aS st) s.heap.objs.size f cdv))->
   DSs (Γ.mk1 y) (ii CX0 P w K mg base N qual (aS st) f cdv A outer s H E).nox (eU st) g):FnOk P w K mg base CX0 (k+1) f fd (s0::ps) (spI Γ K C ps.length (nB (N.length-(ps.length+1)) c g)):=by
 refine F.ok S (fun vs H Q E h=>?_) (fun cdv A outer s H vs Q E hr h=>?_)
 .obtain⟨y,dx,H1,G,ds,d,us,rfl,_,_,_,_,_,r,hl,_⟩:=h;rw[qj,r.length,hl,qj]
 .obtain⟨y,dx,H1,G,ds,d,us,rfl,rfl,hx,hdx,hne,gh,r,hl,hd,k⟩:=h;refine⟨_,(hbody y cdv A outer s _ E hr).1,?_⟩;unfold nB at hd;obtain⟨⟨fl,ρ'⟩,hg,hd⟩:=oBd hd;have s1:=Step.newOwn (o:=.own y) gh hdx;have hx1:(upd H1 dx (.own y)) y=ab:=by rw[a4 (dF hne)];exact hx
  have s2:=s1.trans (Step.newOwn (o:=.ins C dx []) s1.gh hx1);have hlen:us.length=ds.length:=r.length;have A0:At (Γ.mk1 y) K G H1 G (upd (upd H1 dx (.own y)) y (.ins C dx [])) (aa (.obj c [])::ds.map (fun d=>aa (Slot.sh d))++ce (N.length-(ps.length+1)) ab) (gD N (.ref y::us)):=by
   refine⟨s2,by simp[gD,hlen,hl],fun i=>if i=0 then [y] else [],fun i t e=>?_,fun i j t u hij e1 e2 b hb=>?_⟩
   .cases i with
    |zero=>
     cases e;exact⟨.ref y,rfl,.obj (vs:=[]) (fs:=[]) hC hx (gh.free hx) bW rfl .nil rfl⟩
    |succ i=>
     have e:(ds.map (fun d=>aa (Slot.sh d))++ce (N.length-(ps.length+1)) ab)[i]?=aa (aa t):=e;by_cases hi:i<ds.length
     .rw[qy (by simpa using hi),ql] at e;obtain⟨d',hd',e⟩:=oMd e;cases e;obtain⟨v,hv,rv⟩:=r.get hd';refine⟨v,?_,.sh (rv.to1 y)⟩;unfold gD;show((us.map aa)++_)[i]?=aa (aa v);rw[qy (by rw[qg,hlen];exact hi),ql,hv];rfl
     .rw[qJ (by simpa using hi),yM] at e;split at e<;>cases e
   .have hb:b∈(if i=0 then [y] else []):=hb;show b∉(if j=0 then [y] else []);by_cases hi:i=0
    .subst hi;rw[qY (dF hij)];exact fun z=>by cases z
    .rw[qY hi] at hb;cases hb
  refine⟨G,H1,G,_,fl,ρ',A0,hg,fun σ' G' H' sm A'=>?_⟩;cases fl with
  |nx=>
   simp only at hd;split at hd
   .rename_i sl hs;obtain⟨a,G2,e1,st2,rp⟩:=A'.done hs hd;cases e1;exact k G2 H' st2 rp.of1
   .cases hd
  |rt d'=>cases hd
  |ow d'=>cases hd
  |nw d'=>cases hd
  |od d'=>cases hd
  |bk=>cases hd
  |ct=>cases hd
structure DfnM (K:bi) (C:aw) (c m qual:ak) (st:Stmt):Prop where
 ex:∃f fd,Fun K m qual st f fd/\dG K (.ref C) m=aa (aa (.ref f))/\uR K (.ref f)=ai
structure ClsOk (Γ:Cn) (K:bi) (mg:ak->ar Value) (c:ak) (C:aw):Prop where
 cn:Γ.cls c=aa C
 cl:Cls K C
 mgC:mg c=aa (.ref C)
 makes:yG K C=ai
 kp:i7 K (.ref C)=ai
theorem DfnM.cal {k:al} (O:ClsOk Γ K mg c C) (F:DfnM K C c m qual st) (S:FnScope N ps (aS st))
  (hb:∀(kV doc pm:Value) (an:ar aw) (cdv ct:Value) (us:ac Value),us.length=ps.length->lS (hG m qual (ij st) (eU st) (aS st) .none kV doc pm an cdv ct) ⟨us,[]⟩=bB (ps.zip us))
  (hbody:∀(f:aw) (cdv:Value) (A:eB) (outer:ac dc) (s:aI) (H:Hp) (E:XK),Room k (A.deeper (fy qual (aS st) s.heap.objs.size f cdv))->
   DSs Γ (ii CX0 P w K mg base N qual (aS st) f cdv A outer s H E).nox (eU st) g):CalM Γ P w K mg base c m ps.length (k+1) (aY (N.length-ps.length) g):=by
 obtain⟨f,fd,h1,h2,h3⟩:=F.ex;exact⟨C,f,fd,ps,O.cn,O.cl,⟨h2,h3,h1.kp⟩,h1.okD S (hbody f),h1.binds hb⟩
theorem DfnM.calI {k:al} (O:ClsOk Γ K mg c C) (F:DfnM K C c "__init__" qual st) (S:FnScope N (s0::ps) (aS st))
  (hb:∀(kV doc pm:Value) (an:ar aw) (cdv ct:Value) (us:ac Value),us.length=(s0::ps).length->lS (hG "__init__" qual (ij st) (eU st) (aS st) .none kV doc pm an cdv ct) ⟨us,[]⟩=bB ((s0::ps).zip us))
  (hbody:∀(f y:aw) (cdv:Value) (A:eB) (outer:ac dc) (s:aI) (H:Hp) (E:XK),Room k (A.deeper (fy qual (aS st) s.heap.objs.size f cdv))->
   DSs (Γ.mk1 y) (ii CX0 P w K mg base N qual (aS st) f cdv A outer s H E).nox (eU st) g):CalI Γ P w K mg base c ps.length (k+1) (nB (N.length-(ps.length+1)) c g):=by
 obtain⟨f,fd,h1,h2,h3⟩:=F.ex;exact⟨C,f,fd,s0::ps,O.cn,⟨O.makes,h2,h3,O.kp⟩,O.mgC,h1.okI S O.cn (hbody f),h1.binds hb⟩
theorem ClsOk.cf (O:ClsOk Γ K mg c C) (h:∀f∈attrs,kZ K C f):CF Γ K c attrs:=⟨C,O.cn,O.cl,h⟩
end
variable {M n0 ep:al} {h:ag} {owner:bR (ar al)} {hs:ac ag} {I S:aw} {wr:ac aw} {hashAt:al->ag} {h0:Heap} {es':bR (ag×Value)}
namespace ST
structure Pr where
 j:al
 more:al
 i:al
 pt:al
noncomputable def adv (M:al) (p:Pr):Pr:=if p.more > 0 then {p with j:=p.j+1,more:=p.more-1} else
 {j:=(jf M p.i p.pt).1,more:=df M (jf M p.i p.pt).1-(jf M p.i p.pt).1,i:=(jf M p.i p.pt).1,pt:=(jf M p.i p.pt).2}
noncomputable def st0 (M:al) (h:ag):Pr:={j:=fM h%(M+1),more:=df M (fM h%(M+1))-fM h%(M+1),i:=fM h%(M+1),pt:=fM h}
noncomputable def it (M:al) (h:ag):al->Pr
 |0=>st0 M h
 |n+1=>adv M (it M h n)
noncomputable def J (M:al) (h:ag) (n:al):al:=(it M h n).j
noncomputable def lp (M:al) (h:ag):al->al×al
 |0=>(fM h%(M+1),fM h)
 |r+1=>jf M .(ao).1 .(ao).2
noncomputable def mU (M:al) (x:al×al):Pr:={j:=x.1,more:=df M x.1-x.1,i:=x.1,pt:=x.2}
theorem uz (M:al) (h:ag) (n:al):∀k,it M h (n+k)=(Nat.repeat (adv M) k (it M h n))
 |0=>rfl
 |k+1=>by rw[←E6,it,uz M h n k];rfl
theorem Nc (M i:al):df M i-i<=9:=by unfold df;split<;>omega
theorem tw (M:al):∀(k:al) (p:Pr),k<=p.more->Nat.repeat (adv M) k p={p with j:=p.j+k,more:=p.more-k}
 |0,p,_=>rfl
 |k+1,p,h=>by rw[Nat.repeat,tw M k p .(f)];unfold adv;rw[qX (by show p.more-k > 0;omega)];simp only[Nat.sub_sub,E6]
theorem Ac (M:al) (h:ag):∀r,∃n,n<=10*r/\it M h n=mU M .(ao)
 |0=>⟨0,qw _,rfl⟩
 |r+1=>by obtain⟨n,hn,e⟩:=Ac M h r;have hl:=Nc M .(ao).1;refine⟨n+(df M .(ao).1-.(ao).1)+1,by omega,?_⟩;have e2:=tw M (df M .(ao).1-.(ao).1) (mU M .(ao)) (qw _);rw[it,uz,e,e2];unfold adv;rw[qY (by show ¬((df M .(ao).1-.(ao).1)-(df M .(ao).1-.(ao).1) > 0);omega)];rfl
theorem Jv (h:ag):fM h<2 ^ 64:=by unfold fM;have h1:=qW h (show(2 ^ 64:ag)≠0 by decide);have h2:=qT h (show(0:ag)<2 ^ 64 by decide);omega
theorem zZ (M:al) (h:ag):∀r,.(ao).2=fM h / 32 ^ r
 |0=>by simp[lp]
 |r+1=>by show.(ao).2 / 32=_;rw[zZ M h r,Nat.div_div_eq_div_mul,Nat.pow_succ]
theorem Pu (M:al) (h:ag) {r:al} (hr:13<=r):.(ao).2=0:=by rw[zZ];refine Nat.div_eq_of_lt (qE (Jv h) ?_);exact qL (show 2 ^ 64<=32 ^ 13 by decide) (Nat.pow_le_pow_right .(g) hr)
noncomputable def fl (M i:al):al:=(i*5+1)%(M+1)
noncomputable def orb (M:al):al->al->al
 |0,i=>i
 |m+1,i=>fl M (orb M m i)
theorem xA (M:al) (h:ag):∀m,(lp M h (13+m)).1=orb M m (lp M h 13).1
 |0=>rfl
 |m+1=>by show(jf M (lp M h (13+m)).1 (lp M h (13+m)).2).1=_;rw[Pu M h .(f),xA M h m];simp[jf,orb,fl]
theorem sH (M i:al) (a:al):∀b,orb M (a+b) i=orb M b (orb M a i)
 |0=>rfl
 |b+1=>by rw[←E6,orb,sH M i a b];rfl
noncomputable def xO (M:al):al->al->ac al
 |0,_=>[]
 |n+1,i=>i::xO M n (fl M i)
theorem Ds (M:al):∀m i,orb M (m+1) i=orb M m (fl M i)
 |0,_=>rfl
 |m+1,i=>by rw[orb,Ds M m i];rfl
theorem Bz (M:al):∀(n i j:al),j∈xO M n i->∃m,m<n/\orb M m i=j
 |0,_,_,h=>nomatch h
 |n+1,i,j,h=>by
  rcases cM.mp h with e|h
  .exact⟨0,u8 _,e.symm⟩
  .obtain⟨m,hm,e⟩:=Bz M n (fl M i) j h;exact⟨m+1,by omega,by rw[Ds];exact e⟩
structure Full (M:al):Prop where
 all:∀j,j<=M->∃m,m<M+1/\orb M m 0=j
 back:orb M (M+1) 0=0
noncomputable def chk (M:al):aX:=(cP (M+1)).all (fun j=>(xO M (M+1) 0).contains j) && orb M (M+1) 0==0
theorem sx (h:chk M=ai):Full M:=by unfold chk at h;rw[gI,rP] at h;refine⟨fun j hj=>?_,by simpa using h.2⟩;have:=h.1 j (eV.mpr .(f));exact Bz M (M+1) 0 j (by simpa using this)
theorem xX:Full 7:=sx .(s)
theorem G7:Full 31:=sx .(s)
theorem NB:Full 127:=sx .(s)
theorem Jw:Full 511:=sx .(s)
theorem Full.reach (F:Full M) (hi:i<=M) (hj:j<=M):∃m,m<=M/\orb M m i=j:=by
 obtain⟨a,ha,ea⟩:=F.all i hi;obtain⟨b,hb,eb⟩:=F.all j hj;by_cases h:a<=b
 .refine⟨b-a,by omega,?_⟩;rw[←ea,←sH,show a+(b-a)=b by omega,eb]
 .refine⟨M+1-a+b,by omega,?_⟩;rw[←ea,←sH,show a+(M+1-a+b)=(M+1)+b by omega,sH,F.back,eb]
theorem vF (M:al) (h:ag):∀r,.(ao).1<=M
 |0=>E7.mp (zf _ (u8 _))
 |r+1=>E7.mp (zf _ (u8 _))
theorem Full.covers (F:Full M) (h:ag) (hj:j<=M):∃n,n<10*(M+15)/\J M h n=j:=by obtain⟨m,hm,e⟩:=F.reach (vF M h 13) hj;obtain⟨n,hn,en⟩:=Ac M h (13+m);refine⟨n,by omega,?_⟩;unfold J;rw[en];show(lp M h (13+m)).1=j;rw[xA,e]
theorem Bm (M:al) (h:ag):∀n,(it M h n).j+(it M h n).more<=M
 |0=>by
  have:=vF M h 0;show(lp M h 0).1+(df M (lp M h 0).1-(lp M h 0).1)<=M;unfold df;split<;>omega
 |n+1=>by
  have ih:=Bm M h n;rw[it];unfold adv;split
  .show(it M h n).j+1+((it M h n).more-1)<=M;omega
  .show(jf M (it M h n).i (it M h n).pt).1+(df M (jf M (it M h n).i (it M h n).pt).1-(jf M (it M h n).i (it M h n).pt).1)<=M;have:(jf M (it M h n).i (it M h n).pt).1<=M:=E7.mp (zf _ (u8 _));unfold df;split<;>omega
theorem yi (M:al) (h:ag) (n:al):J M h n<=M:=qL (E8 _ _) (Bm M h n)
theorem Full.first (F:Full M) (h:ag) (occ:al->aX) (hf:∃j,j<=M/\occ j=aq):∃n,n<10*(M+15)/\occ (J M h n)=aq/\∀m,m<n->occ (J M h m)=ai:=by
 obtain⟨j,hj,hof⟩:=hf;obtain⟨n,hn,e⟩:=F.covers h hj;have key:∀n,n<10*(M+15)->occ (J M h n)=aq->∃n,n<10*(M+15)/\occ (J M h n)=aq/\∀m,m<n->occ (J M h m)=ai:=by
  intro n
  induction n using Nat.strongRecOn with
  |ind n ih=>
   intro hn ho;by_cases hx:∃m,m<n/\occ (J M h m)=aq
   .obtain⟨m,hm,hm2⟩:=hx;exact ih m hm .(f) hm2
   .refine⟨n,hn,ho,fun m hm=>?_⟩;cases q:occ (J M h m) with
    |true=>rfl
    |false=>exact bN ⟨m,hm,q⟩ hx
 exact key n hn (by rw[e];exact hof)
theorem xr (xs:bR al) (j:al) (hs:xs.toList.Pairwise (· < ·)):∀(fuel lo hi:al),hi-lo<=fuel->lo<=hi->hi<=xs.size->(∀i,i<lo->∀v,xs[i]?=aa v->v<j)->(∀i,hi<=i->∀v,xs[i]?=aa v->j<=v)->
  (zg xs j fuel lo hi<=xs.size)/\(∀i,i<zg xs j fuel lo hi->∀v,xs[i]?=aa v->v<j)/\∀i,zg xs j fuel lo hi<=i->∀v,xs[i]?=aa v->j<=v
 |0,lo,hi,hf,hl,hh,h1,h2=>by
  have e:lo=hi:=by omega
  subst e;exact⟨hh,h1,h2⟩
 |fuel+1,lo,hi,hf,hl,hh,h1,h2=>by
  have mono:∀a b va vb,a<b->xs[a]?=aa va->xs[b]?=aa vb->va<vb:=fun a b va vb hab ha hb=>by have:=zh.mp hs a b;obtain⟨a1,a2⟩:=gJ.mp ha;obtain⟨b1,b2⟩:=gJ.mp hb;have q:=this (by simpa using a1) (by simpa using b1) hab;simpa[a2,b2] using q
  unfold zg;by_cases hlt:lo<hi
  .rw[qX hlt];have hm1:lo<=(lo+hi) / 2:=by omega
   have hm2:(lo+hi) / 2<hi:=by omega
   have hget:∃v,xs[(lo+hi) / 2]?=aa v:=⟨xs[(lo+hi) / 2]'.(f),by simp[show(lo+hi) / 2<xs.size by omega]⟩;obtain⟨v,hv⟩:=hget;have hd:xs.getD ((lo+hi) / 2) j=v:=by simp[zi,hv]
   dsimp only;rw[hd];by_cases hvj:v<j
   .rw[qX hvj];refine xr xs j hs fuel _ _ .(f) .(f) hh (fun i hi' w hw=>?_) h2;rcases je i ((lo+hi) / 2) with hi2|hi2
    .exact rH (mono i _ w v hi2 hw hv) hvj
    .have e:i=(lo+hi) / 2:=by omega
     subst e;rw[hv] at hw;cases hw;exact hvj
   .rw[qY hvj];refine xr xs j hs fuel _ _ .(f) .(f) .(f) h1 fun i hi' w hw=>?_;rcases je ((lo+hi) / 2) i with hi2|hi2
    .exact qL .(f) (rl (mono _ i v w hi2 hv hw))
    .have e:i=(lo+hi) / 2:=by omega
     subst e;rw[hv] at hw;cases hw;omega
  .rw[qY hlt];have e:lo=hi:=by omega
   subst e;exact⟨hh,h1,h2⟩
theorem n9 (xs:bR al) (j:al) (hs:xs.toList.Pairwise (· < ·)):b6 xs j<=xs.size/\(∀i,i<b6 xs j->∀v,xs[i]?=aa v->v<j)/\∀i,b6 xs j<=i->∀v,xs[i]?=aa v->j<=v:=
 xr xs j hs xs.size 0 xs.size (qw _) (ix _) (qw _) (fun i h=>bN h (E9 _)) fun i h v hv=>by have:=(gJ.mp hv).1;omega
theorem xW (xs:bR al) (j i:al) (hs:xs.toList.Pairwise (· < ·)) (h:xs[i]?=aa j):b6 xs j=i:=by
 obtain⟨h0,h1,h2⟩:=n9 xs j hs;rcases Ri (b6 xs j) i with hl|hl|hl
 .have hi:=(gJ.mp h).1;have hg:xs[b6 xs j]?=aa (xs[b6 xs j]'.(f)):=by simp[show b6 xs j<xs.size by omega]
  have q1:=h2 _ (qw _) _ hg;have:=zh.mp hs (b6 xs j) i (by simp;omega) (by simpa using hi) hl;obtain⟨_,e⟩:=gJ.mp h;simp only[Rj] at this;omega
 .exact hl
 .have:=h1 i hl j h;omega
structure Tb (t:hW) (es:bR (ag×Value)):Prop where
 full:Full t.mask
 sz:t.place.size=es.size
 dm:t.dummies=#[]
 ri:t.place.toList.Pairwise (· < ·)
 le:∀j∈t.place.toList,j<=t.mask
 few:es.size*5<t.mask*3
 rc:∀(i j:al) (h:ag) (x:Value),t.place[i]?=aa j->es[i]?=aa (h,x)->∃n,J t.mask h n=j/\∀m,m<n->J t.mask h m∈t.place.toList
section
variable {t:hW} {es:bR (ag×Value)}
theorem Tb.live (T:Tb t es) (h:t.place[i]?=aa j):t.slot j=.live i:=by unfold Rk;rw[xW _ _ _ T.ri h];simp[h]
theorem Tb.empty (T:Tb t es) (h:j∉t.place.toList):t.slot j=.empty:=by
 unfold Rk;have h1:t.place[b6 t.place j]?≠aa j:=fun e=>h (by rw[←qH] at e;exact qO e)
 have h2:zj t.dummies j=aq:=by rw[T.dm];rfl
 simp[h1,h2]
theorem Tb.occ (T:Tb t es) (h:j∈t.place.toList):∃i:al,t.place[i]?=aa j:=by obtain⟨i,hi⟩:=u7.mp h;exact⟨i,by rw[←qH];exact hi⟩
theorem Tb.fits (T:Tb t es):t.fits es.size=ai:=by have h1:=T.sz;have h2:=T.few;simp only[oT,Fa,T.dm,Array.size_empty,gI,kC,Rl];omega
theorem pB:∀(a b:ac al),a.Nodup->(∀x∈a,x∈b)->a.length<=b.length
 |[],_,_,_=>ix _
 |x::r,b,nd,h=>by have hx:=h x qh;have nd':=kD.mp nd;have:=pB r (b.erase x) nd'.2 fun y hy=>(List.mem_erase_of_ne (show y≠x from fun e=>nd'.1 (by rw[←e];exact hy))).mpr (h y (qi _ hy));have hl:=List.length_erase_of_mem hx;have hp:0<b.length:=List.length_pos_of_mem hx;rw[qj];omega
theorem Tb.free (T:Tb t es):∃j,j<=t.mask/\decide (j∈t.place.toList)=aq:=by
 by_cases hx:∃j,j<=t.mask/\j∉t.place.toList
 .obtain⟨j,h1,h2⟩:=hx;exact⟨j,h1,qM h2⟩
 .exfalso;have all:∀j,j<=t.mask->j∈t.place.toList:=fun j hj=>Classical.byContradiction fun hn=>hx ⟨j,hj,hn⟩;have h1:=pB (cP (t.mask+1)) t.place.toList zk fun j hj=>all j (by have:=eV.mp hj;omega);have h2:=T.sz;have h3:=T.few;simp only[qS,fJ] at h1;omega
theorem Tb.first (T:Tb t es) (h:ag):∃n,n<10*(t.mask+15)/\J t.mask h n∉t.place.toList/\∀m,m<n->J t.mask h m∈t.place.toList:=by obtain⟨n,h1,h2,h3⟩:=T.full.first h (fun j=>decide (j∈t.place.toList)) T.free;exact⟨n,h1,of_decide_eq_false h2,fun m hm=>fL (h3 m hm)⟩
noncomputable def gz (p:Pr):zl:={j:=p.j,more:=p.more,i:=p.i,perturb:=p.pt,dummy:=ab}
theorem JA (t:hW) (h:ag):t.probeStart h=gz (it t.mask h 0):=rfl
theorem D6 (t:hW) (p:Pr):t.advance (gz p)=gz (adv t.mask p):=by
 unfold SetTable.advance adv gz;by_cases h:p.more > 0
 .simp only[h,cA]
 .simp only[h,c4]
theorem Tb.probe_go (T:Tb t es) (hashAt:al->ag) (h:ag) {n0:al} (hf:J t.mask h n0∉t.place.toList) (ho:∀m,m<n0->J t.mask h m∈t.place.toList):∀(fuel n:al),n<=n0->n0<n+fuel->
  (∃n' i,n<=n'/\n'<n0/\t.place[i]?=aa (J t.mask h n')/\hashAt i=h/\(∀m i,n<=m->m<n'->t.place[i]?=aa (J t.mask h m)->hashAt i≠h)/\Fb t hashAt h fuel (gz (it t.mask h n))=aa (.candidate (J t.mask h n') i (gz (it t.mask h (n'+1))))) \/
  ((∀m i,n<=m->m<n0->t.place[i]?=aa (J t.mask h m)->hashAt i≠h)/\Fb t hashAt h fuel (gz (it t.mask h n))=aa (.empty (J t.mask h n0) ab))
 |0,n,h1,h2=>by omega
 |fuel+1,n,h1,h2=>by
  unfold Fb;by_cases hn:n=n0
  .subst hn
   right
   refine⟨fun m i a b=>by omega,?_⟩;have hs:t.slot (gz (it t.mask h n)).j=.empty:=T.empty hf;rw[hs];rfl
  .obtain⟨i,hi⟩:=T.occ (ho n .(f));have hs:t.slot (gz (it t.mask h n)).j=.live i:=T.live hi;rw[hs];dsimp only;by_cases hh:hashAt i=h
   .left
    refine⟨n,i,qw _,by omega,hi,hh,fun m i a b=>by omega,?_⟩;rw[qX (by simpa using hh),D6];rfl
   .rw[qY (by simpa using hh),D6];have inj:∀i',t.place[i']?=aa (J t.mask h n)->i'=i:=fun i' h'=>by rw[←xW _ _ _ T.ri h',←xW _ _ _ T.ri hi]
    have ext:∀{b:al},(∀m i,n+1<=m->m<b->t.place[i]?=aa (J t.mask h m)->hashAt i≠h)->∀m i,n<=m->m<b->t.place[i]?=aa (J t.mask h m)->hashAt i≠h:=fun {b} q m i' a c d=>by
     by_cases e:m=n
     .subst e;rw[inj i' d];exact hh
     .exact q m i' .(f) c d
    rcases T.probe_go hashAt h hf ho fuel (n+1) .(f) .(f) with⟨n',i',a,b,c,d,e,f⟩|⟨e,f⟩
    .exact .inl ⟨n',i',by omega,b,c,d,ext e,f⟩
    .exact .inr ⟨ext e,f⟩
theorem lx (xs:bR α) (p:al) (x:α) (hp:p<=xs.size):(ci xs p x).toList=xs.toList.take p++x::xs.toList.drop p:=by unfold ci;simp[Array.toList_extract,List.extract_eq_take_drop];exact rO (by simp)
theorem Cp (l:ac α) (p:al) (x:α) (hp:p<=l.length) (i:al):(l.take p++x::l.drop p)[i]?=if i<p then l[i]? else if i=p then aa x else l[i-1]?:=by
 by_cases h1:i<p
 .rw[qX h1,qy (by rw[qD];omega),yN h1]
 .rw[qY h1,qJ (by rw[qD];omega),qD,Rm hp];by_cases h2:i=p
  .rw[qX h2,h2];simp
  .rw[qY h2];obtain⟨k,hk⟩:∃k,i-p=k+1:=⟨i-p-1,by omega⟩;rw[hk,qe,Rn]
   congr 1
   omega
theorem wU (l:ac α) (p:al) (x y:α):y∈l.take p++x::l.drop p↔y=x\/y∈l:=by
 rw[dn,qK];constructor
 .rintro(h|h|h)
  .exact .inr (u9 h)
  .exact .inl h
  .exact .inr (Fc h)
 .rintro(h|h)
  .exact .inr (.inl h)
  .have:y∈l.take p++l.drop p:=by rw[rT];exact h
   rcases dn.mp this with h|h
   .exact .inl h
   .exact .inr (.inr h)
theorem Tb.put (T:Tb t es) {x:Value} (hf:J t.mask h n0∉t.place.toList) (ho:∀m,m<n0->J t.mask h m∈t.place.toList) (few:(es.size+1)*5<t.mask*3) (pl:aX) :
  Tb { (t.put (J t.mask h n0)).1 with plain:=pl} (ci es (t.put (J t.mask h n0)).2 (h,x)):=by
 obtain⟨b0,b1,b2⟩:=n9 t.place (J t.mask h n0) T.ri;have bes:b6 t.place (J t.mask h n0)<=es.size:=by rw[←T.sz];exact b0
 have pl1:(ci t.place .(M) (J t.mask h n0)).toList=t.place.toList.take .(M)++J t.mask h n0::t.place.toList.drop .(M):=lx _ _ _ b0;have el1:(ci es .(M) (h,x)).toList=es.toList.take .(M)++(h,x)::es.toList.drop .(M):=lx _ _ _ bes;have szp:(ci t.place .(M) (J t.mask h n0)).size=t.place.size+1:=by rw[←fJ,pl1];simp;omega
 have sze:(ci es .(M) (h,x)).size=es.size+1:=by rw[←fJ,el1];simp;omega
 refine⟨T.full,?_,?_,?_,?_,?_,?_⟩
 .show(ci t.place _ _).size=_;rw[szp];show _=(ci es .(M) (h,x)).size;rw[sze,T.sz]
 .show(if zj t.dummies (J t.mask h n0)=ai then _ else t.dummies)=#[];rw[T.dm];rfl
 .show(ci t.place .(M) (J t.mask h n0)).toList.Pairwise (· < ·);rw[pl1,List.pairwise_append,Fd];have tk:∀a∈t.place.toList.take .(M),a<J t.mask h n0:=fun a ha=>by
   obtain⟨i,hi⟩:=u7.mp ha;have hi':i<b6 t.place (J t.mask h n0):=by have:=(cX.mp hi).1;rw[qD] at this;omega
   rw[yN hi',qH] at hi;exact b1 i hi' a hi
  have dr:∀a∈t.place.toList.drop .(M),J t.mask h n0<a:=fun a ha=>by
   obtain⟨i,hi⟩:=u7.mp ha;rw[Rn,qH] at hi;have h1:=b2 _ (E8 _ i) a hi;rcases je (J t.mask h n0) a with q|q
   .exact q
   .exact bN (by rw[←qH] at hi;have e:a=J t.mask h n0:=.(f);rw[e] at hi;exact qO hi) hf
  refine⟨T.ri.sublist (EH _ _),⟨dr,T.ri.sublist (List.drop_sublist _ _)⟩,fun a ha b hb=>?_⟩;rcases cM.mp hb with e|hb
  .rw[e];exact tk a ha
  .exact rH (tk a ha) (dr b hb)
 .intro j hj;have hj':j∈(ci t.place .(M) (J t.mask h n0)).toList:=hj;rw[pl1,wU] at hj';rcases hj' with e|hj'
  .rw[e];exact yi _ _ _
  .exact T.le j hj'
 .show(ci es .(M) (h,x)).size*5<t.mask*3;rw[sze];exact few
 .intro i j h' x' e1 e2;have e1':(ci t.place .(M) (J t.mask h n0)).toList[i]?=aa j:=by rw[qH];exact e1
  have e2':(ci es .(M) (h,x)).toList[i]?=aa (h',x'):=by rw[qH];exact e2
  rw[pl1,Cp _ _ _ (by simpa using b0)] at e1';rw[el1,Cp _ _ _ (by simpa using bes)] at e2';have up:∀{n:al},(∀m,m<n->J t.mask h' m∈t.place.toList)->∀m,m<n->J t.mask h' m∈(ci t.place .(M) (J t.mask h n0)).toList:=fun q m hm=>by rw[pl1,wU];exact .inr (q m hm)
  by_cases c1:i<b6 t.place (J t.mask h n0)
  .rw[qX c1] at e1' e2';rw[qH] at e1' e2';obtain⟨n,hn,q⟩:=T.rc i j h' x' e1' e2';exact⟨n,hn,up q⟩
  .rw[qY c1] at e1' e2';by_cases c2:i=b6 t.place (J t.mask h n0)
   .rw[qX c2] at e1' e2';cases e1';cases e2';exact⟨n0,rfl,up ho⟩
   .rw[qY c2] at e1' e2';rw[qH] at e1' e2';obtain⟨n,hn,q⟩:=T.rc _ j h' x' e1' e2';exact⟨n,hn,up q⟩
end
noncomputable def eO (owner:bR (ar al)) (j:al):aX:=(owner.getD j (aa 0)).isNone
theorem pO {r:al} (e:it M h n=mU M .(ao)) {k:al} (hk:k<df M .(ao).1+1-.(ao).1):J M h (n+k)=.(ao).1+k:=by unfold J;rw[uz,e,tw M k _ (by show k<=df M .(ao).1-.(ao).1;omega)];rfl
theorem JP {r:al} (e:it M h n=mU M .(ao)):it M h (n+(df M .(ao).1+1-.(ao).1))=mU M (lp M h (r+1)):=by
 have hge:.(ao).1<=df M .(ao).1:=by unfold df;split<;>omega
 have e2:=tw M (df M .(ao).1-.(ao).1) (mU M .(ao)) (qw _);rw[show n+(df M .(ao).1+1-.(ao).1)=n+(df M .(ao).1-.(ao).1)+1 by omega,it,uz,e,e2];unfold adv;rw[qY (by show ¬((df M .(ao).1-.(ao).1)-(df M .(ao).1-.(ao).1) > 0);omega)];rfl
theorem BG {M:al} {h:ag} (owner:bR (ar al)) {rs:al} (hfr:eO owner (lp M h rs).1=ai):∀(fuel r n:al),it M h n=mU M .(ao)->r<=rs->rs<r+fuel->(∀m,m<n->eO owner (J M h m)=aq)->
  ∃n',eO owner (J M h n')=ai/\(∀m,m<n'->eO owner (J M h m)=aq)/\rU M owner fuel .(ao).1 .(ao).2=aa (J M h n')
 |0,r,n,_,h1,h2,_=>by omega
 |fuel+1,r,n,e,h1,h2,h3=>by
  unfold rU;cases hf:(cP (df M .(ao).1+1-.(ao).1)).find? (fun k=>(owner.getD (.(ao).1+k) (aa 0)).isNone) with
  |some k=>
   have hk:=eV.mp (vc hf);have hp:eO owner (.(ao).1+k)=ai:=by have:=zm hf;exact this
   refine⟨n+k,by rw[pO e hk];exact hp,fun m hm=>?_,?_⟩
   .rcases je m n with c|c
    .exact h3 m c
    .obtain⟨d,rfl⟩:∃d,m=n+d:=⟨m-n,by omega⟩;rw[pO e .(f)];obtain⟨as,bs,hab,hno⟩:=(List.find?_eq_some_iff_append.mp hf).2;have hd:d∈as:=by
      have hl:as=cP k:=by
       have hlen:as.length=k:=by
        have:(cP (df M .(ao).1+1-.(ao).1))[as.length]?=aa k:=by rw[hab];simp
        rw[List.getElem?_range] at this
        .exact qG this
        .have:=cK f8 hab;simp at this;omega
       have:=cK (vd k) hab;rw[List.take_range,Rm .(f),←hlen,List.take_left'] at this
       .rw[hlen] at this;exact this.symm
       .rfl
      rw[hl];exact eV.mpr .(f)
     have:=hno d hd;exact Fe.mpr (fun z=>by rw[show(owner.getD (.(ao).1+d) (aa 0)).isNone=ai from z] at this;cases this)
   .rw[pO e hk]
  |none=>
   have hn:∀k,k<df M .(ao).1+1-.(ao).1->eO owner (J M h (n+k))=aq:=fun k hk=>by rw[pO e hk];have:=ve.mp hf k (eV.mpr hk);exact Fe.mpr this
   have hge:.(ao).1<=df M .(ao).1:=by unfold df;split<;>omega
   have hr:r≠rs:=fun z=>by subst z;have:=hn 0 .(f);rw[pO e .(f),Nat.add_zero,hfr] at this;cases this
   exact BG owner hfr fuel (r+1) _ (JP e) .(f) .(f) fun m hm=>by
    rcases je m n with c|c
    .exact h3 m c
    .obtain⟨d,rfl⟩:∃d,m=n+d:=⟨m-n,by omega⟩;exact hn d .(f)
theorem Full.free (F:Full M) (h:ag) (owner:bR (ar al)) (hf:∃j,j<=M/\eO owner j=ai) :
  ∃n,eO owner (J M h n)=ai/\(∀m,m<n->eO owner (J M h m)=aq)/\rU M owner (nk M) (fM h%(M+1)) (fM h)=aa (J M h n):=by
 obtain⟨j,hj,hjf⟩:=hf;obtain⟨m,hm,e⟩:=F.reach (vF M h 13) hj;have hl:(lp M h (13+m)).1=j:=by rw[xA,e]
 exact BG owner (rs:=13+m) (by rw[hl];exact hjf) (nk M) 0 0 rfl (ix _) (by unfold nk;omega) fun m hm=>bN hm (E9 _)
structure Own (M:al) (hs:ac ag) (owner:bR (ar al)):Prop where
 sz:owner.size=M+1
 lt:∀(j k:al),owner[j]?=aa (aa k)->k<hs.length
 on:∀k,k<hs.length->∃j:al,owner[j]?=aa (aa k)
 inj:∀(j j' k:al),owner[j]?=aa (aa k)->owner[j']?=aa (aa k)->j=j'
 rc:∀(j k:al) h,owner[j]?=aa (aa k)->hs[k]?=aa h->∃n,J M h n=j/\∀m,m<n->eO owner (J M h m)=aq
theorem rf :eO owner j=ai↔owner[j]?=aa ab:=by
 unfold eO;rw[zi];cases e:owner[j]? with
 |none=>simp
 |some o=>cases o<;>simp
theorem Own.empty (M:al):Own M [] (Ro (M+1) ab):=by
 have no:∀(j k:al),(Ro (M+1) (ab:ar al))[j]?=aa (aa k)->False:=fun j k h=>by rw[Array.getElem?_replicate] at h;split at h<;>cases h
 exact⟨by simp,fun j k h=>(no j k h).elim,fun k h=>bN h (E9 _),fun j _ k h _=>(no j k h).elim,fun j k _ h _=>(no j k h).elim⟩
theorem Own.room (O:Own M hs owner) (hr:hs.length<=M):∃j,j<=M/\eO owner j=ai:=by
 by_cases hx:∃j,j<=M/\eO owner j=ai
 .exact hx
 .exfalso;have all:∀j,j<=M->∃k,owner[j]?=aa (aa k):=fun j hj=>by
   have h1:eO owner j≠ai:=fun z=>hx ⟨j,hj,z⟩;have h2:j<owner.size:=by rw[O.sz];omega
   cases q:owner[j] with
   |none=>exact bN (rf.mpr (by simp[h2,q])) h1
   |some k=>exact⟨k,by simp[h2,q]⟩
  have pig:=pB ((cP (M+1)).map fun j=>((owner[j]?).join).getD 0) (cP hs.length) ?_ ?_
  .rw[qg,qS,qS] at pig;omega
  .refine Ff.mpr (zo.mpr (Rp ?_ zk));intro a b ha hb hab e;obtain⟨k,hk⟩:=all a (by have:=eV.mp ha;omega);obtain⟨k',hk'⟩:=all b (by have:=eV.mp hb;omega);simp only[hk,hk',Rq,Fg] at e;subst e;exact hab (O.inj a b k hk hk')
  .intro x hx';obtain⟨j,hj,rfl⟩:=bw.mp hx';obtain⟨k,hk⟩:=all j (by have:=eV.mp hj;omega);simp only[hk,Rq,Fg];exact eV.mpr (O.lt j k hk)
theorem Own.more (O:Own M hs owner) (hf:eO owner (J M h n)=ai) (ho:∀m,m<n->eO owner (J M h m)=aq) :
  Own M (hs++[h]) (owner.setIfInBounds (J M h n) (aa hs.length)):=by
 have hlt:J M h n<owner.size:=by rw[O.sz];have:=yi M h n;omega
 have hold:=rf.mp hf;have get:∀j:al,(owner.setIfInBounds (J M h n) (aa hs.length))[j]?=if j=J M h n then aa (aa hs.length) else owner[j]?:=fun j=>by
  rw[Array.getElem?_setIfInBounds];by_cases e:J M h n=j
  .subst e;simp[hlt]
  .rw[qY e,qY (dF e)]
 have stay:∀{j k:al},owner[j]?=aa (aa k)->(owner.setIfInBounds (J M h n) (aa hs.length))[j]?=aa (aa k):=fun {j k} q=>by
  rw[get,qY]
  .exact q
  .intro e;rw[e,hold] at q;cases q
 have notfree:∀{j:al},eO owner j=aq->eO (owner.setIfInBounds (J M h n) (aa hs.length)) j=aq:=fun {j} q=>by
  refine Fe.mpr fun z=>?_;have z':=rf.mp z;rw[get] at z';split at z'
  .cases z'
  .rw[rf.mpr z'] at q;cases q
 refine⟨by simp[O.sz],fun j k q=>?_,fun k hk=>?_,fun j j' k q q'=>?_,fun j k h' q q'=>?_⟩
 .rw[get] at q;rw[qk,qU];split at q
  .cases q;omega
  .have:=O.lt j k q;omega
 .rw[qk,qU] at hk;by_cases e:k=hs.length
  .exact⟨J M h n,by rw[get,qX rfl,e]⟩
  .obtain⟨j,hj⟩:=O.on k .(f);exact⟨j,stay hj⟩
 .rw[get] at q q';split at q
  .rename_i c;cases q;split at q'
   .rename_i c';rw[c,c']
   .have:=O.lt j' _ q';omega
  .split at q'
   .cases q';have:=O.lt j _ q;omega
   .exact O.inj j j' k q q'
 .rw[get] at q;split at q
  .rename_i c;cases q;rw[qJ (qw _)] at q';simp at q';subst q';exact⟨n,c.symm,fun m hm=>notfree (ho m hm)⟩
  .have hk:=O.lt j k q;rw[qy hk] at q';obtain⟨n',e,r⟩:=O.rc j k h' q q';exact⟨n',e,fun m hm=>notfree (r m hm)⟩
theorem Full.lays (F:Full M) (hs:bR ag) (hr:hs.size<=M):∃owner,Rr M hs=aa owner/\Own M hs.toList owner:=by
 have all:∀(bY done:ac ag) (owner:bR (ar al)),Own M done owner->(done++bY).length<=M->∃owner',Own M (done++bY) owner' /\
   bY.foldl (fun(acc:ar (bR (ar al)×al)) h=>do
    let (owner,k) ←acc
    let j ←rU M owner (nk M) (fM h%(M+1)) (fM h)
    bB (owner.setIfInBounds j (aa k),k+1)) (aa (owner,done.length))=aa (owner',(done++bY).length):=by
  intro bY
  induction bY with
  |nil=>intro done owner O _;exact⟨owner,by rw[lT];exact O,by simp⟩
  |cons h r ih=>
   intro done owner O hl;obtain⟨n,h1,h2,h3⟩:=F.free h owner (O.room (by simp at hl;omega));have O':=O.more h1 h2;obtain⟨owner',O2,e⟩:=ih (done++[h]) _ O' (by simpa using hl);refine⟨owner',by simpa using O2,?_⟩;rw[jd];have e1:(do
    let (owner,k) ←aa (owner,done.length)
    let j ←rU M owner (nk M) (fM h%(M+1)) (fM h)
    bB (owner.setIfInBounds j (aa k),k+1):ar (bR (ar al)×al))=aa (owner.setIfInBounds (J M h n) (aa done.length),done.length+1):=by
    show(rU M owner (nk M) (fM h%(M+1)) (fM h) >>= fun j=>bB (owner.setIfInBounds j (aa done.length),done.length+1))=_;rw[h3];rfl
   rw[e1];rw[qk,qU] at e;rw[e];simp
 obtain⟨owner',O,e⟩:=all hs.toList [] _ (Own.empty M) (by simpa using hr);refine⟨owner',?_,by simpa using O⟩;unfold Rr;rw[←Array.foldl_toList];have e':=cK (rN (·.1)) e;exact e'
theorem El {α β:Type} (f:α->ar β):∀(l:ac α),(∀k∈l,∃y,f k=aa y)->∀i:al,(l.filterMap f)[i]?=(l[i]?).bind f
 |[],_,i=>by simp
 |k::r,h,i=>by
  obtain⟨y,hy⟩:=h k qh;rw[Rs hy];cases i with
  |zero=>simp[hy]
  |succ i=>simp only[qe];exact El f r (fun k hk=>h k (qi _ hk)) i
theorem Aa {α β:Type} (f:α->ar β):∀(l:ac α),(∀k∈l,∃y,f k=aa y)->(l.filterMap f).length=l.length
 |[],_=>rfl
 |k::r,h=>by obtain⟨y,hy⟩:=h k qh;rw[Rs hy,qj,qj,Aa f r fun k hk=>h k (qi _ hk)]
noncomputable def dI (M:al) (owner:bR (ar al)):ac (al×al):=(cP (M+1)).filterMap fun j=>(owner.getD j ab).map (j,·)
theorem iE (hsz:owner.size=M+1) {k:al} :(j,k)∈dI M owner↔owner[j]?=aa (aa k):=by
 unfold dI;rw[ro];constructor
 .rintro⟨j',hj',e⟩;rw[zi] at e;cases q:owner[j']? with
  |none=>rw[q] at e;cases e
  |some o=>
   rw[q] at e;cases o with
   |none=>cases e
   |some k'=>cases e;exact q
 .intro q;have hj:j<owner.size:=(gJ.mp q).1;exact⟨j,eV.mpr .(f),by rw[zi,q];rfl⟩
theorem AL (M:al) (owner:bR (ar al)):((dI M owner).map (·.1)).Pairwise (· < ·):=by unfold dI;rw[zo];refine Tn _ ?_ (List.pairwise_lt_range (n:=M+1));intro a a' haa b hb b' hb';obtain⟨k,_,rfl⟩:=oMd hb;obtain⟨k',_,rfl⟩:=oMd hb';exact haa
theorem Cg (O:Own M hs owner):((dI M owner).map (·.2)).Nodup:=by have h1:=zo.mp (AL M owner);refine Ff.mpr (zo.mpr (Rp ?_ h1));rintro⟨j,k⟩ ⟨j',k'⟩ ha hb hlt e;have e':k=k':=e;subst e';have:=O.inj j j' k ((iE O.sz).mp ha) ((iE O.sz).mp hb);have hlt':j<j':=hlt;omega
theorem Db (O:Own M hs owner):(dI M owner).length=hs.length:=by
 have h1:=pB ((dI M owner).map (·.2)) (cP hs.length) (Cg O) fun k hk=>by obtain⟨⟨j,k'⟩,hm,rfl⟩:=bw.mp hk;exact eV.mpr (O.lt j k' ((iE O.sz).mp hm))
 have h2:=pB (cP hs.length) ((dI M owner).map (·.2)) zk fun k hk=>by obtain⟨j,hj⟩:=O.on k (eV.mp hk);exact bw.mpr ⟨(j,k),(iE O.sz).mpr hj,rfl⟩
 rw[qg,qS] at h1 h2;omega
theorem Full.relaid {t:hW} {es:bR (ag×Value)} {wanted:al} (F:Full (kH wanted-1)) (few:es.size*5<(kH wanted-1)*3) :
  ∃t' order,t.relaid (es.map (·.1)) wanted=aa (t',order)/\(order.filterMap (es[·]?)).size=es.size/\Tb t' (order.filterMap (es[·]?))/\(∀e,e∈(order.filterMap (es[·]?)).toList↔e∈es.toList)/\t'.mask=kH wanted-1/\t'.led=t.led:=by
 generalize hM:kH wanted-1=M at F few;obtain⟨owner,hl,O⟩:=F.lays (es.map (·.1)) (by simp;omega);have hlen:(es.map (·.1)).toList.length=es.size:=by simp
 have llen:(dI M owner).length=es.size:=by rw[Db O,hlen]
 refine⟨{mask:=M,place:=((dI M owner).map (·.1)).toArray,dummies:=#[],finger:=t.finger,led:=t.led,moves:=t.movedTo M,plain:=t.plain},((dI M owner).map (·.2)).toArray,?_,?_⟩
 .unfold Rt;rw[hM];unfold Ru;rw[hl];rfl
 .have hall:∀k∈(dI M owner).map (·.2),∃y,es[k]?=aa y:=fun k hk=>by obtain⟨⟨j,k'⟩,hm,rfl⟩:=bw.mp hk;have:=O.lt j k' ((iE O.sz).mp hm);rw[hlen] at this;exact⟨es[k'],by simp[this]⟩
  have etl:(Rv (fun x=>es[x]?) ((dI M owner).map (·.2)).toArray).toList=((dI M owner).map (·.2)).filterMap (fun x=>es[x]?):=by simp
  have esz:(Rv (fun x=>es[x]?) ((dI M owner).map (·.2)).toArray).size=es.size:=by rw[←fJ,etl,Aa _ _ hall,qg,llen]
  refine⟨esz,⟨F,?_,rfl,?_,?_,?_,?_⟩,fun e=>?_,rfl,rfl⟩
  .rw[esz];simp[llen]
  .show((dI M owner).map (·.1)).toArray.toList.Pairwise (· < ·);exact AL M owner
  .intro j hj;have hj':j∈(dI M owner).map (·.1):=hj;obtain⟨⟨j',k⟩,hm,rfl⟩:=bw.mp hj';have:=(gJ.mp ((iE O.sz).mp hm)).1;rw[O.sz] at this;show j'<=M;omega
  .rw[esz];exact few
  .intro i j h x e1 e2;have e1':((dI M owner).map (·.1))[i]?=aa j:=by simpa using e1
   rw[←qH,etl,El _ _ hall,ql] at e2;rw[ql] at e1';obtain⟨⟨j',k⟩,hm,rfl⟩:=oMd e1';rw[hm] at e2;have e2':es[k]?=aa (h,x):=e2;have ho:=(iE O.sz).mp (qO hm);obtain⟨n,hn,q⟩:=O.rc j' k h ho (by simp[e2']);refine⟨n,hn,fun m hm'=>?_⟩;have hnf:=q m hm';have hle:=yi M h m;have hlt:J M h m<owner.size:=by rw[O.sz];omega
   cases c:owner[J M h m] with
   |none=>
    rw[rf.mpr (by simp[hlt,c])] at hnf;cases hnf
   |some k'=>
    show J M h m∈(dI M owner).map (·.1);exact bw.mpr ⟨(J M h m,k'),(iE O.sz).mpr (by simp[hlt,c]),rfl⟩
  .rw[etl,ro];constructor
   .rintro⟨k,_,hk⟩;rw[←qH] at hk;exact qO hk
   .intro he;obtain⟨k,hk⟩:=u7.mp he;rw[qH] at hk;have hlt:=(gJ.mp hk).1;obtain⟨j,hj⟩:=O.on k (by rw[hlen];exact hlt);exact⟨k,bw.mpr ⟨(j,k),(iE O.sz).mpr hj,rfl⟩,hk⟩
noncomputable def Mk (M:al):Prop:=M=7\/M=31\/M=127\/M=511
theorem Mk.full (h:Mk M):Full M:=by
 rcases h with h|h|h|h<;>subst h
 .exact xX
 .exact G7
 .exact NB
 .exact Jw
theorem Mk.grow (h:Mk M) (h1:n*5<M*3) (h2:¬(n+1)*5<M*3) (hn:n<=300):Mk (kH (rV (n+1))-1)/\(n+1)*5<(kH (rV (n+1))-1)*3/\kH (rV (n+1))<=512:=by
 rcases h with h|h|h|h<;>subst h
 .have:n=4:=by omega
  subst this;exact⟨.inr (.inl .(g)),by decide,by decide⟩
 .have:n=18:=by omega
  subst this;exact⟨.inr (.inr (.inl .(g))),by decide,by decide⟩
 .have:n=76:=by omega
  subst this;exact⟨.inr (.inr (.inr .(g))),by decide,by decide⟩
 .omega
section
variable {G:bR rn->bR rn->Prop} {P:al->Value->Prop} {St:al->aI->Prop}
noncomputable def AJ (prog:dy) (w:cS) (A:eB) (S:aw) (Ba:Heap->Prop) (P:al->Value->Prop) (n:al) (J:al->bd->Prop):Prop:=
 ∀(i:al) (v:Value) (s:aI) (o:bd) (Q:aX->aI->Prop) (E:Value->aI->Prop),i<n->P i v->s.heap.get? S=aa o->J i o->Ba s.heap->
  (∀b h' tk o',s.toks<=tk->iq S s.heap h'->h'.get? S=aa o'->J (i+1) o'->Q b {s with heap:=h',toks:=tk})->aM .(Q) A (oU S v) Q E s
theorem Ke (W:WalksS prog w A.in1 I fp wr G n P St) (S:aw) (hSf:S∉fp) (Ba:Heap->Prop) (hBa:∀h h',Ba h->(∀b o,b∉S::wr->h.get? b=aa o->h'.get? b=aa o)->Ba h') (J:al->bd->Prop) (hadd:AJ prog w A.in1 S Ba P n J) :
  ∀(k i:al) (s:aI) (o:bd),n-i=k->i<=n->St i s->s.heap.get? S=aa o->J i o->Ba s.heap->
   (∀s' o',Moved (S::wr) G s s'->s'.heap.get? S=aa o'->J n o'->R (.ok (.ret .none)) s')->
   iu .(Q) A (.builtin "set.update.loop" ⟨[.ref S,.ref I],[]⟩) R s:=by
 have hSw:S∉wr:=fun h=>hSf (W.sub _ h);have hsub:∀b∈wr,b∈S::wr:=fun b hb=>qi _ hb;intro k
 induction k with
 |zero=>
  intro i s o hk hi hst hS hJ hB hR;have hin:i=n:=by omega
  subst hin;refine rW Rw ?_;rw[vf Fh _];show aM _ A.in1 (jO (.ref I) >>= _) _ _ s;refine qx (W.done s _ _ hst fun s' hm=>?_);show aM _ A.in1 (ret oE) _ _ s';exact qz (hR s' o (hm.mono hsub) (hm.heap S _ hSw hS) hJ)
 |succ k ih=>
  intro i s o hk hi hst hS hJ hB hR;have hlt:i<n:=by omega
  refine rW Rw ?_;rw[vf Fh _];show aM _ A.in1 (jO (.ref I) >>= _) _ _ s;refine qx (W.item i s _ _ hlt hst fun v s' hP hst' hm=>?_);show aM _ A.in1 (jM [v] (oU S v) >>= _) _ _ s';refine qx (iz ?_);refine hadd i v s' o _ _ hlt hP (hm.heap S _ hSw hS) hJ (hBa _ _ hB fun b o hb e=>hm.heap b o (fun z=>hb (hsub b z)) e) fun b h' tk o' htk hsb hS' hJ'=>?_;refine qz ⟨zp Fh _,ih (i+1) _ o' .(f) hlt (W.frame _ s' _ _ hst' htk fun b hb o e=>?_) hS' hJ' ?_ fun s'' o'' hm'' hS'' hJ''=>?_⟩
  .rw[hsb.2 b (fun h:b=S=>hSf (by rw[←h];exact hb))];exact e
  .refine hBa _ _ (hBa _ _ hB fun b o hb e=>hm.heap b o (fun z=>hb (hsub b z)) e) fun b o hb e=>?_;show h'.get? b=aa o;rw[hsb.2 b (fun h:b=S=>hb (by rw[h];exact qh))];exact e
  .refine hR s'' o'' (Rx W.gtrans ((hm.mono hsub).then_heap htk fun b o hb e=>?_) hm'') hS'' hJ'';rw[hsb.2 b (fun h:b=S=>hb (by rw[h];exact qh))];exact e
end
section
variable {E:Value->aI->Prop}
theorem Ma (a:Value) {Q₁:Value->aI->Prop} 
  (h:Q₁ (.ref s.heap.objs.size) {s with heap:=s.heap.push {cls:=.type "set",dict:=ab,data:=.set #[] 0 (.fresh 0 0 (!w.params.followText "set-order"))} }) :
  iu .(Q) A (.call (.builtin "set.__new__") ⟨[.type "set",a],[]⟩) (wants Q₁ E) s:=by
 refine Ry ?_;show aM _ A.in1 (do checkBuiltinCall "set.__new__" ⟨[.type "set",a],[]⟩;again (.builtin "set.__new__" ⟨[.type "set",a],[]⟩)) _ _ s;refine qx (vg (F.newCall_set_1 a) (qz ⟨zp Rz _,rW F.entry_set_new ?_⟩));rw[vf Rz _];unfold Builtin.«set.__new__» To;have hsub:=sub_set_self;obtain⟨hp,g,d,tk,os⟩:=s;dsimp only
 wp_walk
 refine vh (qz ?_);dsimp only;simp only[newObj];exact qx (wpAny_alloc (qz (qz h)))
set_option maxRecDepth 100000 in
set_option maxHeartbeats 3200000 in
theorem xh {l:aw} (hh:A.handled=ab) (hl:s.heap.IsList l items) (J:al->bd->Prop)
  (hJ0:J 0 {cls:=.type "set",dict:=ab,data:=.set #[] 0 (.fresh 0 0 (!w.params.followText "set-order"))})
  (hadd:∀A':eB,A'.units<=A.units+16->AJ prog w A' s.heap.objs.size (fun h=>∀b o,b<s.heap.objs.size->s.heap.get? b=aa o->h.get? b=aa o) (fun i v=>items[i]?=aa v) items.size J)
  (h:∀(h':Heap) (tk:al) (o:bd),h'.get? s.heap.objs.size=aa o->J items.size o->
   (∀b o,b<s.heap.objs.size->s.heap.get? b=aa o->h'.get? b=aa o)->Q (.ref s.heap.objs.size) {s with heap:=h',toks:=tk}) :
  aM .(Q) A (call (.type "set") [.ref l]) Q E s:=by
 obtain⟨c,tl,hmro⟩:=nq.mro;have hmade:=nq.made;have hsub:=nq.sub;refine yJ (Ry ?_);show aM _ _ (callAny (.type "set") _) _ _ _;refine qz ⟨Code.quiet_builtin _ .(s),rW F.entry_type_call ?_⟩;rw[Around.under_plain (weight_type_call_type "set" [.ref l] []) rfl];have h1:=nq.notType;have h2:=nq.canCreate;have hct:=F.typeCall_set_1 (.ref l)
 repeat (any_goals (first|assumption|wp_step))
 refine rB (Ma (.ref l) (E:=E) (Q₁:=fun obj s₁=>∃led:aX,led=(!w.params.followText "set-order")/\obj=.ref s.heap.objs.size/\s₁={s with heap:=s.heap.push {cls:=.type "set",dict:=ab,data:=.set #[] 0 (.fresh 0 0 led)} }) ⟨_,rfl,rfl,rfl⟩) fun r s₁ hr=>?_;cases r with
 |error e=>exact hr
 |ok fl=>
  cases fl with
  |ret obj=>
   obtain⟨led,hled,rfl,rfl⟩:=hr;rw[←hled] at hJ0;have hS:.(B).get? s.heap.objs.size=aa {cls:=.type "set",dict:=ab,data:=.set #[] 0 (.fresh 0 0 led)}:=qF _ rfl;have hT:zq {s with heap:=s.heap.push {cls:=.type "set",dict:=ab,data:=.set #[] 0 (.fresh 0 0 led)} } (.ref s.heap.objs.size) "set":=⟨_,hS,rfl⟩;have hli:=nq.init.lookup;have hbi:=nq.init.bind (.ref s.heap.objs.size)
   repeat (any_goals (first|assumption|wp_step))
   refine rB (RA (R:=wants (fun r s₂=>r=.none/\∃h' tk o,s₂={s with heap:=h',toks:=tk}/\h'.get? s.heap.objs.size=aa o/\J items.size o /\
     (∀b o,b<s.heap.objs.size->s.heap.get? b=aa o->h'.get? b=aa o)) E) nq.init.plain F.entry_set_init (check_set_init_1 hT ?_)) fun r₂ s₂ hr₂=>?_
   .obtain⟨ol,hol,hcl,nl,hdl⟩:=hl;obtain⟨ocls,odict,odata,oslots⟩:=ol;simp only at hcl hdl;subst hcl;subst hdl;have hol':.(B).get? l=aa {cls:=.type "list",dict:=odict,data:=.seq items nl,slots:=oslots}:=qu _ hol;have hsls:=F.sub_list_set;have hslf:=F.sub_list_frozenset;have hne:(lM "list"==lM "dict")=aq:=by decide
    have hl1:.(B).IsList l items:=⟨_,hol',rfl,nl,rfl⟩;unfold Builtin.«set.__init__» noKeywords Tp;generalize hPI:oG=PI
    wp_walk
    subst hPI;refine rR hl1 ?_;refine qx (wpAny_runValue ?_);have hlS:l<s.heap.objs.size:=qv hol;have hh3:A.in1.in1.in1.handled=ab:=by simp[hh]
    have hneI:l≠.(B).objs.size:=by rw[mZ];exact qB (vk hlS)
    have hSf:s.heap.objs.size∉[.(B).objs.size,l]:=by rw[mZ];simp only[qK,bX,qI,or_false,rY];exact⟨qB (uS _),yB hlS⟩
    have hget:(.(B).push {cls:=.type "list_iterator",data:=.fields #[.ref l,.int 0 0]}).get? s.heap.objs.size
       = aa {cls:=.type "set",dict:=ab,data:=.set #[] 0 (.fresh 0 0 led)}:=qu _ hS
    refine Ke ((u5 hh3 _ l hneI items).toS) s.heap.objs.size
     hSf (fun h=>∀b o,b<s.heap.objs.size->s.heap.get? b=aa o->h.get? b=aa o) (fun h h' hB hk b o hb e=>hk b o ?_ (hB b o hb e)) J (hadd _ (by show A.units+3<=_;omega)) (items.size-0) 0 _ _ .(f) (ix _)
     ⟨⟨_,qF _ rfl,rfl,rfl⟩,(hl1.push _)⟩ hget hJ0 (fun b o hb e=>qu _ (qu _ e)) ?hR
    .have hb1:b≠s.heap.objs.size:=qB hb;have hb2:b≠.(B).objs.size:=by rw[mZ];exact qB (vk hb)
     simp only[qK,bX,qI,or_false,rY];exact⟨hb1,hb2⟩
    case hR=>
     intro s' o' hm hS' hJ';obtain⟨h',g',d',tk',os'⟩:=s';have eg:g'=s.gens:=hm.gens;have ed:d'=s.drawn:=hm.drawn;have eo:os'=s.os:=hm.os;subst eg;subst ed;subst eo;show aM _ _ _ _ _ _;refine qz ?_;show aM _ _ (ret oE) _ _ _;refine qz ⟨rfl,h',tk',o',rfl,hS',hJ',fun b o hb e=>?_⟩;have hb1:b≠s.heap.objs.size:=qB hb;have hb2:b≠.(B).objs.size:=by rw[mZ];exact qB (vk hb)
     exact hm.heap b o (by simp only[qK,bX,qI,or_false,rY];exact⟨hb1,hb2⟩) (qu _ (qu _ e))
   .cases r₂ with
    |error e=>exact hr₂
    |ok fl₂ =>
     cases fl₂ with
     |ret r=>
      obtain⟨rfl,h',tk,o',rfl,hS',hJ',hk'⟩:=hr₂
      repeat (any_goals (first|assumption|wp_step))
      exact h _ _ _ hS' hJ' hk'
     |_=>exact hr₂.elim
  |_=>exact hr.elim
end
noncomputable def dd [er κ] (l:ac κ):ac κ:=l.foldl (fun a k=>if k∈a then a else a++[k]) []
theorem pH [er κ] (l:ac κ) (k:κ):dd (l++[k])=if k∈dd l then dd l else dd l++[k]:=by unfold dd;rw[zr];rfl
theorem mH [er κ] (l:ac κ):(dd l).length<=l.length:=by
 have key:∀(l a:ac κ),(l.foldl (fun a k=>if k∈a then a else a++[k]) a).length<=a.length+l.length:=by
  intro l
  induction l with
  |nil=>intro a;exact qw _
  |cons k r ih=>
   intro a;rw[jd];refine qL (ih _) ?_;split
   .simp only[qj];omega
   .simp only[qk,qj,qm];omega
 have:=key l [];simpa[dd] using this
section
variable [er κ] {knd:KeyKind prog w κ} {E:Value->aI->Prop}
theorem Kk {ks:ac κ} {Q:aX->aI->Prop} (hk:IsTupleKey knd s.heap ks a) (hsc:∀v k,knd.is k v=ai->v.scannable=ai) (h:∀b,Q b s):aM .(Q) A (hashByValue 8 (.ref a)) Q E s:=by
 have hT:=hk.typeIs;obtain⟨o,items,n,ho,_,hd,hi⟩:=hk;unfold hashByValue;refine qx (ES hT F.slot_tuple_hash.lookup ?_);refine qx (Fi ho hd ?_);refine qx ?_;show aM _ _ (uZ items _ _) _ _ s;rw[←RB];have hall:∀v∈items.toList,v.scannable=ai:=by
  have:∀{x:ac κ} {vs:ac Value},ItemsAre knd x vs->∀v∈vs,v.scannable=ai:=by
   intro x vs q
   induction q with
   |nil=>intro v hv;cases hv
   |cons h1 _ ih=>
    intro v hv;rcases cM.mp hv with rfl|hv
    .exact hsc _ _ h1
    .exact ih v hv
  exact this hi
 refine Fj _ (fun bY r s'=>s'=s/\∀v∈bY,v.scannable=ai) _ ?_ ?_ _ _ ⟨rfl,hall⟩
 .rintro v bY r s' ⟨rfl,hv⟩;rw[RC _ (hv v qh)];refine qx (qz ?_);cases hp:plainKind v with
  |true=>
   simp only[iA,qr,c4];exact qz ⟨rfl,fun u hu'=>hv u (qi _ hu')⟩
  |false=>
   simp only[lY,cA]
   first|exact qz (qz (h _))|exact qz (h _)|exact qx (qz (qz (qz (h _))))
 .rintro⟨r1,r2⟩ s' ⟨rfl,_⟩
  first|exact qz (h _)|(cases r1<;>exact qz (h _))
theorem DM {ks:ac κ} {Q:aX->aI->Prop} (hk:IsTupleKey knd s.heap ks a) (h:Q aq s):aM .(Q) A (Fk 8 (.ref a)) Q E s:=by
 have hT:=hk.typeIs;obtain⟨o,items,n,ho,_,hd,hi⟩:=hk;unfold Fk;refine qx (rE hT ?_);dsimp only;rw[qX .(g)];refine qx (qz ?_);simp only[iA,qr,c4];refine qx (Fi ho hd ?_);refine qx ?_;show aM _ _ (uZ items _ _) _ _ s;rw[←RB];refine Fj _ (fun bY r s'=>r.1=ab/\s'=s/\∀v∈bY,RD v=ai) _ ?_ ?_ _ _ ⟨rfl,rfl,hi.byValue⟩
 .rintro v bY r s' ⟨hr,rfl,hv⟩;have e:Fk 7 v=bB aq:=by
   have:=hv v qh;cases v with
   |ref b=>simp[RD] at this
   |_=>rfl
  rw[e];refine qx (qz ?_);simp only[qr,c4];exact qz ⟨rfl,rfl,fun u hu'=>hv u (qi _ hu')⟩
 .rintro⟨r1,r2⟩ s' ⟨hr,rfl,_⟩;simp only at hr;subst hr;exact qz h
theorem PL {ks:ac κ} {Q:aX->aI->Prop} (hk:IsTupleKey knd s.heap ks a) (st:ac Value) (hst:∀y∈st,∃k b,y=.ref b/\IsTupleKey knd s.heap k b) (h:Q aq s):aM .(Q) A (RE (.ref a) st) Q E s:=by
 unfold RE;refine qx ?_;refine Fj _ (fun bY r s'=>r.1=ab/\s'=s/\∀y∈bY,∃k b,y=.ref b/\IsTupleKey knd s.heap k b) _ ?_ ?_ _ _ ⟨rfl,rfl,hst⟩
 .rintro v bY r s' ⟨hr,rfl,hv⟩;obtain⟨k,b,rfl,hb⟩:=hv v qh;dsimp only;split
  .exact qz ⟨rfl,rfl,fun u hu'=>hv u (qi _ hu')⟩
  .refine qx (RF hk ?_);simp only[iA,qr,c4];refine qx (RF hb ?_);simp only[iA,qr,c4];refine qx (DM hk ?_);simp only[qr,c4];refine qx (DM hb ?_);simp only[qr,c4];exact qz ⟨rfl,rfl,fun u hu'=>hv u (qi _ hu')⟩
 .rintro⟨r1,r2⟩ s' ⟨hr,rfl,_⟩;simp only at hr;subst hr;exact qz h
end
theorem vM {t:hW} {es:bR (ag×Value)} (T:Tb t es) {p:zl} {r:ar SetTable.Met} (hp:t.probe hashAt h p=r) (hpp:p=gz (it t.mask h n)) (hn:n<=n0) (hn0:n0<10*(t.mask+15))
  (hf:J t.mask h n0∉t.place.toList) (ho:∀m,m<n0->J t.mask h m∈t.place.toList) :
  (∃n' i,n<=n'/\n'<n0/\t.place[i]?=aa (J t.mask h n')/\hashAt i=h/\(∀m i,n<=m->m<n'->t.place[i]?=aa (J t.mask h m)->hashAt i≠h)/\r=aa (.candidate (J t.mask h n') i (gz (it t.mask h (n'+1))))) \/
  ((∀m i,n<=m->m<n0->t.place[i]?=aa (J t.mask h m)->hashAt i≠h)/\r=aa (.empty (J t.mask h n0) ab)):=by
 subst hpp;subst hp;unfold SetTable.probe;exact T.probe_go hashAt h hf ho (10*nk t.mask) n hn (by unfold nk;omega)
theorem NK {t:hW} {es:bR (ag×Value)} (T:Tb t es) {p:zl} (hp:∀met,t.probe hashAt h p=aa met->False) (hpp:p=gz (it t.mask h n)) (hn:n<=n0) (hn0:n0<10*(t.mask+15))
  (hf:J t.mask h n0∉t.place.toList) (ho:∀m,m<n0->J t.mask h m∈t.place.toList):False:=by
 rcases vM T (r:=t.probe hashAt h p) rfl hpp hn hn0 hf ho with⟨n',i,_,_,_,_,_,g6⟩|⟨_,g2⟩
 .exact hp _ g6
 .exact hp _ g2
section
variable [er κ] {knd:KeyKind prog w κ} {E:Value->aI->Prop}
noncomputable def pi (knd:KeyKind prog w κ) (h:Heap) (es:bR (ag×Value)):Prop:=∀(i:al) e,es[i]?=aa e->∃k b,e=(bP knd k,.ref b)/\IsTupleKey knd h k b
theorem Mk.odd (h:Mk M):(M%2==0)=aq:=by rcases h with rfl|rfl|rfl|rfl<;>rfl
theorem Pb {o:bd} {es:bR (ag×Value)} {t:hW} {k:ac κ} {Q:SetFound->aI->Prop} (hu:A.units<cg) (ho:s.heap.get? S=aa o) (hd:o.data=.set es ep t) (T:Tb t es) (hM:Mk t.mask)
  (hk:IsTupleKey knd s.heap k a) (he:pi knd s.heap es) (hf:J t.mask (bP knd k) n0∉t.place.toList) (hocc:∀m,m<n0->J t.mask (bP knd k) m∈t.place.toList) (hn0:n0<10*(t.mask+15))
  (hyes:∀(i:al) (b:aw),es[i]?=aa (bP knd k,.ref b)->IsTupleKey knd s.heap k b->Q (.there ab) s)
  (hno:(∀(i:al) (b:aw),es[i]?=aa (bP knd k,.ref b)->¬IsTupleKey knd s.heap k b)->Q (.free .(y) aq) s) :
  ∀(fuel n:al) (stand:ar zl),n0-n<fuel->n<=n0->(stand.getD (t.probeStart (bP knd k))=gz (it t.mask (bP knd k) n))->
   (∀(m i:al) (b:aw),m<n->t.place[i]?=aa (J t.mask (bP knd k) m)->es[i]?=aa (bP knd k,.ref b)->¬IsTupleKey knd s.heap k b)->
   aM .(Q) A (zt S (.ref a) (bP knd k) ai fuel stand) Q E s:=by
 intro fuel
 induction fuel with
 |zero=>intro n stand h1;omega
 |succ fuel ih=>
  intro n stand h1 h2 hs hw;unfold zt;refine qx (kI ho hd T.fits ?_);dsimp only;have hg:t.gaveWay=aq:=hM.odd;rw[hg];simp only[qr,c4];split
  .rename_i met hp;rcases vM T hp hs h2 hn0 hf hocc with⟨n',i,g1,g2,g3,g4,g5,g6⟩|⟨g1,g2⟩
   .cases g6;have hi:i<es.size:=by have:=(gJ.mp g3).1;rw[T.sz] at this;exact this
    have hei:es[i]?=aa es[i]:=by simp[hi]
    obtain⟨k',b,e1,hb⟩:=he i _ hei;rw[e1] at hei;have hh:bP knd k'=bP knd k:=by have g4':((es[i]?).map (·.1)).getD 0=bP knd k:=g4;rw[hei] at g4';exact g4'
    rw[hh] at hei;have bY:aM .(Q) A (do
      let aa (_,y):=es[i]? | unsupported "internal:set-entry"
      let equal ←jM [y] (eqBool y (.ref a))
      let (es',_,t') ←setState S
      if ai && equal then return .there ab
      let aa same:=t'.sameMemory t.moves t.mask|unsupported "set.changed-during-lookup:is-the-new-block-at-the-old-address"
      let still ←match (if same then t'.slot (J t.mask (bP knd k) n') else .empty) with
       |.live i'=>match es'[i']? with
        |some (_,y')=>do bB (if ←isSame y' y then aa i' else ab)
        |none=>bB ab
       |_=>bB ab
      match still with
      |none=>rule "set.search.anew";zt S (.ref a) (bP knd k) ai fuel ab
      |some i'=>if equal then return .there (aa i') else zt S (.ref a) (bP knd k) ai fuel (aa (gz (it t.mask (bP knd k) (n'+1))))) Q E s:=by
     rw[hei];dsimp only;refine qx (iz (wpAny_eqBool_tuple hu hb hk ?_));refine qx (kI ho hd T.fits ?_);dsimp only;by_cases hkk:k'=k
     .subst hkk;rw[qR rfl];simp only[vm,cA];exact qz (hyes i b hei hb)
     .rw[qM hkk];simp only[vm,qr,c4];have hsm:t.sameMemory t.moves t.mask=aa ai:=by unfold SetTable.sameMemory;simp
      rw[hsm];dsimp only;simp only[cA];rw[T.live g3];dsimp only;rw[hei];dsimp only;refine qx (wpAny_isSame_ref_self ?_);simp only[cA];refine qx (qz ?_);dsimp only;refine ih (n'+1) _ .(f) .(f) rfl ?_;intro m i2 b2 hm hp2 he2;by_cases h3:m<n
      .exact hw m i2 b2 h3 hp2 he2
      .by_cases h4:m=n'
       .subst h4;have ei:i2=i:=by have q1:=T.live hp2;have q2:=T.live g3;rw[q1] at q2;injection q2
        subst ei;rw[hei] at he2;cases he2;exact fun z=>hkk (hb.inj z)
       .exfalso;refine g5 m i2 .(f) .(f) hp2 ?_;show((es[i2]?).map (·.1)).getD 0=_;rw[he2];rfl
    cases hled:t.led with
    |true=>
     simp only[iA,qr,c4];exact bY
    |false=>
     simp only[lY,cA];refine qx (PL hk _ (fun y hy=>?_) ?_)
     .obtain⟨e,he1,rfl⟩:=bw.mp hy;have he2:e∈es.toList:=by have:=Ey.mp he1;rw[Array.mem_filter] at this;exact Ey.mpr this.1
      obtain⟨j,hj,ej⟩:=zb.mp he2;obtain⟨k2,b2,q1,q2⟩:=he j e (by rw[←qH,qC hj,ej]);exact⟨k2,b2,by rw[q1],q2⟩
     .simp only[qr,c4];exact bY
   .cases g2;dsimp only;refine qz (hno fun i b hei hb=>?_);have hi:i<es.size:=(gJ.mp hei).1;have hpi:t.place[i]?=aa t.place[i]! := by
     have:i<t.place.size:=by rw[T.sz];exact hi
     simp[this]
    obtain⟨m,q1,q2⟩:=T.rc i _ _ _ hpi hei;have hmem:J t.mask (bP knd k) m∈t.place.toList:=by rw[q1];rw[←qH] at hpi;exact qO hpi
    have hm:m<n0:=by
     rcases Ri m n0 with z|z|z
     .exact z
     .subst z;exact bN hmem hf
     .exact bN (q2 n0 z) hf
    by_cases h3:m<n
    .exact hw m i b h3 (by rw[q1];exact hpi) hei hb
    .refine g1 m i .(f) hm (by rw[q1];exact hpi) ?_;show((es[i]?).map (·.1)).getD 0=_;rw[hei];rfl
  .rename_i hp;exact(NK T hp hs h2 hn0 hf hocc).elim
structure TS (knd:KeyKind prog w κ) (h:Heap) (ks:ac (ac κ)) (o:bd):Prop where
 cls:o.ExactSet
 ex:∃es ep t,o.data=.set es ep t/\Tb t es/\Mk t.mask/\pi knd h es/\es.size=(dd ks).length/\(∀k∈dd ks,∃(i:al) (b:aw),es[i]?=aa (bP knd k,.ref b)/\IsTupleKey knd h k b)/\∀(i:al) (k:ac κ) (b:aw),es[i]?=aa (bP knd k,.ref b)->IsTupleKey knd h k b->k∈dd ks
theorem IsTupleKey.mono {h:Heap} {k:ac κ} (x:IsTupleKey knd h k a) (q:∀o,h.get? a=aa o->h'.get? a=aa o):IsTupleKey knd h' k a:=by obtain⟨o,items,n,h1,h2⟩:=x;exact⟨o,items,n,q o h1,h2⟩
theorem l9 {es:bR (ag×Value)} {e:ag×Value} :e∈es.toList↔∃i:al,es[i]?=aa e:=by
 constructor
 .intro h;obtain⟨i,hi,q⟩:=zb.mp h;exact⟨i,by rw[←qH,qC hi,q]⟩
 .rintro⟨i,h⟩;rw[←qH] at h;exact qO h
theorem Pe {ks:ac (ac κ)} {k:ac κ} {es:bR (ag×Value)} (hk:IsTupleKey knd h0 k a) (hE:pi knd h0 es) (hsz:es.size=(dd ks).length) (hin:∀k∈dd ks,∃(i:al) (b:aw),es[i]?=aa (bP knd k,.ref b)/\IsTupleKey knd h0 k b)
  (hout:∀(i:al) (k:ac κ) (b:aw),es[i]?=aa (bP knd k,.ref b)->IsTupleKey knd h0 k b->k∈dd ks) (hnew:k∉dd ks) (mem:∀e,e∈es'.toList↔e=(bP knd k,.ref a)\/e∈es.toList) (size:es'.size=es.size+1) :
  pi knd h0 es'/\es'.size=(dd (ks++[k])).length/\(∀k'∈dd (ks++[k]),∃(i:al) (b:aw),es'[i]?=aa (bP knd k',.ref b)/\IsTupleKey knd h0 k' b)/\∀(i:al) (k':ac κ) (b:aw),es'[i]?=aa (bP knd k',.ref b)->IsTupleKey knd h0 k' b->k'∈dd (ks++[k]):=by
 rw[pH,qY hnew];refine⟨fun i e he=>?_,by rw[size,hsz,qk,qU],fun k' hk'=>?_,fun i k' b he hb=>?_⟩
 .rcases(mem e).mp (l9.mpr ⟨i,he⟩) with rfl|q
  .exact⟨k,a,rfl,hk⟩
  .obtain⟨j,q⟩:=l9.mp q;exact hE j e q
 .rcases dn.mp hk' with q|q
  .obtain⟨i,b,q1,q2⟩:=hin k' q;obtain⟨j,q3⟩:=l9.mp ((mem _).mpr (.inr (l9.mpr ⟨i,q1⟩)));exact⟨j,b,q3,q2⟩
  .rw[bX.mp q];obtain⟨j,q3⟩:=l9.mp ((mem _).mpr (.inl rfl));exact⟨j,a,q3,hk⟩
 .rcases(mem _).mp (l9.mpr ⟨i,he⟩) with q|q
  .have e:b=a:=by have:=(RG q).2;injection this
   subst e;exact dn.mpr (.inr (bX.mpr (hb.inj hk)))
  .obtain⟨j,q⟩:=l9.mp q;exact dn.mpr (.inl (hout j k' b q hb))
theorem uu {h:Heap} {o:bd} {es:bR (ag×Value)} {t t':hW} (ho:h.get? S=aa o) (hd:o.data=.set es ep t):(h.update S (zu es' t')).get? S=aa {o with data:=.set es' (ep+1) t'}:=by
 have q:=Fm (zu es' t') ho (by rw[putSet_of es' t' hd];rfl)
 rwa [putSet_of es' t' hd] at q
set_option maxHeartbeats 1000000 in
theorem MJ {o:bd} {ks:ac (ac κ)} {k:ac κ} {Q:aX->aI->Prop} (hsc:∀v k,knd.is k v=ai->v.scannable=ai) (hu:A.units<cg) (ho:s.heap.get? S=aa o) (T:TS knd h0 ks o) (hk:IsTupleKey knd h0 k a)
  (hB:∀b o,h0.get? b=aa o->s.heap.get? b=aa o) (hlen:ks.length<=300)
  (h:∀b h' tk o',s.toks<=tk->iq S s.heap h'->h'.get? S=aa o'->TS knd h0 (ks++[k]) o'->Q b {s with heap:=h',toks:=tk}):aM .(Q) A (oU S (.ref a)) Q E s:=by
 obtain⟨hc,es,ep,t,hd,TB,hM,hE,hsz,hin,hout⟩:=T;have up:∀{k:ac κ} {b:aw},IsTupleKey knd h0 k b->IsTupleKey knd s.heap k b:=fun q=>IsTupleKey.mono q fun o e=>hB _ _ e;have down:∀{k k':ac κ} {b:aw},IsTupleKey knd h0 k' b->IsTupleKey knd s.heap k b->k=k':=fun q1 q2=>q2.inj (up q1);have hE':pi knd s.heap es:=fun i e he=>by obtain⟨k,b,q1,q2⟩:=hE i e he;exact⟨k,b,q1,up q2⟩
 have hddl:=mH ks;obtain⟨n0,f1,f2,f3⟩:=TB.first (bP knd k);unfold oU;refine iz (qx (wpAny_pyHash_tuple hu (up hk) ?_));unfold setAddHashed RH;refine iz (qx (kI (s:={s with toks:=s.toks+(k.length+1)}) ho hd TB.fits ?_));dsimp only;rw[show byScan (.ref a) es=aq from rfl];simp only[qr,c4];unfold setSearch;refine qx (Pb (s:={s with toks:=s.toks+(k.length+1)}) hu ho hd TB hM (up hk) hE' f2 f3 f1 (fun i b hei hb=>?_) (fun hall=>?_) 100000 0 ab ?_ (ix _) rfl (fun m i b hm=>by omega))
 ·
  dsimp only;obtain⟨k',b',q1,q2⟩:=hE i _ hei;have:b'=b:=by have:=(RG q1).2;injection this with e;exact e.symm
  subst this;have ek:=down q2 hb;subst ek;have hmem:=hout i k _ hei q2;refine qz (h aq s.heap _ o (by show s.toks<=s.toks+(k.length+1);omega) (EY S s.heap) ho ⟨hc,es,ep,t,hd,TB,hM,hE,?_⟩);rw[pH,qX hmem];exact⟨hsz,hin,hout⟩
 ·
  dsimp only;have hnew:k∉dd ks:=fun hm=>by obtain⟨i,b,q1,q2⟩:=hin k hm;exact hall i b q1 (up q2)
  have hpl:b6 t.place .(y)<=es.size:=by have:=(n9 t.place .(y) TB.ri).1;rw[TB.sz] at this;exact this
  have hmaskle:t.mask<=511:=by rcases hM with e|e|e|e<;>omega
  have hmem:∀e,e∈(ci es (b6 t.place .(y)) (bP knd k,cc a)).toList↔e=(bP knd k,cc a)\/e∈es.toList:=fun e=>by rw[lx _ _ _ hpl];exact wU _ _ _ _
  have hsize:(ci es (b6 t.place .(y)) (bP knd k,cc a)).size=es.size+1:=by have:=cK f8 (lx es _ (bP knd k,cc a) hpl);simp only[fJ,qk,qj,qD,ja] at this;omega
  have hpsz:(ci t.place (b6 t.place .(y)) .(y)).size=es.size+1:=by have:=cK f8 (lx t.place _ .(y) (by rw[TB.sz];exact hpl));have h3:=TB.sz;simp only[fJ,qk,qj,qD,ja] at this;omega
  refine qx (kI (s:={s with toks:=s.toks+(k.length+1)}) ho hd TB.fits ?_);dsimp only;have fin:∀(es':bR (ag×Value)) (t':hW) (h':Heap) (o':bd),Tb t' es'->Mk t'.mask->(∀e,e∈es'.toList↔e=(bP knd k,cc a)\/e∈es.toList)->es'.size=es.size+1->iq S s.heap h'->h'.get? S=aa o'->o'.ExactSet->(∃ep',o'.data=.set es' ep' t')->Q ai {s with heap:=h',toks:=s.toks+(k.length+1)}:=fun es' t' h' o' q1 q2 q3 q4 q5 q6 q7 q8=>by obtain⟨ep',q8⟩:=q8;obtain⟨w1,w2,w3,w4⟩:=Pe hk hE hsz hin hout hnew q3 q4;exact h ai h' _ o' .(f) q5 q6 ⟨q7,es',ep',t',q8,q1,q2,w1,w2,w3,w4⟩
  have bY:∀pl:aX,aM .(Q) A (do
    storeSet S (ci es (t.put .(y)).2 (bP knd k,cc a)) { (t.put .(y)).1 with plain:=pl}
    if (!aq && lZ { (t.put .(y)).1 with plain:=pl})=ai then do
     setRelay S (rV (es.size+1))
     bB ai
    else bB ai) Q E {s with toks:=s.toks+(k.length+1)}:=fun pl=>by
   refine qx (zv (s:={s with toks:=s.toks+(k.length+1)}) ho hd ?_ (by show(ci es (b6 t.place .(y)) (bP knd k,cc a)).size<=aV;rw[hsize,eX];omega));have hg1:=uu (es':=ci es (t.put .(y)).2 (bP knd k,cc a)) (t':={ (t.put .(y)).1 with plain:=pl}) ho hd;have hsb1:=oV s.heap S (zu (ci es (t.put .(y)).2 (bP knd k,cc a)) { (t.put .(y)).1 with plain:=pl});have hdum:(t.put .(y)).1.dummies=#[]:=by show(if zj t.dummies _ then _ else t.dummies)=#[];rw[TB.dm];rfl
   have hfill:Fa { (t.put .(y)).1 with plain:=pl}=es.size+1:=by show(ci t.place _ _).size+(t.put .(y)).1.dummies.size=_;rw[hdum];exact hpsz
   by_cases few:(es.size+1)*5<t.mask*3
   .have hfull:lZ { (t.put .(y)).1 with plain:=pl}=aq:=by unfold lZ;rw[hfill];exact qM (by show ¬((es.size+1)*5 ≥ t.mask*3);omega)
    rw[hfull];simp only[lY,uY,qr,c4];refine qz (fin _ _ _ _ (TB.put (x:=.ref a) f2 f3 few pl) hM hmem hsize hsb1 hg1 hc ⟨_,rfl⟩)
   .have hfull:lZ { (t.put .(y)).1 with plain:=pl}=ai:=by unfold lZ;rw[hfill];exact qR (by show((es.size+1)*5 ≥ t.mask*3);omega)
    rw[hfull];simp only[lY,RI,cA];obtain⟨m1,m2,m3⟩:=hM.grow TB.few few .(f);have hes1:(ci es (t.put .(y)).2 (bP knd k,cc a)).size=es.size+1:=hsize;obtain⟨t',order,r1,r2,r3,r4,r5,r6⟩:=Full.relaid (t:={ (t.put .(y)).1 with plain:=pl}) (es:=ci es (t.put .(y)).2 (bP knd k,cc a)) m1.full (by rw[hes1];exact m2);unfold setRelay;have hfits:oT { (t.put .(y)).1 with plain:=pl} (ci es (t.put .(y)).2 (bP knd k,cc a)).size=ai:=by unfold oT;rw[hfill,hes1,gI];have:=TB.few;exact⟨by rw[kC];exact hpsz,qR (by show es.size+1<=t.mask;omega)⟩
    refine qx ?_;refine qx (kI (s:={s with heap:=_,toks:=s.toks+(k.length+1)}) hg1 rfl hfits ?_);dsimp only;rw[qY (by rw[eX];omega),r1];refine qx ?_;show aM _ _ (if ((order.filterMap ((ci es (t.put .(y)).2 (bP knd k,cc a))[·]?)).size != (ci es (t.put .(y)).2 (bP knd k,cc a)).size)=ai then _ else _) _ _ _;rw[qY (by rw[r2];simp)];refine qz ?_;dsimp only;refine zv (s:={s with heap:=_,toks:=s.toks+(k.length+1)}) hg1 rfl ?_ (by rw[r2,hes1,eX];omega);refine qz (fin _ t' _ _ r3 (by rw[r5];exact m1) (fun e=>(r4 e).trans (hmem e)) (by rw[r2,hes1]) (hsb1.trans (oV _ S _)) (uu hg1 rfl) hc ⟨_,rfl⟩)
  split
  .refine qx (Kk (s:={s with toks:=s.toks+(k.length+1)}) (up hk) hsc fun bv=>?_);cases bv
   .exact bY aq
   .exact bY _
  .refine qx (qz ?_);exact bY _
 .show n0-0<100000;have:t.mask<=511:=by rcases hM with e|e|e|e<;>omega
  omega
end
end ST
section
open ST
instance (priority:=high) keyBEq:BEq Key:=RJ
instance (priority:=high) keyLaw:LawfulBEq Key:=inferInstanceAs (@LawfulBEq Key RJ)
noncomputable def CN (n:al) (o:bd):Prop:=o.ExactSet/\∃es ep t,o.data=.set es ep t/\t.fits es.size=ai/\es.size=n
noncomputable def lB (p:aw) (n:al):HO:=.ext fun h=>∃o,h.get? p=aa o/\CN n o
theorem BH (v:Value) (k:Key) (h:(cr P w).is k v=ai):v.scannable=ai:=by rcases iK h with⟨i,t,rfl,rfl⟩|⟨x,t,rfl,rfl⟩<;>rfl
noncomputable def KG:ac V->Hp->VK->Prop:=fun xs H Q=>∃a vs,xs=[.ref a]/\H a=aa (.lst vs)/\vs.length<=300 /\
 ((∃ks:ac Key,vs=ks.map kV/\∀p,H p=ab->Q (.ref p) (upd H p (lB p (dd ks).length))) \/
 (∃ts:ac (ac Key),vs.length=ts.length/\(∀(i:al) t,ts[i]?=aa t->∃b,vs[i]?=aa (.ref b)/\H b=aa (.tup (t.map kV)))/\∀p,H p=ab->Q (.ref p) (upd H p (lB p (dd ts).length))))
theorem ym [er κ] (l:ac κ) (k:κ):k∈dd l↔k∈l:=by
 have key:∀(l a:ac κ),k∈l.foldl (fun a k=>if k∈a then a else a++[k]) a↔k∈a\/k∈l:=by
  intro l
  induction l with
  |nil=>intro a;simp
  |cons x r ih=>
   intro a;rw[jd,ih];by_cases h:x∈a
   .rw[qX h];constructor
    .rintro(q|q)
     .exact .inl q
     .exact .inr (qi _ q)
    .rintro(q|q)
     .exact .inl q
     .rcases cM.mp q with rfl|q
      .exact .inl h
      .exact .inr q
   .rw[qY h,dn,bX,qK];constructor
    .rintro((q|q)|q)
     .exact .inl q
     .exact .inr (.inl q)
     .exact .inr (.inr q)
    .rintro(q|q|q)
     .exact .inl (.inl q)
     .exact .inl (.inr q)
     .exact .inr q
 have:=key l [];unfold dd;rw[this];simp
theorem MR (hc:X.calm=ai) (hu:X.A.units+66<cg):dB X (.type "set") KG:=by
 intro pins s σ H xs us Q I r h;obtain⟨a,vs,rfl,ha,hl,h⟩:=h;obtain⟨u,rfl,ru⟩:=dY r;cases ru;obtain⟨its,rv,pl,hz⟩:=I.list (.inl (.inl ha));have hlen:=rv.length;have hsz:its.toArray.size=vs.length:=by rw[qA,hlen]
 have fin:∀(n:al) (h':Heap) (tk:al) (o:bd),h'.get? s.heap.objs.size=aa o->CN n o->(∀b o,b<s.heap.objs.size->s.heap.get? b=aa o->h'.get? b=aa o)->
   (∀p,H p=ab->Q (.ref p) (upd H p (lB p n)))->EP X pins σ Q (.ref s.heap.objs.size) {s with heap:=h',toks:=tk}:=fun n h' tk o ho hn hk q=>by
  refine⟨.ref s.heap.objs.size,_,I.laid (a:=s.heap.objs.size) (o:=lB s.heap.objs.size n) (fun b u e=>hk b u (qv e) e) (qw _) ?_,rfl,q _ I.fresh⟩;refine⟨⟨o,ho,hn⟩,⟨o,ho⟩,fun h1 h2 hp hk2=>?_⟩;obtain⟨o1,q1,q2⟩:=hp;exact⟨o1,hk2 o1 q1,q2⟩
 rcases h with⟨ks,rfl,q⟩|⟨ts,ht,hts,q⟩
 ·
  have hkl:ks.length=its.length:=by rw[←hlen,qg]
  refine xh (I.ok.hd hc) pl.isList (fun i o=>o.SetObjOf (cr X.prog X.w) (fun k=>decide (k∈dd (ks.take i))) (dd (ks.take i)).length) ?_ (fun A' hA' i v sh o Q' E' hi hv ho hJ hB hQ=>?_) fun h' tk o ho hJ hk=>?_
  .have:=setObjOf_fresh (knd:=cr X.prog X.w) (!X.w.params.followText "set-order");simpa[dd] using this
  .have hi':i<ks.length:=by rw[qA] at hi;omega
   obtain⟨u2,hu2,ru2⟩:=rv.get (i:=i) (x:=kV ks[i]) (by simp[hi']);have ev:v=u2:=by
    have hv':its[i]?=aa v:=by simpa using hv
    rw[hu2] at hv';exact(qG hv').symm
   subst ev;have hkey:=iH (P:=X.prog) (w:=X.w) ru2;have hle:(dd (ks.take i)).length<=300:=by have h1:=mH (ks.take i);rw[qD] at h1;rw[qg] at hl;omega
   unfold oU;refine iz (qx ((cr X.prog X.w).pyHash hkey ?_));refine wpAny_setAddHashed_of (knd:=cr X.prog X.w) (s:={sh with toks:=sh.toks+1}) hkey (BH _ _ hkey) (hJ.setOf ho (by unfold scanBound;omega)) (by unfold scanBound;omega) fun h' hsb hS2=>?_;obtain⟨o',ho',hso⟩:=hS2.objOf;refine hQ _ h' _ o' (iy _) hsb ho' ?_;have htk:ks.take (i+1)=ks.take i++[ks[i]]:=by rw[nr,qC hi'];rfl
   show Obj.SetObjOf (cr X.prog X.w) o' (fun k=>decide (k∈dd (vd (i+1) ks))) (dd (vd (i+1) ks)).length;rw[htk,pH];by_cases hm:ks[i]∈dd (ks.take i)
   .rw[qX hm];rw[qX (by simpa using hm)] at hso;have e:(fun k'=>decide (k'∈dd (ks.take i)) || decide (k'=ks[i]))=fun k'=>decide (k'∈dd (ks.take i)):=by
     funext k'
     by_cases hk':k'=ks[i]
     .subst hk';simp[hm]
     .simp[hk']
    rw[e] at hso;exact hso
   .rw[qY hm];rw[qY (by simpa using hm)] at hso;have e:(fun k'=>decide (k'∈dd (ks.take i)) || decide (k'=ks[i]))=fun k'=>decide (k'∈dd (ks.take i)++[ks[i]]):=by
     funext k'
     rw[oI];simp
    rw[e] at hso;simpa using hso
  .have e:ks.take its.toArray.size=ks:=by rw[qA,←hkl];exact iB
   rw[e] at hJ;have hS:=hJ.setOf ho (by have:=mH ks;rw[qg] at hl;unfold scanBound;omega);obtain⟨o1,es,ep,t,v0,v1,v2,_,_,_,v3,v4⟩:=hS;rw[ho] at v0;cases v0;exact fin _ h' tk o ho ⟨v1,es,ep,t,v2,v3,v4⟩ hk q
 ·
  have hkl:ts.length=its.length:=by rw[←hlen,ht]
  refine xh (I.ok.hd hc) pl.isList (fun i o=>ST.TS (cr X.prog X.w) s.heap (ts.take i) o) ?_ (fun A' hA' i v sh o Q' E' hi hv ho hJ hB hQ=>?_) fun h' tk o ho hJ hk=>?_
  .refine⟨⟨rfl,rfl,rfl⟩,#[],0,kJ 0 0 (!X.w.params.followText "set-order"),rfl,?_,.inl rfl,fun i e he=>by simp at he,rfl,fun k hk=>by simp[dd] at hk,fun i k b he=>by simp at he⟩;exact⟨xX,rfl,rfl,by simp[kJ],by simp[kJ],by simp[kJ],fun i j h x hp=>by simp[kJ] at hp⟩
  .have hi':i<ts.length:=by rw[qA] at hi;omega
   obtain⟨b,hb1,hb2⟩:=hts i ts[i] (by simp[hi']);obtain⟨u2,hu2,ru2⟩:=rv.get hb1;have ev:v=u2:=by
    have hv':its[i]?=aa v:=by simpa using hv
    rw[hu2] at hv';exact(qG hv').symm
   subst ev;cases ru2;have hkey:=j7 I.hok hb2;have htk:ts.take (i+1)=ts.take i++[ts[i]]:=by rw[nr,qC hi'];rfl
   refine MJ (fun v k=>BH v k) .(f) ho hJ hkey (fun b' o' e=>hB b' o' (qv e) e) (by rw[qD];have:=hl;omega) fun bb h' tk o' h1 h2 h3 h4=>hQ bb h' tk o' h1 h2 h3 (by show ST.TS _ _ (vd (i+1) ts) o';rw[htk];exact h4)
  .have e:ts.take its.toArray.size=ts:=by rw[qA,←hkl];exact iB
   rw[e] at hJ;obtain⟨hc',es,ep,t,w1,w2,w3,w4,w5,w6,w7⟩:=hJ;exact fin _ h' tk o ho ⟨hc',es,ep,t,w1,w2.fits,w5⟩ hk q
theorem PN:dB X (.builtin "len") (fun xs H Q=>∃p n,xs=[.ref p]/\H p=aa (lB p n)/\n<=300/\Q (.int n) H):=by intro pins s σ H xs us Q I r h;obtain⟨p,n,rfl,hp,hn,q⟩:=h;obtain⟨u,rfl,ru⟩:=dY r;cases ru;obtain⟨⟨o,ho,hex,es,ep,t,w1,w2,w3⟩,_,_⟩:=I.hok p _ hp;exact call_len_set ho hex w1 w2 .(f) ⟨.int n,H,I.tok _,⟨_,by rw[w3]⟩,q⟩
end
variable {pos2:dq}
section
open ST
noncomputable def mL:ac D->ar (ac (ac Key))
 |[]=>aa []
 |.tup t::r=>(gy t).bind fun k=>(mL r).map (k::·)
 |_::_=>ab
theorem CU {Γ:Cn} {K:bi} {G H:Hp} (gh:bO G H):∀{vs:ac V} {ds:ac D} {ts:ac (ac Key)},Reps Γ K G vs ds->mL ds=aa ts->vs.length=ts.length/\∀(i:al) t,ts[i]?=aa t->∃b,vs[i]?=aa (.ref b)/\H b=aa (.tup (t.map kV))
 |_,[],ts,r,h=>by cases r;cases h;exact⟨rfl,fun i t e=>by simp at e⟩
 |_,d::ds,ts,.cons h1 h2,h=>by
  cases d with
  |tup t=>
   unfold mL at h;obtain⟨k,hk,h⟩:=oBd h;obtain⟨zs,hz,rfl⟩:=oMd h;obtain⟨a,us,rfl,ha,ra⟩:=h1.tup_inv;have e:=mS ra hk;subst e;obtain⟨q1,q2⟩:=CU gh h2 hz;refine⟨by rw[qj,qj,q1],fun i t' e=>?_⟩;cases i with
   |zero=>cases e;exact⟨a,rfl,gh _ _ ha⟩
   |succ i=>exact q2 i t' e
  |_=>cases h
noncomputable def oq:D->ar D
 |.lst l=>if l.length<=300 then match gy l with
  |some ks=>aa (.int (dd ks).length)
  |none=>(mL l).map fun ts=>.int (dd ts).length
  else ab
 |_=>ab
theorem J3 (hc:X.calm=ai) (hu:X.A.units+66<cg) (hgl:Gl X "len") (hml:X.mg "len"=ab) (hgs:Gl X "set") (hms:X.mg "set"=ab) (h:DE Γ X e f)
  (h1:a6 ([.Call (.Name "set" p2) [e] [] pos2]:ac Expr) X.env=(aq,eval (.Call (.Name "set" p2) [e] [] pos2) X.env)::a6 [] X.env:=by rfl) (h2:(cC pos (a6 [] X.env)).any (·.1)=aq:=by rfl)
  (h3:a6 ([e]:ac Expr) X.env=(aq,eval e X.env)::a6 [] X.env:=by rfl) (h4:(cC pos2 (a6 [] X.env)).any (·.1)=aq:=by rfl) :
  DE Γ X (.Call (.Name "len" p) [.Call (.Name "set" p2) [e] [] pos2] [] pos) (b1 oq f):=⟨by
 refine(xM PN hgl hml (by rfl) (jq (pK (MR hc hu) hgs hms (by rfl) (jq h.1 jI h3) .(g) .(g) h3 h4) jI h1) .(g) .(g) h1 h2).imp fun σ H Q=>?_;rintro⟨G₀,H₀,G,ρ,d,A,hq,k⟩;unfold b1 at hq;obtain⟨x,hx,hl⟩:=oBd hq;clear hq;refine⟨G₀,H₀,G,ρ,x,A,hx,fun v G1 H1 s1 r1=>?_⟩;unfold oq at hl;split at hl
 .rename_i l;split at hl
  .rename_i hz;obtain⟨a,vs,rfl,ha,ra⟩:=r1.lst_inv;have go:∀(n:al),n<=300->d=.int n->∀p,H1 p=ab->∃p' n',[V.ref p]=[V.ref p']/\(upd H1 p (lB p n)) p'=aa (lB p' n')/\n'<=300/\Q (.int n') (upd H1 p (lB p n)):=fun n hn ed p hp=>by subst ed;refine⟨p,n,rfl,bW,hn,k _ G1 _ (s1.trans (Step.newOwn s1.gh hp)) (.int _)⟩
   refine⟨a,vs,rfl,s1.gh _ _ ha,by rw[ra.length];exact hz,?_⟩;split at hl
   .rename_i ks hk;refine .inl ⟨ks,mS ra hk,go _ ?_ (qG hl).symm⟩;have h5:=mH ks;have h6:ks.length=l.length:=by have:=mS ra hk;rw[←ra.length,this,qg]
    omega
   .obtain⟨ts,ht,e1⟩:=oMd hl;obtain⟨q1,q2⟩:=CU s1.gh ra ht;refine .inr ⟨ts,q1,q2,go _ ?_ e1.symm⟩;have h5:=mH ts;have h6:=ra.length;omega
  .cases hl
 .cases hl⟩
end
namespace DT
theorem LX:uU (.type "list") "keys"=bB ab:=by rw[rZ,sd];kernel_rfl
theorem HD:uU (.type "list") "__getattr__"=bB ab:=by rw[rZ,sd];kernel_rfl
theorem J9 {l:aw} {u:Tok} {xs:bR Value} (hx:s.heap.get? l=aa {cls:=.type "list",data:=.seq xs n}) (hA:A.handled=ab)
  (h:∀h' tk e,Heap.NewAttrErr s.heap h' e (.ref l) "keys"->R (.error (.ref e)) {s with heap:=h',toks:=tk}) :
  iu .(Q) A (.call (.builtin "list.__getattribute__") ⟨[.ref l,.str "keys" u],[]⟩) R s:=by
 obtain⟨hp,g,d,tk,os⟩:=s;have hT:(⟨hp,g,d,tk,os⟩:aI).TypeIs (.ref l) "list":=⟨_,hx,rfl⟩;have f1:=LX;refine RA zw.plain F.entry_list_ga (zw.check _ _ _ _ _ _ _ _ hT (F.args_list_getattribute_2 _ _) ?_);unfold Builtin.«object.__getattribute__»
 repeat (any_goals (first|assumption|wp_step))
 have hsz:(yQ "keys").length+100<=aV:=by rw[PySem.ofString_length];decide
 refine wpAny_raiseAttrError (A:=A.in1) hA h ?_;exact attrMsg_fits .(s) hsz
set_option maxHeartbeats 4000000 in
theorem NP {l:aw} {Q:ar Value->aI->Prop} {E:Value->aI->Prop} {xs:bR Value} (hx:s.heap.get? l=aa {cls:=.type "list",data:=.seq xs n}) (hA:A.handled=ab)
  (h:∀h' tk,(∀b ob,s.heap.get? b=aa ob->h'.get? b=aa ob)->Q ab {s with heap:=h',toks:=tk}) :
  aM .(Q) A (getAttr? (.ref l) "keys") Q E s:=by
 obtain⟨hp,g,d,tk,os⟩:=s;have hT:∀tk',(⟨hp,g,d,tk',os⟩:aI).TypeIs (.ref l) "list":=fun _=>⟨_,hx,rfl⟩;have f1:=sub_AttributeError;have f2:=zw.lookup;have f3:=zw.bind (.ref l);have f5:=HD;unfold getAttr? getAttrBy?;refine qx (wpAny_mkText ?_);refine qx (zx ?_);unfold getAttrBy;refine iz (qx (rE (hT _) (qx (vg f2 ?_))));show aM _ _ (RK _ _ _ _ _ _) _ _ _;unfold RK;refine qx (m:=hookBefore (lM "list")) (qz ?_);refine qx (zx (iz ?_));show aM _ _ (RL _ _ _) _ _ _;unfold RL;refine qx (vg f3 ?_);refine yJ (J9 (s:=⟨hp,g,d,tk+1,os⟩) hx hA fun h' tk' e hn=>?_);obtain⟨t',u',he⟩:=hn.there;have hE:zq ⟨h',g,d,tk',os⟩ (.ref e) "AttributeError":=⟨_,he,rfl⟩;show aM _ _ (RM _ _ _ _ _ _ _) _ _ _;unfold RM;refine qx (zy hE f1 ?_);simp only[cA];refine qx (m:=hookBehind (lM "list") ab) (vg f5 ?_);unfold hookOrError attributeErrorLeaves;simp only[lY,cA];refine qx (wpAny_throw ?_);refine qx (zy hE f1 ?_);simp only[cA];exact qz (h h' tk' hn.keeps)
theorem BJ:zz table "dict.update.loop"=aa Builtin.«dict.update.loop»:=RN (by kernel_rfl)
theorem tU:plainId "dict.update.loop"=ai:=by decide +kernel
section
variable {G:bR rn->bR rn->Prop} {P:al->Value->Prop} {St:al->aI->Prop}
noncomputable def AX (prog:dy) (w:cS) (A:eB) (S:aw) (h0:Heap) (P:al->Value->Prop) (n:al) (J:al->bd->Prop):Prop:=
 ∀(i:al) (b:aw) (kv vv:Value) (s:aI) (o:bd) (Q:lO->aI->Prop) (E:Value->aI->Prop),i<n->P i (.ref b)->h0.IsTuple b #[kv,vv]->s.heap.get? S=aa o->J i o->(∀b o,b<h0.objs.size->h0.get? b=aa o->s.heap.get? b=aa o)->
  (∀h' tk o',s.toks<=tk->iq S s.heap h'->h'.get? S=aa o'->J (i+1) o'->Q () {s with heap:=h',toks:=tk})->aM .(Q) A (dictSet S kv vv) Q E s
theorem PQ (W:WalksS prog w A.in1 I fp wr G n P St) (S:aw) (hSf:S∉fp) (h0:Heap) (hS0:h0.objs.size<=S) (hw0:∀b∈wr,h0.objs.size<=b) (J:al->bd->Prop) (hadd:AX prog w A.in1 S h0 P n J) (hP:∀i v,P i v->∃b kv vv,v=.ref b/\h0.IsTuple b #[kv,vv]) :
  ∀(k i:al) (c:ag) (s:aI) (o:bd),n-i=k->i<=n->St i s->s.heap.get? S=aa o->J i o->(∀b o,b<h0.objs.size->h0.get? b=aa o->s.heap.get? b=aa o)->
   (∀s' o',Moved (S::wr) G s s'->s'.heap.get? S=aa o'->J n o'->R (.ok (.ret .none)) s')->
   iu .(Q) A (.builtin "dict.update.loop" ⟨[.ref S,.ref I,kB c,.none],[]⟩) R s:=by
 have hSw:S∉wr:=fun h=>hSf (W.sub _ h);have hsub:∀b∈wr,b∈S::wr:=fun b hb=>qi _ hb;have keep:∀{h h':Heap},(∀b o,b<h0.objs.size->h0.get? b=aa o->h.get? b=aa o)->(∀b o,b∉S::wr->h.get? b=aa o->h'.get? b=aa o)->∀b o,b<h0.objs.size->h0.get? b=aa o->h'.get? b=aa o:=fun q1 q2 b o hb e=>q2 b o (fun z=>by
  rcases cM.mp z with z|z
  .rw[z] at hb;exact bN hb (u0.mpr hS0)
  .exact bN hb (u0.mpr (hw0 b z))) (q1 b o hb e)
 intro k
 induction k with
 |zero=>
  intro i c s o hk hi hst hS hJ hB hR;have hin:i=n:=by omega
  subst hin;refine rW BJ ?_;rw[vf tU _];show aM _ A.in1 (jO (.ref I) >>= _) _ _ s;refine qx (W.done s _ _ hst fun s' hm=>?_);show aM _ A.in1 (Tq S [] >>= _) _ _ s';exact qx (qz (qz (hR s' o (hm.mono hsub) (hm.heap S _ hSw hS) hJ)))
 |succ k ih=>
  intro i c s o hk hi hst hS hJ hB hR;have hlt:i<n:=by omega
  refine rW BJ ?_;rw[vf tU _];show aM _ A.in1 (jO (.ref I) >>= _) _ _ s;refine qx (W.item i s _ _ hlt hst fun v s' hPv hst' hm=>?_);obtain⟨b,kv,vv,rfl,hb⟩:=hP i v hPv;have hB':=keep hB fun b o hb e=>hm.heap b o (fun z=>hb (hsub b z)) e;obtain⟨ob,hob,hoc,nn,hod⟩:=hb;have hob':s'.heap.get? b=aa ob:=hB' b ob (qv hob) hob;have hTb:s'.TypeIs (.ref b) "tuple":=⟨_,hob',hoc⟩;show aM _ A.in1 (jM [cc b] _ >>= _) _ _ s';refine qx (iz ?_);refine qx ?_;refine wpAny_tryCatch ?_;unfold Tr;refine qx (rE hTb ?_);rw[qX .(g)];refine qx (Fi hob' hod (qz ?_));show aM _ A.in1 (jM [kv,vv] (dictSet S kv vv)) _ _ s';refine iz (hadd i b kv vv s' o _ _ hlt hPv ⟨ob,hob,hoc,nn,hod⟩ (hm.heap S _ hSw hS) hJ hB' fun h' tk o' htk hsb hS' hJ'=>?_);refine qz ⟨zp tU _,ih (i+1) (c+1) _ o' .(f) hlt (W.frame _ s' _ _ hst' htk fun b hb o e=>?_) hS' hJ' ?_ fun s'' o'' hm'' hS'' hJ''=>?_⟩
  .rw[hsb.2 b (fun h:b=S=>hSf (by rw[←h];exact hb))];exact e
  .refine keep hB' fun b o hb e=>?_;show h'.get? b=aa o;rw[hsb.2 b (fun h:b=S=>hb (by rw[h];exact qh))];exact e
  .refine hR s'' o'' (Rx W.gtrans ((hm.mono hsub).then_heap htk fun b o hb e=>?_) hm'') hS'' hJ'';rw[hsb.2 b (fun h:b=S=>hb (by rw[h];exact qh))];exact e
end
section
variable {E:Value->aI->Prop}
theorem call_dict_gen {l:aw} {c:al} (hh:A.handled=ab) (hl:s.heap.get? l=aa {cls:=.type "list",data:=.seq items c}) (J:al->bd->Prop)
  (hJ0:J 0 {cls:=.type "dict",data:=.dict #[]})
  (hadd:∀A':eB,A'.units<=A.units+16->AX prog w A' s.heap.objs.size s.heap (fun i v=>items[i]?=aa v) items.size J)
  (hP:∀(i:al) (v:Value),items[i]?=aa v->∃b kv vv,v=.ref b/\s.heap.IsTuple b #[kv,vv])
  (h:∀(h':Heap) (tk:al) (o:bd),h'.get? s.heap.objs.size=aa o->J items.size o->
   (∀b o,b<s.heap.objs.size->s.heap.get? b=aa o->h'.get? b=aa o)->Q (.ref s.heap.objs.size) {s with heap:=h',toks:=tk}) :
  aM .(Q) A (call (.type "dict") [.ref l]) Q E s:=by
 refine callType_codes (Q₁:=fun obj s₁=>obj=.ref s.heap.objs.size/\s₁={s with heap:=s.heap.push {cls:=.type "dict",data:=.dict #[]} }) F.kt_called_dict (F.kt_typeCall_dict_1 _) F.entry_dict_init (kt_code_dict_new _ ⟨rfl,rfl⟩) ?_;rintro obj s₁ ⟨rfl,rfl⟩;have hnew:(s.heap.push {cls:=.type "dict",data:=.dict #[]}).get? s.heap.objs.size=aa {cls:=.type "dict",data:=.dict #[]}:=qF _ rfl;have hl1:(s.heap.push {cls:=.type "dict",data:=.dict #[]}).get? l=aa {cls:=.type "list",data:=.seq items c}:=qu _ hl;have hT:zq {s with heap:=s.heap.push {cls:=.type "dict",data:=.dict #[]} } (.ref s.heap.objs.size) "dict":=⟨_,hnew,rfl⟩;have hTl:zq {s with heap:=s.heap.push {cls:=.type "dict",data:=.dict #[]} } (.ref l) "list":=⟨_,hl1,rfl⟩;refine⟨hT,F.args_dict_init_2 _ _,?_⟩;unfold Builtin.«dict.__init__»;refine qx ?_;unfold Ts;refine qx (wpAny_notOrdered_dict hT ?_);show aM _ _ (bB (s.heap.objs.size,[cc l])) _ _ _;refine qz ?_;show aM _ _ (RO "dict.__init__" s.heap.objs.size (.ref l) [] .none) _ _ _;unfold RO;refine qx (rE hTl ?_);rw[qX .(g)];refine qx (NP (s:={s with heap:=s.heap.push {cls:=.type "dict",data:=.dict #[]} }) (A:=A.in1.in1) hl1 hh fun h1 tk1 hk1=>?_);simp only[Option.isNone_none,cA];refine qx (Ew ?_);have hl2:h1.IsList l items:=⟨_,hk1 _ _ hl1,rfl,_,rfl⟩;refine qx (rR (s:={s with heap:=h1,toks:=tk1}) hl2 ?_);refine qz ⟨zp tU _,?_⟩;have hlS:l<s.heap.objs.size:=qv hl;have hsz1:s.heap.objs.size<h1.objs.size:=qv (hk1 _ _ hnew);have hneI:l≠h1.objs.size:=qB (rH hlS hsz1);have hSf:s.heap.objs.size∉[h1.objs.size,l]:=by simp only[qK,bX,qI,or_false,rY];exact⟨qB hsz1,yB hlS⟩
 have old:∀b o,b<s.heap.objs.size->s.heap.get? b=aa o->h1.get? b=aa o:=fun b o _ e=>hk1 _ _ (qu _ e);refine PQ ((u5 (A:=A.in1.in1) (by simpa using hh) _ l hneI items).toS) s.heap.objs.size hSf s.heap (qw _) (fun b hb=>?_) J (hadd _ (by show A.units+2<=_;omega)) hP (items.size-0) 0 0 _ _ .(f) (ix _)
  ⟨⟨_,qF _ rfl,rfl,rfl⟩,hl2.push _⟩ (qu _ (hk1 _ _ hnew)) hJ0 (fun b o hb e=>qu _ (old b o hb e)) fun s' o' hm hS' hJ'=>?_
 .have:b=h1.objs.size:=by simpa using hb
  rw[this];exact rl hsz1
 .obtain⟨h',g',d',tk',os'⟩:=s';have eg:g'=s.gens:=hm.gens;have ed:d'=s.drawn:=hm.drawn;have eo:os'=s.os:=hm.os;subst eg;subst ed;subst eo;refine⟨rfl,h h' tk' o' hS' hJ' fun b o hb e=>hm.heap b o ?_ (qu _ (old b o hb e))⟩;simp only[qK,bX,qI,or_false,rY];exact⟨qB hb,qB (rH hb hsz1)⟩
end
end DT
section
variable [er κ]
noncomputable def mrg (kvs ps:ac (κ×V)):ac (κ×V):=ps.foldl (fun acc kv=>dR acc kv.1 kv.2) kvs
theorem Ct (kvs ps:ac (κ×V)) (p:κ×V):mrg kvs (ps++[p])=dR (mrg kvs ps) p.1 p.2:=by unfold mrg;rw[zr];rfl
theorem Pm (kvs:ac (κ×V)) (k:κ) (v:V):(dR kvs k v).length<=kvs.length+1:=by
 unfold dR;split
 .rw[qg];omega
 .rw[qk,qU];omega
theorem pX:∀(ps kvs:ac (κ×V)),(mrg kvs ps).length<=kvs.length+ps.length
 |[],kvs=>qw _
 |p::ps,kvs=>by have h1:=pX ps (dR kvs p.1 p.2);have h2:=Pm kvs p.1 p.2;show(mrg (dR kvs p.1 p.2) ps).length<=_;rw[qj];omega
end
noncomputable def JU:ac V->Hp->VK->Prop:=fun xs H Q=>∃(a:aw) (vs:ac V) (ps:ac (Key×V)),xs=[.ref a]/\H a=aa (.lst vs)/\vs.length=ps.length/\ps.length<=1000/\(∀(i:al) p,ps[i]?=aa p->∃b,vs[i]?=aa (.ref b)/\H b=aa (.tup [kV p.1,p.2])) /\
 ∀q,H q=ab->Q (.ref q) (upd H q (.dK (mrg [] ps)))
theorem Eb {b:aw} {x y:V} (I:Inv X pins σ H s) (hb:H b=aa (.tup [x,y])):∃u v,bx x u/\bx y v/\s.heap.IsTuple b #[u,v]:=by
 obtain⟨its,r,p,_⟩:=I.tuple (.inl (.inl hb));cases r with
 |cons r1 r2=>
  cases r2 with
  |cons r2 r3=>
   cases r3;exact⟨_,_,r1,r2,p⟩
theorem tuple_inj {h:Heap} {b:aw} {x y:bR Value} (p:h.IsTuple b x) (q:h.IsTuple b y):x=y:=by obtain⟨o,h1,_,n,h2⟩:=p;obtain⟨o',g1,_,m,g2⟩:=q;rw[h1] at g1;cases g1;rw[h2] at g2;cases g2;rfl
theorem HX (hc:X.calm=ai) (hu:X.A.units+66<cg):dB X (.type "dict") JU:=by
 intro pins s σ H xs us Q I r h;obtain⟨a,vs,ps,rfl,ha,hl,hz,hp,q⟩:=h;obtain⟨u,rfl,ru⟩:=dY r;cases ru;obtain⟨z,its,n,rv,hlen,e⟩:=I.lstM ha;have hsz:its.toArray.size=ps.length:=by rw[qA,←hlen,hl]
 have hit:∀(i:al) (v:Value),its.toArray[i]?=aa v->∃p b u w,ps[i]?=aa p/\v=.ref b/\bx (kV p.1) u/\bx p.2 w/\s.heap.IsTuple b #[u,w]:=fun i v hv=>by
  have hi:i<ps.length:=by rw[←hsz];exact(gJ.mp hv).1
  obtain⟨b,hb1,hb2⟩:=hp i ps[i] (by simp[hi]);obtain⟨u2,hu2,ru2⟩:=rv.get hb1;have hv':its[i]?=aa v:=by simpa using hv
  rw[hu2] at hv';cases hv';cases ru2;obtain⟨u,w,r1,r2,r3⟩:=Eb I hb2;exact⟨ps[i],b,u,w,by simp[hi],rfl,r1,r2,r3⟩
 refine DT.call_dict_gen (I.ok.hd hc) e (fun i o=>∃vs',KV (mrg [] (ps.take i)) vs'/\o.IsDictOf (cr X.prog X.w) vs') ?_ (fun A' hA' i b kv vv sh o Q' E' hi hv hb ho hJ hB hQ=>?_) (fun i v hv=>?_) fun h' tk o ho hJ hk=>?_
 .obtain⟨o,ho,hd⟩:=zA.mp (Q0 (knd:=cr X.prog X.w) s.heap);have:o={cls:=.type "dict",data:=.dict #[]}:=by have:=qF s.heap (o:={cls:=.type "dict",data:=.dict #[]}) rfl;rw[this] at ho;exact(qG ho).symm
  subst this;exact⟨[],.nil,hd⟩
 .obtain⟨p,b',u,w,h1,h2,h3,h4,h5⟩:=hit i _ hv;cases h2;have e2:=tuple_inj hb h5;have e3:kv=u/\vv=w:=by simpa using e2
  obtain⟨rfl,rfl⟩:=e3;obtain⟨vs',k1,k2⟩:=hJ;have hle:vs'.length<=1000:=by have q1:=k1.length;have q2:=pX (ps.take i) ([]:ac (Key×V));rw[qD,qm] at q2;omega
  refine wpAny_dictSet_pairs (iH h3) (zA.mpr ⟨o,ho,k2⟩) (fun h' hd' hsb=>?_) (by rw[eX];omega);obtain⟨o',ho',hd''⟩:=zA.mp hd';refine hQ h' _ o' (iy _) hsb ho' ⟨_,?_,hd''⟩;have htk:ps.take (i+1)=ps.take i++[p]:=by rw[nr,h1];rfl
  rw[htk,Ct];exact k1.put p.1 h4
 .obtain⟨p,b,u,w,h1,h2,h3,h4,h5⟩:=hit i v hv;exact⟨b,u,w,h2,h5⟩
 .obtain⟨vs',k1,k2⟩:=hJ;rw[hsz,iB] at k1;refine⟨.ref s.heap.objs.size,_,I.laid (a:=s.heap.objs.size) (o:=.dK (mrg [] ps)) (fun b u e=>hk b u (qv e) e) (qw _) ⟨?_,?_,vs',k1,zA.mpr ⟨o,ho,k2⟩⟩,rfl,q _ I.fresh⟩
  .have:=pX ps ([]:ac (Key×V));rw[qm] at this;rw[eX];omega
  .exact mW.mpr (dF (qB I.big))
noncomputable def HC:ac V->Hp->VK->Prop:=fun xs H Q=>∃(a:aw) (vs:ac V) (ps:ac (ac Key×V)),xs=[.ref a]/\H a=aa (.lst vs)/\vs.length=ps.length/\ps.length<=1000/\(∀(i:al) p,ps[i]?=aa p->∃b kb,vs[i]?=aa (.ref b)/\H b=aa (.tup [.ref kb,p.2])/\H kb=aa (.tup (p.1.map kV))) /\
 ∀q,H q=ab->Q (.ref q) (upd H q (.dT (mrg [] ps)))
theorem J6 {P:ac Key->aw->Prop} (hP:∀k b,H b=aa (.tup (k.map kV))->P k b):∀{kvs:ac (ac Key×V)} {xs:ac (ac Key×aw×Value)},KT H kvs xs->∀x∈xs,P x.1 x.2.1:=by
 intro kvs xs q
 induction q with
 |nil=>intro x hx;cases hx
 | @cons p y ps ys hq t ih=>
  intro x hx;rcases cM.mp hx with rfl|hx
  .exact hP _ _ (by rw[←hq.1];exact hq.2.1)
  .exact ih x hx
theorem JF (hc:X.calm=ai) (hu:X.A.units+66<cg):dB X (.type "dict") HC:=by
 intro pins s σ H xs us Q I r h;obtain⟨a,vs,ps,rfl,ha,hl,hz,hp,q⟩:=h;obtain⟨u,rfl,ru⟩:=dY r;cases ru;obtain⟨z,its,n,rv,hlen,e⟩:=I.lstM ha;have hsz:its.toArray.size=ps.length:=by rw[qA,←hlen,hl]
 have hit:∀(i:al) (v:Value),its.toArray[i]?=aa v->∃p b kb w,ps[i]?=aa p/\v=.ref b/\H kb=aa (.tup (p.1.map kV))/\bx p.2 w/\s.heap.IsTuple b #[.ref kb,w]:=fun i v hv=>by
  have hi:i<ps.length:=by rw[←hsz];exact(gJ.mp hv).1
  obtain⟨b,kb,hb1,hb2,hb3⟩:=hp i ps[i] (by simp[hi]);obtain⟨u2,hu2,ru2⟩:=rv.get hb1;have hv':its[i]?=aa v:=by simpa using hv
  rw[hu2] at hv';cases hv';cases ru2;obtain⟨u,w,r1,r2,r3⟩:=Eb I hb2;cases r1;exact⟨ps[i],b,kb,w,by simp[hi],rfl,hb3,r2,r3⟩
 have isk:∀{h':Heap},(∀b o,b<s.heap.objs.size->s.heap.get? b=aa o->h'.get? b=aa o)->∀k b,H b=aa (.tup (k.map kV))->(ku (cr X.prog X.w)).is h' k b:=fun hB k b hb=>ST.IsTupleKey.mono (j7 I.hok hb) fun o e=>hB _ _ (qv e) e;refine DT.call_dict_gen (I.ok.hd hc) e (fun i o=>∃xs',KT H (mrg [] (ps.take i)) xs'/\∃es ep,o.ExactDict/\o.data=.dict es ep/\es.toList=xs'.map (entryOfKey (ku (cr X.prog X.w)))/\(xs'.map (·.1)).Nodup) ?_ (fun A' hA' i b kv vv sh o Q' E' hi hv hb ho hJ hB hQ=>?_) (fun i v hv=>?_) fun h' tk o ho hJ hk=>?_
 .exact⟨[],.nil,#[],0,⟨rfl,rfl,rfl⟩,rfl,rfl,List.nodup_nil⟩
 .obtain⟨p,b',kb,w,h1,h2,h3,h4,h5⟩:=hit i _ hv;cases h2;have e2:=tuple_inj hb h5;have e3:kv=.ref kb/\vv=w:=by simpa using e2
  obtain⟨rfl,rfl⟩:=e3;obtain⟨xs',k1,es,ep,k2,k3,k4,k5⟩:=hJ;have hle:xs'.length<=1000:=by have q1:=Paired.length k1;have q2:=pX (ps.take i) ([]:ac (ac Key×V));rw[qD,qm] at q2;omega
  refine wpAny_dictSet_heap (knd:=ku (cr X.prog X.w)) (show A'.units<cg by omega) (isk hB _ _ h3) ⟨o,es,ep,ho,k2,k3,k4,J6 (isk hB) k1,k5⟩ (fun h' hd' hsb=>?_) (by rw[eX];omega);obtain⟨o',es',ep',ho',w2,w3,w4,_,w5⟩:=hd';refine hQ h' _ o' (E8 _ _) hsb ho' ⟨_,?_,es',ep',w2,w3,w4,w5⟩;have htk:ps.take (i+1)=ps.take i++[p]:=by rw[nr,h1];rfl
  rw[htk,Ct];exact k1.put p.1 h3 h4
 .obtain⟨p,b,kb,w,h1,h2,h3,h4,h5⟩:=hit i v hv;exact⟨b,_,w,h2,h5⟩
 .obtain⟨xs',k1,es,ep,k2,k3,k4,k5⟩:=hJ;rw[hsz,iB] at k1;refine⟨.ref s.heap.objs.size,_,I.laid (a:=s.heap.objs.size) (o:=.dT (mrg [] ps)) (fun b u e=>hk b u (qv e) e) (qw _) ⟨?_,?_,xs',k1.keeps fun b ys e=>?_,o,es,ep,ho,k2,k3,k4,k5⟩,rfl,q _ I.fresh⟩
  .have:=pX ps ([]:ac (ac Key×V));rw[qm] at this;rw[eX];omega
  .exact mW.mpr (dF (qB I.big))
  .rw[a4 (b7 e I.fresh)];exact e
noncomputable def oz:ac D->ar (ac (Key×D))
 |[]=>aa []
 |.tup [k,v]::r=>(gF k).bind fun kk=>(oz r).map ((kk,v)::·)
 |_::_=>ab
noncomputable def mC:ac D->ar (ac (ac Key×D))
 |[]=>aa []
 |.tup [.tup t,v]::r=>(gy t).bind fun kk=>(mC r).map ((kk,v)::·)
 |_::_=>ab
noncomputable def sU [er κ] (ps:ac (κ×D)):ac (κ×D):=ps.foldl (fun acc kv=>eG acc kv.1 kv.2) []
noncomputable def fW:ac D->ar D
 |[.lst l]=>if l.length<=1000 then (oz l).map fun ps=>.dk (sU ps) else ab
 |_=>ab
noncomputable def tF:ac D->ar D
 |[.lst l]=>if l.length<=1000 then (mC l).map fun ps=>.dt (sU ps) else ab
 |_=>ab
theorem vB {κ:Type} [er κ] {K:bi} {G:Hp}:∀{us:ac (κ×V)} {kvs:ac (κ×D)} {acc:ac (κ×V)} {acd:ac (κ×D)},us.map (·.1)=kvs.map (·.1)->Reps Γ K G (us.map (·.2)) (kvs.map (·.2))->acc.map (·.1)=acd.map (·.1)->Reps Γ K G (acc.map (·.2)) (acd.map (·.2))->
  (mrg acc us).map (·.1)=(kvs.foldl (fun acc kv=>eG acc kv.1 kv.2) acd).map (·.1)/\Reps Γ K G ((mrg acc us).map (·.2)) ((kvs.foldl (fun acc kv=>eG acc kv.1 kv.2) acd).map (·.2))
 |[],[],_,_,_,_,e,r=>⟨e,r⟩
 |[],_::_,_,_,e,_,_,_=>by cases e
 |_::_,[],_,_,e,_,_,_=>by cases e
 |(k1,v)::us,(k2,d)::kvs,acc,acd,e,r,e0,r0=>by
  have e1:k1=k2:=(hU e).1;subst e1;have r:Reps Γ K G (v::us.map (·.2)) (d::kvs.map (·.2)):=r;cases r with
  |cons r1 r2=>
   obtain⟨w1,w2⟩:=uB (k:=k1) r1 e0 r0;exact vB (us:=us) (kvs:=kvs) (hU e).2 r2 w1 w2
theorem BC {K:bi} {G H:Hp} (gh:bO G H):∀{vs:ac V} {ds:ac D} {ps:ac (Key×D)},Reps Γ K G vs ds->oz ds=aa ps->
  ∃us:ac (Key×V),vs.length=us.length/\us.map (·.1)=ps.map (·.1)/\Reps Γ K G (us.map (·.2)) (ps.map (·.2))/\∀(i:al) p,us[i]?=aa p->∃b,vs[i]?=aa (.ref b)/\H b=aa (.tup [kV p.1,p.2])
 |_,[],ps,r,h=>by cases r;cases h;exact⟨[],rfl,rfl,.nil,fun i p e=>by simp at e⟩
 |_,d::ds,ps,.cons h1 h2,h=>by
  unfold oz at h;split at h
  .rename_i heq;cases heq
  .rename_i heq;cases heq;obtain⟨kk,hk,h⟩:=oBd h;obtain⟨zs,hz,rfl⟩:=oMd h;obtain⟨us,q1,q2,q3,q4⟩:=BC gh h2 hz;obtain⟨a,ws,rfl,ha,ra⟩:=h1.tup_inv;obtain⟨x,y,rfl,rx,ry⟩:=ra.two;have ex:=lH rx hk;subst ex;refine⟨(kk,y)::us,by rw[qj,qj,q1],by simp[q2],.cons ry q3,fun i p e=>?_⟩;cases i with
   |zero=>cases e;exact⟨a,rfl,gh _ _ ha⟩
   |succ i=>exact q4 i p e
  .cases h
theorem zP {K:bi} {G H:Hp} (gh:bO G H):∀{vs:ac V} {ds:ac D} {ps:ac (ac Key×D)},Reps Γ K G vs ds->mC ds=aa ps->
  ∃us:ac (ac Key×V),vs.length=us.length/\us.map (·.1)=ps.map (·.1)/\Reps Γ K G (us.map (·.2)) (ps.map (·.2))/\∀(i:al) p,us[i]?=aa p->∃b kb,vs[i]?=aa (.ref b)/\H b=aa (.tup [.ref kb,p.2])/\H kb=aa (.tup (p.1.map kV))
 |_,[],ps,r,h=>by cases r;cases h;exact⟨[],rfl,rfl,.nil,fun i p e=>by simp at e⟩
 |_,d::ds,ps,.cons h1 h2,h=>by
  unfold mC at h;split at h
  .rename_i heq;cases heq
  .rename_i heq;cases heq;obtain⟨kk,hk,h⟩:=oBd h;obtain⟨zs,hz,rfl⟩:=oMd h;obtain⟨us,q1,q2,q3,q4⟩:=zP gh h2 hz;obtain⟨a,ws,rfl,ha,ra⟩:=h1.tup_inv;obtain⟨x,y,rfl,rx,ry⟩:=ra.two;obtain⟨kb,ks,rfl,hkb,rk⟩:=rx.tup_inv;have ex:=mS rk hk;subst ex;refine⟨(kk,y)::us,by rw[qj,qj,q1],by simp[q2],.cons ry q3,fun i p e=>?_⟩;cases i with
   |zero=>cases e;exact⟨a,kb,rfl,gh _ _ ha,gh _ _ hkb⟩
   |succ i=>exact q4 i p e
  .cases h
theorem nC (hc:X.calm=ai) (hu:X.A.units+66<cg):TyD Γ X "dict" fW:=⟨_,HX hc hu,fun {G H vs ds z} gh r h Q k=>by
 unfold fW at h;split at h
 .split at h
  .rename_i hz;obtain⟨ps,hp,rfl⟩:=oMd h;obtain⟨v,rfl,r1⟩:=r.one;obtain⟨a,ws,rfl,ha,ra⟩:=r1.lst_inv;obtain⟨us,q1,q2,q3,q4⟩:=BC gh ra hp;refine⟨a,ws,us,rfl,gh _ _ ha,q1,by rw[←q1,ra.length];exact hz,q4,fun p hp=>?_⟩;have s:=Step.new (o:=.dK (mrg [] us)) gh hp;obtain⟨w1,w2⟩:=vB (acc:=[]) (acd:=[]) q2 q3 rfl .nil;exact k _ _ _ s (.dk bW w1 (w2.mono s.gg))
  .cases h
 .cases h⟩
theorem Jp (hc:X.calm=ai) (hu:X.A.units+66<cg):TyD Γ X "dict" tF:=⟨_,JF hc hu,fun {G H vs ds z} gh r h Q k=>by
 unfold tF at h;split at h
 .split at h
  .rename_i hz;obtain⟨ps,hp,rfl⟩:=oMd h;obtain⟨v,rfl,r1⟩:=r.one;obtain⟨a,ws,rfl,ha,ra⟩:=r1.lst_inv;obtain⟨us,q1,q2,q3,q4⟩:=zP gh ra hp;refine⟨a,ws,us,rfl,gh _ _ ha,q1,by rw[←q1,ra.length];exact hz,q4,fun p hp=>?_⟩;have s:=Step.new (o:=.dT (mrg [] us)) gh hp;obtain⟨w1,w2⟩:=vB (acc:=[]) (acd:=[]) q2 q3 rfl .nil;exact k _ _ _ s (.dt bW w1 (w2.mono s.gg))
  .cases h
 .cases h⟩
theorem Dfn.none {k:al} (F:Dfn K mg x st)
  (hb:∀(kV doc pm:Value) (an:ar aw) (cdv ct:Value) (us:ac Value),us.length=ps.length->lS (hG x x (ij st) (eU st) (aS st) .none kV doc pm an cdv ct) ⟨us,[]⟩=bB (ps.zip us))
 : Cal Γ P w K mg base x ps.length k (fun _=>ab):=by
 obtain⟨f,fd,h1,h2⟩:=F.ex;refine⟨f,fd,ps,⟨fun vs H Q E h=>?_,fun A outer s H args us vs Q E hr I b v h=>?_⟩,h2,h1.kp,h1.binds hb⟩
 .obtain⟨_,_,_,_,_,_,z,_⟩:=h;cases z
 .obtain⟨_,_,_,_,_,_,z,_⟩:=h;cases z
noncomputable def orG (g g':D->D->ar D) (x y:D):ar D:=match g x y with
 |some z=>aa z
 |none=>g' x y
variable {z:D}
section
variable {a:Expr} {g g':D->D->ar D}
theorem LK {x:D} (h:orG g g' x y=aa z):g x y=aa z\/g' x y=aa z:=by
 unfold orG at h;split at h
 .rename_i q;cases h;exact .inl q
 .exact .inr h
theorem CmpD.or (h:CmpD Γ X op g) (h':CmpD Γ X op g'):CmpD Γ X op (orG g g'):=by
 obtain⟨r,o,d⟩:=h.ex;obtain⟨r',o',d'⟩:=h'.ex;refine⟨_,o.or o',fun {G H v u x y z} gh r1 r2 q Q k=>?_⟩;rcases LK q with q|q
 .exact .inl (d gh r1 r2 q Q k)
 .exact .inr (d' gh r1 r2 q Q k)
noncomputable def eqA:=orG eqD pU
noncomputable def neA:=orG neD mf
theorem o8 (hu:X.A.units+64<cg):CmpD Γ X .Eq eqA:=fB.or (LP hu)
theorem kf (hu:X.A.units+64<cg):CmpD Γ X .NotEq neA:=KL.or (P' hu)
theorem DfnM.mk' {f:aw} {c:ak} {kV:Value} (a:dG K (.ref C) m=aa (aa (.ref f))) (i:uR K (.ref f)=ai)
  (l:K.lookup f=aa ⟨oc,od,.func (hG m qual (ij st) (eU st) (aS st) .none kV doc pm an cdv ct),osl⟩) (cd:rC K cdv qual=ai) (k:i7 K (.ref f)=ai):DfnM K C c m qual st:=⟨f,_,vx l cd k,a,i⟩
end
section
variable {f1 f2 f3 f4 f5 f6 f7:FE}
theorem ln1:∀ρ ds,ae f1 aj ρ=aa ds->ds.length=1:=mz fun _ _ h=>LZ h
theorem ln2:∀ρ ds,ae f1 (ae f2 aj) ρ=aa ds->ds.length=2:=mz ln1
theorem ln3:∀ρ ds,ae f1 (ae f2 (ae f3 aj)) ρ=aa ds->ds.length=3:=mz ln2
theorem ln4:∀ρ ds,ae f1 (ae f2 (ae f3 (ae f4 aj))) ρ=aa ds->ds.length=4:=mz ln3
theorem ln5:∀ρ ds,ae f1 (ae f2 (ae f3 (ae f4 (ae f5 aj)))) ρ=aa ds->ds.length=5:=mz ln4
theorem ln6:∀ρ ds,ae f1 (ae f2 (ae f3 (ae f4 (ae f5 (ae f6 aj))))) ρ=aa ds->ds.length=6:=mz ln5
theorem ln7:∀ρ ds,ae f1 (ae f2 (ae f3 (ae f4 (ae f5 (ae f6 (ae f7 aj)))))) ρ=aa ds->ds.length=7:=mz ln6
end
theorem At.setOdk (A:At Γ K G₀ H₀ G H ρ σ) (ha:H a=ab):At Γ K G₀ H₀ G (upd H a (.dK [])) (ρ.set i (aa (.odk []))) (σ.set i (aa (.ref a))):=by have h0:H₀ a=ab:=A.st.hh.free ha;have hg:G a=ab:=A.gh.free ha;refine A.put (fp:=[]) (fp':=[a]) (.inl rfl) (fun b o e _=>by rw[a4 (b7 e ha)];exact e) (.odk (us:=[]) (kvs:=[]) h0 hg bW rfl .nil) (fun b hb=>.inr (by rw[bX.mp hb];exact ha)) (.refl _) (fun b o e=>?_) (fun _ _ _ _=>rfl) (fun b hb=>by cases hb);rw[a4 (b7 e hg)];exact A.gh b o e
theorem At.chOdt (A:At Γ K G₀ H₀ G H ρ σ) {kvs kvs':ac (ac Key×D)} {us':ac (ac Key×V)} (hi:ρ[i]?=aa (aa (.odt kvs))) (ha:σ[i]?=aa (aa (.ref a))) (e:us'.map (·.1)=kvs'.map (·.1)) (r:Reps Γ K G (us'.map (·.2)) (kvs'.map (·.2))):At Γ K G₀ H₀ G (upd H a (.dT us')) (ρ.set i (aa (.odt kvs'))) σ:=by
 obtain⟨v,fp,h1,h2⟩:=A.get hi;rw[ha] at h1;cases h1;cases h2 with
 |odt q1 q2 q3 q4 q5=>
  refine A.ch hi ha (.odt q1 q2 q3 q4 q5) (fun b o e hb=>?_) (.odt q1 q2 bW e r) (fun b hb=>.inl hb) (.refl _) (fun b o e=>?_) (fun _ _ _ _=>rfl)
  .rw[a4 (fun z=>hb (bX.mpr z))];exact e
  .rw[a4 (b7 e q2)];exact A.gh b o e
theorem At.chOdk (A:At Γ K G₀ H₀ G H ρ σ) {kvs kvs':ac (Key×D)} {us':ac (Key×V)} (hi:ρ[i]?=aa (aa (.odk kvs))) (ha:σ[i]?=aa (aa (.ref a))) (e:us'.map (·.1)=kvs'.map (·.1)) (r:Reps Γ K G (us'.map (·.2)) (kvs'.map (·.2))):At Γ K G₀ H₀ G (upd H a (.dK us')) (ρ.set i (aa (.odk kvs'))) σ:=by
 obtain⟨v,fp,h1,h2⟩:=A.get hi;rw[ha] at h1;cases h1;cases h2 with
 |odk q1 q2 q3 q4 q5=>
  refine A.ch hi ha (.odk q1 q2 q3 q4 q5) (fun b o e hb=>?_) (.odk q1 q2 bW e r) (fun b hb=>.inl hb) (.refl _) (fun b o e=>?_) (fun _ _ _ _=>rfl)
  .rw[a4 (fun z=>hb (bX.mpr z))];exact e
  .rw[a4 (b7 e q2)];exact A.gh b o e
noncomputable def KN:Slot->ar D
 |.odt kvs=>aa (.dt kvs)
 |.odk kvs=>aa (.dk kvs)
 |_=>ab
theorem At.frzD (A:At Γ K G₀ H₀ G H ρ σ) {s:Slot} (hi:ρ[i]?=aa (aa s)) (hd:KN s=aa d):∃G',bO G G'/\At Γ K G₀ H₀ G' H (ρ.set i (aa (.sh d))) σ:=by
 obtain⟨v,fp,h1,h2⟩:=A.get hi;cases h2 with
 |sh _=>cases hd
 |own _ _ _ _=>cases hd
 |obj _ _ _ _ _ _ _=>cases hd
 |tlo _ _ _ _ _ _=>cases hd
 |oll _ _ _ _ _=>cases hd
 |pin _=>cases hd
 |objd _ _ _ _ _ _ _ _ _ _ _ _=>cases hd
 |odk q1 q2 q3 q4 q5=>
  cases hd;rename_i a us kvs;have sm:bO G (upd G a (.dK us)):=fun b o e=>by rw[a4 (b7 e q2)];exact e
  refine⟨upd G a (.dK us),sm,A.ch hi h1 (.odk q1 q2 q3 q4 q5) (fun b o e hb=>e) (.sh (.dk bW q4 (q5.mono sm))) (fun b hb=>by cases hb) sm (fun b o e=>?_) (fun b o e hb=>?_)⟩
  .by_cases hb:b=a
   .subst hb;rw[bW] at e;cases e;exact q3
   .rw[a4 hb] at e;exact A.gh b o e
  .rw[a4 (fun z=>hb (bX.mpr z))]
 |odt q1 q2 q3 q4 q5=>
  cases hd;rename_i a us kvs;have sm:bO G (upd G a (.dT us)):=fun b o e=>by rw[a4 (b7 e q2)];exact e
  refine⟨upd G a (.dT us),sm,A.ch hi h1 (.odt q1 q2 q3 q4 q5) (fun b o e hb=>e) (.sh (.dt bW q4 (q5.mono sm))) (fun b hb=>by cases hb) sm (fun b o e=>?_) (fun b o e hb=>?_)⟩
  .by_cases hb:b=a
   .subst hb;rw[bW] at e;cases e;exact q3
   .rw[a4 hb] at e;exact A.gh b o e
  .rw[a4 (fun z=>hb (bX.mpr z))]
section
variable {a:Expr} {fv:FE} {dp:dq}
noncomputable def uK (i:al):FS:=fun ρ=>aa (.nx,ρ.set i (aa (.odk [])))
theorem wy (i:al) (hN:X.N.Nodup) (hi:X.N[i]?=aa x:=by rfl) (hx:Loc X.env.scope x:=by first|exact di rfl|exact cG rfl) (hs:fK (.Dict [] [] dp) (aa (.Name x pos')) pos.line X.env=bB aq:=by rfl) (hf:X.fn x=ai\/X.env.scope.names.lookup x=aa .local:=by first|exact .inl rfl|exact .inr rfl|assumption) :
  DS Γ X (.Assign [.Name x pos'] (.Dict [] [] dp) pos) (uK i):=⟨(uk hN hi hx xu hs hf).imp fun E σ H=>by
 rintro⟨G₀,H₀,G,ρ,fl,ρ',A,h,k⟩ p hp;cases h;exact k _ G _ (.refl _) (A.setOdk hp)⟩
noncomputable def eK (i:al) (fk fv:FE):FS:=fun ρ=>(fv ρ).bind fun d=>(fk ρ).bind fun kd=>match ρ[i]? with
 |some (aa (.odt kvs))=>match kd with
  |.tup t=>(gy t).bind fun ks=>if kvs.length<100000 then aa (.nx,ρ.set i (aa (.odt (eG kvs ks d)))) else ab
  |_=>ab
 |some (aa (.odk kvs))=>(gF kd).bind fun k=>if kvs.length<100000 then aa (.nx,ρ.set i (aa (.odk (eG kvs k d)))) else ab
 |_=>ab
theorem kQ (i:al) (hu:X.A.units+66<cg) (hk:DE Γ X ke fk) (hv':DE Γ X value fv) (hN:X.N[i]?=aa x:=by rfl) (hv:Vis X.env.scope x:=by first|exact di rfl|exact cG (di rfl)|exact cG (cG rfl)) (hd:.(E)=aq:=by decide)
  (hcd:(x==("__classdict__":ak))=aq:=by decide) (hs:fK value (aa (.Subscript (.Name x vp) ke pos')) pos.line X.env=bB aq:=by rfl) :
  DS Γ X (.Assign [.Subscript (.Name x vp) ke pos'] value pos) (eK i fk fv):=⟨(D0 .(f) (iW hN hv hd hcd) hk.1 hv'.1 hs).imp fun E σ H=>by
 rintro⟨G₀,H₀,G,ρ,flw,ρ',A,h,k⟩;unfold eK at h;obtain⟨d,hd,ha⟩:=oBd h;clear h;obtain⟨kd,hkd,hq⟩:=oBd ha;clear ha;refine⟨G₀,H₀,G,ρ,d,A,hd,fun v G1 H1 s1 r1=>?_⟩;have A1:=A.step s1;split at hq
 .rename_i kvs hi;split at hq
  .rename_i t;obtain⟨ks,hks,hq⟩:=oBd hq;split at hq
   .rename_i hz;cases hq;obtain⟨w,fp,h1,h2⟩:=A1.get hi;cases h2 with
    |odt q1 q2 q3 q4 q5=>
     rename_i a us;refine⟨_,h1,G₀,H₀,G1,ρ,_,A1,hkd,fun u G2 H2 s2 r2=>?_⟩;have A2:=A1.step s2;obtain⟨bb,vs,rfl,hb,rb⟩:=r2.tup_inv;have ev:=mS rb hks;subst ev;have ha2:H2 a=aa (.dT us):=s2.hh _ _ q3;have hlen:us.length=kvs.length:=by simpa using cK f8 q4
     obtain⟨w1,w2⟩:=uB (k:=ks) (r1.mono s2.gg) q4 (q5.mono s2.gg);exact⟨a,_,rfl,kc.t ha2 (s2.gh _ _ hb) (by have:=eX;omega),k σ G2 _ (s1.gg.trans s2.gg) (A2.chOdt hi h1 w1 w2)⟩
   .cases hq
  .cases hq
 .rename_i kvs hi;obtain⟨kk,hkk,hq⟩:=oBd hq;split at hq
  .rename_i hz;cases hq;obtain⟨w,fp,h1,h2⟩:=A1.get hi;cases h2 with
   |odk q1 q2 q3 q4 q5=>
    rename_i a us;refine⟨_,h1,G₀,H₀,G1,ρ,_,A1,hkd,fun u G2 H2 s2 r2=>?_⟩;have A2:=A1.step s2;have eu:=lH r2 hkk;subst eu;have ha2:H2 a=aa (.dK us):=s2.hh _ _ q3;have hlen:us.length=kvs.length:=by simpa using cK f8 q4
    obtain⟨w1,w2⟩:=uB (k:=kk) (r1.mono s2.gg) q4 (q5.mono s2.gg);exact⟨a,_,rfl,kc.k ha2 (by have:=eX;omega),k σ G2 _ (s1.gg.trans s2.gg) (A2.chOdk hi h1 w1 w2)⟩
  .cases hq
 .cases hq⟩
end
section
variable {c:ak}
end
section
open PyProof
noncomputable def iN:ac D->ar (ac ag)
 |[]=>aa []
 |.int x::r=>(iN r).map (x::·)
 |_::_=>ab
theorem ur {K:bi} {G:Hp}:∀{vs:ac V} {ds:ac D} {ys:ac ag},Reps Γ K G vs ds->iN ds=aa ys->vs=ys.map V.int
 |_,[],ys,r,h=>by cases r;cases h;rfl
 |_,d::ds,ys,.cons h1 h2,h=>by
  cases d with
  |int x=>
   obtain⟨zs,hz,rfl⟩:=oMd (show(iN ds).map (x::·)=aa ys from h);rw[h1.int_inv,ur h2 hz];rfl
  |_=>cases h
theorem BP:∀{ns:ac ag} {us:ac Value},bK (ns.map V.int) us->us.length=ns.length/\∀(i:al) v,us[i]?=aa v->∃t,v=.int (ns.getD i 0) t
 |[],_,r=>by rw[qN] at r;cases r;exact⟨rfl,fun i v h=>by simp at h⟩
 |n::ns,_,r=>by
  rw[qo] at r;cases r with
  |cons r1 r2=>
   obtain⟨h1,h2⟩:=BP r2;refine⟨by simp[h1],fun i v h=>?_⟩;cases i with
   |zero=>
    obtain⟨t,rfl⟩:=r1;cases h;exact⟨t,rfl⟩
   |succ i=>exact h2 i v h
noncomputable def btI (ns:ac ag) (i j:al):aX:=decide (ns.getD i 0 > ns.getD j 0)
noncomputable def mxI (ns:ac ag):D:=if ns=[] then .non else .int (ns.getD (jR (btI ns) (ns.length-1)) 0)
noncomputable def SE:D->ar D
 |.lst l=>(iN l).map mxI
 |_=>ab
noncomputable def rg:D->ac D->ar D
 |.lst l,[.str x]=>(ie l).bind fun ys=>if ys.findIdx (·==x)<ys.length then aa (.int (ys.findIdx (·==x):al)) else ab
 |_,_=>ab
theorem AR:∀{ns:ac ak} {us:ac Value},bK (ns.map V.str) us->us.length=ns.length/\∀(i:al) v,us[i]?=aa v->∃y t,ns[i]?=aa y/\v=.str y t
 |[],_,r=>by rw[qN] at r;cases r;exact⟨rfl,fun i v h=>by simp at h⟩
 |n::ns,_,r=>by
  rw[qo] at r;cases r with
  |cons r1 r2=>
   obtain⟨h1,h2⟩:=AR r2;refine⟨by simp[h1],fun i v h=>?_⟩;cases i with
   |zero=>
    obtain⟨t,rfl⟩:=r1;cases h;exact⟨n,t,rfl,rfl⟩
   |succ i=>exact h2 i v h
theorem OZ:MtD Γ X "list" "list.index" rg:=by
 refine⟨⟨fun v vs H Q=>∃(a:aw) (ys:ac ak) (x:ak),v=.ref a/\vs=[.str x]/\H a=aa (.lst (ys.map V.str))/\ys.findIdx (·==x)<ys.length/\Q (.int (ys.findIdx (·==x):al)) H,?_,?_⟩,?_⟩
 .intro pins s σ H x xs v us Q I rx rs h;obtain⟨a,ys,x,rfl,rfl,ha,hj,q⟩:=h;cases rx;obtain⟨u,rfl,ru⟩:=dY rs;obtain⟨tu,rfl⟩:=ru;obtain⟨its,n,rv,eo,hz⟩:=I.lst ha;rw[qg] at hz;obtain⟨vl,vi⟩:=AR rv;have hsz:its.toArray.size=ys.length:=by simp[vl]
  have hat:∀(m:al) (hm:m<its.toArray.size),∃y t,ys[m]?=aa y/\its.toArray[m]=.str y t:=fun m hm=>vi m _ (by rw[qC (by simpa using hm)];simp)
  let ef:Value->aX:=fun z=>match z with|.str y _=>y==x|_=>aq
  refine uX RP ⟨_,eo,rfl⟩ F.entry_list_index (F.args_list_index_2 _ _) (SeqAt.list_indexAt a its.toArray n ab #[] (.str x tu) ef (ys.findIdx (·==x)) (by rw[hsz];exact hj) (by unfold aV at hz;omega) ?_ ?_) ⟨eo,fun y hy=>?_,?_⟩
  .obtain⟨y,t,e1,e2⟩:=hat _ (by rw[hsz];exact hj);rw[e2];have:=List.findIdx_getElem (w:=hj);rw[qC hj] at e1;cases e1;exact this
  .intro m hm hlt;obtain⟨y,t,e1,e2⟩:=hat m hm;rw[e2];have hm':m<ys.length:=by rw[←hsz];exact hm
   rw[qC hm'] at e1;cases e1;have:=List.not_of_lt_findIdx hlt;show(ys[m]==x)=aq;simpa using this
  .obtain⟨m,hm,rfl⟩:=Array.mem_iff_getElem.mp hy;obtain⟨z,t,e1,e2⟩:=hat m hm;rw[e2];exact SeqAt.EqAt.str_str z t x tu
  .exact⟨.int _,H,I.tok _,⟨_,rfl⟩,q⟩
 .intro G H v x vs ds z gh r1 r2 h Q k;unfold rg at h;split at h
  .obtain⟨ys,hy,h⟩:=oBd h;split at h
   .rename_i hl;cases h;obtain⟨a,ws,rfl,ha,rw'⟩:=r1.lst_inv;obtain⟨v,rfl,r3⟩:=r2.one;cases r3.str_inv;refine⟨a,ys,_,rfl,rfl,?_,hl,k _ G H (.refl gh) (.int _)⟩;rw[←t5 rw' hy];exact gh _ _ ha
   .cases h
  .cases h
 .intro G H v x ds z gh r h;unfold rg at h;split at h
  .obtain⟨a,ws,rfl,ha,rw'⟩:=r.lst_inv;exact .inl ⟨rfl,ws,.inl (.inl (gh _ _ ha))⟩
  .cases h
end
section
variable {a i:Expr}
theorem Reps.strs {K:bi} {G:Hp}:∀(ns:ac ak),Reps Γ K G (ns.map V.str) (ns.map D.str)
 |[]=>.nil
 |n::r=>.cons (.str n) (Reps.strs r)
end
section
variable {a i:Expr}
end
theorem cV.there {h:Heap} {o:HO} (x:cV P w H h a o):∃u,h.get? a=aa u:=by
 cases o with
 |lst xs=>obtain⟨_,_,_,_,e⟩:=x;exact⟨_,e⟩
 |tup xs=>obtain⟨_,_,_,p,e,_⟩:=x;exact⟨_,e⟩
 |dK kvs=>obtain⟨_,_,_,_,o,_,_,e,_⟩:=x;exact⟨_,e⟩
 |dT kvs=>obtain⟨_,_,_,_,o,_,_,e,_⟩:=x;exact⟨_,e⟩
 |set S n=>obtain⟨o,_,_,_,e,_⟩:=x;exact⟨_,e⟩
 |ins C dx fs=>obtain⟨_,_,_,e,_⟩:=x;exact⟨_,e⟩
 |own y=>obtain⟨_,e⟩:=x;exact⟨_,e⟩
 |xd fs=>obtain⟨_,⟨_,_,_,e,_⟩,_⟩:=x;exact⟨_,e⟩
 |rng lo hi=>obtain⟨_,_,_,e⟩:=x;exact⟨_,e⟩
 |frz ob u=>obtain⟨e,_⟩:=x;exact⟨_,e⟩
 |tbl ps=>exact⟨_,(show h.get? a=aa _ from x)⟩
 |met f y=>exact⟨_,(show h.get? a=aa _ from x)⟩
 |ext φ=>obtain⟨_,⟨_,e⟩,_⟩:=x;exact⟨_,e⟩
theorem Inv.none_of (I:Inv X pins σ H s) (h:∀u,s.heap.get? a=aa u->False):H a=ab:=by
 cases e:H a with
 |none=>rfl
 |some o=>
  obtain⟨u,hu⟩:=(I.hok a o e).there;exact(h u hu).elim
theorem Inv.many (I:Inv X pins σ H s) (k:∀b u,s.heap.get? b=aa u->h'.get? b=aa u) (hs:bO H H') (new:∀b o,H b=ab->H' b=aa o->(∀u,s.heap.get? b=aa u->False)/\cV X.prog X.w H' h' b o) :
  Inv X pins σ H' {s with heap:=h',toks:=t'}:=by
 refine I.un ⟨fun b ob q _ _ _=>k b ob q,fun b ob q _ _ _=>⟨ob.slots,k b ob q⟩,fun b ob q n _=>?_,fun b ob q _=>⟨ob,k b ob q⟩,fun b xs q=>hs _ _ q,fun b o u q=>hs _ _ q,fun b ps q=>⟨#[],by rw[hs _ _ q];simp⟩⟩ fun b o q=>?_
 .cases e:H' b with
  |none=>rfl
  |some o=>exact((new b o n e).1 ob q).elim
 .cases e:H b with
  |none=>exact(new b o e q).2
  |some o'=>
   have:=hs _ _ e;rw[q] at this;cases this;exact(I.hok b o e).stay (fun c v _ r=>k c v r) (fun c r=>hs _ _ r) fun c xs r=>hs _ _ r
variable {p3 p4:dq}
section
variable {a i:Expr}
noncomputable def mq (kb:ac (Key×D)):ac (Key×D)->ar aX
 |[]=>aa ai
 |(k,v)::r=>match ck kb k with
  |none=>aa aq
  |some y=>(eqX v y).bind fun e=>(mq kb r).map (e && ·)
theorem DK {pins:ac (aw×bd)} {σ:St} {G H:Hp} {s:aI} {A:eB} (I:Inv X pins σ H s) (gh:bO G H) (hu:A.in1.units+64<cg) {ub:ac (Key×V)} {kb:ac (Key×D)} {vb:ac (Key×Value)} (eb:ub.map (·.1)=kb.map (·.1)) (rb:Reps Γ X.K G (ub.map (·.2)) (kb.map (·.2))) (qb:KV ub vb) :
  ∀{ua:ac (Key×V)} {ka:ac (Key×D)} {va:ac (Key×Value)} {r:aX},ua.map (·.1)=ka.map (·.1)->Reps Γ X.K G (ua.map (·.2)) (ka.map (·.2))->KV ua va->mq kb ka=aa r->PySem.W.KeqHits A.in1 s vb va r
 |[],[],va,r,_,_,qa,h=>by cases qa;cases h;exact .nil
 |[],_::_,_,_,e,_,_,_=>by cases e
 |_::_,[],_,_,e,_,_,_=>by cases e
 |(k1,v)::ua,(k2,d)::ka,va,r,e,rr,qa,h=>by
  have e1:k1=k2:=(hU e).1;have e2:ua.map (·.1)=ka.map (·.1):=(hU e).2;subst e1;have rr:Reps Γ X.K G (v::ua.map (·.2)) (d::ka.map (·.2)):=rr;cases rr with
  |cons r1 r2=>
   cases qa with
   |cons q1 q2=>
    rename_i w va;obtain⟨kw,vw⟩:=w;obtain⟨z1,z2⟩:=q1
    replace z1:k1=kw:=z1
    subst z1;have rv:=qb.val k1;unfold mq at h;rcases mM (k:=k1) eb rb with⟨n1,n2⟩|⟨y,u,n1,n2,n3⟩
    .rw[n1] at h;cases h;rw[n2] at rv;exact .miss (dU.none_of rv)
    .rw[n1] at h;obtain⟨e,he,h⟩:=oBd h;obtain⟨b,hb,rfl⟩:=oMd h;rw[n2] at rv;obtain⟨u',hu',ru'⟩:=dU.some_of rv;obtain⟨p,q,hp,hq,s1,s2,rfl⟩:=vz he;obtain⟨as,a1⟩:=r1.reads I gh z2 hp;obtain⟨bs,a2⟩:=n3.reads I gh ru' hq;exact .hit hu' (PySem.W.keq_at a1 a2 s1 s2 hu) (DK I gh hu eb rb qb e2 r2 q2 hb)
noncomputable def leS (x y:ak):aX:=!ltS y x
noncomputable def fg (l:ac ak):ac ak:=l.mergeSort leS
theorem iM {y:ak} :leS x y=ai↔x.cps.toList<=y.cps.toList:=by unfold leS ltS;rw[Fn,Fp,RQ]
theorem sW (x y z:ak) (h1:leS x y=ai) (h2:leS y z=ai):leS x z=ai:=iM.mpr (List.le_trans (iM.mp h1) (iM.mp h2))
theorem B0 (x y:ak):(leS x y || leS y x)=ai:=by rw[E1];exact(List.le_total x.cps.toList y.cps.toList).imp iM.mpr iM.mpr
theorem Dx {y:ak} (h1:leS x y=ai) (h2:leS y x=ai):x=y:=by have e:=List.le_antisymm (iM.mp h1) (iM.mp h2);cases x;cases y;simp only at e;rw[Array.toList_inj.mp e]
theorem wu:∀(l:ac ak) (p:ak),risingS p l=ai->(∀a∈l,leS p a=ai)/\l.Pairwise fun a b=>leS a b=ai
 |[],_,_=>⟨fun _ h=>(nomatch h),EV⟩
 |x::r,p,h=>by
  unfold risingS at h;rw[gI,ltCps_eq] at h;obtain⟨h1,h2⟩:=wu r x h.2;have hp:leS p x=ai:=h.1;refine⟨fun a ha=>?_,.cons h1 h2⟩;rcases cM.mp ha with rfl|ha
  .exact hp
  .exact sW _ _ _ hp (h1 a ha)
theorem LY {l:ac ak} (h:sortedS l=ai):l.Pairwise fun a b=>leS a b=ai:=by
 cases l with
 |nil=>exact .nil
 |cons x r=>exact .cons (wu r x h).1 (wu r x h).2
theorem Ha {l l':ac ak} (hp:l'.Perm l) (hs:sortedS l'=ai):l'=fg l:=
 RS (le:=fun a b=>leS a b=ai) (fun a b _ _ h1 h2=>Dx h1 h2) (LY hs) (zB sW B0 l) (hp.trans (kK l leS).symm)
theorem Ar:∀{vs:ac Value} {ss:ac ak},StrsAre vs ss->bK (ss.map V.str) vs
 |_,_,.nil=>.nil
 |_,_,.cons x t r=>.cons ⟨t,rfl⟩ (Ar r)
end
section
variable {a i:Expr}
theorem LW {k:Key} (h:(cr P w).is k u=ai):bx (kV k) u:=by
 rcases iK (k:=k) (v:=u) h with⟨i,t,rfl,rfl⟩|⟨x,t,rfl,rfl⟩
 .exact⟨t,rfl⟩
 .exact⟨t,rfl⟩
theorem Hc (k:Key):Rep Γ K G (kV k) (vS k):=by
 cases k with
 |inl i=>exact .int i
 |inr x=>exact .str x
noncomputable def uj:D->ar D
 |.int i=>aa (.int (-i))
 |_=>ab
end
noncomputable def SD (i:al):FS:=fun ρ=>match ρ[i]? with
 |some (aa (.odk kvs))=>aa (.od kvs,ρ)
 |_=>ab
theorem At.setOdkV (A:At Γ K G₀ H₀ G H ρ σ) {us:ac (Key×V)} {kvs:ac (Key×D)} (ha:H a=ab) (ek:us.map (·.1)=kvs.map (·.1)) (rr:Reps Γ K G (us.map (·.2)) (kvs.map (·.2))):At Γ K G₀ H₀ G (upd H a (.dK us)) (ρ.set i (aa (.odk kvs))) (σ.set i (aa (.ref a))):=by have h0:H₀ a=ab:=A.st.hh.free ha;have hg:G a=ab:=A.gh.free ha;refine A.put (fp:=[]) (fp':=[a]) (.inl rfl) (fun b o e _=>by rw[a4 (b7 e ha)];exact e) (.odk h0 hg bW ek rr) (fun b hb=>.inr (by rw[bX.mp hb];exact ha)) (.refl _) (fun b o e=>?_) (fun _ _ _ _=>rfl) (fun b hb=>by cases hb);rw[a4 (b7 e hg)];exact A.gh b o e
noncomputable def pr (i:al) (ft:FT):FT:=fun ρ=>match ρ[i]? with
 |some (aa (.odk kvs))=>ft (ρ.set i (aa (.sh (.dk kvs))))
 |_=>ab
theorem Qf (i:al) (h:DT Γ X c ft):DT Γ X c (pr i ft):=⟨h.1.imp fun σ H Q=>by
 rintro⟨G₀,H₀,G,ρ,b,A,h,k⟩;unfold pr at h;split at h
 .rename_i kvs hi;obtain⟨G1,sm,A1⟩:=A.frzD hi (d:=.dk kvs) rfl;exact⟨G₀,H₀,G1,_,b,A1,h,fun G' H' s=>k G H' (s.back A.gh sm)⟩
 .cases h⟩
theorem Inv.frz {a:aw} {us:ac (Key×V)} {o:bd} (I:Inv X pins σ H s) (e:H a=aa (.dK us)) (ho:s.heap.get? a=aa o):Inv X pins σ (upd H a (.frz o (.dK us))) s:=by
 have ne:∀b u,H b=aa u->u≠.dK us->b≠a:=fun b u q n z=>by rw[z,e] at q;cases q;exact n rfl
 have st:∀{b:aw} {u:HO},cV X.prog X.w H s.heap b u->cV X.prog X.w (upd H a (.frz o (.dK us))) s.heap b u:=fun x=>
  x.stay (fun c v _ r=>r) (fun c r=>by rw[a4 (ne c _ r (by intro z;cases z))];exact r) fun c xs r=>by rw[a4 (ne c _ r (by intro z;cases z))];exact r
 refine I.un (t':=s.toks) (h':=s.heap) ⟨fun b ob q _ _ _=>q,fun b ob q _ _ _=>⟨ob.slots,q⟩,fun b ob q n _=>?_,fun b ob q _=>⟨ob,q⟩,fun b xs q=>?_,fun b o u q=>?_,fun b ps q=>⟨#[],?_⟩⟩ fun b u q=>?_
 .rw[a4 (fun z=>by rw[z,e] at n;cases n)];exact n
 .rw[a4 (ne b _ q (by intro z;cases z))];exact q
 .rw[a4 (ne b _ q (by intro z;cases z))];exact q
 .rw[a4 (ne b _ q (by intro z;cases z)),q];simp
 .by_cases hb:b=a
  .subst hb;rw[bW] at q;cases q;exact⟨ho,st (I.hok b _ e)⟩
  .rw[a4 hb] at q;exact st (I.hok b u q)
noncomputable def Itv (a:aw) (o:bd) (us:ac (Key×V)):It:=
 ⟨fun i H=>H a=aa (.frz o (.dK us))/\i<us.length,fun i H v H'=>H'=H/\∃kv,us[i]?=aa kv/\v=kv.2,fun i H=>H a=aa (.frz o (.dK us))/\i=us.length⟩
theorem Cc:∀{us:ac (Key×V)} {va:ac (Key×Value)} {i:al} {k:Key} {v:Value},KV us va->va[i]?=aa (k,v)->∃kv,us[i]?=aa kv/\bx kv.2 v:=by
 intro us va i k v r
 induction r generalizing i with
 |nil=>intro e;simp at e
 |cons h t ih=>
  intro e;cases i with
  |zero=>simp at e;subst e;exact⟨_,rfl,h.2⟩
  |succ j=>
   obtain⟨p,z1,z2⟩:=ih (i:=j) (by simpa using e);exact⟨p,by simpa using z1,z2⟩
theorem GW (a it:aw) (o:bd) (us:ac (Key×V)) (va:ac (Key×Value)) (ep:al) (hne:a≠it) (hd:∀h:Heap,h.get? a=aa o->h.DictAt (cr P w) a va ep) (kv:KV us va) :
  Turn P w K tg (Itv a o us) [it] it (fun i h=>h.IsValIter it a i va.length ep) where
 mem:=by simp
 obj:=fun i h st b hb=>by
  have e:b=it:=by simpa using hb
  subst e;obtain⟨o,e,c,d⟩:=st;exact⟨o,e,fun v z=>by rw[d] at z;cases z⟩
 keep:=fun i h h' st k=>by obtain⟨o,e,r⟩:=st;exact⟨o,k it (by simp) o e,r⟩
 item:=by intro X hP hw hK hc i pins s σ H E I hf st hg;subst hP hw hK;obtain⟨hfr,hi⟩:=hg;obtain⟨f0,f1,f2,f3,f4,f5⟩:=hf it (by simp);have ho:s.heap.get? a=aa o:=(I.hok a _ hfr).1;refine(RT (knd:=cr X.prog X.w) (I.ok.hd hc) it a hne va ep).item i s _ _ (by rw[←kv.length];exact hi) ⟨st,hd _ ho⟩ fun v h' tk hv st' kk=>?_;obtain⟨k,hk⟩:=hv;obtain⟨p,hp1,hp2⟩:=Cc kv hk;have I1:Inv X pins σ H {s with heap:=h',toks:=tk}:=I.turned .(av) f0 f1 f3 f4 f5;obtain⟨oi,e,c,d⟩:=id st'.1;exact⟨v,rfl,pd (s:={s with heap:=h',toks:=tk}) e c d .(g) ⟨p.2,H,I1,hp2,⟨rfl,p,hp1,rfl⟩,st'.1,fun b hb=>(hf b hb).1⟩⟩
 done:=by
  intro X hP hw hK hc i pins s σ H E I hf st hg;subst hP hw hK;obtain⟨hfr,hi⟩:=hg;obtain⟨f0,f1,f2,f3,f4,f5⟩:=hf it (by simp);have ho:s.heap.get? a=aa o:=(I.hok a _ hfr).1;have hi':i=va.length:=by rw[←kv.length];exact hi
  subst hi';exact(RT (knd:=cr X.prog X.w) (I.ok.hd hc) it a hne va ep).done s _ _ ⟨st,hd _ ho⟩ fun h' tk kk=>⟨rfl,I.turned .(av) f0 f1 f3 f4 f5⟩
 self:=fun _ _ _ _ _ st h=>wpAny_pyIter_valiter st h
namespace Law
noncomputable abbrev oS (d:D):ar Slot:=aa (.sh d)
end Law
noncomputable abbrev FQ:=ac D->ar D
namespace Law
theorem dC {k:al} {F:FQ} (C:Cal Γ X.prog X.w X.K X.mg X.base x n k F) (hr:Room j X.A) (ha:DA Γ X (e::es) fr) (hn:∀ρ ds,fr ρ=aa ds->ds.length=n) (hk:k<=j:=by decide) (hg:Gl X x:=by exact rfl) (hdb:.(E)=aq:=by decide) (he:a6 (e::es) X.env=(aq,eval e X.env)::a6 es X.env:=by rfl) (hpl:(cC pos (a6 es X.env)).any (·.1)=aq:=by rfl):DE Γ X .(ax) (cF F fr):=jx C hr hk hg ha hn hdb he hpl
theorem bh {P:ac ak} (a:sc.kind=.function:=by rfl) (b:sc.isCoroutine=aq:=by rfl) (c:sc.isGenerator=aq:=by rfl) (d:N.Nodup:=by decide +kernel) (e:N.take P.length=P:=by rfl) (f:∀x∈P,sc.names.lookup x=aa .local∨sc.names.lookup x=aa .cell:=by decide +kernel) (g:∀y∈sc.names,y.2≠.free:=by decide +kernel):FnScope N P sc:=⟨a,b,c,d,e,f,g⟩
end Law
variable {s₀:aI}
section
variable {f:aw} {E:XK}
 {pins:ac (aw×bd)} {σ:St} {H:Hp} {s:aI} {h1:Heap} {e:aw} {cls:Value} {vs:ac Value}
end
section
variable {f:aw} {E:XK}
 {R:Hp->Prop} {n:c9} {x:ak} {np cpos pos:dq} {e₀:Expr} {bY:ac Expr} {fr:FA} {Bn newId initId:c9} {bmB:ac Value}
end
section
open PySem.W Builtin Builtin.ObjectAttr Builtin.Getset_descriptor
end
section
variable {a i:Expr}
end
section
variable {a:Expr}
theorem GK (h:DE Γ X a fa):DE Γ X (.UnaryOp .USub a pos) (b1 uj fa):=⟨fun pins s σ H Q I=>by
 rintro⟨G₀,H₀,G,ρ,d,A,hq,k⟩;unfold b1 at hq;obtain⟨x,hx,hq⟩:=oBd hq;refine UnaryOp_ (thn (h.1 pins s σ H (fun v H'=>∃G',Step G H G' H'/\Rep Γ X.K G' v x) I ⟨G₀,H₀,G,ρ,x,A,hx,fun v G' H' st r=>⟨G',st,r⟩⟩) fun v s1 ⟨v',H1,I1,r1,G1,st,rp⟩=>?_);unfold uj at hq;split at hq
 .cases hq;cases rp.int_inv;obtain⟨t,rfl⟩:=r1;exact Tt ⟨.int _,H1,I1.tok _,⟨_,rfl⟩,k _ G1 H1 st (.int _)⟩
 .cases hq⟩
end
noncomputable def del (G:Hp) (a:aw):Hp:=fun b=>if b=a then ab else G b
section
variable {f:aw} {E:XK}
 {pins:ac (aw×bd)} {σ:St} {H:Hp} {s:aI} {e C t dx:aw}
end
section
variable {f CS fI:aw} {E:XK}
 {R:ak->Hp->Prop} {x fl:ak} {np cpos pos:dq} {e₀:Expr} {fr:FA} {k j:al}
end
section
open PyProof
end
section
open PyProof
end
section
variable {a:Expr}
end
section
open PyProof
end
section
open PyProof
end
section
open PyProof
theorem Dw:∀{xs:ac V} {us:ac Value},xs.length=us.length->(∀(j:al) x u,xs[j]?=aa x->us[j]?=aa u->bx x u)->bK xs us
 |[],[],_,_=>.nil
 |[],_::_,e,_=>by cases e
 |_::_,[],e,_=>by cases e
 |x::xs,u::us,e,h=>.cons (h 0 x u rfl rfl) (Dw (by simpa using e) fun j y v h1 h2=>h (j+1) y v h1 h2)
end
section
open PyProof
noncomputable def Itk (a:aw) (o:bd) (us:ac (Key×V)):It:=
 ⟨fun i H=>H a=aa (.frz o (.dK us))/\i<us.length,fun i H v H'=>H'=H/\∃kv,us[i]?=aa kv/\v=kV kv.1,fun i H=>H a=aa (.frz o (.dK us))/\i=us.length⟩
theorem OG (a it:aw) (o:bd) (us:ac (Key×V)) (va:ac (Key×Value)) (ep:al) (hne:a≠it) (hd:∀h:Heap,h.get? a=aa o->h.DictAt (cr P w) a va ep) (kv:KV us va) :
  Turn P w K tg (Itk a o us) [it] it (fun i h=>h.IsKeyIter it a i va.length ep) where
 mem:=by simp
 obj:=fun i h st b hb=>by
  have e:b=it:=by simpa using hb
  subst e;obtain⟨o,e,c,d⟩:=st;exact⟨o,e,fun v z=>by rw[d] at z;cases z⟩
 keep:=fun i h h' st k=>by obtain⟨o,e,r⟩:=st;exact⟨o,k it (by simp) o e,r⟩
 item:=by
  intro X hP hw hK hc i pins s σ H E I hf st hg;subst hP hw hK;obtain⟨hfr,hi⟩:=hg;obtain⟨f0,f1,f2,f3,f4,f5⟩:=hf it (by simp);have ho:s.heap.get? a=aa o:=(I.hok a _ hfr).1;refine(RU (knd:=cr X.prog X.w) (I.ok.hd hc) it a hne va ep).item i s _ _ (by rw[←kv.length];exact hi) ⟨st,hd _ ho⟩ fun v h' tk hv st' kk=>?_;obtain⟨k,x,hk,hr⟩:=hv;have hp:(us.map (·.1))[i]?=(va.map (·.1))[i]?:=by rw[kv.keys]
  rw[ql,ql,hk] at hp;obtain⟨p,hp1,hp2⟩:=oMd hp;have hp3:p.1=k:=hp2;have I1:Inv X pins σ H {s with heap:=h',toks:=tk}:=I.turned .(av) f0 f1 f3 f4 f5;obtain⟨oi,e,c,d⟩:=id st'.1;exact⟨v,rfl,pd (s:={s with heap:=h',toks:=tk}) e c d .(g) ⟨kV p.1,H,I1,by rw[hp3];exact LW hr,⟨rfl,p,hp1,rfl⟩,st'.1,fun b hb=>(hf b hb).1⟩⟩
 done:=by
  intro X hP hw hK hc i pins s σ H E I hf st hg;subst hP hw hK;obtain⟨hfr,hi⟩:=hg;obtain⟨f0,f1,f2,f3,f4,f5⟩:=hf it (by simp);have ho:s.heap.get? a=aa o:=(I.hok a _ hfr).1;have hi':i=va.length:=by rw[←kv.length];exact hi
  subst hi';exact(RU (knd:=cr X.prog X.w) (I.ok.hd hc) it a hne va ep).done s _ _ ⟨st,hd _ ho⟩ fun h' tk kk=>⟨rfl,I.turned .(av) f0 f1 f3 f4 f5⟩
 self:=fun _ _ _ _ _ st h=>wpAny_pyIter_keyiter st h
noncomputable def xF:D->ar (ac D)
 |.fdk kvs=>aa (kvs.map fun kv=>vS kv.1)
 |_=>ab
noncomputable def itK (f:FE):FA:=fun ρ=>(f ρ).bind xF
theorem Nu (he:PE X iter te):PI X tg iter (fun σ H R=>te σ H fun x H1=>∃(a:aw) (o:bd) (us:ac (Key×V)),x=.ref a/\H1 a=aa (.frz o (.dK us))/\R (Itk a o us) H1):=by
 intro pins s σ H R I h;refine thn (he pins s σ H _ I h) fun v s1 ⟨x,H1,I1,r1,a,o,us,e,ha,q⟩=>?_;subst e;cases r1;obtain⟨z,md,va,qa,da⟩:=gi I1.hok (.inr ⟨o,ha⟩);obtain⟨ep,hat⟩:=da.dictAt;have ho:s1.heap.get? a=aa o:=(I1.hok a _ ha).1;refine wpAny_pyIter_dict md hat ?_;refine⟨s1.heap.objs.size,[s1.heap.objs.size],_,_,H1,rfl,I1.kept (t':=s1.toks) fun b u e=>qu _ e,OG a s1.heap.objs.size o us va ep (qB (qv ho)) (fun h' e=>hat.at' fun o' e'=>by rw[ho] at e';cases e';exact e) qa,⟨_,qF _ rfl,rfl,rfl⟩,fun b hb=>?_,q⟩;have e:b=s1.heap.objs.size:=by simpa using hb
 subst e;exact I1.fpOk (qw _) (I1.hok.fresh (qw _))
theorem wv (h:DE Γ X iter f):DI Γ X tg iter (itK f):=⟨(Nu h.1).imp fun σ H R=>by
 rintro⟨G₀,H₀,G,ρ,ds,A,h,k⟩;unfold itK at h;obtain⟨d,hd,h⟩:=oBd h;refine⟨G₀,H₀,G,ρ,d,A,hd,fun v G' H' s r=>?_⟩;unfold xF at h;split at h
 .cases h;cases r with
  |fdk h1 h2 h3=>
   rename_i kvs a o us;have hln:us.length=kvs.length:=by simpa using cK f8 h2
   refine⟨_,_,_,rfl,s.gh _ _ h1,k _ G' H' s ⟨fun i d G2 H2 hd g1 g2=>?_,fun G2 H2 g1 g2=>⟨g2 _ _ (g1 _ _ h1),by rw[qg,hln]⟩⟩⟩;rw[ql] at hd;obtain⟨kd,hkd,rfl⟩:=oMd hd;have hi:i<us.length:=by rw[hln];exact(cX.mp hkd).1
   refine⟨⟨g2 _ _ (g1 _ _ h1),hi⟩,fun x H3 ⟨e1,kv,hkv,ev⟩=>?_⟩;subst e1 ev;have ek:kv.1=kd.1:=by have:=cK (fun l=>l[i]?) h2;simp only[ql,hkv,hkd,qf,RV] at this;exact this
   exact⟨G2,.refl g2,by rw[ek];exact Hc _⟩
 .cases h⟩
end
section
open PyProof
theorem Bi (hc:X.calm=ai):dB X (.type "dict") (fun xs H Q=>∃(a:aw) (us:ac (Key×V)),xs=[.ref a]/\Rd H a (.dK us)/\∀p,H p=ab->Q (.ref p) (upd H p (.dK us))):=by
 intro pins s σ H xs vs Q I r h;obtain⟨a,us,rfl,ha,q⟩:=h;obtain⟨u,rfl,ru⟩:=dY r;cases ru;obtain⟨z,md,va,qa,da⟩:=gi I.hok ha;have hlen:us.length=va.length:=qa.length;refine kt_call_dict (knd:=cr X.prog X.w) (more:=va) md da .(f) fun h' hd hs=>?_;refine⟨.ref s.heap.objs.size,_,I.laid (a:=s.heap.objs.size) (o:=.dK us) (fun b u e=>?_) (qw _) ⟨z,?_,va,qa,hd⟩,rfl,q _ I.fresh⟩
 .exact(hs.2 b (qB (qv e))).trans (qu _ e)
 .exact mW.mpr (dF (qB I.big))
noncomputable def sD:FQ
 |[.dk l]=>aa (.fdk l)
 |[.fdk l]=>aa (.fdk l)
 |_=>ab
theorem Nr (hc:X.calm=ai):dB X (.type "dict") (fun xs H Q=>∃(a:aw) (us:ac (Key×V)),xs=[.ref a]/\Rd H a (.dK us)/\∀p o,H p=ab->Q (.ref p) (upd H p (.frz o (.dK us)))):=by intro pins s σ H xs us Q I r h;obtain⟨a,ks,e,ha,q⟩:=h;refine thn (Bi hc pins s σ H xs us (fun v H'=>∃p,v=.ref p/\H p=ab/\H'=upd H p (.dK ks)) I r ⟨a,ks,e,ha,fun p hp=>⟨p,rfl,hp,rfl⟩⟩) fun v s1 ⟨x,H1,I1,r1,p,e1,hp,e2⟩=>?_;subst e1 e2;obtain⟨o,ho⟩:=(I1.hok p _ bW).there;have I2:=I1.frz bW ho;rw[Cj] at I2;exact⟨.ref p,_,I2,r1,q p o hp⟩
theorem L4 (hc:X.calm=ai):TyD Γ X "dict" sD:=⟨_,Nr hc,fun {G H vs ds z} gh r h Q k=>by
 have fin:∀{a:aw} {us:ac (Key×V)} {l:ac (Key×D)},Rd H a (.dK us)->us.map (·.1)=l.map (·.1)->Reps Γ X.K G (us.map (·.2)) (l.map (·.2))->z=.fdk l->vs=[.ref a]->∃(a:aw) (us:ac (Key×V)),vs=[.ref a]/\Rd H a (.dK us)/\∀p o,H p=ab->Q (.ref p) (upd H p (.frz o (.dK us))):=fun {a us l} ha e1 e2 e3 e4=>by subst e3;refine⟨a,us,e4,ha,fun p o hp=>?_⟩;have s:=Step.new (o:=.frz o (.dK us)) gh hp;exact k _ _ _ s (.fdk bW e1 (e2.mono s.gg))
 unfold sD at h;split at h
 .cases h;obtain⟨v,rfl,r1⟩:=r.one;cases r1 with
  |dk h1 h2 h3=>exact fin (.inl (gh _ _ h1)) h2 h3 rfl rfl
 .cases h;obtain⟨v,rfl,r1⟩:=r.one;cases r1 with
  |fdk h1 h2 h3=>exact fin (.inr ⟨_,gh _ _ h1⟩) h2 h3 rfl rfl
 .cases h⟩
noncomputable def oe (i:al) (f:FE):FS:=fun ρ=>(f ρ).bind fun d=>match d with
 |.dk l=>aa (.nx,ρ.set i (aa (.odk l)))
 |.fdk l=>aa (.nx,ρ.set i (aa (.odk l)))
 |_=>ab
theorem yh (i:al) (hN:X.N.Nodup) (hc:X.calm=ai) (hg:Gl X "dict") (hm:X.mg "dict"=ab) (h:DE Γ X e f) (he:a6 [e] X.env=(aq,eval e X.env)::a6 [] X.env:=by rfl) (hpl:(cC p2 (a6 [] X.env)).any (·.1)=aq:=by rfl)
  (hi:X.N[i]?=aa x:=by rfl) (hx:Loc X.env.scope x:=by first|exact di rfl|exact cG rfl) (hs:fK (.Call (.Name "dict" p) [e] [] p2) (aa (.Name x pos')) pos.line X.env=bB aq:=by rfl) (hf:X.fn x=ai\/X.env.scope.names.lookup x=aa .local:=by first|exact .inl rfl|exact .inr rfl|assumption) :
  DS Γ X (.Assign [.Name x pos'] (.Call (.Name "dict" p) [e] [] p2) pos) (oe i f):=⟨(uk hN hi hx (pK (Bi hc) hg hm (by rfl) (jq h.1 jI he) .(g) .(g) he hpl) hs hf).imp fun E σ H=>by
 rintro⟨G₀,H₀,G,ρ,fl,ρ',A,h,k⟩;unfold oe at h;obtain⟨d,hd,h⟩:=oBd h;refine⟨G₀,H₀,G,ρ,d,A,hd,fun v G1 H1 s1 r1=>?_⟩;have A2:=A.step s1;split at h
 .cases h;cases r1 with
  |dk h1 h2 h3=>exact⟨_,_,rfl,.inl (A2.gh _ _ h1),fun p hp=>k _ G1 _ s1.gg (A2.setOdkV hp h2 h3)⟩
 .cases h;cases r1 with
  |fdk h1 h2 h3=>exact⟨_,_,rfl,.inr ⟨_,A2.gh _ _ h1⟩,fun p hp=>k _ G1 _ s1.gg (A2.setOdkV hp h2 h3)⟩
 .cases h⟩
noncomputable def iC (i:al) (g:FS):FS:=fun ρ=>match ρ[i]? with
 |some (aa (.odk kvs))=>g (ρ.set i (aa (.sh (.fdk kvs))))
 |_=>ab
theorem n8 (i:al) (h:DSs Γ X sts g):DSs Γ X sts (iC i g):=⟨fun pins s σ H E I q=>by
 obtain⟨G₀,H₀,G,ρ,fl,ρ',A,hq,k⟩:=q;unfold iC at hq;split at hq
 .rename_i kvs hi;obtain⟨v,fp,h1,h2⟩:=A.get hi;cases h2 with
  |odk q1 q2 q3 q4 q5=>
   rename_i a us;obtain⟨ob,hob⟩:=(I.hok a _ q3).there;have I1:=I.frz q3 hob;have sm1:bO G (upd G a (.frz ob (.dK us))):=fun b u e=>by rw[a4 (b7 e q2)];exact e
   have hH1:∀b u,b≠a->H b=aa u->upd H a (.frz ob (.dK us)) b=aa u:=fun b u hb e=>by rw[a4 hb];exact e
   have A1:At Γ X.K G₀ H₀ (upd G a (.frz ob (.dK us))) (upd H a (.frz ob (.dK us))) (ρ.set i (aa (.sh (.fdk kvs)))) σ:=by
    refine A.ch hi h1 (.odk q1 q2 q3 q4 q5) (fun b u e hb=>hH1 b u (fun z=>hb (bX.mpr z)) e) (.sh (.fdk bW q4 (q5.mono sm1))) (fun b hb=>by cases hb) sm1 (fun b u e=>?_) (fun b u e hb=>?_)
    .by_cases hba:b=a
     .subst hba;rw[bW] at e ⊢;exact e
     .rw[a4 hba] at e;exact hH1 b u hba (A.gh b u e)
    .rw[a4 (fun z=>hb (bX.mpr z))]
   exact h.1 pins s σ _ E I1 ⟨G₀,H₀,_,_,fl,ρ',A1,hq,fun σ1 G1 H1 sm2 A2=>k σ1 G1 H1 (sm1.trans sm2) A2⟩
 .cases hq⟩
end
section
open PyProof
section
variable {id:c9} {r:V->ac V->Hp->VK->Prop}
theorem Ib (slot:u3 "dict" name id) (hty:typeOf (.builtin id)=bB (.type "method_descriptor")) (hm:MtR X id r) (ho:PE X o to)
  (hbase:gx o name X.env (eval o X.env)=eval o X.env:=by rfl) (hline:(apos.endLine==cpos.line)=ai:=by rfl):PE X (.Call (.Attribute o name apos) [] [] cpos) (fun σ H Q=>to σ H fun x H1=>∃a,x=.ref a/\IsD H1 a/\r x [] H1 Q):=by
 intro pins s σ H Q I h;refine wpAny_Call_method0_late hbase hline (thn (ho pins s σ H _ I h) fun v s1 ⟨x,H1,I1,r1,a,ex,d,q1⟩=>?_);subst ex;obtain rfl:v=cc a:=r1;obtain⟨t1,t2,_⟩:=sq I1 d;exact⟨"dict",id,yY,slot,hty,t1,t2,uW rfl (PySem.evalArgs_none (hm pins s1 σ H1 (.ref a) [] (.ref a) [] Q I1 rfl .nil q1))⟩
noncomputable def v5:V->ac V->Hp->VK->Prop:=fun v vs H Q=>∃(d:aw) (us:ac (Key×V)),v=.ref d/\vs=[]/\Rd H d (.dK us)/\∀q,H q=ab->Q (.ref q) (upd H q (.ext fun h=>h.IsValuesView q d))
theorem Md:MtR X "dict.values" v5:=by intro pins s σ H x xs v us Q I rx rs h;obtain⟨d,us,rfl,rfl,hd,q⟩:=h;cases rx;cases rs;obtain⟨z,md,va,qa,da⟩:=gi I.hok hd;refine oO RW da.typeIs PySem.F.entry_dict_values (PySem.F.args_dict_values_1 _) (meets_dict_values (cr X.prog X.w) d md) ⟨⟨va,da⟩,?_⟩;refine⟨.ref s.heap.objs.size,_,I.laid (t':=s.toks) (o:=.ext fun h=>h.IsValuesView s.heap.objs.size d) (fun b u e=>qu _ e) (qw _) ⟨⟨_,qF _ rfl,rfl,rfl⟩,⟨_,qF _ rfl⟩,fun h1 h2 q k=>?_⟩,rfl,q _ I.fresh⟩;obtain⟨ob,e,r⟩:=q;exact⟨ob,k ob e,r⟩
theorem A9 (ho:PE X o to) (hbase:gx o "values" X.env (eval o X.env)=eval o X.env:=by rfl) (hline:(apos.endLine==cpos.line)=ai:=by rfl):PE X (.Call (.Attribute o "values" apos) [] [] cpos) (fun σ H Q=>to σ H fun x H1=>∃a,x=.ref a/\IsD H1 a/\v5 x [] H1 Q):=Ib RW PySem.F.type_dict_values Md ho hbase hline
noncomputable def D7:D->ar (ac D)
 |.fdk kvs=>aa (kvs.map (·.2))
 |_=>ab
noncomputable def itV (f:FE):FA:=fun ρ=>(f ρ).bind D7
noncomputable def zQ (R:It->Hp->Prop):VK:=fun v H'=>∃(a:aw) (oa:bd) (us:ac (Key×V)) (q:aw) (H1:Hp),v=.ref q/\H1 a=aa (.frz oa (.dK us))/\H1 q=ab/\H'=upd H1 q (.ext fun h=>h.IsValuesView q a)/\R (Itv a oa us) H'
theorem GC (ho:PE X o to) (hbase:gx o "values" X.env (eval o X.env)=eval o X.env:=by rfl) (hline:(apos.endLine==cpos.line)=ai:=by rfl) :
  PI X tg (.Call (.Attribute o "values" apos) [] [] cpos) (fun σ H R=>to σ H fun x H1=>∃a,x=.ref a/\IsD H1 a/\v5 x [] H1 (zQ R)):=by
 intro pins s σ H R I h;refine thn (A9 ho hbase hline pins s σ H (zQ R) I h) fun v s1 ⟨v',H2,I2,r2,a,oa,us,q,H1,e1,ha,hq,e2,k⟩=>?_;subst e1;cases r2;have nqa:a≠q:=b7 ha hq;have ha2:H2 a=aa (.frz oa (.dK us)):=by rw[e2,a4 nqa];exact ha
 have hq2:H2 q=aa (.ext fun h=>h.IsValuesView q a):=by rw[e2,bW]
 obtain⟨z,md,va,qa,da⟩:=gi I2.hok (.inr ⟨oa,ha2⟩);obtain⟨ep,hat⟩:=da.dictAt;have hoa:s1.heap.get? a=aa oa:=(I2.hok a _ ha2).1;have hview:s1.heap.IsValuesView q a:=(I2.hok q _ hq2).1;refine wpAny_pyIter_values hview hat ?_;refine⟨s1.heap.objs.size,[s1.heap.objs.size],_,_,H2,rfl,I2.kept (t':=s1.toks) fun b u e=>qu _ e,GW a s1.heap.objs.size oa us va ep (qB (qv hoa)) (fun h' e=>hat.at' fun o' e'=>by rw[hoa] at e';cases e';exact e) qa,⟨_,qF _ rfl,rfl,rfl⟩,fun b hb=>?_,k⟩;have e:b=s1.heap.objs.size:=by simpa using hb
 subst e;exact I2.fpOk (qw _) (I2.hok.fresh (qw _))
theorem Ja (h:DE Γ X o fo) (hbase:gx o "values" X.env (eval o X.env)=eval o X.env:=by rfl) (hline:(apos.endLine==cpos.line)=ai:=by rfl):DI Γ X tg (.Call (.Attribute o "values" apos) [] [] cpos) (itV fo):=⟨(GC h.1 hbase hline).imp fun σ H R=>by
 rintro⟨G₀,H₀,G,ρ,ds,A,h,k⟩;unfold itV at h;obtain⟨d,hd,h⟩:=oBd h;refine⟨G₀,H₀,G,ρ,d,A,hd,fun v G' H' s r=>?_⟩;unfold D7 at h;split at h
 .cases h;cases r with
  |fdk h1 h2 h3=>
   rename_i kvs a oa us;have hln:us.length=kvs.length:=by simpa using cK f8 h2
   refine⟨_,rfl,.inl ⟨_,.inr ⟨_,s.gh _ _ h1⟩⟩,_,_,rfl,rfl,.inr ⟨_,s.gh _ _ h1⟩,fun q hq=>⟨_,_,_,q,H',rfl,s.gh _ _ h1,hq,rfl,?_⟩⟩;have s2:=Step.newOwn (o:=.ext fun h=>h.IsValuesView q a) s.gh hq;refine k _ _ _ (s.trans s2) ⟨fun i d G2 H2 hd g1 g2=>?_,fun G2 H2 g1 g2=>⟨g2 _ _ (g1 _ _ h1),by rw[qg,hln]⟩⟩;have hi:i<us.length:=by rw[hln];have:=(cX.mp hd).1;rwa [qg] at this
   refine⟨⟨g2 _ _ (g1 _ _ h1),hi⟩,fun x H3 ⟨e1,kv,hkv,ev⟩=>?_⟩;subst e1 ev;refine⟨G2,.refl g2,?_⟩;obtain⟨d',e1,e2⟩:=(h3.mono g1).getV (i:=i) (v:=kv.2) (by rw[ql,hkv];rfl);rw[hd] at e1;cases e1;exact e2
 .cases h⟩
theorem NV (hc:X.calm=ai):dB X (.type "list") (fun xs H Q=>∃(q d:aw) (us:ac (Key×V)),xs=[.ref q]/\H q=aa (.ext fun h=>h.IsValuesView q d)/\Rd H d (.dK us)/\∀p,H p=ab->Q (.ref p) (upd H p (.lst (us.map (·.2))))):=by
 intro pins s σ H xs vs Q I r h;obtain⟨v,a,us,rfl,hv,ha,q⟩:=h;obtain⟨u,rfl,ru⟩:=dY r;cases ru;obtain⟨z,md,va,qa,da⟩:=gi I.hok ha;obtain⟨ep,hat⟩:=da.dictAt;have hlen:us.length=va.length:=qa.length;have hview:s.heap.IsValuesView v a:=(I.hok v _ hv).1;refine PySem.W.kdl_call (PySem.W.kdl_values (knd:=cr X.prog X.w) (kvs:=va) (ep:=ep)) (I.ok.hd hc) ⟨hview,hat⟩ .(f) fun h' tk acc c hk hL hacc=>?_;have hl2:acc.toList.length=va.length:=by rw[fJ];exact hacc.1
 have hno:∀u,s.heap.get? s.heap.objs.size=aa u->False:=fun u e=>kx _ (qv e);have hn:=I.none_of hno;refine⟨.ref s.heap.objs.size,upd H s.heap.objs.size (.lst (us.map (·.2))),I.many (t':=tk) hk (fun b o e=>by rw[a4 (b7 e hn)];exact e) (fun b o e1 e2=>?_),rfl,q _ hn⟩;by_cases hb:b=s.heap.objs.size
 .subst hb;rw[bW] at e2;cases e2;refine⟨hno,by rw[qg];exact z,acc.toList,c,Dw (by rw[qg,hl2,hlen]) fun j x u h1 h2=>?_,by rw[zC];exact hL⟩;obtain⟨k,g1⟩:=hacc.2 j u (by rw[←qH];exact h2);obtain⟨p,g3,g4⟩:=Cc qa g1;rw[ql,g3] at h1;cases h1;exact g4
 .rw[a4 hb,e1] at e2;cases e2
noncomputable def vK:D->ar D
 |.fdk kvs=>aa (.lst (kvs.map (·.2)))
 |_=>ab
theorem OR (hc:X.calm=ai) (hg:Gl X "list") (hm:X.mg "list"=ab) (ho:DE Γ X o fo) (hbase:gx o "values" X.env (eval o X.env)=eval o X.env:=by rfl) (hline:(apos.endLine==cpos.line)=ai:=by rfl)
  (he:a6 [.Call (.Attribute o "values" apos) [] [] cpos] X.env=(aq,eval (.Call (.Attribute o "values" apos) [] [] cpos) X.env)::a6 [] X.env:=by rfl) (hpl:(cC pos (a6 [] X.env)).any (·.1)=aq:=by rfl) :
  DE Γ X (.Call (.Name "list" p) [.Call (.Attribute o "values" apos) [] [] cpos] [] pos) (b1 vK fo):=⟨(pK (NV hc) hg hm (by rfl) (jq (A9 ho.1 hbase hline) jI he) .(g) .(g) he hpl).imp fun σ H Q=>by
 rintro⟨G₀,H₀,G,ρ,d,A,h,k⟩;unfold b1 at h;obtain⟨x,hx,h⟩:=oBd h;refine⟨G₀,H₀,G,ρ,x,A,hx,fun v G1 H1 s1 r1=>?_⟩;unfold vK at h;split at h
 .cases h;cases r1 with
  |fdk h1 h2 h3=>
   rename_i kvs a oa us;refine⟨_,rfl,.inl ⟨_,.inr ⟨_,s1.gh _ _ h1⟩⟩,_,_,rfl,rfl,.inr ⟨_,s1.gh _ _ h1⟩,fun q hq=>?_⟩;have s2:=Step.newOwn (o:=.ext fun h=>h.IsValuesView q a) s1.gh hq;refine⟨q,a,us,rfl,bW,.inr ⟨_,s2.hh _ _ (s1.gh _ _ h1)⟩,fun p hp=>?_⟩;have s3:=Step.new (o:=.lst (us.map (·.2))) s2.gh hp;exact k _ _ _ ((s1.trans s2).trans s3) (.lst bW (h3.mono s3.gg))
 .cases h⟩
noncomputable def o4 (i:al) (fk:FE):FS:=fun ρ=>(fk ρ).bind fun kd=>match ρ[i]? with
 |some (aa (.odk kvs))=>(gF kd).bind fun k=>if (ck kvs k).isSome=ai then aa (.nx,ρ.set i (aa (.odk (kvs.filter fun kv=>decide (kv.1≠k))))) else ab
 |_=>ab
theorem AM {κ:Type} [er κ] {K:bi} {G:Hp} {k:κ}:∀{us:ac (κ×V)} {kvs:ac (κ×D)},us.map (·.1)=kvs.map (·.1)->Reps Γ K G (us.map (·.2)) (kvs.map (·.2))->(kq us k).map (·.1)=(kvs.filter fun kv=>decide (kv.1≠k)).map (·.1)/\Reps Γ K G ((kq us k).map (·.2)) ((kvs.filter fun kv=>decide (kv.1≠k)).map (·.2))
 |[],[],_,_=>⟨rfl,.nil⟩
 |[],_::_,e,_=>by cases e
 |_::_,[],e,_=>by cases e
 |u::us,p::kvs,e,r=>by
  rw[qo,qo] at e;obtain⟨e1,e2⟩:=hU e;cases r with
  |cons r1 r2=>
   obtain⟨h1,h2⟩:=AM (k:=k) e2 r2;unfold kq at h1 h2 ⊢;rw[rG,rG];by_cases hk:u.1=k
   .rw[qY (by simp[hk]),qY (by rw[←e1];simp[hk])];exact⟨h1,h2⟩
   .rw[qX (by simp[hk]),qX (by rw[←e1];simp[hk])];exact⟨by rw[qo,qo,e1,h1],.cons r1 h2⟩
theorem Gv (i:al) (hk:DE Γ X e fk) (m:M1 X (.Name x vp) "pop" apos e cpos:=by exact⟨rfl,rfl,rfl,rfl⟩) (hN:X.N[i]?=aa x:=by rfl) (hv:Vis X.env.scope x:=by first|exact di rfl|exact cG (di rfl)|exact cG (cG rfl)) (hd:.(E)=aq:=by decide)
  (hcd:(x==("__classdict__":ak))=aq:=by decide) (hs:fK (.Call (.Attribute (.Name x vp) "pop" apos) [e] [] cpos) ab pos.line X.env=bB aq:=by rfl) :
  DS Γ X (.Expr (.Call (.Attribute (.Name x vp) "pop" apos) [e] [] cpos) pos) (o4 i fk):=⟨(wA (Oj (iW hN hv hd hcd) hk.1 m) hs).imp fun E σ H=>by
 rintro⟨G₀,H₀,G,ρ,flw,ρ',A,h,k⟩;unfold o4 at h;obtain⟨kd,hkd,hq⟩:=oBd h;clear h;split at hq
 .rename_i kvs hi;obtain⟨kk,hkk,hq⟩:=oBd hq;split at hq
  .rename_i hz;cases hq;obtain⟨w,fp,h1,h2⟩:=A.get hi;cases h2 with
   |odk q1 q2 q3 q4 q5=>
    rename_i a us;refine⟨_,h1,a,rfl,.inl ⟨_,.inl q3⟩,G₀,H₀,G,ρ,_,A,hkd,fun u G2 H2 s2 r2=>?_⟩;have A2:=A.step s2;have eu:=lH r2 hkk;subst eu;have ha2:H2 a=aa (.dK us):=s2.hh _ _ q3;obtain⟨w1,w2⟩:=AM (k:=kk) q4 (q5.mono s2.gg);rcases mM (k:=kk) q4 q5 with⟨z1,_⟩|⟨d,v,z1,z2,z3⟩
    .rw[z1] at hz;cases hz
    .exact⟨us,kk,v,ha2,rfl,z2,k σ G2 _ s2.gg (A2.chOdk hi h1 w1 w2)⟩
  .cases hq
 .cases hq⟩
end
end
variable {wanted:al}
namespace ST
theorem Full.relaid2 {t:hW} {es:bR (ag×Value)} (F:Full (kH wanted-1)) (few:es.size*5<(kH wanted-1)*3) {t':hW} {order:bR al} (h:t.relaid (es.map (·.1)) wanted=aa (t',order)):coversAll order es.size=ai/\t'.plain=t.plain:=by
 generalize hM:kH wanted-1=M at F few;obtain⟨owner,hl,O⟩:=F.lays (es.map (·.1)) (by simp;omega);have hlen:(es.map (·.1)).toList.length=es.size:=by simp
 have llen:(dI M owner).length=es.size:=by rw[Db O,hlen]
 unfold Rt at h;rw[hM] at h;unfold Ru at h;rw[hl] at h;cases h;refine⟨?_,rfl⟩;unfold coversAll;rw[List.isPerm_iff,List.perm_ext_iff_of_nodup (by exact Cg O) zk];intro k;rw[eV];constructor
 .intro hk;obtain⟨⟨j,k'⟩,hm,rfl⟩:=bw.mp (show k∈(dI M owner).map (·.2) from hk);have:=O.lt j k' ((iE O.sz).mp hm);rw[hlen] at this;exact this
 .intro hk;obtain⟨j,hj⟩:=O.on k (by rw[hlen];exact hk);exact(show k∈(dI M owner).map (·.2) from bw.mpr ⟨(j,k),(iE O.sz).mpr hj,rfl⟩)
noncomputable def iY (es:bR (ag×Value)):ac ag:=es.toList.map fun e=>match e.2 with
 |.int m _=>m
 |_=>0
structure IS (prog:dy) (w:cS) (led:aX) (ks:ac ag) (o:bd):Prop where
 cls:o.ExactSet
 ex:∃es ep t,o.data=.set es ep t/\Tb t es/\Mk t.mask/\t.plain=ai/\t.led=led/\(∀e∈es.toList,∃m t,e=((eA prog w).hash m,cZ m t))/\(iY es).Perm (dd ks)
section
variable {E:Value->aI->Prop}
theorem BQ {es:bR (ag×Value)} (h:∀e∈es.toList,∃m t,e=((eA prog w).hash m,cZ m t)):ElemsOf (eA prog w) es.toList:=fun e he=>by obtain⟨m,t,rfl⟩:=h e he;exact⟨⟨m,Fq _ _ _ _,rfl⟩,rfl⟩
theorem FU {es:bR (ag×Value)} (h:es'.toList.Perm es.toList):(iY es').Perm (iY es):=h.map _
theorem z5 {es:bR (ag×Value)} {k:ag} (hE:∀e∈es.toList,∃m t,e=((eA prog w).hash m,cZ m t)):zD (fun e=>(eA prog w).is k e.2) es.toList=ab↔k∉iY es:=by
 rw[List.findIdx?_eq_none_iff];constructor
 .intro h hk;obtain⟨e,he,e2⟩:=bw.mp hk;obtain⟨m,t,rfl⟩:=hE e he;have:=h _ he;have e2:m=k:=e2;subst e2;rw[Fq] at this;cases this
 .intro h e he;obtain⟨m,t,rfl⟩:=hE e he;have hne:m≠k:=fun z=>h (bw.mpr ⟨_,he,z⟩);show yw k (.int m t)=aq;simp[yw,hne]
set_option maxHeartbeats 1000000 in
theorem ME {o:bd} {led:aX} {ks:ac ag} {k:ag} {tk0:Tok} {Q:aX->aI->Prop} (ho:s.heap.get? S=aa o) (T:IS prog w led ks o) (hlen:ks.length<=300)
  (h:∀b h' tk o',s.toks<=tk->iq S s.heap h'->h'.get? S=aa o'->IS prog w led (ks++[k]) o'->Q b {s with heap:=h',toks:=tk}):aM .(Q) A (oU S (.int k tk0)) Q E s:=by
 obtain⟨hc,es,ep,t,hd,TB,hM,hpl,hled,hE,hp⟩:=T;have hkey:=Fq prog w k tk0;have hddl:=mH ks;have hsz:es.size=(dd ks).length:=by have:=hp.length_eq;unfold iY at this;rw[qg,fJ] at this;exact this
 have hb:es.size<scanBound:=by unfold scanBound;omega
 obtain⟨n0,f1,f2,f3⟩:=TB.first ((eA prog w).hash k);unfold oU;refine iz (qx ((eA prog w).pyHash hkey ?_));unfold setAddHashed RH;refine iz (qx (kI (s:={s with toks:=s.toks+1}) ho hd TB.fits ?_));dsimp only;rw[byScan_of (knd:=eA prog w) (x:=.int k tk0) rfl hb (BQ hE)];simp only[↓reduceIte];unfold setAddByScan;refine qx ?_;refine qx (Ew ?_);refine qx (wpAny_setScan_of (knd:=eA prog w) (s:={s with toks:=s.toks+1}) hkey ho hd TB.fits (BQ hE) ?_);by_cases hk:k∈dd ks
 .have hne:zD (fun e=>(eA prog w).is k e.2) es.toList≠ab:=fun z=>(z5 hE).mp z (hp.mem_iff.mpr hk);cases hr:zD (fun e=>(eA prog w).is k e.2) es.toList with
  |none=>exact bN hr hne
  |some j=>
   dsimp only;refine qz (qz ?_);refine h aq s.heap (s.toks+1) o (iy _) (EY S s.heap) ho ⟨hc,es,ep,t,hd,TB,hM,hpl,hled,hE,?_⟩;rw[pH,qX hk];exact hp
 .have hr:zD (fun e=>(eA prog w).is k e.2) es.toList=ab:=(z5 hE).mpr fun z=>hk (hp.mem_iff.mp z);rw[hr];dsimp only;have hslot:t.freeSlot ((eA prog w).hash k)=aa (J t.mask ((eA prog w).hash k) n0,aq):=by
   unfold SetTable.freeSlot;rcases vM TB (hashAt:=fun _=>(eA prog w).hash k+1) (r:=_) rfl (JA t _) (ix _) f1 f2 f3 with⟨n',i,_,_,_,g4,_⟩|⟨_,g2⟩
   .omega
   .rw[g2];rfl
  have hplc:b6 t.place (J t.mask ((eA prog w).hash k) n0)<=es.size:=by have:=(n9 t.place (J t.mask ((eA prog w).hash k) n0) TB.ri).1;rw[TB.sz] at this;exact this
  have hH:(J t.mask ((eA prog w).hash k) n0)=(J t.mask ((eA prog w).hash k) n0):=rfl;generalize hHk:(eA prog w).hash k=Hk at *;clear hH;have hsize:(ci es (b6 t.place (J t.mask Hk n0)) (Hk,cZ k tk0)).size=es.size+1:=by have:=cK f8 (lx es _ (Hk,cZ k tk0) hplc);simp only[fJ,qk,qj,qD,ja] at this;omega
  have hpsz:(ci t.place (b6 t.place (J t.mask Hk n0)) (J t.mask Hk n0)).size=es.size+1:=by have:=cK f8 (lx t.place _ (J t.mask Hk n0) (by rw[TB.sz];exact hplc));have h3:=TB.sz;simp only[fJ,qk,qj,qD,ja] at this;omega
  have hdum:.(w).1.dummies=#[]:=by show(if zj t.dummies _ then _ else t.dummies)=#[];rw[TB.dm];rfl
  have hfill:Fa .(w).1=es.size+1:=by show(ci t.place _ _).size+.(w).1.dummies.size=_;rw[hdum];exact hpsz
  have hfits:oT .(w).1 (ci es .(w).2 (Hk,cZ k tk0)).size=ai:=by unfold oT;rw[hfill,show(ci es .(w).2 (Hk,cZ k tk0)).size=es.size+1 from hsize,gI];have:=TB.few;exact⟨by rw[kC];exact hpsz,qR (by show es.size+1<=t.mask;omega)⟩
  have hlay:layNew t es Hk (.int k tk0)=(ci es .(w).2 (Hk,cZ k tk0),.(w).1,aq,aq):=by unfold layNew;rw[hslot];show(ci es .(w).2 (Hk,cZ k tk0),RX .(w).1 _,aq,!oT .(w).1 _)=_;have hfits':oT .(w).1 (ci es (b6 t.place (J t.mask Hk n0)) (Hk,cZ k tk0)).size=ai:=hfits;unfold RX;rw[hfits'];rfl
  rw[hlay];dsimp only;refine qx (qz (a:=()) ?_);rw[qX (show.(w).1.plain=ai from hpl)];refine qx ?_;rw[RC 8 (show(cZ k tk0).scannable=ai from rfl)];refine qz ?_;rw[qX (show plainKind (cZ k tk0)=ai from rfl)];have hms:∀es':bR (ag×Value),es'.toList.Perm (ci es .(w).2 (Hk,cZ k tk0)).toList->(iY es').Perm (dd (ks++[k]))/\∀e∈es'.toList,∃m t,e=((eA prog w).hash m,cZ m t):=fun es' pe=>by
   have e1:=lx es (b6 t.place (J t.mask Hk n0)) (Hk,cZ k tk0) hplc;have e1:(ci es .(w).2 (Hk,cZ k tk0)).toList=_:=e1;rw[e1] at pe;have pe2:=pe.trans (RY);rw[rT] at pe2;refine⟨?_,fun e he=>?_⟩
   .rw[pH,qY hk];refine(pe2.map _).trans ?_;refine(List.Perm.cons k hp).trans ?_;exact(List.perm_append_singleton k (dd ks)).symm
   .rcases cM.mp (pe2.mem_iff.mp he) with rfl|he
    .exact⟨k,tk0,by rw[hHk]⟩
    .exact hE e he
  refine qx (zv (s:={s with toks:=s.toks+1}) ho hd ?_ (by show(ci es (b6 t.place (J t.mask Hk n0)) (Hk,cZ k tk0)).size<=aV;rw[hsize,eX];omega));have hg1:=uu (es':=ci es .(w).2 (Hk,cZ k tk0)) (t':=.(w).1) ho hd;have hsb1:=oV s.heap S (zu (ci es .(w).2 (Hk,cZ k tk0)) .(w).1);by_cases few:(es.size+1)*5<t.mask*3
  .have hfull:lZ .(w).1=aq:=by unfold lZ;rw[hfill];exact qM (by show ¬((es.size+1)*5 ≥ t.mask*3);omega)
   rw[hfull];simp only[lY,uY,qr,c4];refine qz (qz ?_);obtain⟨m1,m2⟩:=hms _ (List.Perm.refl _);exact h ai _ _ _ (iy _) hsb1 hg1 ⟨hc,_,_,_,rfl,TB.put (x:=.int k tk0) f2 f3 few t.plain,hM,hpl,hled,m2,m1⟩
  .have hfull:lZ .(w).1=ai:=by unfold lZ;rw[hfill];exact qR (by show((es.size+1)*5 ≥ t.mask*3);omega)
   rw[hfull];simp only[lY,RI,cA];obtain⟨m1,m2,m3⟩:=hM.grow TB.few few .(f);have hes1:(ci es .(w).2 (Hk,cZ k tk0)).size=es.size+1:=hsize;rw[hes1];obtain⟨t',order,r1,r2,r3,r4,r5,r6⟩:=Full.relaid (t:=.(w).1) (es:=ci es .(w).2 (Hk,cZ k tk0)) m1.full (by rw[hes1];exact m2);obtain⟨c1,c2⟩:=Full.relaid2 m1.full (by rw[hes1];exact m2) r1;have hpm:=relayAll_perm .(w).1 (ci es .(w).2 (Hk,cZ k tk0)) (rV (es.size+1));have hrel:relayAll .(w).1 (ci es .(w).2 (Hk,cZ k tk0)) (rV (es.size+1))=(order.filterMap ((ci es .(w).2 (Hk,cZ k tk0))[·]?),t',aq):=by unfold relayAll;rw[r1];dsimp only;rw[c1,r3.fits];rfl
   rw[hrel] at hpm ⊢;dsimp only at hpm ⊢;refine qx (qz (a:=()) ?_);refine qx (zv (s:={s with heap:=_,toks:=s.toks+1}) hg1 rfl ?_ (by rw[r2,hes1,eX];omega));refine qz (qz ?_);obtain⟨q1,q2⟩:=hms _ hpm;exact h ai _ _ _ (iy _) (hsb1.trans (oV _ S _)) (uu hg1 rfl) ⟨hc,_,_,t',rfl,r3,by rw[r5];exact m1,c2.trans hpl,r6.trans hled,q2,q1⟩
end
end ST
namespace ST
open PySem PySem.Calls PyProof.Rows PyProof.V PySem.Spec PySem.W
theorem nL:u3 "set_iterator" "__next__" "set_iterator.__next__" :=
 .of (owner:="set_iterator") (n:="__next__") (by rw[rZ,sd];kernel_rfl) .(s) .(s) .(s)
  (by first|exact .inl .(s)|exact .inr .(s)) (by rw[zE];kernel_rfl)
theorem DC:u3 "set_iterator" "__iter__" "set_iterator.__iter__" :=
 .of (owner:="set_iterator") (n:="__iter__") (by rw[rZ,sd];kernel_rfl) .(s) .(s) .(s)
  (by first|exact .inl .(s)|exact .inr .(s)) (by rw[zE];kernel_rfl)
theorem A8:u3 "set" "__iter__" "set.__iter__" :=
 .of (owner:="set") (n:="__iter__") (by rw[rZ,sd];kernel_rfl) .(s) .(s) .(s)
  (by first|exact .inl .(s)|exact .inr .(s)) (by rw[zE];kernel_rfl)
theorem zY:zz table "set_iterator.__next__"=aa Builtin.«set_iterator.__next__»:=RN (by kernel_rfl)
theorem Og:zz table "set_iterator.__iter__"=aa Builtin.«dict_keyiterator.__iter__»:=RZ (id':="dict_keyiterator.__iter__") (by kernel_rfl) rfl .(s) (by kernel_rfl)
theorem Lo:zz table "set.__iter__"=aa Builtin.«frozenset.__iter__»:=RZ (id':="frozenset.__iter__") (by kernel_rfl) rfl .(s) (by kernel_rfl)
theorem Ai:R0.lookup (R1 ['r','o','t','a','r','e','t','i','_','t','e','s'].reverse)=aa Manifest.sig_set_iterator:=by kernel_rfl
theorem Pw:R0.lookup (R1 ['t','e','s'].reverse)=aa Manifest.sig_set:=by kernel_rfl
theorem Bj (a:Value):oP "set_iterator.__next__" ⟨[a],[]⟩:=by unfold oP;rw[Fs (id:="set_iterator.__next__") (n:=['_','_','t','x','e','n','_','_']) (o:=['r','o','t','a','r','e','t','i','_','t','e','s']) (by kernel_rfl) Ai];kernel_rfl
theorem Hw (a:Value):oP "set_iterator.__iter__" ⟨[a],[]⟩:=by unfold oP;rw[Fs (id:="set_iterator.__iter__") (n:=['_','_','r','e','t','i','_','_']) (o:=['r','o','t','a','r','e','t','i','_','t','e','s']) (by kernel_rfl) Ai];kernel_rfl
theorem HW (a:Value):oP "set.__iter__" ⟨[a],[]⟩:=by unfold oP;rw[Fs (id:="set.__iter__") (n:=['_','_','r','e','t','i','_','_']) (o:=['t','e','s']) (by kernel_rfl) Pw];kernel_rfl
theorem J':uU (.type "set") "__len__"=bB (aa (.builtin "set.__len__")):=by rw[rZ,sd];kernel_rfl
theorem Dg {α:Type} (next:al->al):∀(fuel k:al) (left:ac α) (out:bR α),left.length<=fuel->(R3 next fuel k left out).toList.Perm (out.toList++left)
 |0,k,left,out,h=>by
  have:left=[]:=List.eq_nil_of_length_eq_zero .(f);subst this;rw[lT];exact .refl _
 |fuel+1,k,left,out,h=>by
  unfold R3;cases hl:left with
  |nil=>
   simp
  |cons a l=>
   rw[←hl];have hpos:0<left.length:=by rw[hl];exact u8 _
   have hlt:=zf (next k) hpos;rw[qC hlt];dsimp only;refine(Dg next fuel (k+1) _ _ (by rw[List.length_eraseIdx_of_lt hlt];omega)).trans ?_;rw[Array.toList_push,oN];refine R4 _ ?_;show(left[next k%left.length]::left.eraseIdx (next k%left.length)).Perm left;rw[List.eraseIdx_eq_take_drop_succ];refine RY.symm.trans ?_;rw[←u6 hlt,rT]
theorem OE (next:al->al) (xs:bR α):(se next xs).toList.Perm xs.toList:=by
 have:=Dg next xs.size 0 xs.toList #[] (by simp)
 simpa[se] using this
end ST
variable {slot:al}
namespace ST
open PySem PySem.Calls PyProof.Rows PyProof.V PySem.Spec PySem.W
noncomputable def SIt (h:Heap) (it S:aw) (slot i n ep:al):Prop:=∃o,h.get? it=aa o/\o.cls=.type "set_iterator"/\o.data=.fields #[.int slot 0,.int i 0,.ref S,.int n 0,.int ep 0]
theorem SIt.typeIs {it:aw} (x:SIt s.heap it S slot i n ep):s.TypeIs (.ref it) "set_iterator":=let ⟨o,ho,hc,_⟩:=x;⟨o,ho,hc⟩
noncomputable def dN (w:cS) (S:aw) (es:bR (ag×Value)) (ep:al):ac (ag×Value):=if w.params.followText "set-order"=ai then (se (w.params.setOrder S ep) es).toList else es.toList
theorem pj (w:cS) (S:aw) (es:bR (ag×Value)) (ep:al):(dN w S es ep).Perm es.toList:=by
 unfold dN;split
 .exact OE _ _
 .exact .refl _
theorem Hz {xs:bR al} (hs:xs.toList.Pairwise (· < ·)) (h:xs[i]?=aa j):b6 xs (j+1)=i+1:=by
 obtain⟨b0,b1,b2⟩:=n9 xs (j+1) hs;have hi:=(gJ.mp h).1;rcases je (b6 xs (j+1)) (i+1) with q|q
 .have:=b2 i .(f) j h;omega
 .rcases je (i+1) (b6 xs (j+1)) with q2|q2
  .have hlt:i+1<xs.size:=by omega
   have h1:xs[i+1]?=aa xs[i+1]:=by simp[hlt]
   have:=b1 (i+1) q2 _ h1;have h3:=zh.mp hs i (i+1) (by simpa using hi) (by simpa using hlt) .(f);have h4:xs[i]=j:=by rw[R5 hi] at h;injection h
   simp only[Rj] at h3;omega
  .omega
section
variable {E:Value->aI->Prop} {it:aw} {o:bd} {es:bR (ag×Value)} {t:hW}
theorem CB {Q:ar (Value×al)->aI->Prop} (ho:s.heap.get? S=aa o) (hd:o.data=.set es ep t) (T:Tb t es) (hpl:t.plain=ai) (hled:t.led=!w.params.followText "set-order") (hb:w.params.followText "set-order"=aq->b6 t.place slot=i)
  (h1:∀e slot',(dN w S es ep)[i]?=aa e->(w.params.followText "set-order"=aq->b6 t.place slot'=i+1)->Q (aa (e.2,slot')) s) (h2:(dN w S es ep)[i]?=ab->Q ab s):aM .(Q) A (setNext S slot i ep) Q E s:=by
 unfold setNext;refine qx (kI ho hd T.fits ?_);dsimp only;unfold Ft;refine qx (qx (vh (qz ?_)));dsimp only;cases hf:w.params.followText "set-order" with
 |true=>
  rw[qX (show.(Q).w.params.followText "set-order"=ai from hf)];rw[qY (by simp)];unfold setWalk;refine qx ?_;refine qx (kI ho hd T.fits ?_);dsimp only;unfold Ft;refine qx (qx (vh (qz ?_)));dsimp only;rw[qX (show.(Q).w.params.followText "set-order"=ai from hf)];refine qx (vh (qz ?_));dsimp only;have e:dN w S es ep=(se (w.params.setOrder S ep) es).toList:=by unfold dN;rw[qX hf]
  cases hx:(dN w S es ep)[i]? with
  |none=>
   have hx':(se (.(Q).w.params.setOrder S ep) es)[i]?=ab:=by rw[←qH];rw[e] at hx;exact hx
   rw[hx'];exact qz (h2 hx)
  |some p=>
   have hx':(se (.(Q).w.params.setOrder S ep) es)[i]?=aa p:=by rw[←qH];rw[e] at hx;exact hx
   rw[hx'];exact qz (h1 p slot hx (fun z=>by rw[hf] at z;cases z))
 |false=>
  rw[qY (show ¬.(Q).w.params.followText "set-order"=ai from by rw[show.(Q).w.params.followText "set-order"=aq from hf];simp)];have e:dN w S es ep=es.toList:=by unfold dN;rw[qY (by rw[hf];simp)]
  refine zF (fun hz=>?_) (fun _=>?_)
  .have hz':(!t.plain && decide (es.size > 1))=ai:=hz;rw[hpl] at hz';cases hz'
  refine qx ?_;show aM _ _ (if (!t.led && !es.isEmpty)=ai then _ else _) _ _ _;rw[hled,hf];rw[qY (by simp)];refine qz ?_;rw[hb hf];cases hx:es[i]? with
  |none=>
   dsimp only;exact qz (h2 (by rw[e,qH];exact hx))
  |some p=>
   have hlt:i<t.place.size:=by rw[T.sz];exact(gJ.mp hx).1
   have hj:t.place[i]?=aa t.place[i]:=by simp[hlt]
   rw[hj];dsimp only;exact qz (h1 p _ (by rw[e,qH];exact hx) fun _=>Hz T.ri hj)
end
end ST
namespace ST
open PySem PySem.Calls PyProof.Rows PyProof.V PySem.Spec PySem.W
section
variable {E:Value->aI->Prop} {it:aw} {o:bd} {es:bR (ag×Value)} {t:hW}
theorem Kq {Q:ar Value->aI->Prop} {e:ag×Value} (hit:SIt s.heap it S slot i es.size ep) (ho:s.heap.get? S=aa o) (hd:o.data=.set es ep t) (T:Tb t es) (hpl:t.plain=ai) (hled:t.led=!w.params.followText "set-order") (hb:w.params.followText "set-order"=aq->b6 t.place slot=i)
  (hx:(dN w S es ep)[i]?=aa e)
  (hQ:∀h' slot',SIt h' it S slot' (i+1) es.size ep->(w.params.followText "set-order"=aq->b6 t.place slot'=i+1)->iq it s.heap h'->Q (aa e.2) {s with heap:=h'}):aM .(Q) A (jO (.ref it)) Q E s:=by
 obtain⟨oi,hoi,hci,hdi⟩:=id hit;unfold jO;refine qx (zx (EL (name:=yQ "__next__") hit.typeIs nL (rD nL hit.typeIs zY ?_ (Bj _))));unfold Builtin.«set_iterator.__next__»;refine qx (qz ?_);refine qx (R6 hoi hdi ?_);dsimp only;refine qx (Fu ho hd T.fits ?_);rw[qY (by simp)];refine qx (CB (S:=S) (slot:=((slot:ag).toNat)) (i:=((i:ag).toNat)) ho hd T hpl hled (by rw[l0,l0];exact hb) (fun e' slot' q1 q2=>?_) (fun q=>?_))
 .simp only[l0] at q1 q2;rw[hx] at q1;cases q1;dsimp only;refine qx (Fv hoi hdi (by simp) ?_);have h1:=Fm (vo (·.setIfInBounds 0 (kB (slot':ag)))) hoi (R7 (sg hdi _));refine qx (Fv h1 (sg hdi _) (by simp) ?_);have h2:=Fm (vo (·.setIfInBounds 1 (kB ((i:ag)+1)))) h1 (R7 (sg (sg hdi _) _));have hs:=(oV s.heap it (vo (·.setIfInBounds 0 (kB (slot':ag))))).trans (oV (s.heap.update it (vo (·.setIfInBounds 0 (kB (slot':ag))))) it (vo (·.setIfInBounds 1 (kB ((i:ag)+1)))));exact qz ⟨_,rfl,qz (hQ _ slot' ⟨_,h2,((R8 ..).trans (R8 ..)).trans hci,by rw[sg (sg hdi _)];simp[kB]⟩ q2 hs)⟩
 .simp only[l0] at q;rw[hx] at q;cases q
theorem NY {Q:ar Value->aI->Prop} (hh:A.handled=ab) (hit:SIt s.heap it S slot i es.size ep) (ho:s.heap.get? S=aa o) (hd:o.data=.set es ep t) (T:Tb t es) (hpl:t.plain=ai) (hled:t.led=!w.params.followText "set-order") (hb:w.params.followText "set-order"=aq->b6 t.place slot=i)
  (hx:(dN w S es ep)[i]?=ab)
  (hQ:∀h',Heap.ExtBut it s.heap h'->Q ab {s with heap:=h'}):aM .(Q) A (jO (.ref it)) Q E s:=by
 obtain⟨oi,hoi,hci,hdi⟩:=id hit;unfold jO;refine qx (zx (EL (name:=yQ "__next__") hit.typeIs nL (rD nL hit.typeIs zY ?_ (Bj _))));unfold Builtin.«set_iterator.__next__»;refine qx (qz ?_);refine qx (R6 hoi hdi ?_);dsimp only;refine qx (Fu ho hd T.fits ?_);rw[qY (by simp)];refine qx (CB (S:=S) (slot:=((slot:ag).toNat)) (i:=((i:ag).toNat)) ho hd T hpl hled (by rw[l0,l0];exact hb) (fun e' slot' q1 q2=>?_) (fun q=>?_))
 .simp only[l0] at q1;rw[hx] at q1;cases q1
 .dsimp only;refine qx (Fv hoi hdi (by simp) ?_);refine qx ?_;simp only[newExc,newTuple];refine qx (lQ ?_ (by size_fits));refine qx (m:=R9 _ _) (vg (a:=oE) (by first|rfl|(simp only[R9];rfl)) ?_);refine lQ ?_ (by size_fits);simp only[raiseNew];refine qx (wpAny_handled ?_);rw[show A.in1.handled=ab from hh];refine qx (qz (wpAny_throw ?_));refine qx (zy (T:="StopIteration") (b:=ai) ⟨_,qF _ rfl,rfl⟩ isSubtype_stop ?_);exact qz (hQ _ (((oV ..).extBut.push _).push _))
theorem O9 (hit:SIt s.heap it S slot i n ep) (h:Q (.ref it) s):aM .(Q) A (oG (.ref it)) Q E s:=by refine R' hit.typeIs DC (rD DC hit.typeIs Og ?_ (Hw _));show aM _ _ (ret (.ref it)) _ _ s;exact qz ⟨_,rfl,"set_iterator",_,hit.typeIs,nL.lookup,h⟩
theorem Lp (ho:s.heap.get? S=aa o) (hc:o.ExactSet) (hd:o.data=.set es ep t) (T:Tb t es) (hpl:t.plain=ai)
  (hQ:Q (.ref s.heap.objs.size) {s with heap:=s.heap.push {cls:=.type "set_iterator",data:=.fields #[.int 0 0,.int 0 0,.ref S,.int es.size 0,.int ep 0]} }):aM .(Q) A (oG (.ref S)) Q E s:=by
 have hT:s.TypeIs (.ref S) "set":=⟨o,ho,hc.1⟩;refine R' hT A8 (rD A8 hT Lo ?_ (HW _));unfold Builtin.«frozenset.__iter__»;refine qx ?_;unfold Tu;refine qx (qz ?_);refine qz ?_;refine qx ?_;unfold Tv;refine qx (Fu ho hd T.fits (qz ?_));refine qx ?_;unfold setDrawn;refine qx (kI ho hd T.fits ?_);dsimp only;unfold Ft;refine qx (qx (vh (qz ?_)));refine qz ?_;refine zF (fun hz=>?_) (fun _=>?_)
 .have hz':(!w.params.followText "set-order" && (!t.plain && decide (es.size > 1)))=ai:=hz;rw[hpl] at hz';simp at hz'
 refine qx (qz ?_);refine qx ?_;unfold setEpoch;refine qx (kI ho hd T.fits (qz ?_));refine qx ?_;unfold newFields;refine lQ (qz ⟨_,rfl,"set_iterator",_,⟨_,qF _ rfl,rfl⟩,nL.lookup,?_⟩);exact hQ
theorem P8 (hh:A.handled=ab) (I S:aw) (hne:S≠I) (o:bd) (hd:o.data=.set es ep t) (T:Tb t es) (hpl:t.plain=ai) (hled:t.led=!w.params.followText "set-order") :
  Walks prog w A I [I,S] [I] es.size (fun i v=>∃e,(dN w S es ep)[i]?=aa e/\v=e.2) (fun i h=>h.get? S=aa o/\∃slot,SIt h I S slot i es.size ep/\(w.params.followText "set-order"=aq->b6 t.place slot=i)) where
 sub:=fun b hb=>by simp at hb;simp[hb]
 frame:=fun _ _ _ st hk=>by obtain⟨h1,slot,⟨oi,h2,h3⟩,h4⟩:=st;exact⟨hk S (by simp) o h1,slot,⟨oi,hk I (by simp) oi h2,h3⟩,h4⟩
 item:=fun i s Q E hi st hQ=>by obtain⟨h1,slot,h2,h4⟩:=st;have hl:(dN w S es ep).length=es.size:=(pj w S es ep).length_eq.trans (fJ);have hx:(dN w S es ep)[i]?=aa ((dN w S es ep)[i]'.(f)):=qC _;refine Kq h2 h1 hd T hpl hled h4 hx fun h' slot' q1 q2 q3=>?_;exact hQ _ h' s.toks ⟨_,hx,rfl⟩ ⟨(q3.extBut S o hne h1),slot',q1,q2⟩ fun b o hb e=>q3.extBut b o (fun h=>hb (by simp[h])) e
 done:=fun s Q E st hQ=>by obtain⟨h1,slot,h2,h4⟩:=st;have hl:(dN w S es ep).length=es.size:=(pj w S es ep).length_eq.trans (fJ);exact NY hh h2 h1 hd T hpl hled h4 (EZ .(f)) fun h' he'=>hQ h' s.toks fun b o hb e=>he' b o (fun h=>hb (by simp[h])) e
 self:=fun _ _ _ _ st hQ=>by obtain⟨h1,slot,h2,h4⟩:=st;exact O9 h2 hQ
theorem Ni {r:aw} {Q:aX->aI->Prop} (hT:s.TypeIs (.ref r) "set") (h:Q aq s):aM .(Q) A (Sa (.ref r)) Q E s:=by
 unfold Sa;refine qx (ES hT J' ?_);generalize hid:("set.__len__":c9)=id0
 wp_delta
 rw[show splitId id0=aa ("set","__len__") from by subst hid;decide +kernel];subst hid;refine qx (zy (T:="set") (b:=ai) hT (by rw[zE];kernel_rfl) ?_);refine zF (fun hab=>bN hab .(g)) (fun _=>?_);refine zF (fun _=>?_) (fun hab=>bN .(s) hab);refine qx (rE hT ?_);exact qz h
theorem src (S:aw) (o:bd) (hc:o.ExactSet) (hd:o.data=.set es ep t) (T:Tb t es) (hpl:t.plain=ai) (hled:t.led=!w.params.followText "set-order") :
  KdlSrc prog w "set" S S es.size (fun i v=>∃e,(dN w S es ep)[i]?=aa e/\v=e.2) (fun h=>h.get? S=aa o) where
 type:=fun s h=>⟨o,h,hc.1⟩
 there:=fun h ho=>⟨qv ho,qv ho⟩
 keep:=fun _ _ h hk=>hk S (.inl rfl) o h
 notList:=by decide
 notTuple:=by decide
 hint:=fun _ _ _ _ h hq=>Ni ⟨o,h,hc.1⟩ hq
 iter:=fun A s hh h=>⟨_,_,(fun _ _ hq=>Lp h hc hd T hpl hq),P8 hh _ S (qB (qv h)) o hd T hpl hled,⟨qu _ h,0,⟨_,qF _ rfl,rfl,rfl⟩,fun _=>by
  obtain⟨b0,b1,b2⟩:=n9 t.place 0 T.ri;rcases Nat.eq_zero_or_pos (b6 t.place 0) with q|q
  .exact q
  .have hlt:0<t.place.size:=by omega
   have:=b1 0 q _ (R5 hlt);omega⟩⟩
end
end ST
section
open ST
noncomputable def leZ (a b:ag):aX:=decide (a<=b)
noncomputable def fS (l:ac ag):ac ag:=l.mergeSort leZ
theorem DD {l l':ac ag} (hp:l'.Perm l) (hs:l'.Pairwise (·<=·)):l'=fS l:=
 RS (le:=fun a b=>leZ a b=ai) (fun a b _ _ h1 h2=>Int.le_antisymm (fL h1) (fL h2)) (hs.imp fun h=>qR h)
  (zB (le:=leZ) (fun a b c h1 h2=>qR (zG (fL h1) (fL h2))) (fun a b=>by
   rcases Sb a b with h|h
   .rw[show leZ a b=ai from qR h];rfl
   .rw[show leZ b a=ai from qR h];exact Sc _) l) (hp.trans (kK l leZ).symm)
noncomputable def sK (P:dy) (w:cS) (p:aw) (ns:ac ag):HO:=.ext fun h=>∃o,h.get? p=aa o/\IS P w (!w.params.followText "set-order") ns o
theorem MX (hc:X.calm=ai):dB X (.type "set") (fun xs H Q=>∃(a:aw) (ns:ac ag),xs=[.ref a]/\H a=aa (.lst (ns.map V.int))/\ns.length<=300/\∀p,H p=ab->Q (.ref p) (upd H p (sK X.prog X.w p ns))):=by
 intro pins s σ H xs us Q I r h;obtain⟨a,ns,rfl,ha,hl,q⟩:=h;obtain⟨u,rfl,ru⟩:=dY r;cases ru;obtain⟨its,rv,pl,hz⟩:=I.list (.inl (.inl ha));have hkl:ns.length=its.length:=by have:=rv.length;rwa [qg] at this
 refine xh (I.ok.hd hc) pl.isList (fun i o=>IS X.prog X.w (!X.w.params.followText "set-order") (ns.take i) o) ?_ (fun A' hA' i v sh o Q' E' hi hv ho hJ hB hQ=>?_) fun h' tk o ho hJ hk=>?_
 .refine⟨⟨rfl,rfl,rfl⟩,#[],0,kJ 0 0 (!X.w.params.followText "set-order"),rfl,?_,.inl rfl,rfl,rfl,fun e he=>by simp at he,?_⟩
  .exact⟨xX,rfl,rfl,by simp[kJ],by simp[kJ],by simp[kJ],fun i j h x hp=>by simp[kJ] at hp⟩
  .simp[iY,dd]
 .have hi':i<ns.length:=by rw[qA] at hi;omega
  obtain⟨u2,hu2,ru2⟩:=rv.get (i:=i) (x:=V.int ns[i]) (by simp[hi']);have ev:v=u2:=by
   have hv':its[i]?=aa v:=by simpa using hv
   rw[hu2] at hv';exact(qG hv').symm
  subst ev;obtain⟨t0,rfl⟩:=ru2;have htk:ns.take (i+1)=ns.take i++[ns[i]]:=by rw[nr,qC hi'];rfl
  exact ME ho hJ (by rw[qD];omega) fun bb h' tk o' h1 h2 h3 h4=>hQ bb h' tk o' h1 h2 h3 (by show IS _ _ _ (vd (i+1) ns) o';rw[htk];exact h4)
 .have e:ns.take its.toArray.size=ns:=by rw[qA,←hkl];exact iB
  rw[e] at hJ;refine⟨.ref s.heap.objs.size,_,I.laid (a:=s.heap.objs.size) (o:=sK X.prog X.w s.heap.objs.size ns) (fun b u e=>hk b u (qv e) e) (qw _) ?_,rfl,q _ I.fresh⟩;refine⟨⟨o,ho,hJ⟩,⟨o,ho⟩,fun h1 h2 hp hk2=>?_⟩;obtain⟨o1,q1,q2⟩:=hp;exact⟨o1,hk2 o1 q1,q2⟩
theorem xm {P:al->Value->Prop}:∀{vs:ac Value} {ms:ac ag},vs.length=ms.length->(∀(j:al) v,vs[j]?=aa v->∃m t,ms[j]?=aa m/\v=cZ m t)->jb vs ms
 |[],[],_,_=>.nil
 |v::vs,m::ms,hl,h=>by obtain⟨m',t,h1,rfl⟩:=h 0 v rfl;cases h1;exact .cons _ _ (xm (P:=P) (by simpa using hl) fun j v e=>h (j+1) v e)
theorem vA:∀{vs:ac Value} {ms:ac ag},jb vs ms->bK (ms.map V.int) vs
 |_,_,.nil=>.nil
 |_,_,.cons x t r=>.cons ⟨t,rfl⟩ (vA r)
theorem NZ (hc:X.calm=ai):dB X (.builtin "sorted") (fun xs H Q=>∃(a:aw) (ns:ac ag),xs=[.ref a]/\H a=aa (sK X.prog X.w a ns)/\ns.length<64/\∀p,H p=ab->Q (.ref p) (upd H p (.lst ((fS (dd ns)).map V.int)))):=by
 intro pins s σ H xs us Q I r h;obtain⟨a,ns,rfl,ha,h64,q⟩:=h;obtain⟨u,rfl,ru⟩:=dY r;cases ru;obtain⟨⟨o,ho,hex,es,ep,t,hd,T,hM,hpl,hled,hE,hp⟩,_,_⟩:=I.hok a _ ha;have hh:X.A.handled=ab:=I.ok.hd hc;have hsl:=eX;have hdl:=mH ns;have hsz:es.size=(dd ns).length:=by have:=hp.length_eq;unfold iY at this;rw[qg,fJ] at this;exact this
 refine Calls.call_function_entry kind_sorted plain_sorted entry_sorted (args_sorted1 _) ?_;unfold Builtin.«sorted»;refine qx (m:=checkCount "sorted" 1 1 _) (qz ?_);refine qx (PySem.W.kdu_collect (A:=X.A.in1) (src (prog:=X.prog) (w:=X.w) a o hex hd T hpl hled) hh ho .(f) fun h' tk acc hkp hacc=>?_);have hl:acc.toList.length=es.size:=by rw[fJ];exact hacc.1
 refine qx (wpAny_newList ?_ (by rw[hl];omega));have hol:(dN X.w a es ep).length=es.size:=(pj X.w a es ep).length_eq.trans (fJ);have hS:jb acc.toList (iY (dN X.w a es ep).toArray):=xm (P:=fun _ _=>True) (by rw[hl];simp[iY,hol]) fun j v e=>by obtain⟨e2,q1,rfl⟩:=hacc.2 j v (by rw[←qH];exact e);obtain⟨m,t,he⟩:=hE e2 ((pj X.w a es ep).mem_iff.mp (qO q1));refine⟨m,t,?_,by rw[he]⟩;unfold iY;rw[ql,show(dN X.w a es ep).toArray.toList=dN X.w a es ep from rfl,q1,he];rfl
 have hoL:(h'.push (seqObj "list" acc.toList.toArray 0)).get? h'.objs.size=aa (seqObj "list" acc.toList.toArray 0):=qF _ rfl;refine qx (iz (rD slot_list_sort ⟨_,hoL,rfl⟩ entry_list_sort (list_sort_tree hoL hS (by rw[hl];omega) fun out ns' a1 a2 a3=>⟨_,rfl,?_⟩) (args_list_sort _)));have hpp:ns'.Perm (dd ns):=a2.trans ((FU (es':=(dN X.w a es ep).toArray) (pj X.w a es ep)).trans hp);have es':=DD hpp a3;subst es';refine qz ⟨_,rfl,?_⟩;obtain⟨ee,he⟩:=sortedHeap_at (h:=h'.push (seqObj "list" acc.toList.toArray 0)) (out:=out) hoL;have hls:(fS (dd ns)).length=(dd ns).length:=(kK (dd ns) leZ).length_eq;have hno:∀u,s.heap.get? h'.objs.size=aa u->False:=fun u e=>kx _ (qv (hkp _ _ e));have hn:=I.none_of hno;refine⟨.ref h'.objs.size,upd H h'.objs.size (.lst ((fS (dd ns)).map V.int)),I.many (t':=tk) (fun b o e=>?_) (fun b o e=>by rw[a4 (b7 e hn)];exact e) (fun b o e1 e2=>?_),rfl,q _ hn⟩
 .have hb:b<h'.objs.size:=qv (hkp b o e);rw[sortedHeap_old (qB hb) (by rw[size_push'];exact vk hb)];exact qu _ (hkp b o e)
 .by_cases hb:b=h'.objs.size
  .subst hb;rw[bW] at e2;cases e2;exact⟨hno,by rw[qg,hls];omega,_,ee,vA a1,by rw[zC];exact he⟩
  .rw[a4 hb,e1] at e2;cases e2
noncomputable def wW:D->ar D
 |.lst l=>if l.length<64 then (iN l).map fun ns=>.lst ((fS (dd ns)).map D.int) else ab
 |_=>ab
theorem HI (hc:X.calm=ai) (hgl:Gl X "sorted") (hml:X.mg "sorted"=ab) (hgs:Gl X "set") (hms:X.mg "set"=ab) (h:DE Γ X e f)
  (h1:a6 ([.Call (.Name "set" p2) [e] [] pos2]:ac Expr) X.env=(aq,eval (.Call (.Name "set" p2) [e] [] pos2) X.env)::a6 [] X.env:=by rfl) (h2:(cC pos (a6 [] X.env)).any (·.1)=aq:=by rfl)
  (h3:a6 ([e]:ac Expr) X.env=(aq,eval e X.env)::a6 [] X.env:=by rfl) (h4:(cC pos2 (a6 [] X.env)).any (·.1)=aq:=by rfl) :
  DE Γ X (.Call (.Name "sorted" p) [.Call (.Name "set" p2) [e] [] pos2] [] pos) (b1 wW f):=⟨by
 refine(xM (NZ hc) hgl hml (by rfl) (jq (pK (MX hc) hgs hms (by rfl) (jq h.1 jI h3) .(g) .(g) h3 h4) jI h1) .(g) .(g) h1 h2).imp fun σ H Q=>?_;rintro⟨G₀,H₀,G,ρ,d,A,hq,k⟩;unfold b1 at hq;obtain⟨x,hx,hl⟩:=oBd hq;clear hq;refine⟨G₀,H₀,G,ρ,x,A,hx,fun v G1 H1 s1 r1=>?_⟩;unfold wW at hl;split at hl
 .rename_i l;split at hl
  .rename_i hz;obtain⟨ns,hn,rfl⟩:=oMd hl;obtain⟨a,vs,rfl,ha,ra⟩:=r1.lst_inv;have ev:=ur ra hn;subst ev;have hln:ns.length=l.length:=by have:=ra.length;rwa [qg] at this
   refine⟨a,ns,rfl,s1.gh _ _ ha,by omega,fun p hp=>⟨p,ns,rfl,bW,by omega,fun q hq=>?_⟩⟩;have s2:=s1.trans (Step.newOwn (o:=sK X.prog X.w p ns) s1.gh hp);exact lr s2.gh (Reps.ints _) (fun w G' H' st r=>k w G' H' (s2.trans st) r) q hq
  .cases hl
 .cases hl⟩
end
noncomputable def bt (p:aw) (H:Hp):Hp:=fun a=>if a=p then ab else H a
noncomputable abbrev FR:=bj->ag->ar (D×ag)
noncomputable abbrev FRt:=bj->ag->ar (aX×ag)
noncomputable abbrev FRa:=bj->ag->ar (ac D×ag)
noncomputable abbrev FRs:=bj->ag->ar (Fl×bj×ag)
noncomputable def rb (f:bj->ag->ar (α×ag)) (g:bj->α->ag->ar (β×ag)):bj->ag->ar (β×ag):=fun ρ r=>(f ρ r).bind fun x=>g ρ x.1 x.2
noncomputable def rM (f:bj->ag->ar (α×ag)) (g:α->ar β):bj->ag->ar (β×ag):=fun ρ r=>(f ρ r).bind fun x=>(g x.1).map fun d=>(d,x.2)
section
variable {a:Expr} {bY:ac Expr} {fa fb f:FR} {fr fi:FRa} {ft gt:FRt} {F:FE}
noncomputable def r2 (g:D->D->ar D) (fa fb:FR):FR:=rb fa fun ρ x r=>rM fb (fun y=>g x y) ρ r
end
section
variable {a:Expr} {bY:ac Expr} {fa fb f:FR} {fr fi:FRa} {ft gt:FRt} {y:ak} {g g':FRs}
end
section
variable {a:Expr} {fa fb f:FR} {fr:FRa} {y:ak}
end
noncomputable def bl (T H:Hp):Hp:=fun a=>if (T a).isSome=ai then ab else H a
noncomputable def jn (T H:Hp):Hp:=fun a=>if (T a).isSome=ai then T a else H a
noncomputable def Iv (c':aw) (qual:ak):Heap->Prop:=fun h=>h.CodeRec (.ref c') qual
noncomputable def Kz (pos:dq) (c':aw):bR Value:=#[kB pos.line,kB pos.col,.ref c']
noncomputable def T1 (P:aw) (qual:ak) (pos:dq) (c':aw):Hp:=upd (upd (fun _=>ab) P (.tbl (Kz pos c'))) c' (.ext (Iv c' qual))
section
open PyProof
end
section
variable {J:Hp->Prop} {a:Expr} {y:ak}
end
section
variable {J:Hp->Prop} {p1:dq}
noncomputable def ut:FQ
 |[.lst l]=>(ie l).bind fun ss=>if ss.length<64 then aa (.lst ((fg ss).map D.str)) else ab
 |_=>ab
theorem MM:dB X (.builtin "sorted") (fun xs H Q=>∃(a:aw) (ss:ac ak),xs=[.ref a]/\H a=aa (.lst (ss.map V.str))/\ss.length<64/\∀p,H p=ab->Q (.ref p) (upd H p (.lst ((fg ss).map V.str)))):=by
 intro pins s σ H xs us Q I r h;obtain⟨a,ss,rfl,ha,h64,q⟩:=h;obtain⟨u,rfl,ru⟩:=dY r;cases ru;obtain⟨its,rv,pl,_⟩:=I.list (.inl (.inl ha));have hS:=wN rv;have hl:its.length=ss.length:=by have:=rv.length;simpa using this.symm
 refine sorted_strs pl.isList hS (by rw[hl];exact h64) fun out ss' a1 a2 a3=>?_;have es:=Ha a2 a3;subst es;obtain⟨ee,he⟩:=sortedAll_at s.heap its out;have hn:H .(X)=ab:=I.hok.fresh (iy _);have hls:(fg ss).length=ss.length:=(kK ss leS).length_eq;have hsl:=eX;refine⟨.ref .(X),upd H .(X) (.lst ((fg ss).map V.str)),I.many (t':=s.toks) (fun b o e=>sortedAll_old e) (fun b o e=>by rw[a4 (b7 e hn)];exact e) (fun b o e1 e2=>?_),rfl,q _ hn⟩;by_cases hb:b=s.heap.objs.size+1
 .subst hb;rw[bW] at e2;cases e2;exact⟨fun u e=>bN (qv e) (u0.mpr (iy _)),by rw[qg,hls];omega,_,ee,Ar a1,by rw[zC];exact he⟩
 .rw[a4 hb,e1] at e2;cases e2
theorem M0:BltD Γ X "sorted" ut:=⟨_,MM,fun {G H vs ds z} gh r h Q k=>by
 unfold ut at h;split at h
 .obtain⟨ss,hs,h⟩:=oBd h;split at h
  .rename_i h64;cases h;obtain⟨v,rfl,r1⟩:=r.one;obtain⟨a,us,rfl,ha,ra⟩:=r1.lst_inv;exact⟨a,ss,rfl,by rw[←t5 ra hs];exact gh _ _ ha,h64,lr gh (Reps.strs _) k⟩
  .cases h
 .cases h⟩
end
section
open PyProof
noncomputable def btS (ss:ac ak) (i j:al):aX:=decide ((ss.getD i fZ).cps.toList<(ss.getD j fZ).cps.toList)
noncomputable def mnS (ss:ac ak):ak:=ss.getD (jR (btS ss) (ss.length-1)) fZ
noncomputable def wm:FQ
 |[.lst l]=>(ie l).bind fun ss=>if ss=[] then ab else aa (.str (mnS ss))
 |_=>ab
theorem Qr {P:al->Value->Prop} (ss:ac ak) (hval:∀i v,P i v->∃t,v=.str (ss.getD i fZ) t):CmpOf prog w A .Lt P (btS ss):=fun i j vi vj s Q E hi hj h=>by obtain⟨t,rfl⟩:=hval i vi hi;obtain⟨u,rfl⟩:=hval j vj hj;exact richCompare_gives (op:=.Lt) (uV s _ t) (uV s _ u) F.slot_str_lt F.entry_str_lt (F.args_str_lt_2 _ _) (gives_str_lt _ _ t u) (fun x=>nomatch x) h
theorem AF:∀{vs:ac Value} {ss:ac ak},StrsAre vs ss->∀(i:al) v,vs[i]?=aa v->∃t,v=.str (ss.getD i fZ) t
 |_,_,.cons x t r,0,v,e=>by cases e;exact⟨t,rfl⟩
 |_,_,.cons x t r,i+1,v,e=>by obtain⟨t,h⟩:=AF r i v e;exact⟨t,h⟩
theorem Qi (hc:X.calm=ai):dB X (.builtin "min") (fun xs H Q=>∃(a:aw) (ss:ac ak),xs=[.ref a]/\H a=aa (.lst (ss.map V.str))/\ss≠[]/\Q (.str (mnS ss)) H):=by
 intro pins s σ H xs us Q I r h;obtain⟨a,ss,rfl,ha,e0,q2⟩:=h;obtain⟨u,rfl,ru⟩:=dY r;cases ru;obtain⟨its,rv,pl,_⟩:=I.list (.inl (.inl ha));have hS:=wN rv;have vl:its.length=ss.length:=by have:=rv.length;simpa using this.symm
 refine call_min_walk (rR pl.isList ?_);have la:a<s.heap.objs.size:=by obtain⟨o,_,h1,_⟩:=pl;exact qv h1
 have hP:∀(i:al) v,its.toArray[i]?=aa v->∃t,v=.str (ss.getD i fZ) t:=fun i v hv=>AF hS i v (by simpa using hv);have sz:its.toArray.size=ss.length:=by simp[vl]
 refine⟨s.heap.objs.size,_,_,_,_,_,btS ss,rfl,u5 (A:=X.A.in1) (show X.A.in1.handled=ab from I.ok.hd hc) s.heap.objs.size a (qB la) its.toArray,⟨⟨_,qF _ rfl,rfl,rfl⟩,pl.isList.at fun o q=>qu _ q⟩,fun b hb=>?_,?_,Qr ss hP,fun v h' tk pv hk=>?_⟩
 .rw[mZ];simp only[qK,qI,or_false] at hb;rcases hb with z|z
  .rw[z];exact uS _
  .rw[z];exact vk la
 .rw[sz];exact zH.mpr e0
 .obtain⟨t,rfl⟩:=hP _ _ pv;refine⟨.str (mnS ss),H,I.kept fun b o z=>hk b o ?_ (qu _ z),?_,q2⟩
  .intro z';have:b=s.heap.objs.size:=by simpa using z'
   exact bN (qv z) (by rw[this];exact kx _)
  .unfold mnS;rw[sz];exact⟨t,rfl⟩
theorem KZ (hc:X.calm=ai):BltD Γ X "min" wm:=⟨_,Qi hc,fun {G H vs ds z} gh r h Q k=>by
 unfold wm at h;split at h
 .obtain⟨ns,hn,h⟩:=oBd h;split at h
  .cases h
  .rename_i hne;cases h;obtain⟨v,rfl,r1⟩:=r.one;obtain⟨a,us,rfl,ha,ra⟩:=r1.lst_inv;exact⟨a,ns,rfl,by rw[←t5 ra hn];exact gh _ _ ha,hne,k _ G H (.refl gh) (.str _)⟩
 .cases h⟩
noncomputable def sN:FQ
 |[.lst l]=>(iN l).bind fun ns=>if ns.length<64 then aa (.lst ((fS ns).map D.int)) else ab
 |_=>ab
theorem Ga:dB X (.builtin "sorted") (fun xs H Q=>∃(a:aw) (ns:ac ag),xs=[.ref a]/\H a=aa (.lst (ns.map V.int))/\ns.length<64/\∀p,H p=ab->Q (.ref p) (upd H p (.lst ((fS ns).map V.int)))):=by
 intro pins s σ H xs us Q I r h;obtain⟨a,ns,rfl,ha,h64,q⟩:=h;obtain⟨u,rfl,ru⟩:=dY r;cases ru;obtain⟨its,rv,pl,_⟩:=I.list (.inl (.inl ha));obtain⟨vl,vi⟩:=BP rv;have hS:jb its ns:=xm (P:=fun _ _=>True) vl fun j v e=>by
  obtain⟨t,h⟩:=vi j v e;have hj:j<ns.length:=by rw[←vl];exact(cX.mp e).1
  exact⟨_,t,by rw[nu,qC hj];rfl,h⟩
 refine sorted_ints pl.isList hS (by rw[vl];exact h64) fun out ns' a1 a2 a3=>?_;have es:=DD a2 a3;subst es;obtain⟨ee,he⟩:=sortedAll_at s.heap its out;have hn:H .(X)=ab:=I.hok.fresh (iy _);have hls:(fS ns).length=ns.length:=(kK ns leZ).length_eq;have hsl:=eX;refine⟨.ref .(X),upd H .(X) (.lst ((fS ns).map V.int)),I.many (t':=s.toks) (fun b o e=>sortedAll_old e) (fun b o e=>by rw[a4 (b7 e hn)];exact e) (fun b o e1 e2=>?_),rfl,q _ hn⟩;by_cases hb:b=s.heap.objs.size+1
 .subst hb;rw[bW] at e2;cases e2;exact⟨fun u e=>bN (qv e) (u0.mpr (iy _)),by rw[qg,hls];omega,_,ee,vA a1,by rw[zC];exact he⟩
 .rw[a4 hb,e1] at e2;cases e2
theorem JC:BltD Γ X "sorted" sN:=⟨_,Ga,fun {G H vs ds z} gh r h Q k=>by
 unfold sN at h;split at h
 .obtain⟨ns,hs,h⟩:=oBd h;split at h
  .rename_i h64;cases h;obtain⟨v,rfl,r1⟩:=r.one;obtain⟨a,us,rfl,ha,ra⟩:=r1.lst_inv;exact⟨a,ns,rfl,by rw[←ur ra hs];exact gh _ _ ha,h64,lr gh (Reps.ints _) k⟩
  .cases h
 .cases h⟩
end
section
open PyProof
noncomputable def tR:D->ar (ac (Key×D))
 |.dk l=>aa l
 |.fdk l=>aa l
 |_=>ab
noncomputable def ph (x y:D):ar aX:=(tR x).bind fun ka=>(tR y).bind fun kb=>if ka.length=kb.length then mq kb ka else aa aq
noncomputable def pA (x y:D):ar D:=(ph x y).map fun b=>.bl (!b)
theorem AH {l:ac (Key×D)} (gh:bO G H) (r:Rep Γ X.K G v d) (h:tR d=aa l):∃p us,v=.ref p/\Rd H p (.dK us)/\us.map (·.1)=l.map (·.1)/\Reps Γ X.K G (us.map (·.2)) (l.map (·.2)):=by
 unfold tR at h;split at h
 .cases h;cases r with
  |dk h1 h2 h3=>exact⟨_,_,rfl,.inl (gh _ _ h1),h2,h3⟩
 .cases h;cases r with
  |fdk h1 h2 h3=>exact⟨_,_,rfl,.inr ⟨_,gh _ _ h1⟩,h2,h3⟩
 .cases h
noncomputable def rDf (Γ:Cn) (K:bi):R2:=fun x y H Q=>∃G d e b,bO G H/\Rep Γ K G x d/\Rep Γ K G y e/\ph d e=aa b/\Q (.bl (!b)) H
theorem NI (hu:X.A.units+66<cg):OpR X (dh .NotEq) (rDf Γ X.K):=by
 intro pins s σ H x y v u Q I rx ry h;obtain⟨G,d,e,b,gh,r1,r2,hb,q⟩:=h;unfold ph at hb;obtain⟨ka,hka,hb⟩:=oBd hb;obtain⟨kb,hkb,hb⟩:=oBd hb;obtain⟨p,ua,rfl,h1,h2,h3⟩:=AH gh r1 hka;obtain⟨p',ub,rfl,k1,k2,k3⟩:=AH gh r2 hkb;obtain⟨_,m1,va,qa,da⟩:=gi I.hok h1;obtain⟨_,m2,vb,qb,db⟩:=gi I.hok k1;cases rx;cases ry;have la:va.length=ka.length:=by rw[←qa.length];simpa using cK f8 h2
 have lb:vb.length=kb.length:=by rw[←qb.length];simpa using cK f8 k2
 have hu1:X.A.in1.units+64<cg:=by have:X.A.in1.units=X.A.units+1:=rfl;omega
 split at hb
 .rename_i hl;refine Sd m1 m2 da db .(f) (fun _=>DK I gh hu1 k2 k3 qb h2 h3 qa hb) ⟨.bl _,H,I,rfl,?_⟩;rw[la,lb,hl];simpa using q
 .rename_i hl;cases hb;refine Sd (r:=aq) m1 m2 da db .(f) (fun q=>bN (la.symm.trans (q.trans lb)) hl) ⟨.bl _,H,I,rfl,?_⟩;simpa using q
theorem Qa (hu:X.A.units+66<cg):CmpD Γ X .NotEq pA:=⟨_,NI (Γ:=Γ) hu,fun {G H v u x y z} gh r1 r2 h Q k=>by unfold pA at h;obtain⟨b,hb,rfl⟩:=oMd h;exact⟨G,x,y,b,gh,r1,r2,hb,k _ G H (.refl gh) (.bl _)⟩⟩
end
section
open PyProof
theorem KS:PE X (.Dict [] [] pos) (fun σ H Q=>∀p o,H p=ab->Q (.ref p) (upd H p (.frz o (.dK [])))):=by intro pins s σ H Q I h;refine thn (xu pins s σ H (fun v H'=>∃p,v=.ref p/\H p=ab/\H'=upd H p (.dK [])) I fun p hp=>⟨p,rfl,hp,rfl⟩) fun v s1 ⟨x,H1,I1,r1,p,e1,hp,e2⟩=>?_;subst e1 e2;obtain⟨o,ho⟩:=(I1.hok p _ bW).there;have I2:=I1.frz bW ho;rw[Cj] at I2;exact⟨.ref p,_,I2,r1,h p o hp⟩
theorem Hm:DE Γ X (.Dict [] [] pos) (vC (.fdk [])):=⟨KS.imp fun σ H Q=>by rintro⟨G₀,H₀,G,ρ,d,A,h,k⟩;cases h;intro p o hp;have s:=Step.new (o:=.frz o (.dK [])) A.gh hp;exact k _ _ _ s (.fdk bW rfl .nil)⟩
end
section
open PyProof
noncomputable def nR (i:al) (fk:FE):FE:=fun ρ=>match ρ[i]? with
 |some (aa (.odk kvs))=>(fk ρ).bind fun kd=>(gF kd).bind fun k=>ck kvs k
 |_=>ab
section
theorem Hv (i:al) (hu:X.A.units+66<cg) (hk:DE Γ X ke fk) (hs:tS ke:=by intro _ _;rfl) (hN:X.N[i]?=aa x:=by rfl) (hv:Vis X.env.scope x:=by first|exact di rfl|exact cG (di rfl)|exact cG (cG rfl)) (hd:.(E)=aq:=by decide)
  (hcd:(x==("__classdict__":ak))=aq:=by decide):DE Γ X (.Subscript (.Name x vp) ke pos) (nR i fk):=⟨(AW .(f) (iW hN hv hd hcd) hk.1 hs).imp fun σ H Q=>by
 rintro⟨G₀,H₀,G,ρ,d,A,h,k⟩;unfold nR at h;split at h
 .rename_i kvs hi;obtain⟨kd,hkd,h⟩:=oBd h;obtain⟨kk,hkk,h⟩:=oBd h;obtain⟨w,fp,h1,h2⟩:=A.get hi;cases h2 with
  |odk q1 q2 q3 q4 q5=>
   rename_i a us;refine⟨_,h1,G₀,H₀,G,ρ,_,A,hkd,fun u G2 H2 s2 r2=>?_⟩;have eu:=lH r2 hkk;subst eu;rcases mM (k:=kk) q4 (q5.mono s2.gg) with⟨n1,n2⟩|⟨y,u,n1,n2,n3⟩
   .rw[n1] at h;cases h
   .rw[n1] at h;cases h;exact⟨a,u,rfl,.inl ⟨us,kk,.inl (s2.hh _ _ q3),rfl,n2.symm⟩,k u G2 H2 s2 n3⟩
 .cases h⟩
noncomputable def pM (i j:al) (fa:FA):FS:=fun ρ=>(fa ρ).bind fun ds=>match ds with
 |[a,b]=>aa (.nx,(ρ.set i (aa (.sh a))).set j (aa (.sh b)))
 |_=>ab
variable {y:ak} {a:Expr} {pt pt2:dq} {kt k2:al}
theorem AA (i j:al) (hc:X.calm=ai) (hN:X.N.Nodup) (ha:DA Γ X [a,b] fr) (hi:X.N[i]?=aa x:=by rfl) (hj:X.N[j]?=aa y:=by rfl) (hij:i≠j:=by decide) (hx:X.env.scope.names.lookup x=aa .local:=by rfl) (hy:X.env.scope.names.lookup y=aa .local:=by rfl)
  (hw:yz [.Tuple [.Name x px,.Name y py] kt pt] (.Tuple [a,b] k2 pt2) X.env=bB (aa [x,y]):=by rfl)
  (hs:yy [.Tuple [.Name x px,.Name y py] kt pt] (.Tuple [a,b] k2 pt2) pos.line X.env=bB aq:=by rfl) :
  DS Γ X (.Assign [.Tuple [.Name x px,.Name y py] kt pt] (.Tuple [a,b] k2 pt2) pos) (pM i j fr):=⟨(MC hc hN hi hj hij hx hy ha.1 hw hs).imp fun E σ H=>by
 rintro⟨G₀,H₀,G,ρ,fl,ρ',A,h,k⟩;unfold pM at h;obtain⟨ds,hd,h⟩:=oBd h;split at h
 .cases h;refine⟨G₀,H₀,G,ρ,_,A,hd,fun vs G1 H1 s1 r1=>?_⟩;cases r1 with
  |cons q1 q2=>
   cases q2 with
   |cons q2 q3=>
    cases q3;exact⟨_,_,rfl,k _ G1 H1 s1.gg (((A.step s1).setSh q1).setSh q2)⟩
 .cases h⟩
end
end
theorem K8 (us:ac Value):us=(cP us.length).map fun i=>us.getD i .none:=by
 apply List.ext_getElem
 .simp
 .intro i h1 h2;simp[nu,qC h1]
theorem bn {F:Value->Value->Value->ar aw->Value->Value->m4} (h:∀a b c d e f (v:al->Value),lS (F a b c d e f) ⟨(cP ps.length).map v,[]⟩=bB (ps.zip ((cP ps.length).map v))) (a b c:Value) (d:ar aw) (e f:Value) (us:ac Value) (hl:us.length=ps.length) :
  lS (F a b c d e f) ⟨us,[]⟩=bB (ps.zip us):=by
 have:=h a b c d e f fun i=>us.getD i .none;rw[←hl,←K8 us] at this;exact this
section
open PyProof
noncomputable def pC:FQ
 |[.lst l]=>(iN l).map fun ns=>.int ns.sum
 |_=>ab
theorem Oq (hc:X.calm=ai):dB X (.builtin "sum") (fun xs H Q=>∃(a:aw) (ns:ac ag),xs=[.ref a]/\H a=aa (.lst (ns.map V.int))/\Q (.int ns.sum) H):=by
 intro pins s σ H xs us Q I r h;obtain⟨a,ns,rfl,ha,q2⟩:=h;obtain⟨u,rfl,ru⟩:=dY r;cases ru;obtain⟨its,rv,pl,_⟩:=I.list (.inl (.inl ha));have hi:jb its ns:=Gm rv;obtain⟨xs,e⟩:=hi.allInts.items;have hl:=pl.isList;rw[e] at hl;refine sum_intListG (I.ok.hd hc) hl fun h' tk t' hk=>?_;have en:preSum (numAt xs) xs.size=ns.sum:=by rw[preSum_eq,rO (by simp),←nums_intItems,←e,show its.toArray.toList=its from rfl,hi.numsOf]
 rw[en];exact⟨.int ns.sum,H,I.kept fun b o z=>hk b o z,⟨t',rfl⟩,q2⟩
theorem AD (hc:X.calm=ai):BltD Γ X "sum" pC:=⟨_,Oq hc,fun {G H vs ds z} gh r h Q k=>by
 unfold pC at h;split at h
 .obtain⟨ns,hn,h⟩:=oMd h;cases h;obtain⟨v,rfl,r1⟩:=r.one;obtain⟨a,us,rfl,ha,ra⟩:=r1.lst_inv;exact⟨a,ns,rfl,by rw[←ur ra hn];exact gh _ _ ha,k _ G H (.refl gh) (.int _)⟩
 .cases h⟩
end
section
open PyProof
end
namespace Law
noncomputable def top (i:al):Stmt:=Tw.main.body.getD i (.Pass ⟨0,0,0,0⟩)
noncomputable def DN:ac ak:=["benches","steps","jobs","setups","links","stocks","horizon","bench_by_name","step_by_name","setup_by_names","job_by_step"]
noncomputable def Gam (C_Shop:aw):Cn:=⟨fun c=>if c="Shop" then aa C_Shop else ab,ab⟩
noncomputable def dS:FQ:=aY 0
  (ax (sIf (toB (b2 ltD (vSh 1) (cF b9 .(T)))) (aE (b2 ixD (vSh 0) (vSh 1))) aP) (aE .(d)))
noncomputable def dQ:FQ:=aY 4
  (ax (aG 3 (b2 dA (cF sL .(T)) .(i))) (ax (dL 4 (szF aj)) (ax (bD (itE (vSh 2)) (bJ 2 .(ak)) (sIf (orT (toB (b2 eqD (b2 bz (vSh 0) .(i)) .(c))) (toB (b2 eqD (vSh 3) .(d)))) .(ad) (ax (c7 4 (b2 bz (vSh 3) (vSh 6))) (aG 3 (b2 dA (vSh 3) (vSh 6)))))) (eF 4 (aE (vSh 4))))))
noncomputable def sr:FQ:=aY 6
  (ax (dL 2 (szF aj)) (ax (aG 3 .(d)) (ax (bD (itF (vSh 0)) (bJ 2 .(O)) (ax (aG 6 (b2 aK (vSh 3) (vSh 4))) (ax (aG 7 (b2 aK (b2 aK (vSh 6) .(c)) (vSh 5))) (sIf (toB (b2 leD (vSh 7) (vSh 1))) (ax (c7 2 (aT (szF (ae (vSh 6) (ae (vSh 7) aj))))) (aG 3 (b2 aK (vSh 7) .(c)))) aP)))) (eF 2 (aE (vSh 2))))))
noncomputable def fX:FQ:=aY 1
  (ax (aG 1 (b2 ixD (vC (.str "abcdefghijklmnopqrstuvwxyz")) (b2 bz (vSh 0) (vC (.int 26))))) (aE (b2 aK (vSh 1) (b2 cv (b2 ixD (vC (.str "qrstuvw")) (b2 dA (vSh 0) (vC (.int 26)))) (b2 bz (vSh 0) .(l))))))
noncomputable def we:FQ:=aY 5
  (ax (dL 2 (szF aj)) (ax (bD (itE (vSh 0)) (bJ 2 (aJ (ay 3) (aJ (ay 4) bI))) (ax (aG 5 (cF dQ (ae (vSh 4) (ae (vSh 3) (ae (aH (szF (ae .(l) (ae (vC (.int 5)) (ae .(j) (ae (vC (.int 7)) (ae .(l) (ae (vC (.int 9)) (ae (vC (.int 5)) aj))))))))) aj))))) .(H))) (eF 2 (aE (vSh 2)))))
noncomputable def vI:FQ:=aY 5
  (ax (dL 4 (szF aj)) (ax (bD (itE (vSh 0)) (bJ 2 .(ak)) (ax (aG 7 (cF dQ .(ae))) .(z))) (eF 4 (aE (vSh 4)))))
noncomputable def yr:FQ:=aY 8
  (ax (dL 3 (szF aj)) (ax (aG 4 (aH (a9 (itF (vSh 1)) (ay 0) tT .(r) [ab]))) (ax (bD (itE (vSh 0)) (bJ 2 .(ak)) .(aa)) (eF 3 (aE (vSh 3))))))
noncomputable def wj:FQ:=aY 5
  (ax (dL 3 (szF aj)) (ax (bD (itE (cF dQ (ae (vSh 0) (ae .(j) (ae (b2 cv (aH (szF (ae .(l) aj))) (vC (.int 6))) aj))))) (bJ 2 .(O)) .(D)) (eF 3 (aE (vSh 3)))))
noncomputable def vD:FQ:=aY 5
  (ax (dL 3 (szF aj)) (ax (aG 4 (cF dQ (ae (vSh 0) (ae (vC (.int 5)) (ae (aH (szF (ae .(j) (ae (vC (.int 9)) (ae (vC (.int 9)) (ae .(l) (ae (vC (.int 9)) (ae (vC (.int 9)) (ae .(l) aj))))))))) aj))))) (ax (bD (itR gr (ae (b2 ixD (vSh 4) .(d)) aj)) (ay 5) .(x)) (eF 3 (aE (vSh 3))))))
noncomputable def wc:FQ:=aY 6
  (ax (aG 2 (cF dQ (ae (vSh 0) (ae (vC (.int 9)) (ae (aH (szF (ae (vC (.int 7)) (ae .(l) (ae (vC (.int 5)) (ae (vC (.int 8)) (ae (vC (.int 8)) (ae .(l) (ae .(l) aj))))))))) aj))))) (ax (dL 3 (szF aj)) (ax (bD (itR gr (ae (b2 ixD (vSh 2) .(d)) aj)) (ay 4) .(L)) (eF 3 (aE (vSh 3))))))
noncomputable def xR:FQ:=aY 6
  (ax (aG 4 (cF we (ae (aH (a9 (itR gr (ae (b2 aK .(c) (b2 bz (cF dS (ae (vSh 0) (ae .(d) aj))) .(j))) aj)) (ay 0) tT (cF dS (ae (vSh 1) (ae (b2 aK .(c) (vSh 0)) aj))) [ab,aa 0])) .(an)))) (ax (aG 5 (cF vI (ae (aH (a9 (itR gr .(K)) (ay 0) tT (cF dS (ae (vSh 1) (ae (b2 aK .(l) (vSh 0)) aj))) [ab,aa 0])) (ae (vSh 4) (ae (vSh 2) .(au)))))) (ax (aG 6 (cF yr (ae (aH (a9 (itR gr (ae .(j) aj)) (ay 0) tT (cF dS (ae (vSh 1) (ae (b2 aK (vC (.int 14)) (vSh 0)) aj))) [ab,aa 0])) (ae (vSh 5) .(an))))) (ax (aG 7 (cF wj (ae (cF dS (ae (vSh 0) (ae (vC (.int 17)) aj))) (ae (vSh 4) .(an))))) (ax (aG 8 (cF vD (ae (cF dS (ae (vSh 0) (ae (vC (.int 18)) aj))) (ae (vSh 5) .(an))))) (ax (aG 9 (cF wc (ae (cF dS (ae (vSh 0) (ae (vC (.int 19)) aj))) (ae (vSh 5) aj)))) (aE (aH (szF (ae (vSh 4) (ae (vSh 5) (ae (vSh 6) (ae (vSh 7) (ae (vSh 8) (ae (vSh 9) .(an))))))))))))))))
noncomputable def sY:FQ:=aY 0
  (aE (cE (cF dZ (ae (vSh 0) (ae (vC (.ty "int")) aj))) (sP (cF dZ (ae (vSh 0) (ae (vC (.ty "bool")) aj))))))
noncomputable def gE:FQ:=aY 0
  (aE (cE (cF sY .(T)) (chD leD leD (vSh 1) (vSh 0) (vSh 2))))
noncomputable def fT:FQ:=aY 0
  (aE (cE (cF dZ (ae (vSh 0) (ae (vC (.ty "tuple")) aj))) (b2 eqD (cF b9 .(T)) (vSh 1))))
noncomputable def t6:FQ:=aY 0
  (ax (sIf (orT (bC (toB (cF fT (ae (vSh 0) (ae .(i) aj))))) (orT (bC (toB (cF gE (ae .(r) (ae .(d) .(K)))))) (bC (toB (cF gE (ae .(ag) (ae .(d) .(K)))))))) .(J) aP) (aE (b2 ltD .(r) .(ag))))
noncomputable def gO:FQ:=aY 0
  (aE (cE (cF dZ (ae (vSh 0) (ae (vC (.ty "list")) aj))) (chD leD leD (vSh 1) (cF b9 .(T)) (vSh 2))))
noncomputable def wI:FQ:=aY 0
  (ax (sIf (orT (bC (toB (cF gO (ae (vSh 0) (ae .(d) (ae (vC (.int 10)) aj)))))) (bC (toB (cF fC (ae (aH (a9 (itF (vSh 0)) (ay 0) tT (cF t6 (ae (vSh 0) .(K))) [ab,aa 1])) aj))))) .(J) aP) (aE (cF fC (ae (aH (a9 (itR lG (ae .(c) (ae (cF b9 .(T)) aj))) (ay 0) tT (b2 ltD (b2 ixD (b2 ixD (vSh 1) (b2 eN (vSh 0) .(c))) .(c)) (b2 ixD (b2 ixD (vSh 1) (vSh 0)) .(d))) [ab,aa 0])) aj))))
noncomputable def jt:FQ:=aY 0
  (ax (sIf (orT (bC (toB (cF dZ (ae (vSh 0) (ae (vC (.ty "str")) aj))))) (bC (toB (chD leD leD .(c) (cF b9 .(T)) (vC (.int 8)))))) .(J) aP) (aE (cF fC (ae (aH (a9 (itS (vSh 0)) (ay 0) tT (chD leD leD (vC (.str "a")) (vSh 0) (vC (.str "z"))) [ab])) aj))))
noncomputable def uy:FQ:=aY 0
  (aE (cE (cF fT (ae (vSh 0) (ae .(i) aj))) (cE (cF jt (ae .(r) aj)) (cF wI (ae .(ag) .(K))))))
noncomputable def fD:FQ:=aY 0
  (aE (b2 eqD (b1 oq (vSh 0)) (cF b9 .(T))))
noncomputable def x5:FQ:=aY 0
  (ax (sIf (orT (bC (toB (cF gO (ae (vSh 0) (ae .(c) (ae (vC (.int 8)) aj)))))) (bC (toB (cF fC (ae (aH (a9 (itF (vSh 0)) (ay 0) tT (cF uy (ae (vSh 0) .(K))) [ab,aa 1])) aj))))) .(J) aP) (aE (cF fD .(ai))))
noncomputable def j1:FQ:=aY 0
  (aE (cE (cF jt .(T)) (b2 fE (vSh 0) (vSh 1))))
noncomputable def sA:FQ:=aY 0
  (aE (cE (cF fT (ae (vSh 0) (ae .(i) aj))) (cE (cF j1 (ae .(r) .(K))) (cF gE (ae .(ag) (ae .(c) .(an)))))))
noncomputable def wz:FQ:=aY 0
  (ax (sIf (orT (bC (toB (cF gO (ae (vSh 0) (ae .(c) (ae .(l) aj)))))) (bC (toB (cF fC (ae (aH (a9 (itF (vSh 0)) (ay 0) tT (cF sA (ae (vSh 0) (ae (vSh 1) .(an)))) [ab,aa 1,aa 2])) aj))))) .(J) aP) (aE (cF fD .(ai))))
noncomputable def tK:FQ:=aY 0
  (ax (sIf (orT (bC (toB (cF fT (ae (vSh 0) (ae .(j) aj))))) (orT (bC (toB (cF jt (ae .(r) aj)))) (bC (toB (cF jt (ae .(ag) aj)))))) .(J) aP) (aE (cF wz (ae (b2 ixD (vSh 0) .(i)) (ae (vSh 1) .(an))))))
noncomputable def xC:FQ:=aY 0
  (ax (sIf (orT (bC (toB (cF gO (ae (vSh 0) (ae .(c) (ae (vC (.int 40)) aj)))))) (bC (toB (cF fC (ae (aH (a9 (itF (vSh 0)) (ay 0) tT (cF tK (ae (vSh 0) (ae (vSh 1) .(an)))) [ab,aa 1,aa 2])) aj))))) .(J) aP) (aE (cF fD .(ai))))
noncomputable def yq:FQ:=aY 0
  (ax (sIf (orT (bC (toB (cF fT (ae (vSh 0) (ae (vC (.int 5)) aj))))) (orT (bC (toB (cF jt (ae .(r) aj)))) (bC (toB (cF dZ (ae (b2 ixD (vSh 0) .(j)) (ae (vC (.ty "bool")) aj))))))) .(J) aP) (ax (sIf (orT (bC (toB (cF gE (ae .(ag) (ae .(d) .(an)))))) (bC (toB (cF gE (ae (b2 ixD (vSh 0) .(i)) (ae .(d) .(an))))))) .(J) aP) (aE (cE (cF gO (ae (b2 ixD (vSh 0) .(l)) (ae .(c) (ae (cF b9 .(K)) aj)))) (cF fC (ae (aH (a9 (itF (b2 ixD (vSh 0) .(l))) (ay 0) tT (cF j1 (ae (vSh 0) .(K))) [ab,aa 1])) aj))))))
noncomputable def xp:FQ:=aY 2
  (ax (sIf (orT (bC (toB (cF gO (ae (vSh 0) (ae .(d) (ae (vC (.int 40)) aj)))))) (bC (toB (cF fC (ae (aH (a9 (itF (vSh 0)) (ay 0) tT (cF yq (ae (vSh 0) (ae (vSh 1) .(an)))) [ab,aa 1,aa 2])) aj))))) .(J) aP) (ax (dL 3 (szF aj)) (ax (bD (itF (vSh 0)) (ay 4) (iD 3 (b2 ixD (vSh 4) .(l)))) (eF 3 (aE (cE (cF fD .(ai)) (cF fD .(au))))))))
noncomputable def sF:FQ:=aY 0
  (ax (sIf (orT (bC (toB (cF fT (ae (vSh 0) (ae .(l) aj))))) (bC (toB (cF j1 (ae .(r) .(K)))))) .(J) aP) (aE (cE (cF jt (ae .(ag) aj)) (cE (cF jt (ae (b2 ixD (vSh 0) .(i)) aj)) (cF gE (ae (b2 ixD (vSh 0) .(j)) (ae .(c) .(an))))))))
noncomputable def xa:FQ:=aY 0
  (ax (sIf (orT (bC (toB (cF gO (ae (vSh 0) (ae .(d) (ae (vC (.int 100)) aj)))))) (bC (toB (cF fC (ae (aH (a9 (itF (vSh 0)) (ay 0) tT (cF sF (ae (vSh 0) (ae (vSh 1) .(an)))) [ab,aa 1,aa 2])) aj))))) .(J) aP) (aE (cF fD (ae (aH (a9 (itF (vSh 0)) (ay 0) tT (slF (vSh 0) pN (pS .(j))) [ab])) aj))))
noncomputable def tI:FQ:=aY 0
  (ax (sIf (orT (bC (toB (cF fT (ae (vSh 0) (ae .(j) aj))))) (orT (bC (toB (cF j1 (ae .(r) .(K))))) (bC (toB (cF j1 (ae .(ag) .(K))))))) .(J) aP) (aE (cE (b2 neA .(r) .(ag)) (cF gE (ae (b2 ixD (vSh 0) .(i)) (ae .(d) .(an)))))))
noncomputable def xb:FQ:=aY 0
  (ax (sIf (orT (bC (toB (cF gO (ae (vSh 0) (ae .(d) (ae (vC (.int 100)) aj)))))) (bC (toB (cF fC (ae (aH (a9 (itF (vSh 0)) (ay 0) tT (cF tI (ae (vSh 0) (ae (vSh 1) .(an)))) [ab,aa 1,aa 2])) aj))))) .(J) aP) (aE (cF fD (ae (aH (a9 (itF (vSh 0)) (ay 0) tT (slF (vSh 0) pN (pS .(i))) [ab])) aj))))
noncomputable def tL:FQ:=aY 0
  (aE (cE (cF fT (ae (vSh 0) (ae .(i) aj))) (cE (cF j1 (ae .(r) .(K))) (cF gE (ae .(ag) (ae .(c) (ae (vC (.int 1000000)) aj)))))))
noncomputable def sR:FQ:=aY 0
  (ax (sIf (orT (bC (toB (cF gO (ae (vSh 0) (ae .(d) (ae (cF b9 .(K)) aj)))))) (bC (toB (cF fC (ae (aH (a9 (itF (vSh 0)) (ay 0) tT (cF tL (ae (vSh 0) .(K))) [ab,aa 1])) aj))))) .(J) aP) (aE (cF fD .(ai))))
noncomputable def uq:FQ:=aY 0
  (ax (sIf (orT (bC (toB (cF fT (ae (vSh 0) (ae (vC (.int 5)) aj))))) (bC (toB (cF jt (ae .(r) aj))))) .(J) aP) (ax (sIf (orT (bC (toB (cF gE (ae (b2 ixD (vSh 0) .(i)) (ae .(d) (ae (vC (.int 1000000)) aj)))))) (bC (toB (cF gE (ae .(ag) (ae .(d) (ae (b2 ixD (vSh 0) .(i)) aj))))))) .(J) aP) (aE (cE (cF sR (ae (b2 ixD (vSh 0) .(j)) .(K))) (cF sR (ae (b2 ixD (vSh 0) .(l)) .(K)))))))
noncomputable def wF:FQ:=aY 0
  (ax (sIf (orT (bC (toB (cF gO (ae (vSh 0) (ae .(d) (ae (vC (.int 6)) aj)))))) (bC (toB (cF fC (ae (aH (a9 (itF (vSh 0)) (ay 0) tT (cF uq (ae (vSh 0) .(K))) [ab,aa 1])) aj))))) .(J) aP) (aE (cF fD .(ai))))
noncomputable def wL:FQ:=aY 2
  (ax (sIf (bC (toB (cF gE (ae (vSh 6) (ae .(c) (ae (vC (.int 1000000)) aj)))))) (aE (vC (.str "horizon"))) aP) (ax (sIf (bC (toB (cF x5 (ae (vSh 0) (ae (vSh 6) aj))))) (aE (vC (.str "benches"))) aP) (ax (aG 7 (aH (a9 (itF (vSh 0)) (ay 0) tT .(r) [ab]))) (ax (sIf (bC (toB (cF xC (ae (vSh 1) (ae (vSh 7) (ae (vSh 6) aj)))))) (aE (vC (.str "steps"))) aP) (ax (aG 8 (aH (a9 (itF (vSh 1)) (ay 0) tT .(r) [ab]))) (ax (sIf (bC (toB (cF xp (ae (vSh 2) (ae (vSh 8) (ae (vSh 6) aj)))))) (aE (vC (.str "jobs"))) aP) (ax (sIf (bC (toB (cF xa (ae (vSh 3) (ae (vSh 7) (ae (vSh 6) aj)))))) (aE (vC (.str "setups"))) aP) (ax (sIf (bC (toB (cF xb (ae (vSh 4) (ae (vSh 8) (ae (vSh 6) aj)))))) (aE (vC (.str "links"))) aP) (ax (sIf (bC (toB (cF wF (ae (vSh 5) (ae (vSh 8) aj))))) (aE (vC (.str "stocks"))) aP) (aE (vC .non)))))))))))
noncomputable def jA (eE:FQ):FQ:=aY 0
  (ax (sIf (toB (cF dZ (ae (vSh 0) (ae (vC (.ty "list")) aj)))) (aE (aH (a9 (itF (vSh 0)) (ay 0) tT (cF eE .(T)) [ab]))) aP) (ax (sIf (toB (cF dZ (ae (vSh 0) (ae (vC (.ty "tuple")) aj)))) (aE (cF vE (ae (aH (a9 (itF (vSh 0)) (ay 0) tT (cF eE .(T)) [ab])) aj))) aP) (aE (vSh 0))))
noncomputable def jz:al->FQ
 |0=>fun _=>ab
 |n+1=>jA (jz n)
noncomputable def eE:FQ:=jz 8
noncomputable def xU:FQ:=nB 3 "Shop"
  (ax (aG 8 (cF wL (ae (vSh 1) (ae (vSh 2) (ae (vSh 3) (ae (vSh 4) (ae (vSh 5) (ae (vSh 6) (ae (vSh 7) aj))))))))) (ax (sIf (toB (b2 pP (vSh 8) (vC .non))) sNo aP) (ax (gG "Shop" "benches" 0 (cF eE .(K))) (ax (gG "Shop" "steps" 0 (cF eE .(an))) (ax (gG "Shop" "jobs" 0 (cF eE .(au))) (ax (gG "Shop" "setups" 0 (cF eE (ae (vSh 4) aj))) (ax (gG "Shop" "links" 0 (cF eE (ae (vSh 5) aj))) (ax (gG "Shop" "stocks" 0 (cF eE (ae (vSh 6) aj))) (ax (gG "Shop" "horizon" 0 (vSh 7)) (ax (gG "Shop" "bench_by_name" 0 (cF fW (ae (aH (a9 (itF (jD "Shop" "benches" 0)) (ay 0) tT (aT (szF (ae .(r) .(T)))) [ab])) aj))) (ax (gG "Shop" "step_by_name" 0 (cF fW (ae (aH (a9 (itF (jD "Shop" "steps" 0)) (ay 0) tT (aT (szF (ae .(r) .(T)))) [ab])) aj))) (ax (gG "Shop" "setup_by_names" 0 (cF tF (ae (aH (a9 (itF (jD "Shop" "setups" 0)) (ay 0) tT (aT (szF (ae (slF (vSh 0) pN (pS .(j))) (ae (b2 ixD (vSh 0) .(j)) aj)))) [ab])) aj))) (ax (og "Shop" "job_by_step" 0) (bD (itF (jD "Shop" "jobs" 0)) (ay 9) (bD (itF (b2 ixD (vSh 9) .(l))) (ay 10) (jr "Shop" "job_by_step" 0 (vSh 10) (vSh 9)))))))))))))))))
noncomputable def yk:FQ:=aY 0
  (aE (cF xU (ae .(r) (ae .(ag) (ae (b2 ixD (vSh 0) .(i)) (ae (b2 ixD (vSh 0) .(j)) (ae (b2 ixD (vSh 0) .(l)) (ae (b2 ixD (vSh 0) (vC (.int 5))) (ae (b2 ixD (vSh 0) (vC (.int 6))) aj)))))))))
noncomputable def nV:FQ:=aY 6
  (ax (uK 2) (ax (bD (itF (b2 ixD (vSh 1) .(c))) (bJ 3 (aJ (ay 3) .(O))) (sIf (toB (b2 gA (vSh 3) (vSh 0))) (ax (dM (bJ 2 (aJ (ay 6) (aJ (ay 7) bI))) (b2 aW (vSh 0) (vSh 3))) (eK 2 (vSh 3) (b2 aK (vSh 7) (b2 aW (cF fW (ae (vSh 5) aj)) (vSh 6))))) aP)) (iC 2 (aE (vSh 2)))))
noncomputable def sJ:FQ:=aY 6
  (ax (aG 3 .(d)) (ax (bD (itF (b2 ixD (vSh 0) .(l))) (bJ 3 (aJ (ay 4) .(ak))) (sIf (cD (toB (b2 eqA (vSh 5) (vSh 2))) (toB (b2 gA (vSh 4) (vSh 1)))) (aG 3 (cF gC (ae (vSh 3) (ae (b2 aK (b2 aW (vSh 1) (vSh 4)) (vSh 6)) aj)))) aP)) (ax (bD (itF (b2 ixD (vSh 0) .(i))) (ay 7) (sIf (cD (toB (b2 ixD (vSh 7) .(j))) (toB (b2 fE (vSh 2) (b2 ixD (vSh 7) .(l))))) (bD (itF (slF (b2 ixD (vSh 7) .(l)) pN (pS (mF rg (b2 ixD (vSh 7) .(l)) .(an))))) (ay 8) (aG 3 (cF gC (ae (vSh 3) (ae (b3 ip (vSh 1) (vSh 8) .(d)) aj))))) aP)) (aE (vSh 3)))))
noncomputable def oo:FQ:=aY 1
  (ax (bD (itF (b2 ixD (vSh 2) .(i))) (ay 4) (sIf (toB (b2 fE (vSh 3) (b2 ixD (vSh 4) .(l)))) (sIf (orT (toB (b2 ltD (b2 ixD (b2 aW (vSh 0) (vSh 3)) .(c)) (b2 ixD (vSh 4) .(c)))) (toB (b2 gtD .(V) (b2 ixD (vSh 4) .(i))))) (aE (vC (.bl ai))) aP) aP)) .(J))
noncomputable def nQ:FQ:=aY 2
  (ax (bD (itF (b2 aW (cF fW (ae (b2 ixD (vSh 2) .(d)) aj)) (b2 ixD (b2 aW (vSh 0) (vSh 3)) .(d)))) (bJ 2 .(O)) (sIf (cD (toB (b2 ltD (b2 ixD (b2 aW (vSh 0) (vSh 3)) .(c)) (vSh 5))) (toB (b2 ltD (vSh 4) .(V)))) (aE (vC (.bl ai))) aP)) .(J))
noncomputable def sv:FQ:=aY 2
  (ax (aG 4 (cF fW (ae (aH (a9 (itF .(ag)) (ay 0) tT (aT (szF (ae .(r) (ae .(ag) aj)))) [ab])) aj))) (ax (bD (itF (b2 ixD (vSh 0) .(j))) (ay 5) (sIf (toB (b2 eqA (slF (vSh 5) pN (pS .(j))) (aT (szF (ae (vSh 1) (ae (b2 aW (vSh 4) (vSh 2)) (ae (b2 aW (vSh 4) (vSh 3)) aj))))))) (aE (b2 ixD (vSh 5) .(j))) aP)) (aE .(d))))
noncomputable def kY:FQ:=aY 5
  (ax (dM (bJ 2 .(ak)) (b2 aW (vSh 0) (vSh 3))) (ax (sIf (toB (b2 neA (vSh 5) (b2 ixD (b2 aW (vSh 0) (vSh 4)) .(d)))) .(J) aP) (ax (pM 7 8 .(ar)) (ax (sIf (toB (b2 ltD (b2 ixD (b2 aW (vSh 0) (vSh 4)) .(c)) (vSh 6))) (pM 7 8 (ae (vSh 4) .(au))) aP) (ax (aG 9 (b2 aK (b2 aW (vSh 1) (vSh 7)) (cF sv (ae (vSh 2) (ae (vSh 5) (ae (vSh 7) (ae (vSh 8) aj))))))) (aE (orD (b2 eqA (b2 ixD (b2 aW (vSh 0) (vSh 7)) .(c)) (b2 ixD (b2 aW (vSh 0) (vSh 8)) .(c))) (b2 ltD (b2 ixD (b2 aW (vSh 0) (vSh 8)) .(c)) (vSh 9)))))))))
noncomputable def kP:FQ:=aY 0
  (aE (cE (b2 ltD (b2 ixD (b2 aW (vSh 0) (vSh 2)) .(c)) .(V)) (b2 ltD (b2 ixD (b2 aW (vSh 0) (vSh 3)) .(c)) (b2 aW (vSh 1) (vSh 2)))))
noncomputable def mi:FQ:=aY 1
  (ax (sIf (toB (cF kY (ae (vSh 0) (ae (vSh 1) (ae (vSh 2) .(ar)))))) .(J) aP) (ax (bD (itF (b2 ixD (vSh 2) .(i))) (ay 5) (sIf (cD (toB (b2 fE (vSh 3) (b2 ixD (vSh 5) .(l)))) (toB (b2 fE (vSh 4) (b2 ixD (vSh 5) .(l))))) (sIf (toB (cF kP (ae (vSh 0) (ae (vSh 1) .(ar))))) .(J) aP) aP)) (aE (vC (.bl ai)))))
noncomputable def wP:FQ:=aY 2
  (ax (aG 3 (cF nV (ae (vSh 0) .(K)))) (ax (sIf (orT (toB (b2 gtD (b2 aW (vSh 3) (vSh 2)) (b2 ixD (vSh 1) (vC (.int 6))))) (orT (toB (cF nQ (ae (vSh 0) (ae (vSh 3) (ae (vSh 1) .(an)))))) (toB (cF oo (ae (vSh 0) (ae (vSh 3) (ae (vSh 1) .(an)))))))) .(J) aP) (ax (bD (itK (vSh 0)) (ay 4) (sIf (toB (b2 neA (vSh 4) (vSh 2))) (sIf (bC (toB (cF mi (ae (vSh 0) (ae (vSh 3) (ae (vSh 1) (ae (vSh 2) (ae (vSh 4) aj)))))))) .(J) aP) aP)) (aE (vC (.bl ai))))))
noncomputable def sX:FQ:=aY 4
  (ax (bD (itF (b2 ixD (vSh 2) .(i))) (bJ 2 .(O)) (bD (itR lG (ae (vSh 3) (ae (cF ig (ae (b2 ixD (vSh 1) (vC (.int 6))) (ae (b2 aK (vSh 3) (vC (.int 40))) aj))) aj))) (ay 6) (ax (oe 7 (vSh 0)) (ax (eK 7 (b2 ixD (vSh 2) .(d)) (aT (szF (ae (vSh 4) (ae (vSh 6) aj))))) (iC 7 (sIf (toB (cF wP (ae (vSh 7) (ae (vSh 1) (ae (b2 ixD (vSh 2) .(d)) aj))))) (aE (vSh 7)) aP)))))) (ax (oe 7 (vSh 0)) (ax (eK 7 (b2 ixD (vSh 2) .(d)) (aT (szF (ae (b2 ixD (b2 ixD (b2 ixD (vSh 2) .(i)) .(d)) .(d)) .(au))))) (iC 7 (aE (vSh 7))))))
noncomputable def xT:FQ:=aY 3
  (ax (aG 1 (vC (.fdk []))) (ax (bD (itF .(ag)) (ay 2) (ax (aG 3 (cF sJ (ae (vSh 0) (ae (cF nV (ae (vSh 1) .(T))) (ae (b2 ixD (vSh 2) .(d)) aj))))) (aG 1 (cF sX (ae (vSh 1) (ae (vSh 0) (ae (vSh 2) .(au)))))))) (aE (vSh 1))))
noncomputable def ug:FQ:=aY 4
  (ax (uK 3) (ax (bD (itE (b2 ixD (vSh 2) .(c))) (bJ 2 .(O)) .(I)) (iC 3 (aE (vSh 3)))))
noncomputable def tY:FQ:=aY 9
  (ax (oe 3 (vSh 0)) (ax (bD (itR gr (ae (b2 bz (vSh 2) .(j)) aj)) (ay 4) (ax (aG 5 (cF dQ .(R))) (ax (dM (bJ 3 (aJ (ay 6) (aJ (ay 7) (aJ (ay 8) bI)))) (b2 ixD (b2 ixD (vSh 1) .(c)) (b2 ixD (vSh 5) .(d)))) (sIf (pr 3 (toB (b2 gA (vSh 6) (vSh 3)))) (ax (dM (bJ 2 (aJ (ay 9) (aJ (ay 10) bI))) (nR 3 (vSh 6))) (ax .(Z) (ax .(ac) (ax (eK 3 (vSh 6) (b2 ixD (vSh 11) (b2 ixD (vSh 5) .(c)))) .(A))))) aP)))) (iC 3 (aE (vSh 3)))))
noncomputable def j2:FQ:=aY 0
  (aE (aH (a9 (itF (gd "Shop" "steps" (vSh 0))) (ay 0) tT .(r) [ab])))
noncomputable def xw:FQ:=aY 3
  (ax (aG 2 (c5 "Shop" "step_names" j2 (vSh 0) aj)) (ax (bD (itF (vSh 2)) (ay 3) (sIf (toB (b2 mo (vSh 3) (vSh 1))) (aE (aT (szF (ae (vC (.str "step")) .(au))))) aP)) (ax (aG 4 (aH (a9 (itK (vSh 1)) (ay 0) (toB (b2 fV (vSh 0) (vSh 1))) (vSh 0) [ab,aa 2]))) (ax (sIf (toB (b2 gtD (cF b9 (ae (vSh 4) aj)) .(d))) (aE (aT (szF (ae (vC (.str "step")) (ae (cF wm (ae (vSh 4) aj)) aj))))) aP) (aE (vC .non))))))
noncomputable def t4:FQ:=aY 0
  (aE (cF eE (ae (b2 ixD (b2 aW (gd "Shop" "step_by_name" (vSh 0)) (vSh 1)) .(i)) aj)))
noncomputable def o3:FQ:=aY 2
  (ax (bD (itF (c5 "Shop" "ways_of" t4 (vSh 0) .(K))) (bJ 2 (aJ (ay 3) (aJ (ay 4) bI))) (sIf (toB (b2 eqA (vSh 3) (vSh 2))) (aE (vSh 4)) aP)) (aE (vC .non)))
noncomputable def sO:FQ:=aY 0
  (aE (gd "Shop" "horizon" (vSh 0)))
noncomputable def xi:FQ:=aY 3
  (ax (bD (itF (c5 "Shop" "step_names" j2 (vSh 0) aj)) (ay 2) (ax (aG 3 (b2 ixD (b2 aW (vSh 1) (vSh 2)) .(c))) (ax (aG 4 (cF o3 (ae (vSh 0) (ae (vSh 2) (ae (b2 ixD (b2 aW (vSh 1) (vSh 2)) .(d)) aj))))) (sIf (orT (toB (b2 isD (vSh 4) (vC .non))) (orT (toB (b2 ltD (vSh 3) .(d))) (toB (b2 gtD (b2 aK (vSh 3) (vSh 4)) (c5 "Shop" "last_moment" sO (vSh 0) aj))))) (aE (aT (szF (ae (vC (.str "way")) .(an))))) aP)))) (aE (vC .non)))
noncomputable def wJ:FQ:=aY 3
  (ax (uK 2) (ax (bD (itF (c5 "Shop" "step_names" j2 (vSh 0) aj)) (ay 3) (ax (aG 4 .(V)) (eK 2 (vSh 3) (b2 aK (b2 ixD (vSh 4) .(c)) (cF o3 (ae (vSh 0) (ae (vSh 3) (ae (b2 ixD (vSh 4) .(d)) aj)))))))) (iC 2 (aE (vSh 2)))))
noncomputable def xf:FQ:=aY 0
  (aE (cF eE (ae (b2 wZ (gd "Shop" "job_by_step" (vSh 0)) (vSh 1)) aj)))
noncomputable def yj:FQ:=aY 2
  (ax (bD (itF (c5 "Shop" "step_names" j2 (vSh 0) aj)) (ay 3) (ax (aG 4 (c5 "Shop" "job_of" xf (vSh 0) .(au))) (sIf (cD (toB (b2 pP (vSh 4) (vC .non))) (orT (toB (b2 ltD (b2 ixD .(V) .(c)) (b2 ixD (vSh 4) .(c)))) (toB (b2 gtD (b2 aW (vSh 2) (vSh 3)) (b2 ixD (vSh 4) .(i)))))) (aE (aT (szF (ae (vC (.str "job")) .(au))))) aP))) (aE (vC .non)))
noncomputable def xD:FQ:=aY 0
  (aE (cF eE (ae (b2 ixD (b2 aW (gd "Shop" "bench_by_name" (vSh 0)) (vSh 1)) .(c)) aj)))
noncomputable def wd:FQ:=aY 3
  (ax (bD (itF (c5 "Shop" "step_names" j2 (vSh 0) aj)) (ay 3) (ax (aG 4 (b2 ixD .(V) .(c))) (ax (aG 5 (c5 "Shop" "breaks_of" xD (vSh 0) (ae (b2 ixD .(V) .(d)) aj))) (sIf (toB (cF xv (ae (aH (a9 (itF (vSh 5)) (bJ 2 (aJ (ay 0) (aJ (ay 1) bI))) tT (cE (b2 ltD (vSh 2) (vSh 1)) (b2 ltD (vSh 0) (b2 aW (vSh 3) (vSh 4)))) [ab,ab,aa 4,aa 2,aa 3])) aj))) (aE (aT (szF (ae (vC (.str "break")) .(au))))) aP)))) (aE (vC .non)))
noncomputable def sG:FQ:=aY 3
  (ax (dL 1 (szF aj)) (ax (bD (itE (vSh 0)) (bJ 2 (aJ (ay 2) (aJ (ay 3) bI))) (iD 1 (aH (a9 (itF (slF (vSh 0) (pS (b2 aK (vSh 2) .(c))) pN)) (ay 0) tT (aT (szF (ae (vSh 1) .(T)))) [ab,aa 3])))) (eF 1 (aE (vSh 1)))))
noncomputable def sS:FQ:=aY 0
  (aE (b3 ip (gd "Shop" "setup_by_names" (vSh 0)) (aT (szF (ae (vSh 1) (ae (vSh 2) .(au))))) .(d)))
noncomputable def nP:FQ:=aY 0
  (aE (b2 ixD (b2 aW (gd "Shop" "step_by_name" (vSh 0)) (vSh 1)) .(c)))
noncomputable def sC:FQ:=aY 3
  (ax (aG 5 (vSh 3)) (ax (aG 6 (vSh 4)) (ax (sIf (toB (b2 ltD (b2 ixD (b2 aW (vSh 1) (vSh 4)) .(c)) (b2 ixD .(V) .(c)))) (ax (aG 5 (vSh 4)) (aG 6 (vSh 3))) aP) (ax (aG 7 (c5 "Shop" "setup_of" sS (vSh 0) (ae (b2 ixD .(V) .(d)) (ae (c5 "Shop" "kind_of" nP (vSh 0) (ae (vSh 5) aj)) (ae (c5 "Shop" "kind_of" nP (vSh 0) (ae (vSh 6) aj)) aj))))) (aE (b2 ltD (b2 ixD (b2 aW (vSh 1) (vSh 6)) .(c)) (b2 aK (b2 aW (vSh 2) (vSh 5)) (vSh 7))))))))
noncomputable def vX:FQ:=aY 2
  (ax (bD (itF (cF sG (ae (c5 "Shop" "step_names" j2 (vSh 0) aj) aj))) (bJ 2 (aJ (ay 3) (aJ (ay 4) bI))) (sIf (cD (toB (b2 eqA (b2 ixD .(V) .(d)) (b2 ixD (b2 aW (vSh 1) (vSh 4)) .(d)))) (toB (cF sC (ae (vSh 0) (ae (vSh 1) (ae (vSh 2) .(ar))))))) (aE (aT (szF (ae (vC (.str "bench")) .(ar))))) aP)) (aE (vC .non)))
noncomputable def wt:FQ:=aY 0
  (aE (cF eE (ae (gd "Shop" "jobs" (vSh 0)) aj)))
noncomputable def vZ:FQ:=aY 5
  (ax (bD (itF (c5 "Shop" "job_rows" wt (vSh 0) aj)) (ay 3) (bD (itF (cF sG (ae (b2 ixD (vSh 3) .(l)) aj))) (bJ 2 .(O)) (ax (aG 6 (b2 geD (b2 ixD (b2 aW (vSh 1) (vSh 5)) .(c)) (b2 aW (vSh 2) (vSh 4)))) .(aw)))) (aE (vC .non)))
noncomputable def wa:FQ:=aY 0
  (aE (cF eE (ae (gd "Shop" "links" (vSh 0)) aj)))
noncomputable def wK:FQ:=aY 3
  (ax (bD (itF (c5 "Shop" "link_rows" wa (vSh 0) aj)) (bJ 3 (aJ (ay 3) .(O))) (sIf (toB (b2 ltD (b2 ixD (b2 aW (vSh 1) (vSh 4)) .(c)) (b2 aK (b2 aW (vSh 2) (vSh 3)) (vSh 5)))) (aE (aT (szF (ae (vC (.str "link")) .(ar))))) aP)) (aE (vC .non)))
noncomputable def yb:FQ:=aY 0
  (aE (cF eE (ae (gd "Shop" "stocks" (vSh 0)) aj)))
noncomputable def tO:FQ:=aY 2
  (ax (aG 4 (cF pC (ae (aH (a9 (itF (b2 ixD (vSh 0) .(j))) (bJ 2 (aJ (ay 0) (aJ (ay 1) bI))) (toB (b2 leD (b2 ixD (b2 aW (vSh 3) (vSh 0)) .(c)) (vSh 2))) (vSh 1) [ab,ab,aa 3,aa 1])) aj))) (ax (aG 5 (cF pC (ae (aH (a9 (itF (b2 ixD (vSh 0) .(l))) (bJ 2 (aJ (ay 0) (aJ (ay 1) bI))) (toB (b2 leD (b2 aW (vSh 3) (vSh 0)) (vSh 2))) (vSh 1) [ab,ab,aa 3,aa 2])) aj))) (aE (b2 aK (b2 eN .(ag) (vSh 4)) (vSh 5)))))
noncomputable def xo:FQ:=aY 3
  (ax (bD (itF (c5 "Shop" "stock_rows" yb (vSh 0) aj)) (ay 3) (ax (dL 4 (a9 (itF (b2 ixD (vSh 3) .(j))) (ay 0) tT (b2 ixD (b2 aW (vSh 1) .(r)) .(c)) [ab,aa 1])) (ax (iD 4 (aH (a9 (itF (b2 ixD (vSh 3) .(l))) (ay 0) tT (b2 aW (vSh 1) .(r)) [ab,aa 2]))) (eF 4 (bD (itF (b1 wW (vSh 4))) (ay 5) (sIf (bC (toB (chD leD leD .(d) (cF tO (ae (vSh 3) (ae (vSh 1) (ae (vSh 2) (ae (vSh 5) aj))))) (b2 ixD (vSh 3) .(i))))) (aE (aT (szF (ae (vC (.str "stock")) (ae (b2 ixD (vSh 3) .(d)) (ae (vSh 5) aj)))))) aP)))))) (aE (vC .non)))
noncomputable def om:FQ:=aY 2
  (ax (aG 2 (cF xw (ae (vSh 0) .(K)))) (ax (sIf (toB (b2 isD (vSh 2) (vC .non))) (aG 2 (cF xi (ae (vSh 0) .(K)))) aP) (ax (sIf (toB (b2 pP (vSh 2) (vC .non))) (aE (vSh 2)) aP) (ax (aG 3 (cF wJ (ae (vSh 0) .(K)))) (ax (aG 2 (cF yj (ae (vSh 0) (ae (vSh 1) .(au))))) (ax (sIf (toB (b2 isD (vSh 2) (vC .non))) (aG 2 (cF wd (ae (vSh 0) (ae (vSh 1) .(au))))) aP) (ax (sIf (toB (b2 isD (vSh 2) (vC .non))) (aG 2 (cF vX (ae (vSh 0) (ae (vSh 1) .(au))))) aP) (ax (sIf (toB (b2 isD (vSh 2) (vC .non))) (aG 2 (cF vZ (ae (vSh 0) (ae (vSh 1) .(au))))) aP) (ax (sIf (toB (b2 isD (vSh 2) (vC .non))) (aG 2 (cF wK (ae (vSh 0) (ae (vSh 1) .(au))))) aP) (ax (sIf (toB (b2 isD (vSh 2) (vC .non))) (aG 2 (cF xo (ae (vSh 0) (ae (vSh 1) .(au))))) aP) (aE (vSh 2))))))))))))
noncomputable def wf:FQ:=aY 4
  (ax (aG 3 (aH (a9 (itF (b2 ixD (vSh 2) .(c))) (ay 0) tT .(r) [ab]))) (ax (bD (itE (vSh 3)) (bJ 2 .(O)) (bD (itF (slF (vSh 3) (pS (b2 aK (vSh 4) .(c))) pN)) (ay 6) (sIf (toB (cF kY (ae (vSh 0) (ae (vSh 1) (ae (vSh 2) (ae (vSh 5) (ae (vSh 6) aj))))))) (aE (aH (szF (ae (aT (szF (ae (vC (.str "bench")) (ae (vSh 5) (ae (vSh 6) aj))))) aj)))) aP))) (aE (aH (szF aj)))))
noncomputable def ud:FQ:=aY 3
  (ax (bD (itE (b2 ixD (vSh 2) .(l))) (bJ 2 (aJ (ay 3) (aJ (ay 4) bI))) (bD (itF (slF (b2 ixD (vSh 2) .(l)) (pS (b2 aK (vSh 3) .(c))) pN)) (ay 5) .(N))) (aE (aH (szF aj))))
noncomputable def x9:FQ:=aY 3
  (ax (bD (itF (b2 ixD (vSh 2) .(l))) (bJ 3 (aJ (ay 3) .(O))) (sIf (toB (b2 ltD (b2 ixD (b2 aW (vSh 0) (vSh 4)) .(c)) (b2 aK .(V) (vSh 5)))) (aE (aH (szF (ae (aT (szF (ae (vC (.str "link")) .(ar)))) aj)))) aP)) (aE (aH (szF aj))))
noncomputable def p8:FQ:=aY 3
  (ax (aG 4 (b2 ixD (vSh 2) .(c))) (ax (bD (itF (b2 ixD (vSh 2) .(j))) (bJ 2 .(ak)) (aG 4 (b2 eN (vSh 4) (b2 cv (vSh 6) (cF gS (ae (b2 leD (b2 ixD (b2 aW (vSh 0) (vSh 5)) .(c)) (vSh 3)) aj)))))) (ax (bD (itF (b2 ixD (vSh 2) .(l))) (bJ 2 .(ak)) (aG 4 (b2 aK (vSh 4) (b2 cv (vSh 6) (cF gS (ae (b2 leD (b2 aW (vSh 1) (vSh 5)) (vSh 3)) aj)))))) (aE (vSh 4)))))
noncomputable def xS:FQ:=aY 4
  (ax (aG 3 (b2 aK (aH (szF (ae .(d) aj))) (b1 vK (vSh 1)))) (ax (aG 3 (b2 aK (vSh 3) (aH (a9 (itV (vSh 0)) (ay 0) tT .(ag) [ab])))) (ax (bD (itF (b2 ixD (vSh 2) (vC (.int 5)))) (ay 4) (bD (itF (cF sN .(au))) (ay 5) (ax (aG 6 (cF p8 (ae (vSh 0) (ae (vSh 1) (ae (vSh 4) (ae (vSh 5) aj)))))) .(P)))) (aE (aH (szF aj))))))
noncomputable def uv:FQ:=aY 4
  (ax (aG 2 (cF nV (ae (vSh 0) .(K)))) (ax (aG 3 (aH (a9 (itF (b2 ixD (vSh 1) .(c))) (ay 0) tT .(r) [ab]))) (ax (aG 4 (aH (a9 (itF (vSh 3)) (ay 0) (toB (cF oo (ae (vSh 1) (ae (vSh 2) (ae (vSh 3) .(T)))))) (aT (szF (ae (vC (.str "job")) .(T)))) [ab,aa 0,aa 2,aa 1]))) (ax (aG 4 (b2 aK (vSh 4) (aH (a9 (itF (vSh 3)) (ay 0) (toB (cF nQ (ae (vSh 1) (ae (vSh 2) (ae (vSh 3) .(T)))))) (aT (szF (ae (vC (.str "break")) .(T)))) [ab,aa 0,aa 2,aa 1])))) (ax (aG 4 (b2 aK (vSh 4) (cF wf (ae (vSh 0) (ae (vSh 2) .(K)))))) (ax (bD (itF (b2 ixD (vSh 1) .(i))) (ay 5) (aG 4 (b2 aK (vSh 4) (cF ud (ae (vSh 0) (ae (vSh 2) (ae (vSh 5) aj))))))) (ax (aG 4 (b2 aK (vSh 4) (cF x9 (ae (vSh 0) (ae (vSh 2) .(K)))))) (aE (b2 aK (vSh 4) (cF xS (ae (vSh 0) (ae (vSh 2) .(K)))))))))))))
noncomputable def mB:FQ:=aY 9
  (ax (aG 2 (aH (a9 (itF (b2 ixD (vSh 1) .(c))) (ay 0) tT .(r) [ab]))) (ax (aG 3 (aH (a9 (itF (vSh 2)) (ay 0) (toB (b2 mo (vSh 0) (vSh 1))) (vSh 0) [ab,aa 0]))) (ax (aG 4 (cF ut (ae (aH (a9 (itK (vSh 0)) (ay 0) (toB (b2 fV (vSh 0) (vSh 1))) (vSh 0) [ab,aa 2])) aj))) (ax (sIf (toB (b2 neA (b2 aK (vSh 3) (vSh 4)) (aH (szF aj)))) (aE (aT (szF (ae (vC (.str "step")) (ae (b2 ixD (b2 aK (vSh 3) (vSh 4)) .(d)) aj))))) aP) (ax (bD (itF (b2 ixD (vSh 1) .(c))) (bJ 3 (aJ (ay 5) (aJ (ay 6) (aJ (ay 7) bI)))) .(ab)) (aE (b2 ixD (b2 aK (cF uv (ae (vSh 0) .(K))) (aH (szF (ae (vC .non) aj)))) .(d))))))))
noncomputable abbrev Bx:FS:=
  (ax (aG 1 (b2 aK .(l) (b2 bz (cF dS (ae (vSh 0) (ae (vC (.int 20)) aj))) (vC (.int 37))))) (ax (aG 2 (cF xR (ae (vSh 0) (ae (b2 aK .(c) (b2 bz (cF dS (ae (vSh 0) (ae (vC (.int 22)) aj))) (vC (.int 6)))) (ae (vSh 1) (ae (vC (.int 5)) aj)))))) (ax (aG 3 (cF yk .(an))) (ax (aG 4 (cF xT .(an))) (ax (sIf (toB (b2 eqD (b2 bz (cF dS (ae (vSh 0) (ae (vC (.int 21)) aj))) .(j)) .(d))) (aG 4 (cF ug (ae (vSh 0) (ae (vC (.int 23)) .(an))))) aP) (ax (bD (itF (b2 aK (b2 aK (aH (szF (ae .(d) aj))) (slF (vSh 0) (pS (vC (.int 29))) (pS (vC (.int 59))))) (aH (szF (ae .(l) aj))))) (ay 5) .(U)) (aE (vC (.bl ai)))))))))
noncomputable def Bc:FQ:=aY 9 Bx
end Law
set_option maxHeartbeats 4000000
variable {C_Shop:aw} {xs:ac D} {body:FS} {ρ':bj} {B:FE} {sn:ac ak} {br:ac (ag×ag)} {ws E:ac (ak×ag)} {cs:ac ag} {d1 d2 d3 en:ag} {q:ak×ag} {L:D}
namespace Law
theorem Kg:FnScope ["_law_script","_law_k"] ["_law_script","_law_k"] (aS (top 64)):=bh
theorem kg:FnScope ["_law_cell_here","_law_k","_law_sizes","_law_number","_law_found","_law_turn","_law_size"] ["_law_cell_here","_law_k","_law_sizes"] (aS (top 65)):=bh
theorem lv:FnScope ["_law_row","_law_horizon","_law_found","_law_free","_law_begin","_law_size","_law_low_here","_law_high"] ["_law_row","_law_horizon"] (aS (top 67)):=bh
theorem BN:FnScope ["_law_k","_law_letter"] ["_law_k"] (aS (top 66)):=bh
theorem nY:FnScope ["_law_cells","_law_horizon","_law_found","_law_k","_law_cell_here","_law_row","_law_spans_here"] ["_law_cells","_law_horizon"] (aS (top 68)):=bh
theorem nZ:FnScope ["_law_cells","_law_benches_here","_law_horizon","_law_longest","_law_found","_law_k","_law_cell_here","_law_row","_law_ways"] ["_law_cells","_law_benches_here","_law_horizon","_law_longest"] (aS (top 69)):=bh
theorem iL:FnScope ["_law_cells","_law_steps_here","_law_horizon","_law_found","_law_left","_law_k","_law_cell_here","_law_row","_law_some","_law_early","_law_due_here"] ["_law_cells","_law_steps_here","_law_horizon"] (aS (top 70)):=bh
theorem nX:FnScope ["_law_cell_here","_law_benches_here","_law_horizon","_law_found","_law_k","_law_many","_law_bench","_law_row"] ["_law_cell_here","_law_benches_here","_law_horizon"] (aS (top 71)):=bh
theorem nM:FnScope ["_law_cell_here","_law_steps_here","_law_horizon","_law_found","_law_row","_law_k","_law_one","_law_other"] ["_law_cell_here","_law_steps_here","_law_horizon"] (aS (top 72)):=bh
theorem mJ:FnScope ["_law_cell_here","_law_steps_here","_law_row","_law_found","_law_k","_law_room","_law_takes","_law_puts"] ["_law_cell_here","_law_steps_here"] (aS (top 73)):=bh
theorem mw:FnScope ["_law_script","_law_many","_law_horizon","_law_longest","_law_benches_here","_law_steps_here","_law_jobs_here","_law_setups_here","_law_links_here","_law_stocks_here"] ["_law_script","_law_many","_law_horizon","_law_longest"] (aS (top 74)):=bh
theorem Li:FnScope ["thing"] ["thing"] (aS (top 22)):=bh
theorem OT:FnScope ["thing","least","most"] ["thing","least","most"] (aS (top 25)):=bh
theorem Lz:FnScope ["thing","many"] ["thing","many"] (aS (top 27)):=bh
theorem Qn:FnScope ["row","horizon"] ["row","horizon"] (aS (top 41)):=bh
theorem Mi:FnScope ["thing","least","most"] ["thing","least","most"] (aS (top 26)):=bh
theorem Py:FnScope ["breaks","horizon"] ["breaks","horizon"] (aS (top 42)):=bh
theorem NJ:FnScope ["thing"] ["thing"] (aS (top 23)):=bh
theorem Pi:FnScope ["row","horizon"] ["row","horizon"] (aS (top 43)):=bh
theorem Lk:FnScope ["things"] ["things"] (aS (top 29)):=bh
theorem NM:FnScope ["benches","horizon"] ["benches","horizon"] (aS (top 44)):=bh
theorem K7:FnScope ["thing","names"] ["thing","names"] (aS (top 28)):=bh
theorem K9:FnScope ["row","bench_names","horizon"] ["row","bench_names","horizon"] (aS (top 45)):=bh
theorem KP:FnScope ["ways","bench_names","horizon"] ["ways","bench_names","horizon"] (aS (top 46)):=bh
theorem L9:FnScope ["row","bench_names","horizon"] ["row","bench_names","horizon"] (aS (top 47)):=bh
theorem KC:FnScope ["steps","bench_names","horizon"] ["steps","bench_names","horizon"] (aS (top 48)):=bh
theorem Gx:FnScope ["row","step_names","horizon"] ["row","step_names","horizon"] (aS (top 49)):=bh
theorem v6:FnScope ["jobs","step_names","horizon","members","row"] ["jobs","step_names","horizon"] (aS (top 50)):=bh
theorem M8:FnScope ["row","bench_names","horizon"] ["row","bench_names","horizon"] (aS (top 51)):=bh
theorem NU:FnScope ["setups","bench_names","horizon"] ["setups","bench_names","horizon"] (aS (top 52)):=bh
theorem JR:FnScope ["row","step_names","horizon"] ["row","step_names","horizon"] (aS (top 53)):=bh
theorem Jy:FnScope ["links","step_names","horizon"] ["links","step_names","horizon"] (aS (top 54)):=bh
theorem IJ:FnScope ["row","step_names"] ["row","step_names"] (aS (top 55)):=bh
theorem Kn:FnScope ["rows","step_names"] ["rows","step_names"] (aS (top 56)):=bh
theorem Mt:FnScope ["row","step_names"] ["row","step_names"] (aS (top 57)):=bh
theorem HS:FnScope ["stocks","step_names"] ["stocks","step_names"] (aS (top 58)):=bh
theorem wo:FnScope ["benches","steps","jobs","setups","links","stocks","horizon","bench_names","step_names"] ["benches","steps","jobs","setups","links","stocks","horizon"] (aS (top 59)):=bh
theorem HZ:FnScope ["thing"] ["thing"] (aS (top 61)):=bh
theorem uL:FnScope ["self","benches","steps","jobs","setups","links","stocks","horizon","part","row","step"] ["self","benches","steps","jobs","setups","links","stocks","horizon"] (aS (dO (top 62) 0)):=bh
theorem Ql:FnScope ["_law_lists_here"] ["_law_lists_here"] (aS (top 75)):=bh
theorem mO:FnScope ["_law_plan_here","_law_lists_here","_law_ends_here","_law_name_here","_law_kind","_law_ways","_law_bench","_law_start"] ["_law_plan_here","_law_lists_here"] (aS (top 77)):=bh
theorem km:FnScope ["_law_lists_here","_law_ends_here","_law_step","_law_low_here","_law_one","_law_other","_law_gap","_law_job","_law_name_here"] ["_law_lists_here","_law_ends_here","_law_step"] (aS (top 86)):=bh
theorem D4:FnScope ["_law_plan_here","_law_ends_here","_law_lists_here","_law_one","_law_job"] ["_law_plan_here","_law_ends_here","_law_lists_here","_law_one"] (aS (top 83)):=bh
theorem xE:FnScope ["_law_plan_here","_law_ends_here","_law_lists_here","_law_one","_law_low_here","_law_high"] ["_law_plan_here","_law_ends_here","_law_lists_here","_law_one"] (aS (top 82)):=bh
theorem xL:FnScope ["_law_lists_here","_law_bench","_law_early","_law_late","_law_kinds","_law_row"] ["_law_lists_here","_law_bench","_law_early","_law_late"] (aS (top 79)):=bh
theorem nF:FnScope ["_law_plan_here","_law_ends_here","_law_lists_here","_law_one","_law_other","_law_bench","_law_start","_law_early","_law_late","_law_free"] ["_law_plan_here","_law_ends_here","_law_lists_here","_law_one","_law_other"] (aS (top 80)):=bh
theorem KD:FnScope ["_law_plan_here","_law_ends_here","_law_one","_law_other"] ["_law_plan_here","_law_ends_here","_law_one","_law_other"] (aS (top 78)):=bh
theorem Ck:FnScope ["_law_plan_here","_law_ends_here","_law_lists_here","_law_one","_law_other","_law_job"] ["_law_plan_here","_law_ends_here","_law_lists_here","_law_one","_law_other"] (aS (top 81)):=bh
theorem vG:FnScope ["_law_plan_here","_law_lists_here","_law_one","_law_ends_here","_law_other"] ["_law_plan_here","_law_lists_here","_law_one"] (aS (top 84)):=bh
theorem nW:FnScope ["_law_plan_here","_law_lists_here","_law_step","_law_low_here","_law_bench","_law_length","_law_start","_law_made"] ["_law_plan_here","_law_lists_here","_law_step","_law_low_here"] (aS (top 85)):=bh
theorem pY:FnScope ["_law_lists_here","_law_plan_here","_law_step","_law_low_here"] ["_law_lists_here"] (aS (top 87)):=bh
theorem o7:FnScope ["_law_script","_law_at","_law_lists_here","_law_plan_here","_law_k","_law_step","_law_row"] ["_law_script","_law_at","_law_lists_here"] (aS (top 76)):=bh
theorem iI:FnScope ["_law_plan_here","_law_lists_here","_law_cell_here","_law_made","_law_turn","_law_row","_law_name_here","_law_kind","_law_ways","_law_bench","_law_start","_law_some"] ["_law_plan_here","_law_lists_here","_law_cell_here"] (aS (top 95)):=bh
theorem G8:FnScope ["self"] ["self"] (aS (dO (top 62) 9)):=bh
theorem t8:FnScope ["shop","schedule","names","step","strangers"] ["shop","schedule"] (aS (top 6)):=bh
theorem Mw:FnScope ["self","step"] ["self","step"] (aS (dO (top 62) 10)):=bh
theorem xq:FnScope ["shop","step","bench","way_bench","length"] ["shop","step","bench"] (aS (top 4)):=bh
theorem GA:FnScope ["self"] ["self"] (aS (dO (top 62) 7)):=bh
theorem tD:FnScope ["shop","schedule","step","start","length"] ["shop","schedule"] (aS (top 7)):=bh
theorem sV:FnScope ["shop","schedule","ends","step","place"] ["shop","schedule"] (aS (top 5)):=bh
theorem Nn:FnScope ["self","step"] ["self","step"] (aS (dO (top 62) 12)):=bh
theorem vR:FnScope ["shop","schedule","ends","step","job"] ["shop","schedule","ends"] (aS (top 8)):=bh
theorem I0:FnScope ["self","bench"] ["self","bench"] (aS (dO (top 62) 13)):=bh
theorem tz:FnScope ["shop","schedule","ends","step","start","breaks"] ["shop","schedule","ends"] (aS (top 9)):=bh
theorem ue:FnScope ["things","pairs","place","one"] ["things"] (aS (top 2)):=bh
theorem Hg:FnScope ["self","bench","first","second"] ["self","bench","first","second"] (aS (dO (top 62) 14)):=bh
theorem Nl:FnScope ["self","step"] ["self","step"] (aS (dO (top 62) 11)):=bh
theorem oh:FnScope ["shop","schedule","ends","one","other","earlier","later","setup"] ["shop","schedule","ends","one","other"] (aS (top 10)):=bh
theorem yd:FnScope ["shop","schedule","ends","one","other"] ["shop","schedule","ends"] (aS (top 11)):=bh
theorem Ik:FnScope ["self"] ["self"] (aS (dO (top 62) 3)):=bh
theorem nG:FnScope ["shop","schedule","ends","job","one","other","told_way","other_way"] ["shop","schedule","ends"] (aS (top 12)):=bh
theorem G6:FnScope ["self"] ["self"] (aS (dO (top 62) 5)):=bh
theorem tN:FnScope ["shop","schedule","ends","one","other","gap"] ["shop","schedule","ends"] (aS (top 13)):=bh
theorem FJ:FnScope ["self"] ["self"] (aS (dO (top 62) 6)):=bh
theorem yg:FnScope ["stock","schedule","ends","moment","taken","put"] ["stock","schedule","ends","moment"] (aS (top 14)):=bh
theorem t9:FnScope ["shop","schedule","ends","stock","moments","moment"] ["shop","schedule","ends"] (aS (top 15)):=bh
theorem jg:FnScope ["shop","schedule","broken","ends"] ["shop","schedule"] (aS (top 16)):=bh
theorem pL:FnScope ["_law_plan_here","_law_ends_here","_law_lists_here","_law_names","_law_k","_law_one","_law_other"] ["_law_plan_here","_law_ends_here","_law_lists_here"] (aS (top 91)):=bh
theorem sw:FnScope ["_law_plan_here","_law_ends_here","_law_job","_law_k","_law_one","_law_other"] ["_law_plan_here","_law_ends_here","_law_job"] (aS (top 88)):=bh
theorem uG:FnScope ["_law_plan_here","_law_ends_here","_law_lists_here","_law_one","_law_other","_law_gap"] ["_law_plan_here","_law_ends_here","_law_lists_here"] (aS (top 92)):=bh
theorem lC:FnScope ["_law_plan_here","_law_ends_here","_law_stock_here","_law_moment","_law_level_here","_law_step","_law_amount"] ["_law_plan_here","_law_ends_here","_law_stock_here","_law_moment"] (aS (top 89)):=bh
theorem n5:FnScope ["_law_plan_here","_law_ends_here","_law_lists_here","_law_moments","_law_stock_here","_law_moment","_law_level_here"] ["_law_plan_here","_law_ends_here","_law_lists_here"] (aS (top 90)):=bh
theorem kh:FnScope ["_law_plan_here","_law_lists_here","_law_ends_here","_law_names","_law_found","_law_job"] ["_law_plan_here","_law_lists_here"] (aS (top 93)):=bh
theorem jK:FnScope ["_law_plan_here","_law_lists_here","_law_names","_law_missing","_law_more","_law_name_here","_law_kind","_law_ways","_law_bench","_law_start","_law_length"] ["_law_plan_here","_law_lists_here"] (aS (top 94)):=bh
theorem i4:FnScope ["_law_script","_law_horizon","_law_lists_here","_law_shop_here","_law_plan_here","_law_cell_here","_law_made","_law_handed","_law_found","_law_due_here"] ["_law_script"] (aS (top 96)):=bh
noncomputable def tkI (mg:ak->ar Value) (x:ak):Tok:=match mg x with|some (.int _ t)=>t|_=>0
theorem tkI_of {h:Heap} {n:ag} {t:Tok} (X:K.In h) (G:h.Ns fY mg) (a:zd K fY x=aa (aa (.int n t))):mg x=aa (.int n (tkI mg x)):=by have q:=ze X G a;rw[q];unfold tkI;rw[q]
structure Vd (K:bi) (mg:ak->ar Value) (C_Shop:aw):Prop where
 z_abs:mg "abs"=ab
 z_all:mg "all"=ab
 z_any:mg "any"=ab
 z_bool:mg "bool"=ab
 z_dict:mg "dict"=ab
 z_enumerate:mg "enumerate"=ab
 z_int:mg "int"=ab
 z_isinstance:mg "isinstance"=ab
 z_len:mg "len"=ab
 z_list:mg "list"=ab
 z_max:mg "max"=ab
 z_min:mg "min"=ab
 z_range:mg "range"=ab
 z_set:mg "set"=ab
 z_sorted:mg "sorted"=ab
 z_str:mg "str"=ab
 z_sum:mg "sum"=ab
 z_tuple:mg "tuple"=ab
 k_LONGEST_NAME:mg "LONGEST_NAME"=aa (.int 8 (tkI mg "LONGEST_NAME"))
 k_MOST_AMOUNT:mg "MOST_AMOUNT"=aa (.int 1000000 (tkI mg "MOST_AMOUNT"))
 k_MOST_BENCHES:mg "MOST_BENCHES"=aa (.int 8 (tkI mg "MOST_BENCHES"))
 k_MOST_BREAKS:mg "MOST_BREAKS"=aa (.int 10 (tkI mg "MOST_BREAKS"))
 k_MOST_HORIZON:mg "MOST_HORIZON"=aa (.int 1000000 (tkI mg "MOST_HORIZON"))
 k_MOST_JOBS:mg "MOST_JOBS"=aa (.int 40 (tkI mg "MOST_JOBS"))
 k_MOST_LINKS:mg "MOST_LINKS"=aa (.int 100 (tkI mg "MOST_LINKS"))
 k_MOST_SETUPS:mg "MOST_SETUPS"=aa (.int 100 (tkI mg "MOST_SETUPS"))
 k_MOST_STEPS:mg "MOST_STEPS"=aa (.int 40 (tkI mg "MOST_STEPS"))
 k_MOST_STOCKS:mg "MOST_STOCKS"=aa (.int 6 (tkI mg "MOST_STOCKS"))
 k_MOST_WAYS:mg "MOST_WAYS"=aa (.int 4 (tkI mg "MOST_WAYS"))
 d0:Dfn K mg "_law_cell" (top 64)
 d1:Dfn K mg "_law_digits" (top 65)
 d2:Dfn K mg "_law_spans" (top 67)
 d3:Dfn K mg "_law_name" (top 66)
 d4:Dfn K mg "_law_benches" (top 68)
 d5:Dfn K mg "_law_steps" (top 69)
 d6:Dfn K mg "_law_jobs" (top 70)
 d7:Dfn K mg "_law_setups" (top 71)
 d8:Dfn K mg "_law_links" (top 72)
 d9:Dfn K mg "_law_stocks" (top 73)
 d10:Dfn K mg "_law_lists" (top 74)
 d11:Dfn K mg "is_whole" (top 22)
 d12:Dfn K mg "is_within" (top 25)
 d13:Dfn K mg "is_tuple" (top 27)
 d14:Dfn K mg "is_break" (top 41)
 d15:Dfn K mg "is_list" (top 26)
 d16:Dfn K mg "are_breaks" (top 42)
 d17:Dfn K mg "is_name" (top 23)
 d18:Dfn K mg "is_bench" (top 43)
 d19:Dfn K mg "are_unlike" (top 29)
 d20:Dfn K mg "are_benches" (top 44)
 d21:Dfn K mg "is_one_of" (top 28)
 d22:Dfn K mg "is_way" (top 45)
 d23:Dfn K mg "are_ways" (top 46)
 d24:Dfn K mg "is_step" (top 47)
 d25:Dfn K mg "are_steps" (top 48)
 d26:Dfn K mg "is_job" (top 49)
 d27:Dfn K mg "are_jobs" (top 50)
 d28:Dfn K mg "is_setup" (top 51)
 d29:Dfn K mg "are_setups" (top 52)
 d30:Dfn K mg "is_link" (top 53)
 d31:Dfn K mg "are_links" (top 54)
 d32:Dfn K mg "is_amount" (top 55)
 d33:Dfn K mg "are_amounts" (top 56)
 d34:Dfn K mg "is_stock" (top 57)
 d35:Dfn K mg "are_stocks" (top 58)
 d36:Dfn K mg "first_bad_part" (top 59)
 d37:Dfn K mg "fresh" (top 61)
 d38:DfnM K C_Shop "Shop" "__init__" "Shop.__init__" (dO (top 62) 0)
 d39:Dfn K mg "_law_shop" (top 75)
 d40:Dfn K mg "_law_ends" (top 77)
 d41:Dfn K mg "_law_low" (top 86)
 d42:Dfn K mg "_law_off_job" (top 83)
 d43:Dfn K mg "_law_in_break" (top 82)
 d44:Dfn K mg "_law_wait" (top 79)
 d45:Dfn K mg "_law_near" (top 80)
 d46:Dfn K mg "_law_at_once" (top 78)
 d47:Dfn K mg "_law_pair_stands" (top 81)
 d48:Dfn K mg "_law_fits" (top 84)
 d49:Dfn K mg "_law_put" (top 85)
 d50:Dfn K mg "_law_built" (top 87)
 d51:Dfn K mg "_law_plan" (top 76)
 d52:Dfn K mg "_law_changed" (top 95)
 d53:DfnM K C_Shop "Shop" "step_names" "Shop.step_names" (dO (top 62) 9)
 d54:Dfn K mg "broken_step" (top 6)
 d55:DfnM K C_Shop "Shop" "ways_of" "Shop.ways_of" (dO (top 62) 10)
 d56:Dfn K mg "length_on" (top 4)
 d57:DfnM K C_Shop "Shop" "last_moment" "Shop.last_moment" (dO (top 62) 7)
 d58:Dfn K mg "broken_way" (top 7)
 d59:Dfn K mg "ends_of" (top 5)
 d60:DfnM K C_Shop "Shop" "job_of" "Shop.job_of" (dO (top 62) 12)
 d61:Dfn K mg "broken_job" (top 8)
 d62:DfnM K C_Shop "Shop" "breaks_of" "Shop.breaks_of" (dO (top 62) 13)
 d63:Dfn K mg "broken_break" (top 9)
 d64:Dfn K mg "pairs_of" (top 2)
 d65:DfnM K C_Shop "Shop" "setup_of" "Shop.setup_of" (dO (top 62) 14)
 d66:DfnM K C_Shop "Shop" "kind_of" "Shop.kind_of" (dO (top 62) 11)
 d67:Dfn K mg "are_too_close" (top 10)
 d68:Dfn K mg "broken_bench" (top 11)
 d69:DfnM K C_Shop "Shop" "job_rows" "Shop.job_rows" (dO (top 62) 3)
 d70:Dfn K mg "broken_apart" (top 12)
 d71:DfnM K C_Shop "Shop" "link_rows" "Shop.link_rows" (dO (top 62) 5)
 d72:Dfn K mg "broken_link" (top 13)
 d73:DfnM K C_Shop "Shop" "stock_rows" "Shop.stock_rows" (dO (top 62) 6)
 d74:Dfn K mg "level_at" (top 14)
 d75:Dfn K mg "broken_stock" (top 15)
 d76:Dfn K mg "first_broken" (top 16)
 d77:Dfn K mg "_law_crowded" (top 91)
 d78:Dfn K mg "_law_apart" (top 88)
 d79:Dfn K mg "_law_links_broken" (top 92)
 d80:Dfn K mg "_law_level" (top 89)
 d81:Dfn K mg "_law_stock" (top 90)
 d82:Dfn K mg "_law_wishes" (top 93)
 d83:Dfn K mg "_law_due" (top 94)
structure Vw (K:bi) (mg:ak->ar Value) (C_Shop:aw):Prop extends Vd K mg C_Shop where
 O_Shop:ClsOk .(o) K mg "Shop" C_Shop
 cf_Shop:CF .(o) K "Shop" DN
section
variable (V:Vw K mg C_Shop)
include V
theorem iU:Cal .(o) P w K mg base "_law_cell" 2 1 dS:=
 V.d0.cal (k:=0) Kg .(b) fun f cdv A outer s H E hr=>
  (aC (bo (bF eh (af 1) (bZ fA rfl V.z_len (by rfl) (ah (af 0) av)) (bq _)) (aD (aN (aB (af 0) (af 1)))) bp) (aD (aN ao)))
theorem lK:Cal .(o) P w K mg base "_law_digits" 3 1 dQ:=
 V.d1.cal (k:=0) kg .(b) fun f cdv A outer s H E hr=>
  (aC (a8 3 kg.nd (lF (bZ Gc rfl V.z_abs (by rfl) (ah (af 0) av)) ao)) (aC (iP 4 kg.nd (cx av)) (aC (b8 ca rfl (iT rfl V.z_enumerate (af 2)) (cT (n:=2) rfl (bG (aL 5 kg.nd) (bG (aL 6 kg.nd) cU))) (aD (bo (DW.dt (cL (bF fB (c0 (af 0) ao) ao (bq _)) (c6 (bF fB (af 3) ao (bq _))))) (aC (a8 3 kg.nd (bL (c0 (bL (af 3) (af 0)) ao) ao)) (aC (a8 3 kg.nd (bL (af 3) (gR (gR ao (bL (af 1) (af 5))) (bL (af 1) (af 5))))) (aC (a8 3 kg.nd (c0 (gR (af 3) (af 3)) ao)) (aD (jB 4 (c0 (lF (af 3) ao) (af 6))))))) (aC (jB 4 (c0 (af 3) (af 6))) (aD (a8 3 kg.nd (lF (af 3) (af 6)))))))) (ia 4 (aD (aN (af 4)))))))
theorem Je:Cal .(o) P w K mg base "_law_spans" 2 1 sr:=
 V.d2.cal (k:=0) lv .(b) fun f cdv A outer s H E hr=>
  (aC (iP 2 lv.nd (cx av)) (aC (a8 3 lv.nd ao) (aC (b8 ca rfl (bu (af 0)) (cT (n:=2) rfl (bG (aL 4 lv.nd) (bG (aL 5 lv.nd) cU))) (aC (a8 6 lv.nd (bL (af 3) (af 4))) (aC (a8 7 lv.nd (bL (bL (af 6) ao) (af 5))) (aD (bo (bF f9 (af 7) (af 1) (bq _)) (aC (jB 2 (b4 (ah (af 6) (ah (af 7) av)))) (aD (a8 3 lv.nd (bL (af 7) ao)))) bp))))) (ia 2 (aD (aN (af 2)))))))
theorem ux:Cal .(o) P w K mg base "_law_name" 1 1 fX:=
 V.d3.cal (k:=0) BN .(b) fun f cdv A outer s H E hr=>
  (aC (a8 1 BN.nd (aB cH (c0 (af 0) ao))) (aD (aN (bL (af 1) (gR (aB cH (lF (af 0) ao)) (c0 (af 0) ao))))))
theorem MG:Cal .(o) P w K mg base "_law_benches" 2 2 we:=
 V.d4.cal (k:=1) nY .(b) fun f cdv A outer s H E hr=>
  (aC (iP 2 nY.nd (cx av)) (aC (b8 ca rfl (iT rfl V.z_enumerate (af 0)) (cT (n:=2) rfl (bG (aL 3 nY.nd) (bG (aL 4 nY.nd) cU))) (aC (a8 5 nY.nd (dC (lK V) hr (ah (af 4) (ah (af 3) (ah (DO.de (cx (ah ao (ah ao (ah ao (ah ao (ah ao (ah ao (ah ao av))))))))) av))) ln3)) (aC (a8 6 nY.nd (fm (DO.de (cx (ah (b4 (ah (aB (af 5) ao) (ah (aB (af 5) ao) av))) (ah (b4 (ah (aB (af 5) ao) (ah (aB (af 5) ao) av))) (ah (b4 (ah (aB (af 5) ao) (ah (aB (af 5) ao) av))) av))))) fG (eR (aB (af 5) ao)))) (aD (jB 2 (b4 (ah (dC (ux V) hr (ah (bL ao (af 3)) av) ln1) (ah (dC (Je V) hr (ah (af 6) .(W)) ln2) av)))))))) (ia 2 (aD (aN (af 2))))))
theorem F7:Cal .(o) P w K mg base "_law_steps" 4 2 vI:=
 V.d5.cal (k:=1) nZ .(b) fun f cdv A outer s H E hr=>
  (aC (iP 4 nZ.nd (cx av)) (aC (b8 ca rfl (iT rfl V.z_enumerate (af 0)) (cT (n:=2) rfl (bG (aL 5 nZ.nd) (bG (aL 6 nZ.nd) cU))) (aC (a8 7 nZ.nd (dC (lK V) hr (ah (af 6) (ah (bL (af 5) ao) (ah (DO.de (cx (ah ao (ah (bZ fA rfl V.z_len (by rfl) .(W)) (ah (af 3) (ah (bZ fA rfl V.z_len (by rfl) .(W)) (ah (af 3) (ah ao av)))))))) av))) ln3)) (aC (iP 8 nZ.nd (cx (ah (b4 (ah (aB (aB (af 1) (aB (af 7) ao)) ao) (ah (bL ao (c0 (aB (af 7) ao) (af 2))) av))) av))) (aC (bo (DW.dt (gW (bF fB (aB (af 7) ao) ao (bq _)) (gU (bF (kf (gB hr)) (aB (af 7) ao) (aB (af 7) ao) (bq _))))) (aD (jB 8 (b4 (ah (aB (aB (af 1) (aB (af 7) ao)) ao) (ah (bL ao (c0 (aB (af 7) ao) (af 2))) av))))) bp) (ia 8 (aD (jB 4 (b4 (ah (dC (ux V) hr (ah (af 5) av) ln1) (ah (aB cH (aB (af 7) ao)) (ah (af 8) av))))))))))) (ia 4 (aD (aN (af 4))))))
theorem Hr:Cal .(o) P w K mg base "_law_jobs" 3 2 yr:=
 V.d6.cal (k:=1) iL .(b) fun f cdv A outer s H E hr=>
  (aC (iP 3 iL.nd (cx av)) (aC (jp 4 iL.nd rfl .(m) (FvOk.of (N':=["_law_step"]) (fv:=[ab]) rfl) (bu (af 1)) ⟨fun _ _ _ _ _=>⟨(aL 0 (show(["_law_step"]:ac ak).Nodup by decide +kernel)),cq,.(t)⟩⟩) (aC (b8 ca rfl (iT rfl V.z_enumerate (af 0)) (cT (n:=2) rfl (bG (aL 5 iL.nd) (bG (aL 6 iL.nd) cU))) (aC (a8 7 iL.nd (dC (lK V) hr (ah (af 6) (ah (bL (af 5) ao) (ah (DO.de (cx (ah ao (ah ao (ah ao (ah ao (ah ao (ah ao av)))))))) av))) ln3)) (aC (a8 8 iL.nd (fm (af 4) fG (eR (aB (af 7) ao)))) (aC (a8 4 iL.nd (fm (af 4) (eR (aB (af 7) ao)) fG)) (aD (bo (bF (kf (gB hr)) (af 8) (DO.de (cx av)) (bq _)) (aC (a8 9 iL.nd (bZ (tX rfl) rfl V.z_min (by rfl) (ah (af 2) (ah (gR (aB (af 7) ao) (gN um rfl V.z_int (by rfl) (ah (dJ fB (aB (af 7) ao) ao (bq _)) av))) av)))) (aC (a8 10 iL.nd (bZ (tP rfl) rfl V.z_max (by rfl) (ah ao (ah (li (af 2) (gR (aB (af 7) ao) (gN um rfl V.z_int (by rfl) (ah (dJ fB (aB (af 7) ao) ao (bq _)) av)))) av)))) (aC (a8 8 iL.nd (bL (fm (af 8) (eR (c0 (aB (af 7) ao) ao)) fG) (fm (af 8) fG (eR (c0 (aB (af 7) ao) ao))))) (aD (jB 3 (b4 (ah (dC (ux V) hr (ah (bL ao (af 5)) av) ln1) (ah (af 9) (ah (af 10) (ah (dJ fB (aB (af 7) ao) ao (bq _)) (ah (af 8) av))))))))))) bp)))))) (ia 3 (aD (aN (af 3)))))))
theorem HP:Cal .(o) P w K mg base "_law_setups" 3 2 wj:=
 V.d7.cal (k:=1) nX .(b) fun f cdv A outer s H E hr=>
  (aC (iP 3 nX.nd (cx av)) (aC (b8 ca rfl (iT rfl V.z_enumerate (dC (lK V) hr (ah (af 0) (ah ao (ah (gR (DO.de (cx (ah ao av))) ao) av))) ln3)) (cT (n:=2) rfl (bG (aL 4 nX.nd) (bG (aL 5 nX.nd) cU))) (aC (a8 6 nX.nd (aB (aB (af 1) (c0 (af 4) (bZ fA rfl V.z_len (by rfl) .(W)))) ao)) (aC (a8 7 nX.nd (b4 (ah (af 6) (ah (aB cH (c0 (af 4) ao)) (ah (aB cH (c0 (bL (af 4) (af 5)) ao)) (ah (bZ (tX rfl) rfl V.z_min (by rfl) (ah (af 2) (ah (af 5) av))) av)))))) (aD (bo (zT 3 (DW.dt (gW (bF kS (af 5) ao (bq _)) (gU (bF (uf (a7 hr)) (fm (af 7) fG (eR ao)) (DO.de (cu rfl .(m) (FvOk.of (N':=["_law_one"]) (fv:=[ab]) rfl) (bu (af 3)) ⟨fun _ _ _ _ _=>⟨(aL 0 (show(["_law_one"]:ac ak).Nodup by decide +kernel)),cq,(fm (af 0) fG (eR ao))⟩⟩)) (by rfl)))))) (aD (jB 3 (af 7))) bp))))) (ia 3 (aD (aN (af 3))))))
theorem HH:Cal .(o) P w K mg base "_law_links" 3 2 vD:=
 V.d8.cal (k:=1) nM .(b) fun f cdv A outer s H E hr=>
  (aC (iP 3 nM.nd (cx av)) (aC (a8 4 nM.nd (dC (lK V) hr (ah (af 0) (ah ao (ah (DO.de (cx (ah ao (ah ao (ah ao (ah ao (ah ao (ah ao (ah ao av))))))))) av))) ln3)) (aC (b8 ca rfl (nE rfl V.z_range (ah (aB (af 4) ao) av)) (aL 5 nM.nd) (aC (a8 6 nM.nd (aB (aB (af 1) (c0 (aB (af 4) (bL ao (gR ao (af 5)))) (bZ fA rfl V.z_len (by rfl) .(W)))) ao)) (aC (a8 7 nM.nd (aB (aB (af 1) (c0 (aB (af 4) (bL ao (gR ao (af 5)))) (bZ fA rfl V.z_len (by rfl) .(W)))) ao)) (aD (bo (zT 3 (DW.dt (gW (bF (kf (gB hr)) (af 6) (af 7) (bq _)) (gU (bF (uf (a7 hr)) (b4 (ah (af 6) (ah (af 7) av))) (DO.de (cu rfl .(m) (FvOk.of (N':=["_law_link"]) (fv:=[ab]) rfl) (bu (af 3)) ⟨fun _ _ _ _ _=>⟨(aL 0 (show(["_law_link"]:ac ak).Nodup by decide +kernel)),cq,(fm (af 0) fG (eR ao))⟩⟩)) (by rfl)))))) (aD (jB 3 (b4 (ah (af 6) (ah (af 7) (ah (bZ (tX rfl) rfl V.z_min (by rfl) (ah (af 2) (ah (aB (af 4) (bL ao (gR ao (af 5)))) av))) av)))))) bp))))) (ia 3 (aD (aN (af 3)))))))
theorem M5:Cal .(o) P w K mg base "_law_stocks" 2 2 wc:=
 V.d9.cal (k:=1) mJ .(b) fun f cdv A outer s H E hr=>
  (aC (a8 2 mJ.nd (dC (lK V) hr (ah (af 0) (ah ao (ah (DO.de (cx (ah ao (ah ao (ah ao (ah ao (ah ao (ah ao (ah ao av))))))))) av))) ln3)) (aC (iP 3 mJ.nd (cx av)) (aC (b8 ca rfl (nE rfl V.z_range (ah .(as) av)) (aL 4 mJ.nd) (aC (a8 5 mJ.nd (bL .(as) .(as))) (aC (jp 6 mJ.nd rfl .(m) (FvOk.of (N':=["_law_j","_law_step","_law_row","_law_k"]) (fv:=[ab,ab,aa 2,aa 4]) rfl) (iT rfl V.z_enumerate (af 1)) ⟨fun _ _ _ _ _=>⟨(cT (n:=2) rfl (bG (aL 0 (show(["_law_j","_law_step","_law_row","_law_k"]:ac ak).Nodup by decide +kernel)) (bG (aL 1 (show(["_law_j","_law_step","_law_row","_law_k"]:ac ak).Nodup by decide +kernel)) cU))),(ko (bF fB (c0 (lF (bL .(as) (af 3)) (aB (DO.de (cx (ah ao (ah ao (ah ao av))))) (c0 (af 0) ao))) ao) ao (bq _))),(b4 (ah (aB (af 1) ao) (ah (bL ao .(as)) av)))⟩⟩) (aC (jp 7 mJ.nd rfl .(m) (FvOk.of (N':=["_law_j","_law_step","_law_row","_law_k"]) (fv:=[ab,ab,aa 2,aa 4]) rfl) (iT rfl V.z_enumerate (af 1)) ⟨fun _ _ _ _ _=>⟨(cT (n:=2) rfl (bG (aL 0 (show(["_law_j","_law_step","_law_row","_law_k"]:ac ak).Nodup by decide +kernel)) (bG (aL 1 (show(["_law_j","_law_step","_law_row","_law_k"]:ac ak).Nodup by decide +kernel)) cU))),(ko (bF fB (c0 (lF (bL .(as) (af 3)) (aB (DO.de (cx (ah ao (ah ao (ah ao av))))) (c0 (af 0) ao))) ao) ao (bq _))),(b4 (ah (aB (af 1) ao) (ah (bL ao .(as)) av)))⟩⟩) (aD (jB 3 (b4 (ah (dC (ux V) hr (ah (bL ao (af 4)) av) ln1) (ah .(as) (ah (af 5) (ah (af 6) (ah (af 7) av)))))))))))) (ia 3 (aD (aN (af 3)))))))
theorem IQ:Cal .(o) P w K mg base "_law_lists" 4 3 xR:=
 V.d10.cal (k:=2) mw .(b) fun f cdv A outer s H E hr=>
  (aC (a8 4 mw.nd (dC (MG V) hr (ah (DO.de (cu rfl .(m) (FvOk.of (N':=["_law_k","_law_script"]) (fv:=[ab,aa 0]) rfl) (nE rfl V.z_range (ah (bL ao (c0 (dC (iU V) hr (ah (af 0) (ah ao av)) ln2) ao)) av)) ⟨fun _ _ _ _ _=>⟨(aL 0 (show(["_law_k","_law_script"]:ac ak).Nodup by decide +kernel)),cq,(dC (iU V) hr (ah (af 1) (ah (bL ao (af 0)) av)) ln2)⟩⟩)) (ah (af 2) av)) ln2)) (aC (a8 5 mw.nd (dC (F7 V) hr (ah (DO.de (cu rfl .(m) (FvOk.of (N':=["_law_k","_law_script"]) (fv:=[ab,aa 0]) rfl) (nE rfl V.z_range .(W)) ⟨fun _ _ _ _ _=>⟨(aL 0 (show(["_law_k","_law_script"]:ac ak).Nodup by decide +kernel)),cq,(dC (iU V) hr (ah (af 1) (ah (bL ao (af 0)) av)) ln2)⟩⟩)) (ah (af 4) (ah (af 2) (ah (af 3) av)))) ln4)) (aC (a8 6 mw.nd (dC (Hr V) hr (ah (DO.de (cu rfl .(m) (FvOk.of (N':=["_law_k","_law_script"]) (fv:=[ab,aa 0]) rfl) (nE rfl V.z_range (ah ao av)) ⟨fun _ _ _ _ _=>⟨(aL 0 (show(["_law_k","_law_script"]:ac ak).Nodup by decide +kernel)),cq,(dC (iU V) hr (ah (af 1) (ah (bL ao (af 0)) av)) ln2)⟩⟩)) (ah (af 5) (ah (af 2) av))) ln3)) (aC (a8 7 mw.nd (dC (HP V) hr (ah (dC (iU V) hr (ah (af 0) (ah ao av)) ln2) (ah (af 4) (ah (af 2) av))) ln3)) (aC (a8 8 mw.nd (dC (HH V) hr (ah (dC (iU V) hr (ah (af 0) (ah ao av)) ln2) (ah (af 5) (ah (af 2) av))) ln3)) (aC (a8 9 mw.nd (dC (M5 V) hr (ah (dC (iU V) hr (ah (af 0) (ah ao av)) ln2) (ah (af 5) av)) ln2)) (aD (aN (DO.de (cx (ah (af 4) (ah (af 5) (ah (af 6) (ah (af 7) (ah (af 8) (ah (af 9) (ah (af 2) av)))))))))))))))))
theorem Qp:Cal .(o) P w K mg base "is_whole" 1 1 sY:=
 V.d11.cal (k:=0) Li .(b) fun f cdv A outer s H E hr=>
  (aD (aN (eQ (bZ kT rfl V.z_isinstance (by rfl) (ah (af 0) (ah (lD rfl V.z_int (by rfl)) av))) (fU (LF (bZ kT rfl V.z_isinstance (by rfl) (ah (af 0) (ah (lD rfl V.z_bool (by rfl)) av))))))))
theorem iJ:Cal .(o) P w K mg base "is_within" 3 2 gE:=
 V.d12.cal (k:=1) OT .(b) fun f cdv A outer s H E hr=>
  (aD (aN (eQ (dC (Qp V) hr (ah (af 0) av) ln1) (fU (wq f9 f9 (af 1) (af 0) (af 2))))))
theorem ki:Cal .(o) P w K mg base "is_tuple" 2 1 fT:=
 V.d13.cal (k:=0) Lz .(b) fun f cdv A outer s H E hr=>
  (aD (aN (eQ (bZ kT rfl V.z_isinstance (by rfl) (ah (af 0) (ah (lD rfl V.z_tuple (by rfl)) av))) (fU (dJ fB (bZ fA rfl V.z_len (by rfl) (ah (af 0) av)) (af 1) (bq _))))))
theorem Hs:Cal .(o) P w K mg base "is_break" 2 3 t6:=
 V.d14.cal (k:=2) Qn .(b) fun f cdv A outer s H E hr=>
  (aC (bo (DW.dt (cL (b5 (bQ .(af))) (cL (b5 (bQ (dC (iJ V) hr (ah .(t) (ah ao .(W))) ln3))) (c6 (b5 (bQ (dC (iJ V) hr (ah .(t) (ah ao .(W))) ln3))))))) (aD (aN cW)) bp) (aD (aN (dJ eh .(t) .(t) (bq _)))))
theorem jk:Cal .(o) P w K mg base "is_list" 3 1 gO:=
 V.d15.cal (k:=0) Mi .(b) fun f cdv A outer s H E hr=>
  (aD (aN (eQ (bZ kT rfl V.z_isinstance (by rfl) (ah (af 0) (ah (lD rfl V.z_list (by rfl)) av))) (fU (wq f9 f9 (af 1) (bZ fA rfl V.z_len (by rfl) (ah (af 0) av)) (af 2))))))
theorem Ji:Cal .(o) P w K mg base "are_breaks" 2 4 wI:=
 V.d16.cal (k:=3) Py .(b) fun f cdv A outer s H E hr=>
  (aC (bo (DW.dt (cL (b5 (bQ (dC (jk V) hr (ah (af 0) (ah ao (ah (il rfl V.k_MOST_BREAKS) av))) ln3))) (c6 (b5 (bQ (bZ (h9 rfl) rfl V.z_all (by rfl) (ah (DO.de (cu rfl .(m) (FvOk.of (N':=["row","horizon"]) (fv:=[ab,aa 1]) rfl) (bu (af 0)) ⟨fun _ _ _ _ _=>⟨(aL 0 (show(["row","horizon"]:ac ak).Nodup by decide +kernel)),cq,(dC (Hs V) hr (ah (af 0) .(W)) ln2)⟩⟩)) av))))))) (aD (aN cW)) bp) (aD (aN (bZ (h9 rfl) rfl V.z_all (by rfl) (ah (DO.de (cu rfl .(m) (FvOk.of (N':=["place","breaks"]) (fv:=[ab,aa 0]) rfl) (Df rfl V.z_range (ah ao (ah (bZ fA rfl V.z_len (by rfl) (ah (af 0) av)) av))) ⟨fun _ _ _ _ _=>⟨(aL 0 (show(["place","breaks"]:ac ak).Nodup by decide +kernel)),cq,(dJ eh (aB (aB (af 1) (li (af 0) ao)) ao) (aB (aB (af 1) (af 0)) ao) (bq _))⟩⟩)) av)))))
theorem lA:Cal .(o) P w K mg base "is_name" 1 1 jt:=
 V.d17.cal (k:=0) NJ .(b) fun f cdv A outer s H E hr=>
  (aC (bo (DW.dt (cL (b5 (bQ (bZ kT rfl V.z_isinstance (by rfl) (ah (af 0) (ah (lD rfl V.z_str (by rfl)) av))))) (c6 (b5 (Bv f9 f9 ao (bZ fA rfl V.z_len (by rfl) (ah (af 0) av)) (il rfl V.k_LONGEST_NAME)))))) (aD (aN cW)) bp) (aD (aN (bZ (h9 rfl) rfl V.z_all (by rfl) (ah (DO.de (cu rfl .(m) (FvOk.of (N':=["sign"]) (fv:=[ab]) rfl) (F6 (af 0)) ⟨fun _ _ _ _ _=>⟨(aL 0 (show(["sign"]:ac ak).Nodup by decide +kernel)),cq,(wq f9 f9 cH (af 0) cH)⟩⟩)) av)))))
theorem OD:Cal .(o) P w K mg base "is_bench" 2 5 uy:=
 V.d18.cal (k:=4) Pi .(b) fun f cdv A outer s H E hr=>
  (aD (aN (eQ .(af) (eQ (dC (lA V) hr (ah .(t) av) ln1) (fU (dC (Ji V) hr (ah .(t) .(W)) ln2))))))
theorem j0:Cal .(o) P w K mg base "are_unlike" 1 1 fD:=
 V.d19.cal (k:=0) Lk .(b) fun f cdv A outer s H E hr=>
  (aD (aN (dJ fB (J3 rfl (a7 hr) rfl V.z_len rfl V.z_set (af 0)) (bZ fA rfl V.z_len (by rfl) (ah (af 0) av)) (bq _))))
theorem OL:Cal .(o) P w K mg base "are_benches" 2 6 x5:=
 V.d20.cal (k:=5) NM .(b) fun f cdv A outer s H E hr=>
  (aC (bo (DW.dt (cL (b5 (bQ (dC (jk V) hr (ah (af 0) (ah ao (ah (il rfl V.k_MOST_BENCHES) av))) ln3))) (c6 (b5 (bQ (bZ (h9 rfl) rfl V.z_all (by rfl) (ah (DO.de (cu rfl .(m) (FvOk.of (N':=["row","horizon"]) (fv:=[ab,aa 1]) rfl) (bu (af 0)) ⟨fun _ _ _ _ _=>⟨(aL 0 (show(["row","horizon"]:ac ak).Nodup by decide +kernel)),cq,(dC (OD V) hr (ah (af 0) .(W)) ln2)⟩⟩)) av))))))) (aD (aN cW)) bp) (aD (aN .(h))))
theorem nI:Cal .(o) P w K mg base "is_one_of" 2 2 j1:=
 V.d21.cal (k:=1) K7 .(b) fun f cdv A outer s H E hr=>
  (aD (aN (eQ (dC (lA V) hr (ah (af 0) av) ln1) (fU (dJ (o2 (a7 hr)) (af 0) (af 1) (by rfl))))))
theorem L5:Cal .(o) P w K mg base "is_way" 3 3 sA:=
 V.d22.cal (k:=2) K9 .(b) fun f cdv A outer s H E hr=>
  (aD (aN (eQ .(af) (eQ (dC (nI V) hr (ah .(t) .(W)) ln2) (fU (dC (iJ V) hr (ah .(t) (ah ao (ah (af 2) av))) ln3))))))
theorem P0:Cal .(o) P w K mg base "are_ways" 3 4 wz:=
 V.d23.cal (k:=3) KP .(b) fun f cdv A outer s H E hr=>
  (aC (bo (DW.dt (cL (b5 (bQ (dC (jk V) hr (ah (af 0) (ah ao (ah (il rfl V.k_MOST_WAYS) av))) ln3))) (c6 (b5 (bQ (bZ (h9 rfl) rfl V.z_all (by rfl) (ah (DO.de (cu rfl .(m) (FvOk.of (N':=["row","bench_names","horizon"]) (fv:=[ab,aa 1,aa 2]) rfl) (bu (af 0)) ⟨fun _ _ _ _ _=>⟨(aL 0 (show(["row","bench_names","horizon"]:ac ak).Nodup by decide +kernel)),cq,(dC (L5 V) hr (ah (af 0) (ah (af 1) (ah (af 2) av))) ln3)⟩⟩)) av))))))) (aD (aN cW)) bp) (aD (aN .(h))))
theorem N8:Cal .(o) P w K mg base "is_step" 3 5 tK:=
 V.d24.cal (k:=4) L9 .(b) fun f cdv A outer s H E hr=>
  (aC (bo (DW.dt (cL (b5 (bQ .(af))) (cL (b5 (bQ (dC (lA V) hr (ah .(t) av) ln1))) (c6 (b5 (bQ (dC (lA V) hr (ah .(t) av) ln1))))))) (aD (aN cW)) bp) (aD (aN (dC (P0 V) hr (ah .(t) (ah (af 1) (ah (af 2) av))) ln3))))
theorem NL:Cal .(o) P w K mg base "are_steps" 3 6 xC:=
 V.d25.cal (k:=5) KC .(b) fun f cdv A outer s H E hr=>
  (aC (bo (DW.dt (cL (b5 (bQ (dC (jk V) hr (ah (af 0) (ah ao (ah (il rfl V.k_MOST_STEPS) av))) ln3))) (c6 (b5 (bQ (bZ (h9 rfl) rfl V.z_all (by rfl) (ah (DO.de (cu rfl .(m) (FvOk.of (N':=["row","bench_names","horizon"]) (fv:=[ab,aa 1,aa 2]) rfl) (bu (af 0)) ⟨fun _ _ _ _ _=>⟨(aL 0 (show(["row","bench_names","horizon"]:ac ak).Nodup by decide +kernel)),cq,(dC (N8 V) hr (ah (af 0) (ah (af 1) (ah (af 2) av))) ln3)⟩⟩)) av))))))) (aD (aN cW)) bp) (aD (aN .(h))))
theorem FP:Cal .(o) P w K mg base "is_job" 3 3 yq:=
 V.d26.cal (k:=2) Gx .(b) fun f cdv A outer s H E hr=>
  (aC (bo (DW.dt (cL (b5 (bQ .(af))) (cL (b5 (bQ (dC (lA V) hr (ah .(t) av) ln1))) (c6 (b5 (bQ (bZ kT rfl V.z_isinstance (by rfl) (ah .(t) (ah (lD rfl V.z_bool (by rfl)) av))))))))) (aD (aN cW)) bp) (aC (bo (DW.dt (cL (b5 (bQ (dC (iJ V) hr (ah .(t) (ah ao (ah (af 2) av))) ln3))) (c6 (b5 (bQ (dC (iJ V) hr (ah .(t) (ah ao (ah (af 2) av))) ln3)))))) (aD (aN cW)) bp) (aD (aN (eQ (dC (jk V) hr (ah .(t) (ah ao (ah (bZ fA rfl V.z_len (by rfl) .(W)) av))) ln3) (fU (bZ (h9 rfl) rfl V.z_all (by rfl) (ah (DO.de (cu rfl .(m) (FvOk.of (N':=["name","step_names"]) (fv:=[ab,aa 1]) rfl) (bu .(t)) ⟨fun _ _ _ _ _=>⟨(aL 0 (show(["name","step_names"]:ac ak).Nodup by decide +kernel)),cq,(dC (nI V) hr (ah (af 0) .(W)) ln2)⟩⟩)) av))))))))
theorem KA:Cal .(o) P w K mg base "are_jobs" 3 4 xp:=
 V.d27.cal (k:=3) v6 .(b) fun f cdv A outer s H E hr=>
  (aC (bo (DW.dt (cL (b5 (bQ (dC (jk V) hr (ah (af 0) (ah ao (ah (il rfl V.k_MOST_JOBS) av))) ln3))) (c6 (b5 (bQ (bZ (h9 rfl) rfl V.z_all (by rfl) (ah (DO.de (cu rfl .(m) (FvOk.of (N':=["row","step_names","horizon"]) (fv:=[ab,aa 1,aa 2]) rfl) (bu (af 0)) ⟨fun _ _ _ _ _=>⟨(aL 0 (show(["row","step_names","horizon"]:ac ak).Nodup by decide +kernel)),cq,(dC (FP V) hr (ah (af 0) (ah (af 1) (ah (af 2) av))) ln3)⟩⟩)) av))))))) (aD (aN cW)) bp) (aC (iP 3 v6.nd (cx av)) (aC (b8 ca rfl (bu (af 0)) (aL 4 v6.nd) (aD (vy 3 (aB (af 4) ao)))) (ia 3 (aD (aN (eQ .(h) (fU (dC (j0 V) hr (ah (af 3) av) ln1)))))))))
theorem Kr:Cal .(o) P w K mg base "is_setup" 3 3 sF:=
 V.d28.cal (k:=2) M8 .(b) fun f cdv A outer s H E hr=>
  (aC (bo (DW.dt (cL (b5 (bQ .(af))) (c6 (b5 (bQ (dC (nI V) hr (ah .(t) .(W)) ln2)))))) (aD (aN cW)) bp) (aD (aN (eQ (dC (lA V) hr (ah .(t) av) ln1) (eQ (dC (lA V) hr (ah .(t) av) ln1) (fU (dC (iJ V) hr (ah .(t) (ah ao (ah (af 2) av))) ln3)))))))
theorem IT:Cal .(o) P w K mg base "are_setups" 3 4 xa:=
 V.d29.cal (k:=3) NU .(b) fun f cdv A outer s H E hr=>
  (aC (bo (DW.dt (cL (b5 (bQ (dC (jk V) hr (ah (af 0) (ah ao (ah (il rfl V.k_MOST_SETUPS) av))) ln3))) (c6 (b5 (bQ (bZ (h9 rfl) rfl V.z_all (by rfl) (ah (DO.de (cu rfl .(m) (FvOk.of (N':=["row","bench_names","horizon"]) (fv:=[ab,aa 1,aa 2]) rfl) (bu (af 0)) ⟨fun _ _ _ _ _=>⟨(aL 0 (show(["row","bench_names","horizon"]:ac ak).Nodup by decide +kernel)),cq,(dC (Kr V) hr (ah (af 0) (ah (af 1) (ah (af 2) av))) ln3)⟩⟩)) av))))))) (aD (aN cW)) bp) (aD (aN (dC (j0 V) hr (ah (DO.de (cu rfl .(m) (FvOk.of (N':=["row"]) (fv:=[ab]) rfl) (bu (af 0)) ⟨fun _ _ _ _ _=>⟨.(Y),cq,(fm (af 0) fG (eR ao))⟩⟩)) av) ln1))))
theorem NC:Cal .(o) P w K mg base "is_link" 3 3 tI:=
 V.d30.cal (k:=2) JR .(b) fun f cdv A outer s H E hr=>
  (aC (bo (DW.dt (cL (b5 (bQ .(af))) (cL (b5 (bQ (dC (nI V) hr (ah .(t) .(W)) ln2))) (c6 (b5 (bQ (dC (nI V) hr (ah .(t) .(W)) ln2))))))) (aD (aN cW)) bp) (aD (aN (eQ (dJ (kf (gB hr)) .(t) .(t) (bq _)) (fU (dC (iJ V) hr (ah .(t) (ah ao (ah (af 2) av))) ln3))))))
theorem KB:Cal .(o) P w K mg base "are_links" 3 4 xb:=
 V.d31.cal (k:=3) Jy .(b) fun f cdv A outer s H E hr=>
  (aC (bo (DW.dt (cL (b5 (bQ (dC (jk V) hr (ah (af 0) (ah ao (ah (il rfl V.k_MOST_LINKS) av))) ln3))) (c6 (b5 (bQ (bZ (h9 rfl) rfl V.z_all (by rfl) (ah (DO.de (cu rfl .(m) (FvOk.of (N':=["row","step_names","horizon"]) (fv:=[ab,aa 1,aa 2]) rfl) (bu (af 0)) ⟨fun _ _ _ _ _=>⟨(aL 0 (show(["row","step_names","horizon"]:ac ak).Nodup by decide +kernel)),cq,(dC (NC V) hr (ah (af 0) (ah (af 1) (ah (af 2) av))) ln3)⟩⟩)) av))))))) (aD (aN cW)) bp) (aD (aN (dC (j0 V) hr (ah (DO.de (cu rfl .(m) (FvOk.of (N':=["row"]) (fv:=[ab]) rfl) (bu (af 0)) ⟨fun _ _ _ _ _=>⟨.(Y),cq,(fm (af 0) fG (eR ao))⟩⟩)) av) ln1))))
theorem KQ:Cal .(o) P w K mg base "is_amount" 2 3 tL:=
 V.d32.cal (k:=2) IJ .(b) fun f cdv A outer s H E hr=>
  (aD (aN (eQ .(af) (eQ (dC (nI V) hr (ah .(t) .(W)) ln2) (fU (dC (iJ V) hr (ah .(t) (ah ao (ah (il rfl V.k_MOST_AMOUNT) av))) ln3))))))
theorem Ay:Cal .(o) P w K mg base "are_amounts" 2 4 sR:=
 V.d33.cal (k:=3) Kn .(b) fun f cdv A outer s H E hr=>
  (aC (bo (DW.dt (cL (b5 (bQ (dC (jk V) hr (ah (af 0) (ah ao (ah (bZ fA rfl V.z_len (by rfl) .(W)) av))) ln3))) (c6 (b5 (bQ (bZ (h9 rfl) rfl V.z_all (by rfl) (ah (DO.de (cu rfl .(m) (FvOk.of (N':=["row","step_names"]) (fv:=[ab,aa 1]) rfl) (bu (af 0)) ⟨fun _ _ _ _ _=>⟨(aL 0 (show(["row","step_names"]:ac ak).Nodup by decide +kernel)),cq,(dC (KQ V) hr (ah (af 0) .(W)) ln2)⟩⟩)) av))))))) (aD (aN cW)) bp) (aD (aN .(h))))
theorem Ls:Cal .(o) P w K mg base "is_stock" 2 5 uq:=
 V.d34.cal (k:=4) Mt .(b) fun f cdv A outer s H E hr=>
  (aC (bo (DW.dt (cL (b5 (bQ .(af))) (c6 (b5 (bQ (dC (lA V) hr (ah .(t) av) ln1)))))) (aD (aN cW)) bp) (aC (bo (DW.dt (cL (b5 (bQ (dC (iJ V) hr (ah .(t) (ah ao (ah (il rfl V.k_MOST_AMOUNT) av))) ln3))) (c6 (b5 (bQ (dC (iJ V) hr (ah .(t) (ah ao (ah .(t) av))) ln3)))))) (aD (aN cW)) bp) (aD (aN (eQ (dC (Ay V) hr (ah .(t) .(W)) ln2) (fU (dC (Ay V) hr (ah .(t) .(W)) ln2)))))))
theorem H0:Cal .(o) P w K mg base "are_stocks" 2 6 wF:=
 V.d35.cal (k:=5) HS .(b) fun f cdv A outer s H E hr=>
  (aC (bo (DW.dt (cL (b5 (bQ (dC (jk V) hr (ah (af 0) (ah ao (ah (il rfl V.k_MOST_STOCKS) av))) ln3))) (c6 (b5 (bQ (bZ (h9 rfl) rfl V.z_all (by rfl) (ah (DO.de (cu rfl .(m) (FvOk.of (N':=["row","step_names"]) (fv:=[ab,aa 1]) rfl) (bu (af 0)) ⟨fun _ _ _ _ _=>⟨(aL 0 (show(["row","step_names"]:ac ak).Nodup by decide +kernel)),cq,(dC (Ls V) hr (ah (af 0) .(W)) ln2)⟩⟩)) av))))))) (aD (aN cW)) bp) (aD (aN .(h))))
theorem PV:Cal .(o) P w K mg base "first_bad_part" 7 7 wL:=
 V.d36.cal (k:=6) wo .(b) fun f cdv A outer s H E hr=>
  (aC (bo (b5 (bQ (dC (iJ V) hr (ah (af 6) (ah ao (ah (il rfl V.k_MOST_HORIZON) av))) ln3))) (aD (aN cH)) bp) (aC (bo (b5 (bQ (dC (OL V) hr (ah (af 0) (ah (af 6) av)) ln2))) (aD (aN cH)) bp) (aC (jp 7 wo.nd rfl .(m) (FvOk.of (N':=["row"]) (fv:=[ab]) rfl) (bu (af 0)) ⟨fun _ _ _ _ _=>⟨.(Y),cq,.(t)⟩⟩) (aC (bo (b5 (bQ (dC (NL V) hr (ah (af 1) (ah (af 7) (ah (af 6) av))) ln3))) (aD (aN cH)) bp) (aC (jp 8 wo.nd rfl .(m) (FvOk.of (N':=["row"]) (fv:=[ab]) rfl) (bu (af 1)) ⟨fun _ _ _ _ _=>⟨.(Y),cq,.(t)⟩⟩) (aC (bo (b5 (bQ (dC (KA V) hr (ah (af 2) (ah (af 8) (ah (af 6) av))) ln3))) (aD (aN cH)) bp) (aC (bo (b5 (bQ (dC (IT V) hr (ah (af 3) (ah (af 7) (ah (af 6) av))) ln3))) (aD (aN cH)) bp) (aC (bo (b5 (bQ (dC (KB V) hr (ah (af 4) (ah (af 8) (ah (af 6) av))) ln3))) (aD (aN cH)) bp) (aC (bo (b5 (bQ (dC (H0 V) hr (ah (af 5) (ah (af 8) av)) ln2))) (aD (aN cH)) bp) (aD (aN dD)))))))))))
theorem MQ {k:al} {eE:FQ} (gc:Cal .(o) P w K mg base "fresh" 1 k eE):Cal .(o) P w K mg base "fresh" 1 (k+1) (jA eE):=
 V.d37.cal (k:=k) HZ .(b) fun f cdv A outer s H E hr=>
  (aC (bo (bQ (bZ kT rfl V.z_isinstance (by rfl) (ah (af 0) (ah (lD rfl V.z_list (by rfl)) av)))) (aD (aN (DO.de (cu rfl .(m) (FvOk.of (N':=["part"]) (fv:=[ab]) rfl) (bu (af 0)) ⟨fun _ _ _ _ _=>⟨(aL 0 (show(["part"]:ac ak).Nodup by decide +kernel)),cq,(jx gc hr (qw _) rfl (ah (af 0) av) ln1)⟩⟩)))) bp) (aC (bo (bQ (bZ kT rfl V.z_isinstance (by rfl) (ah (af 0) (ah (lD rfl V.z_tuple (by rfl)) av)))) (aD (aN (gN NF rfl V.z_tuple (by rfl) (ah (DO.de (cu rfl .(m) (FvOk.of (N':=["part"]) (fv:=[ab]) rfl) (bu (af 0)) ⟨fun _ _ _ _ _=>⟨(aL 0 (show(["part"]:ac ak).Nodup by decide +kernel)),cq,(jx gc hr (qw _) rfl (ah (af 0) av) ln1)⟩⟩)) av)))) bp) (aD (aN (af 0)))))
theorem gc:Cal .(o) P w K mg base "fresh" 1 8 eE:=by
 have h:∀n,Cal .(o) P w K mg base "fresh" 1 n (jz n):=fun n=>by
  induction n with
  |zero=>exact Dfn.none (ps:=["thing"]) V.d37 .(b)
  |succ n ih=>exact MQ V ih
 exact h 8
theorem N9:CalI .(o) P w K mg base "Shop" 7 9 xU:=
 DfnM.calI (k:=8) V.O_Shop V.d38 uL .(b) fun f y cdv A outer s H E hr=>
  (aC (a8 8 uL.nd (jx ((PV V).re y) hr .(g) rfl (ah (af 1) (ah (af 2) (ah (af 3) (ah (af 4) (ah (af 5) (ah (af 6) (ah (af 7) av))))))) ln7)) (aC (bo (bF vP (af 8) dD (bq _)) (aD GD) bp) (aC (ju 0 (V.cf_Shop.re y) (.head _) (jx ((gc V).re y) hr .(g) rfl .(W) ln1)) (aC (ju 0 (V.cf_Shop.re y) (.tail _ (.head _)) (jx ((gc V).re y) hr .(g) rfl (ah (af 2) av) ln1)) (aC (ju 0 (V.cf_Shop.re y) (.tail _ (.tail _ (.head _))) (jx ((gc V).re y) hr .(g) rfl (ah (af 3) av) ln1)) (aC (ju 0 (V.cf_Shop.re y) (.tail _ (.tail _ (.tail _ (.head _)))) (jx ((gc V).re y) hr .(g) rfl (ah (af 4) av) ln1)) (aC (ju 0 (V.cf_Shop.re y) (.tail _ (.tail _ (.tail _ (.tail _ (.head _))))) (jx ((gc V).re y) hr .(g) rfl (ah (af 5) av) ln1)) (aC (ju 0 (V.cf_Shop.re y) (.tail _ (.tail _ (.tail _ (.tail _ (.tail _ (.head _)))))) (jx ((gc V).re y) hr .(g) rfl (ah (af 6) av) ln1)) (aC (ju 0 (V.cf_Shop.re y) .(p) (af 7)) (aC (ju 0 (V.cf_Shop.re y) (.tail _ .(p)) (gN (nC rfl (a7 hr)) rfl V.z_dict (by rfl) (ah (DO.de (cu rfl .(m) (FvOk.of (N':=["row"]) (fv:=[ab]) rfl) (bu (ui 0 (V.cf_Shop.re y) (.head _))) ⟨fun _ _ _ _ _=>⟨.(Y),cq,(b4 (ah .(t) (ah (af 0) av)))⟩⟩)) av))) (aC (ju 0 (V.cf_Shop.re y) (.tail _ (.tail _ .(p))) (gN (nC rfl (a7 hr)) rfl V.z_dict (by rfl) (ah (DO.de (cu rfl .(m) (FvOk.of (N':=["row"]) (fv:=[ab]) rfl) (bu (ui 0 (V.cf_Shop.re y) (.tail _ (.head _)))) ⟨fun _ _ _ _ _=>⟨.(Y),cq,(b4 (ah .(t) (ah (af 0) av)))⟩⟩)) av))) (aC (ju 0 (V.cf_Shop.re y) (.tail _ (.tail _ (.tail _ .(p)))) (gN (Jp rfl (a7 hr)) rfl V.z_dict (by rfl) (ah (DO.de (cu rfl .(m) (FvOk.of (N':=["row"]) (fv:=[ab]) rfl) (bu (ui 0 (V.cf_Shop.re y) (.tail _ (.tail _ (.tail _ (.head _)))))) ⟨fun _ _ _ _ _=>⟨.(Y),cq,(b4 (ah (fm (af 0) fG (eR ao)) (ah .(t) av)))⟩⟩)) av))) (aC (M6 0 (V.cf_Shop.re y) (.tail _ (.tail _ (.tail _ (.tail _ .(p)))))) (aD (b8 ca rfl (bu (ui 0 (V.cf_Shop.re y) (.tail _ (.tail _ (.head _))))) (aL 9 uL.nd) (aD (b8 ca rfl (bu (aB (af 9) ao)) (aL 10 uL.nd) (aD (J1 0 (a7 hr) (V.cf_Shop.re y) (.tail _ (.tail _ (.tail _ (.tail _ .(p))))) (af 10) (af 9))))))))))))))))))))
theorem HN:Cal .(o) P w K mg base "_law_shop" 1 11 yk:=
 V.d39.cal (k:=10) Ql .(b) fun f cdv A outer s H E hr=>
  (aD (aN (GE (N9 V) hr .(g) rfl (ah .(t) (ah .(t) (ah .(t) (ah .(t) (ah .(t) (ah .(t) (ah .(t) av))))))) ln7)))
theorem xG:Cal .(o) P w K mg base "_law_ends" 2 1 nV:=
 V.d40.cal (k:=0) mO .(b) fun f cdv A outer s H E hr=>
  (aC (wy 2 mO.nd) (aC (b8 ca rfl (bu (aB (af 1) ao)) (cT (n:=3) rfl (bG (aL 3 mO.nd) (bG (aL 4 mO.nd) (bG (aL 5 mO.nd) cU)))) (aD (bo (bF (x8 (a7 hr)) (af 3) (af 0) (by rfl)) (aC (rh (bV (a7 hr) (af 0) (af 3)) (cT (n:=2) rfl (bG (aL 6 mO.nd) (bG (aL 7 mO.nd) cU)))) (aD (kQ 2 (a7 hr) (af 3) (bL (af 7) (bV (a7 hr) (gN (nC rfl (a7 hr)) rfl V.z_dict (by rfl) (ah (af 5) av)) (af 6)))))) bp))) (n8 2 (aD (aN (af 2))))))
theorem OI:Cal .(o) P w K mg base "_law_low" 3 1 sJ:=
 V.d41.cal (k:=0) km .(b) fun f cdv A outer s H E hr=>
  (aC (a8 3 km.nd ao) (aC (b8 ca rfl (bu .(t)) (cT (n:=3) rfl (bG (aL 4 km.nd) (bG (aL 5 km.nd) (bG (aL 6 km.nd) cU)))) (aD (bo (DW.dt (gW (bF (o8 (gB hr)) (af 5) (af 2) (bq _)) (gU (bF (x8 (a7 hr)) (af 4) (af 1) (by rfl))))) (aD (a8 3 km.nd (bZ (tP rfl) rfl V.z_max (by rfl) (ah (af 3) (ah (bL (bV (a7 hr) (af 1) (af 4)) (af 6)) av))))) bp))) (aC (b8 ca rfl (bu .(t)) (aL 7 km.nd) (aD (bo (DW.dt (gW (bQ (aB (af 7) ao)) (gU (bF (o2 (a7 hr)) (af 2) (aB (af 7) ao) (by rfl))))) (aD (b8 ca rfl (bu (fm (aB (af 7) ao) fG (eR (On E5 RP PySem.F.type_list_index OZ (aB (af 7) ao) (ah (af 2) av))))) (aL 8 km.nd) (aD (a8 3 km.nd (bZ (tP rfl) rfl V.z_max (by rfl) (ah (af 3) (ah (yc (a7 hr) (af 1) (af 8) ao) av))))))) bp))) (aD (aN (af 3))))))
theorem z7:Cal .(o) P w K mg base "_law_off_job" 4 1 oo:=
 V.d42.cal (k:=0) D4 .(b) fun f cdv A outer s H E hr=>
  (aC (b8 ca rfl (bu .(as)) (aL 4 D4.nd) (aD (bo (bF (o2 (a7 hr)) (af 3) (aB (af 4) ao) (by rfl)) (aD (bo (DW.dt (cL (bF eh (aB (bV (a7 hr) (af 0) (af 3)) ao) (aB (af 4) ao) (bq _)) (c6 (bF kS (bV (a7 hr) (af 1) (af 3)) (aB (af 4) ao) (bq _))))) (aD (aN cW)) bp)) bp))) (aD (aN cW)))
theorem Da:Cal .(o) P w K mg base "_law_in_break" 4 1 nQ:=
 V.d43.cal (k:=0) xE .(b) fun f cdv A outer s H E hr=>
  (aC (b8 ca rfl (bu (bV (a7 hr) (gN (nC rfl (a7 hr)) rfl V.z_dict (by rfl) (ah .(as) av)) (aB (bV (a7 hr) (af 0) (af 3)) ao))) (cT (n:=2) rfl (bG (aL 4 xE.nd) (bG (aL 5 xE.nd) cU))) (aD (bo (DW.dt (gW (bF eh (aB (bV (a7 hr) (af 0) (af 3)) ao) (af 5) (bq _)) (gU (bF eh (af 4) (bV (a7 hr) (af 1) (af 3)) (bq _))))) (aD (aN cW)) bp))) (aD (aN cW)))
theorem Oz:Cal .(o) P w K mg base "_law_wait" 4 1 sv:=
 V.d44.cal (k:=0) xL .(b) fun f cdv A outer s H E hr=>
  (aC (a8 4 xL.nd (gN (nC rfl (a7 hr)) rfl V.z_dict (by rfl) (ah (DO.de (cu rfl .(m) (FvOk.of (N':=["_law_step"]) (fv:=[ab]) rfl) (bu .(t)) ⟨fun _ _ _ _ _=>⟨(aL 0 (show(["_law_step"]:ac ak).Nodup by decide +kernel)),cq,(b4 (ah .(t) (ah .(t) av)))⟩⟩)) av))) (aC (b8 ca rfl (bu .(t)) (aL 5 xL.nd) (aD (bo (bF (o8 (gB hr)) (fm (af 5) fG (eR ao)) (b4 (ah (af 1) (ah (bV (a7 hr) (af 4) (af 2)) (ah (bV (a7 hr) (af 4) (af 3)) av)))) (bq _)) (aD (aN (aB (af 5) ao))) bp))) (aD (aN ao))))
theorem B4:Cal .(o) P w K mg base "_law_near" 5 2 kY:=
 V.d45.cal (k:=1) nF .(b) fun f cdv A outer s H E hr=>
  (aC (rh (bV (a7 hr) (af 0) (af 3)) (cT (n:=2) rfl (bG (aL 5 nF.nd) (bG (aL 6 nF.nd) cU)))) (aC (bo (bF (kf (gB hr)) (af 5) (aB (bV (a7 hr) (af 0) (af 4)) ao) (bq _)) (aD (aN cW)) bp) (aC (AA 7 8 rfl nF.nd (ah (af 3) (ah (af 4) av))) (aC (bo (bF eh (aB (bV (a7 hr) (af 0) (af 4)) ao) (af 6) (bq _)) (aD (AA 7 8 rfl nF.nd (ah (af 4) (ah (af 3) av)))) bp) (aC (a8 9 nF.nd (bL (bV (a7 hr) (af 1) (af 7)) (dC (Oz V) hr (ah (af 2) (ah (af 5) (ah (af 7) (ah (af 8) av)))) ln4))) (aD (aN (Ms (dJ (o8 (gB hr)) (aB (bV (a7 hr) (af 0) (af 7)) ao) (aB (bV (a7 hr) (af 0) (af 8)) ao) (bq _)) (fU (dJ eh (aB (bV (a7 hr) (af 0) (af 8)) ao) (af 9) (bq _)))))))))))
theorem Dm:Cal .(o) P w K mg base "_law_at_once" 4 1 kP:=
 V.d46.cal (k:=0) KD .(b) fun f cdv A outer s H E hr=>
  (aD (aN (eQ (dJ eh (aB (bV (a7 hr) (af 0) (af 2)) ao) (bV (a7 hr) (af 1) (af 3)) (bq _)) (fU (dJ eh (aB (bV (a7 hr) (af 0) (af 3)) ao) (bV (a7 hr) (af 1) (af 2)) (bq _))))))
theorem Jj:Cal .(o) P w K mg base "_law_pair_stands" 5 3 mi:=
 V.d47.cal (k:=2) Ck .(b) fun f cdv A outer s H E hr=>
  (aC (bo (bQ (dC (B4 V) hr (ah (af 0) (ah (af 1) (ah (af 2) (ah (af 3) (ah (af 4) av))))) ln5)) (aD (aN cW)) bp) (aC (b8 ca rfl (bu .(as)) (aL 5 Ck.nd) (aD (bo (DW.dt (gW (bF (o2 (a7 hr)) (af 3) (aB (af 5) ao) (by rfl)) (gU (bF (o2 (a7 hr)) (af 4) (aB (af 5) ao) (by rfl))))) (aD (bo (bQ (dC (Dm V) hr (ah (af 0) (ah (af 1) (ah (af 3) (ah (af 4) av)))) ln4)) (aD (aN cW)) bp)) bp))) (aD (aN cW))))
theorem Kl:Cal .(o) P w K mg base "_law_fits" 3 4 wP:=
 V.d48.cal (k:=3) vG .(b) fun f cdv A outer s H E hr=>
  (aC (a8 3 vG.nd (dC (xG V) hr (ah (af 0) .(W)) ln2)) (aC (bo (DW.dt (cL (bF kS (bV (a7 hr) (af 3) (af 2)) (aB (af 1) ao) (bq _)) (cL (bQ (dC (Da V) hr (ah (af 0) (ah (af 3) (ah (af 1) (ah (af 2) av)))) ln4)) (c6 (bQ (dC (z7 V) hr (ah (af 0) (ah (af 3) (ah (af 1) (ah (af 2) av)))) ln4)))))) (aD (aN cW)) bp) (aC (b8 ca rfl (wv (af 0)) (aL 4 vG.nd) (aD (bo (bF (kf (gB hr)) (af 4) (af 2) (bq _)) (aD (bo (b5 (bQ (dC (Jj V) hr (ah (af 0) (ah (af 3) (ah (af 1) (ah (af 2) (ah (af 4) av))))) ln5))) (aD (aN cW)) bp)) bp))) (aD (aN cW)))))
theorem Oi:Cal .(o) P w K mg base "_law_put" 4 5 sX:=
 V.d49.cal (k:=4) nW .(b) fun f cdv A outer s H E hr=>
  (aC (b8 ca rfl (bu .(as)) (cT (n:=2) rfl (bG (aL 4 nW.nd) (bG (aL 5 nW.nd) cU))) (aD (b8 ca rfl (Df rfl V.z_range (ah (af 3) (ah (bZ (tX rfl) rfl V.z_min (by rfl) (ah (aB (af 1) ao) (ah (bL (af 3) ao) av))) av))) (aL 6 nW.nd) (aC (yh 7 nW.nd rfl rfl V.z_dict (af 0)) (aC (kQ 7 (a7 hr) .(as) (b4 (ah (af 4) (ah (af 6) av)))) (n8 7 (aD (bo (bQ (dC (Kl V) hr (ah (af 7) (ah (af 1) (ah .(as) av))) ln3)) (aD (aN (af 7))) bp)))))))) (aC (yh 7 nW.nd rfl rfl V.z_dict (af 0)) (aC (kQ 7 (a7 hr) .(as) (b4 (ah (aB (aB .(as) ao) ao) (ah (af 3) av)))) (n8 7 (aD (aN (af 7)))))))
theorem JD:Cal .(o) P w K mg base "_law_built" 1 6 xT:=
 V.d50.cal (k:=5) pY .(b) fun f cdv A outer s H E hr=>
  (aC (a8 1 pY.nd Hm) (aC (b8 ca rfl (bu .(t)) (aL 2 pY.nd) (aC (a8 3 pY.nd (dC (OI V) hr (ah (af 0) (ah (dC (xG V) hr (ah (af 1) (ah (af 0) av)) ln2) (ah .(as) av))) ln3)) (aD (a8 1 pY.nd (dC (Oi V) hr (ah (af 1) (ah (af 0) (ah (af 2) (ah (af 3) av)))) ln4))))) (aD (aN (af 1)))))
theorem OS:Cal .(o) P w K mg base "_law_plan" 3 2 ug:=
 V.d51.cal (k:=1) o7 .(b) fun f cdv A outer s H E hr=>
  (aC (wy 3 o7.nd) (aC (b8 ca rfl (iT rfl V.z_enumerate .(as)) (cT (n:=2) rfl (bG (aL 4 o7.nd) (bG (aL 5 o7.nd) cU))) (aC (a8 6 o7.nd (dC (lK V) hr (ah (dC (iU V) hr (ah (af 0) (ah (bL (af 1) (af 4)) av)) ln2) (ah (bL (af 4) ao) (ah (DO.de (cx (ah (bZ fA rfl V.z_len (by rfl) (ah (aB (af 5) ao) av)) (ah ao (ah ao av))))) av))) ln3)) (aD (kQ 3 (a7 hr) (aB (af 5) ao) (b4 (ah (aB (aB (aB (af 5) ao) (aB (af 6) ao)) ao) (ah (c0 (aB (af 6) ao) (bL .(as) ao)) av))))))) (n8 3 (aD (aN (af 3))))))
theorem Gg:Cal .(o) P w K mg base "_law_changed" 3 2 tY:=
 V.d52.cal (k:=1) iI .(b) fun f cdv A outer s H E hr=>
  (aC (yh 3 iI.nd rfl rfl V.z_dict (af 0)) (aC (b8 ca rfl (nE rfl V.z_range (ah (c0 (af 2) ao) av)) (aL 4 iI.nd) (aC (a8 5 iI.nd (dC (lK V) hr (ah (lF (af 2) ao) (ah (af 4) (ah (DO.de (cx (ah (bZ fA rfl V.z_len (by rfl) (ah (aB (af 1) ao) av)) (ah ao (ah ao (ah (bZ fA rfl V.z_len (by rfl) (ah (aB (af 1) ao) av)) av)))))) av))) ln3)) (aC (rh (aB (aB (af 1) ao) (aB (af 5) ao)) (cT (n:=3) rfl (bG (aL 6 iI.nd) (bG (aL 7 iI.nd) (bG (aL 8 iI.nd) cU))))) (aD (bo (Qf 3 (bF (x8 (a7 hr)) (af 6) (af 3) (by rfl))) (aC (rh (Hv 3 (a7 hr) (af 6)) (cT (n:=2) rfl (bG (aL 9 iI.nd) (bG (aL 10 iI.nd) cU)))) (aC (a8 11 iI.nd (DO.de (cx (ah (b4 (ah (af 9) (ah (li (bL (af 10) (aB (af 5) ao)) ao) av))) (ah (b4 (ah (af 9) (ah (bL (af 10) ao) av))) (ah (b4 (ah (af 9) (ah (li (af 10) ao) av))) (ah (b4 (ah (aB (aB (aB (af 1) ao) (aB (af 5) ao)) ao) (ah (af 10) av))) av))))))) (aC (a8 11 iI.nd (bL (af 11) (DO.de (cx (ah (b4 (ah (aB (aB (af 8) (GK ao)) ao) (ah (bZ (tP rfl) rfl V.z_max (by rfl) (ah ao (ah (li (af 10) ao) av))) av))) (ah (b4 (ah cH (ah (af 10) av))) (ah (b4 (ah (af 9) (ah (li (aB (af 1) ao) (c0 (aB (af 5) ao) ao)) av))) av))))))) (aC (kQ 3 (a7 hr) (af 6) (aB (af 11) (aB (af 5) ao))) (aC (bo (DW.dt (gW (bF fB (aB (af 5) ao) ao (bq _)) (gU (bF fB (aB (af 5) ao) ao (bq _))))) (aD (Gv 3 (af 6))) bp) (aD (bo (DW.dt (gW (bF fB (aB (af 5) ao) ao (bq _)) (gU (bF fB (aB (af 5) ao) ao (bq _))))) (aC (kQ 3 (a7 hr) (bL cH (gR cH (c0 (af 2) ao))) (b4 (ah (af 9) (ah (af 10) av)))) (aD (kQ 3 (a7 hr) (fm cH fG (eR (bL ao (c0 (lF (af 2) ao) ao)))) (b4 (ah (af 9) (ah (af 10) av)))))) bp))))))) bp))))) (n8 3 (aD (aN (af 3))))))
theorem nO:CalM .(o) P w K mg base "Shop" "step_names" 1 1 j2:=
 DfnM.cal (k:=0) V.O_Shop V.d53 G8 .(b) fun f cdv A outer s H E hr=>
  (aD (aN (DO.de (cu rfl .(m) (FvOk.of (N':=["row"]) (fv:=[ab]) rfl) (bu (jG V.cf_Shop (.tail _ (.head _)) (af 0))) ⟨fun _ _ _ _ _=>⟨.(Y),cq,.(t)⟩⟩))))
theorem MW:Cal .(o) P w K mg base "broken_step" 2 2 xw:=
 V.d54.cal (k:=1) t8 .(b) fun f cdv A outer s H E hr=>
  (aC (a8 2 t8.nd (jC (nO V) hr .(g) (af 0))) (aC (b8 ca rfl (bu (af 2)) (aL 3 t8.nd) (aD (bo (bF (AQ (a7 hr)) (af 3) (af 1) (by rfl)) (aD (aN (b4 (ah cH (ah (af 3) av))))) bp))) (aC (jp 4 t8.nd rfl .(m) (FvOk.of (N':=["name","names"]) (fv:=[ab,aa 2]) rfl) (wv (af 1)) ⟨fun _ _ _ _ _=>⟨(aL 0 (show(["name","names"]:ac ak).Nodup by decide +kernel)),(ko (bF (uf (a7 hr)) (af 0) (af 1) (by rfl))),(af 0)⟩⟩) (aC (bo (bF kS (bZ fA rfl V.z_len (by rfl) (ah (af 4) av)) ao (bq _)) (aD (aN (b4 (ah cH (ah (bZ (KZ rfl) rfl V.z_min (by rfl) (ah (af 4) av)) av))))) bp) (aD (aN dD))))))
theorem Ml:CalM .(o) P w K mg base "Shop" "ways_of" 2 9 t4:=
 DfnM.cal (k:=8) V.O_Shop V.d55 Mw .(b) fun f cdv A outer s H E hr=>
  (aD (aN (dC (gc V) hr (ah (aB (bV (a7 hr) (jG V.cf_Shop (.tail _ (.tail _ .(p))) (af 0)) (af 1)) ao) av) ln1)))
theorem Cs:Cal .(o) P w K mg base "length_on" 3 10 o3:=
 V.d56.cal (k:=9) xq .(b) fun f cdv A outer s H E hr=>
  (aC (b8 ca rfl (bu (ou (Ml V) hr .(g) (af 0) .(W) ln1)) (cT (n:=2) rfl (bG (aL 3 xq.nd) (bG (aL 4 xq.nd) cU))) (aD (bo (bF (o8 (gB hr)) (af 3) (af 2) (bq _)) (aD (aN (af 4))) bp))) (aD (aN dD)))
theorem Qo:CalM .(o) P w K mg base "Shop" "last_moment" 1 1 sO:=
 DfnM.cal (k:=0) V.O_Shop V.d57 GA .(b) fun f cdv A outer s H E hr=>
  (aD (aN (jG V.cf_Shop .(p) (af 0))))
theorem GR:Cal .(o) P w K mg base "broken_way" 2 11 xi:=
 V.d58.cal (k:=10) tD .(b) fun f cdv A outer s H E hr=>
  (aC (b8 ca rfl (bu (jC (nO V) hr .(g) (af 0))) (aL 2 tD.nd) (aC (a8 3 tD.nd (aB (bV (a7 hr) (af 1) (af 2)) ao)) (aC (a8 4 tD.nd (dC (Cs V) hr (ah (af 0) (ah (af 2) (ah (aB (bV (a7 hr) (af 1) (af 2)) ao) av))) ln3)) (aD (bo (DW.dt (cL (bF j3 (af 4) dD (bq _)) (cL (bF eh (af 3) ao (bq _)) (c6 (bF kS (bL (af 3) (af 4)) (jC (Qo V) hr .(g) (af 0)) (bq _)))))) (aD (aN (b4 (ah cH (ah (af 2) av))))) bp))))) (aD (aN dD)))
theorem OM:Cal .(o) P w K mg base "ends_of" 2 11 wJ:=
 V.d59.cal (k:=10) sV .(b) fun f cdv A outer s H E hr=>
  (aC (wy 2 sV.nd) (aC (b8 ca rfl (bu (jC (nO V) hr .(g) (af 0))) (aL 3 sV.nd) (aC (a8 4 sV.nd (bV (a7 hr) (af 1) (af 3))) (aD (kQ 2 (a7 hr) (af 3) (bL (aB (af 4) ao) (dC (Cs V) hr (ah (af 0) (ah (af 3) (ah (aB (af 4) ao) av))) ln3)))))) (n8 2 (aD (aN (af 2))))))
theorem GH:CalM .(o) P w K mg base "Shop" "job_of" 2 9 xf:=
 DfnM.cal (k:=8) V.O_Shop V.d60 Nn .(b) fun f cdv A outer s H E hr=>
  (aD (aN (dC (gc V) hr (ah (Jl (a7 hr) (jG V.cf_Shop (.tail _ (.tail _ (.tail _ (.tail _ .(p))))) (af 0)) (af 1)) av) ln1)))
theorem Jg:Cal .(o) P w K mg base "broken_job" 3 10 yj:=
 V.d61.cal (k:=9) vR .(b) fun f cdv A outer s H E hr=>
  (aC (b8 ca rfl (bu (jC (nO V) hr .(g) (af 0))) (aL 3 vR.nd) (aC (a8 4 vR.nd (ou (GH V) hr .(g) (af 0) (ah (af 3) av) ln1)) (aD (bo (DW.dt (gW (bF vP (af 4) dD (bq _)) (gU (DW.dt (cL (bF eh (aB (bV (a7 hr) (af 1) (af 3)) ao) (aB (af 4) ao) (bq _)) (c6 (bF kS (bV (a7 hr) (af 2) (af 3)) (aB (af 4) ao) (bq _)))))))) (aD (aN (b4 (ah cH (ah (af 3) av))))) bp)))) (aD (aN dD)))
theorem Hu:CalM .(o) P w K mg base "Shop" "breaks_of" 2 9 xD:=
 DfnM.cal (k:=8) V.O_Shop V.d62 I0 .(b) fun f cdv A outer s H E hr=>
  (aD (aN (dC (gc V) hr (ah (aB (bV (a7 hr) (jG V.cf_Shop (.tail _ .(p)) (af 0)) (af 1)) ao) av) ln1)))
theorem ND:Cal .(o) P w K mg base "broken_break" 3 10 wd:=
 V.d63.cal (k:=9) tz .(b) fun f cdv A outer s H E hr=>
  (aC (b8 ca rfl (bu (jC (nO V) hr .(g) (af 0))) (aL 3 tz.nd) (aC (a8 4 tz.nd (aB (bV (a7 hr) (af 1) (af 3)) ao)) (aC (a8 5 tz.nd (ou (Hu V) hr .(g) (af 0) (ah (aB (bV (a7 hr) (af 1) (af 3)) ao) av) ln1)) (aD (bo (bQ (bZ (GV rfl) rfl V.z_any (by rfl) (ah (DO.de (cu rfl .(m) (FvOk.of (N':=["begin","until","start","ends","step"]) (fv:=[ab,ab,aa 4,aa 2,aa 3]) rfl) (bu (af 5)) ⟨fun _ _ _ _ _=>⟨(cT (n:=2) rfl (bG (aL 0 (show(["begin","until","start","ends","step"]:ac ak).Nodup by decide +kernel)) (bG (aL 1 (show(["begin","until","start","ends","step"]:ac ak).Nodup by decide +kernel)) cU))),cq,(eQ (dJ eh (af 2) (af 1) (bq _)) (fU (dJ eh (af 0) (bV (a7 hr) (af 3) (af 4)) (bq _))))⟩⟩)) av))) (aD (aN (b4 (ah cH (ah (af 3) av))))) bp))))) (aD (aN dD)))
theorem De:Cal .(o) P w K mg base "pairs_of" 1 1 sG:=
 V.d64.cal (k:=0) ue .(b) fun f cdv A outer s H E hr=>
  (aC (iP 1 ue.nd (cx av)) (aC (b8 ca rfl (iT rfl V.z_enumerate (af 0)) (cT (n:=2) rfl (bG (aL 2 ue.nd) (bG (aL 3 ue.nd) cU))) (aD (vy 1 (DO.de (cu rfl .(m) (FvOk.of (N':=["other","one"]) (fv:=[ab,aa 3]) rfl) (bu (fm (af 0) (eR (bL (af 2) ao)) fG)) ⟨fun _ _ _ _ _=>⟨(aL 0 (show(["other","one"]:ac ak).Nodup by decide +kernel)),cq,(b4 (ah (af 1) (ah (af 0) av)))⟩⟩))))) (ia 1 (aD (aN (af 1))))))
theorem NT:CalM .(o) P w K mg base "Shop" "setup_of" 4 1 sS:=
 DfnM.cal (k:=0) V.O_Shop V.d65 Hg .(b) fun f cdv A outer s H E hr=>
  (aD (aN (yc (a7 hr) (jG V.cf_Shop (.tail _ (.tail _ (.tail _ .(p)))) (af 0)) (b4 (ah (af 1) (ah (af 2) (ah (af 3) av)))) ao)))
theorem BO:CalM .(o) P w K mg base "Shop" "kind_of" 2 1 nP:=
 DfnM.cal (k:=0) V.O_Shop V.d66 Nl .(b) fun f cdv A outer s H E hr=>
  (aD (aN (aB (bV (a7 hr) (jG V.cf_Shop (.tail _ (.tail _ .(p))) (af 0)) (af 1)) ao)))
theorem Gn:Cal .(o) P w K mg base "are_too_close" 5 2 sC:=
 V.d67.cal (k:=1) oh .(b) fun f cdv A outer s H E hr=>
  (aC (a8 5 oh.nd (af 3)) (aC (a8 6 oh.nd (af 4)) (aC (bo (bF eh (aB (bV (a7 hr) (af 1) (af 4)) ao) (aB (bV (a7 hr) (af 1) (af 3)) ao) (bq _)) (aC (a8 5 oh.nd (af 4)) (aD (a8 6 oh.nd (af 3)))) bp) (aC (a8 7 oh.nd (ou (NT V) hr .(g) (af 0) (ah (aB (bV (a7 hr) (af 1) (af 3)) ao) (ah (ou (BO V) hr .(g) (af 0) (ah (af 5) av) ln1) (ah (ou (BO V) hr .(g) (af 0) (ah (af 6) av) ln1) av))) ln3)) (aD (aN (dJ eh (aB (bV (a7 hr) (af 1) (af 6)) ao) (bL (bV (a7 hr) (af 2) (af 5)) (af 7)) (bq _))))))))
theorem Gu:Cal .(o) P w K mg base "broken_bench" 3 3 vX:=
 V.d68.cal (k:=2) yd .(b) fun f cdv A outer s H E hr=>
  (aC (b8 ca rfl (bu (dC (De V) hr (ah (jC (nO V) hr .(g) (af 0)) av) ln1)) (cT (n:=2) rfl (bG (aL 3 yd.nd) (bG (aL 4 yd.nd) cU))) (aD (bo (DW.dt (gW (bF (o8 (gB hr)) (aB (bV (a7 hr) (af 1) (af 3)) ao) (aB (bV (a7 hr) (af 1) (af 4)) ao) (bq _)) (gU (bQ (dC (Gn V) hr (ah (af 0) (ah (af 1) (ah (af 2) (ah (af 3) (ah (af 4) av))))) ln5))))) (aD (aN (b4 (ah cH (ah (af 3) (ah (af 4) av)))))) bp))) (aD (aN dD)))
theorem Ou:CalM .(o) P w K mg base "Shop" "job_rows" 1 9 wt:=
 DfnM.cal (k:=8) V.O_Shop V.d69 Ik .(b) fun f cdv A outer s H E hr=>
  (aD (aN (dC (gc V) hr (ah (jG V.cf_Shop (.tail _ (.tail _ (.head _))) (af 0)) av) ln1)))
theorem Jn:Cal .(o) P w K mg base "broken_apart" 3 10 vZ:=
 V.d70.cal (k:=9) nG .(b) fun f cdv A outer s H E hr=>
  (aC (b8 ca rfl (bu (jC (Ou V) hr .(g) (af 0))) (aL 3 nG.nd) (aD (b8 ca rfl (bu (dC (De V) hr (ah (aB (af 3) ao) av) ln1)) (cT (n:=2) rfl (bG (aL 4 nG.nd) (bG (aL 5 nG.nd) cU))) (aC (a8 6 nG.nd (dJ DJ (aB (bV (a7 hr) (af 1) (af 5)) ao) (bV (a7 hr) (af 2) (af 4)) (bq _))) (aC (a8 7 nG.nd (dJ DJ (aB (bV (a7 hr) (af 1) (af 4)) ao) (bV (a7 hr) (af 2) (af 5)) (bq _))) (aD (bo (DW.dt (gW (b5 (bQ (af 6))) (gU (DW.dt (cL (bQ (aB (af 3) ao)) (c6 (b5 (bQ (af 7))))))))) (aD (aN (b4 (ah cH (ah (af 4) (ah (af 5) av)))))) bp))))))) (aD (aN dD)))
theorem Mb:CalM .(o) P w K mg base "Shop" "link_rows" 1 9 wa:=
 DfnM.cal (k:=8) V.O_Shop V.d71 G6 .(b) fun f cdv A outer s H E hr=>
  (aD (aN (dC (gc V) hr (ah (jG V.cf_Shop (.tail _ (.tail _ (.tail _ (.tail _ (.head _))))) (af 0)) av) ln1)))
theorem Ig:Cal .(o) P w K mg base "broken_link" 3 10 wK:=
 V.d72.cal (k:=9) tN .(b) fun f cdv A outer s H E hr=>
  (aC (b8 ca rfl (bu (jC (Mb V) hr .(g) (af 0))) (cT (n:=3) rfl (bG (aL 3 tN.nd) (bG (aL 4 tN.nd) (bG (aL 5 tN.nd) cU)))) (aD (bo (bF eh (aB (bV (a7 hr) (af 1) (af 4)) ao) (bL (bV (a7 hr) (af 2) (af 3)) (af 5)) (bq _)) (aD (aN (b4 (ah cH (ah (af 3) (ah (af 4) av)))))) bp))) (aD (aN dD)))
theorem Oy:CalM .(o) P w K mg base "Shop" "stock_rows" 1 9 yb:=
 DfnM.cal (k:=8) V.O_Shop V.d73 FJ .(b) fun f cdv A outer s H E hr=>
  (aD (aN (dC (gc V) hr (ah (jG V.cf_Shop (.tail _ (.tail _ (.tail _ (.tail _ (.tail _ (.head _)))))) (af 0)) av) ln1)))
theorem JS:Cal .(o) P w K mg base "level_at" 4 1 tO:=
 V.d74.cal (k:=0) yg .(b) fun f cdv A outer s H E hr=>
  (aC (a8 4 yg.nd (bZ (AD rfl) rfl V.z_sum (by rfl) (ah (DO.de (cu rfl .(m) (FvOk.of (N':=["step","amount","moment","schedule"]) (fv:=[ab,ab,aa 3,aa 1]) rfl) (bu .(t)) ⟨fun _ _ _ _ _=>⟨(cT (n:=2) rfl (bG (aL 0 (show(["step","amount","moment","schedule"]:ac ak).Nodup by decide +kernel)) (bG (aL 1 (show(["step","amount","moment","schedule"]:ac ak).Nodup by decide +kernel)) cU))),(ko (bF f9 (aB (bV (a7 hr) (af 3) (af 0)) ao) (af 2) (bq _))),(af 1)⟩⟩)) av))) (aC (a8 5 yg.nd (bZ (AD rfl) rfl V.z_sum (by rfl) (ah (DO.de (cu rfl .(m) (FvOk.of (N':=["step","amount","moment","ends"]) (fv:=[ab,ab,aa 3,aa 2]) rfl) (bu .(t)) ⟨fun _ _ _ _ _=>⟨(cT (n:=2) rfl (bG (aL 0 (show(["step","amount","moment","ends"]:ac ak).Nodup by decide +kernel)) (bG (aL 1 (show(["step","amount","moment","ends"]:ac ak).Nodup by decide +kernel)) cU))),(ko (bF f9 (bV (a7 hr) (af 3) (af 0)) (af 2) (bq _))),(af 1)⟩⟩)) av))) (aD (aN (bL (li .(t) (af 4)) (af 5))))))
theorem OP:Cal .(o) P w K mg base "broken_stock" 3 10 xo:=
 V.d75.cal (k:=9) t9 .(b) fun f cdv A outer s H E hr=>
  (aC (b8 ca rfl (bu (jC (Oy V) hr .(g) (af 0))) (aL 3 t9.nd) (aC (Om 4 t9.nd rfl .(m) (FvOk.of (N':=["row","schedule"]) (fv:=[ab,aa 1]) rfl) (bu (aB (af 3) ao)) ⟨fun _ _ _ _ _=>⟨(aL 0 (show(["row","schedule"]:ac ak).Nodup by decide +kernel)),cq,(aB (bV (a7 hr) (af 1) .(t)) ao)⟩⟩) (aC (vy 4 (DO.de (cu rfl .(m) (FvOk.of (N':=["row","ends"]) (fv:=[ab,aa 2]) rfl) (bu (aB (af 3) ao)) ⟨fun _ _ _ _ _=>⟨(aL 0 (show(["row","ends"]:ac ak).Nodup by decide +kernel)),cq,(bV (a7 hr) (af 1) .(t))⟩⟩))) (ia 4 (aD (b8 ca rfl (bu (HI rfl rfl V.z_sorted rfl V.z_set (af 4))) (aL 5 t9.nd) (aD (bo (b5 (Bv f9 f9 ao (dC (JS V) hr (ah (af 3) (ah (af 1) (ah (af 2) (ah (af 5) av)))) ln4) (aB (af 3) ao))) (aD (aN (b4 (ah cH (ah (aB (af 3) ao) (ah (af 5) av)))))) bp)))))))) (aD (aN dD)))
theorem M3:Cal .(o) P w K mg base "first_broken" 2 12 om:=
 V.d76.cal (k:=11) jg .(b) fun f cdv A outer s H E hr=>
  (aC (a8 2 jg.nd (dC (MW V) hr (ah (af 0) .(W)) ln2)) (aC (bo (bF j3 (af 2) dD (bq _)) (aD (a8 2 jg.nd (dC (GR V) hr (ah (af 0) .(W)) ln2))) bp) (aC (bo (bF vP (af 2) dD (bq _)) (aD (aN (af 2))) bp) (aC (a8 3 jg.nd (dC (OM V) hr (ah (af 0) .(W)) ln2)) (aC (a8 2 jg.nd (dC (Jg V) hr (ah (af 0) (ah (af 1) (ah (af 3) av))) ln3)) (aC (bo (bF j3 (af 2) dD (bq _)) (aD (a8 2 jg.nd (dC (ND V) hr (ah (af 0) (ah (af 1) (ah (af 3) av))) ln3))) bp) (aC (bo (bF j3 (af 2) dD (bq _)) (aD (a8 2 jg.nd (dC (Gu V) hr (ah (af 0) (ah (af 1) (ah (af 3) av))) ln3))) bp) (aC (bo (bF j3 (af 2) dD (bq _)) (aD (a8 2 jg.nd (dC (Jn V) hr (ah (af 0) (ah (af 1) (ah (af 3) av))) ln3))) bp) (aC (bo (bF j3 (af 2) dD (bq _)) (aD (a8 2 jg.nd (dC (Ig V) hr (ah (af 0) (ah (af 1) (ah (af 3) av))) ln3))) bp) (aC (bo (bF j3 (af 2) dD (bq _)) (aD (a8 2 jg.nd (dC (OP V) hr (ah (af 0) (ah (af 1) (ah (af 3) av))) ln3))) bp) (aD (aN (af 2)))))))))))))
theorem IM:Cal .(o) P w K mg base "_law_crowded" 3 3 wf:=
 V.d77.cal (k:=2) pL .(b) fun f cdv A outer s H E hr=>
  (aC (jp 3 pL.nd rfl .(m) (FvOk.of (N':=["_law_step"]) (fv:=[ab]) rfl) (bu .(as)) ⟨fun _ _ _ _ _=>⟨(aL 0 (show(["_law_step"]:ac ak).Nodup by decide +kernel)),cq,.(t)⟩⟩) (aC (b8 ca rfl (iT rfl V.z_enumerate (af 3)) (cT (n:=2) rfl (bG (aL 4 pL.nd) (bG (aL 5 pL.nd) cU))) (aD (b8 ca rfl (bu (fm (af 3) (eR (bL (af 4) ao)) fG)) (aL 6 pL.nd) (aD (bo (bQ (dC (B4 V) hr (ah (af 0) (ah (af 1) (ah (af 2) (ah (af 5) (ah (af 6) av))))) ln5)) (aD (aN (DO.de (cx (ah (b4 (ah cH (ah (af 5) (ah (af 6) av)))) av))))) bp))))) (aD (aN (DO.de (cx av))))))
theorem Kh:Cal .(o) P w K mg base "_law_apart" 3 2 ud:=
 V.d78.cal (k:=1) sw .(b) fun f cdv A outer s H E hr=>
  (aC (b8 ca rfl (iT rfl V.z_enumerate .(as)) (cT (n:=2) rfl (bG (aL 3 sw.nd) (bG (aL 4 sw.nd) cU))) (aD (b8 ca rfl (bu (fm .(as) (eR (bL (af 3) ao)) fG)) (aL 5 sw.nd) (aC (bo (DW.dt (gW (bQ .(as)) (gU (bF eh (aB (bV (a7 hr) (af 0) (af 5)) ao) (bV (a7 hr) (af 1) (af 4)) (bq _))))) (aD (aN (DO.de (cx (ah (b4 (ah cH (ah (af 4) (ah (af 5) av)))) av))))) bp) (aD (bo (bQ (dC (Dm V) hr (ah (af 0) (ah (af 1) (ah (af 4) (ah (af 5) av)))) ln4)) (aD (aN (DO.de (cx (ah (b4 (ah cH (ah (af 4) (ah (af 5) av)))) av))))) bp)))))) (aD (aN (DO.de (cx av)))))
theorem PM:Cal .(o) P w K mg base "_law_links_broken" 3 1 x9:=
 V.d79.cal (k:=0) uG .(b) fun f cdv A outer s H E hr=>
  (aC (b8 ca rfl (bu .(as)) (cT (n:=3) rfl (bG (aL 3 uG.nd) (bG (aL 4 uG.nd) (bG (aL 5 uG.nd) cU)))) (aD (bo (bF eh (aB (bV (a7 hr) (af 0) (af 4)) ao) (bL (bV (a7 hr) (af 1) (af 3)) (af 5)) (bq _)) (aD (aN (DO.de (cx (ah (b4 (ah cH (ah (af 3) (ah (af 4) av)))) av))))) bp))) (aD (aN (DO.de (cx av)))))
theorem Io:Cal .(o) P w K mg base "_law_level" 4 1 p8:=
 V.d80.cal (k:=0) lC .(b) fun f cdv A outer s H E hr=>
  (aC (a8 4 lC.nd .(as)) (aC (b8 ca rfl (bu .(as)) (cT (n:=2) rfl (bG (aL 5 lC.nd) (bG (aL 6 lC.nd) cU))) (aD (a8 4 lC.nd (li (af 4) (gR (af 6) (gN um rfl V.z_int (by rfl) (ah (dJ f9 (aB (bV (a7 hr) (af 0) (af 5)) ao) (af 3) (bq _)) av))))))) (aC (b8 ca rfl (bu .(as)) (cT (n:=2) rfl (bG (aL 5 lC.nd) (bG (aL 6 lC.nd) cU))) (aD (a8 4 lC.nd (bL (af 4) (gR (af 6) (gN um rfl V.z_int (by rfl) (ah (dJ f9 (bV (a7 hr) (af 1) (af 5)) (af 3) (bq _)) av))))))) (aD (aN (af 4))))))
theorem F4:Cal .(o) P w K mg base "_law_stock" 3 2 xS:=
 V.d81.cal (k:=1) n5 .(b) fun f cdv A outer s H E hr=>
  (aC (a8 3 n5.nd (bL (DO.de (cx (ah ao av))) (OR rfl rfl V.z_list (af 1)))) (aC (a8 3 n5.nd (bL (af 3) (DO.de (cu rfl .(m) (FvOk.of (N':=["_law_place"]) (fv:=[ab]) rfl) (Ja (af 0)) ⟨fun _ _ _ _ _=>⟨(aL 0 (show(["_law_place"]:ac ak).Nodup by decide +kernel)),cq,.(t)⟩⟩)))) (aC (b8 ca rfl (bu .(as)) (aL 4 n5.nd) (aD (b8 ca rfl (bu (bZ JC rfl V.z_sorted (by rfl) (ah (af 3) av))) (aL 5 n5.nd) (aC (a8 6 n5.nd (dC (Io V) hr (ah (af 0) (ah (af 1) (ah (af 4) (ah (af 5) av)))) ln4)) (aD (bo (DW.dt (cL (bF eh (af 6) ao (bq _)) (c6 (bF kS (af 6) (aB (af 4) ao) (bq _))))) (aD (aN (DO.de (cx (ah (b4 (ah cH (ah (aB (af 4) ao) (ah (af 5) av)))) av))))) bp)))))) (aD (aN (DO.de (cx av)))))))
theorem Gy:Cal .(o) P w K mg base "_law_wishes" 2 4 uv:=
 V.d82.cal (k:=3) kh .(b) fun f cdv A outer s H E hr=>
  (aC (a8 2 kh.nd (dC (xG V) hr (ah (af 0) .(W)) ln2)) (aC (jp 3 kh.nd rfl .(m) (FvOk.of (N':=["_law_step"]) (fv:=[ab]) rfl) (bu (aB (af 1) ao)) ⟨fun _ _ _ _ _=>⟨(aL 0 (show(["_law_step"]:ac ak).Nodup by decide +kernel)),cq,.(t)⟩⟩) (aC (jp 4 kh.nd rfl .(m) (FvOk.of (N':=["_law_name_here","_law_plan_here","_law_ends_here","_law_lists_here"]) (fv:=[ab,aa 0,aa 2,aa 1]) rfl) (bu (af 3)) ⟨fun _ _ _ _ _=>⟨(aL 0 (show(["_law_name_here","_law_plan_here","_law_ends_here","_law_lists_here"]:ac ak).Nodup by decide +kernel)),(ko (bQ (dC (z7 V) hr (ah (af 1) (ah (af 2) (ah (af 3) (ah (af 0) av)))) ln4))),(b4 (ah cH (ah (af 0) av)))⟩⟩) (aC (a8 4 kh.nd (bL (af 4) (DO.de (cu rfl .(m) (FvOk.of (N':=["_law_name_here","_law_plan_here","_law_ends_here","_law_lists_here"]) (fv:=[ab,aa 0,aa 2,aa 1]) rfl) (bu (af 3)) ⟨fun _ _ _ _ _=>⟨(aL 0 (show(["_law_name_here","_law_plan_here","_law_ends_here","_law_lists_here"]:ac ak).Nodup by decide +kernel)),(ko (bQ (dC (Da V) hr (ah (af 1) (ah (af 2) (ah (af 3) (ah (af 0) av)))) ln4))),(b4 (ah cH (ah (af 0) av)))⟩⟩)))) (aC (a8 4 kh.nd (bL (af 4) (dC (IM V) hr (ah (af 0) (ah (af 2) .(W))) ln3))) (aC (b8 ca rfl (bu (aB (af 1) ao)) (aL 5 kh.nd) (aD (a8 4 kh.nd (bL (af 4) (dC (Kh V) hr (ah (af 0) (ah (af 2) (ah (af 5) av))) ln3))))) (aC (a8 4 kh.nd (bL (af 4) (dC (PM V) hr (ah (af 0) (ah (af 2) .(W))) ln3))) (aD (aN (bL (af 4) (dC (F4 V) hr (ah (af 0) (ah (af 2) .(W))) ln3)))))))))))
theorem Gr:Cal .(o) P w K mg base "_law_due" 2 5 mB:=
 V.d83.cal (k:=4) jK .(b) fun f cdv A outer s H E hr=>
  (aC (a8 2 jK.nd (DO.de (cu rfl .(m) (FvOk.of (N':=["_law_step"]) (fv:=[ab]) rfl) (bu (aB (af 1) ao)) ⟨fun _ _ _ _ _=>⟨(aL 0 (show(["_law_step"]:ac ak).Nodup by decide +kernel)),cq,.(t)⟩⟩))) (aC (jp 3 jK.nd rfl .(m) (FvOk.of (N':=["_law_name_here","_law_plan_here"]) (fv:=[ab,aa 0]) rfl) (bu (af 2)) ⟨fun _ _ _ _ _=>⟨(aL 0 (show(["_law_name_here","_law_plan_here"]:ac ak).Nodup by decide +kernel)),(ko (bF (AQ (a7 hr)) (af 0) (af 1) (by rfl))),(af 0)⟩⟩) (aC (a8 4 jK.nd (bZ M0 rfl V.z_sorted (by rfl) (ah (DO.de (cu rfl .(m) (FvOk.of (N':=["_law_name_here","_law_names"]) (fv:=[ab,aa 2]) rfl) (wv (af 0)) ⟨fun _ _ _ _ _=>⟨(aL 0 (show(["_law_name_here","_law_names"]:ac ak).Nodup by decide +kernel)),(ko (bF (uf (a7 hr)) (af 0) (af 1) (by rfl))),(af 0)⟩⟩)) av))) (aC (bo (bF (kf (gB hr)) (bL (af 3) (af 4)) (DO.de (cx av)) (bq _)) (aD (aN (b4 (ah cH (ah (aB (bL (af 3) (af 4)) ao) av))))) bp) (aC (b8 ca rfl (bu (aB (af 1) ao)) (cT (n:=3) rfl (bG (aL 5 jK.nd) (bG (aL 6 jK.nd) (bG (aL 7 jK.nd) cU)))) (aC (rh (bV (a7 hr) (af 0) (af 5)) (cT (n:=2) rfl (bG (aL 8 jK.nd) (bG (aL 9 jK.nd) cU)))) (aC (a8 10 jK.nd (yc (a7 hr) (gN (nC rfl (a7 hr)) rfl V.z_dict (by rfl) (ah (af 7) av)) (af 8) ao)) (aD (bo (DW.dt (cL (bF fB (af 10) ao (bq _)) (cL (bF eh (af 9) ao (bq _)) (c6 (bF kS (bL (af 9) (af 10)) (aB (af 1) ao) (bq _)))))) (aD (aN (b4 (ah cH (ah (af 5) av))))) bp))))) (aD (aN (aB (bL (dC (Gy V) hr (ah (af 0) .(W)) ln2) (DO.de (cx (ah dD av)))) ao))))))))
theorem O8  (f:aw) (cdv:Value) (A:eB) (outer:ac dc) (s:aI) (H:Hp) (E:XK) (hr:Room 12 (A.deeper (fy "law" (aS (top 96)) s.heap.objs.size f cdv))):DSs .(o) (ii CX0 P w K mg base ["_law_script","_law_horizon","_law_lists_here","_law_shop_here","_law_plan_here","_law_cell_here","_law_made","_law_handed","_law_found","_law_due_here"] "law" (aS (top 96)) f cdv A outer s H E).nox (eU (top 96)) Bx:=
  (aC (a8 1 i4.nd (bL ao (c0 (dC (iU V) hr (ah (af 0) (ah ao av)) ln2) ao))) (aC (a8 2 i4.nd (dC (IQ V) hr (ah (af 0) (ah (bL ao (c0 (dC (iU V) hr (ah (af 0) (ah ao av)) ln2) ao)) (ah (af 1) (ah ao av)))) ln4)) (aC (a8 3 i4.nd (dC (HN V) hr (ah (af 2) av) ln1)) (aC (a8 4 i4.nd (dC (JD V) hr (ah (af 2) av) ln1)) (aC (bo (bF fB (c0 (dC (iU V) hr (ah (af 0) (ah ao av)) ln2) ao) ao (bq _)) (aD (a8 4 i4.nd (dC (OS V) hr (ah (af 0) (ah ao (ah (af 2) av))) ln3))) bp) (aC (b8 ca rfl (bu (bL (bL (DO.de (cx (ah ao av))) (fm (af 0) (eR ao) (eR ao))) (DO.de (cx (ah ao av))))) (aL 5 i4.nd) (aC (a8 6 i4.nd (dC (Gg V) hr (ah (af 4) (ah (af 2) (ah (af 5) av))) ln3)) (aC (a8 7 i4.nd (gN (L4 rfl) rfl V.z_dict (by rfl) (ah (af 6) av))) (aC (a8 8 i4.nd (dC (M3 V) hr (ah (af 3) (ah (af 7) av)) ln2)) (aC (a8 9 i4.nd (dC (Gr V) hr (ah (af 6) (ah (af 2) av)) ln2)) (aD (bo (DW.dt (cL (bF (kf (gB hr)) (af 8) (af 9) (bq _)) (cL (bF (kf (gB hr)) (dJ j3 (af 8) dD (bq _)) (dJ j3 (af 9) dD (bq _)) (bq _)) (c6 (bF (Qa (a7 hr)) (af 7) (af 6) (bq _)))))) (aD (aN cW)) bp))))))) (aD (aN cW))))))))
end
theorem i2:gf "int" "int"=aa ai:=rfl
theorem i3:gf "int" "bool"=aa aq:=rfl
theorem i5:gf "bool" "bool"=aa ai:=rfl
theorem k1:gf "list" "list"=aa ai:=rfl
theorem k2:gf "tuple" "list"=aa aq:=rfl
theorem k3:gf "tuple" "tuple"=aa ai:=rfl
theorem k4:gf "str" "list"=aa aq:=rfl
theorem k5:gf "str" "tuple"=aa aq:=rfl
theorem k6:gf "int" "list"=aa aq:=rfl
theorem k7:gf "int" "tuple"=aa aq:=rfl
theorem k8:gf "bool" "list"=aa aq:=rfl
theorem k9:gf "bool" "tuple"=aa aq:=rfl
theorem k10:gf "NoneType" "list"=aa aq:=rfl
theorem k11:gf "NoneType" "tuple"=aa aq:=rfl
theorem sz1:(1<=aV)=True:=by simp[aV]
theorem sz2:(1+1<=aV)=True:=by simp[aV]
theorem sz3:(1+1+1<=aV)=True:=by simp[aV]
theorem sz4:(1+1+1+1<=aV)=True:=by simp[aV]
theorem sz5:(1+1+1+1+1<=aV)=True:=by simp[aV]
theorem sz6:(1+1+1+1+1+1<=aV)=True:=by simp[aV]
theorem sz7:(1+1+1+1+1+1+1<=aV)=True:=by simp[aV]
section
variable {x0 x1 x2 x3 x4:D} {r:ac D}
theorem lz (l:ac α) (n:al):atI l (n:ag)=l[n]?:=by
 unfold atI ixN;rw[qX .(f)];by_cases h:n<l.length
 .rw[qX .(f)];simp
 .rw[qY .(f)];simp;omega
theorem cJ:ixD (.tup (x0::r)) (.int 0)=aa x0:=lz _ 0
theorem cB:ixD (.tup (x0::x1::r)) (.int 1)=aa x1:=lz _ 1
theorem gT:ixD (.tup (x0::x1::x2::r)) (.int 2)=aa x2:=lz _ 2
theorem i0:ixD (.tup (x0::x1::x2::x3::r)) (.int 3)=aa x3:=lz _ 3
theorem fF:ixD (.tup (x0::x1::x2::x3::x4::r)) (.int 4)=aa x4:=lz _ 4
end
theorem vW {fe:FE} {r:bj} {f:D->D}:∀{xs:ac D} {a:ar Slot},(∀x∈xs,fe (oS x::r)=aa (f x))->ga (ay 0) tT fe xs (a::r)=aa (xs.map f)
 |[],_,_=>rfl
 |x::xs,a,h=>by have h1:=h x qh;have ih:=vW (xs:=xs) (a:=oS x) fun y hy=>h y (qi _ hy);simp only[ga,ay,oW,qc,tT,cA,h1,ih,qf,qo]
theorem BD:∀{l:ac D},(∀x∈l,x=.bl ai)->∃bs:ac aX,jo l=aa bs/\bs.all id=ai
 |[],_=>⟨[],rfl,rfl⟩
 |x::r,h=>by obtain⟨bs,h1,h2⟩:=BD (l:=r) fun y hy=>h y (qi _ hy);have hx:=h x qh;subst hx;exact⟨ai::bs,by simp[jo,h1],by simpa using h2⟩
theorem hZ {r:bj} {a:ar Slot} (h1:fi ρ=aa xs) (h2:xs.length<=aV) (h3:fu fv ρ=a::r) (h:∀x∈xs,fe (oS x::r)=aa (.bl ai)) :
  cF fC (ae (aH (a9 fi (ay 0) tT fe fv)) aj) ρ=aa (.bl ai):=by
 have c:=vW (a:=a) (f:=fun _=>.bl ai) h;obtain⟨bs,e1,e2⟩:=BD (l:=xs.map fun _=>D.bl ai) (by simp);simp only[cF,ae,aj,aH,a9,h1,qc,qX h2,h3,c,qf,fC,e1];simpa using e2
theorem ic {r:bj} {a:ar Slot} {f:D->D} (h1:fi ρ=aa xs) (h2:xs.length<=aV) (h3:fu fv ρ=a::r) (h:∀x∈xs,fe (oS x::r)=aa (f x)) :
  aH (a9 fi (ay 0) tT fe fv) ρ=aa (.lst (xs.map f)):=by
 simp only[aH,a9,h1,qc,qX h2,h3,vW (a:=a) h,qf]
theorem dv (I:al->bj->Prop) (h0:I 0 ρ) (hs:∀i x ρ,xs[i]?=aa x->I i ρ->∃ρ1 ρ2,gg x ρ=aa ρ1/\body ρ1=aa (.nx,ρ2)/\I (i+1) ρ2) :
  ∃ρ',fz gg body xs ρ=aa (.nx,ρ')/\I xs.length ρ':=by
 have key:∀(ys:ac D) (k:al) (ρ:bj),xs.drop k=ys->I k ρ->∃ρ',fz gg body ys ρ=aa (.nx,ρ')/\I (k+ys.length) ρ':=by
  intro ys
  induction ys with
  |nil=>intro k ρ _ hk;exact⟨ρ,rfl,hk⟩
  |cons y r ih=>
   intro k ρ hd hk;have hy:xs[k]?=aa y:=by
    have:(xs.drop k)[0]?=aa y:=by rw[hd];rfl
    simpa using this
   obtain⟨ρ1,ρ2,h1,h2,h3⟩:=hs k y ρ hy hk;have hd':xs.drop (k+1)=r:=by rw[←List.drop_drop,hd];rfl
   obtain⟨ρ',h4,h5⟩:=ih (k+1) ρ2 hd' h3;refine⟨ρ',?_,by rw[qj];rwa [show k+1+r.length=k+(r.length+1) by omega] at h5⟩;simp only[fz,h1,qc,h2,h4]
 obtain⟨ρ',h1,h2⟩:=key xs 0 ρ rfl h0;exact⟨ρ',h1,by rwa [jS] at h2⟩
theorem BY:(2:ag) ^ 62=4611686018427387904:=by decide +kernel
theorem Ap {i j:ag} (h:0<=i/\i<=1000000/\0<=j/\j<=1000000):lG [.int i,.int j]=aa ((cP (j-i).toNat).map fun k:al=>D.int (i+k)):=by unfold lG;rw[BY];exact qX ⟨by omega,by omega,by omega,by omega⟩
theorem nT {j:ag} (h:0<=j/\j<=1000000):gr [.int j]=aa ((cP j.toNat).map fun i:al=>D.int (0+i)):=by unfold gr;rw[BY];exact qX ⟨by omega,by omega⟩
theorem mI {g:ac D->ar (ac D)} {r:ac D} (h1:fr ρ=aa ds) (h2:g ds=aa r):itR g fr ρ=aa r:=by unfold itR;rw[h1];exact h2
theorem au {g:D->D->ar D} {x:D} (h1:fa ρ=aa x) (h2:fb ρ=aa y) (h3:g x y=aa z):b2 g fa fb ρ=aa z:=by unfold b2;rw[h1,qc,h2,qc];exact h3
theorem aU {g:FQ} (h1:fr ρ=aa ds) (h2:g ds=aa z):cF g fr ρ=aa z:=by unfold cF;rw[h1];exact h2
theorem aA (h1:f ρ=aa d) (h2:fr ρ=aa ds):ae f fr ρ=aa (d::ds):=by unfold ae;rw[h1,qc,h2];rfl
theorem aO :aj ρ=aa []:=rfl
theorem wX (h:g (ds.map (fun d=>aa (Slot.sh d))++ce n ab)=aa (.rt d,ρ')):aY n g ds=aa d:=by unfold aY;rw[h];rfl
theorem bM (ρ:bj) (e:ds.map (fun d=>aa (Slot.sh d))++ce n ab=ρ) (h:g ρ=aa (.rt d,ρ')):aY n g ds=aa d:=by subst e;exact wX h
theorem bS (h:f ρ=aa d):aE f ρ=aa (.rt d,ρ):=by unfold aE;rw[h];rfl
theorem a5 {b:aX} (h:f ρ=aa (.bl b)):toB f ρ=aa b:=by unfold toB;rw[h];rfl
theorem mD {A:FE} {X E:FS} (hA:A ρ=aa (.bl ai)):ax (sIf (bC (toB A)) X aP) E ρ=E ρ:=by simp only[ax,sIf,bC,a5 hA,qf,qc,iA,qr,c4,aP]
theorem iQ {A:FE} {X E:FS} (hA:A ρ=aa (.bl ai)) (hB:B ρ=aa (.bl ai)):ax (sIf (orT (bC (toB A)) (bC (toB B))) X aP) E ρ=E ρ:=by simp only[ax,sIf,orT,bC,a5 hA,a5 hB,qf,qc,iA,qr,c4,aP]
theorem Lc {A C:FE} {X E:FS} (hA:A ρ=aa (.bl ai)) (hB:B ρ=aa (.bl ai)) (hC:C ρ=aa (.bl ai)):ax (sIf (orT (bC (toB A)) (orT (bC (toB B)) (bC (toB C)))) X aP) E ρ=E ρ:=by simp only[ax,sIf,orT,bC,a5 hA,a5 hB,a5 hC,qf,qc,iA,qr,c4,aP]
theorem BX {A:FE} (hA:A ρ=aa (.bl ai)) (hB:B ρ=aa (.bl ai)):cE A B ρ=aa (.bl ai):=by simp only[cE,hA,hB,qc]
theorem aZ (h:f ρ=aa d):ax (aG i f) g ρ=g (ρ.set i (oS d)):=by simp only[ax,aG,h,qf,qc]
theorem Im (i:ag):sY [.int i]=aa (.bl ai):=by simp only[sY,aY,aE,cE,sP,cF,ae,aj,vSh,vC,dZ,tyD,qo,qN,qq,qQ,ce,qd,qc,qf,lY,i2,i3]
theorem iS (i a b:ag) (h:a<=i/\i<=b):gE [.int i,.int a,.int b]=aa (.bl ai):=by simp only[gE,Im,aY,aE,cE,cF,ae,aj,vSh,chD,leD,qo,qN,qq,qQ,ce,qd,qe,qc,qf,qR h.1,qR h.2]
theorem ji (l:ac D) (a b:ag) (h:a<=l.length/\(l.length:ag)<=b):gO [.lst l,.int a,.int b]=aa (.bl ai):=by simp only[gO,aY,aE,cE,cF,ae,aj,vSh,vC,chD,dZ,tyD,b9,leD,qo,qN,qq,qQ,ce,qd,qe,qc,qf,k1,qR h.1,qR h.2]
theorem sM (l:ac D) (n:ag) (h:(l.length:ag)=n):fT [.tup l,.int n]=aa (.bl ai):=by simp only[fT,aY,aE,cE,cF,ae,aj,vSh,vC,b2,dZ,tyD,b9,eqD,eqS,qo,qN,qq,qQ,ce,qd,qe,qc,qf,k3,qR h]
section
variable {a b c e:D}
theorem uh:fT [.tup [a,b],.int 2]=aa (.bl ai):=sM _ _ rfl
theorem Ad:fT [.tup [a,b,c],.int 3]=aa (.bl ai):=sM _ _ rfl
theorem J7:fT [.tup [a,b,c,d],.int 4]=aa (.bl ai):=sM _ _ rfl
theorem By:fT [.tup [a,b,c,d,e],.int 5]=aa (.bl ai):=sM _ _ rfl
end
noncomputable def dIv (p:ag×ag):D:=.tup [.int p.1,.int p.2]
theorem J8 (p:ag×ag) (h:ag) (h1:0<=p.1) (h2:p.1<p.2) (h3:p.2<=h):t6 [dIv p,.int h]=aa (.bl ai):=by simp only[t6,dIv,aY,ax,sIf,aE,aP,orT,bC,toB,cF,ae,aj,vSh,vC,b2,ltD,cJ,cB,qo,qN,qq,qQ,ce,qd,qe,qc,qf,c4,iA,qr,uh,iS p.1 0 h ⟨h1,by omega⟩,iS p.2 0 h ⟨by omega,h3⟩,qR h2]
noncomputable def az (c:al):aX:=!ltS ⟨#[c]⟩ "a" && !ltS "z" ⟨#[c]⟩
theorem Np {c:al} (h:az c=ai):c<=122:=by
 have z:("z":ak)=⟨#[122]⟩:=by decide +kernel
 unfold az ltS at h;rw[z] at h;simp only[gI,Fn,Fp] at h;have h2:=h.2;rcases je 122 c with q|q
 .exact bN (show([122]:ac al) < [c] from List.Lex.rel q) h2
 .exact q
theorem HG (c:al) (r:bj):chD leD leD (vC (.str "a")) (vSh 0) (vC (.str "z")) (oS (.str ⟨#[c]⟩)::r)=aa (.bl (az c)):=by simp only[chD,vC,vSh,qd,qc,leD,az];cases ltS ⟨#[c]⟩ "a"<;>simp
noncomputable def bf (x:ak):aX:=decide (1<=x.length) && decide (x.length<=8) && x.cps.toList.all az
theorem Pt (h:bf x=ai):1<=x.length/\x.length<=8:=by unfold bf at h;simp only[gI,Rl] at h;exact h.1
theorem z9 (h:bf x=ai):∀c∈x.cps.toList,az c=ai:=by unfold bf at h;simp only[gI,rP] at h;exact h.2
theorem lc (h:bf x=ai):jt [.str x]=aa (.bl ai):=by
 obtain⟨h1,h2⟩:=Pt h;have hz:x.length<=aV:=by unfold aV;omega
 have hl:(x.cps.toList.map fun c=>D.str ⟨#[c]⟩).length<=aV:=by simpa[rF] using hz
 have e1:decide ((1:ag)<=(x.length:al))=ai:=qR .(f);have e2:decide (((x.length:al):ag)<=8)=ai:=qR .(f);have ha:=hZ (fi:=itS (vSh 0)) (fe:=chD leD leD (vC (.str "a")) (vSh 0) (vC (.str "z"))) (fv:=[ab]) (ρ:=[oS (.str x)]) (r:=[]) (a:=ab) (xs:=x.cps.toList.map fun c=>D.str ⟨#[c]⟩)
  (by simp[itS,vSh,wT]) hl rfl (fun y hy=>by obtain⟨c,hc,rfl⟩:=bw.mp hy;rw[HG,z9 h c hc])
 refine wX (ρ':=[oS (.str x)]) ((iQ ?_ ?_).trans (bS ha))
 .rfl
 .show chD leD leD .(c) (cF b9 .(T)) (vC (.int 8)) [oS (.str x)]=_;simp only[cF,ae,aj,vSh,vC,chD,b9,leD,qd,qc,qf,qX hz,e1,e2]
theorem o9 (h:bf x=ai):Se x=ai:=by unfold Se;rw[Array.all_eq_true'];intro c hc;have:=Np (z9 h c (by simpa using hc));exact qR .(f)
theorem su:∀(ns:ac ak),gm (ns.map D.str)=aa (ns.map fN)
 |[]=>by simp[gm]
 |x::r=>by simp[gm,pdD,su r]
theorem kO:∀{ns:ac ak},(∀x∈ns,bf x=ai)->jQ (ns.map fN)=ai
 |[],_=>by simp[jQ]
 |x::r,h=>by simp only[qo,jQ,jT,o9 (h x qh),vm];exact kO fun y hy=>h y (qi _ hy)
theorem D1 (x:ak):∀(ns:ac ak),((ns.map fN).any fun z=>hV z (.str x))=decide (x∈ns)
 |[]=>by simp
 |y::r=>by
  have ih:=D1 x r;rw[qo,kF,ih];simp only[hV];by_cases e:y=x
  .subst e;simp
  .have:x≠y:=fun z=>e z.symm;simp[e,this]
theorem oA (hx:bf x=ai) (hn:∀y∈ns,bf y=ai):fE (.str x) (.lst (ns.map D.str))=aa (.bl (decide (x∈ns))):=by
 have sh:dH (.str x)=ai:=by simp[dH,jT,o9 hx,kL]
 simp only[fE,inX,pdD,su,qf,qc,sh,kO hn,vq,cA,D1]
theorem oj (hx:x∈ns) (hn:∀y∈ns,bf y=ai):j1 [.str x,.lst (ns.map D.str)]=aa (.bl ai):=by simp only[j1,aY,aE,cE,cF,ae,aj,vSh,b2,qo,qN,qq,qQ,ce,qd,qe,qc,qf,lc (hn x hx),oA (hn x hx) hn,qR hx]
theorem DY [er κ] {l:ac κ} (h:l.Nodup):ST.dd l=l:=by
 have key:∀(l a:ac κ),(a++l).Nodup->l.foldl (fun a k=>if k∈a then a else a++[k]) a=a++l:=by
  intro l
  induction l with
  |nil=>intro a _;simp
  |cons x r ih=>
   intro a hn;have hx:x∉a:=by intro z;rw[kM] at hn;exact hn.2.2 x z x qh rfl
   rw[jd,qY hx,ih (a++[x]) (by simpa using hn)];simp
 simpa[ST.dd] using key l [] (by simpa using h)
theorem uF:∀(ns:ac ak),gy (ns.map D.str)=aa (ns.map cz)
 |[]=>by simp[gy]
 |x::r=>by simp[gy,gF,uF r]
theorem my (h:ns.Nodup) (hl:ns.length<=300):fD [.lst (ns.map D.str)]=aa (.bl ai):=by have hd:(ns.map (cz:ak->Key)).Nodup:=oX _ (fun a b hab z=>hab (gH z)) h;simp only[fD,aY,aE,cF,ae,aj,vSh,b1,b2,b9,eqD,eqS,qo,qN,qq,qQ,ce,qd,qc,qf,oq,qg,qX hl,uF,DY hd];simp
theorem A4:∀(ts:ac (ac ak)),mL (ts.map fun t=>.tup (t.map D.str))=aa (ts.map fun t=>t.map cz)
 |[]=>by simp[mL]
 |t::r=>by simp[mL,uF,A4 r]
theorem C9 {ts:ac (ac ak)} (h:ts.Nodup) (hl:ts.length<=300):fD [.lst (ts.map fun t=>.tup (t.map D.str))]=aa (.bl ai):=by
 have inj:∀a b:ac ak,a.map (cz:ak->Key)=b.map cz->a=b:=fun a b z=>(Sf (fun x y q=>gH q)).mp z;have hd:(ts.map fun t=>t.map (cz:ak->Key)).Nodup:=oX _ (fun a b hab z=>hab (inj a b z)) h;cases ts with
 |nil=>simp only[fD,aY,aE,cF,ae,aj,vSh,b1,b2,b9,eqD,eqS,qo,qN,qq,qQ,ce,qd,qc,qf,qm,oq,gy,ST.dd];simp
 |cons t r=>
  have e:gy ((t::r).map fun t=>D.tup (t.map D.str))=ab:=by simp[gy,gF]
  simp only[fD,aY,aE,b2,b1,vSh,qo,qN,qq,qQ,ce,qd,qc,oq,cF,ae,aj,b9,qf];rw[qX (by simpa using hl)];have e':=e;rw[qo] at e';rw[e'];have t':=A4 (t::r);rw[qo] at t';rw[t'];rw[qf,DY hd];simp[eqD,eqS]
structure BenchT where
 nm:ak
 br:ac (ag×ag)
structure StepT where
 nm:ak
 kd:ak
 ws:ac (ak×ag)
structure JobT where
 nm:ak
 ea:ag
 du:ag
 od:aX
 ms:ac ak
structure SetT where
 b:ak
 p:ak
 q:ak
 n:ag
structure LinkT where
 a:ak
 b:ak
 g:ag
structure StockT where
 nm:ak
 lo:ag
 hi:ag
 tk:ac (ak×ag)
 pt:ac (ak×ag)
noncomputable def dW (w:ak×ag):D:=.tup [.str w.1,.int w.2]
noncomputable def cm (b:BenchT):D:=.tup [.str b.nm,.lst (b.br.map dIv)]
noncomputable def bA (s:StepT):D:=.tup [.str s.nm,.str s.kd,.lst (s.ws.map dW)]
noncomputable def ba (j:JobT):D:=.tup [.str j.nm,.int j.ea,.int j.du,.bl j.od,.lst (j.ms.map D.str)]
noncomputable def cO (u:SetT):D:=.tup [.str u.b,.str u.p,.str u.q,.int u.n]
noncomputable def cY (l:LinkT):D:=.tup [.str l.a,.str l.b,.int l.g]
noncomputable def cy (k:StockT):D:=.tup [.str k.nm,.int k.lo,.int k.hi,.lst (k.tk.map dW),.lst (k.pt.map dW)]
structure GoodB (h:ag) (b:BenchT):Prop where
 nm:bf b.nm=ai
 len:b.br.length<=10
 iv:∀p∈b.br,0<=p.1/\p.1<p.2/\p.2<=h
 gap:∀(i:al) p q,b.br[i]?=aa p->b.br[i+1]?=aa q->p.2<q.1
structure GoodS (bn:ac ak) (h:ag) (s:StepT):Prop where
 nm:bf s.nm=ai
 kd:bf s.kd=ai
 l1:1<=s.ws.length
 l4:s.ws.length<=4
 ws:∀w∈s.ws,w.1∈bn/\1<=w.2/\w.2<=h
 nd:(s.ws.map (·.1)).Nodup
structure GoodJ (sn:ac ak) (h:ag) (j:JobT):Prop where
 nm:bf j.nm=ai
 ea:0<=j.ea/\j.ea<=h
 du:0<=j.du/\j.du<=h
 l1:1<=j.ms.length
 ln:j.ms.length<=sn.length
 ms:∀m∈j.ms,m∈sn
structure GoodU (bn:ac ak) (h:ag) (u:SetT):Prop where
 b:u.b∈bn
 p:bf u.p=ai
 q:bf u.q=ai
 n:1<=u.n/\u.n<=h
structure GoodL (sn:ac ak) (h:ag) (l:LinkT):Prop where
 a:l.a∈sn
 b:l.b∈sn
 ne:l.a≠l.b
 g:0<=l.g/\l.g<=h
structure GoodA (sn:ac ak) (am:ac (ak×ag)):Prop where
 ln:am.length<=sn.length
 ws:∀w∈am,w.1∈sn/\1<=w.2/\w.2<=1000000
 nd:(am.map (·.1)).Nodup
structure GoodK (sn:ac ak) (k:StockT):Prop where
 nm:bf k.nm=ai
 lo:0<=k.lo/\k.lo<=k.hi
 hi:0<=k.hi/\k.hi<=1000000
 tk:GoodA sn k.tk
 pt:GoodA sn k.pt
structure Good (bs:ac BenchT) (ss:ac StepT) (js:ac JobT) (us:ac SetT) (ls:ac LinkT) (ks:ac StockT) (hz:ag):Prop where
 hh:1<=hz/\hz<=1000000
 bl:1<=bs.length/\bs.length<=8
 b:∀x∈bs,GoodB hz x
 bn:(bs.map (·.nm)).Nodup
 sl:1<=ss.length/\ss.length<=40
 s:∀x∈ss,GoodS (bs.map (·.nm)) hz x
 sn:(ss.map (·.nm)).Nodup
 jl:js.length<=40
 j:∀x∈js,GoodJ (ss.map (·.nm)) hz x
 jn:(js.map (·.nm)).Nodup
 jm:(js.flatMap (·.ms)).Nodup
 ul:us.length<=100
 u:∀x∈us,GoodU (bs.map (·.nm)) hz x
 un:(us.map fun u=>[u.b,u.p,u.q]).Nodup
 ll:ls.length<=100
 l:∀x∈ls,GoodL (ss.map (·.nm)) hz x
 ln:(ls.map fun l=>[l.a,l.b]).Nodup
 kl:ks.length<=6
 k:∀x∈ks,GoodK (ss.map (·.nm)) x
 kn:(ks.map (·.nm)).Nodup
theorem ixL (l:ac D) (n:al):ixD (.lst l) (.int (n:ag))=l[n]?:=lz l n
theorem szN {k:al} (h:n<=k) (hk:k<=1000):n<=aV:=by unfold aV;omega
variable {ss:ac StepT}
section
variable {bn:ac ak}
theorem LH (len:br.length<=10) (gap:∀(i:al) p q,br[i]?=aa p->br[i+1]?=aa q->p.2<q.1) :
  cF fC (ae (aH (a9 (itR lG (ae .(c) (ae (cF b9 .(T)) aj))) (ay 0) tT (b2 ltD (b2 ixD (b2 ixD (vSh 1) (b2 eN (vSh 0) .(c))) .(c)) (b2 ixD (b2 ixD (vSh 1) (vSh 0)) .(d))) [ab,aa 0])) aj) [oS (.lst (br.map dIv)),oS (.int h)]=aa (.bl ai):=by
 have e0:itR lG (ae .(c) (ae (cF b9 .(T)) aj)) [oS (.lst (br.map dIv)),oS (.int h)]=aa ((cP (((br.map dIv).length:ag)-1).toNat).map fun k:al=>D.int (1+k)):=by exact mI rfl (Ap (i:=1) (j:=((br.map dIv).length:al)) (by rw[qg];omega))
 refine hZ (r:=[oS (.lst (br.map dIv))]) (a:=ab) e0 ?_ rfl fun x hx=>?_
 .simp only[qg,qS];exact szN (k:=10) .(f) .(g)
 .obtain⟨k,hk,rfl⟩:=bw.mp hx;rw[eV,qg] at hk;have hk1:k<br.length:=by omega
  have hk2:k+1<br.length:=by omega
  have e1:br[k]?=aa br[k]:=by simp[hk1]
  have e2:br[k+1]?=aa br[k+1]:=by simp[hk2]
  have g:=gap k _ _ e1 e2;have a1:ixD (.lst (br.map dIv)) (.int (1+(k:ag)-1))=aa (dIv br[k]):=by
   have:(1+(k:ag)-1)=((k:al):ag):=by omega
   rw[this,ixL,ql,e1];rfl
  have a2:ixD (.lst (br.map dIv)) (.int (1+(k:ag)))=aa (dIv br[k+1]):=by
   have:(1+(k:ag))=((k+1:al):ag):=by omega
   rw[this,ixL,ql,e2];rfl
  simp only[vSh,vC,b2,ltD,eN,qd,qe,qc,a1,a2];simp only[dIv,cJ,cB,qc,qR g]
theorem Hl (len:br.length<=10) (iv:∀p∈br,0<=p.1/\p.1<p.2/\p.2<=h) (gap:∀(i:al) p q,br[i]?=aa p->br[i+1]?=aa q->p.2<q.1) :
  wI [.lst (br.map dIv),.int h]=aa (.bl ai):=by
 refine bM [oS (.lst (br.map dIv)),oS (.int h)] rfl ((iQ ?_ (hZ (r:=[oS (.int h)]) (a:=ab) (xs:=br.map dIv) rfl (by rw[qg];exact szN len .(g)) rfl fun x hx=>?_)).trans (bS (LH len gap)))
 .exact ji _ 0 10 ⟨by omega,by rw[qg];omega⟩
 .obtain⟨p,hp,rfl⟩:=bw.mp hx;obtain⟨h1,h2,h3⟩:=iv p hp;exact J8 p h h1 h2 h3
theorem Ps {b:BenchT} (g:GoodB h b):uy [cm b,.int h]=aa (.bl ai):=by simp only[uy,cm,aY,aE,cE,cF,ae,aj,vSh,vC,b2,cJ,cB,qo,qN,qq,qQ,ce,qd,qe,qc,qf,uh,lc g.nm,Hl g.len g.iv g.gap]
theorem jX {f:α->D} {nm:α->ak} {xs:ac α} (hf:∀x,∃r,f x=.tup (.str (nm x)::r)) (h1:vSh i ρ=aa (.lst (xs.map f))) (h2:xs.length<=aV) (h3:fu fv ρ=[ab]) :
  aH (a9 (itF (vSh i)) (ay 0) tT .(r) fv) ρ=aa (.lst ((xs.map nm).map D.str)):=by
 have hc:=ic (fi:=itF (vSh i)) (fe:=b2 ixD (vSh 0) .(d)) (fv:=fv) (ρ:=ρ) (r:=[]) (a:=ab) (xs:=xs.map f) (f:=fun d=>match d with|.tup (x::_)=>x|_=>.non) (by unfold itF;rw[h1];rfl) (by rw[qg];exact h2) h3 (fun x hx=>by obtain⟨y,_,rfl⟩:=bw.mp hx;obtain⟨r,e⟩:=hf y;simp only[b2,vSh,vC,qd,qc,e,cJ])
 rw[hc]
 congr 2
 rw[qp,qp];refine oY fun x _=>?_;obtain⟨r,e⟩:=hf x;simp[e]
theorem Mv {bs:ac BenchT} (l1:1<=bs.length) (l8:bs.length<=8) (g:∀x∈bs,GoodB h x) (nd:(bs.map (·.nm)).Nodup):x5 [.lst (bs.map cm),.int h]=aa (.bl ai):=by
 refine bM [oS (.lst (bs.map cm)),oS (.int h)] rfl ((iQ ?_ (hZ (r:=[oS (.int h)]) (a:=ab) (xs:=bs.map cm) rfl (by rw[qg];exact szN l8 .(g)) rfl fun x hx=>?_)).trans (bS ?_))
 .exact ji _ 1 8 ⟨by rw[qg];omega,by rw[qg];omega⟩
 .obtain⟨p,hp,rfl⟩:=bw.mp hx;exact Ps (g p hp)
 .have:=jX (i:=0) (fv:=[ab]) (ρ:=[oS (.lst (bs.map cm)),oS (.int h)]) (f:=cm) (nm:=(·.nm)) (xs:=bs) (fun x=>⟨_,rfl⟩) rfl (szN l8 .(g)) rfl;simp only[cF,ae,aj,this,qc,qf];exact my nd (by rw[qg];omega)
theorem Hb {w:ak×ag} (hb:∀y∈bn,bf y=ai) (g:w.1∈bn/\1<=w.2/\w.2<=h):sA [dW w,.lst (bn.map D.str),.int h]=aa (.bl ai):=by simp only[sA,dW,aY,aE,cE,cF,ae,aj,vSh,vC,b2,cJ,cB,qo,qN,qq,qQ,ce,qd,qe,qc,qf,uh,oj g.1 hb,iS w.2 1 h g.2]
theorem PJ (hb:∀y∈bn,bf y=ai) (l1:1<=ws.length) (l4:ws.length<=4) (g:∀w∈ws,w.1∈bn/\1<=w.2/\w.2<=h) (nd:(ws.map (·.1)).Nodup):wz [.lst (ws.map dW),.lst (bn.map D.str),.int h]=aa (.bl ai):=by
 refine bM [oS (.lst (ws.map dW)),oS (.lst (bn.map D.str)),oS (.int h)] rfl ((iQ ?_ (hZ (r:=[oS (.lst (bn.map D.str)),oS (.int h)]) (a:=ab) (xs:=ws.map dW) rfl (by rw[qg];exact szN l4 .(g)) rfl fun x hx=>?_)).trans (bS ?_))
 .exact ji _ 1 4 ⟨by rw[qg];omega,by rw[qg];omega⟩
 .obtain⟨p,hp,rfl⟩:=bw.mp hx;exact Hb hb (g p hp)
 .have:=jX (i:=0) (fv:=[ab]) (ρ:=[oS (.lst (ws.map dW)),oS (.lst (bn.map D.str)),oS (.int h)]) (f:=dW) (nm:=(·.1)) (xs:=ws) (fun x=>⟨_,rfl⟩) rfl (szN l4 .(g)) rfl;simp only[cF,ae,aj,this,qc,qf];exact my nd (by rw[qg];omega)
theorem N0 {s:StepT} (hb:∀y∈bn,bf y=ai) (g:GoodS bn h s):tK [bA s,.lst (bn.map D.str),.int h]=aa (.bl ai):=by simp only[tK,bA,aY,ax,sIf,aE,aP,orT,bC,toB,cF,ae,aj,vSh,vC,b2,cJ,cB,gT,qo,qN,qq,qQ,ce,qd,qe,qc,qf,c4,iA,qr,Ad,lc g.nm,lc g.kd,PJ hb g.l1 g.l4 g.ws g.nd]
theorem HF (hb:∀y∈bn,bf y=ai) (l1:1<=ss.length) (l4:ss.length<=40) (g:∀s∈ss,GoodS bn h s) (nd:(ss.map (·.nm)).Nodup):xC [.lst (ss.map bA),.lst (bn.map D.str),.int h]=aa (.bl ai):=by
 refine bM [oS .(ap),oS (.lst (bn.map D.str)),oS (.int h)] rfl ((iQ ?_ (hZ (r:=[oS (.lst (bn.map D.str)),oS (.int h)]) (a:=ab) (xs:=ss.map bA) rfl (by rw[qg];exact szN l4 .(g)) rfl fun x hx=>?_)).trans (bS ?_))
 .exact ji _ 1 40 ⟨by rw[qg];omega,by rw[qg];omega⟩
 .obtain⟨p,hp,rfl⟩:=bw.mp hx;exact N0 hb (g p hp)
 .have:=jX (i:=0) (fv:=[ab]) (ρ:=[oS .(ap),oS (.lst (bn.map D.str)),oS (.int h)]) (f:=bA) (nm:=(·.nm)) (xs:=ss) (fun x=>⟨_,rfl⟩) rfl (szN l4 .(g)) rfl;simp only[cF,ae,aj,this,qc,qf];exact my nd (by rw[qg];omega)
end
theorem Du (a b:ak):neA (.str a) (.str b)=aa (.bl (!decide (a=b))):=rfl
theorem wS {a b c:D} :mr ab (aa 3) (.tup [a,b,c,d])=aa (.tup [a,b,c]):=rfl
theorem DF {a b c:D} :mr ab (aa 2) (.tup [a,b,c])=aa (.tup [a,b]):=rfl
theorem wM {α β:Type} {f:α->ac β} {m:al}:∀{l:ac α},(∀x∈l,(f x).length<=m)->(l.flatMap f).length<=l.length*m
 |[],_=>by simp
 |x::r,h=>by have h1:=h x qh;have h2:=wM (l:=r) fun y hy=>h y (qi _ hy);rw[Fw,qk,qj,yV];omega
variable {js:ac JobT} {us:ac SetT} {ls:ac LinkT} {ks:ac StockT}
section
variable {bn:ac ak}
theorem JI {j:JobT} (hs:∀y∈sn,bf y=ai) (hl:sn.length<=40) (g:GoodJ sn h j):yq [ba j,.lst (sn.map D.str),.int h]=aa (.bl ai):=by
 refine bM [oS (ba j),oS .(aq),oS (.int h)] rfl ((Lc ?_ ?_ ?_).trans ((iQ ?_ ?_).trans (bS (BX ?_ (hZ (r:=[oS .(aq)]) (a:=ab) (xs:=j.ms.map D.str) ?_ ?_ rfl fun x hx=>?_)))))
 .exact By
 .simp only[ba,cF,ae,aj,vSh,vC,b2,cJ,qd,qc,qf,lc g.nm]
 .simp only[ba,cF,ae,aj,vSh,vC,b2,dZ,tyD,i0,qd,qc,qf,i5]
 .simp only[ba,cF,ae,aj,vSh,vC,b2,cB,qd,qe,qc,qf,iS _ 0 h g.ea]
 .simp only[ba,cF,ae,aj,vSh,vC,b2,gT,qd,qe,qc,qf,iS _ 0 h g.du]
 .simp only[ba,cF,ae,aj,vSh,vC,b2,b9,fF,qd,qe,qc,qf];exact ji _ _ _ ⟨by rw[qg];have:=g.l1;omega,by rw[qg,qg];have:=g.ln;omega⟩
 .simp only[ba,vSh,vC,b2,itF,qZ,fF,qd,qc]
 .rw[qg];exact szN (qL g.ln hl) .(g)
 .obtain⟨m,hm,rfl⟩:=bw.mp hx;simp only[cF,ae,aj,vSh,qd,qe,qc,qf,oj (g.ms m hm) hs]
theorem KU {S H:ar Slot} (hl:js.length<=40) (g:∀j∈js,j.ms.length<=40) :
  ∃z,fz (ay 4) (iD 3 (b2 ixD (vSh 4) .(l))) (js.map ba) [oS .(al),S,H,aa (.own []),ab]=aa (.nx,[oS .(al),S,H,aa (.own ((js.flatMap (·.ms)).map D.str)),z]):=by
 obtain⟨ρ',h1,z,h2⟩:=dv (gg:=ay 4) (body:=iD 3 (b2 ixD (vSh 4) .(l))) (xs:=js.map ba) (ρ:=[oS .(al),S,H,aa (.own []),ab])
  (fun i ρ=>∃z,ρ=[oS .(al),S,H,aa (.own (((js.take i).flatMap (·.ms)).map D.str)),z]) ⟨ab,by simp⟩ (fun i x ρ hx hI=>by
   obtain⟨z,rfl⟩:=hI;rw[ql] at hx;obtain⟨j,hj,rfl⟩:=oMd hx;have hm:j∈js:=qO hj;have t1:((js.take i).flatMap (·.ms)).length<=(js.take i).length*40:=wM fun y hy=>g y (u9 hy);have t2:(js.take i).length<=40:=by rw[qD];omega
   have t3:=g j hm;have tk:js.take (i+1)=js.take i++[j]:=by rw[Fx,hj];rfl
   have sz:(((js.take i).flatMap (·.ms)).map D.str).length+(j.ms.map D.str).length<=aV:=by rw[qg,qg];unfold aV;omega
   refine⟨_,[oS .(al),S,H,aa (.own (((js.take (i+1)).flatMap (·.ms)).map D.str)),oS (ba j)],rfl,?_,_,rfl⟩;have e:b2 ixD (vSh 4) .(l) [oS .(al),S,H,aa (.own (((js.take i).flatMap (·.ms)).map D.str)),oS (ba j)]=aa (.lst (j.ms.map D.str)):=by simp only[ba,vSh,vC,b2,fF,qd,qe,qc]
   simp only[iD,oW,Fy,qd,qe,e,qc,qX sz,tk];simp)
 refine⟨z,?_⟩;rw[h1,h2,qg,iB]
theorem Oa (hs:∀y∈sn,bf y=ai) (hl:sn.length<=40) (l4:js.length<=40) (g:∀j∈js,GoodJ sn h j) (nd:(js.map (·.nm)).Nodup) (nm:(js.flatMap (·.ms)).Nodup) (ml:(js.flatMap (·.ms)).length<=300):xp [.lst (js.map ba),.lst (sn.map D.str),.int h]=aa (.bl ai):=by
 obtain⟨z,hz⟩:=KU (js:=js) (S:=oS .(aq)) (H:=oS (.int h)) l4 fun j hj=>qL (g j hj).ln hl;refine bM [oS .(al),oS .(aq),oS (.int h),ab,ab] (ρ':=[oS .(al),oS .(aq),oS (.int h),oS (.lst ((js.flatMap (·.ms)).map D.str)),z]) rfl ((iQ ?_ (hZ (r:=[oS .(aq),oS (.int h)]) (a:=ab) (xs:=js.map ba) rfl (by rw[qg];exact szN l4 .(g)) rfl fun x hx=>?_)).trans ?_)
 .exact ji _ 0 40 ⟨by omega,by rw[qg];omega⟩
 .obtain⟨p,hp,rfl⟩:=bw.mp hx;simp only[cF,ae,aj,vSh,qd,qe,qc,qf,JI hs hl (g p hp)]
 .have nn:=jX (i:=0) (fv:=[ab]) (ρ:=[oS .(al),oS .(aq),oS (.int h),oS (.lst ((js.flatMap (·.ms)).map D.str)),z]) (f:=ba) (nm:=(·.nm)) (xs:=js) (fun x=>⟨_,rfl⟩) rfl (szN l4 .(g)) rfl;have u1:cF fD .(ai) [oS .(al),oS .(aq),oS (.int h),oS (.lst ((js.flatMap (·.ms)).map D.str)),z]=aa (.bl ai):=
   aU (aA nn aO) (my nd (by rw[qg];omega))
  have u2:cF fD .(au) [oS .(al),oS .(aq),oS (.int h),oS (.lst ((js.flatMap (·.ms)).map D.str)),z]=aa (.bl ai):=
   aU (aA rfl aO) (my nm ml)
  have r:=bS (BX u1 u2);have z0:(0<=aV)=True:=by simp
  simp only[ax,dL,szF,aj,qc,qf,qm,z0,cA,oW,Fy,bD,itF,vSh,qd,qZ];rw[hz];simp only[qc,eF,qd,qe,oW,Fy];exact r
theorem Mj {u:SetT} (hb:∀y∈bn,bf y=ai) (g:GoodU bn h u):sF [cO u,.lst (bn.map D.str),.int h]=aa (.bl ai):=by simp only[sF,cO,aY,ax,sIf,aE,aP,cE,orT,bC,toB,cF,ae,aj,vSh,vC,b2,cJ,cB,gT,i0,qo,qN,qq,qQ,ce,qd,qe,qc,qf,c4,iA,qr,J7,oj g.b hb,lc g.p,lc g.q,iS _ 1 h g.n]
theorem Qg (hb:∀y∈bn,bf y=ai) (l4:us.length<=100) (g:∀u∈us,GoodU bn h u) (nd:(us.map fun u=>[u.b,u.p,u.q]).Nodup):xa [.lst (us.map cO),.lst (bn.map D.str),.int h]=aa (.bl ai):=by
 refine bM [oS (.lst (us.map cO)),oS (.lst (bn.map D.str)),oS (.int h)] rfl ((iQ ?_ (hZ (r:=[oS (.lst (bn.map D.str)),oS (.int h)]) (a:=ab) (xs:=us.map cO) rfl (by rw[qg];exact szN l4 .(g)) rfl fun x hx=>?_)).trans (bS (aU (aA (ic (r:=[]) (a:=ab) (xs:=us.map cO) (f:=fun d=>match d with|.tup [a,b,c,d]=>.tup [a,b,c]|_=>.non) rfl (by rw[qg];exact szN l4 .(g)) rfl fun x hx=>?_) aO) ?_)))
 .exact ji _ 0 100 ⟨by omega,by rw[qg];omega⟩
 .obtain⟨p,hp,rfl⟩:=bw.mp hx;simp only[cF,ae,aj,vSh,qd,qe,qc,qf,Mj hb (g p hp)]
 .obtain⟨p,hp,rfl⟩:=bw.mp hx;simp only[vSh,vC,slF,pN,pS,qd,qc,cO,wS]
 .have:=C9 nd (by rw[qg];omega);rw[qp] at this ⊢;exact this
theorem Nw {l:LinkT} (hs:∀y∈sn,bf y=ai) (g:GoodL sn h l):tI [cY l,.lst (sn.map D.str),.int h]=aa (.bl ai):=by have:=g.ne;simp only[tI,cY,aY,ax,sIf,aE,aP,cE,orT,bC,toB,cF,ae,aj,vSh,vC,b2,cJ,cB,gT,qo,qN,qq,qQ,ce,qd,qe,qc,qf,c4,iA,lY,qr,Ad,oj g.a hs,oj g.b hs,Du,qM g.ne,iS _ 0 h g.g]
theorem GZ (hs:∀y∈sn,bf y=ai) (l4:ls.length<=100) (g:∀l∈ls,GoodL sn h l) (nd:(ls.map fun l=>[l.a,l.b]).Nodup):xb [.lst (ls.map cY),.lst (sn.map D.str),.int h]=aa (.bl ai):=by
 refine bM [oS (.lst (ls.map cY)),oS .(aq),oS (.int h)] rfl ((iQ ?_ (hZ (r:=[oS .(aq),oS (.int h)]) (a:=ab) (xs:=ls.map cY) rfl (by rw[qg];exact szN l4 .(g)) rfl fun x hx=>?_)).trans (bS (aU (aA (ic (r:=[]) (a:=ab) (xs:=ls.map cY) (f:=fun d=>match d with|.tup [a,b,c]=>.tup [a,b]|_=>.non) rfl (by rw[qg];exact szN l4 .(g)) rfl fun x hx=>?_) aO) ?_)))
 .exact ji _ 0 100 ⟨by omega,by rw[qg];omega⟩
 .obtain⟨p,hp,rfl⟩:=bw.mp hx;simp only[cF,ae,aj,vSh,qd,qe,qc,qf,Nw hs (g p hp)]
 .obtain⟨p,hp,rfl⟩:=bw.mp hx;simp only[vSh,vC,slF,pN,pS,qd,qc,cY,DF]
 .have:=C9 nd (by rw[qg];omega);rw[qp] at this ⊢;exact this
theorem Jx {w:ak×ag} (hs:∀y∈sn,bf y=ai) (g:w.1∈sn/\1<=w.2/\w.2<=1000000):tL [dW w,.lst (sn.map D.str)]=aa (.bl ai):=by simp only[tL,dW,aY,aE,cE,cF,ae,aj,vSh,vC,b2,cJ,cB,qo,qN,qq,qQ,ce,qd,qe,qc,qf,uh,oj g.1 hs,iS w.2 1 1000000 g.2]
theorem AU (hs:∀y∈sn,bf y=ai) (hl:sn.length<=40) (g:GoodA sn ws):sR [.lst (ws.map dW),.lst (sn.map D.str)]=aa (.bl ai):=by
 have l4:ws.length<=40:=qL g.ln hl;refine bM [oS (.lst (ws.map dW)),oS .(aq)] rfl ((iQ ?_ (hZ (r:=[oS .(aq)]) (a:=ab) (xs:=ws.map dW) rfl (by rw[qg];exact szN l4 .(g)) rfl fun x hx=>?_)).trans (bS ?_))
 .have e:=ji (ws.map dW) 0 ((sn.map D.str).length:al) ⟨by omega,by rw[qg,qg];have:=g.ln;omega⟩;simp only[cF,ae,aj,vSh,vC,b9,qd,qe,qc,qf];exact e
 .obtain⟨p,hp,rfl⟩:=bw.mp hx;simp only[cF,ae,aj,vSh,qd,qe,qc,qf,Jx hs (g.ws p hp)]
 .have:=jX (i:=0) (fv:=[ab]) (ρ:=[oS (.lst (ws.map dW)),oS .(aq)]) (f:=dW) (nm:=(·.1)) (xs:=ws) (fun x=>⟨_,rfl⟩) rfl (szN l4 .(g)) rfl;exact aU (aA this aO) (my g.nd (by rw[qg];omega))
theorem Kb {k:StockT} (hs:∀y∈sn,bf y=ai) (hl:sn.length<=40) (g:GoodK sn k):uq [cy k,.lst (sn.map D.str)]=aa (.bl ai):=by simp only[uq,cy,aY,ax,sIf,aE,aP,cE,orT,bC,toB,cF,ae,aj,vSh,vC,b2,cJ,cB,gT,i0,fF,qo,qN,qq,qQ,ce,qd,qe,qc,qf,c4,iA,qr,By,lc g.nm,iS _ 0 1000000 g.hi,iS _ 0 _ g.lo,AU hs hl g.tk,AU hs hl g.pt]
theorem Qk (hs:∀y∈sn,bf y=ai) (hl:sn.length<=40) (l4:ks.length<=6) (g:∀k∈ks,GoodK sn k) (nd:(ks.map (·.nm)).Nodup):wF [.lst (ks.map cy),.lst (sn.map D.str)]=aa (.bl ai):=by
 refine bM [oS (.lst (ks.map cy)),oS .(aq)] rfl ((iQ ?_ (hZ (r:=[oS .(aq)]) (a:=ab) (xs:=ks.map cy) rfl (by rw[qg];exact szN l4 .(g)) rfl fun x hx=>?_)).trans (bS ?_))
 .exact ji _ 0 6 ⟨by omega,by rw[qg];omega⟩
 .obtain⟨p,hp,rfl⟩:=bw.mp hx;simp only[cF,ae,aj,vSh,qd,qe,qc,qf,Kb hs hl (g p hp)]
 .have:=jX (i:=0) (fv:=[ab]) (ρ:=[oS (.lst (ks.map cy)),oS .(aq)]) (f:=cy) (nm:=(·.nm)) (xs:=ks) (fun x=>⟨_,rfl⟩) rfl (szN l4 .(g)) rfl;exact aU (aA this aO) (my nd (by rw[qg];omega))
end
section
variable {bs:ac BenchT}
theorem Good.bnn (g:Good bs ss js us ls ks h):∀y∈bs.map (·.nm),bf y=ai:=fun y hy=>by obtain⟨b,hb,rfl⟩:=bw.mp hy;exact(g.b b hb).nm
theorem Good.snn (g:Good bs ss js us ls ks h):∀y∈ss.map (·.nm),bf y=ai:=fun y hy=>by obtain⟨b,hb,rfl⟩:=bw.mp hy;exact(g.s b hb).nm
theorem Kf (g:Good bs ss js us ls ks h) (ml:(js.flatMap (·.ms)).length<=300):wL [.lst (bs.map cm),.lst (ss.map bA),.lst (js.map ba),.lst (us.map cO),.lst (ls.map cY),.lst (ks.map cy),.int h]=aa .non:=by
 have hb:=g.bnn;have hs:=g.snn;have hl:(ss.map (·.nm)).length<=40:=by rw[qg];exact g.sl.2
 have n1:∀z:ar Slot,aH (a9 (itF (vSh 0)) (ay 0) tT .(r) [ab]) [oS (.lst (bs.map cm)),oS .(ap),oS .(al),oS (.lst (us.map cO)),oS (.lst (ls.map cY)),oS (.lst (ks.map cy)),oS (.int h),ab,ab]=aa (.lst ((bs.map (·.nm)).map D.str)):=fun z=>
  jX (f:=cm) (nm:=(·.nm)) (xs:=bs) (fun x=>⟨_,rfl⟩) rfl (szN g.bl.2 .(g)) rfl
 have n2:aH (a9 (itF (vSh 1)) (ay 0) tT .(r) [ab]) [oS (.lst (bs.map cm)),oS .(ap),oS .(al),oS (.lst (us.map cO)),oS (.lst (ls.map cY)),oS (.lst (ks.map cy)),oS (.int h),oS (.lst ((bs.map (·.nm)).map D.str)),ab]=aa (.lst ((ss.map (·.nm)).map D.str)):=
  jX (f:=bA) (nm:=(·.nm)) (xs:=ss) (fun x=>⟨_,rfl⟩) rfl (szN g.sl.2 .(g)) rfl
 refine bM [oS (.lst (bs.map cm)),oS .(ap),oS .(al),oS (.lst (us.map cO)),oS (.lst (ls.map cY)),oS (.lst (ks.map cy)),oS (.int h),ab,ab] rfl ((mD ?_).trans ((mD ?_).trans ((aZ (n1 ab)).trans ((mD ?_).trans ((aZ n2).trans ((mD ?_).trans ((mD ?_).trans ((mD ?_).trans ((mD ?_).trans (bS rfl))))))))))
 .exact iS h 1 1000000 g.hh
 .exact Mv g.bl.1 g.bl.2 g.b g.bn
 .exact HF hb g.sl.1 g.sl.2 g.s g.sn
 .exact Oa hs hl g.jl g.j g.jn g.jm ml
 .exact Qg hb g.ul g.u g.un
 .exact GZ hs g.ll g.l g.ln
 .exact Qk hs hl g.kl g.k g.kn
end
noncomputable def Pl:al->D->Prop
 |0,_=>False
 |n+1,.lst l=>l.length<=aV/\∀x∈l,Pl n x
 |n+1,.tup l=>l.length<=aV/\∀x∈l,Pl n x
 |_+1,.non=>True
 |_+1,.bl _=>True
 |_+1,.int _=>True
 |_+1,.str _=>True
 |_+1,_=>False
theorem fO {X E:FS} (h:ft ρ=aa aq):ax (sIf ft X aP) E ρ=E ρ:=by simp only[ax,sIf,h,qc,qr,c4,aP]
theorem j6 {A B E:FS} (h:ft ρ=aa ai) (h2:A ρ=aa (.rt d,ρ')):ax (sIf ft A B) E ρ=aa (.rt d,ρ'):=by simp only[ax,sIf,h,qc,cA,h2]
theorem xI:∀(n:al) (d:D),Pl n d->jz n [d]=aa d
 |0,_,h=>h.elim
 |n+1,.lst l,h=>by
  refine bM [oS (.lst l)] rfl (j6 (a5 (b:=ai) ?_) (bS ?_))
  .simp only[cF,ae,aj,vSh,vC,dZ,tyD,qd,qc,qf,k1]
  .have:=ic (fi:=itF (vSh 0)) (fe:=cF (jz n) .(T)) (fv:=[ab]) (ρ:=[oS (.lst l)]) (r:=[]) (a:=ab) (xs:=l) (f:=fun x=>x) rfl h.1 rfl (fun x hx=>by simp only[cF,ae,aj,vSh,qd,qc,qf,xI n x (h.2 x hx)]);rw[Sg] at this;exact this
 |n+1,.tup l,h=>by
  refine bM [oS (.tup l)] rfl ((fO (a5 (b:=aq) ?_)).trans (j6 (a5 (b:=ai) ?_) (bS (aU (aA (d:=.lst l) ?_ aO) rfl))))
  .simp only[cF,ae,aj,vSh,vC,dZ,tyD,qd,qc,qf,k2]
  .simp only[cF,ae,aj,vSh,vC,dZ,tyD,qd,qc,qf,k3]
  .have:=ic (fi:=itF (vSh 0)) (fe:=cF (jz n) .(T)) (fv:=[ab]) (ρ:=[oS (.tup l)]) (r:=[]) (a:=ab) (xs:=l) (f:=fun x=>x) rfl h.1 rfl (fun x hx=>by simp only[cF,ae,aj,vSh,qd,qc,qf,xI n x (h.2 x hx)]);rw[Sg] at this;exact this
 |n+1,.non,h=>by
  show jA (jz n) [.non]=aa .non;unfold jA;refine bM [oS .non] rfl ((fO (a5 (b:=aq) ?_)).trans ((fO (a5 (b:=aq) ?_)).trans (bS (f:=vSh 0) rfl)))<;>simp only[cF,ae,aj,vSh,vC,dZ,tyD,qd,qc,qf,k10,k11]
 |n+1,.bl b,h=>by
  show jA (jz n) [.bl b]=aa (.bl b);unfold jA;refine bM [oS (.bl b)] rfl ((fO (a5 (b:=aq) ?_)).trans ((fO (a5 (b:=aq) ?_)).trans (bS (f:=vSh 0) rfl)))<;>simp only[cF,ae,aj,vSh,vC,dZ,tyD,qd,qc,qf,k8,k9]
 |n+1,.int b,h=>by
  show jA (jz n) [.int b]=aa (.int b);unfold jA;refine bM [oS (.int b)] rfl ((fO (a5 (b:=aq) ?_)).trans ((fO (a5 (b:=aq) ?_)).trans (bS (f:=vSh 0) rfl)))<;>simp only[cF,ae,aj,vSh,vC,dZ,tyD,qd,qc,qf,k6,k7]
 |n+1,.str b,h=>by show jA (jz n) [.str b]=aa (.str b);unfold jA;refine bM [oS (.str b)] rfl ((fO (a5 (b:=aq) ?_)).trans ((fO (a5 (b:=aq) ?_)).trans (bS (f:=vSh 0) rfl)))<;>simp only[cF,ae,aj,vSh,vC,dZ,tyD,qd,qc,qf,k4,k4,k5]
theorem im (h:Pl 8 d):eE [d]=aa d:=xI 8 d h
theorem gX {f:α->D} {xs:ac α} (hl:xs.length<=1000) (h:∀x∈xs,Pl n (f x)):Pl (n+1) (.lst (xs.map f)):=
 ⟨by rw[qg];exact szN hl .(g),fun x hx=>by obtain⟨y,hy,rfl⟩:=bw.mp hx;exact h y hy⟩
theorem F1 {xs:ac ak} (hl:xs.length<=1000):Pl (n+2) (.lst (xs.map D.str)):=gX hl fun x _=>(trivial:Pl (n+1) (.str x))
theorem uH {xs:ac (ak×ag)} (hl:xs.length<=1000):Pl (n+3) (.lst (xs.map dW)):=gX hl fun x _=>⟨by simp[aV],by intro y hy;simp only[qK,qI,or_false] at hy;rcases hy with rfl|rfl<;>trivial⟩
theorem Nx {b:BenchT} (g:GoodB h b):Pl (n+4) (cm b):=⟨by simp[aV],by
 intro y hy;simp only[qK,qI,or_false] at hy;rcases hy with rfl|rfl
 .trivial
 .exact gX (by have:=g.len;omega) fun x _=>⟨by simp[aV],by intro y hy;simp only[qK,qI,or_false] at hy;rcases hy with rfl|rfl<;>trivial⟩⟩
theorem L' {bn:ac ak} {s:StepT} (g:GoodS bn h s):Pl (n+4) (bA s):=⟨by simp[aV],by
 intro y hy;simp only[qK,qI,or_false] at hy;rcases hy with rfl|rfl|rfl
 .trivial
 .trivial
 .exact uH (by have:=g.l4;omega)⟩
theorem xH {j:JobT} (hl:sn.length<=40) (g:GoodJ sn h j):Pl (n+3) (ba j):=⟨by simp[aV],by
 intro y hy;simp only[qK,qI,or_false] at hy;rcases hy with rfl|rfl|rfl|rfl|rfl
 .trivial
 .trivial
 .trivial
 .trivial
 .exact F1 (by have:=g.ln;omega)⟩
theorem Ko {u:SetT} :Pl (n+2) (cO u):=⟨by simp[aV],by intro y hy;simp only[qK,qI,or_false] at hy;rcases hy with rfl|rfl|rfl|rfl<;>trivial⟩
theorem DZ {u:LinkT} :Pl (n+2) (cY u):=⟨by simp[aV],by intro y hy;simp only[qK,qI,or_false] at hy;rcases hy with rfl|rfl|rfl<;>trivial⟩
theorem BF {k:StockT} (hl:sn.length<=40) (g:GoodK sn k):Pl (n+4) (cy k):=⟨by simp[aV],by
 intro y hy;simp only[qK,qI,or_false] at hy;rcases hy with rfl|rfl|rfl|rfl|rfl
 .trivial
 .trivial
 .trivial
 .exact uH (by have:=g.tk.ln;omega)
 .exact uH (by have:=g.pt.ln;omega)⟩
theorem pJ {α:Type} {nm:α->ak} {f:α->D}:∀(xs:ac α),oz (xs.map fun x=>.tup [.str (nm x),f x])=aa (xs.map fun x=>(.inr (nm x),f x))
 |[]=>rfl
 |x::r=>by simp only[qo,oz,gF,qc,pJ r,qf]
theorem Br {α:Type} {t:α->ac ak} {f:α->D}:∀(xs:ac α),mC (xs.map fun x=>.tup [.tup ((t x).map D.str),f x])=aa (xs.map fun x=>((t x).map cz,f x))
 |[]=>rfl
 |x::r=>by simp only[qo,mC,uF,qc,Br r,qf]
theorem o6 [er κ] {ps:ac (κ×D)} (h:(ps.map (·.1)).Nodup):sU ps=ps:=by
 have key:∀(l a:ac (κ×D)),((a++l).map (·.1)).Nodup->l.foldl (fun acc kv=>eG acc kv.1 kv.2) a=a++l:=by
  intro l
  induction l with
  |nil=>intro a _;simp
  |cons x r ih=>
   intro a hn;have hx:(a.any fun kv=>decide (kv.1=x.1))=aq:=by rw[QG];intro y hy z;rw[gK,kM] at hn;exact hn.2.2 y.1 (qV hy) x.1 (by simp) (fL z)
   rw[jd];have e:eG a x.1 x.2=a++[x]:=by unfold eG;rw[hx];rfl
   rw[e,ih (a++[x]) (by simpa using hn)];simp
 simpa[sU] using key ps [] (by simpa using h)
theorem uo {β:Type}:∀{fs:ac (ak×β)} {i:al} {k:ak} {d:β},(fs.map (·.1)).Nodup->fs[i]?=aa (k,d)->fs.lookup k=aa d
 |[],i,k,d,_,h=>by simp at h
 |(a,b)::r,0,k,d,_,h=>by
  simp only[qd,RV,Prod.mk.injEq] at h;obtain⟨rfl,rfl⟩:=h;simp[dz]
 |(a,b)::r,i+1,k,d,nd,h=>by
  rw[qe] at h;rw[qo,kD] at nd;have ne:k≠a:=by intro z;subst z;exact nd.1 (qV (f:=(·.1)) (qO h))
  have hb:(k==a)=aq:=by simpa using ne
  simp only[dz,hb];exact uo nd.2 h
theorem pz {β:Type}:∀{fs:ac (ak×β)} {k:ak},k∉fs.map (·.1)->fs.lookup k=ab
 |[],_,_=>rfl
 |(a,b)::r,k,h=>by
  rw[qo,qK,rY] at h;have hb:(k==a)=aq:=by simpa using h.1
  simp only[dz,hb];exact pz h.2
noncomputable def gP (j:JobT) (acc:ac (Key×D)) (m:ak):ac (Key×D):=eG acc (.inr m) (ba j)
noncomputable def jkv (js:ac JobT):ac (Key×D):=js.foldl (fun acc j=>j.ms.foldl (gP j) acc) []
theorem Pa [er κ] (kvs:ac (κ×D)) (k:κ) (v:D):(eG kvs k v).length<=kvs.length+1:=by
 unfold eG;split
 .rw[qg];omega
 .rw[qk];simp
theorem yn (j:JobT):∀(ms:ac ak) (acc:ac (Key×D)),(ms.foldl (gP j) acc).length<=acc.length+ms.length
 |[],acc=>by simp
 |m::r,acc=>by rw[jd];have h1:=yn j r (gP j acc m);have h2:(gP j acc m).length<=acc.length+1:=Pa _ _ _;rw[qj];omega
theorem B7 {m:al}:∀{js:ac JobT} (acc:ac (Key×D)),(∀j∈js,j.ms.length<=m)->(js.foldl (fun acc j=>j.ms.foldl (gP j) acc) acc).length<=acc.length+js.length*m
 |[],acc,_=>by simp
 |j::r,acc,h=>by rw[jd];have h1:=B7 (js:=r) (j.ms.foldl (gP j) acc) fun y hy=>h y (qi _ hy);have h2:=yn j j.ms acc;have h3:=h j qh;rw[qj,yV];omega
noncomputable def iF (bs:ac BenchT) (ss:ac StepT) (js:ac JobT) (us:ac SetT) (ls:ac LinkT) (ks:ac StockT) (h:ag):ac (ak×D):=
 [("benches",.lst (bs.map cm)),("steps",.lst (ss.map bA)),("jobs",.lst (js.map ba)),("setups",.lst (us.map cO)),("links",.lst (ls.map cY)),("stocks",.lst (ks.map cy)),("horizon",.int h),
 ("bench_by_name",.dk (bs.map fun b=>(.inr b.nm,cm b))),("step_by_name",.dk (ss.map fun s=>(.inr s.nm,bA s))),("setup_by_names",.dt (us.map fun u=>([u.b,u.p,u.q].map cz,.int u.n)))]
noncomputable def ot (bs:ac BenchT) (ss:ac StepT) (js:ac JobT) (us:ac SetT) (ls:ac LinkT) (ks:ac StockT) (h:ag):ac (ak×D):=iF bs ss js us ls ks h++[(("job_by_step":ak),D.dk (jkv js))]
noncomputable def aR (bs:ac BenchT) (ss:ac StepT) (js:ac JobT) (us:ac SetT) (ls:ac LinkT) (ks:ac StockT) (h:ag):D:=.ins "Shop" (ot bs ss js us ls ks h)
noncomputable def lJ:ac ak:=["benches","steps","jobs","setups","links","stocks","horizon","bench_by_name","step_by_name","setup_by_names","job_by_step"]
theorem uD:lJ.Nodup:=by decide +kernel
theorem BV {l:ac α} (h:l.Nodup) (n:al):(l.take n).Nodup:=Sh (EH n l) h
section
variable {fs:ac (ak×D)} {f:ak} {fv:FE} {r:bj}
theorem jF (n:al) (hk:lJ[n]?=aa f) (hf:fs.map (·.1)=lJ.take n) (h:fv (aa (.obj "Shop" fs)::r)=aa d):ax (gG "Shop" f 0 fv) g (aa (.obj "Shop" fs)::r)=g (aa (.obj "Shop" (fs++[(f,d)]))::r):=by
 have hno:fs.lookup f=ab:=pz (by
  rw[hf];intro z;obtain⟨i,hi⟩:=zI z;have hin:i<n:=by
   rcases je i n with q|q
   .exact q
   .rw[EZ (by rw[qD];omega)] at hi;cases hi
  rw[yN hin] at hi;have:=(List.getElem?_inj (cX.mp hi).1 uD).mp (hi.trans hk.symm);omega)
 have hlen:fs.length<100:=by have:=cK f8 hf;rw[qg,qD] at this;have k:lJ.length=11:=rfl;omega
 simp only[ax,gG,h,qc,qd,hno,hlen,vq,cA,oW]
theorem vL (n i:al) (hf:fs.map (·.1)=lJ.take n) (h:fs[i]?=aa (f,d)):jD "Shop" f 0 (aa (.obj "Shop" fs)::r)=aa d:=by have e:fs.lookup f=aa d:=uo (by rw[hf];exact BV uD n) h;show(if aa ("Shop":ak)=aa ("Shop":ak) then fs.lookup f else ab)=aa d;rw[qX rfl,e]
end
theorem Bq {f:α->D} {nm:α->ak} {xs:ac α} (hf:∀x,∃r,f x=.tup (.str (nm x)::r)) (h1:fo ρ=aa (.lst (xs.map f))) (h2:xs.length<=1000) (nd:(xs.map nm).Nodup) :
  cF fW (ae (aH (a9 (itF fo) (ay 0) tT (aT (szF (ae .(r) .(T)))) [ab])) aj) ρ=aa (.dk (xs.map fun x=>(.inr (nm x),f x))):=by
 have hc:=ic (fi:=itF fo) (fe:=aT (szF (ae .(r) .(T)))) (fv:=[ab]) (ρ:=ρ) (r:=[]) (a:=ab) (xs:=xs.map f) (f:=fun d=>.tup [match d with|.tup (x::_)=>x|_=>.non,d]) (by unfold itF;rw[h1];rfl) (by rw[qg];exact szN h2 .(g)) rfl (fun x hx=>by obtain⟨y,_,rfl⟩:=bw.mp hx;obtain⟨r,e⟩:=hf y;simp only[ae,aj,vSh,vC,b2,aT,szF,cJ,qd,qc,qf,cA,qj,qm,jS,sz2,e])
 have e:(xs.map f).map (fun d=>D.tup [match d with|.tup (x::_)=>x|_=>.non,d])=xs.map fun x=>.tup [.str (nm x),f x]:=by rw[qp];refine oY fun x _=>?_;obtain⟨r,e⟩:=hf x;simp[e]
 rw[e] at hc;have kn:((xs.map fun x=>((.inr (nm x):Key),f x)).map (·.1)).Nodup:=by rw[qp];have:=oX (S:=fun a b:Key=>a≠b) (cz:ak->Key) (fun a b hab z=>hab (gH z)) nd;rw[qp] at this;exact this
 refine aU (aA hc aO) ?_;show(if _ then _ else _)=_;rw[qX (by rw[qg];exact h2),pJ,qf,o6 kn]
theorem P5 (h1:fo ρ=aa (.lst (us.map cO))) (h2:us.length<=1000) (nd:(us.map fun u=>[u.b,u.p,u.q]).Nodup) :
  cF tF (ae (aH (a9 (itF fo) (ay 0) tT (aT (szF (ae (slF (vSh 0) pN (pS .(j))) (ae (b2 ixD (vSh 0) .(j)) aj)))) [ab])) aj) ρ=aa (.dt (us.map fun u=>([u.b,u.p,u.q].map cz,.int u.n))):=by
 have hc:=ic (fi:=itF fo) (fe:=aT (szF (ae (slF (vSh 0) pN (pS .(j))) (ae (b2 ixD (vSh 0) .(j)) aj)))) (fv:=[ab]) (ρ:=ρ) (r:=[]) (a:=ab) (xs:=us.map cO) (f:=fun d=>match d with|.tup [a,b,c,d]=>.tup [.tup [a,b,c],d]|_=>.non) (by unfold itF;rw[h1];rfl) (by rw[qg];exact szN h2 .(g)) rfl (fun x hx=>by obtain⟨y,_,rfl⟩:=bw.mp hx;simp only[ae,aj,vSh,vC,b2,aT,szF,slF,pN,pS,i0,qd,qc,qf,cA,qj,qm,jS,sz2,cO,wS])
 rw[qp] at hc;have kn:((us.map fun u=>([u.b,u.p,u.q].map (cz:ak->Key),D.int u.n)).map (·.1)).Nodup:=by rw[qp];have inj:∀a b:ac ak,a.map (cz:ak->Key)=b.map cz->a=b:=fun a b z=>(Sf (fun x y q=>gH q)).mp z;have:=oX (S:=fun a b:ac Key=>a≠b) (List.map (cz:ak->Key)) (fun a b hab z=>hab (inj a b z)) nd;rw[qp] at this;exact this
 refine aU (aA hc aO) ?_;show(if _ then _ else _)=_;have e:=Br (t:=fun u:SetT=>[u.b,u.p,u.q]) (f:=fun u=>.int u.n) us;rw[qX (by rw[qg];exact h2)];have e2:mC (us.map ((fun d=>match d with|.tup [a,b,c,d]=>D.tup [.tup [a,b,c],d]|_=>.non) ∘ cO))=aa (us.map fun u=>([u.b,u.p,u.q].map cz,.int u.n)):=e;rw[e2,qf,o6 kn]
section
variable {bs:ac BenchT}
theorem yu:(iF bs ss js us ls ks h).map (·.1)=lJ.take 10:=rfl
theorem Dl:(ot bs ss js us ls ks h).map (·.1)=lJ:=rfl
noncomputable abbrev r9 (bs:ac BenchT) (ss:ac StepT) (js:ac JobT) (us:ac SetT) (ls:ac LinkT) (ks:ac StockT) (h:ag) (a b:ar Slot):bj:=[oS (.lst (bs.map cm)),oS .(ap),oS .(al),oS (.lst (us.map cO)),oS (.lst (ls.map cY)),oS (.lst (ks.map cy)),oS (.int h),oS .non,a,b]
noncomputable abbrev ob (bs:ac BenchT) (ss:ac StepT) (js:ac JobT) (us:ac SetT) (ls:ac LinkT) (ks:ac StockT) (h:ag) (kvs:ac (Key×D)):ar Slot:=aa (.objd "Shop" (iF bs ss js us ls ks h) "job_by_step" kvs)
theorem ON {j:JobT} {kvs:ac (Key×D)} (hl:kvs.length<100000):jr "Shop" "job_by_step" 0 (vSh 10) (vSh 9) (ob bs ss js us ls ks h kvs::r9 bs ss js us ls ks h (oS (ba j)) (oS (.str m)))=aa (.nx,ob bs ss js us ls ks h (gP j kvs m)::r9 bs ss js us ls ks h (oS (ba j)) (oS (.str m))):=by have hno:(iF bs ss js us ls ks h).lookup ("job_by_step":ak)=ab:=pz (by rw[yu];decide +kernel);simp only[jr,vSh,qd,qe,qc,gF,hno,hl,vq,cA,oW,gP]
theorem Js {j:JobT} {acc:ac (Key×D)} {z:ar Slot} (hl:acc.length+j.ms.length<100000):∃z',bD (itF (b2 ixD (vSh 9) .(l))) (ay 10) (jr "Shop" "job_by_step" 0 (vSh 10) (vSh 9)) (ob bs ss js us ls ks h acc::r9 bs ss js us ls ks h (oS (ba j)) z)=aa (.nx,ob bs ss js us ls ks h (j.ms.foldl (gP j) acc)::r9 bs ss js us ls ks h (oS (ba j)) z'):=by
 obtain⟨ρ',h1,z',h2⟩:=dv (gg:=ay 10) (body:=jr "Shop" "job_by_step" 0 (vSh 10) (vSh 9)) (xs:=j.ms.map D.str) (ρ:=ob bs ss js us ls ks h acc::r9 bs ss js us ls ks h (oS (ba j)) z)
  (fun i ρ=>∃z,ρ=ob bs ss js us ls ks h ((j.ms.take i).foldl (gP j) acc)::r9 bs ss js us ls ks h (oS (ba j)) z) ⟨z,by simp⟩ (fun i x ρ hx hI=>by
   obtain⟨z,rfl⟩:=hI;rw[ql] at hx;obtain⟨m,hm,rfl⟩:=oMd hx;have tk:j.ms.take (i+1)=j.ms.take i++[m]:=by rw[Fx,hm];rfl
   have hlen:=yn j (j.ms.take i) acc;rw[qD] at hlen;refine⟨_,_,rfl,ON .(f),oS (.str m),?_⟩;rw[tk,zr];rfl)
 refine⟨z',?_⟩;have e:itF (b2 ixD (vSh 9) .(l)) (ob bs ss js us ls ks h acc::r9 bs ss js us ls ks h (oS (ba j)) z)=aa (j.ms.map D.str):=by simp only[vSh,vC,b2,itF,qZ,fF,qd,qe,qc,ba]
 unfold bD;rw[e,qc,h1,h2,qg,iB]
theorem Ol (hj:js.length<=40) (hm:∀j∈js,j.ms.length<=40):∃z z',fz (ay 9) (bD (itF (b2 ixD (vSh 9) .(l))) (ay 10) (jr "Shop" "job_by_step" 0 (vSh 10) (vSh 9))) (js.map ba) (ob bs ss js us ls ks h []::r9 bs ss js us ls ks h ab ab)=aa (.nx,ob bs ss js us ls ks h (jkv js)::r9 bs ss js us ls ks h z z'):=by
 obtain⟨ρ',h1,z,z',h2⟩:=dv (gg:=ay 9) (body:=bD (itF (b2 ixD (vSh 9) .(l))) (ay 10) (jr "Shop" "job_by_step" 0 (vSh 10) (vSh 9))) (xs:=js.map ba) (ρ:=ob bs ss js us ls ks h []::r9 bs ss js us ls ks h ab ab)
  (fun i ρ=>∃z z',ρ=ob bs ss js us ls ks h (jkv (js.take i))::r9 bs ss js us ls ks h z z') ⟨ab,ab,by simp[jkv]⟩ (fun i x ρ hx hI=>by
   obtain⟨z,z',rfl⟩:=hI;rw[ql] at hx;obtain⟨j,hjm,rfl⟩:=oMd hx;have tk:js.take (i+1)=js.take i++[j]:=by rw[Fx,hjm];rfl
   have hlen:=B7 (m:=40) (js:=js.take i) [] fun y hy=>hm y (u9 hy);rw[qD,qm] at hlen;have h4:=hm j (qO hjm);obtain⟨w,hw⟩:=Js (bs:=bs) (ss:=ss) (js:=js) (us:=us) (ls:=ls) (ks:=ks) (h:=h) (j:=j) (acc:=jkv (js.take i)) (z:=z') (by unfold jkv;omega);refine⟨_,_,rfl,hw,oS (ba j),w,?_⟩;rw[tk];unfold jkv;rw[zr];rfl)
 refine⟨z,z',?_⟩;rw[h1,h2,qg,iB]
theorem LR (g:Good bs ss js us ls ks h) (ml:(js.flatMap (·.ms)).length<=300):xU [.lst (bs.map cm),.lst (ss.map bA),.lst (js.map ba),.lst (us.map cO),.lst (ls.map cY),.lst (ks.map cy),.int h]=aa .(e):=by
 have hl:(ss.map (·.nm)).length<=40:=by rw[qg];exact g.sl.2
 have f1:=im (d:=.lst (bs.map cm)) (gX (by have:=g.bl.2;omega) fun x hx=>Nx (g.b x hx));have f2:=im (d:=.lst (ss.map bA)) (gX (by have:=g.sl.2;omega) fun x hx=>L' (g.s x hx));have f3:=im (d:=.lst (js.map ba)) (gX (by have:=g.jl;omega) fun x hx=>xH hl (g.j x hx));have f4:=im (d:=.lst (us.map cO)) (gX (by have:=g.ul;omega) fun x hx=>Ko);have f5:=im (d:=.lst (ls.map cY)) (gX (by have:=g.ll;omega) fun x hx=>DZ);have f6:=im (d:=.lst (ks.map cy)) (gX (by have:=g.kl;omega) fun x hx=>BF hl (g.k x hx));obtain⟨z,z',ho⟩:=Ol (bs:=bs) (ss:=ss) (us:=us) (ls:=ls) (ks:=ks) (h:=h) g.jl fun j hj=>qL (g.j j hj).ln hl;have key:∀(G:FS) (ρ':bj),G (aa (.obj "Shop" [])::[oS (.lst (bs.map cm)),oS .(ap),oS .(al),oS (.lst (us.map cO)),oS (.lst (ls.map cY)),oS (.lst (ks.map cy)),oS (.int h),ab,ab,ab])=aa (.nx,ob bs ss js us ls ks h (jkv js)::ρ')->
   nB 3 "Shop" G [.lst (bs.map cm),.lst (ss.map bA),.lst (js.map ba),.lst (us.map cO),.lst (ls.map cY),.lst (ks.map cy),.int h]=aa .(e):=fun G ρ' e=>by
  unfold nB;show(G (aa (.obj "Shop" [])::[oS (.lst (bs.map cm)),oS .(ap),oS .(al),oS (.lst (us.map cO)),oS (.lst (ls.map cY)),oS (.lst (ks.map cy)),oS (.int h),ab,ab,ab])).bind _=_;rw[e];rfl
 refine key _ (r9 bs ss js us ls ks h z z') ((aZ (aU rfl (Kf g ml))).trans ?_);show ax _ _ (aa (.obj "Shop" [])::r9 bs ss js us ls ks h ab ab)=_;refine(fO (a5 (b:=aq) rfl)).trans ?_;refine(jF 0 rfl rfl (aU rfl f1)).trans ?_;refine(jF 1 rfl rfl (aU rfl f2)).trans ?_;refine(jF 2 rfl rfl (aU rfl f3)).trans ?_;refine(jF 3 rfl rfl (aU rfl f4)).trans ?_;refine(jF 4 rfl rfl (aU rfl f5)).trans ?_;refine(jF 5 rfl rfl (aU rfl f6)).trans ?_;refine(jF 6 rfl rfl (d:=.int h) rfl).trans ?_;refine(jF 7 rfl rfl (Bq (f:=cm) (nm:=(·.nm)) (xs:=bs) (fun x=>⟨_,rfl⟩) (vL 7 0 rfl rfl) (by have:=g.bl.2;omega) g.bn)).trans ?_;refine(jF 8 rfl rfl (Bq (f:=bA) (nm:=(·.nm)) (xs:=ss) (fun x=>⟨_,rfl⟩) (vL 8 1 rfl rfl) (by have:=g.sl.2;omega) g.sn)).trans ?_;refine(jF 9 rfl rfl (P5 (us:=us) (vL 9 3 rfl rfl) (by have:=g.ul;omega) g.un)).trans ?_;have hno:(iF bs ss js us ls ks h).lookup ("job_by_step":ak)=ab:=pz (by rw[yu];decide +kernel);have hle:(iF bs ss js us ls ks h).length<100:=by simp[iF]
 have e1:og "Shop" "job_by_step" 0 (aa (.obj "Shop" (iF bs ss js us ls ks h))::r9 bs ss js us ls ks h ab ab)=aa (.nx,ob bs ss js us ls ks h []::r9 bs ss js us ls ks h ab ab):=by simp only[og,qd,hno,hle,vq,cA,oW]
 have e2:itF (jD "Shop" "jobs" 0) (ob bs ss js us ls ks h []::r9 bs ss js us ls ks h ab ab)=aa (js.map ba):=by
  have lk:(iF bs ss js us ls ks h).lookup ("jobs":ak)=aa .(al):=uo (i:=2) (by rw[yu];exact BV uD 10) rfl;have n1:("jobs":ak)≠"job_by_step":=by decide +kernel
  have e:jD "Shop" "jobs" 0 (ob bs ss js us ls ks h []::r9 bs ss js us ls ks h ab ab)=aa .(al):=by show(if aa ("Shop":ak)=aa ("Shop":ak) then (if ("jobs":ak)="job_by_step" then ab else (iF bs ss js us ls ks h).lookup ("jobs":ak)) else ab)=_;rw[qX rfl,qY n1,lk]
  unfold itF;rw[e];rfl
 show ax (og "Shop" "job_by_step" 0) (bD (itF (jD "Shop" "jobs" 0)) (ay 9) (bD (itF (b2 ixD (vSh 9) .(l))) (ay 10) (jr "Shop" "job_by_step" 0 (vSh 10) (vSh 9)))) (aa (.obj "Shop" (iF bs ss js us ls ks h))::r9 bs ss js us ls ks h ab ab)=_;unfold ax;rw[e1,qc];show bD _ _ _ _=_;unfold bD;rw[e2,qc];exact ho
end
theorem bH {b:aX} (h:ft ρ=aa b):sIf ft g g' ρ=if b=ai then g ρ else g' ρ:=by unfold sIf;rw[h];rfl
theorem bT {ρ1:bj} (h:g ρ=aa (.nx,ρ1)):ax g g' ρ=g' ρ1:=by unfold ax;rw[h];rfl
theorem jw (h:f ρ=aa d):aG i f ρ=aa (.nx,ρ.set i (oS d)):=by unfold aG;rw[h];rfl
theorem uA (h1:ρ[i]?=aa (aa (.own ds))) (h2:f ρ=aa d) (h3:ds.length<aV):c7 i f ρ=aa (.nx,ρ.set i (aa (.own (ds++[d])))):=by unfold c7;rw[h1];show(f ρ).bind _=_;rw[h2,qc,qX h3]
theorem jW :ax (dL i (szF aj)) g ρ=g (ρ.set i (aa (.own []))):=by
 have z0:(0<=aV)=True:=by simp
 simp only[ax,dL,szF,aj,qc,qf,qm,z0,cA]
theorem iZ (h1:ρ[i]?=aa (aa (.own ds))):eF i g ρ=g (ρ.set i (oS (.lst ds))):=by unfold eF;rw[h1]
theorem cR (h:fi ρ=aa xs):bD fi gg body ρ=fz gg body xs ρ:=by unfold bD;rw[h];rfl
theorem c8 {a b:ag} (h:0<b):bz (.int a) (.int b)=aa (.int (a%b)):=qX h
theorem mR {a b:ag} (h:0<b/\b<1073741824):dA (.int a) (.int b)=aa (.int (a / b)):=qX h
theorem LJ:(2:ag) ^ 64=18446744073709551616:=by decide +kernel
theorem mj {a b:ag} (h:(-1000000000000<a/\a<1000000000000)\/(-1000000000000<b/\b<1000000000000)):cv (.int a) (.int b)=aa (.int (a*b)):=by show(if _ then _ else _)=_;rw[LJ];exact qX .(f)
theorem jZ (ns:ac ag) (k:al):dS [.scr ns,.int (k:ag)]=aa (.int (ns.getD k 0)):=by
 have e:toB (b2 ltD (vSh 1) (cF b9 .(T))) [oS (.scr ns),oS (.int k)]=aa (decide (k<ns.length)):=by
  simp only[toB,cF,ae,aj,vSh,b2,b9,ltD,qd,qe,qc,qf]
  congr 1
  exact si.mpr .(f)
 by_cases h:k<ns.length
 .refine bM [oS (.scr ns),oS (.int k)] rfl (j6 (e.trans (by rw[qR h])) (bS ?_));show(atI ns (k:ag)).map D.int=_;rw[lz];simp[oR,h]
 .refine bM [oS (.scr ns),oS (.int k)] rfl ((fO (e.trans (by rw[qM h]))).trans (bS ?_));have:ns.getD k 0=0:=by simp[oR,Q6 h]
  rw[this];rfl
noncomputable abbrev dE (c:ag) (k:al) (sz:ac ag) (n:ag) (ds:ac ag) (a b:ar Slot):bj:=[oS (.int c),oS (.int k),oS (.lst (sz.map D.int)),oS (.int n),aa (.own (ds.map D.int)),a,b]
noncomputable def yf:FS:=sIf (orT (toB (b2 eqD (b2 bz (vSh 0) .(i)) .(c))) (toB (b2 eqD (vSh 3) .(d)))) .(ad) (ax (c7 4 (b2 bz (vSh 3) (vSh 6))) (aG 3 (b2 dA (vSh 3) (vSh 6))))
theorem Ox {c n s:ag} {k t:al} {sz ds:ac ag} (hk:k<=1000) (ht:t<=100) (hs:0<s/\s<1073741824) (hl:ds.length<=100):∃n' d,yf (dE c k sz n ds (oS (.int t)) (oS (.int s)))=aa (.nx,dE c k sz n' (ds++[d]) (oS (.int t)) (oS (.int s)))/\0<=d/\d<s:=by
 have e1:toB (b2 eqD (b2 bz (vSh 0) .(i)) .(c)) (dE c k sz n ds (oS (.int t)) (oS (.int s)))=aa (decide (c%2=1)):=
  a5 (au (au rfl rfl (c8 .(g))) rfl rfl)
 have e2:toB (b2 eqD (vSh 3) .(d)) (dE c k sz n ds (oS (.int t)) (oS (.int s)))=aa (decide (n=0)):=a5 .(G);have e3:orT (toB (b2 eqD (b2 bz (vSh 0) .(i)) .(c))) (toB (b2 eqD (vSh 3) .(d))) (dE c k sz n ds (oS (.int t)) (oS (.int s)))=aa (decide (c%2=1) || decide (n=0)):=by unfold orT;rw[e1,qc,e2];cases decide (c%2=1)<;>rfl
 have hsz:(ds.map D.int).length<aV:=by rw[qg];unfold aV;omega
 unfold yf;rw[bH e3];split
 .have q1:0<=(n+c)%2147483629:=qW _ .(g);have q2:(n+c)%2147483629<2147483629:=qT _ .(g);have q3:0<=(k:ag)+t/\(k:ag)+t<=1100:=by omega
  have q4:0<=7919*((k:ag)+t)*((k:ag)+t):=Fz .(f) q3.1;have q5:7919*((k:ag)+t)*((k:ag)+t)<=7919*1100*1100:=Int.mul_le_mul .(f) q3.2 q3.1 .(g)
  let n2:ag:=(n+c)%2147483629+48271+7919*((k:ag)+t)*((k:ag)+t)
  refine⟨n2*n2%2147483587,n2*n2%2147483587 / 16%s,(aZ (au (au .(G) rfl (c8 .(g))) rfl rfl)).trans ((aZ (au rfl (au (au rfl .(G) (mj (.inl .(g)))) .(G) (mj (.inr .(f)))) rfl)).trans ((aZ (au (au rfl rfl (mj (.inl .(f)))) rfl (c8 .(g)))).trans (uA rfl (au (au rfl rfl (mR .(g))) rfl (c8 hs.1)) hsz))) |>.trans ?_,qW _ .(f),qT _ hs.1⟩;simp[dE];exact⟨rfl,rfl⟩
 .refine⟨n / s,n%s,(bT (uA rfl (au rfl rfl (c8 hs.1)) hsz)).trans (jw (au rfl rfl (mR hs))) |>.trans ?_,qW _ .(f),qT _ hs.1⟩;simp[dE]
theorem mv (h:(xs.mapIdx fun i d=>D.tup [.int i,d])[i]?=aa d):∃x,xs[i]?=aa x/\d=.tup [.int i,x]:=by rw[E4] at h;obtain⟨x,hx,rfl⟩:=oMd h;exact⟨x,hx,rfl⟩
theorem kX (c:ag) (k:al) (hk:k<=1000) (sz:ac ag) (hs:∀s∈sz,0<s/\s<1073741824) (hl:sz.length<=100) :
  ∃ds:ac ag,dQ [.int c,.int (k:ag),.lst (sz.map D.int)]=aa .(k)/\ds.length=sz.length/\∀(i:al) s,sz[i]?=aa s->∃d,ds[i]?=aa d/\0<=d/\d<s:=by
 obtain⟨n0,hn0⟩:∃n0:ag,b2 dA (cF sL .(T)) .(i) [oS (.int c),oS (.int k),oS (.lst (sz.map D.int)),ab,ab,ab,ab]=aa (.int n0):=⟨_,au (aU (aA rfl aO) rfl) rfl (mR .(g))⟩;obtain⟨ρ',h1,n,ds,a,b,h2,h3,h4⟩:=dv (gg:=bJ 2 .(ak)) (body:=yf) (xs:=(sz.map D.int).mapIdx fun i d=>D.tup [.int i,d]) (ρ:=dE c k sz n0 [] ab ab)
  (fun i ρ=>∃n ds a b,ρ=dE c k sz n ds a b/\ds.length=i/\∀(j:al) s,j<i->sz[j]?=aa s->∃d,ds[j]?=aa d/\0<=d/\d<s) ⟨n0,[],ab,ab,rfl,rfl,fun j s hj=>by omega⟩ (fun i x ρ hx hI=>by
   obtain⟨n,ds,a,b,rfl,hlen,hb⟩:=hI;obtain⟨y,hy,rfl⟩:=mv hx;rw[ql] at hy;obtain⟨s,hsi,rfl⟩:=oMd hy;have hi:i<sz.length:=(cX.mp hsi).1;obtain⟨n',d,e1,e2,e3⟩:=Ox (c:=c) (n:=n) (k:=k) (t:=i) (sz:=sz) (ds:=ds) hk .(f) (hs s (qO hsi)) .(f);refine⟨_,_,rfl,e1,n',ds++[d],_,_,rfl,by rw[qk,hlen];rfl,fun j s' hj hs'=>?_⟩;by_cases hji:j=i
   .subst hji;rw[hsi] at hs';cases hs';exact⟨d,by rw[qJ .(f),hlen,Nat.sub_self];rfl,e2,e3⟩
   .obtain⟨d',q1,q2⟩:=hb j s' .(f) hs';exact⟨d',by rw[qy .(f)];exact q1,q2⟩)
 rw[kG,qg] at h3 h4;refine⟨ds,?_,h3,fun i s hi=>h4 i s (cX.mp hi).1 hi⟩;refine bM [oS (.int c),oS (.int k),oS (.lst (sz.map D.int)),ab,ab,ab,ab] rfl ((aZ hn0).trans (jW.trans ((bT ((cR (xs:=(sz.map D.int).mapIdx fun i d=>D.tup [.int i,d]) rfl).trans (h1.trans (by rw[h2])))).trans ((iZ rfl).trans (bS (f:=vSh 4) rfl)))))
noncomputable def nm (k:al):ak:=match fX [.int (k:ag)] with
 |some (.str x)=>x
 |_=>⟨#[]⟩
noncomputable def D2 (k:al):aX:=match fX [.int (k:ag)] with
 |some (.str x)=>bf x
 |_=>aq
theorem PH:∀k,k<90->D2 k=ai:=by decide +kernel
theorem lu {k:al} (h:k<90):fX [.int (k:ag)]=aa (.str (nm k))/\bf (nm k)=ai:=by
 have:=PH k h;unfold D2 at this;unfold nm;split at this
 .rename_i x e;rw[e];exact⟨rfl,this⟩
 .cases this
theorem L1:∀i,i<10->∀j,j<10->nm i=nm j->i=j:=by decide +kernel
theorem P7:∀i,i<3->∀j,j<3->nm (60+i)=nm (60+j)->i=j:=by decide +kernel
theorem He:∀i,i<3->∀j,j<3->nm (70+i)=nm (70+j)->i=j:=by decide +kernel
theorem Ld:∀i,i<7->∀j,j<7->nm (80+i)=nm (80+j)->i=j:=by decide +kernel
noncomputable def pqr (i:al):ak:=if i=0 then "p" else if i=1 then "q" else "r"
theorem ny:∀i,i<3->bf (pqr i)=ai:=by decide +kernel
theorem xB {i:ag} (h0:0<=i) (h:i<3):ixD (.str "pqr") (.int i)=aa (.str (pqr i.toNat)):=by
 have:i=0\/i=1\/i=2:=by omega
 rcases this with rfl|rfl|rfl<;>rfl
theorem Kx {d:ag} (h:0<=d):mr ab (aa d) (.lst xs)=aa (.lst (xs.take d.toNat)):=by
 show aa (D.lst (dX xs ab (aa d)))=_;unfold dX HT.sIx;simp only;rw[qY .(f),ni,Nat.sub_zero]
 congr 2
 rw[Si];split
 .rfl
 .rw[rO (qw _),rO .(f)]
theorem IE {d:ag} (h:0<=d):mr (aa d) ab (.lst xs)=aa (.lst (xs.drop d.toNat)):=by
 show aa (D.lst (dX xs (aa d) ab))=_;unfold dX HT.sIx;simp only;rw[qY .(f)]
 congr 2
 rw[Si];split
 .rw[rO (by rw[ja];omega)]
 .rw[Sj (qw _),Sj .(f)];simp
theorem tW {g:FE} {d:ag} (h1:f ρ=aa (.lst xs)) (h2:g ρ=aa (.int d)) (h:0<=d):slF f pN (pS g) ρ=aa (.lst (xs.take d.toNat)):=by unfold slF pN pS;rw[h1,h2];exact Kx h
theorem pF {g:FE} {d:ag} (h1:f ρ=aa (.lst xs)) (h2:g ρ=aa (.int d)) (h:0<=d):slF f (pS g) pN ρ=aa (.lst (xs.drop d.toNat)):=by unfold slF pN pS;rw[h1,h2];exact IE h
structure GoodI (h:ag) (br:ac (ag×ag)):Prop where
 iv:∀p∈br,0<=p.1/\p.1<p.2/\p.2<=h
 gap:∀(i:al) p q,br[i]?=aa p->br[i+1]?=aa q->p.2<q.1
noncomputable abbrev sE (rs:ac (ag×ag)) (h:ag) (br:ac (ag×ag)) (f:ag) (a b c d:ar Slot):bj:=[oS (.lst (rs.map dIv)),oS (.int h),aa (.own (br.map dIv)),oS (.int f),a,b,c,d]
noncomputable def C7:FS:=ax (aG 6 (b2 aK (vSh 3) (vSh 4))) (ax (aG 7 (b2 aK (b2 aK (vSh 6) .(c)) (vSh 5))) (sIf (toB (b2 leD (vSh 7) (vSh 1))) (ax (c7 2 (aT (szF (ae (vSh 6) (ae (vSh 7) aj))))) (aG 3 (b2 aK (vSh 7) .(c)))) aP))
theorem dw {g:FE} {x:D} (h1:f ρ=aa x) (h2:g ρ=aa y):aT (szF (ae f (ae g aj))) ρ=aa (.tup [x,y]):=by simp only[aT,szF,ae,aj,h1,h2,qc,qf,qj,qm,jS,sz2,cA]
theorem o5 {g e:FE} {x:D} (h1:f ρ=aa x) (h2:g ρ=aa y) (h3:e ρ=aa z):aT (szF (ae f (ae g (ae e aj)))) ρ=aa (.tup [x,y,z]):=by simp only[aT,szF,ae,aj,h1,h2,h3,qc,qf,qj,qm,jS,sz3,cA]
theorem N1 {g e a:FE} {x w:D} (h1:f ρ=aa x) (h2:g ρ=aa y) (h3:e ρ=aa z) (h4:a ρ=aa w):aT (szF (ae f (ae g (ae e (ae a aj))))) ρ=aa (.tup [x,y,z,w]):=by simp only[aT,szF,ae,aj,h1,h2,h3,h4,qc,qf,qj,qm,jS,sz4,cA]
theorem CJ {g e a b:FE} {x w u:D} (h1:f ρ=aa x) (h2:g ρ=aa y) (h3:e ρ=aa z) (h4:a ρ=aa w) (h5:b ρ=aa u):aT (szF (ae f (ae g (ae e (ae a (ae b aj)))))) ρ=aa (.tup [x,y,z,w,u]):=by simp only[aT,szF,ae,aj,h1,h2,h3,h4,h5,qc,qf,qj,qm,jS,sz5,cA]
theorem MZ (rs:ac (ag×ag)) (h:ag) (hr:∀p∈rs,0<=p.1/\0<=p.2) (hl:rs.length<=3):∃br:ac (ag×ag),sr [.lst (rs.map dIv),.int h]=aa (.lst (br.map dIv))/\br.length<=rs.length/\GoodI h br:=by
 obtain⟨ρ',h1,br,f,a,b,c,d,h2,h3,h4,h5,h6⟩:=dv (gg:=bJ 2 .(O)) (body:=C7) (xs:=rs.map dIv) (ρ:=sE rs h [] 0 ab ab ab ab)
  (fun i ρ=>∃br f a b c d,ρ=sE rs h br f a b c d/\br.length<=i/\GoodI h br/\0<=f/\∀p∈br,p.2<f) ⟨[],0,ab,ab,ab,ab,rfl,qw _,⟨fun p hp=>(by cases hp),fun i p q hp=>(by simp at hp)⟩,sj _,fun p hp=>(by cases hp)⟩ (fun i x ρ hx hI=>by
   obtain⟨br,f,a,b,c,d,rfl,hlen,hg,hf,hlt⟩:=hI;rw[ql] at hx;obtain⟨p,hp,rfl⟩:=oMd hx;obtain⟨p1,p2⟩:=hr p (qO hp);have hi:i<rs.length:=(cX.mp hp).1;have hsz:(br.map dIv).length<aV:=by rw[qg];unfold aV;omega
   have pre:∀ρ2,(sIf (toB (b2 leD (vSh 7) (vSh 1))) (ax (c7 2 (aT (szF (ae (vSh 6) (ae (vSh 7) aj))))) (aG 3 (b2 aK (vSh 7) .(c)))) aP) (sE rs h br f (oS (.int p.1)) (oS (.int p.2)) (oS (.int (f+p.1))) (oS (.int (f+p.1+1+p.2))))=aa (.nx,ρ2)->C7 (sE rs h br f (oS (.int p.1)) (oS (.int p.2)) c d)=aa (.nx,ρ2):=fun ρ2 q=>
    (aZ .(G)).trans ((aZ (au .(G) rfl rfl)).trans q)
   have e:toB (b2 leD (vSh 7) (vSh 1)) (sE rs h br f (oS (.int p.1)) (oS (.int p.2)) (oS (.int (f+p.1))) (oS (.int (f+p.1+1+p.2))))=aa (decide (f+p.1+1+p.2<=h)):=a5 .(G);by_cases hh:f+p.1+1+p.2<=h
   .rw[qR hh] at e;refine⟨_,_,rfl,pre _ ((bH e).trans ((qX rfl).trans ((bT (uA rfl (dw rfl rfl) hsz)).trans (jw .(G))))),br++[(f+p.1,f+p.1+1+p.2)],f+p.1+1+p.2+1,oS (.int p.1),oS (.int p.2),oS (.int (f+p.1)),oS (.int (f+p.1+1+p.2)),?_,?_,⟨fun q hq=>?_,fun j q q' hq hq'=>?_⟩,by omega,fun q hq=>?_⟩
    .simp[sE,dIv]
    .rw[qk];simp;omega
    .rcases dn.mp hq with z|z
     .exact hg.iv q z
     .rw[bX.mp z];exact⟨by omega,by omega,hh⟩
    .have hj:j+1<br.length+1:=by have:=(cX.mp hq').1;simpa using this
     rw[qy .(f)] at hq;by_cases hj2:j+1<br.length
     .rw[qy hj2] at hq';exact hg.gap j q q' hq hq'
     .rw[qJ .(f),show j+1-br.length=0 by omega] at hq';cases hq';have:=hlt q (qO hq);show q.2<f+p.1;omega
    .rcases dn.mp hq with z|z
     .have:=hlt q z;omega
     .rw[bX.mp z];show f+p.1+1+p.2 < _;omega
   .rw[qM hh] at e;exact⟨_,_,rfl,pre _ ((bH e).trans rfl),br,f,_,_,_,_,rfl,by omega,hg,hf,hlt⟩)
 rw[qg] at h3;refine⟨br,bM [oS (.lst (rs.map dIv)),oS (.int h),ab,ab,ab,ab,ab,ab] rfl (jW.trans ((aZ (d:=.int 0) rfl).trans ((bT ((cR (xs:=rs.map dIv) rfl).trans (h1.trans (by rw[h2])))).trans ((iZ rfl).trans (bS (f:=vSh 2) rfl))))),h3,h4⟩
theorem mh {g:α->D} {xs:ac α} {x:α} (h1:ρ[i]?=aa (aa (.own (xs.map g)))) (h2:f ρ=aa (g x)) (h3:xs.length<=1000):c7 i f ρ=aa (.nx,ρ.set i (aa (.own ((xs++[x]).map g)))):=by rw[uA h1 h2 (by rw[qg];unfold aV;omega),gK];rfl
theorem Aj {g e:FE} {x:D} (h1:f ρ=aa x) (h2:g ρ=aa y) (h3:e ρ=aa z):aH (szF (ae f (ae g (ae e aj)))) ρ=aa (.lst [x,y,z]):=by simp only[aH,szF,ae,aj,h1,h2,h3,qc,qf,qj,qm,jS,sz3,cA]
theorem cw {ds:ac ag} {d:ag} (h1:f ρ=aa .(k)) (h2:ds[n]?=aa d):b2 ixD f (vC (.int (n:ag))) ρ=aa (.int d):=
 au h1 rfl (by rw[ixL,ql,h2];rfl)
structure BenchAt (h:ag) (i:al) (b:BenchT):Prop where
 nm:b.nm=nm (60+i)
 len:b.br.length<=3
 good:GoodI h b.br
noncomputable abbrev bE (cs:ac ag) (h:ag) (bs:ac BenchT) (a b c d:ar Slot):bj:=[oS (.lst (cs.map D.int)),oS (.int h),aa (.own (bs.map cm)),a,b,c,d]
noncomputable def Ab:FE:=aH (szF (ae .(l) (ae (vC (.int 5)) (ae .(j) (ae (vC (.int 7)) (ae .(l) (ae (vC (.int 9)) (ae (vC (.int 5)) aj))))))))
theorem Nk (ρ:bj):Ab ρ=aa (.lst (([4,5,3,7,4,9,5]:ac ag).map D.int)):=rfl
noncomputable def AN:FS:=ax (aG 5 (cF dQ (ae (vSh 4) (ae (vSh 3) (ae Ab aj))))) .(H)
theorem Hy {c:ag} {bs:ac BenchT} {y z:ar Slot} (hi:i<3) (hl:bs.length<=3):∃b u v,AN (bE cs h bs .(am) (oS (.int c)) y z)=aa (.nx,bE cs h (bs++[b]) .(am) (oS (.int c)) u v)/\BenchAt h i b:=by
 obtain⟨ds,e,hd,hb⟩:=kX c i .(f) [4,5,3,7,4,9,5] .(g) .(g);obtain⟨d0,q0,p0,_⟩:=hb 0 4 rfl;obtain⟨d1,q1,p1,_⟩:=hb 1 5 rfl;obtain⟨d2,q2,p2,_⟩:=hb 2 3 rfl;obtain⟨d3,q3,p3,_⟩:=hb 3 7 rfl;obtain⟨d4,q4,p4,_⟩:=hb 4 4 rfl;obtain⟨d5,q5,p5,_⟩:=hb 5 9 rfl;obtain⟨d6,q6,p6,_⟩:=hb 6 5 rfl;have hrs:∀p∈([(d1,d2),(d3,d4),(d5,d6)]:ac (ag×ag)).take d0.toNat,0<=p.1/\0<=p.2:=fun p hp=>by
  have:=u9 hp;simp only[qK,qI,or_false] at this;rcases this with rfl|rfl|rfl
  .exact⟨p1,p2⟩
  .exact⟨p3,p4⟩
  .exact⟨p5,p6⟩
 obtain⟨br,es,hbl,hbg⟩:=MZ (([(d1,d2),(d3,d4),(d5,d6)]:ac (ag×ag)).take d0.toNat) h hrs (by rw[qD];simp;omega);have hn:=(lu (k:=60+i) .(f)).1;have hn':fX [.int (60+(i:ag))]=aa (.str (nm (60+i))):=by rw[←hn];congr 2
 refine⟨⟨nm (60+i),br⟩,_,_,(aZ (d:=.lst (ds.map D.int)) (aU (aA rfl (aA rfl (aA (Nk _) aO))) e)).trans ((aZ (d:=.lst ((([(d1,d2),(d3,d4),(d5,d6)]:ac (ag×ag)).take d0.toNat).map dIv)) ?_).trans (mh rfl (dw (aU (aA .(G) aO) hn') (aU .(n) es)) .(f))),rfl,by rw[qD] at hbl;simp at hbl;show br.length<=3;omega,hbg⟩;rw[FB];exact tW (xs:=[dIv (d1,d2),dIv (d3,d4),dIv (d5,d6)]) (Aj (dw (cw rfl q1) (cw rfl q2)) (dw (cw rfl q3) (cw rfl q4)) (dw (cw rfl q5) (cw rfl q6))) (cw rfl q0) p0
theorem J4 (cs:ac ag) (h:ag) (hl:cs.length<=3):∃bs:ac BenchT,we [.lst (cs.map D.int),.int h]=aa (.lst (bs.map cm))/\bs.length=cs.length/\∀(i:al) b,bs[i]?=aa b->BenchAt h i b:=by
 obtain⟨ρ',h1,bs,a,b,c,d,h2,h3,h4⟩:=dv (gg:=bJ 2 (aJ (ay 3) (aJ (ay 4) bI))) (body:=AN) (xs:=(cs.map D.int).mapIdx fun i d=>D.tup [.int i,d]) (ρ:=bE cs h [] ab ab ab ab)
  (fun i ρ=>∃bs a b c d,ρ=bE cs h bs a b c d/\bs.length=i/\∀(j:al) b,bs[j]?=aa b->BenchAt h j b) ⟨[],ab,ab,ab,ab,rfl,rfl,fun j b hj=>(by simp at hj)⟩ (fun i x ρ hx hI=>by
   obtain⟨bs,a,b,c,d,rfl,hlen,hb⟩:=hI;obtain⟨y,hy,rfl⟩:=mv hx;rw[ql] at hy;obtain⟨s,hsi,rfl⟩:=oMd hy;have hi:i<cs.length:=(cX.mp hsi).1;obtain⟨b',u,v,e1,e2⟩:=Hy (cs:=cs) (h:=h) (c:=s) (bs:=bs) (i:=i) (y:=c) (z:=d) .(f) .(f);refine⟨_,_,rfl,e1,bs++[b'],_,_,_,_,rfl,by rw[qk,hlen];rfl,fun j b'' hj=>?_⟩;by_cases hji:j<bs.length
   .rw[qy hji] at hj;exact hb j b'' hj
   .have hl2:=(cX.mp hj).1;rw[qk,qU] at hl2;rw[qJ .(f),show j-bs.length=0 by omega] at hj;cases hj;rw[show j=i by omega];exact e2)
 rw[kG,qg] at h3;exact⟨bs,bM [oS (.lst (cs.map D.int)),oS (.int h),ab,ab,ab,ab,ab] rfl (jW.trans ((bT ((cR (xs:=(cs.map D.int).mapIdx fun i d=>D.tup [.int i,d]) rfl).trans (h1.trans (by rw[h2])))).trans ((iZ rfl).trans (bS (f:=vSh 2) rfl)))),h3,h4⟩
noncomputable def bnm (bs:ac BenchT) (i:al):ak:=(bs.map (·.nm)).getD i ⟨#[]⟩
theorem B6 {bs:ac BenchT} (h:i<bs.length):bnm bs i∈bs.map (·.nm):=by unfold bnm;rw[nu,ql,qC h];exact qV (rQ h)
theorem CH {bs:ac BenchT} {g:FE} {d:ag} (h1:f ρ=aa (.lst (bs.map cm))) (h2:g ρ=aa (.int d)) (h3:0<=d) (h4:d<bs.length):b2 ixD (b2 ixD f g) .(d) ρ=aa (.str (bnm bs d.toNat)):=by
 obtain⟨n,rfl⟩:=Sk h3;have hd:n<bs.length:=by omega
 have e:ixD (.lst (bs.map cm)) (.int (n:ag))=aa (cm bs[n]):=by rw[ixL,ql,qC hd];rfl
 refine au (au h1 h2 e) rfl ?_;show ixD (.tup _) (.int 0)=_;rw[cJ];unfold bnm;rw[l0,nu,ql,qC hd];rfl
structure StepAt (bn:ac ak) (h:ag) (i:al) (s:StepT):Prop where
 nm:s.nm=nm i
 good:GoodS bn h s
noncomputable abbrev tE (cs:ac ag) (bs:ac BenchT) (h lo:ag) (ss:ac StepT) (a b c d:ar Slot):bj:=[oS (.lst (cs.map D.int)),oS (.lst (bs.map cm)),oS (.int h),oS (.int lo),aa (.own (ss.map bA)),a,b,c,d]
theorem G9 {x:D} (h1:f ρ=aa x):szF (ae f aj) ρ=aa [x]:=by simp only[szF,ae,aj,h1,qc,qf,qj,qm,jS,sz1,cA]
theorem z4 {g e a b c:FE} {x w u v:D} (h1:f ρ=aa x) (h2:g ρ=aa y) (h3:e ρ=aa z) (h4:a ρ=aa w) (h5:b ρ=aa u) (h6:c ρ=aa v):aH (szF (ae f (ae g (ae e (ae a (ae b (ae c aj))))))) ρ=aa (.lst [x,y,z,w,u,v]):=by simp only[aH,szF,ae,aj,h1,h2,h3,h4,h5,h6,qc,qf,qj,qm,jS,sz6,cA]
theorem vN {g e a b c d:FE} {x w u v t:D} (h1:f ρ=aa x) (h2:g ρ=aa y) (h3:e ρ=aa z) (h4:a ρ=aa w) (h5:b ρ=aa u) (h6:c ρ=aa v) (h7:d ρ=aa t):aH (szF (ae f (ae g (ae e (ae a (ae b (ae c (ae d aj)))))))) ρ=aa (.lst [x,y,z,w,u,v,t]):=by simp only[aH,szF,ae,aj,h1,h2,h3,h4,h5,h6,h7,qc,qf,qj,qm,jS,sz7,cA]
theorem vt (h:fr ρ=aa ds):ax (dL i fr) g ρ=g (ρ.set i (aa (.own ds))):=by simp only[ax,dL,h,qf,qc]
theorem wg {f g:FT} {a b:aX} (h1:f ρ=aa a) (h2:g ρ=aa b):cD f g ρ=aa (a && b):=by unfold cD;rw[h1,qc,h2];cases a<;>rfl
theorem ya (a:ag) (hh:1<=h):1<=1+a%h/\1+a%h<=h:=by have h1:=qW a (show h≠0 by omega);have h2:=qT a (show 0<h by omega);omega
noncomputable def DR:FS:=(ax (aG 7 (cF dQ .(ae))) .(z))
theorem Hq {c:ag} {bs:ac BenchT} {y z:ar Slot} (hh:1<=h) (hlo:0<lo/\lo<1000) (hi:i<10) (hb:1<=bs.length/\bs.length<=3) (bnd:(bs.map (·.nm)).Nodup) (hl:ss.length<=10) :
  ∃s u v,DR (tE cs bs h lo ss .(am) (oS (.int c)) y z)=aa (.nx,tE cs bs h lo (ss++[s]) .(am) (oS (.int c)) u v)/\StepAt (bs.map (·.nm)) h i s:=by
 obtain⟨ds,e,hd,hbd⟩:=kX c (i+7) .(f) [3,(bs.length:ag),lo,(bs.length:ag),lo,3] (by intro s hs;simp only[qK,qI,or_false] at hs;rcases hs with rfl|rfl|rfl|rfl|rfl|rfl<;>omega) (by simp)
 obtain⟨d0,q0,p0,_⟩:=hbd 0 3 rfl;obtain⟨d1,q1,p1,r1⟩:=hbd 1 _ rfl;obtain⟨d2,q2,p2,_⟩:=hbd 2 _ rfl;obtain⟨d3,q3,p3,r3⟩:=hbd 3 _ rfl;obtain⟨d4,q4,p4,_⟩:=hbd 4 _ rfl;obtain⟨d5,q5,p5,r5⟩:=hbd 5 3 rfl;obtain⟨hn,hnb⟩:=lu (k:=i) .(f);have w1:(bnm bs d1.toNat)∈bs.map (·.nm):=B6 .(f);have w3:(bnm bs d3.toNat)∈bs.map (·.nm):=B6 .(f);have bm:∀a b:al,a<bs.length->b<bs.length->bnm bs a=bnm bs b->a=b:=fun a b ha hb' hab=>by unfold bnm at hab;rw[nu,nu,qC (by simpa using ha),qC (by simpa using hb')] at hab;exact(Qu bnd).mp hab
 let W1:ak×ag:=(bnm bs d1.toNat,1+d2%h)
 let W3:ak×ag:=(bnm bs d3.toNat,1+d4%h)
 have e7:((i:ag)+7)=((i+7:al):ag):=by omega
 have eD:cF dQ .(ae) (tE cs bs h lo ss .(am) (oS (.int c)) y z)=aa .(k):=by
  refine aU (aA (d:=.int c) rfl (aA (d:=.int ((i:ag)+7)) .(G) (aA (z4 rfl (y:=.int (bs.length:al)) ?_ rfl (w:=.int (bs.length:al)) ?_ rfl rfl) aO))) (by rw[e7];exact e)<;>
  .refine aU (aA rfl aO) ?_;show aa (D.int _)=_;rw[qg]
 have fin:∀(ws:ac (ak×ag)),GoodS (bs.map (·.nm)) h ⟨nm i,pqr d5.toNat,ws⟩->eF 8 (c7 4 (aT (szF (ae (cF fX (ae (vSh 5) aj)) (ae (b2 ixD (vC (.str "pqr")) (b2 ixD (vSh 7) (vC (.int 5)))) (ae (vSh 8) aj)))))) (tE cs bs h lo ss .(am) (oS (.int c)) (oS .(k)) (aa (.own (ws.map dW))))=aa (.nx,tE cs bs h lo (ss++[⟨nm i,pqr d5.toNat,ws⟩]) .(am) (oS (.int c)) (oS .(k)) (oS (.lst (ws.map dW)))):=fun ws _=>
  (iZ rfl).trans (mh rfl (o5 (aU (aA rfl aO) hn) (au rfl (cw rfl q5) (xB p5 r5)) rfl) .(f))
 have eW:∀Z,szF (ae (aT (szF (ae (b2 ixD (b2 ixD (vSh 1) (b2 ixD (vSh 7) .(c))) .(d)) (ae (b2 aK .(c) (b2 bz (b2 ixD (vSh 7) .(i)) (vSh 2))) aj)))) aj) (tE cs bs h lo ss .(am) (oS (.int c)) (oS .(k)) Z)=aa ([W1].map dW):=fun Z=>
  G9 (dw (CH rfl (cw rfl q1) p1 .(f)) (au rfl (au (cw rfl q2) rfl (c8 .(f))) rfl))
 have eT:∀Z,cD (toB (b2 eqD (b2 ixD (vSh 7) .(d)) .(d))) (toB (b2 neA (b2 ixD (vSh 7) .(j)) (b2 ixD (vSh 7) .(c)))) (tE cs bs h lo ss .(am) (oS (.int c)) (oS .(k)) Z)=aa (decide (d0=0) && !decide (d3=d1)):=fun Z=>
  wg (a5 (au (cw rfl q0) rfl rfl)) (a5 (au (cw rfl q3) (cw rfl q1) rfl))
 have g1:GoodS (bs.map (·.nm)) h ⟨nm i,pqr d5.toNat,[W1]⟩:=⟨hnb,ny _ .(f),by simp,by simp,fun w hw=>by rw[bX.mp hw];exact⟨w1,ya d2 hh⟩,by simp⟩
 by_cases ht:(decide (d0=0) && !decide (d3=d1))=ai
 .have hne:d3≠d1:=by simp only[gI,Fn,Fp] at ht;exact ht.2
  have g2:GoodS (bs.map (·.nm)) h ⟨nm i,pqr d5.toNat,[W1]++[W3]⟩:=⟨hnb,ny _ .(f),by simp,by simp,fun w hw=>by
   rcases dn.mp hw with q|q
   .rw[bX.mp q];exact⟨w1,ya d2 hh⟩
   .rw[bX.mp q];exact⟨w3,ya d4 hh⟩,by
   show[bnm bs d1.toNat,bnm bs d3.toNat].Nodup;rw[kD];refine⟨fun q=>?_,by simp⟩;have:=bm _ _ .(f) .(f) (bX.mp q);omega⟩
  exact⟨_,_,_,(aZ eD).trans ((vt (eW z)).trans ((bT ((bH (eT _)).trans ((qX ht).trans (mh (x:=W3) rfl (dw (CH rfl (cw rfl q3) p3 .(f)) (au rfl (au (cw rfl q4) rfl (c8 .(f))) rfl)) (by simp))))).trans (fin _ g2))),rfl,g2⟩
 .exact⟨_,_,_,(aZ eD).trans ((vt (eW z)).trans ((bT ((bH (eT _)).trans ((qY ht).trans rfl))).trans (fin _ g1))),rfl,g1⟩
theorem M7 (cs:ac ag) (bs:ac BenchT) (h lo:ag) (hh:1<=h) (hlo:0<lo/\lo<1000) (hl:cs.length<=10) (hb:1<=bs.length/\bs.length<=3) (bnd:(bs.map (·.nm)).Nodup):∃ss:ac StepT,vI [.lst (cs.map D.int),.lst (bs.map cm),.int h,.int lo]=aa .(ap)/\ss.length=cs.length/\∀(i:al) s,ss[i]?=aa s->StepAt (bs.map (·.nm)) h i s:=by
 obtain⟨ρ',h1,ss,a,b,c,d,h2,h3,h4⟩:=dv (gg:=bJ 2 .(ak)) (body:=DR) (xs:=(cs.map D.int).mapIdx fun i d=>D.tup [.int i,d]) (ρ:=tE cs bs h lo [] ab ab ab ab)
  (fun i ρ=>∃ss a b c d,ρ=tE cs bs h lo ss a b c d/\ss.length=i/\∀(j:al) s,ss[j]?=aa s->StepAt (bs.map (·.nm)) h j s) ⟨[],ab,ab,ab,ab,rfl,rfl,fun j b hj=>(by simp at hj)⟩ (fun i x ρ hx hI=>by
   obtain⟨ss,a,b,c,d,rfl,hlen,hb'⟩:=hI;obtain⟨y,hy,rfl⟩:=mv hx;rw[ql] at hy;obtain⟨s,hsi,rfl⟩:=oMd hy;have hi:i<cs.length:=(cX.mp hsi).1;obtain⟨s',u,v,e1,e2⟩:=Hq (cs:=cs) (h:=h) (lo:=lo) (c:=s) (bs:=bs) (ss:=ss) (i:=i) (y:=c) (z:=d) hh hlo .(f) hb bnd .(f);refine⟨_,_,rfl,e1,ss++[s'],_,_,_,_,rfl,by rw[qk,hlen];rfl,fun j b'' hj=>?_⟩;by_cases hji:j<ss.length
   .rw[qy hji] at hj;exact hb' j b'' hj
   .have hl2:=(cX.mp hj).1;rw[qk,qU] at hl2;rw[qJ .(f),show j-ss.length=0 by omega] at hj;cases hj;rw[show j=i by omega];exact e2)
 rw[kG,qg] at h3;exact⟨ss,bM [oS (.lst (cs.map D.int)),oS (.lst (bs.map cm)),oS (.int h),oS (.int lo),ab,ab,ab,ab,ab] rfl (jW.trans ((bT ((cR (xs:=(cs.map D.int).mapIdx fun i d=>D.tup [.int i,d]) rfl).trans (h1.trans (by rw[h2])))).trans ((iZ rfl).trans (bS (f:=vSh 4) rfl)))),h3,h4⟩
theorem oy:∀(ns:ac ak),nj (ns.map fN)=0
 |[]=>by simp[nj]
 |x::r=>by simp[nj,kL,oy r]
theorem OV (h:∀x∈ns,bf x=ai):dH (.list (ns.map fN))=ai:=by simp[dH,jT,kO h,kL,oy]
theorem Az (h:∀x∈ns,bf x=ai):neA (.lst (ns.map D.str)) (.lst [])=aa (.bl (!ns.isEmpty)):=by
 have e0:neA (.lst (ns.map D.str)) (.lst [])=mf (.lst (ns.map D.str)) (.lst []):=rfl;have s1:=OV h;have s2:dH (.list [])=ai:=by simp[dH,jT,jQ,kL,nj]
 have p1:pdD (.lst (ns.map D.str))=aa (.list (ns.map fN)):=by simp[pdD,su]
 have p2:pdD (.lst [])=aa (.list []):=by simp[pdD,gm]
 have q:hV (.list (ns.map fN)) (.list [])=ns.isEmpty:=by cases ns<;>simp[hV,kN]
 rw[e0];unfold mf eqX;rw[p1,p2,qc,qc,qX ⟨s1,s2⟩,q];rfl
noncomputable abbrev jE (cs:ac ag) (ss:ac StepT) (h:ag) (js:ac JobT) (lf:ac ak) (a b c d e f:ar Slot):bj:=[oS (.lst (cs.map D.int)),oS .(ap),oS (.int h),aa (.own (js.map ba)),oS (.lst (lf.map D.str)),a,b,c,d,e,f]
structure JInv (sn:ac ak) (h:ag) (i:al) (js:ac JobT) (lf:ac ak):Prop where
 len:js.length<=i
 nd:(js.flatMap (·.ms)++lf).Nodup
 sub:∀x∈js.flatMap (·.ms)++lf,x∈sn
 ll:lf.length<=sn.length
 good:∀j∈js,GoodJ sn h j
 nmd:(js.map (·.nm)).Nodup
 nmk:∀j∈js,∃k,k<i/\j.nm=nm (70+k)
noncomputable def D5:FS:=.(aa)
theorem HY {a:ag} (hh:1<=h) (ha:0<=a):∃m,ig [.int h,.int a]=aa (.int m)/\0<=m/\m<=h:=by
 refine⟨_,rfl,?_,?_⟩
 .omega
 .omega
theorem OO {a:ag} (hh:1<=h) (ha:a<=h):∃m,gC [.int 0,.int a]=aa (.int m)/\0<=m/\m<=h:=by
 refine⟨_,rfl,?_,?_⟩
 .omega
 .omega
theorem CK {a c:ag} (h:f ρ=aa (.int a)):∃b:ag,cF gS (ae (b2 eqD f (vC (.int c))) aj) ρ=aa (.int b)/\0<=b/\b<=1:=by refine⟨if decide (a=c)=ai then 1 else 0,aU (aA (au h rfl rfl) aO) rfl,?_,?_⟩<;>split<;>decide
theorem HV {c:ag} {lf:ac ak} {y z w v:ar Slot} (hh:1<=h) (hi:i<3) (hs:∀x∈ss.map (·.nm),bf x=ai) (I:JInv (ss.map (·.nm)) h i js lf) (hsl:ss.length<=40) :
  ∃js' lf' y' z' w' v',D5 (jE cs ss h js lf .(am) (oS (.int c)) y z w v)=aa (.nx,jE cs ss h js' lf' .(am) (oS (.int c)) y' z' w' v')/\JInv (ss.map (·.nm)) h (i+1) js' lf':=by
 obtain⟨ds,e,hd,hbd⟩:=kX c (i+17) .(f) [4,3,3,2,5,7] .(g) .(g);obtain⟨d0,q0,p0,r0⟩:=hbd 0 4 rfl;obtain⟨d1,q1,p1,_⟩:=hbd 1 3 rfl;obtain⟨d2,q2,p2,_⟩:=hbd 2 3 rfl;obtain⟨d3,q3,p3,_⟩:=hbd 3 2 rfl;obtain⟨d4,q4,p4,_⟩:=hbd 4 5 rfl;obtain⟨d5,q5,p5,_⟩:=hbd 5 7 rfl;have hn:=(lu (k:=70+i) .(f)).1;have hnb:=(lu (k:=70+i) .(f)).2;have hn':fX [.int (70+(i:ag))]=aa (.str (nm (70+i))):=by rw[←hn];congr 2
 have e17:((i:ag)+17)=((i+17:al):ag):=by omega
 generalize hsm:lf.take d0.toNat=sm;generalize hlf:lf.drop d0.toNat=lf';have hlf2:lf=sm++lf':=by rw[←hsm,←hlf,rT]
 have hslen:sm.length<=3:=by rw[←hsm,qD];omega
 have hsml:sm.length+lf'.length=lf.length:=by rw[hlf2,qk]
 have hsn:∀x∈sm,bf x=ai:=fun x hx=>hs x (I.sub x (qP _ (by rw[hlf2];exact yx _ hx)));have eD:cF dQ (ae (vSh 6) (ae (b2 aK (vSh 5) (vC (.int 17))) (ae (aH (szF (ae .(l) (ae .(j) (ae .(j) (ae .(i) (ae (vC (.int 5)) (ae (vC (.int 7)) aj)))))))) aj))) (jE cs ss h js lf .(am) (oS (.int c)) y z w v)=aa .(k):=
  aU (aA (d:=.int c) rfl (aA (d:=.int ((i:ag)+17)) .(G) (aA (z4 rfl rfl rfl rfl rfl rfl) aO))) (by rw[e17];exact e)
 have e8:slF (vSh 4) pN (pS (b2 ixD (vSh 7) .(d))) (jE cs ss h js lf .(am) (oS (.int c)) (oS .(k)) z w v)=aa (.lst (sm.map D.str)):=by rw[←hsm,FB];exact tW rfl (cw rfl q0) p0
 have e4:slF (vSh 4) (pS (b2 ixD (vSh 7) .(d))) pN (jE cs ss h js lf .(am) (oS (.int c)) (oS .(k)) (oS (.lst (sm.map D.str))) w v)=aa (.lst (lf'.map D.str)):=by rw[←hlf,sk];exact pF rfl (cw rfl q0) p0
 have eT:toB (b2 neA (vSh 8) (aH (szF aj))) (jE cs ss h js lf' .(am) (oS (.int c)) (oS .(k)) (oS (.lst (sm.map D.str))) w v)=aa (!sm.isEmpty):=a5 (au rfl (y:=.lst []) rfl (Az hsn));by_cases hem:sm.isEmpty=ai
 .have hsm0:sm=[]:=List.isEmpty_iff.mp hem;rw[hem] at eT;refine⟨js,lf',_,_,_,_,(aZ eD).trans ((aZ e8).trans ((aZ e4).trans ((bH eT).trans rfl))),⟨by have:=I.len;omega,?_,?_,by have:=I.ll;omega,I.good,I.nmd,fun j hj=>?_⟩⟩
  .have:=I.nd;rw[hlf2,hsm0] at this;exact this
  .have:=I.sub;rw[hlf2,hsm0] at this;exact this
  .obtain⟨k,h1,h2⟩:=I.nmk j hj;exact⟨k,by omega,h2⟩
 .have hem':sm.isEmpty=aq:=by simpa using hem
  rw[hem'] at eT;have hs1:1<=sm.length:=by
   cases sm with
   |nil=>simp at hem
   |cons a b=>simp
  obtain⟨b1,f1,f2,f3⟩:=CK (c:=0) (f:=b2 ixD (vSh 7) .(i)) (ρ:=jE cs ss h js lf' .(am) (oS (.int c)) (oS .(k)) (oS (.lst (sm.map D.str))) w v) (cw rfl q2);obtain⟨ea,m1,m2,m3⟩:=HY (h:=h) (a:=d1*b1) hh (Fz p1 f2);have e9:cF ig (ae (vSh 2) (ae (b2 cv (b2 ixD (vSh 7) .(c)) (cF gS (ae (b2 eqD (b2 ixD (vSh 7) .(i)) .(d)) aj))) aj)) (jE cs ss h js lf' .(am) (oS (.int c)) (oS .(k)) (oS (.lst (sm.map D.str))) w v)=aa (.int ea):=
   aU (aA rfl (aA (au (cw rfl q1) f1 (mj (.inr .(f)))) aO)) m1
  obtain⟨b2',f4,f5,f6⟩:=CK (c:=1) (f:=b2 ixD (vSh 7) .(i)) (ρ:=jE cs ss h js lf' .(am) (oS (.int c)) (oS .(k)) (oS (.lst (sm.map D.str))) (oS (.int ea)) v) (cw rfl q2);obtain⟨du,n1,n2,n3⟩:=OO (h:=h) (a:=h-d4*b2') hh (by have:=Fz p4 f5;omega);have e10:cF gC (ae .(d) (ae (b2 eN (vSh 2) (b2 cv (b2 ixD (vSh 7) .(l)) (cF gS (ae (b2 eqD (b2 ixD (vSh 7) .(i)) .(c)) aj)))) aj)) (jE cs ss h js lf' .(am) (oS (.int c)) (oS .(k)) (oS (.lst (sm.map D.str))) (oS (.int ea)) v)=aa (.int du):=
   aU (aA rfl (aA (au rfl (au (cw rfl q4) f4 (mj (.inr .(f)))) rfl) aO)) n1
  have t0:0<=d5%2:=qW _ .(g);generalize htt:(d5%2).toNat=t;have hrl:(sm.drop t++sm.take t).length=sm.length:=by rw[qk,ja,qD];omega
  have e8':b2 aK (slF (vSh 8) (pS (b2 bz (b2 ixD (vSh 7) (vC (.int 5))) .(i))) pN) (slF (vSh 8) pN (pS (b2 bz (b2 ixD (vSh 7) (vC (.int 5))) .(i)))) (jE cs ss h js lf' .(am) (oS (.int c)) (oS .(k)) (oS (.lst (sm.map D.str))) (oS (.int ea)) (oS (.int du)))=aa (.lst ((sm.drop t++sm.take t).map D.str)):=by refine au (pF rfl (au (cw rfl q5) rfl (c8 .(g))) t0) (tW rfl (au (cw rfl q5) rfl (c8 .(g))) t0) ?_;show(if _ then _ else _)=_;rw[qX,htt,gK,sk,FB];rw[ja,qD,qg];unfold aV;omega
  let J:JobT:=⟨nm (70+i),ea,du,decide (d3=1),sm.drop t++sm.take t⟩
  have perm:(sm.drop t++sm.take t).Perm sm:=(List.perm_append_comm).trans (by rw[rT]);have pa:((js++[J]).flatMap (·.ms)++lf').Perm (js.flatMap (·.ms)++lf):=by rw[List.flatMap_append,hlf2,oN];refine R4 _ ?_;rw[List.flatMap_singleton];exact List.Perm.append_right _ perm
  refine⟨js++[J],lf',_,_,_,_,(aZ eD).trans ((aZ e8).trans ((aZ e4).trans ((bH eT).trans ((qX rfl).trans ((aZ e9).trans ((aZ e10).trans ((aZ e8').trans (mh rfl (CJ (aU (aA .(G) aO) hn') rfl rfl (au (cw rfl q3) rfl rfl) rfl) (by have:=I.len;omega))))))))),⟨?_,?_,?_,?_,?_,?_,?_⟩⟩
  .rw[qk];have:=I.len;simp;omega
  .exact(pa.nodup_iff).mpr I.nd
  .exact fun x hx=>I.sub x (pa.mem_iff.mp hx)
  .have:=I.ll;omega
  .intro j hj;rcases dn.mp hj with q|q
   .exact I.good j q
   .rw[bX.mp q];refine⟨hnb,⟨m2,m3⟩,⟨n2,n3⟩,by show 1<=(sm.drop t++sm.take t).length;omega,by show(sm.drop t++sm.take t).length<=_;have:=I.ll;omega,fun m hm=>?_⟩;exact I.sub m (qP _ (by rw[hlf2];exact yx _ (perm.mem_iff.mp hm)))
  .rw[gK,kM];refine⟨I.nmd,by simp,fun a ha b hb hab=>?_⟩;obtain⟨j,hj,rfl⟩:=bw.mp ha;obtain⟨k,hk,hk2⟩:=I.nmk j hj;have hb':b=nm (70+i):=by simpa using hb
   have:=He k .(f) i hi (hk2.symm.trans (hab.trans hb'));omega
  .intro j hj;rcases dn.mp hj with q|q
   .obtain⟨k,h1,h2⟩:=I.nmk j q;exact⟨k,by omega,h2⟩
   .rw[bX.mp q];exact⟨i,by omega,rfl⟩
theorem LN (cs:ac ag) (ss:ac StepT) (h:ag) (hh:1<=h) (hl:cs.length<=3) (hsl:ss.length<=40) (hs:∀x∈ss.map (·.nm),bf x=ai) (snd:(ss.map (·.nm)).Nodup):∃js:ac JobT,yr [.lst (cs.map D.int),.lst (ss.map bA),.int h]=aa .(al)/\js.length<=3/\(∀j∈js,GoodJ (ss.map (·.nm)) h j)/\(js.map (·.nm)).Nodup/\(js.flatMap (·.ms)).Nodup:=by
 obtain⟨ρ',h1,js,lf,a,b,c,d,e,f,h2,h3⟩:=dv (gg:=bJ 2 .(ak)) (body:=D5) (xs:=(cs.map D.int).mapIdx fun i d=>D.tup [.int i,d]) (ρ:=jE cs ss h [] (ss.map (·.nm)) ab ab ab ab ab ab)
  (fun i ρ=>∃js lf a b c d e f,ρ=jE cs ss h js lf a b c d e f/\JInv (ss.map (·.nm)) h i js lf) ⟨[],ss.map (·.nm),ab,ab,ab,ab,ab,ab,rfl,⟨qw _,by simpa using snd,fun x hx=>(by simpa using hx),qw _,fun j hj=>(by cases hj),by simp,fun j hj=>(by cases hj)⟩⟩ (fun i x ρ hx hI=>by obtain⟨js,lf,a,b,c,d,e,f,rfl,I⟩:=hI;obtain⟨y,hy,rfl⟩:=mv hx;rw[ql] at hy;obtain⟨s,hsi,rfl⟩:=oMd hy;have hi:i<cs.length:=(cX.mp hsi).1;obtain⟨js',lf',y',z',w',v',e1,e2⟩:=HV (cs:=cs) (h:=h) (c:=s) (ss:=ss) (js:=js) (lf:=lf) (i:=i) (y:=c) (z:=d) (w:=e) (v:=f) hh .(f) hs I hsl;exact⟨_,_,rfl,e1,js',lf',_,_,_,_,_,_,rfl,e2⟩)
 rw[kG,qg] at h3;have nn:=jX (i:=1) (fv:=[ab]) (ρ:=[oS (.lst (cs.map D.int)),oS .(ap),oS (.int h),aa (.own []),ab,ab,ab,ab,ab,ab,ab]) (f:=bA) (nm:=(·.nm)) (xs:=ss) (fun x=>⟨_,rfl⟩) rfl (szN hsl .(g)) rfl;refine⟨js,bM [oS (.lst (cs.map D.int)),oS .(ap),oS (.int h),ab,ab,ab,ab,ab,ab,ab,ab] rfl (jW.trans ((aZ nn).trans ((bT ((cR (xs:=(cs.map D.int).mapIdx fun i d=>D.tup [.int i,d]) rfl).trans (h1.trans (by rw[h2])))).trans ((iZ rfl).trans (bS (f:=vSh 3) rfl))))),qL h3.len hl,h3.good,h3.nmd,?_⟩;exact(kM.mp h3.nd).1
theorem pI (t:ac ak):pdD (.tup (t.map D.str))=aa (.tuple (t.map fN)):=by simp[pdD,su]
theorem AT:∀(ts:ac (ac ak)),gm (ts.map fun t=>.tup (t.map D.str))=aa (ts.map fun t=>.tuple (t.map fN))
 |[]=>by simp[gm]
 |t::r=>by simp[gm,pI,AT r]
theorem B9:∀{ts:ac (ac ak)},(∀t∈ts,∀x∈t,bf x=ai)->jQ (ts.map fun t=>.tuple (t.map fN))=ai
 |[],_=>by simp[jQ]
 |t::r,h=>by simp only[qo,jQ,jT,kO (h t qh),vm];exact B9 fun y hy=>h y (qi _ hy)
theorem uw:∀(a b:ac ak),kN (a.map fN) (b.map fN)=decide (a=b)
 |[],[]=>by simp[kN]
 |[],_::_=>by simp[kN]
 |_::_,[]=>by simp[kN]
 |x::r,y::t=>by
  simp only[qo,kN,hV,uw r t];by_cases e:x=y
  .subst e;simp
  .simp[e]
theorem zX (t:ac ak):∀(ts:ac (ac ak)),((ts.map fun t=>Rg (t.map fN)).any fun z=>hV z (.tuple (t.map fN)))=decide (t∈ts)
 |[]=>by simp
 |y::r=>by
  rw[qo,kF,zX t r];simp only[hV,uw];by_cases e:y=t
  .subst e;simp
  .have:t≠y:=fun z=>e z.symm;simp[e,this]
theorem Ch {t:ac ak} {ts:ac (ac ak)} (hx:∀x∈t,bf x=ai) (hn:∀y∈ts,∀x∈y,bf x=ai):fV (.tup (t.map D.str)) (.lst (ts.map fun t=>.tup (t.map D.str)))=aa (.bl (!decide (t∈ts))):=by
 have sh:dH (.tuple (t.map fN))=ai:=by simp[dH,jT,kO hx,kL,oy]
 have p1:pdD (.lst (ts.map fun t=>.tup (t.map D.str)))=aa (.list (ts.map fun t=>.tuple (t.map fN))):=by simp[pdD,AT]
 unfold fV inX;rw[pI,p1,qc,qc];simp only[sh,B9 hn,vq,cA,zX,qf]
theorem xc {f:α->D} {nm:α->ak} {xs:ac α} {g:FE} {d:ag} (hf:∀x,∃r,f x=.tup (.str (nm x)::r)) (h1:fo ρ=aa (.lst (xs.map f))) (h2:g ρ=aa (.int d)) (h3:0<=d) (h4:d<xs.length):∃x∈xs,b2 ixD (b2 ixD fo g) .(d) ρ=aa (.str (nm x)):=by
 obtain⟨n,rfl⟩:=Sk h3;have hd:n<xs.length:=by omega
 refine⟨xs[n],rQ hd,au (au h1 h2 (show ixD _ (.int (n:ag))=aa (f xs[n]) by rw[ixL,ql,qC hd];rfl)) rfl ?_⟩;obtain⟨r,e⟩:=hf xs[n];rw[e,cJ]
theorem FM {g:FE} {ds:ac ag} {m d:ag} (h1:f ρ=aa .(k)) (h2:g ρ=aa (.int m)) (hm:m=(n:ag)) (h3:ds[n]?=aa d):b2 ixD f g ρ=aa (.int d):=
 au h1 h2 (by rw[hm,ixL,ql,h3];rfl)
theorem wE {l:ac D} (h:f ρ=aa (.lst l)):cF b9 (ae f aj) ρ=aa (.int (l.length:al)):=aU (aA h aO) rfl
theorem C6 {b:aX} (h1:ρ[i]?=aa (aa (.own ds))) (h2:ft (ρ.set i (oS (.lst ds)))=aa b):bwT i ft ρ=aa b:=by unfold bwT;rw[h1];exact h2
theorem JN {x:ac D} {j:ag} (h : -(2 ^ 63)<=j/\j<2 ^ 63/\x.length*j.toNat<=aV):cv (.lst x) (.int j)=aa (.lst (ce j.toNat x).flatten):=qX h
theorem NO:cv (.lst [.int 4]) (.int 6)=aa (.lst (([4,4,4,4,4,4]:ac ag).map D.int)):=JN (x:=[.int 4]) (j:=6) .(g)
structure UInv (bn:ac ak) (h:ag) (i:al) (us:ac SetT):Prop where
 len:us.length<=i
 good:∀u∈us,GoodU bn h u
 nd:(us.map fun u=>[u.b,u.p,u.q]).Nodup
noncomputable abbrev uE (c:ag) (bs:ac BenchT) (h:ag) (us:ac SetT) (a b d e:ar Slot):bj:=[oS (.int c),oS (.lst (bs.map cm)),oS (.int h),aa (.own (us.map cO)),a,b,d,e]
noncomputable def Ee:FS:=.(D)
theorem Lb {c m:ag} {bs:ac BenchT} {y z:ar Slot} (hh:1<=h) (hm:0<=m) (hi:i<6) (hb:1<=bs.length) (hbn:∀x∈bs.map (·.nm),bf x=ai) (I:UInv (bs.map (·.nm)) h i us) :
  ∃us' y' z',Ee (uE c bs h us .(am) (oS (.int m)) y z)=aa (.nx,uE c bs h us' .(am) (oS (.int m)) y' z')/\UInv (bs.map (·.nm)) h (i+1) us':=by
 have k0:0<=(i:ag)%(bs.length:al):=qW _ .(f);have k1:(i:ag)%(bs.length:al)<(bs.length:al):=qT _ .(f);obtain⟨b,hbm,e6⟩:=xc (f:=cm) (nm:=(·.nm)) (xs:=bs) (ρ:=uE c bs h us .(am) (oS (.int m)) y z) (fo:=vSh 1) (g:=b2 bz (vSh 4) (cF b9 .(K))) (d:=(i:ag)%(bs.length:al)) (fun x=>⟨_,rfl⟩) rfl (au rfl (wE rfl) (by rw[qg];exact c8 .(f))) k0 k1;have t0:0<=(i:ag)%3:=qW _ .(g);have t1:(i:ag)%3<3:=qT _ .(g);have s0:0<=((i:ag)+m)%3:=qW _ .(g);have s1:((i:ag)+m)%3<3:=qT _ .(g)
 let U:SetT:=⟨b.nm,pqr ((i:ag)%3).toNat,pqr (((i:ag)+m)%3).toNat,if m<h then m else h⟩
 have e7:aT (szF (ae (vSh 6) (ae (b2 ixD (vC (.str "pqr")) (b2 bz (vSh 4) .(j))) (ae (b2 ixD (vC (.str "pqr")) (b2 bz (b2 aK (vSh 4) (vSh 5)) .(j))) (ae (cF ig (ae (vSh 2) (ae (vSh 5) aj))) aj))))) (uE c bs h us .(am) (oS (.int m)) (oS (.str b.nm)) z)=aa (cO U):=
  N1 rfl (au rfl (au rfl rfl (c8 .(g))) (xB t0 t1)) (au rfl (au .(G) rfl (c8 .(g))) (xB s0 s1)) (aU .(n) rfl)
 have nU:∀x∈[U.b,U.p,U.q],bf x=ai:=fun x hx=>by
  simp only[qK,qI,or_false] at hx;rcases hx with rfl|rfl|rfl
  .exact hbn _ (qV hbm)
  .exact ny _ .(f)
  .exact ny _ .(f)
 have nA:∀y∈us.map (fun u=>[u.b,u.p,u.q]),∀x∈y,bf x=ai:=fun y hy x hx=>by
  obtain⟨u,hu,rfl⟩:=bw.mp hy;have g:=I.good u hu;simp only[qK,qI,or_false] at hx;rcases hx with rfl|rfl|rfl
  .exact hbn _ g.b
  .exact g.p
  .exact g.q
 have hul:us.length<=6:=qL I.len .(f);have eL:aH (a9 (itF (vSh 3)) (ay 0) tT (slF (vSh 0) pN (pS .(j))) [ab]) [oS (.int c),oS (.lst (bs.map cm)),oS (.int h),oS (.lst (us.map cO)),oS (.int i),oS (.int m),oS (.str b.nm),oS (cO U)]=aa (.lst ((us.map fun u=>[u.b,u.p,u.q]).map fun t=>.tup (t.map D.str))):=by
  rw[qp];refine(ic (r:=[]) (a:=ab) (xs:=us.map cO) (f:=fun d=>match d with|.tup [a,b,c,d]=>.tup [a,b,c]|_=>.non) rfl (by rw[qg];exact szN hul .(g)) rfl fun x hx=>?_).trans ?_
  .obtain⟨p,hp,rfl⟩:=bw.mp hx;simp only[vSh,vC,slF,pN,pS,qd,qc,cO,wS]
  .rw[qp];rfl
 have eT:bwT 3 (cD (toB (b2 gtD (vSh 5) .(d))) (toB (b2 fV (slF (vSh 7) pN (pS .(j))) (aH (a9 (itF (vSh 3)) (ay 0) tT (slF (vSh 0) pN (pS .(j))) [ab]))))) (uE c bs h us .(am) (oS (.int m)) (oS (.str b.nm)) (oS (cO U)))=aa (decide (0<m) && !decide ([U.b,U.p,U.q]∈us.map fun u=>[u.b,u.p,u.q])):=
  C6 rfl (wg (a5 .(G)) (a5 (au (x:=.tup ([U.b,U.p,U.q].map D.str)) rfl eL (Ch nU nA))))
 by_cases ht:(decide (0<m) && !decide ([U.b,U.p,U.q]∈us.map fun u=>[u.b,u.p,u.q]))=ai
 .have hq:0<m/\[U.b,U.p,U.q]∉us.map fun u=>[u.b,u.p,u.q]:=by simpa using ht
  refine⟨us++[U],_,_,(aZ e6).trans ((aZ e7).trans ((bH eT).trans ((qX ht).trans (mh (x:=U) rfl rfl .(f))))),⟨?_,?_,?_⟩⟩
  .rw[qk];have:=I.len;simp;omega
  .intro u hu;rcases dn.mp hu with q|q
   .exact I.good u q
   .rw[bX.mp q];refine⟨qV hbm,ny _ .(f),ny _ .(f),?_,?_⟩
    .show 1<=if m<h then m else h
     split<;>omega
    .show(if m<h then m else h)<=h;split<;>omega
  .rw[gK,kM];refine⟨I.nd,by simp,fun a ha b' hb' hab=>?_⟩;have:b'=[U.b,U.p,U.q]:=by simpa using hb'
   rw[hab,this] at ha;exact hq.2 ha
 .exact⟨us,_,_,(aZ e6).trans ((aZ e7).trans ((bH eT).trans ((qY ht).trans rfl))),⟨by have:=I.len;omega,I.good,I.nd⟩⟩
theorem FW (c:ag) (bs:ac BenchT) (h:ag) (hh:1<=h) (hb:1<=bs.length) (hbn:∀x∈bs.map (·.nm),bf x=ai):∃us:ac SetT,wj [.int c,.lst (bs.map cm),.int h]=aa (.lst (us.map cO))/\us.length<=6/\(∀u∈us,GoodU (bs.map (·.nm)) h u)/\(us.map fun u=>[u.b,u.p,u.q]).Nodup:=by
 obtain⟨ds,e,hd,hbd⟩:=kX c 3 .(f) [4,4,4,4,4,4] .(g) .(g);have eM:b2 cv (aH (szF (ae .(l) aj))) (vC (.int 6)) (uE c bs h [] ab ab ab ab)=aa (.lst (([4,4,4,4,4,4]:ac ag).map D.int)):=
  au (x:=.lst [.int 4]) (y:=.int 6) rfl rfl NO
 have hd6:ds.length=6:=hd;obtain⟨ρ',h1,us,a,b,d,f,h2,h3⟩:=dv (gg:=bJ 2 .(O)) (body:=Ee) (xs:=(ds.map D.int).mapIdx fun i d=>D.tup [.int i,d]) (ρ:=uE c bs h [] ab ab ab ab)
  (fun i ρ=>∃us a b d e,ρ=uE c bs h us a b d e/\UInv (bs.map (·.nm)) h i us) ⟨[],ab,ab,ab,ab,rfl,⟨qw _,fun j hj=>(by cases hj),by simp⟩⟩ (fun i x ρ hx hI=>by
   obtain⟨us,a,b,d,e,rfl,I⟩:=hI;obtain⟨y,hy,rfl⟩:=mv hx;rw[ql] at hy;obtain⟨s,hsi,rfl⟩:=oMd hy;have hi:i<ds.length:=(cX.mp hsi).1;have hs0:0<=s:=by
    have h6:i<6:=by omega
    have:([4,4,4,4,4,4]:ac ag)[i]?=aa 4:=by
     have:i=0\/i=1\/i=2\/i=3\/i=4\/i=5:=by omega
     rcases this with rfl|rfl|rfl|rfl|rfl|rfl<;>rfl
    obtain⟨d,q1,q2,_⟩:=hbd i 4 this;rw[hsi] at q1;cases q1;exact q2
   obtain⟨us',y',z',e1,e2⟩:=Lb (c:=c) (h:=h) (m:=s) (bs:=bs) (us:=us) (i:=i) (y:=d) (z:=e) hh hs0 .(f) hb hbn I;exact⟨_,_,rfl,e1,us',_,_,_,_,rfl,e2⟩)
 rw[kG,qg] at h3;have eI:itE (cF dQ (ae (vSh 0) (ae .(j) (ae (b2 cv (aH (szF (ae .(l) aj))) (vC (.int 6))) aj)))) (uE c bs h [] ab ab ab ab)=aa ((ds.map D.int).mapIdx fun i d=>D.tup [.int i,d]):=by have:cF dQ (ae (vSh 0) (ae .(j) (ae (b2 cv (aH (szF (ae .(l) aj))) (vC (.int 6))) aj))) (uE c bs h [] ab ab ab ab)=aa .(k):=aU (aA rfl (aA rfl (aA eM aO))) e;unfold itE;rw[this];rfl
 exact⟨us,bM [oS (.int c),oS (.lst (bs.map cm)),oS (.int h),ab,ab,ab,ab,ab] rfl (jW.trans ((bT ((cR eI).trans (h1.trans (by rw[h2])))).trans ((iZ rfl).trans (bS (f:=vSh 3) rfl)))),by have:=h3.len;omega,h3.good,h3.nd⟩
structure LInv (sn:ac ak) (h:ag) (i:al) (ls:ac LinkT):Prop where
 len:ls.length<=i
 good:∀l∈ls,GoodL sn h l
 nd:(ls.map fun l=>[l.a,l.b]).Nodup
noncomputable abbrev lE (c:ag) (ss:ac StepT) (h:ag) (ls:ac LinkT) (ds:ac ag) (a b d:ar Slot):bj:=[oS (.int c),oS .(ap),oS (.int h),aa (.own (ls.map cY)),oS .(k),a,b,d]
noncomputable def An:FS:=.(x)
theorem Mf {c:ag} {ds:ac ag} {y z:ar Slot} (hh:1<=h) (hi:i<2) (hs1:1<=ss.length) (hsn:∀x∈ss.map (·.nm),bf x=ai) (hds:∀j,j<7->∃d,ds[j]?=aa d/\0<=d) (I:LInv (ss.map (·.nm)) h i ls) :
  ∃ls' y' z',An (lE c ss h ls ds (oS (.int (0+(i:ag)))) y z)=aa (.nx,lE c ss h ls' ds (oS (.int (0+(i:ag)))) y' z')/\LInv (ss.map (·.nm)) h (i+1) ls':=by
 obtain⟨x1,q1,p1⟩:=hds (1+3*i) .(f);obtain⟨x2,q2,p2⟩:=hds (2+3*i) .(f);obtain⟨x3,q3,p3⟩:=hds (3+3*i) .(f);have ixs:∀(n:al) (y z:ar Slot) (lst:ac D) (x:ag) (k:ag),k=(n:ag)->ds[n+3*i]?=aa x->∀s3:ar Slot,b2 ixD (vSh 4) (b2 aK (vC (.int k)) (b2 cv .(j) (vSh 5))) [oS (.int c),oS .(ap),oS (.int h),s3,oS .(k),oS (.int (0+(i:ag))),y,z]=aa (.int x):=fun n y z _ x k hk hx s3=>
  FM (n:=n+3*i) rfl (au rfl (au rfl rfl (mj (.inl .(g)))) rfl) .(f) hx
 have m1:∀x:ag,0<=x%(ss.length:al)/\x%(ss.length:al)<(ss.length:al):=fun x=>⟨qW _ .(f),qT _ .(f)⟩;obtain⟨sa,ha,e6⟩:=xc (f:=bA) (nm:=(·.nm)) (xs:=ss) (ρ:=lE c ss h ls ds (oS (.int (0+(i:ag)))) y z) (fo:=vSh 1) (g:=b2 bz (b2 ixD (vSh 4) (b2 aK .(c) (b2 cv .(j) (vSh 5)))) (cF b9 .(K))) (d:=x1%(ss.length:al)) (fun x=>⟨_,rfl⟩) rfl (au (ixs 1 y z [] x1 1 rfl q1 _) (wE rfl) (by rw[qg];exact c8 .(f))) (m1 x1).1 (m1 x1).2;obtain⟨sb,hb,e7⟩:=xc (f:=bA) (nm:=(·.nm)) (xs:=ss) (ρ:=lE c ss h ls ds (oS (.int (0+(i:ag)))) (oS (.str sa.nm)) z) (fo:=vSh 1) (g:=b2 bz (b2 ixD (vSh 4) (b2 aK .(i) (b2 cv .(j) (vSh 5)))) (cF b9 .(K))) (d:=x2%(ss.length:al)) (fun x=>⟨_,rfl⟩) rfl (au (ixs 2 _ z [] x2 2 rfl q2 _) (wE rfl) (by rw[qg];exact c8 .(f))) (m1 x2).1 (m1 x2).2
 let U:LinkT:=⟨sa.nm,sb.nm,if x3<h then x3 else h⟩
 have nU:∀x∈[U.a,U.b],bf x=ai:=fun x hx=>by
  simp only[qK,qI,or_false] at hx;rcases hx with rfl|rfl
  .exact hsn _ (qV ha)
  .exact hsn _ (qV hb)
 have nA:∀y∈ls.map (fun l=>[l.a,l.b]),∀x∈y,bf x=ai:=fun y hy x hx=>by
  obtain⟨u,hu,rfl⟩:=bw.mp hy;have g:=I.good u hu;simp only[qK,qI,or_false] at hx;rcases hx with rfl|rfl
  .exact hsn _ g.a
  .exact hsn _ g.b
 have hul:ls.length<=2:=qL I.len .(f);have eL:aH (a9 (itF (vSh 3)) (ay 0) tT (slF (vSh 0) pN (pS .(i))) [ab]) [oS (.int c),oS .(ap),oS (.int h),oS (.lst (ls.map cY)),oS .(k),oS (.int (0+(i:ag))),oS (.str sa.nm),oS (.str sb.nm)]=aa (.lst ((ls.map fun l=>[l.a,l.b]).map fun t=>.tup (t.map D.str))):=by
  rw[qp];refine(ic (r:=[]) (a:=ab) (xs:=ls.map cY) (f:=fun d=>match d with|.tup [a,b,c]=>.tup [a,b]|_=>.non) rfl (by rw[qg];exact szN hul .(g)) rfl fun x hx=>?_).trans ?_
  .obtain⟨p,hp,rfl⟩:=bw.mp hx;simp only[vSh,vC,slF,pN,pS,qd,qc,cY,DF]
  .rw[qp];rfl
 have eT:bwT 3 (cD (toB (b2 neA (vSh 6) (vSh 7))) (toB (b2 fV (aT (szF (ae (vSh 6) (ae (vSh 7) aj)))) (aH (a9 (itF (vSh 3)) (ay 0) tT (slF (vSh 0) pN (pS .(i))) [ab]))))) (lE c ss h ls ds (oS (.int (0+(i:ag)))) (oS (.str sa.nm)) (oS (.str sb.nm)))=aa ((!decide (sa.nm=sb.nm)) && !decide ([U.a,U.b]∈ls.map fun l=>[l.a,l.b])):=
  C6 rfl (wg (a5 (au rfl rfl (Du _ _))) (a5 (au (x:=.tup ([U.a,U.b].map D.str)) (dw rfl rfl) eL (Ch nU nA))))
 by_cases ht:((!decide (sa.nm=sb.nm)) && !decide ([U.a,U.b]∈ls.map fun l=>[l.a,l.b]))=ai
 .have hq:sa.nm≠sb.nm/\[U.a,U.b]∉ls.map fun l=>[l.a,l.b]:=by simpa using ht
  refine⟨ls++[U],_,_,(aZ e6).trans ((aZ e7).trans ((bH eT).trans ((qX ht).trans (mh (x:=U) rfl (o5 rfl rfl (aU (aA rfl (aA (ixs 3 _ _ [] x3 3 rfl q3 _) aO)) rfl)) .(f))))),⟨?_,?_,?_⟩⟩
  .rw[qk];have:=I.len;simp;omega
  .intro u hu;rcases dn.mp hu with q|q
   .exact I.good u q
   .rw[bX.mp q];refine⟨qV ha,qV hb,hq.1,?_,?_⟩
    .show 0<=if x3<h then x3 else h
     split<;>omega
    .show(if x3<h then x3 else h)<=h;split<;>omega
  .rw[gK,kM];refine⟨I.nd,by simp,fun a ha b' hb' hab=>?_⟩;have:b'=[U.a,U.b]:=by simpa using hb'
   rw[hab,this] at ha;exact hq.2 ha
 .exact⟨ls,_,_,(aZ e6).trans ((aZ e7).trans ((bH eT).trans ((qY ht).trans rfl))),⟨by have:=I.len;omega,I.good,I.nd⟩⟩
theorem zO {x:D} (h:((cP n).map fun k:al=>D.int (0+k))[i]?=aa x):i<n/\x=.int (0+(i:ag)):=by rw[ql] at h;obtain⟨k,hk,rfl⟩:=oMd h;rw[cX] at hk;obtain⟨h1,h2⟩:=hk;rw[qS] at h1;rw[Sl] at h2;subst h2;exact⟨h1,rfl⟩
theorem LO (c:ag) (ss:ac StepT) (h:ag) (hh:1<=h) (hs1:1<=ss.length) (hsn:∀x∈ss.map (·.nm),bf x=ai):∃ls:ac LinkT,vD [.int c,.lst (ss.map bA),.int h]=aa (.lst (ls.map cY))/\ls.length<=2/\(∀l∈ls,GoodL (ss.map (·.nm)) h l)/\(ls.map fun l=>[l.a,l.b]).Nodup:=by
 obtain⟨ds,e,hd,hbd⟩:=kX c 5 .(f) [3,9,9,4,9,9,4] .(g) .(g);have hds:∀j,j<7->∃d,ds[j]?=aa d/\0<=d:=fun j hj=>by have:∃s,([3,9,9,4,9,9,4]:ac ag)[j]?=aa s:=⟨_,qC (by simpa using hj)⟩;obtain⟨s,hs⟩:=this;obtain⟨d,q1,q2,_⟩:=hbd j s hs;exact⟨d,q1,q2⟩
 obtain⟨d0,q0,p0,r0⟩:=hbd 0 3 rfl;obtain⟨ρ',h1,ls,a,b,d,h2,h3⟩:=dv (gg:=ay 5) (body:=An) (xs:=(cP d0.toNat).map fun k:al=>D.int (0+k)) (ρ:=lE c ss h [] ds ab ab ab)
  (fun i ρ=>∃ls a b d,ρ=lE c ss h ls ds a b d/\LInv (ss.map (·.nm)) h i ls) ⟨[],ab,ab,ab,rfl,⟨qw _,fun j hj=>(by cases hj),by simp⟩⟩ (fun i x ρ hx hI=>by obtain⟨ls,a,b,d,rfl,I⟩:=hI;obtain⟨hi,rfl⟩:=zO hx;obtain⟨ls',y',z',e1,e2⟩:=Mf (c:=c) (h:=h) (ss:=ss) (ls:=ls) (ds:=ds) (i:=i) (y:=b) (z:=d) hh .(f) hs1 hsn hds I;exact⟨_,_,rfl,e1,ls',_,_,_,rfl,e2⟩)
 rw[qg,qS] at h3;have eS:cF dQ (ae (vSh 0) (ae (vC (.int 5)) (ae (aH (szF (ae .(j) (ae (vC (.int 9)) (ae (vC (.int 9)) (ae .(l) (ae (vC (.int 9)) (ae (vC (.int 9)) (ae .(l) aj))))))))) aj))) [oS (.int c),oS .(ap),oS (.int h),aa (.own []),ab,ab,ab,ab]=aa .(k):=
  aU (aA rfl (aA rfl (aA (vN rfl rfl rfl rfl rfl rfl rfl) aO))) e
 have eI:itR gr (ae (b2 ixD (vSh 4) .(d)) aj) (lE c ss h [] ds ab ab ab)=aa ((cP d0.toNat).map fun k:al=>D.int (0+k)):=mI (aA (cw (n:=0) rfl q0) aO) (nT ⟨p0,by omega⟩);exact⟨ls,bM [oS (.int c),oS .(ap),oS (.int h),ab,ab,ab,ab,ab] rfl (jW.trans ((aZ eS).trans ((bT ((cR eI).trans (h1.trans (by rw[h2])))).trans ((iZ rfl).trans (bS (f:=vSh 3) rfl))))),by have:=h3.len;omega,h3.good,h3.nd⟩
theorem C1 {ft:FT} {fe:FE} {r:bj} {v:ag} (ht:∀(j:al) (s:StepT),∃q:aX,ft (oS (.int (j:ag))::oS (bA s)::r)=aa q) (he:∀(j:al) (s:StepT),fe (oS (.int (j:ag))::oS (bA s)::r)=aa (dW (s.nm,v))) :
  ∀(ss:ac StepT) (F:al->al) (a b:ar Slot),∃sub:ac StepT,sub.Sublist ss/\ga (bJ 2 (aJ (ay 0) (aJ (ay 1) bI))) ft fe ((ss.map bA).mapIdx fun i d=>D.tup [.int (F i:al),d]) (a::b::r)=aa (sub.map fun s=>dW (s.nm,v))
 |[],_,_,_=>⟨[],.slnil,rfl⟩
 |s::ss,F,a,b=>by
  obtain⟨sub,h1,h2⟩:=C1 ht he ss (fun i=>F (i+1)) (oS (.int (F 0:al))) (oS (bA s));obtain⟨q,hq⟩:=ht (F 0) s;have e0:bJ 2 (aJ (ay 0) (aJ (ay 1) bI)) (.tup [.int (F 0:al),bA s]) (a::b::r)=aa (oS (.int (F 0:al))::oS (bA s)::r):=rfl;rw[qo,List.mapIdx_cons];cases q with
  |true=>
   refine⟨s::sub,h1.cons_cons s,?_⟩;simp only[ga,e0,qc,hq,cA,he,h2,qf,qo]
  |false=>
   refine⟨sub,h1.cons s,?_⟩;simp only[ga,e0,qc,hq,qr,c4,h2]
noncomputable def tkT (n:ag):FT:=toB (b2 eqD (b2 bz (b2 dA (b2 aK (b2 ixD (vSh 2) (vC (.int n))) (vSh 3)) (b2 ixD (aH (szF (ae .(c) (ae .(i) (ae .(l) aj))))) (b2 bz (vSh 0) .(j)))) .(i)) .(c))
noncomputable def tkE (n:ag):FE:=aT (szF (ae (b2 ixD (vSh 1) .(d)) (ae (b2 aK .(c) (b2 ixD (vSh 2) (vC (.int n)))) aj)))
noncomputable def tkC (n m:ag):FE:=aH (a9 (itE (vSh 1)) (bJ 2 (aJ (ay 0) (aJ (ay 1) bI))) (tkT n) (tkE m) [ab,ab,aa 2,aa 4])
noncomputable abbrev kE (c:ag) (ss:ac StepT) (ds:ac ag) (ks:ac StockT) (k a b d:ar Slot):bj:=[oS (.int c),oS .(ap),oS .(k),aa (.own (ks.map cy)),k,a,b,d]
theorem BK {c k:ag} {ds:ac ag} {a b d:ar Slot} {m:al} {x v:ag} (hl:ss.length<=40) (hn:ds[n]?=aa x) (hm:ds[m]?=aa v) :
  ∃sub:ac StepT,sub.Sublist ss/\tkC (n:ag) (m:ag) (kE c ss ds ks (oS (.int k)) a b d)=aa (.lst ((sub.map fun s=>(s.nm,1+v)).map dW)):=by
 have ht:∀(j:al) (s:StepT),∃q:aX,tkT (n:ag) (oS (.int (j:ag))::oS (bA s)::[oS .(k),oS (.int k)])=aa q:=fun j s=>by
  have m0:0<=(j:ag)%3:=qW _ .(g);have m1:(j:ag)%3<3:=qT _ .(g);obtain⟨w,hw,hw1⟩:∃w:ag,ixD (.lst [.int 1,.int 2,.int 4]) (.int ((j:ag)%3))=aa (.int w)/\(0<w/\w<1073741824):=by
   have:(j:ag)%3=0\/(j:ag)%3=1\/(j:ag)%3=2:=by omega
   rcases this with z|z|z<;>rw[z]
   .exact⟨1,rfl,by decide⟩
   .exact⟨2,rfl,by decide⟩
   .exact⟨4,rfl,by decide⟩
  exact⟨_,a5 (au (au (au (au (cw rfl hn) rfl rfl) (au (Aj rfl rfl rfl) (au rfl rfl (c8 .(g))) hw) (mR hw1)) rfl (c8 .(g))) rfl rfl)⟩
 have he:∀(j:al) (s:StepT),tkE (m:ag) (oS (.int (j:ag))::oS (bA s)::[oS .(k),oS (.int k)])=aa (dW (s.nm,1+v)):=fun j s=>
  dw (au rfl rfl cJ) (au rfl (cw rfl hm) rfl)
 obtain⟨sub,h1,h2⟩:=C1 ht he ss (fun i=>i) ab ab;refine⟨sub,h1,?_⟩;have e1:itE (vSh 1) (kE c ss ds ks (oS (.int k)) a b d)=aa ((ss.map bA).mapIdx fun i d=>D.tup [.int i,d]):=rfl;have e2:fu [ab,ab,aa 2,aa 4] (kE c ss ds ks (oS (.int k)) a b d)=ab::ab::[oS .(k),oS (.int k)]:=rfl;unfold tkC aH a9;rw[e1,qc,qX (by rw[kG,qg];exact szN hl .(g)),e2,h2,qf,qp];rfl
theorem Cq {sub:ac StepT} {v:ag} (h:sub.Sublist ss) (nd:(ss.map (·.nm)).Nodup) (hv:1<=v/\v<=1000000):GoodA (ss.map (·.nm)) (sub.map fun s=>(s.nm,v)):=by
 refine⟨by rw[qg,qg];exact h.length_le,fun w hw=>?_,?_⟩
 .obtain⟨s,hs,rfl⟩:=bw.mp hw;exact⟨qV (h.subset hs),hv⟩
 .rw[qp];exact Sh (h.map (·.nm)) nd
structure KInv (sn:ac ak) (i:al) (ks:ac StockT):Prop where
 len:ks.length=i
 good:∀k∈ks,GoodK sn k
 nmk:∀(j:al) k,ks[j]?=aa k->k.nm=nm (80+j)
noncomputable def A6:FS:=.(L)
theorem JJ {c:ag} {ds:ac ag} {x y z:ar Slot} {d4 d5 d6:ag} (hi:i<6) (hl:ss.length<=40) (nd:(ss.map (·.nm)).Nodup)
  (q1:ds[1]?=aa d1) (q2:ds[2]?=aa d2) (q3:ds[3]?=aa d3) (q4:ds[4]?=aa d4) (q5:ds[5]?=aa d5) (q6:ds[6]?=aa d6) (p1:0<=d1/\d1<4) (p2:0<=d2/\d2<5) (p5:0<=d5/\d5<4) (p6:0<=d6/\d6<4) (I:KInv (ss.map (·.nm)) i ks) :
  ∃ks' x' y' z',A6 (kE c ss ds ks (oS (.int (0+(i:ag)))) x y z)=aa (.nx,kE c ss ds ks' (oS (.int (0+(i:ag)))) x' y' z')/\KInv (ss.map (·.nm)) (i+1) ks':=by
 have hn:=(lu (k:=80+i) .(f)).1;have hnb:=(lu (k:=80+i) .(f)).2;have hn':fX [.int (80+(0+(i:ag)))]=aa (.str (nm (80+i))):=by rw[←hn];congr 3;omega
 have e5:b2 aK (b2 ixD (vSh 2) .(c)) (b2 ixD (vSh 2) .(i)) (kE c ss ds ks (oS (.int (0+(i:ag)))) x y z)=aa (.int (d1+d2)):=au (cw (n:=1) rfl q1) (cw (n:=2) rfl q2) rfl;obtain⟨s1,h1,e6⟩:=BK (c:=c) (k:=0+(i:ag)) (ss:=ss) (ks:=ks) (a:=oS (.int (d1+d2))) (b:=y) (d:=z) (n:=3) (m:=5) hl q3 q5;obtain⟨s2,h2,e7⟩:=BK (c:=c) (k:=0+(i:ag)) (ss:=ss) (ks:=ks) (a:=oS (.int (d1+d2))) (b:=aa (.sh (.lst ((s1.map fun s=>(s.nm,1+d5)).map dW)))) (d:=z) (n:=4) (m:=6) hl q4 q6
 let K:StockT:=⟨nm (80+i),d1,d1+d2,s1.map fun s=>(s.nm,1+d5),s2.map fun s=>(s.nm,1+d6)⟩
 refine⟨ks++[K],_,_,_,(aZ e5).trans ((aZ e6).trans ((aZ e7).trans (mh (x:=K) rfl (CJ (aU (aA .(G) aO) hn') (cw (n:=1) rfl q1) rfl rfl rfl) (by have:=I.len;omega)))),⟨?_,?_,?_⟩⟩
 .rw[qk,I.len];rfl
 .intro k hk;rcases dn.mp hk with q|q
  .exact I.good k q
  .rw[bX.mp q];exact⟨hnb,⟨p1.1,by show d1<=d1+d2;omega⟩,⟨by show 0<=d1+d2;omega,by show d1+d2<=_;omega⟩,Cq h1 nd .(f),Cq h2 nd .(f)⟩
 .intro j k hj;by_cases hji:j<ks.length
  .rw[qy hji] at hj;exact I.nmk j k hj
  .have hl2:=(cX.mp hj).1;rw[qk,qU] at hl2;rw[qJ .(f),show j-ks.length=0 by omega] at hj;cases hj;have:=I.len;rw[show j=i by omega]
theorem wx {l:ac α} {f:α->ak} {g:al->ak} (hn:l.length<=n) (hg:∀i,i<n->∀j,j<n->g i=g j->i=j) (h:∀(j:al) k,l[j]?=aa k->f k=g j):(l.map f).Nodup:=by rw[Ff,zh];intro i j hi hj hij e;rw[qg] at hi hj;rw[Sm,Sm,h i _ (qC hi),h j _ (qC hj)] at e;have:=hg i .(f) j .(f) e;omega
theorem PD (c:ag) (ss:ac StepT) (hl:ss.length<=40) (nd:(ss.map (·.nm)).Nodup):∃ks:ac StockT,wc [.int c,.lst (ss.map bA)]=aa (.lst (ks.map cy))/\ks.length<=6/\(∀k∈ks,GoodK (ss.map (·.nm)) k)/\(ks.map (·.nm)).Nodup:=by
 obtain⟨ds,e,hd,hbd⟩:=kX c 9 .(f) [7,4,5,8,8,4,4] .(g) .(g);obtain⟨d0,q0,p0,r0⟩:=hbd 0 7 rfl;obtain⟨d1,q1,p1⟩:=hbd 1 4 rfl;obtain⟨d2,q2,p2⟩:=hbd 2 5 rfl;obtain⟨d3,q3,p3⟩:=hbd 3 8 rfl;obtain⟨d4,q4,p4⟩:=hbd 4 8 rfl;obtain⟨d5,q5,p5⟩:=hbd 5 4 rfl;obtain⟨d6,q6,p6⟩:=hbd 6 4 rfl;obtain⟨ρ',h1,ks,a,x,y,z,h2,h3⟩:=dv (gg:=ay 4) (body:=A6) (xs:=(cP d0.toNat).map fun k:al=>D.int (0+k)) (ρ:=kE c ss ds [] ab ab ab ab)
  (fun i ρ=>∃ks a x y z,ρ=kE c ss ds ks a x y z/\KInv (ss.map (·.nm)) i ks) ⟨[],ab,ab,ab,ab,rfl,⟨rfl,fun j hj=>(by cases hj),fun j k hj=>(by simp at hj)⟩⟩ (fun i w ρ hx hI=>by obtain⟨ks,a,x,y,z,rfl,I⟩:=hI;obtain⟨hi,rfl⟩:=zO hx;obtain⟨ks',x',y',z',e1,e2⟩:=JJ (c:=c) (ss:=ss) (ds:=ds) (ks:=ks) (i:=i) (x:=x) (y:=y) (z:=z) .(f) hl nd q1 q2 q3 q4 q5 q6 p1 p2 p5 p6 I;exact⟨_,_,rfl,e1,ks',_,_,_,_,rfl,e2⟩)
 rw[qg,qS] at h3;have eS:cF dQ (ae (vSh 0) (ae (vC (.int 9)) (ae (aH (szF (ae (vC (.int 7)) (ae .(l) (ae (vC (.int 5)) (ae (vC (.int 8)) (ae (vC (.int 8)) (ae .(l) (ae .(l) aj))))))))) aj))) [oS (.int c),oS .(ap),ab,ab,ab,ab,ab,ab]=aa .(k):=
  aU (aA rfl (aA rfl (aA (vN rfl rfl rfl rfl rfl rfl rfl) aO))) e
 have eI:itR gr (ae (b2 ixD (vSh 2) .(d)) aj) (kE c ss ds [] ab ab ab ab)=aa ((cP d0.toNat).map fun k:al=>D.int (0+k)):=mI (aA (cw (n:=0) rfl q0) aO) (nT ⟨p0,by omega⟩);exact⟨ks,bM [oS (.int c),oS .(ap),ab,ab,ab,ab,ab,ab] rfl ((aZ eS).trans (jW.trans ((bT ((cR eI).trans (h1.trans (by rw[h2])))).trans ((iZ rfl).trans (bS (f:=vSh 3) rfl))))),by have:=h3.len;omega,h3.good,wx (n:=7) (by have:=h3.len;omega) Ld h3.nmk⟩
theorem yp (ns:ac ag) (n m:al) (hn:n<=1000) {k:ag} (hk:k=(m:ag)) (h0:ρ[0]?=aa (oS (.scr ns))) (hfi:fi ρ=aa ((cP n).map fun i:al=>D.int (0+i))) :
  ∃cs:ac ag,aH (a9 fi (ay 0) tT (cF dS (ae (vSh 1) (ae (b2 aK (vC (.int k)) (vSh 0)) aj))) [ab,aa 0]) ρ=aa (.lst (cs.map D.int))/\cs.length=n:=by
 have hfv:fu [ab,aa 0] ρ=ab::[oS (.scr ns)]:=by simp only[fu,qo,qN,Rf,qc,h0]
 have hc:=ic (fi:=fi) (fe:=cF dS (ae (vSh 1) (ae (b2 aK (vC (.int k)) (vSh 0)) aj))) (fv:=[ab,aa 0]) (ρ:=ρ) (r:=[oS (.scr ns)]) (a:=ab) (f:=fun d=>match d with|.int i=>.int (ns.getD (m+i.toNat) 0)|_=>.non) hfi (by rw[qg,qS];exact szN hn .(g)) hfv (fun x hx=>by
  obtain⟨i,hi,rfl⟩:=bw.mp hx;have e:=jZ ns (m+i);refine aU (aA rfl (aA .(G) aO)) ?_;subst hk;have e1:((m:ag)+(0+(i:ag)))=((m+i:al):ag):=by omega
  rw[e1,e]
  congr 3
  omega)
 refine⟨(cP n).map fun i=>ns.getD (m+i) 0,?_,by rw[qg,qS]⟩;rw[hc,qp,qp]
 congr 2
 refine oY fun i _=>?_;show D.int (ns.getD (m+(0+(i:ag)).toNat) 0)=D.int (ns.getD (m+i) 0)
 congr 3
 omega
noncomputable def aF (bs:ac BenchT) (ss:ac StepT) (js:ac JobT) (us:ac SetT) (ls:ac LinkT) (ks:ac StockT) (h:ag):D:=.lst [.lst (bs.map cm),.lst (ss.map bA),.lst (js.map ba),.lst (us.map cO),.lst (ls.map cY),.lst (ks.map cy),.int h]
theorem Mp (ns:ac ag) (n:al) (h lo:ag) (hn:1<=n/\n<=10) (hh:1<=h/\h<=1000000) (hlo:0<lo/\lo<1000):∃bs ss js us ls ks,xR [.scr ns,.int (n:ag),.int h,.int lo]=aa .(a)/\Good bs ss js us ls ks h/\js.length<=3/\ss.length<=10:=by
 have b0:0<=(ns.getD 0 0)%3:=qW _ .(g);have b1:(ns.getD 0 0)%3<3:=qT _ .(g);obtain⟨nb,hnb⟩:∃nb:al,1+(ns.getD 0 0)%3=(nb:ag):=⟨(1+(ns.getD 0 0)%3).toNat,by omega⟩;obtain⟨cb,eb,lb⟩:=yp ns nb 1 .(f) (k:=1) (fi:=itR gr (ae (b2 aK .(c) (b2 bz (cF dS (ae (vSh 0) (ae .(d) aj))) .(j))) aj)) (ρ:=[oS (.scr ns),oS (.int n),oS (.int h),oS (.int lo),ab,ab,ab,ab,ab,ab]) rfl rfl (mI (aA (d:=.int (nb:ag)) (au rfl (au (aU .(n) (jZ ns 0)) rfl (c8 .(g))) (by rw[←hnb];rfl)) aO) (nT (j:=(nb:ag)) .(f)));obtain⟨bs,e1,l1,g1⟩:=J4 cb h .(f);have bnd:(bs.map (·.nm)).Nodup:=wx (n:=3) .(f) P7 fun j b hj=>(g1 j b hj).nm;have hbn:∀x∈bs.map (·.nm),bf x=ai:=fun x hx=>by obtain⟨b,hb,rfl⟩:=bw.mp hx;obtain⟨j,hj⟩:=zI hb;have hjl:=(cX.mp hj).1;rw[(g1 j b hj).nm];exact(lu .(f)).2
 obtain⟨ct,et,lt⟩:=yp ns n 4 .(f) (k:=4) (fi:=itR gr .(K)) (ρ:=[oS (.scr ns),oS (.int n),oS (.int h),oS (.int lo),oS (.lst (bs.map cm)),ab,ab,ab,ab,ab]) rfl rfl (mI (aA rfl aO) (nT (j:=(n:ag)) .(f)));obtain⟨ss,e2,l2,g2⟩:=M7 ct bs h lo hh.1 hlo .(f) .(f) bnd;have snd:(ss.map (·.nm)).Nodup:=wx (n:=10) .(f) L1 fun j b hj=>(g2 j b hj).nm;have gs:∀s∈ss,GoodS (bs.map (·.nm)) h s:=fun s hs=>by obtain⟨j,hj⟩:=zI hs;exact(g2 j s hj).good
 have hsn:∀x∈ss.map (·.nm),bf x=ai:=fun x hx=>by obtain⟨b,hb,rfl⟩:=bw.mp hx;exact(gs b hb).nm
 obtain⟨cj,ej,lj⟩:=yp ns 3 14 .(f) (k:=14) (fi:=itR gr (ae .(j) aj)) (ρ:=[oS (.scr ns),oS (.int n),oS (.int h),oS (.int lo),oS (.lst (bs.map cm)),oS .(ap),ab,ab,ab,ab]) rfl rfl (mI (aA rfl aO) (nT (j:=3) .(f)));obtain⟨js,e3,l3,g3,g4,g5⟩:=LN cj ss h hh.1 .(f) .(f) hsn snd;obtain⟨us,e4,l4,g6,g7⟩:=FW (ns.getD 17 0) bs h hh.1 .(f) hbn;obtain⟨ls,e5,l5,g8,g9⟩:=LO (ns.getD 18 0) ss h hh.1 .(f) hsn;obtain⟨ks,e6,l6,g10,g11⟩:=PD (ns.getD 19 0) ss .(f) snd;refine⟨bs,ss,js,us,ls,ks,?_,⟨hh,by omega,fun x hx=>?_,bnd,by omega,gs,snd,by omega,g3,g4,g5,by omega,g6,g7,by omega,g8,g9,by omega,g10,g11⟩,l3,by omega⟩
 .refine bM [oS (.scr ns),oS (.int n),oS (.int h),oS (.int lo),ab,ab,ab,ab,ab,ab] rfl ((aZ (aU (aA eb (aA rfl aO)) e1)).trans ((aZ (aU (aA et (aA rfl .(n))) e2)).trans ((aZ (aU (aA ej .(n)) e3)).trans ((aZ (aU (aA (aU .(n) (jZ ns 17)) .(n)) e4)).trans ((aZ (aU (aA (aU .(n) (jZ ns 18)) .(n)) e5)).trans ((aZ (aU (aA (aU .(n) (jZ ns 19)) (aA rfl aO)) e6)).trans (bS (vN rfl rfl rfl rfl rfl rfl rfl))))))))
 .obtain⟨j,hj⟩:=zI hx;have hjl:=(cX.mp hj).1;have g:=g1 j x hj;exact⟨by rw[g.nm];exact(lu .(f)).2,by have:=g.len;omega,g.good.iv,g.good.gap⟩
noncomputable def Wp (o:ar α) (P:α->Prop):Prop:=∃a,o=aa a/\P a
section
variable {o:ar α} {P Q:α->Prop} {R:Fl×bj->Prop}
theorem Wp.imp (h:Wp o P) (k:∀a,P a->Q a):Wp o Q:=let ⟨a,e,p⟩:=h;⟨a,e,k a p⟩
theorem p7 {f:α->ar β} {P:β->Prop} (h:Wp o fun a=>Wp (f a) P):Wp (o.bind f) P:=by obtain⟨a,rfl,b,e,p⟩:=h;exact⟨b,e,p⟩
theorem Nv {a:α} (e:o=aa a) (p:P a):Wp o P:=⟨a,e,p⟩
theorem HR (h:Wp (ft ρ) fun b=>Wp ((if b=ai then g else g') ρ) R):Wp (sIf ft g g' ρ) R:=p7 (h.imp fun b k=>by cases b<;>exact k)
theorem Kw {P:D->Prop} (h:Wp (g (ds.map (fun d=>aa (Slot.sh d))++ce n ab)) fun r=>∃d,r.1=.rt d/\P d):Wp (aY n g ds) P:=p7 (h.imp fun⟨fl,ρ'⟩ ⟨d,e,p⟩=>by have e:fl=.rt d:=e;subst e;exact⟨d,rfl,p⟩)
theorem Qc {x:D} (h:((cP n).map fun i:al=>D.int (0+(i:ag)))[i]?=aa x):i<n/\x=.int i:=by rw[ql] at h;obtain⟨k,hk,rfl⟩:=oMd h;obtain⟨hlt,e⟩:=cX.mp hk;rw[Sl] at e;rw[qS] at hlt;subst e;exact⟨hlt,by rw[Int.zero_add]⟩
end
section
variable {f:α->D} {l:ac (ak×α)} {k j:ak} {v:α}
noncomputable def tb (f:α->D) (l:ac (ak×α)):ac (Key×D):=l.map fun q=>(.inr q.1,f q.2)
noncomputable def lk (l:ac (ak×α)) (k:ak):ar α:=(l.find? fun q=>decide (q.1=k)).map (·.2)
noncomputable def pt (l:ac (ak×α)) (k:ak) (v:α):ac (ak×α):=if (l.any fun q=>decide (q.1=k))=ai then l.map (fun q=>if q.1=k then (q.1,v) else q) else l++[(k,v)]
noncomputable def dp (l:ac (ak×α)) (k:ak):ac (ak×α):=l.filter fun q=>decide (q.1≠k)
theorem v9 (a b:ak):decide ((cz a:Key)=cz b)=decide (a=b):=by
 by_cases h:a=b
 .rw[h];simp
 .rw[qM h,qM fun z=>h (gH z)]
theorem gv (f:α->D) (k:ak):∀l:ac (ak×α),ck (tb f l) (.inr k)=(lk l k).map f
 |[]=>rfl
 |(a,v)::l=>by
  have ih:=gv f k l;unfold ck lk at ih ⊢;unfold tb at ih ⊢;rw[qo,eC,eC,v9];by_cases h:a=k
  .rw[qR h];rfl
  .rw[qM h];exact ih
theorem j8 (a:ak) (v:α) (l:ac (ak×α)) (k:ak):lk ((a,v)::l) k=if a=k then aa v else lk l k:=by
 unfold lk;rw[eC];by_cases h:a=k
 .rw[qR h,qX h];rfl
 .rw[qM h,qY h]
theorem sB:∀{l:ac (ak×α)},lk l k=ab↔k∉l.map (·.1)
 |[]=>by simp[lk]
 |(a,v)::l=>by
  rw[j8,qo,qK];by_cases h:a=k
  .subst h;simp
  .rw[qY h,sB];constructor
   .rintro q (z|z)
    .exact h z.symm
    .exact q z
   .exact fun q z=>q (.inr z)
theorem iR:∀{l:ac (ak×α)},lk l k=aa v->(k,v)∈l
 |[],h=>by cases h
 |(a,w)::l,h=>by
  rw[j8] at h;split at h
  .rename_i e;cases h;subst e;exact .head _
  .exact .tail _ (iR h)
theorem mG:∀{l:ac (ak×α)},(l.map (·.1)).Nodup->(k,v)∈l->lk l k=aa v
 |(a,w)::l,nd,h=>by
  rw[qo,kD] at nd;rw[j8];rcases cM.mp h with e|h
  .cases e;exact qX rfl
  .rw[qY fun z=>nd.1 (bw.mpr ⟨_,h,z.symm⟩)];exact mG nd.2 h
theorem Jt (l m:ac (ak×α)) (k:ak):lk (l++m) k=(lk l k).or (lk m k):=by unfold lk;rw[Sn];cases l.find? fun q=>decide (q.1=k)<;>rfl
theorem o0:(l.any fun q=>decide (q.1=k))=ai↔k∈l.map (·.1):=by
 rw[u4,bw];constructor
 .rintro⟨q,h1,h2⟩;exact⟨q,h1,fL h2⟩
 .rintro⟨q,h1,h2⟩;exact⟨q,h1,qR h2⟩
theorem CC (k:ak) (v:α) (j:ak):∀l:ac (ak×α),lk (l.map fun q=>if q.1=k then (q.1,v) else q) j=if j=k then (lk l j).map fun _=>v else lk l j
 |[]=>by simp[lk]
 |(a,w)::l=>by
  rw[qo];have ih:=CC k v j l;by_cases h:a=k
  .rw[qX h,j8,j8,ih];by_cases h2:a=j
   .rw[qX h2,qX h2,qX (h2.symm.trans h)];rfl
   .rw[qY h2,qY h2]
  .rw[qY h,j8,j8,ih];by_cases h2:a=j
   .rw[qX h2,qX h2,qY fun z=>h (h2.trans z)]
   .rw[qY h2,qY h2]
theorem ye:lk (pt l k v) j=if j=k then aa v else lk l j:=by
 unfold pt;split
 .rename_i h;rw[CC];by_cases e:j=k
  .subst e;rw[qX rfl,qX rfl];cases q:lk l j with
   |none=>exact bN (o0.mp h) (sB.mp q)
   |some w=>rfl
  .rw[qY e,qY e]
 .rename_i h;rw[Jt,j8];by_cases e:j=k
  .subst e;rw[qX rfl,qX rfl,sB.mpr fun z=>h (o0.mpr z)];rfl
  .rw[qY e,qY (dF e)];cases lk l j<;>rfl
theorem Qq (k:ak) (v:α) (l:ac (ak×α)):(l.map fun q=>if q.1=k then (q.1,v) else q).map (·.1)=l.map (·.1):=by rw[qp];refine oY fun q _=>?_;show(if q.1=k then (q.1,v) else q).1=q.1;split<;>rfl
theorem Ao (nd:(l.map (·.1)).Nodup):((pt l k v).map (·.1)).Nodup:=by
 unfold pt;split
 .rw[Qq];exact nd
 .rename_i h;rw[gK,kM];refine⟨nd,by simp,fun a ha b hb e=>h (o0.mpr ?_)⟩;have e2:b=k:=by simpa using hb
  rw[←e2,←e];exact ha
theorem JG:(pt l k v).length<=l.length+1:=by
 unfold pt;split
 .rw[qg];exact iy _
 .rw[qk];exact qw _
theorem K5 (f:α->D) (l:ac (ak×α)) (k:ak) (v:α):eG (tb f l) (.inr k) (f v)=tb f (pt l k v):=by
 have e:((tb f l).any fun kv=>decide (kv.1=.inr k))=l.any fun q=>decide (q.1=k):=by
  unfold tb;rw[So]
  congr 1
  funext q
  exact v9 _ _
 unfold eG pt;rw[e];split
 .unfold tb;rw[qp,qp];refine oY fun q _=>?_;show(if (cz q.1:Key)=.inr k then _ else _)=((.inr (if q.1=k then (q.1,v) else q).1:Key),f (if q.1=k then (q.1,v) else q).2);by_cases h:q.1=k
  .rw[qX h,qX (cK cz h)]
  .rw[qY h,qY fun z=>h (gH z)]
 .unfold tb;rw[gK];rfl
theorem JT (f:α->D) (k:ak) (l:ac (ak×α)):(tb f l).filter (fun kv=>decide (kv.1≠.inr k))=tb f (dp l k):=by
 unfold tb dp;rw[List.filter_map]
 congr 1
 refine Sq fun q _=>?_;show decide ((cz q.1:Key)≠.inr k)=decide (q.1≠k);rw[so,so,v9]
theorem Ir (k:ak) (nd:(l.map (·.1)).Nodup):((dp l k).map (·.1)).Nodup:=nd.sublist (List.filter_sublist.map _)
end
noncomputable def pT (q:ak×ag):D:=.tup [.str q.1,.int q.2]
noncomputable abbrev bc:=ac (ak×ak×ag)
noncomputable def pD (P:bc):D:=.fdk (tb pT P)
noncomputable def eD (E:ac (ak×ag)):D:=.fdk (tb D.int E)
section
variable {P:bc} {k:ak}
theorem cQ (h:lk P k=aa q):aW (pD P) (.str k)=aa (pT q):=by show(aa (ck (tb pT P) (.inr k))).bind id=_;rw[gv,h];rfl
theorem eZ {x:ag} (h:lk E k=aa x):aW (eD E) (.str k)=aa (.int x):=by show(aa (ck (tb D.int E) (.inr k))).bind id=_;rw[gv,h];rfl
theorem GI:gA (.str k) (pD P)=aa (.bl (lk P k).isSome):=by show aa (D.bl (ck (tb pT P) (.inr k)).isSome)=_;rw[gv,nc]
theorem Co:mo (.str k) (pD P)=aa (.bl (!(lk P k).isSome)):=by show aa (D.bl (!(ck (tb pT P) (.inr k)).isSome))=_;rw[gv,nc]
theorem JY:gA (.str k) (eD E)=aa (.bl (lk E k).isSome):=by show aa (D.bl (ck (tb D.int E) (.inr k)).isSome)=_;rw[gv,nc]
theorem Nb {x:ag} :ip (eD E) (.str k) (.int x)=aa (.int ((lk E k).getD x)):=by show aa ((ck (tb D.int E) (.inr k)).getD (.int x))=_;rw[gv];cases lk E k<;>rfl
end
section
variable {bs:ac BenchT}
theorem Gd (g:Good bs ss js us ls ks h) (ml:(js.flatMap (·.ms)).length<=300):yk [aF bs ss js us ls ks h]=aa .(e):=
 bM [oS .(a)] rfl (bS (aU (aA (au rfl rfl (ixL _ 0)) (aA (au rfl rfl (ixL _ 1)) (aA (au rfl rfl (ixL _ 2)) (aA (au rfl rfl (ixL _ 3)) (aA (au rfl rfl (ixL _ 4)) (aA (au rfl rfl (ixL _ 5)) (aA (au rfl rfl (ixL _ 6)) aO))))))) (LR g ml)))
theorem jH {f:ak} (i:al) (h1:fo ρ=aa .(e)) (h2:(ot bs ss js us ls ks h)[i]?=aa (f,d)):gd "Shop" f fo ρ=aa d:=by unfold gd;rw[h1];show(if ("Shop":ak)="Shop" then (ot bs ss js us ls ks h).lookup f else ab)=aa d;rw[qX rfl];exact uo (by rw[Dl];exact uD) h2
theorem gM {F:FQ} (hm:m∉lJ) (h1:fo ρ=aa .(e)) (h2:fr ρ=aa ds) (h3:F (aR bs ss js us ls ks h::ds)=aa d):c5 "Shop" m F fo fr ρ=aa d:=by have hno:(ot bs ss js us ls ks h).lookup m=ab:=pz (by rw[Dl];exact hm);unfold c5;rw[h1];show(if ("Shop":ak)="Shop"/\(ot bs ss js us ls ks h).lookup m=ab then (fr ρ).bind fun ds=>F (aR bs ss js us ls ks h::ds) else ab)=_;rw[qX ⟨rfl,hno⟩,h2];exact h3
theorem Ec {f:α->D} {nm:α->ak} {xs:ac α} (hf:∀x,∃r,f x=.tup (.str (nm x)::r)) (h1:fo ρ=aa (.lst (xs.map f))) (h2:xs.length<=aV) (h3:fu fv ρ=[ab]) :
  aH (a9 (itF fo) (ay 0) tT .(r) fv) ρ=aa (.lst ((xs.map nm).map D.str)):=by
 have hc:=ic (fi:=itF fo) (fe:=b2 ixD (vSh 0) .(d)) (fv:=fv) (ρ:=ρ) (r:=[]) (a:=ab) (xs:=xs.map f) (f:=fun d=>match d with|.tup (x::_)=>x|_=>.non) (by unfold itF;rw[h1];rfl) (by rw[qg];exact h2) h3 (fun x hx=>by obtain⟨y,_,rfl⟩:=bw.mp hx;obtain⟨r,e⟩:=hf y;simp only[b2,vSh,vC,qd,qc,e,cJ])
 rw[hc]
 congr 2
 rw[qp,qp];refine oY fun x _=>?_;obtain⟨r,e⟩:=hf x;simp[e]
theorem vH (hl:ss.length<=40):j2 [aR bs ss js us ls ks h]=aa (.lst ((ss.map (·.nm)).map D.str)):=
 bM [oS .(e)] rfl (bS (Ec (f:=bA) (nm:=(·.nm)) (xs:=ss) (fun x=>⟨_,rfl⟩) (jH 1 rfl rfl) (szN hl .(g)) rfl))
theorem tG {α:Type} {nm:α->ak} {f:α->D}:∀{xs:ac α} {s:α},(xs.map nm).Nodup->s∈xs->ck (xs.map fun x=>((.inr (nm x):Key),f x)) (.inr (nm s))=aa (f s)
 |[],s,_,hs=>by cases hs
 |x::r,s,nd,hs=>by
  rw[qo,kD] at nd;unfold ck;rw[qo,eC];by_cases e:nm x=nm s
  .have hxs:s=x:=by
    rcases cM.mp hs with q|q
    .exact q
    .exact bN (qV (f:=nm) q) (by rw[←e];exact nd.1)
   subst hxs;simp
  .have hs':s∈r:=by
    rcases cM.mp hs with q|q
    .subst q;exact bN rfl e
    .exact q
   have hne:¬((.inr (nm x):Key)=.inr (nm s)):=fun z=>e (gH z);simp only[qM hne];exact tG nd.2 hs'
theorem Me {s:StepT} (g:Good bs ss js us ls ks h) (hs:s∈ss):t4 [aR bs ss js us ls ks h,.str s.nm]=aa (.lst (s.ws.map dW)):=by have gs:=g.s s hs;refine bM [oS .(e),oS .(u)] rfl (bS (aU (aA (au (au (x:=.dk (ss.map fun s=>(.inr s.nm,bA s))) (z:=bA s) (jH 8 rfl rfl) rfl ?_) rfl gT) aO) (im (uH (by have:=gs.l4;omega)))));show ck (ss.map fun s=>((.inr s.nm:Key),bA s)) (.inr s.nm)=_;exact tG g.sn hs
theorem PU [er κ] (kvs:ac (κ×D)) (k k':κ) (v:D):ck (eG kvs k v) k'=if k'=k then aa v else ck kvs k':=by
 unfold eG;split
 .rename_i hany;by_cases e:k'=k
  .subst e;rw[qX rfl];unfold ck
   induction kvs with
   |nil=>simp at hany
   |cons x r ih=>
    rw[qo,eC];by_cases ex:x.1=k'
    .simp[ex]
    .simp only[qY ex,qM ex];rw[kF,qM ex,yW] at hany;exact ih hany
  .rw[qY e];unfold ck
   induction kvs with
   |nil=>rfl
   |cons x r ih=>
    rw[qo,eC,eC];by_cases ex:x.1=k
    .have:¬x.1=k':=fun z=>e (z.symm.trans ex);simp only[qX ex,qM this];by_cases ha:(r.any fun kv=>decide (kv.1=k))=ai
     .exact ih ha
     .have hmap:r.map (fun kv=>if kv.1=k then (kv.1,v) else kv)=r:=by
       conv=>rhs;rw[←zJ r]
       refine oY fun y hy=>?_;have:¬y.1=k:=fun z=>ha (u4.mpr ⟨y,hy,qR z⟩);simp[this]
      rw[hmap]
    .simp only[qY ex];by_cases ex':x.1=k'
     .simp[ex']
     .simp only[qM ex'];rw[kF,qM ex,yW] at hany;exact ih hany
 .rename_i hany;have hno:∀x∈kvs,¬x.1=k:=fun x hx z=>hany (u4.mpr ⟨x,hx,qR z⟩);unfold ck;rw[Sn];by_cases e:k'=k
  .subst e;rw[qX rfl];have:kvs.find? (fun kv=>decide (kv.1=k'))=ab:=by rw[ve];intro x hx z;exact hno x hx (fL z)
   rw[this];simp
  .rw[qY e];have:¬k=k':=fun z=>e z.symm;simp[this]
theorem zV (j:JobT) (m:ak):∀(ms:ac ak) (acc:ac (Key×D)),ck (ms.foldl (gP j) acc) (.inr m)=if m∈ms then aa (ba j) else ck acc (.inr m)
 |[],acc=>by simp
 |x::r,acc=>by
  rw[jd,zV j m r];by_cases h1:m∈r
  .rw[qX h1,qX (qi _ h1)]
  .rw[qY h1];unfold gP;rw[PU];by_cases h2:m=x
   .subst h2;rw[qX rfl,qX qh]
   .have:¬((.inr m:Key)=.inr x):=fun z=>h2 (gH z);rw[qY this,qY];intro z;rcases cM.mp z with q|q
    .exact h2 q
    .exact h1 q
noncomputable def iG (js:ac JobT) (m:ak):ar JobT:=js.find? fun j=>decide (m∈j.ms)
theorem z6 (m:ak):∀(js:ac JobT) (acc:ac (Key×D)),(js.flatMap (·.ms)).Nodup->ck (js.foldl (fun acc j=>j.ms.foldl (gP j) acc) acc) (.inr m)=match iG js m with|some j=>aa (ba j)|none=>ck acc (.inr m)
 |[],acc,_=>rfl
 |j::r,acc,nd=>by
  rw[Fw,kM] at nd;rw[jd,z6 m r _ nd.2.1,zV];unfold iG;rw[eC];by_cases h1:m∈j.ms
  .have:r.find? (fun j=>decide (m∈j.ms))=ab:=by rw[ve];intro x hx z;exact nd.2.2 m h1 m (Sr.mpr ⟨x,hx,fL z⟩) rfl
   simp only[qR h1,this,qX h1]
  .simp only[qM h1,qY h1]
noncomputable def v8:ar JobT->D
 |some j=>ba j
 |none=>.non
theorem Lj {j:JobT} (h:iG js m=aa j):j∈js/\m∈j.ms:=⟨vc h,by have:=zm h;exact fL this⟩
theorem Nj (g:Good bs ss js us ls ks h) (m:ak):xf [aR bs ss js us ls ks h,.str m]=aa (v8 (iG js m)):=by
 have hl:(ss.map (·.nm)).length<=40:=by rw[qg];exact g.sl.2
 have hp:Pl 8 (v8 (iG js m)):=by
  cases e:iG js m with
  |none=>trivial
  |some j=>exact xH hl (g.j j (Lj e).1)
 refine bM [oS .(e),oS (.str m)] rfl (bS (aU (aA (au (x:=.dk (jkv js)) (jH 10 rfl rfl) rfl ?_) aO) (im hp)));show aa ((ck (jkv js) (.inr m)).getD .non)=_;unfold jkv;rw[z6 m js [] g.jm];cases iG js m<;>rfl
theorem Dd {s:StepT} (g:Good bs ss js us ls ks h) (hs:s∈ss):nP [aR bs ss js us ls ks h,.str s.nm]=aa (.str s.kd):=by refine bM [oS .(e),oS .(u)] rfl (bS (au (au (x:=.dk (ss.map fun s=>(.inr s.nm,bA s))) (z:=bA s) (jH 8 rfl rfl) rfl ?_) rfl cB));show ck (ss.map fun s=>((.inr s.nm:Key),bA s)) (.inr s.nm)=_;exact tG g.sn hs
theorem Ho {b:BenchT} (g:Good bs ss js us ls ks h) (hb:b∈bs):xD [aR bs ss js us ls ks h,.str b.nm]=aa (.lst (b.br.map dIv)):=by
 have gb:=g.b b hb;have hp:Pl 8 (.lst (b.br.map dIv)):=gX (by have:=gb.len;omega) fun x _=>⟨by simp[aV],by intro y hy;simp only[qK,qI,or_false] at hy;rcases hy with rfl|rfl<;>trivial⟩
 refine bM [oS .(e),oS (.str b.nm)] rfl (bS (aU (aA (au (au (x:=.dk (bs.map fun b=>(.inr b.nm,cm b))) (z:=cm b) (jH 7 rfl rfl) rfl ?_) rfl cB) aO) (im hp)));show ck (bs.map fun b=>((.inr b.nm:Key),cm b)) (.inr b.nm)=_;exact tG g.bn hb
noncomputable def suN (us:ac SetT) (a b c:ak):ag:=match (us.find? fun u=>decide ([cz u.b,cz u.p,cz u.q]=([.inr a,.inr b,.inr c]:ac Key))) with
 |some u=>u.n
 |none=>0
theorem N6:sO [aR bs ss js us ls ks h]=aa (.int h):=bM [oS .(e)] rfl (bS (jH 6 rfl rfl))
theorem Lm (g:Good bs ss js us ls ks h) (hp:Pl 8 .(al)):wt [aR bs ss js us ls ks h]=aa .(al):=bM [oS .(e)] rfl (bS (aU (aA (jH 2 rfl rfl) aO) (im hp)))
theorem JB (hp:Pl 8 (.lst (ls.map cY))):wa [aR bs ss js us ls ks h]=aa (.lst (ls.map cY)):=bM [oS .(e)] rfl (bS (aU (aA (jH 4 rfl rfl) aO) (im hp)))
theorem HM (hp:Pl 8 (.lst (ks.map cy))):yb [aR bs ss js us ls ks h]=aa (.lst (ks.map cy)):=bM [oS .(e)] rfl (bS (aU (aA (jH 5 rfl rfl) aO) (im hp)))
noncomputable def ukv (us:ac SetT):ac (ac Key×D):=us.map fun u=>([u.b,u.p,u.q].map cz,.int u.n)
theorem Dn (a b c:ak):∀us:ac SetT,(ck (ukv us) [.inr a,.inr b,.inr c]).getD (.int 0)=.int (suN us a b c)
 |[]=>rfl
 |u::r=>by
  have ih:=Dn a b c r;unfold ck suN at ih ⊢;rw[show ukv (u::r)=(([cz u.b,cz u.p,cz u.q]:ac Key),D.int u.n)::ukv r from rfl,eC,eC];by_cases e:([cz u.b,cz u.p,cz u.q]:ac Key)=[.inr a,.inr b,.inr c]
  .rw[qR e];rfl
  .rw[qM e];exact ih
theorem yv {g:D->D->D->ar D} {x w:D} (h1:fa ρ=aa x) (h2:fb ρ=aa y) (h3:fc ρ=aa z) (h4:g x y z=aa w):b3 g fa fb fc ρ=aa w:=by unfold b3;rw[h1,qc,h2,qc,h3,qc];exact h4
theorem Ot (a b c:ak):sS [aR bs ss js us ls ks h,.str a,.str b,.str c]=aa (.int (suN us a b c)):=by
 have hn:ip (.dt (ukv us)) (.tup [.str a,.str b,.str c]) (.int 0)=aa (.int (suN us a b c)):=by rw[←Dn a b c us];rfl
 exact bM (n:=0) (ds:=[aR bs ss js us ls ks h,.str a,.str b,.str c]) [oS .(e),oS (.str a),oS (.str b),oS (.str c)] rfl (bS (yv (g:=ip) (fa:=gd "Shop" "setup_by_names" (vSh 0)) (fb:=aT (szF (ae (vSh 1) (ae (vSh 2) .(au))))) (fc:=vC (.int 0)) (jH 9 rfl rfl) (o5 rfl rfl rfl) rfl hn))
end
noncomputable def prS:ac StepT->ac (StepT×StepT)
 |[]=>[]
 |s::r=>r.map (fun t=>(s,t))++prS r
noncomputable def dP (p:StepT×StepT):D:=.tup [.str p.1.nm,.str p.2.nm]
theorem mT:∀{ss:ac StepT} {p:StepT×StepT},p∈prS ss->p.1∈ss/\p.2∈ss
 |[],_,h=>by cases h
 |s::r,p,h=>by
  rcases dn.mp h with q|q
  .obtain⟨t,ht,rfl⟩:=bw.mp q;exact⟨qh,qi _ ht⟩
  .obtain⟨h1,h2⟩:=mT q;exact⟨qi _ h1,qi _ h2⟩
theorem Cv:∀{ss:ac StepT} {n:al},ss.length<=n->(prS ss).length<=ss.length*n
 |[],_,_=>by simp[prS]
 |s::r,n,h=>by rw[qj] at h;have:=Cv (ss:=r) (n:=n) .(f);show(r.map (fun t=>(s,t))++prS r).length<=_;rw[qk,qg,qj,yV];omega
theorem zR {g:α->D} {xs ys:ac α} (h1:ρ[i]?=aa (aa (.own (xs.map g)))) (h2:f ρ=aa (.lst (ys.map g))) (h3:xs.length+ys.length<=10000):iD i f ρ=aa (.nx,ρ.set i (aa (.own ((xs++ys).map g)))):=by unfold iD;rw[h1];show(f ρ).bind _=_;rw[h2,qc];show(if _ then _ else _)=_;rw[qX (by rw[qg,qg];unfold aV;omega),gK]
theorem ww {l:ac α} {x:α} (h:l[i]?=aa x):l.drop i=x::l.drop (i+1):=by obtain⟨h1,h2⟩:=cX.mp h;rw[u6 h1,h2]
noncomputable abbrev pE (ss:ac StepT) (ps:ac (StepT×StepT)) (a b:ar Slot):bj:=[oS (.lst ((ss.map (·.nm)).map D.str)),aa (.own (ps.map dP)),a,b]
theorem Am (ss:ac StepT) (hl:ss.length<=40):sG [.lst ((ss.map (·.nm)).map D.str)]=aa (.lst ((prS ss).map dP)):=by
 have hpl:=Cv (ss:=ss) (n:=40) hl;obtain⟨ρ',h1,ps,a,b,h2,h3⟩:=dv (gg:=bJ 2 (aJ (ay 2) (aJ (ay 3) bI))) (body:=(iD 1 (aH (a9 (itF (slF (vSh 0) (pS (b2 aK (vSh 2) .(c))) pN)) (ay 0) tT (aT (szF (ae (vSh 1) .(T)))) [ab,aa 3])))) (xs:=((ss.map (·.nm)).map D.str).mapIdx fun i d=>D.tup [.int i,d]) (ρ:=pE ss [] ab ab)
  (fun i ρ=>∃ps a b,ρ=pE ss ps a b/\ps++prS (ss.drop i)=prS ss) ⟨[],ab,ab,rfl,rfl⟩ (fun i x ρ hx hI=>by
   obtain⟨ps,a,b,rfl,hps⟩:=hI;obtain⟨y,hy,rfl⟩:=mv hx;rw[qp,ql] at hy;obtain⟨s,hsi,rfl⟩:=oMd hy;have hi:i<ss.length:=(cX.mp hsi).1;have hdr:=ww hsi;have hlen:ps.length+(ss.drop (i+1)).length<=10000:=by have:=cK f8 hps;rw[qk] at this;rw[ja];omega
   have e:aH (a9 (itF (slF (vSh 0) (pS (b2 aK (vSh 2) .(c))) pN)) (ay 0) tT (aT (szF (ae (vSh 1) .(T)))) [ab,aa 3]) (pE ss ps .(am) (oS .(u)))=aa (.lst (((ss.drop (i+1)).map fun t=>(s,t)).map dP)):=by
    have e0:itF (slF (vSh 0) (pS (b2 aK (vSh 2) .(c))) pN) (pE ss ps .(am) (oS .(u)))=aa ((ss.drop (i+1)).map fun t=>D.str t.nm):=by have:=pF (f:=vSh 0) (g:=b2 aK (vSh 2) .(c)) (ρ:=pE ss ps .(am) (oS .(u))) (d:=(i:ag)+1) rfl .(G) .(f);unfold itF;rw[this];show aa _=_;rw[show((i:ag)+1).toNat=i+1 by omega,qp,sk];rfl
    refine(ic (r:=[oS .(u)]) (a:=ab) (f:=fun d=>.tup [.str s.nm,d]) e0 (by rw[qg,ja];exact szN (k:=40) .(f) .(g)) rfl fun x hx=>dw rfl rfl).trans ?_;rw[qp,qp];rfl
   refine⟨_,_,rfl,zR rfl e (by rw[qg];exact hlen),ps++(ss.drop (i+1)).map (fun t=>(s,t)),_,_,rfl,?_⟩;rw[←hps,hdr,oN];rfl)
 rw[kG,qg,qg,zc] at h3;have h4:ps=prS ss:=by rw[←h3];simp[prS]
 rw[h4] at h2;exact bM [oS (.lst ((ss.map (·.nm)).map D.str)),ab,ab,ab] rfl (jW.trans ((bT ((cR (xs:=((ss.map (·.nm)).map D.str).mapIdx fun i d=>D.tup [.int i,d]) rfl).trans (h1.trans (by rw[h2])))).trans ((iZ rfl).trans (bS (f:=vSh 1) rfl))))
noncomputable def flO:ar D->Fl
 |some d=>.rt d
 |none=>.nx
section
variable {d:α->D} {v:α->ar D}
theorem jj (I:bj->Prop):∀(as:ac α) (ρ:bj),(∀a∈as,∀ρ,I ρ->∃ρ1 ρ2,gg (d a) ρ=aa ρ1/\body ρ1=aa (flO (v a),ρ2)/\I ρ2)->I ρ->∃ρ',fz gg body (as.map d) ρ=aa (flO (as.findSome? v),ρ')/\I ρ'
 |[],ρ,_,h=>⟨ρ,rfl,h⟩
 |a::as,ρ,hs,h=>by
  obtain⟨ρ1,ρ2,e1,e2,h2⟩:=hs a (.head _) ρ h;rw[qo,nv];unfold fz;rw[e1,qc,e2,qc];cases hv:v a with
  |some x=>exact⟨ρ2,rfl,h2⟩
  |none=>
   obtain⟨ρ',q1,q2⟩:=jj I as ρ2 (fun b hb=>hs b (.tail _ hb)) h2;exact⟨ρ',q1,q2⟩
theorem uC {e:FE} (as:ac α) (I:bj->Prop) (hf:fi ρ=aa (as.map d)) (hs:∀a∈as,∀ρ,I ρ->∃ρ1 ρ2,gg (d a) ρ=aa ρ1/\body ρ1=aa (flO (v a),ρ2)/\I ρ2) (h:I ρ) (he:∀ρ,I ρ->e ρ=aa z):∃ρ',ax (bD fi gg body) (aE e) ρ=aa (.rt ((as.findSome? v).getD z),ρ'):=by
 obtain⟨ρ',e1,h1⟩:=jj I as ρ hs h;unfold ax bD;rw[hf,qc,e1,qc];cases as.findSome? v with
 |some x=>exact⟨ρ',rfl⟩
 |none=>exact⟨ρ',bS (he ρ' h1)⟩
theorem iO {e:FE} (as:ac α) (I:bj->Prop) (hρ:ds.map (fun d=>aa (Slot.sh d))++ce n ab=ρ) (hf:fi ρ=aa (as.map d)) (hs:∀a∈as,∀ρ,I ρ->∃ρ1 ρ2,gg (d a) ρ=aa ρ1/\body ρ1=aa (flO (v a),ρ2)/\I ρ2) (h:I ρ) (he:∀ρ,I ρ->e ρ=aa z) :
  aY n (ax (bD fi gg body) (aE e)) ds=aa ((as.findSome? v).getD z):=by
 obtain⟨ρ',e1⟩:=uC as I hf hs h he;exact bM ρ hρ e1
end
theorem cI {l:ac D} (h:f ρ=aa (.lst l)):itF f ρ=aa l:=by unfold itF;rw[h];rfl
noncomputable def Dy:ar ag->D
 |some n=>.int n
 |none=>.non
section
variable {bs:ac BenchT}
theorem yo (a b:ak):eqA (.str a) (.str b)=aa (.bl (decide (a=b))):=by unfold eqA orG eqD eqS;rfl
theorem Ce (b:ak):∀ws:ac (ak×ag),(ws.findSome? fun w=>if w.1=b then aa (D.int w.2) else ab)=(lk ws b).map D.int
 |[]=>rfl
 |(a,n)::ws=>by
  rw[nv,j8];by_cases e:a=b
  .rw[qX e,qX e];rfl
  .rw[qY e,qY e];exact Ce b ws
theorem BS (g:Good bs ss js us ls ks h) {s:StepT} (hs:s∈ss) (b:ak):o3 [aR bs ss js us ls ks h,.str s.nm,.str b]=aa (Dy (lk s.ws b)):=by
 have gs:=g.s s hs;have e:=iO (n:=2) (ds:=[aR bs ss js us ls ks h,.str s.nm,.str b]) (ρ:=[oS .(e),oS .(u),oS (.str b),ab,ab]) (d:=dW) (v:=fun w:ak×ag=>if w.1=b then aa (D.int w.2) else ab) (e:=vC .non) (z:=.non)
  (fi:=itF (c5 "Shop" "ways_of" t4 (vSh 0) .(K))) (gg:=bJ 2 (aJ (ay 3) (aJ (ay 4) bI))) (body:=sIf (toB (b2 eqA (vSh 3) (vSh 2))) (aE (vSh 4)) aP) s.ws
  (fun ρ=>∃x y,ρ=[oS .(e),oS .(u),oS (.str b),x,y]) rfl ?_ ?_ ⟨_,_,rfl⟩ (fun ρ _=>rfl)
 .rw[Ce] at e;refine e.trans ?_;cases lk s.ws b<;>rfl
 .exact cI (gM .(s) rfl (aA rfl aO) (Me g hs))
 .rintro w - ρ ⟨x,y,rfl⟩;refine⟨[oS .(e),oS .(u),oS (.str b),oS (.str w.1),oS (.int w.2)],[oS .(e),oS .(u),oS (.str b),oS (.str w.1),oS (.int w.2)],rfl,?_,_,_,rfl⟩;have te:toB (b2 eqA (vSh 3) (vSh 2)) [oS .(e),oS .(u),oS (.str b),oS (.str w.1),oS (.int w.2)]=aa (decide (w.1=b)):=a5 (au rfl rfl (yo _ _));refine(bH te).trans ?_;by_cases e:w.1=b
  .rw[qR e,qX rfl,qX e];rfl
  .rw[qM e,qY e];rfl
end
section
variable {bs:ac BenchT} {P:bc}
noncomputable def gq (h:ag) (P:bc) (s:StepT):ar D:=match lk P s.nm with
 |none=>ab
 |some q=>match lk s.ws q.1 with
  |none=>aa (.tup [.str "way",.str s.nm])
  |some n=>if q.2<0\/h<q.2+n then aa (.tup [.str "way",.str s.nm]) else ab
theorem xJ {A B:FT} (hA:A ρ=aa ai):orT A B ρ=aa ai:=by unfold orT;rw[hA];rfl
theorem nD {A B:FT} {b:aX} (hA:A ρ=aa aq) (hB:B ρ=aa b):orT A B ρ=aa b:=by unfold orT;rw[hA];exact hB
theorem sT (g:Good bs ss js us ls ks h) (h0:vSh 0 ρ=aa .(e)):itF (c5 "Shop" "step_names" j2 (vSh 0) aj) ρ=aa (ss.map fun s=>D.str s.nm):=by have e:=cI (gM (m:="step_names") (fr:=aj) .(s) h0 aO (vH (bs:=bs) (ss:=ss) (js:=js) (us:=us) (ls:=ls) (ks:=ks) (h:=h) g.sl.2));rw[qp] at e;exact e
theorem BR (g:Good bs ss js us ls ks h) (hp:∀s∈ss,(lk P s.nm).isSome=ai):xi [aR bs ss js us ls ks h,pD P]=aa ((ss.findSome? (gq h P)).getD .non):=by
 refine iO (n:=3) (ds:=[aR bs ss js us ls ks h,pD P]) (ρ:=[oS .(e),oS (pD P),ab,ab,ab]) (d:=fun s:StepT=>D.str s.nm) (v:=gq h P) ss
  (fun ρ=>∃x y z,ρ=[oS .(e),oS (pD P),x,y,z]) rfl (sT g rfl) ?_ ⟨_,_,_,rfl⟩ (fun ρ _=>rfl)
 rintro s hs ρ ⟨x,y,z,rfl⟩;obtain⟨q,hq⟩:=g0.mp (hp s hs);refine⟨_,[oS .(e),oS (pD P),oS .(u),oS (.int q.2),oS (Dy (lk s.ws q.1))],rfl,?_,_,_,_,rfl⟩;refine(aZ (au (au rfl rfl (cQ hq)) rfl cB)).trans ((aZ (aU (aA rfl (aA rfl (aA (au (au rfl rfl (cQ hq)) rfl cJ) aO))) (BS g hs q.1))).trans ?_);unfold gq;rw[hq];dsimp only;cases hw:lk s.ws q.1 with
 |none=>exact(bH (xJ (a5 .(G)))).trans rfl
 |some n=>
  dsimp only;by_cases h1:q.2<0
  .rw[qX (.inl h1)];exact(bH (nD (a5 .(G)) (xJ (a5 (au rfl rfl (cK (aa ∘ D.bl) (qR h1))))))).trans rfl
  .have e2:toB (b2 gtD (b2 aK (vSh 3) (vSh 4)) (c5 "Shop" "last_moment" sO (vSh 0) aj)) [oS .(e),oS (pD P),oS .(u),oS (.int q.2),oS (.int n)]=aa (decide (h<q.2+n)):=
    a5 (au .(G) (gM .(s) rfl aO N6) rfl)
   have e1:toB (b2 ltD (vSh 3) .(d)) [oS .(e),oS (pD P),oS .(u),oS (.int q.2),oS (.int n)]=aa aq:=a5 (au (x:=.int q.2) rfl rfl (cK (aa ∘ D.bl) (qM h1)));refine(bH (nD (a5 .(G)) (nD e1 e2))).trans ?_;by_cases h2:h<q.2+n
   .rw[qR h2,qX rfl,qX (show q.2<0\/h<q.2+n from .inr h2)];rfl
   .rw[qM h2,qY qt,qY (show ¬(q.2<0\/h<q.2+n) from fun z=>z.elim h1 h2)];rfl
end
section
variable {bs:ac BenchT} {P:bc}
noncomputable def fR (P:bc) (s:StepT):ar (ak×ag):=(lk P s.nm).bind fun q=>(lk s.ws q.1).map fun n=>(s.nm,q.2+n)
noncomputable def bU (ss:ac StepT) (P:bc):ac (ak×ag):=ss.filterMap (fR P)
noncomputable def OnB (ss:ac StepT) (P:bc):Prop:=∀s∈ss,∀q,lk P s.nm=aa q->(lk s.ws q.1).isSome=ai
theorem xn {P:bc}:∀{ss:ac StepT} {k:ak},k∈(bU ss P).map (·.1)->k∈ss.map (·.nm)
 |[],k,hk=>by cases hk
 |s::ss,k,hk=>by
  unfold bU at hk;rw[rm] at hk;cases e:fR P s with
  |none=>rw[e] at hk;exact .tail _ (xn hk)
  |some q=>
   rw[e] at hk;rcases cM.mp (show k∈q.1::(ss.filterMap (fR P)).map (·.1) from hk) with z|z
   .unfold fR at e;obtain⟨a,_,e⟩:=oBd e;obtain⟨b,_,rfl⟩:=oMd e;rw[z];exact .head _
   .exact .tail _ (xn z)
theorem w9 {s:StepT} (hs:ss[i]?=aa s):bU (ss.take (i+1)) P=bU (ss.take i) P++(fR P s).toList:=by
 rw[nr,hs];unfold bU;rw[Ss]
 congr 1
theorem Eh {l:ac (ak×α)} {k:ak} {v:α} (h:k∉l.map (·.1)):pt l k v=l++[(k,v)]:=by unfold pt;rw[qY fun z=>h (o0.mp z)]
theorem pQ {f:α->D} {fv:FE} {l:ac (ak×α)} {v:α} (hi:ρ[i]?=aa (aa (.odk (tb f l)))) (hv:fv ρ=aa (f v)) (hk:fk ρ=aa (.str x)) (hl:l.length<100000):eK i fk fv ρ=aa (.nx,ρ.set i (aa (.odk (tb f (pt l x v))))):=by unfold eK;rw[hv,qc,hk,qc,hi];show((aa (cz x:Key)).bind fun k=>if (tb f l).length<100000 then aa (Fl.nx,ρ.set i (aa (.odk (eG (tb f l) k (f v))))) else ab)=_;rw[qc,qX (by unfold tb;rw[qg];exact hl),K5]
theorem Av (g:Good bs ss js us ls ks h) {s:StepT} (hs:ss[i]?=aa s):s.nm∉(bU (ss.take i) P).map (·.1):=fun z=>by have hz:=xn z;have nd:=g.sn;rw[←rT i ss,gK,kM] at nd;refine nd.2.2 _ hz s.nm ?_ rfl;rw[u6 (cX.mp hs).1,(cX.mp hs).2];exact .head _
theorem yt (ss:ac StepT) (P:bc):(bU ss P).length<=ss.length:=FC _ _
theorem pf {l:ac (Key×D)} (hi:ρ[i]?=aa (aa (.odk l))):iC i g ρ=g (ρ.set i (oS (.fdk l))):=by unfold iC;rw[hi]
theorem MU (g:Good bs ss js us ls ks h) (hp:∀s∈ss,(lk P s.nm).isSome=ai) (ho:OnB ss P):wJ [aR bs ss js us ls ks h,pD P]=aa (eD (bU ss P)):=by
 obtain⟨ρ',h1,a,b,h2⟩:=dv (gg:=ay 3) (body:=ax (aG 4 .(V)) (eK 2 (vSh 3) (b2 aK (b2 ixD (vSh 4) .(c)) (cF o3 (ae (vSh 0) (ae (vSh 3) (ae (b2 ixD (vSh 4) .(d)) aj))))))) (xs:=ss.map fun s=>D.str s.nm) (ρ:=[oS .(e),oS (pD P),aa (.odk []),ab,ab])
  (fun i ρ=>∃a b,ρ=[oS .(e),oS (pD P),aa (.odk (tb D.int (bU (ss.take i) P))),a,b]) ⟨ab,ab,rfl⟩ (fun i x ρ hx hI=>by
   obtain⟨a,b,rfl⟩:=hI;rw[ql] at hx;obtain⟨s,hs,rfl⟩:=oMd hx;have hsm:s∈ss:=qO hs;obtain⟨q,hq⟩:=g0.mp (hp s hsm);obtain⟨n,hn⟩:=g0.mp (ho s hsm q hq);have el:=BS g hsm q.1;rw[hn] at el;have ev:fR P s=aa (s.nm,q.2+n):=by unfold fR;rw[hq,qc,hn];rfl
   refine⟨_,_,rfl,(aZ (d:=pT q) (au rfl rfl (cQ hq))).trans (pQ (i:=2) (f:=D.int) (l:=bU (ss.take i) P) (x:=s.nm) (v:=q.2+n) rfl (au (au rfl rfl cB) (aU (aA rfl (aA rfl (aA (au rfl rfl cJ) aO))) el) rfl) rfl ?_),oS .(u),oS (pT q),?_⟩
   .have:=yt (ss.take i) P;have:=g.sl.2;rw[qD] at *;omega
   .rw[Eh (Av g hs),w9 hs,ev];rfl)
 rw[qg,iB] at h2;refine bM (ρ':=[oS .(e),oS (pD P),oS (eD (bU ss P)),a,b]) [oS .(e),oS (pD P),ab,ab,ab] rfl ?_;refine(bT (ρ1:=[oS .(e),oS (pD P),aa (.odk []),ab,ab]) rfl).trans ?_;exact(bT ((cR (sT g rfl)).trans (h1.trans (by rw[h2])))).trans ((pf rfl).trans (bS rfl))
end
section
variable {bs:ac BenchT} {P:bc}
theorem CY (hl:ws.length<=1000) (nd:(ws.map (·.1)).Nodup):fW [.lst (ws.map dW)]=aa (.dk (tb D.int ws)):=by
 have kn:((ws.map fun x=>((.inr x.1:Key),D.int x.2)).map (·.1)).Nodup:=by rw[qp];have:=oX (S:=fun a b:Key=>a≠b) (cz:ak->Key) (fun a b hab z=>hab (gH z)) nd;rw[qp] at this;exact this
 show(if _ then _ else _)=_;rw[qX (by rw[qg];exact hl),show ws.map dW=ws.map fun w=>.tup [.str w.1,.int w.2] from rfl,pJ,qf,o6 kn];rfl
theorem HB {k:ak} {n:ag} (h:lk ws k=aa n):aW (.dk (tb D.int ws)) (.str k)=aa (.int n):=by show(aa (ck (tb D.int ws) (.inr k))).bind id=_;rw[gv,h];rfl
theorem K' {k:ak} {x:ag} :ip (.dk (tb D.int ws)) (.str k) (.int x)=aa (.int ((lk ws k).getD x)):=by show aa ((ck (tb D.int ws) (.inr k)).getD (.int x))=_;rw[gv];cases lk ws k<;>rfl
theorem Aq (h0:vSh i ρ=aa .(a)):itF (b2 ixD (vSh i) .(c)) ρ=aa (ss.map bA):=cI (au h0 rfl (ixL _ 1))
noncomputable abbrev leE (P:bc) (L:D) (E:ac (ak×ag)) (a b c d e:ar Slot):bj:=[oS (pD P),oS L,aa (.odk (tb D.int E)),a,b,c,d,e]
theorem vV (g:Good bs ss js us ls ks h) (ho:OnB ss P):nV [pD P,aF bs ss js us ls ks h]=aa (eD (bU ss P)):=by
 obtain⟨ρ',h1,a,b,c,d,e,h2⟩:=dv (gg:=bJ 3 (aJ (ay 3) .(O))) (body:=sIf (toB (b2 gA (vSh 3) (vSh 0))) (ax (dM (bJ 2 (aJ (ay 6) (aJ (ay 7) bI))) (b2 aW (vSh 0) (vSh 3))) (eK 2 (vSh 3) (b2 aK (vSh 7) (b2 aW (cF fW (ae (vSh 5) aj)) (vSh 6))))) aP) (xs:=ss.map bA) (ρ:=leE P .(a) [] ab ab ab ab ab)
  (fun i ρ=>∃a b c d e,ρ=leE P .(a) (bU (ss.take i) P) a b c d e) ⟨_,_,_,_,_,rfl⟩ (fun i x ρ hx hI=>by
   obtain⟨a,b,c,d,e,rfl⟩:=hI;rw[ql] at hx;obtain⟨s,hs,rfl⟩:=oMd hx;have hsm:s∈ss:=qO hs;have gs:=g.s s hsm;have te:toB (b2 gA (vSh 3) (vSh 0)) (leE P .(a) (bU (ss.take i) P) (oS .(u)) (oS (.str s.kd)) (oS (.lst (s.ws.map dW))) d e)=aa (lk P s.nm).isSome:=a5 (au rfl rfl GI);cases hq:lk P s.nm with
   |none=>
    rw[hq] at te;have ev:fR P s=ab:=by unfold fR;rw[hq];rfl
    exact⟨_,_,rfl,(bH te).trans rfl,_,_,_,_,_,by rw[w9 hs,ev,Option.toList_none,lT]⟩
   |some q=>
    rw[hq] at te;obtain⟨n,hn⟩:=g0.mp (ho s hsm q hq);have ev:fR P s=aa (s.nm,q.2+n):=by unfold fR;rw[hq,qc,hn];rfl
    have ea:dM (bJ 2 (aJ (ay 6) (aJ (ay 7) bI))) (b2 aW (vSh 0) (vSh 3)) (leE P .(a) (bU (ss.take i) P) (oS .(u)) (oS (.str s.kd)) (oS (.lst (s.ws.map dW))) d e)=aa (.nx,leE P .(a) (bU (ss.take i) P) (oS .(u)) (oS (.str s.kd)) (oS (.lst (s.ws.map dW))) (oS (.str q.1)) (oS (.int q.2))):=by unfold dM;rw[au (z:=pT q) rfl rfl (cQ hq)];rfl
    refine⟨_,_,rfl,(bH te).trans ((bT ea).trans (pQ (i:=2) (f:=D.int) (l:=bU (ss.take i) P) (x:=s.nm) (v:=q.2+n) rfl (au rfl (au (aU (aA rfl aO) (CY (by have:=gs.l4;omega) gs.nd)) rfl (HB hn)) rfl) rfl ?_)),oS .(u),oS (.str s.kd),oS (.lst (s.ws.map dW)),oS (.str q.1),oS (.int q.2),?_⟩
    .have:=yt (ss.take i) P;have:=g.sl.2;rw[qD] at *;omega
    .rw[Eh (Av g hs),w9 hs,ev];rfl)
 rw[qg,iB] at h2;refine bM (ρ':=[oS (pD P),oS .(a),oS (eD (bU ss P)),a,b,c,d,e]) [oS (pD P),oS .(a),ab,ab,ab,ab,ab,ab] rfl ?_;refine(bT (ρ1:=leE P .(a) [] ab ab ab ab ab) rfl).trans ?_;exact(bT ((cR (Aq rfl)).trans (h1.trans (by rw[h2])))).trans ((pf rfl).trans (bS rfl))
end
section
variable {bs:ac BenchT} {P:bc}
noncomputable def ik (js:ac JobT) (x:ak) (st en:ag):aX:=match iG js x with
 |some j=>decide (st<j.ea\/j.du<en)
 |none=>aq
theorem CA {st en:ag} (x:ak):∀js:ac JobT,(js.flatMap (·.ms)).Nodup->(js.findSome? fun j=>if x∈j.ms/\(st<j.ea\/j.du<en) then aa (D.bl ai) else ab)=if ik js x st en=ai then aa (D.bl ai) else ab
 |[],_=>rfl
 |j::js,nd=>by
  rw[Fw,kM] at nd;rw[nv];unfold ik iG;rw[eC];by_cases hx:x∈j.ms
  .rw[qR hx];dsimp only;by_cases hq:st<j.ea\/j.du<en
   .rw[qX ⟨hx,hq⟩,qX (qR hq)]
   .rw[qY fun z=>hq z.2,qY fun z=>hq (fL z)];dsimp only;rw[Su];intro k hk;rw[qY fun z=>nd.2.2 x hx x (Sr.mpr ⟨k,hk,z.1⟩) rfl]
  .rw[qM hx,qY fun z=>hx z.1];exact CA x js nd.2.1
theorem O0 (h0:vSh i ρ=aa .(a)):itF (b2 ixD (vSh i) .(i)) ρ=aa (js.map ba):=cI (au h0 rfl (ixL _ 2))
theorem ib {A B:FT} {b:aX} (hA:A ρ=aa ai) (hB:B ρ=aa b):cD A B ρ=aa b:=by unfold cD;rw[hA];exact hB
theorem jy {A B:FT} (hA:A ρ=aa aq):cD A B ρ=aa aq:=by unfold cD;rw[hA];rfl
theorem mE {A B:FT} {a b:aX} (hA:A ρ=aa a) (hB:B ρ=aa b):orT A B ρ=aa (a || b):=by
 cases a with
 |true=>exact xJ hA
 |false=>exact nD hA hB
theorem AK {fp fj:FE} {j:JobT} (h1:fp ρ=aa (pT q)) (h2:fe ρ=aa (.int en)) (h3:fj ρ=aa (ba j)) :
  orT (toB (b2 ltD (b2 ixD fp .(c)) (b2 ixD fj .(c)))) (toB (b2 gtD fe (b2 ixD fj .(i)))) ρ=aa (decide (q.2<j.ea\/j.du<en)):=by
 refine(mE (a5 (au (au h1 rfl cB) (au h3 rfl cB) rfl)) (a5 (au h2 (au h3 rfl gT) rfl))).trans ?_;rw[Sv]
theorem GM (g:Good bs ss js us ls ks h) {j:JobT} (hj:j∈js):∀y∈j.ms,bf y=ai:=fun y hy=>by obtain⟨s,hs,e⟩:=bw.mp ((g.j j hj).ms y hy);rw[←e];exact(g.s s hs).nm
theorem Bk (g:Good bs ss js us ls ks h) {s:StepT} (hs:s∈ss) (hq:lk P s.nm=aa q) (he:lk E s.nm=aa en):oo [pD P,eD E,aF bs ss js us ls ks h,.str s.nm]=aa (.bl (ik js s.nm q.2 en)):=by
 have e:=iO (n:=1) (ds:=[pD P,eD E,aF bs ss js us ls ks h,.str s.nm]) (ρ:=[oS (pD P),oS (eD E),oS .(a),oS .(u),ab]) (d:=ba) (v:=fun j:JobT=>if s.nm∈j.ms/\(q.2<j.ea\/j.du<en) then aa (D.bl ai) else ab) (e:=vC (.bl aq)) (z:=.bl aq)
  (fi:=itF (b2 ixD (vSh 2) .(i))) (gg:=ay 4) (body:=sIf (toB (b2 fE (vSh 3) (b2 ixD (vSh 4) .(l)))) (sIf (orT (toB (b2 ltD (b2 ixD (b2 aW (vSh 0) (vSh 3)) .(c)) (b2 ixD (vSh 4) .(c)))) (toB (b2 gtD .(V) (b2 ixD (vSh 4) .(i))))) (aE (vC (.bl ai))) aP) aP) js
  (fun ρ=>∃x,ρ=[oS (pD P),oS (eD E),oS .(a),oS .(u),x]) rfl (O0 rfl) ?_ ⟨_,rfl⟩ (fun ρ _=>rfl)
 .rw[CA s.nm js g.jm] at e;refine e.trans ?_;cases ik js s.nm q.2 en<;>rfl
 .rintro j hj ρ ⟨x,rfl⟩;refine⟨[oS (pD P),oS (eD E),oS .(a),oS .(u),oS (ba j)],[oS (pD P),oS (eD E),oS .(a),oS .(u),oS (ba j)],rfl,?_,_,rfl⟩;refine(bH (a5 (au rfl (au rfl rfl fF) (oA (g.s s hs).nm (GM g hj))))).trans ?_;by_cases hx:s.nm∈j.ms
  .rw[qR hx,qX rfl];refine(bH (AK (au rfl rfl (cQ hq)) (au rfl rfl (eZ he)) rfl)).trans ?_;by_cases hz:q.2<j.ea\/j.du<en
   .rw[qR hz,qX rfl,qX ⟨hx,hz⟩];rfl
   .rw[qM hz,qY qt,qY fun z=>hz z.2];rfl
  .rw[qM hx,qY qt,qY fun z=>hx z.1];rfl
end
section
variable {bs:ac BenchT} {P:bc}
structure Tld (ss:ac StepT) (P:bc) (E:ac (ak×ag)):Prop where
 p:∀s∈ss,∃q,lk P s.nm=aa q
 e:∀s∈ss,∃x,lk E s.nm=aa x
noncomputable def stt (P:bc) (x:ak):ag:=((lk P x).getD (⟨#[]⟩,0)).2
noncomputable def bnt (P:bc) (x:ak):ak:=((lk P x).getD (⟨#[]⟩,0)).1
noncomputable def ent (E:ac (ak×ag)) (x:ak):ag:=(lk E x).getD 0
theorem Tld.gp (T:Tld ss P E) {s:StepT} (hs:s∈ss):lk P s.nm=aa (bnt P s.nm,stt P s.nm):=by obtain⟨q,hq⟩:=T.p s hs;unfold bnt stt;rw[hq];rfl
theorem Tld.ge (T:Tld ss P E) {s:StepT} (hs:s∈ss):lk E s.nm=aa (ent E s.nm):=by obtain⟨q,hq⟩:=T.e s hs;unfold ent;rw[hq];rfl
noncomputable def j9 (js:ac JobT) (P:bc) (E:ac (ak×ag)) (s:StepT):ar D:=if ik js s.nm (stt P s.nm) (ent E s.nm)=ai then aa (.tup [.str "job",.str s.nm]) else ab
theorem Gh (g:Good bs ss js us ls ks h) (T:Tld ss P E):yj [aR bs ss js us ls ks h,pD P,eD E]=aa ((ss.findSome? (j9 js P E)).getD .non):=by
 refine iO (n:=2) (ds:=[aR bs ss js us ls ks h,pD P,eD E]) (ρ:=[oS .(e),oS (pD P),oS (eD E),ab,ab]) (d:=fun s:StepT=>D.str s.nm) (v:=j9 js P E) ss
  (fun ρ=>∃x y,ρ=[oS .(e),oS (pD P),oS (eD E),x,y]) rfl (sT g rfl) ?_ ⟨_,_,rfl⟩ (fun ρ _=>rfl)
 rintro s hs ρ ⟨x,y,rfl⟩;refine⟨_,[oS .(e),oS (pD P),oS (eD E),oS .(u),oS (v8 (iG js s.nm))],rfl,?_,_,_,rfl⟩;refine(aZ (gM .(s) rfl (aA rfl aO) (Nj g s.nm))).trans ?_;cases hj:iG js s.nm with
 |none=>
  have hv:ik js s.nm (stt P s.nm) (ent E s.nm)=aq:=by unfold ik;rw[hj]
  unfold j9;rw[hv];exact(bH (jy (a5 .(G)))).trans rfl
 |some j=>
  have hv:ik js s.nm (stt P s.nm) (ent E s.nm)=decide (stt P s.nm<j.ea\/j.du<ent E s.nm):=by unfold ik;rw[hj]
  unfold j9;rw[hv];refine(bH (ib (a5 .(G)) (AK (au rfl rfl (cQ (T.gp hs))) (au rfl rfl (eZ (T.ge hs))) rfl))).trans ?_;cases decide (stt P s.nm<j.ea\/j.du<ent E s.nm)<;>rfl
end
section
variable {bs:ac BenchT} {P:bc}
noncomputable def jv (br:ac (ag×ag)) (st en:ag):aX:=br.any fun iv=>decide (st<iv.2) && decide (iv.1<en)
theorem D3 {st en:ag}:∀br:ac (ag×ag),(br.findSome? fun iv=>if (decide (st<iv.2) && decide (iv.1<en))=ai then aa (D.bl ai) else ab)=if jv br st en=ai then aa (D.bl ai) else ab
 |[]=>rfl
 |iv::br=>by
  rw[nv];unfold jv;rw[kF];cases decide (st<iv.2) && decide (iv.1<en) with
  |true=>rfl
  |false=>exact D3 br
theorem HQ (g:Good bs ss js us ls ks h):fW [.lst (bs.map cm)]=aa (.dk (tb (fun br:ac (ag×ag)=>D.lst (br.map dIv)) (bs.map fun b=>(b.nm,b.br)))):=by
 have kn:((bs.map fun b=>((.inr b.nm:Key),D.lst (b.br.map dIv))).map (·.1)).Nodup:=by rw[qp];have:=oX (S:=fun a b:Key=>a≠b) (cz:ak->Key) (fun a b hab z=>hab (gH z)) g.bn;rw[qp] at this;exact this
 show(if _ then _ else _)=_;rw[qX (by rw[qg];have:=g.bl;omega),show bs.map cm=bs.map fun b=>.tup [.str b.nm,.lst (b.br.map dIv)] from rfl,pJ,qf,o6 kn];unfold tb;rw[qp];rfl
theorem Cz (g:Good bs ss js us ls ks h) {b:BenchT} (hb:b∈bs):lk (bs.map fun b=>(b.nm,b.br)) b.nm=aa b.br:=mG (by rw[qp];exact g.bn) (bw.mpr ⟨b,hb,rfl⟩)
theorem zW {sp:ac StepT} (g:Good bs ss js us ls ks h) (T:Tld sp P E) {s:StepT} (hs:s∈sp) {b:BenchT} (hb:b∈bs) (hn:bnt P s.nm=b.nm):nQ [pD P,eD E,aF bs ss js us ls ks h,.str s.nm]=aa (.bl (jv b.br (stt P s.nm) (ent E s.nm))):=by
 have hq:=T.gp hs;have he:=T.ge hs;have e:=iO (n:=2) (ds:=[pD P,eD E,aF bs ss js us ls ks h,.str s.nm]) (ρ:=[oS (pD P),oS (eD E),oS .(a),oS .(u),ab,ab]) (d:=dIv) (v:=fun iv:ag×ag=>if (decide (stt P s.nm<iv.2) && decide (iv.1<ent E s.nm))=ai then aa (D.bl ai) else ab) (e:=vC (.bl aq)) (z:=.bl aq)
  (fi:=itF (b2 aW (cF fW (ae (b2 ixD (vSh 2) .(d)) aj)) (b2 ixD (b2 aW (vSh 0) (vSh 3)) .(d)))) (gg:=bJ 2 .(O)) (body:=sIf (cD (toB (b2 ltD (b2 ixD (b2 aW (vSh 0) (vSh 3)) .(c)) (vSh 5))) (toB (b2 ltD (vSh 4) .(V)))) (aE (vC (.bl ai))) aP) b.br
  (fun ρ=>∃x y,ρ=[oS (pD P),oS (eD E),oS .(a),oS .(u),x,y]) rfl ?_ ?_ ⟨_,_,rfl⟩ (fun ρ _=>rfl)
 .rw[D3] at e;refine e.trans ?_;cases jv b.br (stt P s.nm) (ent E s.nm)<;>rfl
 .refine cI (au (aU (aA (au rfl rfl (ixL _ 0)) aO) (HQ g)) (au (au rfl rfl (cQ hq)) rfl cJ) ?_);show(aa (ck (tb _ _) (.inr (bnt P s.nm)))).bind id=_;rw[gv,hn,Cz g hb];rfl
 .rintro iv - ρ ⟨x,y,rfl⟩;refine⟨[oS (pD P),oS (eD E),oS .(a),oS .(u),oS (.int iv.1),oS (.int iv.2)],[oS (pD P),oS (eD E),oS .(a),oS .(u),oS (.int iv.1),oS (.int iv.2)],rfl,?_,_,_,rfl⟩;have t1:toB (b2 ltD (b2 ixD (b2 aW (vSh 0) (vSh 3)) .(c)) (vSh 5)) [oS (pD P),oS (eD E),oS .(a),oS .(u),oS (.int iv.1),oS (.int iv.2)]=aa (decide (stt P s.nm<iv.2)):=a5 (au (au (au rfl rfl (cQ hq)) rfl cB) rfl rfl);have t2:toB (b2 ltD (vSh 4) .(V)) [oS (pD P),oS (eD E),oS .(a),oS .(u),oS (.int iv.1),oS (.int iv.2)]=aa (decide (iv.1<ent E s.nm)):=a5 (au rfl (au rfl rfl (eZ he)) rfl);cases h1:decide (stt P s.nm<iv.2) with
  |false=>
   rw[h1] at t1;exact(bH (jy t1)).trans rfl
  |true=>
   rw[h1] at t1;refine(bH (ib t1 t2)).trans ?_;cases decide (iv.1<ent E s.nm)<;>rfl
end
theorem nJ {α:Type} {gg:FG} {ft:FT} {fe:FE} {d r:α->D} (I:bj->Prop):∀(as:ac α) (ρ:bj),(∀a∈as,∀ρ,I ρ->∃ρ1,gg (d a) ρ=aa ρ1/\ft ρ1=aa ai/\fe ρ1=aa (r a)/\I ρ1)->I ρ->ga gg ft fe (as.map d) ρ=aa (as.map r)
 |[],_,_,_=>rfl
 |a::as,ρ,hs,h=>by obtain⟨ρ1,e1,e2,e3,h1⟩:=hs a (.head _) ρ h;rw[qo];unfold ga;rw[e1,qc,e2,qc,qX rfl,e3,qc,nJ I as ρ1 (fun b hb=>hs b (.tail _ hb)) h1];rfl
theorem CO {A:FE} {a b:aX} (hA:A ρ=aa (.bl a)) (hB:B ρ=aa (.bl b)):cE A B ρ=aa (.bl (a && b)):=by
 unfold cE;rw[hA,qc];cases a
 .rfl
 .exact hB
theorem BA {α:Type} (f:α->aX):∀l:ac α,jo (l.map fun x=>D.bl (f x))=aa (l.map f)
 |[]=>rfl
 |x::l=>by show(jo (l.map fun x=>D.bl (f x))).map (f x::·)=_;rw[BA f l];rfl
section
variable {bs:ac BenchT} {P:bc}
noncomputable def brs (bs:ac BenchT) (b:ak):ac (ag×ag):=(lk (bs.map fun b=>(b.nm,b.br)) b).getD []
theorem B2 (g:Good bs ss js us ls ks h) {b:BenchT} (hb:b∈bs):brs bs b.nm=b.br:=by unfold brs;rw[Cz g hb];rfl
noncomputable def mm (bs:ac BenchT) (P:bc) (E:ac (ak×ag)) (s:StepT):ar D:=if jv (brs bs (bnt P s.nm)) (stt P s.nm) (ent E s.nm)=ai then aa (.tup [.str "break",.str s.nm]) else ab
theorem OH (g:Good bs ss js us ls ks h) (T:Tld ss P E) (hB:∀s∈ss,∃b∈bs,b.nm=bnt P s.nm):wd [aR bs ss js us ls ks h,pD P,eD E]=aa ((ss.findSome? (mm bs P E)).getD .non):=by
 refine iO (n:=3) (ds:=[aR bs ss js us ls ks h,pD P,eD E]) (ρ:=[oS .(e),oS (pD P),oS (eD E),ab,ab,ab]) (d:=fun s:StepT=>D.str s.nm) (v:=mm bs P E) ss
  (fun ρ=>∃x y z,ρ=[oS .(e),oS (pD P),oS (eD E),x,y,z]) rfl (sT g rfl) ?_ ⟨_,_,_,rfl⟩ (fun ρ _=>rfl)
 rintro s hs ρ ⟨x,y,z,rfl⟩;obtain⟨b,hb,hn⟩:=hB s hs;have hq:=T.gp hs;have he:=T.ge hs;have eb:=Ho g hb;rw[hn] at eb;refine⟨_,[oS .(e),oS (pD P),oS (eD E),oS .(u),oS (.int (stt P s.nm)),oS (.lst (b.br.map dIv))],rfl,?_,_,_,_,rfl⟩;refine(aZ (au (au rfl rfl (cQ hq)) rfl cB)).trans ((aZ (gM .(s) rfl (aA (au (au rfl rfl (cQ hq)) rfl cJ) aO) eb)).trans ?_);have gb:=g.b b hb;have ec:aH (a9 (itF (vSh 5)) (bJ 2 (aJ (ay 0) (aJ (ay 1) bI))) tT (cE (b2 ltD (vSh 2) (vSh 1)) (b2 ltD (vSh 0) (b2 aW (vSh 3) (vSh 4)))) [ab,ab,aa 4,aa 2,aa 3]) [oS .(e),oS (pD P),oS (eD E),oS .(u),oS (.int (stt P s.nm)),oS (.lst (b.br.map dIv))]=aa (.lst (b.br.map fun iv=>D.bl (decide (stt P s.nm<iv.2) && decide (iv.1<ent E s.nm)))):=by
  unfold aH a9;rw[show itF (vSh 5) [oS .(e),oS (pD P),oS (eD E),oS .(u),oS (.int (stt P s.nm)),oS (.lst (b.br.map dIv))]=aa (b.br.map dIv) from rfl,qc,qX (by rw[qg];exact szN gb.len .(g))];refine cK (rN D.lst) (nJ (r:=fun iv:ag×ag=>D.bl (decide (stt P s.nm<iv.2) && decide (iv.1<ent E s.nm))) (fun ρ=>∃x y,ρ=[x,y,oS (.int (stt P s.nm)),oS (eD E),oS .(u)]) b.br _ ?_ ⟨ab,ab,rfl⟩)
  .rintro iv - ρ ⟨x,y,rfl⟩;refine⟨[oS (.int iv.1),oS (.int iv.2),oS (.int (stt P s.nm)),oS (eD E),oS .(u)],rfl,rfl,?_,_,_,rfl⟩;exact CO rfl (au rfl (au rfl rfl (eZ he)) rfl)
 unfold mm;rw[←hn,B2 g hb];refine(bH (b:=jv b.br (stt P s.nm) (ent E s.nm)) (a5 (aU (aA ec aO) ?_))).trans ?_
 .show(jo _).map _=_;rw[BA];show aa (D.bl _)=_;rw[So];rfl
 .cases jv b.br (stt P s.nm) (ent E s.nm)<;>rfl
end
theorem wO {α:Type} {v:α->ar D} {f:D->D}:∀l:ac α,(l.findSome? fun x=>(v x).map f)=(l.findSome? v).map f
 |[]=>rfl
 |x::l=>by
  rw[nv,nv];cases v x with
  |some d=>rfl
  |none=>exact wO l
section
variable {bs:ac BenchT} {P:bc}
theorem Tld.gpN (T:Tld ss P E) (hx:x∈ss.map (·.nm)):lk P x=aa (bnt P x,stt P x):=by obtain⟨s,hs,rfl⟩:=bw.mp hx;exact T.gp hs
theorem Tld.geN (T:Tld ss P E) (hx:x∈ss.map (·.nm)):lk E x=aa (ent E x):=by obtain⟨s,hs,rfl⟩:=bw.mp hx;exact T.ge hs
noncomputable def lkB (P:bc) (E:ac (ak×ag)) (l:LinkT):aX:=decide (stt P l.b<ent E l.a+l.g)
noncomputable def lkT (l:LinkT):D:=.tup [.str "link",.str l.a,.str l.b]
noncomputable def lkV (P:bc) (E:ac (ak×ag)) (l:LinkT):ar D:=if lkB P E l=ai then aa (lkT l) else ab
theorem FV (g:Good bs ss js us ls ks h) (T:Tld ss P E):wK [aR bs ss js us ls ks h,pD P,eD E]=aa ((ls.findSome? (lkV P E)).getD .non):=by
 refine iO (n:=3) (ds:=[aR bs ss js us ls ks h,pD P,eD E]) (ρ:=[oS .(e),oS (pD P),oS (eD E),ab,ab,ab]) (d:=cY) (v:=lkV P E) ls
  (fun ρ=>∃x y z,ρ=[oS .(e),oS (pD P),oS (eD E),x,y,z]) rfl (cI (gM .(s) rfl aO (JB (gX (n:=7) (by have:=g.ll;omega) fun x _=>DZ)))) ?_ ⟨_,_,_,rfl⟩ (fun ρ _=>rfl)
 rintro l hl ρ ⟨x,y,z,rfl⟩;have gl:=g.l l hl;refine⟨_,_,rfl,(bH (b:=lkB P E l) (a5 (au (au (au rfl rfl (cQ (T.gpN gl.b))) rfl cB) (au (au rfl rfl (eZ (T.geN gl.a))) rfl rfl) rfl))).trans ?_,oS (.str l.a),oS (.str l.b),oS (.int l.g),rfl⟩;unfold lkV;cases lkB P E l<;>rfl
theorem Ly (g:Good bs ss js us ls ks h) (T:Tld ss P E):x9 [pD P,eD E,aF bs ss js us ls ks h]=aa (.lst (ls.findSome? (lkV P E)).toList):=by
 have e:=iO (n:=3) (ds:=[pD P,eD E,aF bs ss js us ls ks h]) (ρ:=[oS (pD P),oS (eD E),oS .(a),ab,ab,ab]) (d:=cY) (v:=fun l=>(lkV P E l).map fun t=>D.lst [t]) (e:=aH (szF aj)) (z:=.lst [])
  (fi:=itF (b2 ixD (vSh 2) .(l))) (gg:=bJ 3 (aJ (ay 3) .(O))) (body:=sIf (toB (b2 ltD (b2 ixD (b2 aW (vSh 0) (vSh 4)) .(c)) (b2 aK .(V) (vSh 5)))) (aE (aH (szF (ae (aT (szF (ae (vC (.str "link")) .(ar)))) aj)))) aP) ls
  (fun ρ=>∃x y z,ρ=[oS (pD P),oS (eD E),oS .(a),x,y,z]) rfl (cI (au rfl rfl (ixL _ 4))) ?_ ⟨_,_,_,rfl⟩ (fun ρ _=>rfl)
 .rw[wO] at e;refine e.trans ?_;cases ls.findSome? (lkV P E)<;>rfl
 .rintro l hl ρ ⟨x,y,z,rfl⟩;have gl:=g.l l hl;refine⟨_,_,rfl,(bH (b:=lkB P E l) (a5 (au (au (au rfl rfl (cQ (T.gpN gl.b))) rfl cB) (au (au rfl rfl (eZ (T.geN gl.a))) rfl rfl) rfl))).trans ?_,oS (.str l.a),oS (.str l.b),oS (.int l.g),rfl⟩;unfold lkV;cases lkB P E l<;>rfl
end
section
variable {bs:ac BenchT} {P:bc}
noncomputable def mN (us:ac SetT) (P:bc) (E:ac (ak×ag)) (o a b:StepT):aX:=decide (stt P b.nm<ent E a.nm+suN us (bnt P o.nm) a.kd b.kd)
noncomputable def nz (us:ac SetT) (P:bc) (E:ac (ak×ag)) (s t:StepT):aX:=if stt P t.nm<stt P s.nm then mN us P E s t s else mN us P E s s t
theorem L6 (g:Good bs ss js us ls ks h) (T:Tld ss P E) {s t:StepT} (hs:s∈ss) (ht:t∈ss):sC [aR bs ss js us ls ks h,pD P,eD E,.str s.nm,.str t.nm]=aa (.bl (nz us P E s t)):=by
 have fin:∀a b:StepT,a∈ss->b∈ss->ax (aG 7 (c5 "Shop" "setup_of" sS (vSh 0) (ae (b2 ixD .(V) .(d)) (ae (c5 "Shop" "kind_of" nP (vSh 0) (ae (vSh 5) aj)) (ae (c5 "Shop" "kind_of" nP (vSh 0) (ae (vSh 6) aj)) aj))))) (aE (b2 ltD (b2 ixD (b2 aW (vSh 1) (vSh 6)) .(c)) (b2 aK (b2 aW (vSh 2) (vSh 5)) (vSh 7))))
   [oS .(e),oS (pD P),oS (eD E),oS .(u),oS (.str t.nm),oS (.str a.nm),oS (.str b.nm),ab]=aa (.rt (.bl (mN us P E s a b)),[oS .(e),oS (pD P),oS (eD E),oS .(u),oS (.str t.nm),oS (.str a.nm),oS (.str b.nm),oS (.int (suN us (bnt P s.nm) a.kd b.kd))]):=fun a b ha hb=>by
  refine(aZ (gM .(s) rfl (aA (au (au rfl rfl (cQ (T.gp hs))) rfl cJ) (aA (gM .(s) rfl (aA rfl aO) (Dd g ha)) (aA (gM .(s) rfl (aA rfl aO) (Dd g hb)) aO))) (Ot _ _ _))).trans ?_;exact bS (au (au (au rfl rfl (cQ (T.gp hb))) rfl cB) (au (au rfl rfl (eZ (T.ge ha))) rfl rfl) rfl)
 have te:toB (b2 ltD (b2 ixD (b2 aW (vSh 1) (vSh 4)) .(c)) (b2 ixD .(V) .(c))) [oS .(e),oS (pD P),oS (eD E),oS .(u),oS (.str t.nm),oS .(u),oS (.str t.nm),ab]=aa (decide (stt P t.nm<stt P s.nm)):=
  a5 (au (au (au rfl rfl (cQ (T.gp ht))) rfl cB) (au (au rfl rfl (cQ (T.gp hs))) rfl cB) rfl)
 unfold nz;by_cases hz:stt P t.nm<stt P s.nm
 .rw[qR hz] at te;rw[qX hz];exact bM (n:=3) (ds:=[aR bs ss js us ls ks h,pD P,eD E,.str s.nm,.str t.nm]) [oS .(e),oS (pD P),oS (eD E),oS .(u),oS (.str t.nm),ab,ab,ab] rfl ((aZ (d:=.str s.nm) rfl).trans ((aZ (d:=.str t.nm) rfl).trans ((bT ((bH te).trans rfl)).trans (fin t s ht hs))))
 .rw[qM hz] at te;rw[qY hz];exact bM (n:=3) (ds:=[aR bs ss js us ls ks h,pD P,eD E,.str s.nm,.str t.nm]) [oS .(e),oS (pD P),oS (eD E),oS .(u),oS (.str t.nm),ab,ab,ab] rfl ((aZ (d:=.str s.nm) rfl).trans ((aZ (d:=.str t.nm) rfl).trans ((bT ((bH te).trans rfl)).trans (fin s t hs ht))))
end
section
variable {bs:ac BenchT} {P:bc}
noncomputable def ly (us:ac SetT) (P:bc) (E:ac (ak×ag)) (p:StepT×StepT):aX:=decide (bnt P p.1.nm=bnt P p.2.nm) && nz us P E p.1 p.2
noncomputable def bnV (us:ac SetT) (P:bc) (E:ac (ak×ag)) (p:StepT×StepT):ar D:=if ly us P E p=ai then aa (.tup [.str "bench",.str p.1.nm,.str p.2.nm]) else ab
theorem PX (g:Good bs ss js us ls ks h) (T:Tld ss P E):vX [aR bs ss js us ls ks h,pD P,eD E]=aa (((prS ss).findSome? (bnV us P E)).getD .non):=by
 refine iO (n:=2) (ds:=[aR bs ss js us ls ks h,pD P,eD E]) (ρ:=[oS .(e),oS (pD P),oS (eD E),ab,ab]) (d:=dP) (v:=bnV us P E) (prS ss)
  (fun ρ=>∃x y,ρ=[oS .(e),oS (pD P),oS (eD E),x,y]) rfl (cI (aU (aA (gM .(s) rfl aO (vH g.sl.2)) aO) (Am ss g.sl.2))) ?_ ⟨_,_,rfl⟩ (fun ρ _=>rfl)
 rintro p hp ρ ⟨x,y,rfl⟩;obtain⟨h1,h2⟩:=mT hp;refine⟨_,_,rfl,?_,oS (.str p.1.nm),oS (.str p.2.nm),rfl⟩;have t1:toB (b2 eqA (b2 ixD .(V) .(d)) (b2 ixD (b2 aW (vSh 1) (vSh 4)) .(d))) [oS .(e),oS (pD P),oS (eD E),oS (.str p.1.nm),oS (.str p.2.nm)]=aa (decide (bnt P p.1.nm=bnt P p.2.nm)):=
  a5 (au (au (au rfl rfl (cQ (T.gp h1))) rfl cJ) (au (au rfl rfl (cQ (T.gp h2))) rfl cJ) (yo _ _))
 have t2:toB (cF sC (ae (vSh 0) (ae (vSh 1) (ae (vSh 2) .(ar))))) [oS .(e),oS (pD P),oS (eD E),oS (.str p.1.nm),oS (.str p.2.nm)]=aa (nz us P E p.1 p.2):=
  a5 (aU (aA rfl (aA rfl (aA rfl .(n)))) (L6 g T h1 h2))
 unfold bnV ly;cases e:decide (bnt P p.1.nm=bnt P p.2.nm) with
 |false=>
  rw[e] at t1;exact(bH (jy t1)).trans rfl
 |true=>
  rw[e] at t1;refine(bH (ib t1 t2)).trans ?_;cases nz us P E p.1 p.2<;>rfl
noncomputable def kU (P:bc) (E:ac (ak×ag)) (x y:ak):aX:=decide (stt P x<ent E y) && decide (stt P y<ent E x)
theorem Bt (T:Tld ss P E) {y:ak} (hx:x∈ss.map (·.nm)) (hy:y∈ss.map (·.nm)):kP [pD P,eD E,.str x,.str y]=aa (.bl (kU P E x y)):=
 bM (n:=0) (ds:=[pD P,eD E,.str x,.str y]) [oS (pD P),oS (eD E),oS (.str x),oS (.str y)] rfl (bS (CO (au (au (au rfl rfl (cQ (T.gpN hx))) rfl cB) (au rfl rfl (eZ (T.geN hy))) rfl) (au (au (au rfl rfl (cQ (T.gpN hy))) rfl cB) (au rfl rfl (eZ (T.geN hx))) rfl)))
end
section
variable {bs:ac BenchT} {P:bc}
noncomputable def mkS (x:ak):StepT:=⟨x,x,[]⟩
noncomputable def apB (P:bc) (E:ac (ak×ag)) (od:aX) (p:StepT×StepT):aX:=decide (stt P p.2.nm<ent E p.1.nm) && (od || decide (stt P p.1.nm<ent E p.2.nm))
noncomputable def apT (p:StepT×StepT):D:=.tup [.str "apart",.str p.1.nm,.str p.2.nm]
noncomputable def apV (P:bc) (E:ac (ak×ag)) (od:aX) (p:StepT×StepT):ar D:=if apB P E od p=ai then aa (apT p) else ab
noncomputable def apJ (P:bc) (E:ac (ak×ag)) (j:JobT):ar D:=(prS (j.ms.map mkS)).findSome? (apV P E j.od)
theorem OJ (l:ac ak):(l.map mkS).map (·.nm)=l:=by rw[qp];exact zJ _
theorem tM {A:FT} {a:aX} (hA:A ρ=aa a):bC A ρ=aa (!a):=by unfold bC;rw[hA];rfl
theorem Mm (g:Good bs ss js us ls ks h) (T:Tld ss P E):vZ [aR bs ss js us ls ks h,pD P,eD E]=aa ((js.findSome? (apJ P E)).getD .non):=by
 have hl40:(ss.map (·.nm)).length<=40:=by rw[qg];exact g.sl.2
 refine iO (n:=5) (ds:=[aR bs ss js us ls ks h,pD P,eD E]) (ρ:=[oS .(e),oS (pD P),oS (eD E),ab,ab,ab,ab,ab]) (d:=ba) (v:=apJ P E) js
  (fun ρ=>∃a b c d e,ρ=[oS .(e),oS (pD P),oS (eD E),a,b,c,d,e]) rfl (cI (gM .(s) rfl aO (Lm g (gX (n:=7) (by have:=g.jl;omega) fun x hx=>xH hl40 (g.j x hx))))) ?_ ⟨_,_,_,_,_,rfl⟩ (fun ρ _=>rfl)
 rintro j hj ρ ⟨a,b,c,d,e,rfl⟩;have gj:=g.j j hj;have ep:=Am (j.ms.map mkS) (by rw[qg];have:=gj.ln;omega);rw[OJ] at ep;obtain⟨ρ2,e2,a',b',c',d',e'⟩:=jj (gg:=bJ 2 .(O)) (body:=ax (aG 6 (b2 geD (b2 ixD (b2 aW (vSh 1) (vSh 5)) .(c)) (b2 aW (vSh 2) (vSh 4)))) .(aw)) (d:=dP) (v:=apV P E j.od)
  (fun ρ=>∃b c d e,ρ=[oS .(e),oS (pD P),oS (eD E),oS (ba j),b,c,d,e]) (prS (j.ms.map mkS)) [oS .(e),oS (pD P),oS (eD E),oS (ba j),b,c,d,e] (fun p hp ρ=>by
   rintro⟨b,c,d,e,rfl⟩;obtain⟨h1,h2⟩:=mT hp;obtain⟨x,hx,e1⟩:=bw.mp h1;obtain⟨y,hy,e2⟩:=bw.mp h2;have m1:p.1.nm∈ss.map (·.nm):=by rw[←e1];exact gj.ms x hx
   have m2:p.2.nm∈ss.map (·.nm):=by rw[←e2];exact gj.ms y hy
   refine⟨_,[oS .(e),oS (pD P),oS (eD E),oS (ba j),oS (.str p.1.nm),oS (.str p.2.nm),oS (.bl (decide (ent E p.1.nm<=stt P p.2.nm))),oS (.bl (decide (ent E p.2.nm<=stt P p.1.nm)))],rfl,?_,_,_,_,_,rfl⟩;refine(aZ (d:=.bl (decide (ent E p.1.nm<=stt P p.2.nm))) (au (au (au rfl rfl (cQ (T.gpN m2))) rfl cB) (au rfl rfl (eZ (T.geN m1))) rfl)).trans ((aZ (d:=.bl (decide (ent E p.2.nm<=stt P p.1.nm))) (au (au (au rfl rfl (cQ (T.gpN m1))) rfl cB) (au rfl rfl (eZ (T.geN m2))) rfl)).trans ?_);have n1:(!decide (ent E p.1.nm<=stt P p.2.nm))=decide (stt P p.2.nm<ent E p.1.nm):=by rw[←so];exact si.mpr zK
   have n2:(!decide (ent E p.2.nm<=stt P p.1.nm))=decide (stt P p.1.nm<ent E p.2.nm):=by rw[←so];exact si.mpr zK
   have t1:=tM (a5 (f:=vSh 6) (ρ:=[oS .(e),oS (pD P),oS (eD E),oS (ba j),oS (.str p.1.nm),oS (.str p.2.nm),oS (.bl (decide (ent E p.1.nm<=stt P p.2.nm))),oS (.bl (decide (ent E p.2.nm<=stt P p.1.nm)))]) rfl);have t2:=mE (a5 (f:=b2 ixD (vSh 3) .(j)) (ρ:=[oS .(e),oS (pD P),oS (eD E),oS (ba j),oS (.str p.1.nm),oS (.str p.2.nm),oS (.bl (decide (ent E p.1.nm<=stt P p.2.nm))),oS (.bl (decide (ent E p.2.nm<=stt P p.1.nm)))]) (au rfl rfl i0)) (tM (a5 (f:=vSh 7) rfl));rw[n1] at t1;rw[n2] at t2;unfold apV apB;cases e3:decide (stt P p.2.nm<ent E p.1.nm) with
   |false=>
    rw[e3] at t1;exact(bH (jy t1)).trans rfl
   |true=>
    rw[e3] at t1;refine(bH (ib t1 t2)).trans ?_;cases j.od || decide (stt P p.1.nm<ent E p.2.nm)<;>rfl) ⟨_,_,_,_,rfl⟩
 exact⟨_,ρ2,rfl,(cR (cI (aU (aA (au rfl rfl fF) aO) ep))).trans e2,oS (ba j),a',b',c',d',e'⟩
end
theorem LC {t u:ac ak} (hx:∀x∈t,bf x=ai) (hn:∀x∈u,bf x=ai):eqA (.tup (t.map D.str)) (.tup (u.map D.str))=aa (.bl (decide (t=u))):=by
 have s1:dH (.tuple (t.map fN))=ai:=by simp[dH,jT,kO hx,kL,oy]
 have s2:dH (.tuple (u.map fN))=ai:=by simp[dH,jT,kO hn,kL,oy]
 have e:pU (.tup (t.map D.str)) (.tup (u.map D.str))=aa (.bl (decide (t=u))):=by unfold pU eqX;rw[pI,pI,qc,qc,qX ⟨s1,s2⟩];show aa (D.bl (kN _ _))=_;rw[uw]
 exact e
section
variable {bs:ac BenchT} {P:bc}
theorem Ci (a b c:ak):∀us:ac SetT,((us.findSome? fun u=>if [u.b,u.p,u.q]=[a,b,c] then aa (D.int u.n) else ab).getD (.int 0))=.int (suN us a b c)
 |[]=>rfl
 |u::us=>by
  have ih:=Ci a b c us;rw[nv];unfold suN at ih ⊢;rw[eC];by_cases e:[u.b,u.p,u.q]=[a,b,c]
  .rw[qX e,qR (by injection e with e1 e2;injection e2 with e2 e3;injection e3 with e3 _;rw[e1,e2,e3])];rfl
  .rw[qY e,qM (fun z=>e (by injection z with e1 e2;injection e2 with e2 e3;injection e3 with e3 _;rw[gH e1,gH e2,gH e3]))]
   exact ih
end
section
variable {bs:ac BenchT} {P:bc}
theorem Kd (g:Good bs ss js us ls ks h):fW [.lst (ss.map fun s=>.tup [.str s.nm,.str s.kd])]=aa (.dk (tb D.str (ss.map fun s=>(s.nm,s.kd)))):=by
 have kn:((ss.map fun s=>((.inr s.nm:Key),D.str s.kd)).map (·.1)).Nodup:=by rw[qp];have:=oX (S:=fun a b:Key=>a≠b) (cz:ak->Key) (fun a b hab z=>hab (gH z)) g.sn;rw[qp] at this;exact this
 show(if _ then _ else _)=_;rw[qX (by rw[qg];have:=g.sl;omega),pJ,qf,o6 kn];unfold tb;rw[qp];rfl
theorem Jc (g:Good bs ss js us ls ks h) {s:StepT} (hs:s∈ss):lk (ss.map fun s=>(s.nm,s.kd)) s.nm=aa s.kd:=mG (by rw[qp];exact g.sn) (bw.mpr ⟨s,hs,rfl⟩)
theorem NG (g:Good bs ss js us ls ks h) {s t:StepT} (hs:s∈ss) (ht:t∈ss) {b:ak} (hb:bf b=ai):sv [aF bs ss js us ls ks h,.str b,.str s.nm,.str t.nm]=aa (.int (suN us b s.kd t.kd)):=by
 have ek:cF fW (ae (aH (a9 (itF .(ag)) (ay 0) tT (aT (szF (ae .(r) (ae .(ag) aj)))) [ab])) aj) [oS .(a),oS (.str b),oS .(u),oS (.str t.nm),ab,ab]=aa (.dk (tb D.str (ss.map fun s=>(s.nm,s.kd)))):=by refine aU (aA ?_ aO) (Kd g);unfold aH a9;rw[Aq (bs:=bs) (ss:=ss) (js:=js) (us:=us) (ls:=ls) (ks:=ks) (h:=h) (i:=0) rfl,qc,qX (by rw[qg];exact szN g.sl.2 .(g))];refine cK (rN D.lst) (nJ (d:=bA) (r:=fun s:StepT=>D.tup [.str s.nm,.str s.kd]) (fun ρ=>∃x,ρ=[x]) ss _ ?_ ⟨ab,rfl⟩);rintro s - ρ ⟨x,rfl⟩;exact⟨[oS (bA s)],rfl,rfl,dw (au rfl rfl cJ) (au rfl rfl cB),_,rfl⟩
 have hd:∀{s:StepT},s∈ss->aW (.dk (tb D.str (ss.map fun s=>(s.nm,s.kd)))) .(u)=aa (.str s.kd):=fun {s} hs=>by show(aa (ck (tb D.str _) (.inr s.nm))).bind id=_;rw[gv,Jc g hs];rfl
 refine Exists.elim (uC (fi:=itF (b2 ixD (vSh 0) .(j))) (gg:=ay 5) (body:=sIf (toB (b2 eqA (slF (vSh 5) pN (pS .(j))) (aT (szF (ae (vSh 1) (ae (b2 aW (vSh 4) (vSh 2)) (ae (b2 aW (vSh 4) (vSh 3)) aj))))))) (aE (b2 ixD (vSh 5) .(j))) aP) (ρ:=[oS .(a),oS (.str b),oS .(u),oS (.str t.nm),aa (.sh (.dk (tb D.str (ss.map fun s=>(s.nm,s.kd))))),ab]) (d:=cO) (v:=fun u:SetT=>if [u.b,u.p,u.q]=[b,s.kd,t.kd] then aa (D.int u.n) else ab) (e:=vC (.int 0)) (z:=.int 0) us
  (fun ρ=>∃x,ρ=[oS .(a),oS (.str b),oS .(u),oS (.str t.nm),aa (.sh (.dk (tb D.str (ss.map fun s=>(s.nm,s.kd))))),x]) (cI (au rfl rfl (ixL _ 3))) ?_ ⟨_,rfl⟩ (fun ρ _=>rfl)) ?_
 rotate_left
 .intro ρ' e;rw[Ci] at e;exact bM (n:=2) (ds:=[aF bs ss js us ls ks h,.str b,.str s.nm,.str t.nm]) [oS .(a),oS (.str b),oS .(u),oS (.str t.nm),ab,ab] rfl ((aZ ek).trans e)
 .rintro u hu ρ ⟨x,rfl⟩;have gu:=g.u u hu;obtain⟨bb,hbb,eb⟩:=bw.mp gu.b;refine⟨_,[oS .(a),oS (.str b),oS .(u),oS (.str t.nm),aa (.sh (.dk (tb D.str (ss.map fun s=>(s.nm,s.kd))))),oS (cO u)],rfl,?_,_,rfl⟩;refine(bH (a5 (au (x:=.tup ([u.b,u.p,u.q].map D.str)) (y:=.tup ([b,s.kd,t.kd].map D.str)) rfl (o5 rfl (au rfl rfl (hd hs)) (au rfl rfl (hd ht))) (LC ?_ ?_)))).trans ?_
  .intro x hx;simp only[qK,qI,or_false] at hx;rcases hx with rfl|rfl|rfl
   .rw[←eb];exact(g.b bb hbb).nm
   .exact gu.p
   .exact gu.q
  .intro x hx;simp only[qK,qI,or_false] at hx;rcases hx with rfl|rfl|rfl
   .exact hb
   .exact(g.s s hs).kd
   .exact(g.s t ht).kd
  .by_cases e:[u.b,u.p,u.q]=[b,s.kd,t.kd]
   .rw[qR e,qX rfl,qX e];exact bS (au rfl rfl i0)
   .rw[qM e,qY qt,qY e];rfl
end
section
variable {bs:ac BenchT} {P:bc}
theorem DQ (a b:ak):neA (.str a) (.str b)=aa (.bl (!decide (a=b))):=rfl
theorem MF (a b:ag):eqA (.int a) (.int b)=aa (.bl (decide (a=b))):=rfl
theorem N7 {A:FE} {a b:aX} (hA:A ρ=aa (.bl a)) (hB:B ρ=aa (.bl b)):orD A B ρ=aa (.bl (a || b)):=by
 unfold orD;rw[hA,qc];cases a
 .exact hB
 .rfl
theorem F' (hu:∀u∈us,0<=u.n) (a b c:ak):0<=suN us a b c:=by
 unfold suN;split
 .rename_i u e;exact hu u (vc e)
 .exact sj 0
noncomputable abbrev nrE (P:bc) (E:ac (ak×ag)) (L:D) (s t:StepT) (a b:ak):bj:=[oS (pD P),oS (eD E),oS L,oS .(u),oS (.str t.nm),oS (.str (bnt P s.nm)),oS (.int (stt P s.nm)),oS (.str a),oS (.str b),ab]
theorem Iy {sp:ac StepT} (g:Good bs ss js us ls ks h) (T:Tld sp P E) (sb:∀x∈sp,x∈ss) {s t a b:StepT} (ha:a∈sp) (hb:b∈sp) (hn:bf (bnt P s.nm)=ai) :
  ∃ρ',ax (aG 9 (b2 aK (b2 aW (vSh 1) (vSh 7)) (cF sv (ae (vSh 2) (ae (vSh 5) (ae (vSh 7) (ae (vSh 8) aj))))))) (aE (orD (b2 eqA (b2 ixD (b2 aW (vSh 0) (vSh 7)) .(c)) (b2 ixD (b2 aW (vSh 0) (vSh 8)) .(c))) (b2 ltD (b2 ixD (b2 aW (vSh 0) (vSh 8)) .(c)) (vSh 9)))) (nrE P E .(a) s t a.nm b.nm)=aa (.rt (.bl (decide (stt P a.nm=stt P b.nm) || mN us P E s a b)),ρ'):=
 ⟨_,(aZ (d:=.int (ent E a.nm+suN us (bnt P s.nm) a.kd b.kd)) (au (au rfl rfl (eZ (T.ge ha))) (aU (aA rfl (aA rfl .(n))) (NG g (sb _ ha) (sb _ hb) hn)) rfl)).trans (bS (N7 (au (au (au rfl rfl (cQ (T.gp ha))) rfl cB) (au (au rfl rfl (cQ (T.gp hb))) rfl cB) (MF _ _)) (au (au (au rfl rfl (cQ (T.gp hb))) rfl cB) rfl rfl)))⟩
end
section
variable {bs:ac BenchT} {P:bc}
theorem O7 (hu:∀u∈us,0<=u.n) (hE:∀s∈ss,stt P s.nm<ent E s.nm) {o a b:StepT} (ha:a∈ss):(decide (stt P a.nm=stt P b.nm) || mN us P E o a b)=mN us P E o a b:=by
 cases e:decide (stt P a.nm=stt P b.nm) with
 |false=>rfl
 |true=>
  have e:=fL e;have h1:=hE a ha;have h2:=F' hu (bnt P o.nm) a.kd b.kd;exact(qR (show stt P b.nm<ent E a.nm+suN us (bnt P o.nm) a.kd b.kd by omega)).symm
theorem CI {sp:ac StepT} (g:Good bs ss js us ls ks h) (T:Tld sp P E) (sb:∀x∈sp,x∈ss) (hu:∀u∈us,0<=u.n) (hE:∀s∈sp,stt P s.nm<ent E s.nm) {s t:StepT} (hs:s∈sp) (ht:t∈sp) (hn:bf (bnt P s.nm)=ai):kY [pD P,eD E,aF bs ss js us ls ks h,.str s.nm,.str t.nm]=aa (.bl (ly us P E (s,t))):=by
 have ea:dM (bJ 2 .(ak)) (b2 aW (vSh 0) (vSh 3)) [oS (pD P),oS (eD E),oS .(a),oS .(u),oS (.str t.nm),ab,ab,ab,ab,ab]=aa (.nx,[oS (pD P),oS (eD E),oS .(a),oS .(u),oS (.str t.nm),oS (.str (bnt P s.nm)),oS (.int (stt P s.nm)),ab,ab,ab]):=by unfold dM;rw[au (z:=pT (bnt P s.nm,stt P s.nm)) rfl rfl (cQ (T.gp hs))];rfl
 have t1:toB (b2 neA (vSh 5) (b2 ixD (b2 aW (vSh 0) (vSh 4)) .(d))) [oS (pD P),oS (eD E),oS .(a),oS .(u),oS (.str t.nm),oS (.str (bnt P s.nm)),oS (.int (stt P s.nm)),ab,ab,ab]=aa (!decide (bnt P s.nm=bnt P t.nm)):=
  a5 (au rfl (au (au rfl rfl (cQ (T.gp ht))) rfl cJ) (DQ _ _))
 have t2:toB (b2 ltD (b2 ixD (b2 aW (vSh 0) (vSh 4)) .(c)) (vSh 6)) (nrE P E .(a) s t s.nm t.nm)=aa (decide (stt P t.nm<stt P s.nm)):=
  a5 (au (au (au rfl rfl (cQ (T.gp ht))) rfl cB) rfl rfl)
 unfold ly;dsimp only;cases e:decide (bnt P s.nm=bnt P t.nm) with
 |false=>
  rw[e] at t1;refine bM (n:=5) (ρ':=[oS (pD P),oS (eD E),oS .(a),oS .(u),oS (.str t.nm),oS (.str (bnt P s.nm)),oS (.int (stt P s.nm)),ab,ab,ab]) (ds:=[pD P,eD E,aF bs ss js us ls ks h,.str s.nm,.str t.nm]) [oS (pD P),oS (eD E),oS .(a),oS .(u),oS (.str t.nm),ab,ab,ab,ab,ab] rfl ((bT ea).trans ?_);unfold ax;rw[show sIf (toB (b2 neA (vSh 5) (b2 ixD (b2 aW (vSh 0) (vSh 4)) .(d)))) .(J) aP [oS (pD P),oS (eD E),oS .(a),oS .(u),oS (.str t.nm),oS (.str (bnt P s.nm)),oS (.int (stt P s.nm)),ab,ab,ab]=aa (.rt (.bl aq),[oS (pD P),oS (eD E),oS .(a),oS .(u),oS (.str t.nm),oS (.str (bnt P s.nm)),oS (.int (stt P s.nm)),ab,ab,ab]) from(bH t1).trans rfl];rfl
 |true=>
  rw[e] at t1;have go:∀a b:StepT,a∈sp->b∈sp->sIf (toB (b2 ltD (b2 ixD (b2 aW (vSh 0) (vSh 4)) .(c)) (vSh 6))) (pM 7 8 (ae (vSh 4) .(au))) aP (nrE P E .(a) s t s.nm t.nm)=aa (.nx,nrE P E .(a) s t a.nm b.nm)->kY [pD P,eD E,aF bs ss js us ls ks h,.str s.nm,.str t.nm]=aa (.bl (mN us P E s a b)):=fun a b ha hb e2=>by obtain⟨ρ',e3⟩:=Iy (us:=us) g T sb (s:=s) (t:=t) ha hb hn;rw[O7 hu hE ha] at e3;exact bM (n:=5) (ds:=[pD P,eD E,aF bs ss js us ls ks h,.str s.nm,.str t.nm]) [oS (pD P),oS (eD E),oS .(a),oS .(u),oS (.str t.nm),ab,ab,ab,ab,ab] rfl ((bT ea).trans ((bT ((bH t1).trans rfl)).trans ((bT (ρ1:=nrE P E .(a) s t s.nm t.nm) rfl).trans ((bT e2).trans e3))))
  rw[vm];unfold nz;by_cases hz:stt P t.nm<stt P s.nm
  .rw[qR hz] at t2;rw[qX hz];exact go t s ht hs ((bH t2).trans rfl)
  .rw[qM hz] at t2;rw[qY hz];exact go s t hs ht ((bH t2).trans rfl)
end
theorem AO {d:StepT->D} {v:StepT×StepT->ar D} (I:bj->Prop) (xs:ac StepT) (hs:∀(i:al) s ρ,xs[i]?=aa s->I ρ->∃ρ1 ρ2,gg (.tup [.int i,d s]) ρ=aa ρ1/\body ρ1=aa (flO ((xs.drop (i+1)).findSome? fun t=>v (s,t)),ρ2)/\I ρ2) :
  ∀(n i:al) (ρ:bj),i+n=xs.length->I ρ->∃ρ',fz gg body (((xs.map d).mapIdx fun i x=>D.tup [.int i,x]).drop i) ρ=aa (flO ((prS (xs.drop i)).findSome? v),ρ')/\I ρ':=by
 intro n
 induction n with
 |zero=>
  intro i ρ hi hI;have e:i=xs.length:=by omega
  rw[List.drop_eq_nil_of_le (by rw[kG,qg];omega),e,zc];exact⟨ρ,rfl,hI⟩
 |succ n ih=>
  intro i ρ hi hI;have hx:xs[i]?=aa xs[i]:=qC .(f);rw[ww (l:=(xs.map d).mapIdx fun i x=>D.tup [.int i,x]) (x:=.tup [.int i,d xs[i]]) (by rw[E4,ql,hx];rfl),ww hx];obtain⟨ρ1,ρ2,e1,e2,h2⟩:=hs i xs[i] ρ hx hI;unfold fz prS;rw[e1,qc,e2,qc,List.findSome?_append,List.findSome?_map];show ∃ρ',_=aa (flO (((xs.drop (i+1)).findSome? fun t=>v (xs[i],t)).or _),ρ')/\_;cases hv:(xs.drop (i+1)).findSome? fun t=>v (xs[i],t) with
  |some x=>exact⟨ρ2,rfl,h2⟩
  |none=>exact ih (i+1) ρ2 .(f) h2
theorem xl {o:ar D} {A:FS} {e:FE} (h:A ρ=aa (flO o,ρ')) (he:e ρ'=aa z):ax A (aE e) ρ=aa (.rt (o.getD z),ρ'):=by
 unfold ax;rw[h,qc];cases o with
 |some x=>rfl
 |none=>exact bS he
section
variable {bs:ac BenchT} {P:bc}
theorem tJ (hl:ss.length<=40) (h0:vSh i ρ=aa .(a)) (h3:fu fv ρ=[ab]):aH (a9 (itF (b2 ixD (vSh i) .(c))) (ay 0) tT .(r) fv) ρ=aa (.lst ((ss.map (·.nm)).map D.str)):=
 Ec (f:=bA) (nm:=(·.nm)) (xs:=ss) (fun x=>⟨_,rfl⟩) (au h0 rfl (ixL _ 1)) (szN hl .(g)) h3
noncomputable abbrev cwE (P:bc) (E:ac (ak×ag)) (L:D) (ss:ac StepT) (a b c:ar Slot):bj:=[oS (pD P),oS (eD E),oS L,oS (.lst ((ss.map (·.nm)).map D.str)),a,b,c]
noncomputable def ls1 (o:ar D):ar D:=o.map fun t=>D.lst [t]
theorem xY (o:ar D):(ls1 o).getD (.lst [])=.lst o.toList:=by cases o<;>rfl
theorem xN {v:α->ar D} (l:ac α):(l.findSome? fun x=>ls1 (v x))=ls1 (l.findSome? v):=wO l
theorem MO (g:Good bs ss js us ls ks h) (T:Tld ss P E) (hu:∀u∈us,0<=u.n) (hE:∀s∈ss,stt P s.nm<ent E s.nm) (hn:∀s∈ss,bf (bnt P s.nm)=ai):wf [pD P,eD E,aF bs ss js us ls ks h]=aa (.lst ((prS ss).findSome? (bnV us P E)).toList):=by
 obtain⟨ρ',e1,h1⟩:=AO (d:=fun s=>D.str s.nm) (v:=fun p=>ls1 (bnV us P E p)) (gg:=bJ 2 .(O)) (body:=bD (itF (slF (vSh 3) (pS (b2 aK (vSh 4) .(c))) pN)) (ay 6) (sIf (toB (cF kY (ae (vSh 0) (ae (vSh 1) (ae (vSh 2) (ae (vSh 5) (ae (vSh 6) aj))))))) (aE (aH (szF (ae (aT (szF (ae (vC (.str "bench")) (ae (vSh 5) (ae (vSh 6) aj))))) aj)))) aP))
  (fun ρ=>∃a b c,ρ=cwE P E .(a) ss a b c) ss (fun i s ρ hs=>by
   rintro⟨a,b,c,rfl⟩;have hsm:=qO hs;obtain⟨ρ2,e2,c',rfl⟩:=jj (gg:=ay 6) (body:=sIf (toB (cF kY (ae (vSh 0) (ae (vSh 1) (ae (vSh 2) (ae (vSh 5) (ae (vSh 6) aj))))))) (aE (aH (szF (ae (aT (szF (ae (vC (.str "bench")) (ae (vSh 5) (ae (vSh 6) aj))))) aj)))) aP) (d:=fun s:StepT=>D.str s.nm) (v:=fun t=>ls1 (bnV us P E (s,t)))
    (fun ρ=>∃c,ρ=cwE P E .(a) ss .(am) (oS .(u)) c) (ss.drop (i+1)) (cwE P E .(a) ss .(am) (oS .(u)) c) (fun t ht ρ=>by rintro⟨c,rfl⟩;have htm:=Fc ht;refine⟨_,_,rfl,(bH (b:=ly us P E (s,t)) (a5 (aU (aA rfl (aA rfl (aA rfl .(n)))) (CI g T (fun _ h=>h) hu hE hsm htm (hn s hsm))))).trans ?_,oS (.str t.nm),rfl⟩;unfold bnV;cases ly us P E (s,t)<;>rfl) ⟨_,rfl⟩
   refine⟨_,_,rfl,(cR (xs:=(ss.drop (i+1)).map fun s=>D.str s.nm) ?_).trans e2,_,_,_,rfl⟩;refine cI ((pF (d:=(i:ag)+1) (xs:=(ss.map (·.nm)).map D.str) rfl .(G) .(f)).trans ?_);rw[show((i:ag)+1).toNat=i+1 by omega,qp,sk];rfl) ss.length 0 (cwE P E .(a) ss ab ab ab) .(f) ⟨_,_,_,rfl⟩
 rw[ni,ni,xN] at e1;obtain⟨a,b,c,rfl⟩:=h1;rw[←xY];refine bM (n:=4) (ds:=[pD P,eD E,aF bs ss js us ls ks h]) (ρ':=cwE P E .(a) ss a b c) [oS (pD P),oS (eD E),oS .(a),ab,ab,ab,ab] rfl ((aZ (tJ g.sl.2 rfl rfl)).trans (xl ((cR (xs:=(ss.map fun s=>D.str s.nm).mapIdx fun i x=>D.tup [.int i,x]) (by rw[qp];rfl)).trans e1) rfl))
noncomputable abbrev aaE (P:bc) (E:ac (ak×ag)) (j:JobT) (a b c:ar Slot):bj:=[oS (pD P),oS (eD E),oS (ba j),a,b,c]
noncomputable def aaB:FS:=.(N)
theorem N5 (g:Good bs ss js us ls ks h) (T:Tld ss P E) {j:JobT} (hj:j∈js):ud [pD P,eD E,ba j]=aa (.lst (apJ P E j).toList):=by
 have gj:=g.j j hj;have hm:∀s∈j.ms.map mkS,s.nm∈ss.map (·.nm):=fun s hs=>by obtain⟨x,hx,rfl⟩:=bw.mp hs;exact gj.ms x hx
 obtain⟨ρ',e1,h1⟩:=AO (d:=fun s=>D.str s.nm) (v:=fun p=>ls1 (apV P E j.od p)) (gg:=bJ 2 (aJ (ay 3) (aJ (ay 4) bI))) (body:=bD (itF (slF (b2 ixD (vSh 2) .(l)) (pS (b2 aK (vSh 3) .(c))) pN)) (ay 5) aaB)
  (fun ρ=>∃a b c,ρ=aaE P E j a b c) (j.ms.map mkS) (fun i s ρ hs=>by
   rintro⟨a,b,c,rfl⟩;have hsm:=hm s (qO hs);obtain⟨ρ2,e2,c',rfl⟩:=jj (gg:=ay 5) (body:=aaB) (d:=fun s:StepT=>D.str s.nm) (v:=fun t=>ls1 (apV P E j.od (s,t)))
    (fun ρ=>∃c,ρ=aaE P E j .(am) (oS .(u)) c) ((j.ms.map mkS).drop (i+1)) (aaE P E j .(am) (oS .(u)) c) (fun t ht ρ=>by
     rintro⟨c,rfl⟩;have htm:=hm t (Fc ht);refine⟨_,_,rfl,?_,oS (.str t.nm),rfl⟩;have t1:toB (b2 ixD (vSh 2) .(j)) (aaE P E j .(am) (oS .(u)) (oS (.str t.nm)))=aa j.od:=a5 (au rfl rfl i0);have t2:toB (b2 ltD (b2 ixD (b2 aW (vSh 0) (vSh 5)) .(c)) (b2 aW (vSh 1) (vSh 4))) (aaE P E j .(am) (oS .(u)) (oS (.str t.nm)))=aa (decide (stt P t.nm<ent E s.nm)):=a5 (au (au (au rfl rfl (cQ (T.gpN htm))) rfl cB) (au rfl rfl (eZ (T.geN hsm))) rfl);have t3:toB (cF kP (ae (vSh 0) (ae (vSh 1) (ae (vSh 4) (ae (vSh 5) aj))))) (aaE P E j .(am) (oS .(u)) (oS (.str t.nm)))=aa (kU P E s.nm t.nm):=a5 (aU (aA rfl (aA rfl .(n))) (Bt T hsm htm));unfold apV apB;unfold kU at t3;dsimp only;cases e3:decide (stt P t.nm<ent E s.nm)<;>rw[e3] at t2 t3<;>cases e4:j.od<;>rw[e4] at t1
     .exact(bT ((bH (jy t1)).trans rfl)).trans ((bH t3).trans (by rw[uY];rfl))
     .exact(bT ((bH (ib t1 t2)).trans rfl)).trans ((bH t3).trans (by rw[uY];rfl))
     .refine(bT ((bH (jy t1)).trans rfl)).trans ((bH t3).trans ?_);cases decide (stt P s.nm<ent E t.nm)<;>rfl
     .exact j6 (ib t1 t2) rfl) ⟨_,rfl⟩
   refine⟨_,_,rfl,(cR (xs:=((j.ms.map mkS).drop (i+1)).map fun s=>D.str s.nm) ?_).trans e2,_,_,_,rfl⟩;refine cI ((pF (d:=(i:ag)+1) (xs:=j.ms.map D.str) (au rfl rfl fF) .(G) .(f)).trans ?_);rw[show((i:ag)+1).toNat=i+1 by omega,←sk,←sk,qp];rfl) (j.ms.map mkS).length 0 (aaE P E j ab ab ab) .(f) ⟨_,_,_,rfl⟩
 rw[ni,ni,xN] at e1;obtain⟨a,b,c,rfl⟩:=h1;unfold apJ;rw[←xY];have ei:itE (b2 ixD (vSh 2) .(l)) [oS (pD P),oS (eD E),oS (ba j),ab,ab,ab]=aa (((j.ms.map mkS).map fun s=>D.str s.nm).mapIdx fun i x=>D.tup [.int i,x]):=by rw[qp];show(((b2 ixD (vSh 2) .(l)) [oS (pD P),oS (eD E),oS (ba j),ab,ab,ab]).bind _)=_;rw[au (z:=.lst (j.ms.map D.str)) rfl rfl fF];rfl
 refine bM (n:=3) (ds:=[pD P,eD E,ba j]) (ρ':=aaE P E j a b c) [oS (pD P),oS (eD E),oS (ba j),ab,ab,ab] rfl (xl ((cR ei).trans e1) rfl)
end
theorem n4 {α:Type} {gg:FG} {ft:FT} {fe:FE} {d r:α->D} {p:α->aX} (I:bj->Prop):∀(as:ac α) (ρ:bj),(∀a∈as,∀ρ,I ρ->∃ρ1,gg (d a) ρ=aa ρ1/\ft ρ1=aa (p a)/\(p a=ai->fe ρ1=aa (r a))/\I ρ1)->I ρ->ga gg ft fe (as.map d) ρ=aa ((as.filter p).map r)
 |[],_,_,_=>rfl
 |a::as,ρ,hs,h=>by
  obtain⟨ρ1,e1,e2,e3,h1⟩:=hs a (.head _) ρ h;have ih:=n4 (gg:=gg) (ft:=ft) (fe:=fe) (r:=r) I as ρ1 (fun b hb=>hs b (.tail _ hb)) h1;rw[qo,rG];unfold ga;rw[e1,qc,e2,qc];cases hp:p a with
  |true=>rw[qX rfl,qX rfl,e3 hp,qc,ih];rfl
  |false=>rw[qY qt,qY qt];exact ih
theorem kW {ρ0:bj} {ys:ac D} (h1:fi ρ=aa xs) (h2:xs.length<=1000) (h3:fu fv ρ=ρ0) (h4:ga gg ft fe xs ρ0=aa ys):a9 fi gg ft fe fv ρ=aa ys:=by unfold a9;rw[h1,qc,qX (szN h2 .(g)),h3,h4]
theorem tH {α:Type} (f:α->ag):∀l:ac α,iN (l.map fun x=>D.int (f x))=aa (l.map f)
 |[]=>rfl
 |x::l=>by show(iN (l.map fun x=>D.int (f x))).map (f x::·)=_;rw[tH f l];rfl
theorem C3 {f:α->ag} {l:ac α} (h:fr ρ=aa (l.map fun x=>D.int (f x))):cF pC (ae (aH fr) aj) ρ=aa (.int (l.map f).sum):=by refine aU (aA (cK (rN D.lst) h) aO) ?_;show(iN _).map _=_;rw[tH];rfl
section
variable {bs:ac BenchT} {P:bc}
noncomputable def amt (f:ak->ag) (m:ag) (l:ac (ak×ag)):ag:=((l.filter fun w=>decide (f w.1<=m)).map (·.2)).sum
noncomputable def lvl (P:bc) (E:ac (ak×ag)) (k:StockT) (m:ag):ag:=k.lo-amt (stt P) m k.tk+amt (ent E) m k.pt
theorem P4 (T:Tld ss P E) {k:StockT} (gk:GoodK (ss.map (·.nm)) k) (hl:ss.length<=40) (m:ag):tO [cy k,pD P,eD E,.int m]=aa (.int (lvl P E k m)):=by
 have l1:=gk.tk.ln;have l2:=gk.pt.ln;rw[qg] at l1 l2;refine bM (n:=2) (ds:=[cy k,pD P,eD E,.int m]) (ρ':=[oS (cy k),oS (pD P),oS (eD E),oS (.int m),oS (.int (amt (stt P) m k.tk)),oS (.int (amt (ent E) m k.pt))]) [oS (cy k),oS (pD P),oS (eD E),oS (.int m),ab,ab] rfl ((aZ (C3 (f:=fun w:ak×ag=>w.2) (l:=k.tk.filter fun w=>decide (stt P w.1<=m)) (kW (xs:=k.tk.map dW) (cI (au rfl rfl i0)) (by rw[qg];omega) rfl (n4 (d:=dW) (fun ρ=>∃a b,ρ=[a,b,oS (.int m),oS (pD P)]) k.tk _ (fun w hw ρ hI=>by obtain⟨a,b,rfl⟩:=hI;exact⟨_,rfl,a5 (au (au (au rfl rfl (cQ (T.gpN (gk.tk.ws w hw).1))) rfl cB) rfl rfl),fun _=>rfl,_,_,rfl⟩) ⟨_,_,rfl⟩)))).trans
  ((aZ (C3 (f:=fun w:ak×ag=>w.2) (l:=k.pt.filter fun w=>decide (ent E w.1<=m)) (kW (xs:=k.pt.map dW) (cI (au rfl rfl fF)) (by rw[qg];omega) rfl (n4 (d:=dW) (fun ρ=>∃a b,ρ=[a,b,oS (.int m),oS (eD E)]) k.pt _ (fun w hw ρ hI=>by obtain⟨a,b,rfl⟩:=hI;exact⟨_,rfl,a5 (au (au rfl rfl (eZ (T.geN (gk.pt.ws w hw).1))) rfl rfl),fun _=>rfl,_,_,rfl⟩) ⟨_,_,rfl⟩)))).trans (bS (au (au (au rfl rfl cB) rfl rfl) rfl rfl))))
theorem BU {f:ak->ag} {m:ag} {l:ac (ak×ag)} {w:ak×ag} (h:l[i]?=aa w):amt f m (l.take (i+1))=amt f m (l.take i)+w.2*(if decide (f w.1<=m)=ai then 1 else 0):=by
 rw[nr,h];unfold amt;rw[List.filter_append,gK,List.sum_append]
 congr 1
 show((List.filter _ [w]).map (·.2)).sum=_;rw[rG];split
 .rw[QF];exact Sw _
 .rw[Int.mul_zero];rfl
noncomputable abbrev lvE (P:bc) (E:ac (ak×ag)) (k:StockT) (m n:ag) (a b:ar Slot):bj:=[oS (pD P),oS (eD E),oS (cy k),oS (.int m),oS (.int n),a,b]
theorem D' {a:ag} {b:aX} :cv (.int a) (.int (if b then 1 else 0))=aa (.int (a*(if b=ai then 1 else 0))):=mj (.inr (by cases b<;>decide))
theorem IZ (T:Tld ss P E) {k:StockT} (gk:GoodK (ss.map (·.nm)) k) (m:ag):p8 [pD P,eD E,cy k,.int m]=aa (.int (lvl P E k m)):=by
 obtain⟨ρ1,e1,a,b,h1⟩:=dv (gg:=bJ 2 .(ak)) (body:=aG 4 (b2 eN (vSh 4) (b2 cv (vSh 6) (cF gS (ae (b2 leD (b2 ixD (b2 aW (vSh 0) (vSh 5)) .(c)) (vSh 3)) aj))))) (xs:=k.tk.map dW) (ρ:=lvE P E k m k.lo ab ab)
  (fun i ρ=>∃a b,ρ=lvE P E k m (k.lo-amt (stt P) m (k.tk.take i)) a b) ⟨ab,ab,by rw[show k.lo-amt (stt P) m (k.tk.take 0)=k.lo from Int.sub_zero _]⟩ (fun i x ρ hx hI=>by obtain⟨a,b,rfl⟩:=hI;rw[ql] at hx;obtain⟨w,hw,rfl⟩:=oMd hx;refine⟨_,_,rfl,jw (au rfl (au rfl (aU (aA (au (au (au rfl rfl (cQ (T.gpN (gk.tk.ws w (qO hw)).1))) rfl cB) rfl rfl) aO) rfl) D') rfl),oS (.str w.1),oS (.int w.2),?_⟩;rw[BU hw,←Int.sub_sub];rfl)
 rw[qg,iB] at h1;obtain⟨ρ2,e2,a2,b2',h2⟩:=dv (gg:=bJ 2 .(ak)) (body:=aG 4 (b2 aK (vSh 4) (b2 cv (vSh 6) (cF gS (ae (b2 leD (b2 aW (vSh 1) (vSh 5)) (vSh 3)) aj))))) (xs:=k.pt.map dW) (ρ:=ρ1)
  (fun i ρ=>∃a b,ρ=lvE P E k m (k.lo-amt (stt P) m k.tk+amt (ent E) m (k.pt.take i)) a b) ⟨a,b,by rw[h1,show k.lo-amt (stt P) m k.tk+amt (ent E) m (k.pt.take 0)=k.lo-amt (stt P) m k.tk from Sw _]⟩ (fun i x ρ hx hI=>by obtain⟨a,b,rfl⟩:=hI;rw[ql] at hx;obtain⟨w,hw,rfl⟩:=oMd hx;refine⟨_,_,rfl,jw (au rfl (au rfl (aU (aA (au (au rfl rfl (eZ (T.geN (gk.pt.ws w (qO hw)).1))) rfl rfl) aO) rfl) D') rfl),oS (.str w.1),oS (.int w.2),?_⟩;rw[BU hw,←Int.add_assoc];rfl)
 rw[qg,iB] at h2;refine bM (n:=3) (ds:=[pD P,eD E,cy k,.int m]) (ρ':=lvE P E k m (lvl P E k m) a2 b2') [oS (pD P),oS (eD E),oS (cy k),oS (.int m),ab,ab,ab] rfl ((aZ (au rfl rfl cB)).trans ((bT ((cR (cI (au rfl rfl i0))).trans e1)).trans ?_));subst h1;exact(bT ((cR (cI (au rfl rfl fF))).trans (e2.trans (by rw[h2];rfl)))).trans (bS rfl)
end
theorem wb {G:D->ar D} {x:D} (h:f ρ=aa x) (h2:G x=aa y):b1 G f ρ=aa y:=by unfold b1;rw[h];exact h2
theorem kj {f:FA} {l:ac D} (h:f ρ=aa l):aH f ρ=aa (.lst l):=by unfold aH;rw[h];rfl
theorem xV {p:ag->aX}:∀{l:ac ag} {b:ag},l.Pairwise (·<=·)->l.find? p=aa b->∀x∈l,p x=ai->b<=x
 |[],_,_,h,_,_,_=>by cases h
 |a::l,b,pw,h,x,hx,px=>by
  rw[Fd] at pw;rw[eC] at h;cases hp:p a with
  |true=>
   rw[hp] at h;cases h;rcases cM.mp hx with e|q
   .rw[e];exact sj _
   .exact pw.1 x q
  |false=>
   rw[hp] at h;rcases cM.mp hx with e|q
   .rw[e,hp] at px;cases px
   .exact xV pw.2 h x q px
theorem Kc {p:ag->aX} {A B:ac ag} (hA:A.Pairwise (·<=·)) (hB:B.Pairwise (·<=·)) (sub:∀x∈A,x∈B) (hb:∀x∈B,p x=ai->∃y∈A,y<=x/\p y=ai):A.find? p=B.find? p:=by
 cases e:A.find? p with
 |none=>
  symm;rw[ve] at e ⊢;intro x hx px;obtain⟨y,hy,_,py⟩:=hb x hx px;exact e y hy py
 |some a=>
  have pa:=zm e;have ma:=vc e;cases e2:B.find? p with
  |none=>exact bN pa (ve.mp e2 a (sub a ma))
  |some b=>
   obtain⟨y,hy,h1,py⟩:=hb b (vc e2) (zm e2);have h2:=xV hA e y hy py;have h3:=xV hB e2 a (sub a ma) pa;exact cK aa .(f)
theorem lL {α:Type} {p:α->aX} {f:α->D}:∀l:ac α,(l.findSome? fun x=>if p x=ai then aa (f x) else ab)=(l.find? p).map f
 |[]=>rfl
 |x::l=>by
  rw[nv,eC];cases p x with
  |true=>rfl
  |false=>exact lL l
theorem Cf:∀{l:ac ag},l≠[]->∃y∈l,∀z∈l,z<=y
 |[],h=>bN rfl h
 |[a],_=>⟨a,.head _,fun z hz=>by rw[bX.mp hz];exact sj _⟩
 |a::b::l,_=>by
  obtain⟨y,hy,h⟩:=Cf (l:=b::l) (fun z=>by cases z);by_cases q:a<=y
  .exact⟨y,.tail _ hy,fun z hz=>(cM.mp hz).elim (fun e=>by rw[e];exact q) (h z)⟩
  .exact⟨a,.head _,fun z hz=>(cM.mp hz).elim (fun e=>by rw[e];exact sj _) fun m=>by have:=h z m;omega⟩
theorem BE (l:ac ag):(fS l).Pairwise (·<=·):=
 (zB (le:=leZ) (fun a b c h1 h2=>qR (zG (fL h1) (fL h2))) (fun a b=>by
  rcases Sb a b with h|h
  .rw[show leZ a b=ai from qR h];rfl
  .rw[show leZ b a=ai from qR h];exact Sc _) l).imp fun h=>fL h
theorem xK {l:ac ag} {x:ag} :x∈fS l↔x∈l:=(kK l leZ).mem_iff
theorem ym {x:ag} (l:ac ag):x∈ST.dd l↔x∈l:=by
 have key:∀(l a:ac ag),x∈l.foldl (fun a k=>if k∈a then a else a++[k]) a↔x∈a\/x∈l:=by
  intro l
  induction l with
  |nil=>intro a;simp
  |cons k l ih=>
   intro a;rw[jd,ih,qK];by_cases h:k∈a
   .rw[qX h];exact⟨fun q=>q.elim .inl fun z=>.inr (.inr z),fun q=>q.elim .inl fun z=>z.elim (fun e=>.inl (e▸h)) .inr⟩
   .rw[qY h,dn,bX,or_assoc]
 exact(key l []).trans (by simp)
section
variable {bs:ac BenchT} {P:bc}
noncomputable def h8 (P:bc) (E:ac (ak×ag)) (k:StockT) (m:ag):aX:=!(decide (0<=lvl P E k m) && decide (lvl P E k m<=k.hi))
noncomputable def skT (k:StockT) (m:ag):D:=.tup [.str "stock",.str k.nm,.int m]
noncomputable def j5 (P:bc) (E:ac (ak×ag)) (k:StockT):ac ag:=k.tk.map (fun w=>stt P w.1)++k.pt.map fun w=>ent E w.1
noncomputable def mP (P:bc) (E:ac (ak×ag)):ac ag:=0::(E.map (·.2)++P.map (·.2.2))
noncomputable def skV (P:bc) (E:ac (ak×ag)) (k:StockT):ar D:=((fS (ST.dd (j5 P E k))).find? (h8 P E k)).map (skT k)
theorem Bd {f:ak->ag} {m m':ag} {l:ac (ak×ag)} (h:∀w∈l,f w.1<=m↔f w.1<=m'):amt f m l=amt f m' l:=by unfold amt;rw[Sq fun w hw=>si.mpr (h w hw)]
theorem Bp {f:ak->ag} {m:ag} {l:ac (ak×ag)} (h:∀w∈l,¬f w.1<=m):amt f m l=0:=by unfold amt;rw[FD.mpr fun w hw=>by rw[qM (h w hw)];exact qt];rfl
theorem Nq (T:Tld ss P E) {k:StockT} (gk:GoodK (ss.map (·.nm)) k):skV P E k=((fS (mP P E)).find? (h8 P E k)).map (skT k):=by
 unfold skV;rw[Kc (BE _) (BE _)]
 .intro x hx;rw[xK,ym] at hx;rw[xK];refine .tail _ (dn.mpr ?_);rcases dn.mp hx with q|q
  .obtain⟨w,hw,rfl⟩:=bw.mp q;exact .inr (bw.mpr ⟨_,iR (T.gpN (gk.tk.ws w hw).1),rfl⟩)
  .obtain⟨w,hw,rfl⟩:=bw.mp q;exact .inl (bw.mpr ⟨_,iR (T.geN (gk.pt.ws w hw).1),rfl⟩)
 .intro x _ px;by_cases hn:(j5 P E k).filter (fun y=>decide (y<=x))=[]
  .exfalso;rw[FD] at hn;have no:∀y∈j5 P E k,¬y<=x:=fun y hy z=>hn y hy (qR z);have e:lvl P E k x=k.lo:=by unfold lvl;rw[Bp fun w hw=>no _ (dn.mpr (.inl (bw.mpr ⟨w,hw,rfl⟩))),Bp fun w hw=>no _ (dn.mpr (.inr (bw.mpr ⟨w,hw,rfl⟩)))];omega
   unfold h8 at px;rw[e,qR gk.lo.1,qR gk.lo.2] at px;cases px
  .obtain⟨y,hy,hm⟩:=Cf hn;rw[gw] at hy;have hyx:=fL hy.2;have same:∀z∈j5 P E k,z<=x↔z<=y:=fun z hz=>⟨fun q=>hm z (gw.mpr ⟨hz,qR q⟩),fun q=>zG q hyx⟩;refine⟨y,xK.mpr ((ym _).mpr hy.1),hyx,?_⟩;have e:lvl P E k x=lvl P E k y:=by unfold lvl;rw[Bd fun w hw=>same _ (dn.mpr (.inl (bw.mpr ⟨w,hw,rfl⟩))),Bd (m:=x) fun w hw=>same _ (dn.mpr (.inr (bw.mpr ⟨w,hw,rfl⟩)))]
   unfold h8 at px ⊢;rw[←e];exact px
noncomputable abbrev bkE (S:D) (P:bc) (E:ac (ak×ag)) (a b c:ar Slot):bj:=[oS S,oS (pD P),oS (eD E),a,b,c]
theorem OY {a b c:ag} (h1:fa ρ=aa (.int a)) (h2:fb ρ=aa (.int b)) (h3:fc ρ=aa (.int c)):chD leD leD fa fb fc ρ=aa (.bl (decide (a<=b) && decide (b<=c))):=by
 unfold chD;rw[h1,qc,h2,qc,show leD (.int a) (.int b)=aa (.bl (decide (a<=b))) from rfl,qc];cases decide (a<=b) with
 |true=>dsimp only;rw[h3];rfl
 |false=>rfl
theorem Ip (g:Good bs ss js us ls ks h) (T:Tld ss P E) (hl:ss.length<=20):xo [aR bs ss js us ls ks h,pD P,eD E]=aa ((ks.findSome? (skV P E)).getD .non):=by
 have hl40:(ss.map (·.nm)).length<=40:=by rw[qg];omega
 refine iO (n:=3) (ds:=[aR bs ss js us ls ks h,pD P,eD E]) (ρ:=bkE .(e) P E ab ab ab) (d:=cy) (v:=skV P E) ks
  (fun ρ=>∃a b c,ρ=bkE .(e) P E a b c) rfl (cI (gM .(s) rfl aO (HM (gX (n:=7) (by have:=g.kl;omega) fun x hx=>BF hl40 (g.k x hx))))) ?_ ⟨_,_,_,rfl⟩ (fun ρ _=>rfl)
 rintro k hk ρ ⟨a,b,c,rfl⟩;have gk:=g.k k hk;have l1:=gk.tk.ln;have l2:=gk.pt.ln;rw[qg] at l1 l2;obtain⟨ρ2,e2,c',rfl⟩:=jj (gg:=ay 5) (body:=sIf (bC (toB (chD leD leD .(d) (cF tO (ae (vSh 3) (ae (vSh 1) (ae (vSh 2) (ae (vSh 5) aj))))) (b2 ixD (vSh 3) .(i))))) (aE (aT (szF (ae (vC (.str "stock")) (ae (b2 ixD (vSh 3) .(d)) (ae (vSh 5) aj)))))) aP) (d:=D.int) (v:=fun m=>if h8 P E k m=ai then aa (skT k m) else ab)
  (fun ρ=>∃c,ρ=bkE .(e) P E (oS (cy k)) (oS (.lst ((j5 P E k).map D.int))) c) (fS (ST.dd (j5 P E k))) (bkE .(e) P E (oS (cy k)) (oS (.lst ((j5 P E k).map D.int))) c) (fun m _ ρ=>by
   rintro⟨c,rfl⟩;refine⟨_,_,rfl,(bH (b:=h8 P E k m) (tM (a5 (OY rfl (aU (aA rfl (aA rfl .(n))) (P4 T gk .(f) m)) (au rfl rfl gT))))).trans ?_,oS (.int m),rfl⟩;cases h8 P E k m with
   |false=>rfl
   |true=>exact bS (o5 rfl (au rfl rfl cJ) rfl)) ⟨_,rfl⟩
 rw[lL] at e2;refine⟨_,_,rfl,?_,oS (cy k),oS (.lst ((j5 P E k).map D.int)),c',rfl⟩;refine(vt (ds:=(k.tk.map fun w=>stt P w.1).map D.int) ?_).trans ((bT (zR (g:=D.int) (ys:=k.pt.map fun w=>ent E w.1) rfl ?_ (by rw[qg,qg];omega))).trans ((iZ rfl).trans ((cR (cI (wb rfl ?_))).trans e2)))
 .rw[qp];exact kW (xs:=k.tk.map dW) (cI (au rfl rfl i0)) (by rw[qg];omega) rfl (nJ (d:=dW) (fun ρ=>∃a,ρ=[a,oS (pD P)]) k.tk _ (fun w hw ρ hI=>by obtain⟨a,rfl⟩:=hI;exact⟨_,rfl,rfl,au (au rfl (au rfl rfl cJ) (cQ (T.gpN (gk.tk.ws w hw).1))) rfl cB,_,rfl⟩) ⟨_,rfl⟩)
 .rw[qp (l:=k.pt)];refine kj ?_;exact kW (xs:=k.pt.map dW) (cI (au rfl rfl fF)) (by rw[qg];omega) rfl (nJ (d:=dW) (fun ρ=>∃a,ρ=[a,oS (eD E)]) k.pt _ (fun w hw ρ hI=>by obtain⟨a,rfl⟩:=hI;exact⟨[oS (dW w),oS (eD E)],rfl,rfl,au (x:=eD E) (y:=.str w.1) rfl (au (x:=dW w) rfl rfl cJ) (eZ (T.geN (gk.pt.ws w hw).1)),_,rfl⟩) ⟨_,rfl⟩)
 .show(if _ then _ else _)=_;rw[qX (by unfold j5;rw[qg,qk,qg,qg];omega),show D.int=fun x=>D.int (id x) from rfl,tH,zJ];rfl
end
theorem io {a b:ac D} (h:a.length+b.length<=1000):aK (.lst a) (.lst b)=aa (.lst (a++b)):=qX (szN h .(g))
section
variable {bs:ac BenchT} {P:bc}
noncomputable abbrev slE (P:bc) (E:ac (ak×ag)) (L:D) (a b c:ar Slot):bj:=[oS (pD P),oS (eD E),oS L,oS (.lst ((mP P E).map D.int)),a,b,c]
theorem F0 (g:Good bs ss js us ls ks h) (T:Tld ss P E) (hP:P.length<=20) (hE:E.length<=40):xS [pD P,eD E,aF bs ss js us ls ks h]=aa (.lst (ks.findSome? (skV P E)).toList):=by
 obtain⟨ρ',e1,a,b,c,rfl⟩:=jj (gg:=ay 4) (body:=bD (itF (cF sN .(au))) (ay 5) (ax (aG 6 (cF p8 (ae (vSh 0) (ae (vSh 1) (ae (vSh 4) (ae (vSh 5) aj)))))) .(P))) (d:=cy) (v:=fun k=>ls1 (skV P E k))
  (fun ρ=>∃a b c,ρ=slE P E .(a) a b c) ks (slE P E .(a) ab ab ab) (fun k hk ρ=>by
   rintro⟨a,b,c,rfl⟩;have gk:=g.k k hk;obtain⟨ρ2,e2,b',c',rfl⟩:=jj (gg:=ay 5) (body:=ax (aG 6 (cF p8 (ae (vSh 0) (ae (vSh 1) (ae (vSh 4) (ae (vSh 5) aj)))))) .(P)) (d:=D.int) (v:=fun m=>if h8 P E k m=ai then aa (.lst [skT k m]) else ab)
    (fun ρ=>∃b c,ρ=slE P E .(a) (oS (cy k)) b c) (fS (mP P E)) (slE P E .(a) (oS (cy k)) b c) (fun m _ ρ=>by
     rintro⟨b,c,rfl⟩;refine⟨_,_,rfl,(aZ (aU (aA rfl (aA rfl .(n))) (IZ T gk m))).trans ((bH (mE (a5 .(G)) (a5 (au rfl (au rfl rfl gT) rfl)))).trans ?_),oS (.int m),oS (.int (lvl P E k m)),rfl⟩;have e:(decide (lvl P E k m<0) || decide (k.hi<lvl P E k m))=h8 P E k m:=by unfold h8;rw[Bool.not_and,←so,←so,si.mpr (zK (a:=0) (b:=lvl P E k m)),si.mpr (zK (a:=lvl P E k m) (b:=k.hi))]
     rw[e];cases h8 P E k m with
     |false=>rfl
     |true=>rfl) ⟨_,_,rfl⟩
   rw[lL] at e2;refine⟨_,_,rfl,(cR (cI (aU (aA rfl aO) ?_))).trans (e2.trans ?_),oS (cy k),b',c',rfl⟩
   .show(iN _).bind _=_;rw[show D.int=fun x=>D.int (id x) from rfl,tH,zJ];show(if _ then _ else _)=_;rw[qX (by unfold mP;rw[qj,qk,qg,qg];omega)]
   .rw[Nq T gk];cases(fS (mP P E)).find? (h8 P E k)<;>rfl) ⟨_,_,_,rfl⟩
 rw[xN] at e1;rw[←xY];refine bM (n:=4) (ds:=[pD P,eD E,aF bs ss js us ls ks h]) (ρ':=slE P E .(a) a b c) [oS (pD P),oS (eD E),oS .(a),ab,ab,ab,ab] rfl
  ((aZ (d:=.lst (.int 0::E.map fun x=>D.int x.2)) (au (x:=.lst [.int 0]) (y:=.lst (E.map fun x=>D.int x.2)) rfl (wb rfl ?_) (io (by rw[qg,qU];omega)))).trans
  ((aZ (d:=.lst ((mP P E).map D.int)) (au (y:=.lst (P.map fun q=>D.int q.2.2)) rfl (kj ?_) ((io (by rw[qg,qj,qg];omega)).trans ?_))).trans (xl ((cR (cI (au rfl rfl (ixL _ 5)))).trans e1) rfl)))
 .show aa (D.lst ((tb D.int E).map (·.2)))=_;unfold tb;rw[qp];rfl
 .refine kW (xs:=P.map fun q=>pT q.2) ?_ (by rw[qg];omega) rfl (nJ (d:=fun q:ak×ak×ag=>pT q.2) (fun ρ=>∃a,ρ=[a]) P _ (fun w hw ρ hI=>by obtain⟨a,rfl⟩:=hI;exact⟨_,rfl,rfl,au rfl rfl cB,_,rfl⟩) ⟨_,rfl⟩)
  show aa ((tb pT P).map (·.2))=_;unfold tb;rw[qp];rfl
 .unfold mP;rw[qo,gK,qp,qp];rfl
end
theorem DU (bt:al->al->aX):∀k,jR bt k<=k
 |0=>qw _
 |k+1=>by have:=DU bt k;show(if bt (k+1) (jR bt k)=ai then k+1 else jR bt k)<=k+1;split<;>omega
theorem z8 (ss:ac ak):∀k j,j<=k->leS (ss.getD (jR (btS ss) k) fZ) (ss.getD j fZ)=ai
 |0,j,h=>by
  have e:j=0:=by omega
  subst e;exact iM.mpr (Sx _)
 |k+1,j,h=>by
  have ih:=z8 ss k;show leS (ss.getD (if btS ss (k+1) (jR (btS ss) k)=ai then k+1 else jR (btS ss) k) fZ) (ss.getD j fZ)=ai;split
  .rename_i hb;have hb:(ss.getD (k+1) fZ).cps.toList<(ss.getD (jR (btS ss) k) fZ).cps.toList:=fL hb;rcases je k j with q|q
   .have e:j=k+1:=by omega
    subst e;exact iM.mpr (Sx _)
   .exact sW _ _ _ (iM.mpr (List.le_of_lt hb)) (ih j q)
  .rename_i hb;rcases je k j with q|q
   .have e:j=k+1:=by omega
    subst e;have hb:¬(ss.getD (k+1) fZ).cps.toList<(ss.getD (jR (btS ss) k) fZ).cps.toList:=fun z=>hb (qR z);exact iM.mpr (RQ.mp hb)
   .exact ih j q
theorem Pp {ss:ac ak} (h:ss≠[]):(fg ss).head?=aa (mnS ss):=by
 have hl:0<ss.length:=zH.mpr h;have pm:=kK ss leS;have m1:mnS ss∈ss:=by
  have hlt:jR (btS ss) (ss.length-1)<ss.length:=by have:=DU (btS ss) (ss.length-1);omega
  unfold mnS;rw[nu,qC hlt];exact rQ hlt
 have m2:∀x∈ss,leS (mnS ss) x=ai:=fun x hx=>by obtain⟨j,hj,e⟩:=List.getElem_of_mem hx;have:=z8 ss (ss.length-1) j .(f);rw[nu (i:=j),qC hj] at this;rw[←e];exact this
 have pw:=zB (le:=leS) sW B0 ss;unfold fg;cases e:ss.mergeSort leS with
 |nil=>
  rw[e] at pm;exact bN pm.symm.eq_nil h
 |cons a l=>
  rw[e] at pm pw;have ma:a∈ss:=pm.mem_iff.mp (.head _);rcases cM.mp (pm.mem_iff.mpr m1) with q|q
  .rw[q];rfl
  .exact cK aa (Dx ((Fd.mp pw).1 _ q) (m2 a ma))
theorem Nd (hx:bf x=ai) (hn:∀y∈ns,bf y=ai):fV (.str x) (.lst (ns.map D.str))=aa (.bl (!decide (x∈ns))):=by have e:=oA hx hn;unfold fE at e;obtain⟨b,hb,e⟩:=oMd e;unfold fV;rw[hb,qf,D.bl.inj e]
theorem Bb {A B:FS} (h:A ρ=aa (.rt d,ρ')):ax A B ρ=aa (.rt d,ρ'):=by unfold ax;rw[h];rfl
theorem tp:∀ns:ac ak,ie (ns.map D.str)=aa ns
 |[]=>rfl
 |x::r=>by show(ie (r.map D.str)).map (x::·)=_;rw[tp r];rfl
structure PlanOk (P:bc):Prop where
 nd:(P.map (·.1)).Nodup
 ln:P.length<=20
 kn:∀q∈P,bf q.1=ai
 bn:∀q∈P,bf q.2.1=ai
section
variable {bs:ac BenchT} {P:bc}
noncomputable def dj (ss:ac StepT) (P:bc):ac ak:=(P.filter fun q=>!decide (q.1∈ss.map (·.nm))).map (·.1)
noncomputable def eJ (ss:ac StepT) (P:bc):ac ak:=(ss.filter fun s=>!(lk P s.nm).isSome).map (·.nm)
noncomputable def stT (x:ak):D:=.tup [.str "step",.str x]
noncomputable def fQ (ss:ac StepT) (P:bc):ar D:=((eJ ss P).head?.or (fg (dj ss P)).head?).map stT
theorem D9:xF (pD P)=aa (P.map fun q=>D.str q.1):=by show aa ((tb pT P).map fun kv=>vS kv.1)=_;unfold tb;rw[qp];rfl
theorem zN (g:Good bs ss js us ls ks h) (p:PlanOk P) (h1:vSh i ρ=aa (pD P)) (h3:fu fv ρ=[ab,oS (.lst ((ss.map (·.nm)).map D.str))]):aH (a9 (itK (vSh i)) (ay 0) (toB (b2 fV (vSh 0) (vSh 1))) (vSh 0) fv) ρ=aa (.lst ((dj ss P).map D.str)):=by
 refine kj ((kW (xs:=P.map fun q=>D.str q.1) (by unfold itK;rw[h1];exact D9) (by rw[qg];have:=p.ln;omega) h3 (n4 (d:=fun q:ak×ak×ag=>D.str q.1) (r:=fun q=>D.str q.1) (p:=fun q=>!decide (q.1∈ss.map (·.nm))) (fun ρ=>∃a,ρ=[a,oS (.lst ((ss.map (·.nm)).map D.str))]) P _ (fun q hq ρ hI=>by obtain⟨a,rfl⟩:=hI;exact⟨_,rfl,a5 (au rfl rfl (Nd (p.kn q hq) g.snn)),fun _=>rfl,_,rfl⟩) ⟨_,rfl⟩)).trans ?_)
 unfold dj;rw[qp];rfl
theorem MD (ss:ac StepT) (P:bc):(ss.findSome? fun s=>if (!(lk P s.nm).isSome)=ai then aa (stT s.nm) else ab)=(eJ ss P).head?.map stT:=by unfold eJ;rw[lL,FF,FH,Option.map_map];rfl
noncomputable abbrev bpE (S:D) (P:bc) (ss:ac StepT) (a b:ar Slot):bj:=[oS S,oS (pD P),oS (.lst ((ss.map (·.nm)).map D.str)),a,b]
theorem B1 (g:Good bs ss js us ls ks h) (p:PlanOk P):xw [aR bs ss js us ls ks h,pD P]=aa ((fQ ss P).getD .non):=by
 obtain⟨ρ',e1,a,rfl⟩:=jj (gg:=ay 3) (body:=sIf (toB (b2 mo (vSh 3) (vSh 1))) (aE (aT (szF (ae (vC (.str "step")) .(au))))) aP) (d:=fun s:StepT=>D.str s.nm) (v:=fun s=>if (!(lk P s.nm).isSome)=ai then aa (stT s.nm) else ab)
  (fun ρ=>∃a,ρ=bpE .(e) P ss a ab) ss (bpE .(e) P ss ab ab) (fun s hs ρ=>by rintro⟨a,rfl⟩;refine⟨_,_,rfl,(bH (a5 (au rfl rfl Co))).trans ?_,oS .(u),rfl⟩;cases(lk P s.nm).isSome<;>rfl) ⟨_,rfl⟩
 rw[MD] at e1;have e0:itF (vSh 2) (bpE .(e) P ss ab ab)=aa (ss.map fun s=>D.str s.nm):=cI (by rw[show(ss.map fun s=>D.str s.nm)=(ss.map (·.nm)).map D.str from(qp ..).symm];rfl);refine wX (n:=3) (ρ':=bpE .(e) P ss a (if (eJ ss P).head?=ab then oS (.lst ((dj ss P).map D.str)) else ab)) ((aZ (gM .(s) rfl aO (vH g.sl.2))).trans ?_);unfold fQ;cases em:(eJ ss P).head? with
 |some x=>
  rw[em] at e1;exact Bb ((cR e0).trans e1)
 |none=>
  rw[em] at e1;refine(bT ((cR e0).trans e1)).trans ((aZ (zN g p rfl rfl)).trans ?_);have el:toB (b2 gtD (cF b9 (ae (vSh 4) aj)) .(d)) (bpE .(e) P ss a (oS (.lst ((dj ss P).map D.str))))=aa (decide ((0:ag)<((dj ss P).length:al))):=a5 (au (aU (aA rfl aO) rfl) rfl (by rw[qg];rfl));rw[qX rfl];by_cases hn:dj ss P=[]
  .rw[hn] at el ⊢;rw[show fg []=[] from List.mergeSort_nil];exact(fO el).trans rfl
  .have hl:0<(dj ss P).length:=zH.mpr hn;rw[qR (show(0:ag)<((dj ss P).length:al) by omega)] at el;rw[Pp hn];refine j6 el (bS (dw rfl (aU (aA rfl aO) ?_)));show(ie _).bind _=_;rw[tp];exact qY hn
end
section
variable {bs:ac BenchT} {P:bc}
structure Fine (bs:ac BenchT) (ss:ac StepT) (P:bc) (E:ac (ak×ag)):Prop where
 t:Tld ss P E
 e:bU ss P=E
 o:OnB ss P
 p:∀s∈ss,stt P s.nm<ent E s.nm
 b:∀s∈ss,∃b∈bs,b.nm=bnt P s.nm
noncomputable def pc (s:StepT):D:=.tup [.str "job",.str s.nm]
noncomputable def sQ (s:StepT):D:=.tup [.str "break",.str s.nm]
noncomputable def nK (js:ac JobT) (P:bc) (E:ac (ak×ag)) (s:StepT):aX:=ik js s.nm (stt P s.nm) (ent E s.nm)
noncomputable def oB (bs:ac BenchT) (P:bc) (E:ac (ak×ag)) (s:StepT):aX:=jv (brs bs (bnt P s.nm)) (stt P s.nm) (ent E s.nm)
noncomputable def w2 (bs:ac BenchT) (ss:ac StepT) (js:ac JobT) (P:bc) (E:ac (ak×ag)):ac D:=(ss.filter (nK js P E)).map pc++(ss.filter (oB bs P E)).map sQ
noncomputable def w3 (bs:ac BenchT) (ss:ac StepT) (js:ac JobT) (us:ac SetT) (P:bc) (E:ac (ak×ag)):ac D:=w2 bs ss js P E++((prS ss).findSome? (bnV us P E)).toList
noncomputable def wsh (bs:ac BenchT) (ss:ac StepT) (js:ac JobT) (us:ac SetT) (ls:ac LinkT) (ks:ac StockT) (P:bc) (E:ac (ak×ag)):ac D:=w3 bs ss js us P E++js.filterMap (apJ P E)++(ls.findSome? (lkV P E)).toList++(ks.findSome? (skV P E)).toList
theorem tl1 (o:ar D):o.toList.length<=1:=by cases o<;>simp
noncomputable abbrev wsE (P:bc) (L:D) (E:ac (ak×ag)) (ss:ac StepT) (a b:ar Slot):bj:=[oS (pD P),oS L,oS (eD E),oS (.lst ((ss.map (·.nm)).map D.str)),a,b]
theorem Al {T:ak} {F:FQ} {p:StepT->aX} {a b:ar Slot} (hl:ss.length<=40) (hF:∀s∈ss,F [pD P,eD E,L,.str s.nm]=aa (.bl (p s))):aH (a9 (itF (vSh 3)) (ay 0) (toB (cF F (ae (vSh 1) (ae (vSh 2) (ae (vSh 3) .(T)))))) (aT (szF (ae (vC (.str T)) .(T)))) [ab,aa 0,aa 2,aa 1]) (wsE P L E ss a b)=aa (.lst ((ss.filter p).map fun s=>.tup [.str T,.str s.nm])):=
 kj (kW (xs:=ss.map fun s=>D.str s.nm) (cI (by rw[show(ss.map fun s=>D.str s.nm)=(ss.map (·.nm)).map D.str from(qp ..).symm];rfl)) (by rw[qg];omega) rfl (n4 (d:=fun s:StepT=>D.str s.nm) (p:=p) (r:=fun s=>.tup [.str T,.str s.nm]) (fun ρ=>∃a,ρ=[a,oS (pD P),oS (eD E),oS L]) ss _ (fun s hs ρ hI=>by obtain⟨a,rfl⟩:=hI;exact⟨_,rfl,a5 (aU (aA rfl (aA rfl .(n))) (hF s hs)),fun _=>rfl,_,rfl⟩) ⟨_,rfl⟩))
theorem IY (g:Good bs ss js us ls ks h) (p:PlanOk P) (f:Fine bs ss P E):uv [pD P,aF bs ss js us ls ks h]=aa (.lst (wsh bs ss js us ls ks P E)):=by
 have l1:((ss.filter (nK js P E)).map pc).length<=40:=by rw[qg];exact qL (na _ _) g.sl.2
 have l1':((ss.filter (oB bs P E)).map sQ).length<=40:=by rw[qg];exact qL (na _ _) g.sl.2
 have l2:(w2 bs ss js P E).length<=80:=by unfold w2;rw[qk];omega
 have l3:(w3 bs ss js us P E).length<=81:=by unfold w3;rw[qk];have:=tl1 ((prS ss).findSome? (bnV us P E));omega
 have l4:∀l:ac JobT,(l.filterMap (apJ P E)).length<=l.length:=fun l=>FC _ _;have hE:E.length<=40:=by rw[←f.e];exact qL (yt ss P) g.sl.2
 have e0:=vV g f.o;rw[f.e] at e0;have c1:=Al (P:=P) (E:=E) (T:="job") (F:=oo) (p:=nK js P E) (a:=ab) (b:=ab) g.sl.2 fun s hs=>Bk g hs (f.t.gp hs) (f.t.ge hs);have c2:=Al (P:=P) (E:=E) (T:="break") (F:=nQ) (p:=oB bs P E) (a:=oS (.lst ((ss.filter (nK js P E)).map pc))) (b:=ab) g.sl.2 fun s hs=>by obtain⟨b,hb,hn⟩:=f.b s hs;refine(zW g f.t hs hb hn.symm).trans ?_;unfold oB;rw[←hn,B2 g hb]
 have c3:=MO g f.t (fun u hu=>by have:=(g.u u hu).n;omega) f.p fun s hs=>p.bn _ (iR (f.t.gp hs));obtain⟨ρ',e1,b,h1⟩:=dv (gg:=ay 5) (body:=aG 4 (b2 aK (vSh 4) (cF ud (ae (vSh 0) (ae (vSh 2) (ae (vSh 5) aj)))))) (xs:=js.map ba) (ρ:=wsE P .(a) E ss (oS (.lst (w3 bs ss js us P E))) ab)
  (fun i ρ=>∃b,ρ=wsE P .(a) E ss (oS (.lst (w3 bs ss js us P E++(js.take i).filterMap (apJ P E)))) b) ⟨ab,by rw[List.take_zero,List.filterMap_nil,lT]⟩ (fun i x ρ hx hI=>by
   obtain⟨b,rfl⟩:=hI;rw[ql] at hx;obtain⟨j,hj,rfl⟩:=oMd hx;have hm:=qO hj;refine⟨_,_,rfl,jw (au rfl (aU (aA rfl .(n)) (N5 g f.t hm)) (io ?_)),oS (ba j),?_⟩
   .have:=l4 (js.take i);have:=g.jl;have:=tl1 (apJ P E j);rw[qD] at *;rw[qk];omega
   .rw[nr,hj,Ss,←oN,show E3 (apJ P E) (aa j).toList=(apJ P E j).toList by show E3 (apJ P E) [j]=_;rw[rm];cases apJ P E j<;>rfl];rfl)
 rw[qg,iB] at h1;subst h1;have l5:=l4 js;have l6:=g.jl;have l7:=tl1 (ls.findSome? (lkV P E));have l8:=tl1 (ks.findSome? (skV P E));refine bM (n:=4) (ds:=[pD P,aF bs ss js us ls ks h]) (ρ':=wsE P .(a) E ss (oS (.lst (w3 bs ss js us P E++js.filterMap (apJ P E)++(ls.findSome? (lkV P E)).toList))) b) [oS (pD P),oS .(a),ab,ab,ab,ab] rfl
  ((aZ (aU .(n) e0)).trans ((aZ (tJ g.sl.2 rfl rfl)).trans ((aZ c1).trans ((aZ (au rfl c2 (io (qL (Sy l1 l1') .(g))))).trans
  ((aZ (d:=.lst (w3 bs ss js us P E)) (au rfl (aU (aA rfl .(n)) c3) (io (qL (Sy l2 (tl1 _)) .(g))))).trans
  ((bT ((cR (cI (au rfl rfl (ixL _ 2)))).trans e1)).trans
  ((aZ (au rfl (aU (aA rfl .(n)) (Ly g f.t)) (io (by rw[qk];omega)))).trans (bS (au rfl (aU (aA rfl .(n)) (F0 g f.t p.ln hE)) (io (by rw[qk,qk];omega)))))))))))
theorem wY (o:ar D):o.toList.head?=o:=by cases o<;>rfl
theorem Di:(wsh bs ss js us ls ks P E).head?=(((((ss.findSome? (j9 js P E)).or (ss.findSome? (mm bs P E))).or ((prS ss).findSome? (bnV us P E))).or (js.findSome? (apJ P E))).or (ls.findSome? (lkV P E))).or (ks.findSome? (skV P E)):=by
 have e1:((ss.filter (nK js P E)).map pc).head?=ss.findSome? (j9 js P E):=by rw[FF,FH,←lL];rfl
 have e2:((ss.filter (oB bs P E)).map sQ).head?=ss.findSome? (mm bs P E):=by rw[FF,FH,←lL];rfl
 unfold wsh w3 w2;rw[oZ,oZ,oZ,oZ,oZ,wY,wY,wY,List.head?_filterMap,e1,e2]
end
noncomputable def GT (d:D):Prop:=(∃t:ac ak,(∀x∈t,bf x=ai)/\d=.tup (t.map D.str))\/∃(a:ak) (m:ag),bf a=ai/\d=.tup [.str "stock",.str a,.int m]
noncomputable def GO (o:ar D):Prop:=∀d,o=aa d->GT d
theorem GO.first {v:α->ar D} {l:ac α} (h:∀x∈l,GO (v x)):GO (l.findSome? v):=fun d e=>by obtain⟨x,hx,e⟩:=List.exists_of_findSome?_eq_some e;exact h x hx d e
theorem GO.ite {p:Prop} [Decidable p] (h:GT d):GO (if p then aa d else ab):=fun x e=>by
 split at e
 .cases e;exact h
 .cases e
theorem gt2 {a b:ak} (h1:bf a=ai) (h2:bf b=ai):GT (.tup [.str a,.str b]):=.inl ⟨[a,b],by simp[h1,h2],rfl⟩
theorem gt3 {a b c:ak} (h1:bf a=ai) (h2:bf b=ai) (h3:bf c=ai):GT (.tup [.str a,.str b,.str c]):=.inl ⟨[a,b,c],by simp[h1,h2,h3],rfl⟩
theorem GT.nn (h:GT d):me d=aq:=by rcases h with⟨t,_,rfl⟩|⟨a,m,_,rfl⟩<;>rfl
theorem BW {x:D} {p:rS} (e:neA x x=mf x x) (h:pdD x=aa p) (s:dH p=ai) (q:hV p p=ai):neA x x=aa (.bl aq):=by rw[e];unfold mf eqX;rw[h,qc,qc,qX ⟨s,s⟩,q];rfl
theorem GT.ne (h:GT d):neA d d=aa (.bl aq):=by
 rcases h with⟨t,ht,rfl⟩|⟨a,m,ha,rfl⟩
 .refine BW rfl (pI _) (by simp[dH,jT,kO ht,kL,oy]) ?_;show kN _ _=ai;rw[uw];exact qR rfl
 .refine BW (p:=.tuple [.str "stock",.str a,.int m]) rfl (by simp[pdD,gm]) ?_ ?_
  .simp[dH,jT,jQ,o9 ha,o9 (show bf "stock"=ai by decide +kernel),kL,nj]
  .simp[hV,kN]
section
variable {bs:ac BenchT} {P:bc}
theorem sy (g:Good bs ss js us ls ks h) (p:PlanOk P):GO (fQ ss P):=fun d e=>by
 unfold fQ at e;obtain⟨x,hx,rfl⟩:=oMd e;refine gt2 .(s) ?_;rcases Sz.mp hx with q|⟨_,q⟩
 .have m:=SA q;unfold eJ at m;obtain⟨s,hs,rfl⟩:=bw.mp m;exact(g.s s (gw.mp hs).1).nm
 .have m:=(kK (dj ss P) leS).mem_iff.mp (SA q);unfold dj at m;obtain⟨w,hw,rfl⟩:=bw.mp m;exact p.kn w (gw.mp hw).1
theorem DV (g:Good bs ss js us ls ks h):GO (ss.findSome? (gq h P)):=.first fun s hs d e=>by
 have k:GT (.tup [.str "way",.str s.nm]):=gt2 .(s) (g.s s hs).nm;unfold gq at e;split at e
 .cases e
 .split at e
  .cases e;exact k
  .split at e
   .cases e;exact k
   .cases e
theorem Dr (g:Good bs ss js us ls ks h):GO (ss.findSome? (j9 js P E)):=.first fun s hs=>.ite (gt2 .(s) (g.s s hs).nm)
theorem BL (g:Good bs ss js us ls ks h):GO (ss.findSome? (mm bs P E)):=.first fun s hs=>.ite (gt2 .(s) (g.s s hs).nm)
theorem C8 (g:Good bs ss js us ls ks h):GO ((prS ss).findSome? (bnV us P E)):=.first fun s hs=>.ite (gt3 .(s) (g.s _ (mT hs).1).nm (g.s _ (mT hs).2).nm)
theorem CW (g:Good bs ss js us ls ks h):GO (js.findSome? (apJ P E)):=.first fun j hj=>.first fun q hq=>by
 have k:∀s∈j.ms.map mkS,bf s.nm=ai:=fun s hs=>by obtain⟨x,hx,rfl⟩:=bw.mp hs;exact g.snn x ((g.j j hj).ms x hx)
 exact .ite (gt3 .(s) (k _ (mT hq).1) (k _ (mT hq).2))
theorem AS (g:Good bs ss js us ls ks h):GO (ls.findSome? (lkV P E)):=.first fun l hl=>.ite (gt3 .(s) (g.snn _ (g.l l hl).a) (g.snn _ (g.l l hl).b))
theorem PF (g:Good bs ss js us ls ks h):GO (ks.findSome? (skV P E)):=.first fun k hk d e=>by unfold skV at e;obtain⟨m,_,rfl⟩:=oMd e;exact .inr ⟨_,_,(g.k k hk).nm,rfl⟩
theorem GO.or {a b:ar D} (h1:GO a) (h2:GO b):GO (a.or b):=fun d e=>(Sz.mp e).elim (h1 d) fun q=>h2 d q.2
noncomputable abbrev fbE (S:D) (P:bc) (o:ar D) (y:ar Slot):bj:=[oS S,oS (pD P),oS (o.getD .non),y]
theorem GO.non {o:ar D} (h:GO o):me (o.getD .non)=o.isNone:=by
 cases o with
 |none=>rfl
 |some d=>exact(h d rfl).nn
theorem nxt {F:FQ} {o o':ar D} {S:D} {y:ar Slot} (g:GO o) (hf:fr (fbE S P o y)=aa ds) (hF:o=ab->F ds=aa (o'.getD .non)):sIf (toB (b2 isD (vSh 2) (vC .non))) (aG 2 (cF F fr)) aP (fbE S P o y)=aa (.nx,fbE S P (o.or o') y):=by
 refine(bH (b:=o.isNone) (a5 (au rfl rfl ?_))).trans ?_
 .exact cK (aa ∘ D.bl) g.non
 .cases o with
  |some d=>rfl
  |none=>exact jw (aU hf (hF rfl))
theorem MT (g:Good bs ss js us ls ks h) (p:PlanOk P) {t:D} (hp:fQ ss P=ab->∀s∈ss,(lk P s.nm).isSome=ai) (ht:(fQ ss P).or (ss.findSome? (gq h P))=aa t):om [aR bs ss js us ls ks h,pD P]=aa t:=by
 have go:=(sy (js:=js) g p).or (DV g (P:=P));refine bM (n:=2) (ρ':=fbE .(e) P (aa t) ab) (ds:=[aR bs ss js us ls ks h,pD P]) [oS .(e),oS (pD P),ab,ab] rfl
  ((aZ (aU .(n) (B1 g p))).trans ((bT (nxt (sy g p) .(n) fun e=>BR g (hp e))).trans ?_))
 rw[ht] at go ⊢;refine j6 (a5 (au rfl rfl ?_)) rfl;show aa (D.bl (!me t))=_;rw[(go t rfl).nn];rfl
theorem HK (g:Good bs ss js us ls ks h) (p:PlanOk P) (hl:ss.length<=20) (f:Fine bs ss P E) (hs:fQ ss P=ab) (hw:ss.findSome? (gq h P)=ab):om [aR bs ss js us ls ks h,pD P]=aa (((wsh bs ss js us ls ks P E).head?).getD .non):=by
 have hp:∀s∈ss,(lk P s.nm).isSome=ai:=fun s hs=>by rw[f.t.gp hs];rfl
 have e0:=MU g hp f.o;rw[f.e] at e0;have a3:∀{o:ar D},(ae (vSh 0) (ae (vSh 1) .(au))) (fbE .(e) P o (oS (eD E)))=aa [aR bs ss js us ls ks h,pD P,eD E]:=rfl;have g1:=Dr g (P:=P) (E:=E);have g2:=g1.or (BL g (P:=P) (E:=E));have g3:=g2.or (C8 g (P:=P) (E:=E));have g4:=g3.or (CW g (P:=P) (E:=E));have g5:=g4.or (AS g (P:=P) (E:=E));have n1:=nxt (P:=P) (y:=ab) (S:=aR bs ss js us ls ks h) (fr:=ae (vSh 0) .(K)) (sy g p) .(n) fun _=>BR g hp;rw[hs,hw] at n1;have b0:=B1 g p;rw[hs] at b0;rw[Di];refine bM (n:=2) (ρ':=fbE .(e) P ((((((ss.findSome? (j9 js P E)).or (ss.findSome? (mm bs P E))).or ((prS ss).findSome? (bnV us P E))).or (js.findSome? (apJ P E))).or (ls.findSome? (lkV P E))).or (ks.findSome? (skV P E))) (oS (eD E))) (ds:=[aR bs ss js us ls ks h,pD P]) [oS .(e),oS (pD P),ab,ab] rfl
  ((aZ (aU .(n) b0)).trans ((bT n1).trans ((fO (a5 .(G))).trans
  ((aZ (aU .(n) e0)).trans ((aZ (d:=(ss.findSome? (j9 js P E)).getD .non) (aU (aA rfl .(n)) (Gh g f.t))).trans
  ((bT (nxt g1 a3 fun _=>OH g f.t f.b)).trans ((bT (nxt g2 a3 fun _=>PX g f.t)).trans ((bT (nxt g3 a3 fun _=>Mm g f.t)).trans ((bT (nxt g4 a3 fun _=>FV g f.t)).trans ((bT (nxt g5 a3 fun _=>Ip g f.t hl)).trans (bS rfl)))))))))))
end
section
variable {bs:ac BenchT} {P:bc}
noncomputable abbrev duE (P:bc) (L:D) (ss:ac StepT) (a b c d e f:ar Slot):bj:=[oS (pD P),oS L,oS (.lst ((ss.map (·.nm)).map D.str)),oS (.lst ((eJ ss P).map D.str)),oS (.lst ((fg (dj ss P)).map D.str)),a,b,c,d,e,f]
noncomputable def dwB:FS:=.(ab)
theorem zS (g:Good bs ss js us ls ks h) (hp:∀s∈ss,(lk P s.nm).isSome=ai):∃ρ',fz (bJ 3 (aJ (ay 5) (aJ (ay 6) (aJ (ay 7) bI)))) dwB (ss.map bA) (duE P .(a) ss ab ab ab ab ab ab)=aa (flO (ss.findSome? (gq h P)),ρ')/\∃a b c d e f,ρ'=duE P .(a) ss a b c d e f:=by
 refine jj (d:=bA) (fun ρ=>∃a b c d e f,ρ=duE P .(a) ss a b c d e f) ss _ ?_ ⟨_,_,_,_,_,_,rfl⟩;rintro s hs ρ ⟨a,b,c,d,e,f,rfl⟩;have gs:=g.s s hs;obtain⟨q,hq⟩:=g0.mp (hp s hs);have ea:dM (bJ 2 (aJ (ay 8) (aJ (ay 9) bI))) (b2 aW (vSh 0) (vSh 5)) (duE P .(a) ss (oS .(u)) (oS (.str s.kd)) (oS (.lst (s.ws.map dW))) d e f)=aa (.nx,duE P .(a) ss (oS .(u)) (oS (.str s.kd)) (oS (.lst (s.ws.map dW))) (oS (.str q.1)) (oS (.int q.2)) f):=by unfold dM;rw[au (z:=pT q) rfl rfl (cQ hq)];rfl
 refine⟨_,_,rfl,(bT ea).trans ((aZ (yv (aU (aA rfl aO) (CY (by have:=gs.l4;omega) gs.nd)) rfl rfl K')).trans ((bH (mE (a5 (au (z:=.bl (decide ((lk s.ws q.1).getD 0=0))) rfl rfl rfl)) (mE (a5 (au (z:=.bl (decide (q.2<0))) rfl rfl rfl)) (a5 (au (z:=.bl (decide (h<q.2+(lk s.ws q.1).getD 0))) .(G) (au rfl rfl (ixL _ 6)) rfl))))).trans ?_)),oS .(u),oS (.str s.kd),oS (.lst (s.ws.map dW)),oS (.str q.1),oS (.int q.2),oS (.int ((lk s.ws q.1).getD 0)),rfl⟩;unfold gq;rw[hq];dsimp only;cases hw:lk s.ws q.1 with
 |none=>rfl
 |some n=>
  have hn:=(gs.ws _ (iR hw)).2.1;have eb:(decide ((aa n).getD 0=0) || (decide (q.2<0) || decide (h<q.2+(aa n).getD 0)))=decide (q.2<0\/h<q.2+n):=by dsimp only[Fg];rw[qM (show ¬n=0 by omega),yW,←Sv]
  rw[eb];dsimp only;by_cases h1:q.2<0\/h<q.2+n
  .rw[qX h1,qR h1];rfl
  .rw[qY h1,qM h1];rfl
theorem Pc:(eJ ss P).length<=ss.length:=by unfold eJ;rw[qg];exact na _ _
theorem Jh:(dj ss P).length<=P.length:=by unfold dj;rw[qg];exact na _ _
noncomputable def duR:FS:=(ax (bD (itF (b2 ixD (vSh 1) .(c))) (bJ 3 (aJ (ay 5) (aJ (ay 6) (aJ (ay 7) bI)))) dwB) (aE (b2 ixD (b2 aK (cF uv (ae (vSh 0) .(K))) (aH (szF (ae (vC .non) aj)))) .(d))))
theorem Nm (g:Good bs ss js us ls ks h) (p:PlanOk P):∀x∈eJ ss P++fg (dj ss P),bf x=ai:=fun x hx=>by
 rcases dn.mp hx with q|q
 .unfold eJ at q;obtain⟨s,hs,rfl⟩:=bw.mp q;exact(g.s s (gw.mp hs).1).nm
 .have m:=(kK (dj ss P) leS).mem_iff.mp q;unfold dj at m;obtain⟨w,hw,rfl⟩:=bw.mp m;exact p.kn w (gw.mp hw).1
theorem xk (g:Good bs ss js us ls ks h) (p:PlanOk P) {t:D} (hk:(∃x,(eJ ss P++fg (dj ss P)).head?=aa x/\t=stT x)\/((eJ ss P++fg (dj ss P))=[]/\duR (duE P .(a) ss ab ab ab ab ab ab)=aa (.rt t,ρ'))):mB [pD P,aF bs ss js us ls ks h]=aa t:=by
 have lm:=Pc (ss:=ss) (P:=P);have lg:=Jh (ss:=ss) (P:=P);have l1:=g.sl.2;have l2:=p.ln;have lq:(fg (dj ss P)).length=(dj ss P).length:=(kK _ leS).length_eq;have em:aH (a9 (itF (vSh 2)) (ay 0) (toB (b2 mo (vSh 0) (vSh 1))) (vSh 0) [ab,aa 0]) [oS (pD P),oS .(a),oS (.lst ((ss.map (·.nm)).map D.str)),ab,ab,ab,ab,ab,ab,ab,ab]=aa (.lst ((eJ ss P).map D.str)):=by
  refine kj ((kW (xs:=ss.map fun s=>D.str s.nm) (cI (by rw[show(ss.map fun s=>D.str s.nm)=(ss.map (·.nm)).map D.str from(qp ..).symm];rfl)) (by rw[qg];omega) rfl (n4 (d:=fun s:StepT=>D.str s.nm) (p:=fun s=>!(lk P s.nm).isSome) (r:=fun s=>D.str s.nm) (fun ρ=>∃a,ρ=[a,oS (pD P)]) ss _ (fun s hs ρ hI=>by obtain⟨a,rfl⟩:=hI;exact⟨_,rfl,a5 (au rfl rfl Co),fun _=>rfl,_,rfl⟩) ⟨_,rfl⟩)).trans ?_)
  unfold eJ;rw[qp];rfl
 have es:cF ut (ae (aH (a9 (itK (vSh 0)) (ay 0) (toB (b2 fV (vSh 0) (vSh 1))) (vSh 0) [ab,aa 2])) aj) [oS (pD P),oS .(a),oS (.lst ((ss.map (·.nm)).map D.str)),oS (.lst ((eJ ss P).map D.str)),ab,ab,ab,ab,ab,ab,ab]=aa (.lst ((fg (dj ss P)).map D.str)):=by refine aU (aA (zN g p rfl rfl) aO) ?_;show(ie _).bind _=_;rw[tp];exact qX .(f)
 have ea:b2 aK (vSh 3) (vSh 4) (duE P .(a) ss ab ab ab ab ab ab)=aa (.lst ((eJ ss P++fg (dj ss P)).map D.str)):=by rw[gK];exact au rfl rfl (io (by rw[qg,qg];omega))
 have et:toB (b2 neA (b2 aK (vSh 3) (vSh 4)) (aH (szF aj))) (duE P .(a) ss ab ab ab ab ab ab)=aa (!(eJ ss P++fg (dj ss P)).isEmpty):=a5 (au ea rfl (Az (Nm g p)));rcases hk with⟨x,hx,rfl⟩|⟨hx,hk⟩
 .refine bM (n:=9) (ρ':=duE P .(a) ss ab ab ab ab ab ab) (ds:=[pD P,aF bs ss js us ls ks h]) [oS (pD P),oS .(a),ab,ab,ab,ab,ab,ab,ab,ab,ab] rfl ((aZ (tJ l1 rfl rfl)).trans ((aZ em).trans ((aZ es).trans ?_)));obtain⟨l,hl⟩:=List.head?_eq_some_iff.mp hx;rw[hl] at et ea;exact j6 et (bS (dw rfl (au ea rfl (ixL _ 0))))
 .refine bM (n:=9) (ρ':=ρ') (ds:=[pD P,aF bs ss js us ls ks h]) [oS (pD P),oS .(a),ab,ab,ab,ab,ab,ab,ab,ab,ab] rfl ((aZ (tJ l1 rfl rfl)).trans ((aZ em).trans ((aZ es).trans ?_)));rw[hx] at et;exact(fO et).trans hk
theorem wk (hs:fQ ss P=ab):eJ ss P++fg (dj ss P)=[]:=by unfold fQ at hs;rw[Option.map_eq_none_iff,←oZ] at hs;exact List.head?_eq_none_iff.mp hs
theorem uI (hs:fQ ss P=ab):∀s∈ss,(lk P s.nm).isSome=ai:=fun s hm=>by
 have e:=(List.append_eq_nil_iff.mp (wk hs)).1;unfold eJ at e;rw[List.map_eq_nil_iff,FD] at e;have:=e s hm;cases q:(lk P s.nm).isSome with
 |true=>rfl
 |false=>rw[q] at this;exact bN rfl this
theorem Oh (g:Good bs ss js us ls ks h) (p:PlanOk P) {t:D} (ht:(fQ ss P).or (ss.findSome? (gq h P))=aa t):mB [pD P,aF bs ss js us ls ks h]=aa t:=by
 cases hs:fQ ss P with
 |some d=>
  rw[hs] at ht;cases ht;unfold fQ at hs;rw[←oZ] at hs;obtain⟨x,hx,rfl⟩:=oMd hs;exact xk (ρ':=[]) g p (.inl ⟨x,hx,rfl⟩)
 |none=>
  rw[hs] at ht;obtain⟨ρ',e1,_⟩:=zS g (uI hs);rw[show ss.findSome? (gq h P)=aa t from ht] at e1;exact xk g p (.inr ⟨wk hs,Bb ((cR (cI (au rfl rfl (ixL _ 1)))).trans e1)⟩)
theorem IU (g:Good bs ss js us ls ks h) (p:PlanOk P) (f:Fine bs ss P E) (hs:fQ ss P=ab) (hw:ss.findSome? (gq h P)=ab):mB [pD P,aF bs ss js us ls ks h]=aa (((wsh bs ss js us ls ks P E).head?).getD .non):=by
 obtain⟨ρ',e1,a,b,c,d,e,f',rfl⟩:=zS g (uI hs);rw[hw] at e1;refine xk g p (.inr ⟨wk hs,(bT ((cR (cI (au rfl rfl (ixL _ 1)))).trans e1)).trans (bS (au (au (aU .(n) (IY g p f)) rfl (io ?_)) rfl ((ixL _ 0).trans ?_)))⟩)
 .unfold wsh w3 w2;have l1:((ss.filter (nK js P E)).map pc).length<=40:=by rw[qg];exact qL (na _ _) g.sl.2
  have l1':((ss.filter (oB bs P E)).map sQ).length<=40:=by rw[qg];exact qL (na _ _) g.sl.2
  have l2:=tl1 ((prS ss).findSome? (bnV us P E));have l3:(js.filterMap (apJ P E)).length<=js.length:=FC _ _;have l4:=g.jl;have l5:=tl1 (ls.findSome? (lkV P E));have l6:=tl1 (ks.findSome? (skV P E));simp only[qk,qU];omega
 .cases wsh bs ss js us ls ks P E<;>rfl
end
section
variable {bs:ac BenchT} {P:bc}
theorem KY {s:StepT} (e:fR P s=aa q):q.1=s.nm:=by unfold fR at e;obtain⟨a,_,e⟩:=oBd e;obtain⟨b,_,rfl⟩:=oMd e;rfl
theorem Ed (P:bc):∀ss:ac StepT,SB ((bU ss P).map (·.1)) (ss.map (·.nm))
 |[]=>.slnil
 |s::ss=>by
  have ih:=Ed P ss;unfold bU at ih ⊢;rw[rm,qo];cases e:fR P s with
  |none=>exact .cons _ ih
  |some q=>
   show SB (q.1::_) _;rw[KY e];exact .cons_cons _ ih
theorem AI (nd:(ss.map (·.nm)).Nodup) {s:StepT} (hs:s∈ss) {n:ag} (hq:lk P s.nm=aa q) (hn:lk s.ws q.1=aa n):lk (bU ss P) s.nm=aa (q.2+n):=
 mG ((Ed P ss).nodup nd) (ro.mpr ⟨s,hs,by unfold fR;rw[hq,qc,hn];rfl⟩)
noncomputable def plc (ss:ac StepT) (P:bc):ac StepT:=ss.filter fun s=>(lk P s.nm).isSome
theorem j4 {s:StepT} (hs:s∈plc ss P):s∈ss:=(gw.mp hs).1
theorem vQ (g:Good bs ss js us ls ks h) (o:OnB ss P):Tld (plc ss P) P (bU ss P) where
 p s hs:=g0.mp (gw.mp hs).2
 e s hs:=by obtain⟨q,hq⟩:=g0.mp (gw.mp hs).2;obtain⟨n,hn⟩:=g0.mp (o s (j4 hs) q hq);exact⟨_,AI g.sn (j4 hs) hq hn⟩
theorem sI (g:Good bs ss js us ls ks h) (o:OnB ss P) {s:StepT} (hs:s∈plc ss P):stt P s.nm<ent (bU ss P) s.nm/\∃b∈bs,b.nm=bnt P s.nm:=by
 obtain⟨q,hq⟩:=g0.mp (gw.mp hs).2;obtain⟨n,hn⟩:=g0.mp (o s (j4 hs) q hq);have w:=(g.s s (j4 hs)).ws _ (iR hn);constructor
 .unfold stt ent;rw[hq,AI g.sn (j4 hs) hq hn];show q.2<q.2+n;have:1<=n:=w.2.1;omega
 .unfold bnt;rw[hq];exact bw.mp w.1
theorem NQ (g:Good bs ss js us ls ks h) (hs:fQ ss P=ab) (hw:ss.findSome? (gq h P)=ab):Fine bs ss P (bU ss P):=by
 have all:=uI hs;have o:OnB ss P:=fun s hs q hq=>by
  have:=Su.mp hw s hs;unfold gq at this;rw[hq] at this;dsimp only at this;cases e:lk s.ws q.1 with
  |some n=>rfl
  |none=>rw[e] at this;cases this
 have e:plc ss P=ss:=List.filter_eq_self.mpr all;have T:=vQ g o;rw[e] at T;exact⟨T,rfl,o,fun s hs=>(sI g o (e.symm▸hs)).1,fun s hs=>(sI g o (e.symm▸hs)).2⟩
theorem Ow (g:Good bs ss js us ls ks h) (p:PlanOk P) (hl:ss.length<=20):∃o,om [aR bs ss js us ls ks h,pD P]=aa (o.getD .non)/\mB [pD P,aF bs ss js us ls ks h]=aa (o.getD .non)/\GO o:=by
 have go:=(sy (js:=js) g p).or (DV g (P:=P));cases e:(fQ ss P).or (ss.findSome? (gq h P)) with
 |some t=>exact⟨aa t,MT g p uI e,Oh g p e,e▸go⟩
 |none=>
  obtain⟨hs,hw⟩:=Option.or_eq_none_iff.mp e;have f:=NQ g hs hw;refine⟨_,HK g p hl f hs hw,IU g p f hs hw,?_⟩;rw[Di];exact(((((Dr g).or (BL g)).or (C8 g)).or (CW g)).or (AS g)).or (PF g)
theorem GO.ne {o:ar D} (g:GO o):neA (o.getD .non) (o.getD .non)=aa (.bl aq):=by
 cases o with
 |none=>rfl
 |some d=>exact(g d rfl).ne
theorem Qh (hq:bf q.1=ai):eqX (pT q) (pT q)=aa ai:=by unfold eqX;rw[show pdD (pT q)=aa (.tuple [.str q.1,.int q.2]) by simp[pT,pdD,gm],qc,qc,qX (by simp[dH,jT,jQ,o9 hq,kL,nj])];simp[hV,kN]
theorem AE (P:bc) (hb:∀q∈P,bf q.2.1=ai) (nd:(P.map (·.1)).Nodup):∀R:bc,(∀q∈R,q∈P)->mq (tb pT P) (tb pT R)=aa ai
 |[],_=>rfl
 |q::R,hR=>by
  have ih:=AE P hb nd R fun x hx=>hR x (.tail _ hx);have e:ck (tb pT P) (.inr q.1)=aa (pT q.2):=by rw[gv,mG nd (hR q (.head _))];rfl
  show(match ck (tb pT P) (.inr q.1) with
   |none=>aa aq
   |some y=>(eqX (pT q.2) y).bind fun e=>(mq (tb pT P) (tb pT R)).map (e && ·))=aa ai
  rw[e];dsimp only;rw[Qh (hb q (hR q (.head _))),ih];rfl
theorem JV (p:PlanOk P):pA (pD P) (pD P)=aa (.bl aq):=by
 show(ph (pD P) (pD P)).map _=_;have e:ph (pD P) (pD P)=aa ai:=by show(if (tb pT P).length=(tb pT P).length then mq (tb pT P) (tb pT P) else aa aq)=_;rw[qX rfl];exact AE P p.bn p.nd P fun _ h=>h
 rw[e];rfl
end
structure PlanN (n:al) (P:bc):Prop where
 nd:(P.map (·.1)).Nodup
 ln:P.length<=n
 kn:∀q∈P,bf q.1=ai
 bn:∀q∈P,bf q.2.1=ai
section
variable {bs:ac BenchT} {P:bc}
theorem nN {l:ac (ak×α)} {k:ak} {v:α} {q:ak×α} (h:q∈pt l k v):q=(k,v)\/q∈l:=by
 unfold pt at h;split at h
 .obtain⟨x,hx,e⟩:=bw.mp h;split at e
  .rename_i z;rw[←e,z];exact .inl rfl
  .rw[←e];exact .inr hx
 .rcases dn.mp h with z|z
  .exact .inr z
  .exact .inl (bX.mp z)
theorem P3 {l:ac (ak×α)} {k:ak} {v:α} (h:(lk l k).isSome=ai):(pt l k v).length=l.length:=by
 unfold pt;rw[qX (o0.mpr (by
  by_cases z:k∈l.map (·.1)
  .exact z
  .rw[sB.mpr z] at h;cases h)),qg]
theorem PlanN.pt (p:PlanN n P) {k:ak} {v:ak×ag} (hk:bf k=ai) (hv:bf v.1=ai):PlanN (n+1) (pt P k v):=
 ⟨Ao p.nd,qL JG (Nat.succ_le_succ p.ln),fun q hq=>(nN hq).elim (fun e=>by rw[e];exact hk) (p.kn q),fun q hq=>(nN hq).elim (fun e=>by rw[e];exact hv) (p.bn q)⟩
theorem PlanN.old (p:PlanN n P) {k:ak} {v:ak×ag} (h:(lk P k).isSome=ai) (hk:bf k=ai) (hv:bf v.1=ai):PlanN n (Law.pt P k v):=
 ⟨Ao p.nd,(P3 h).symm▸p.ln,fun q hq=>(nN hq).elim (fun e=>by rw[e];exact hk) (p.kn q),fun q hq=>(nN hq).elim (fun e=>by rw[e];exact hv) (p.bn q)⟩
theorem PlanN.dp (p:PlanN n P) (k:ak):PlanN n (dp P k):=
 ⟨Ir k p.nd,qL (na _ _) p.ln,fun q hq=>p.kn q (gw.mp hq).1,fun q hq=>p.bn q (gw.mp hq).1⟩
theorem PlanN.up (p:PlanN n P) {m:al} (h:n<=m):PlanN m P:=⟨p.nd,qL p.ln h,p.kn,p.bn⟩
theorem PlanN.ok (p:PlanN n P) (h:n<=20):PlanOk P:=⟨p.nd,qL p.ln h,p.kn,p.bn⟩
theorem JL {f:α->D} {l:ac α} (h:l≠[]):∃x∈l,ixD (.lst (l.map f)) (.int (-1))=aa (f x):=by have hl:0<l.length:=zH.mpr h;refine⟨l[l.length-1],rQ _,?_⟩;show atI (l.map f) (-1)=_;unfold atI ixN;rw[qY .(g),qX (by rw[qg];omega),qc,qg,show(-1+(l.length:ag)).toNat=l.length-1 by omega,ql,qC .(f)];rfl
theorem Ic (c:ag) (h:vSh 2 ρ=aa (.int c)):∃x,b2 aK (vC (.str "zz")) (b2 cv (vC (.str "y")) (b2 bz (vSh 2) .(i))) ρ=aa (.str x)/\bf x=ai:=by
 rcases SC c with e|e
 .exact⟨_,au rfl (au rfl (au h rfl ((c8 .(g)).trans (by rw[e]))) rfl) rfl,by decide +kernel⟩
 .exact⟨_,au rfl (au rfl (au h rfl ((c8 .(g)).trans (by rw[e]))) rfl) rfl,by decide +kernel⟩
theorem Gi (c:ag) (h:vSh 2 ρ=aa (.int c)):∃x,slF (vC (.str "zx")) pN (pS (b2 aK .(c) (b2 bz (b2 dA (vSh 2) .(i)) .(i)))) ρ=aa (.str x)/\bf x=ai:=by
 have k:∀d,b2 aK .(c) (b2 bz (b2 dA (vSh 2) .(i)) .(i)) ρ=aa (.int d)->slF (vC (.str "zx")) pN (pS (b2 aK .(c) (b2 bz (b2 dA (vSh 2) .(i)) .(i)))) ρ=mr ab (aa d) (.str "zx"):=fun d e=>by unfold slF pS;rw[e];rfl
 rcases SC (c / 2) with e|e
 .exact⟨_,(k _ (au rfl (au (au h rfl (mR .(g))) rfl ((c8 .(g)).trans (by rw[e]))) rfl)).trans rfl,by decide +kernel⟩
 .exact⟨_,(k _ (au rfl (au (au h rfl (mR .(g))) rfl ((c8 .(g)).trans (by rw[e]))) rfl)).trans rfl,by decide +kernel⟩
noncomputable abbrev chE (P:bc) (L:D) (c:ag) (Q:bc) (a b d e f i j k:ar Slot):bj:=[oS (pD P),oS L,oS (.int c),aa (.odk (tb pT Q)),a,b,d,e,f,i,j,k]
theorem uJ {l:ac D} {i:ag} {x:D} (h:0<=i) (e:l[i.toNat]?=aa x):ixD (.lst l) (.int i)=aa x:=by have:=ixL l i.toNat;rw[Int.toNat_of_nonneg h] at this;rw[this,e]
end
noncomputable def chU:FS:=.(A)
noncomputable def chT:FS:=(ax (dM (bJ 2 (aJ (ay 9) (aJ (ay 10) bI))) (nR 3 (vSh 6))) (ax .(Z) (ax .(ac) (ax (eK 3 (vSh 6) (b2 ixD (vSh 11) (b2 ixD (vSh 5) .(c)))) chU))))
noncomputable def chB:FS:=(ax (aG 5 (cF dQ .(R))) (ax (dM (bJ 3 (aJ (ay 6) (aJ (ay 7) (aJ (ay 8) bI)))) (b2 ixD (b2 ixD (vSh 1) .(c)) (b2 ixD (vSh 5) .(d)))) (sIf (pr 3 (toB (b2 gA (vSh 6) (vSh 3)))) chT aP)))
section
variable {bs:ac BenchT} {P Q:bc}
theorem tZ {f:FA} {l:ac D} (h:f ρ=aa l) (hl:l.length<=1000):szF f ρ=aa l:=by unfold szF;rw[h];exact qX (szN hl .(g))
theorem v7 {c:ag} {a b d e f i j k:ar Slot} {fv:FE} {v:ak×ag} (hv:fv (chE P L c Q a b d e f i j k)=aa (pT v)) (hk:fk (chE P L c Q a b d e f i j k)=aa (.str x)) (hl:Q.length<=100):eK 3 fk fv (chE P L c Q a b d e f i j k)=aa (.nx,chE P L c (pt Q x v) a b d e f i j k):=pQ (i:=3) (f:=pT) rfl hv hk .(f)
theorem eqi (a b:ag):eqD (.int a) (.int b)=aa (.bl (decide (a=b))):=rfl
theorem ID {c st:ag} {ds:ac ag} {bn:ak} {a d e f k:ar Slot} (p:PlanN n Q) (hn:n<=50) (h1:ds[1]?=aa d1) (h2:ds[2]?=aa d2) (hx:(lk Q x).isSome=ai) (hb:bf bn=ai) :
  ∃Q',chU .(S)=aa (.nx,chE P L c Q' a (oS .(k)) (oS (.str x)) e f (oS (.str bn)) (oS (.int st)) k)/\PlanN (n+2) Q':=by
 have t:∀m:ag,∀Q,cD (toB (b2 eqD (b2 ixD (vSh 5) .(i)) (vC (.int m)))) (toB (b2 eqD (b2 ixD (vSh 5) .(c)) (vC (.int 6)))) .(S)=aa (decide (d2=m) && decide (d1=6)):=fun m Q=>by
  have t1:toB (b2 eqD (b2 ixD (vSh 5) .(i)) (vC (.int m))) .(S)=aa (decide (d2=m)):=a5 (au (cw (n:=2) rfl h2) rfl (eqi _ _));have t2:toB (b2 eqD (b2 ixD (vSh 5) .(c)) (vC (.int 6))) .(S)=aa (decide (d1=6)):=a5 (au (cw (n:=1) rfl h1) rfl (eqi _ _));cases e:decide (d2=m) with
  |false=>rw[e] at t1;exact jy t1
  |true=>rw[e] at t1;exact ib t1 t2
 have s1:∃Q1,sIf (cD (toB (b2 eqD (b2 ixD (vSh 5) .(i)) (vC (.int 11)))) (toB (b2 eqD (b2 ixD (vSh 5) .(c)) (vC (.int 6))))) (o4 3 (vSh 6)) aP .(S)=aa (.nx,chE P L c Q1 a (oS .(k)) (oS (.str x)) e f (oS (.str bn)) (oS (.int st)) k)/\PlanN n Q1:=by
  cases hz:decide (d2=11) && decide (d1=6) with
  |false=>exact⟨Q,(bH (t 11 Q)).trans (by rw[hz];rfl),p⟩
  |true=>
   refine⟨dp Q x,(bH (t 11 Q)).trans ?_,p.dp x⟩;rw[hz];show(if (ck (tb pT Q) (.inr x)).isSome=ai then aa (Fl.nx,List.set .(S) 3 (aa (.odk ((tb pT Q).filter fun kv=>decide (kv.1≠.inr x))))) else ab)=_;rw[qX (by rw[gv,nc];exact hx),JT];rfl
 obtain⟨Q1,e1,p1⟩:=s1;cases hz:decide (d2=10) && decide (d1=6) with
 |false=>exact⟨Q1,(bT e1).trans ((bH (t 10 Q1)).trans (by rw[hz];rfl)),p1.up .(f)⟩
 |true=>
  obtain⟨x1,k1,n1⟩:=Ic c (ρ:=chE P L c Q1 a (oS .(k)) (oS (.str x)) e f (oS (.str bn)) (oS (.int st)) k) rfl;have l1:=p1.ln;have p2:=p1.pt (k:=x1) (v:=(bn,st)) n1 hb;have l2:=p2.ln;obtain⟨x2,k2,n2⟩:=Gi c (ρ:=chE P L c (pt Q1 x1 (bn,st)) a (oS .(k)) (oS (.str x)) e f (oS (.str bn)) (oS (.int st)) k) rfl;exact⟨_,(bT e1).trans ((bH (t 10 Q1)).trans ((show _=_ by rw[hz];rfl).trans ((bT (v7 (v:=(bn,st)) (dw rfl rfl) k1 .(f))).trans (v7 (v:=(bn,st)) (dw rfl rfl) k2 .(f))))),p2.pt n2 hb⟩
theorem MA (g:Good bs ss js us ls ks h) {c:ag} {ds:ac ag} {s:StepT} (hs:s∈ss) {a i j k:ar Slot} (p:PlanN n Q) (hn:n<=50) (h1:ds[1]?=aa d1) (h2:ds[2]?=aa d2) (h3:ds[3]?=aa d3) (r1:0<=d1/\d1<7) (r3:0<=d3/\d3<bs.length) (hx:(lk Q s.nm).isSome=ai) :
  ∃Q' i' j' k',chT (chE P .(a) c Q a (oS .(k)) (oS .(u)) (oS (.str s.kd)) (oS (.lst (s.ws.map dW))) i j k)=aa (.nx,chE P .(a) c Q' a (oS .(k)) (oS .(u)) (oS (.str s.kd)) (oS (.lst (s.ws.map dW))) i' j' k')/\PlanN (n+2) Q':=by
 have zn:bf "zz"=ai:=by decide +kernel
 have gs:=g.s s hs;obtain⟨q,hq⟩:=g0.mp hx;have hqb:=p.bn _ (iR hq);obtain⟨w,hw,ew⟩:=JL (f:=dW) (l:=s.ws) (fun z=>by have:=gs.l1;rw[z] at this;cases this);obtain⟨b,hb⟩:∃b,bs[d3.toNat]?=aa b:=⟨_,qC (show d3.toNat<bs.length by omega)⟩;have wn:=g.bnn _ (gs.ws w hw).1;have bn:=(g.b b (qO hb)).nm;have ea:∀i j k,dM (bJ 2 (aJ (ay 9) (aJ (ay 10) bI))) (nR 3 (vSh 6)) (chE P .(a) c Q a (oS .(k)) (oS .(u)) (oS (.str s.kd)) (oS (.lst (s.ws.map dW))) i j k)=aa (.nx,chE P .(a) c Q a (oS .(k)) (oS .(u)) (oS (.str s.kd)) (oS (.lst (s.ws.map dW))) (oS (.str q.1)) (oS (.int q.2)) k):=fun i j k=>by
  unfold dM;rw[show nR 3 (vSh 6) (chE P .(a) c Q a (oS .(k)) (oS .(u)) (oS (.str s.kd)) (oS (.lst (s.ws.map dW))) i j k)=aa (pT q) by show ck (tb pT Q) (.inr s.nm)=_;rw[gv,hq];rfl]
  rfl
 obtain⟨v,hv⟩:∃v,([(q.1,q.2+d2-4),(q.1,q.2+1),(q.1,q.2-1),(b.nm,q.2),(w.1,if q.2-1 > 0 then q.2-1 else 0),("zz",q.2),(q.1,h-d2%3)]:ac (ak×ag))[d1.toNat]?=aa v:=⟨_,qC (show d1.toNat<7 by omega)⟩;have vn:bf v.1=ai:=by have m:=qO hv;simp only[qK,qI,or_false] at m;rcases m with rfl|rfl|rfl|rfl|rfl|rfl|rfl<;>first|exact hqb|exact bn|exact wn|exact zn
 have px:=p.old (v:=v) hx gs.nm vn;have l1:=p.ln;obtain⟨Q',e9,p9⟩:=ID (P:=P) (L:=aF bs ss js us ls ks h) (c:=c) (st:=q.2) (a:=a) (d:=ab) (e:=oS (.str s.kd)) (f:=oS (.lst (s.ws.map dW))) (k:=oS (.lst (([(q.1,q.2+d2-4),(q.1,q.2+1),(q.1,q.2-1),(b.nm,q.2),(w.1,if q.2-1 > 0 then q.2-1 else 0),("zz",q.2),(q.1,h-d2%3)]:ac (ak×ag)).map pT))) px hn h1 h2 (by rw[ye,qX rfl];rfl) hqb;refine⟨Q',_,_,_,(bT (ea i j k)).trans ((aZ (d:=.lst (([(q.1,q.2+d2-4),(q.1,q.2+1),(q.1,q.2-1),(b.nm,q.2)]:ac (ak×ag)).map pT)) ?_).trans ((aZ (d:=.lst (([(q.1,q.2+d2-4),(q.1,q.2+1),(q.1,q.2-1),(b.nm,q.2),(w.1,if q.2-1 > 0 then q.2-1 else 0),("zz",q.2),(q.1,h-d2%3)]:ac (ak×ag)).map pT)) (au (y:=.lst (([(w.1,if q.2-1 > 0 then q.2-1 else 0),("zz",q.2),(q.1,h-d2%3)]:ac (ak×ag)).map pT)) rfl ?_ (io (a:=([(q.1,q.2+d2-4),(q.1,q.2+1),(q.1,q.2-1),(b.nm,q.2)]:ac (ak×ag)).map pT) (b:=([(w.1,if q.2-1 > 0 then q.2-1 else 0),("zz",q.2),(q.1,h-d2%3)]:ac (ak×ag)).map pT) (show 4+3<=1000 by decide)))).trans ((bT (v7 (x:=s.nm) (v:=v) (au rfl (cw (n:=1) rfl h1) (uJ r1.1 (by rw[ql,hv];rfl))) rfl .(f))).trans e9))),p9⟩
 .refine kj (tZ (aA (dw rfl (au (au rfl (cw (n:=2) rfl h2) rfl) rfl rfl)) (aA (dw rfl .(G)) (aA (dw rfl .(G)) (aA (dw (au (au (au rfl rfl (ixL _ 0)) (cw (n:=3) rfl h3) (uJ r3.1 (x:=cm b) (by rw[ql,hb];rfl))) rfl cJ) rfl) aO)))) (show 4<=1000 by decide))
 .refine kj (tZ (aA (dw (au (au rfl (wb rfl rfl) ew) rfl cJ) (aU (aA rfl (aA .(G) aO)) rfl)) (aA (dw rfl rfl) (aA (dw rfl (au (au rfl rfl (ixL _ 6)) (au (cw (n:=2) rfl h2) rfl (c8 .(g))) rfl)) aO))) (show 3<=1000 by decide))
end
section
variable {bs:ac BenchT} {P Q:bc}
theorem GS (h:f ρ=aa d) (h2:gg d ρ=aa ρ'):dM gg f ρ=aa (.nx,ρ'):=by unfold dM;rw[h,qc,h2];rfl
theorem wp {l:ac D} (h:f ρ=aa (.lst l)):cF b9 (ae f aj) ρ=aa (.int (l.length:al)):=aU (aA h aO) rfl
theorem Go (g:Good bs ss js us ls ks h) {c:ag} {t:al} (ht:t<=10) (p:PlanN n Q) (hn:n<=50) {b d e f i j k:ar Slot} :∃Q' b' d' e' f' i' j' k',chB (chE P .(a) c Q (oS (.int (t:ag))) b d e f i j k)=aa (.nx,chE P .(a) c Q' (oS (.int (t:ag))) b' d' e' f' i' j' k')/\PlanN (n+2) Q':=by
 have l1:=g.sl;have l2:=g.bl;obtain⟨ds,e1,e2,e3⟩:=kX (c / 3) t .(f) [(ss.length:ag),7,12,(bs.length:ag)] (by simp;omega) (show 4<=100 by decide);obtain⟨d0,h0,a0,b0⟩:=e3 0 _ rfl;obtain⟨d1,h1,a1,b1⟩:=e3 1 _ rfl;obtain⟨d2,h2,a2,b2'⟩:=e3 2 _ rfl;obtain⟨d3,h3,a3,b3⟩:=e3 3 _ rfl;obtain⟨s,hs⟩:∃s,ss[d0.toNat]?=aa s:=⟨_,qC (show d0.toNat<ss.length by omega)⟩;have hsm:=qO hs;have ed:cF dQ .(R) (chE P .(a) c Q (oS (.int (t:ag))) b d e f i j k)=aa .(k):=by
  refine aU (aA (au rfl rfl (mR .(g))) (aA rfl (aA (kj (tZ (aA ((wp (au rfl rfl (ixL _ 1))).trans ?_) (aA rfl (aA rfl (aA ((wp (au rfl rfl (ixL _ 0))).trans ?_) aO)))) (show 4<=1000 by decide))) aO))) e1
  .rw[qg]
  .rw[qg]
 have ea:dM (bJ 3 (aJ (ay 6) (aJ (ay 7) (aJ (ay 8) bI)))) (b2 ixD (b2 ixD (vSh 1) .(c)) (b2 ixD (vSh 5) .(d))) (chE P .(a) c Q (oS (.int (t:ag))) (oS .(k)) d e f i j k)=aa (.nx,chE P .(a) c Q (oS (.int (t:ag))) (oS .(k)) (oS .(u)) (oS (.str s.kd)) (oS (.lst (s.ws.map dW))) i j k):=
  GS (d:=bA s) (au (au rfl rfl (ixL _ 1)) (cw (n:=0) rfl h0) (uJ a0 (by rw[ql,hs];rfl))) rfl
 have et:pr 3 (toB (b2 gA (vSh 6) (vSh 3))) (chE P .(a) c Q (oS (.int (t:ag))) (oS .(k)) (oS .(u)) (oS (.str s.kd)) (oS (.lst (s.ws.map dW))) i j k)=aa (lk Q s.nm).isSome:=by show toB (b2 gA (vSh 6) (vSh 3)) [_,_,_,_,_,_,_,_,_,_,_,_]=_;refine a5 (au rfl rfl ?_);show aa (D.bl (ck (tb pT Q) (.inr s.nm)).isSome)=_;rw[gv,nc]
 cases hx:(lk Q s.nm).isSome with
 |false=>
  rw[hx] at et;exact⟨Q,_,_,_,_,_,_,_,(aZ ed).trans ((bT ea).trans ((bH et).trans rfl)),p.up .(f)⟩
 |true=>
  rw[hx] at et;obtain⟨Q',i',j',k',e4,p4⟩:=MA (P:=P) (c:=c) (a:=oS (.int (t:ag))) (i:=i) (j:=j) (k:=k) g hsm p hn h1 h2 h3 ⟨a1,b1⟩ ⟨a3,b3⟩ hx;exact⟨Q',_,_,_,_,_,_,_,(aZ ed).trans ((bT ea).trans ((bH et).trans e4)),p4⟩
theorem GY (g:Good bs ss js us ls ks h) (p:PlanN n P) (hn:n<=10) (c:ag):∃Q,tY [pD P,aF bs ss js us ls ks h,.int c]=aa (pD Q)/\PlanN (n+4) Q:=by
 have hc:(c%3).toNat<=2/\0<=c%3/\c%3<3:=by omega
 obtain⟨ρ',e1,Q,a,b,d,e,f,i,j,k,h1,p1⟩:=dv (gg:=ay 4) (body:=chB) (xs:=(cP (c%3).toNat).map fun i:al=>D.int (0+i)) (ρ:=chE P .(a) c P ab ab ab ab ab ab ab ab)
  (fun m ρ=>∃Q a b d e f i j k,ρ=chE P .(a) c Q a b d e f i j k/\PlanN (n+2*m) Q) ⟨P,ab,ab,ab,ab,ab,ab,ab,ab,rfl,p⟩ (fun m x ρ hx hI=>by obtain⟨Q,a,b,d,e,f,i,j,k,rfl,pq⟩:=hI;obtain⟨hm,rfl⟩:=Qc hx;obtain⟨Q',b',d',e',f',i',j',k',e2,p2⟩:=Go (P:=P) (c:=c) (t:=m) (b:=b) (d:=d) (e:=e) (f:=f) (i:=i) (j:=j) (k:=k) g .(f) pq .(f);exact⟨_,_,rfl,e2,Q',_,_,_,_,_,_,_,_,rfl,p2⟩)
 rw[qg,qS] at p1;subst h1;refine⟨Q,bM (n:=9) (ds:=[pD P,aF bs ss js us ls ks h,.int c]) [oS (pD P),oS .(a),oS (.int c),ab,ab,ab,ab,ab,ab,ab,ab,ab] rfl ((bT (ρ1:=chE P .(a) c P ab ab ab ab ab ab ab ab) rfl).trans ((bT ((cR ?_).trans e1)).trans ((pf rfl).trans (bS rfl)))),p1.up .(f)⟩;unfold itR;rw[aA (au rfl rfl (c8 .(g))) aO];exact nT ⟨hc.2.1,by omega⟩
noncomputable abbrev lpE (ns:ac ag) (L:D) (Q:bc) (a b c:ar Slot):bj:=[oS (.scr ns),oS (.int 23),oS L,aa (.odk (tb pT Q)),a,b,c]
theorem FY (g:Good bs ss js us ls ks h) (ns:ac ag):∃Q,ug [.scr ns,.int 23,aF bs ss js us ls ks h]=aa (pD Q)/\PlanN ss.length Q:=by
 have l1:=g.sl;have lh:=g.hh;obtain⟨ρ',e1,Q,a,b,c,h1,p1⟩:=dv (gg:=bJ 2 .(O)) (body:=.(I)) (xs:=(ss.map bA).mapIdx fun i d=>D.tup [.int i,d]) (ρ:=lpE ns .(a) [] ab ab ab)
  (fun i ρ=>∃Q a b c,ρ=lpE ns .(a) Q a b c/\PlanN i Q) ⟨[],ab,ab,ab,rfl,⟨.nil,qw _,(fun _ z=>by cases z),(fun _ z=>by cases z)⟩⟩ (fun i x ρ hx hI=>by obtain⟨Q,a,b,c,rfl,pq⟩:=hI;obtain⟨y,hy,rfl⟩:=mv hx;rw[ql] at hy;obtain⟨s,hs,rfl⟩:=oMd hy;have hi:i<ss.length:=(cX.mp hs).1;have gs:=g.s s (qO hs);have lw:=gs.l1;have lw4:=gs.l4;obtain⟨ds,e1,e2,e3⟩:=kX (ns.getD (23+i) 0) (i+31) .(f) [(s.ws.length:ag),40,9] (by simp;omega) (show 3<=100 by decide);obtain⟨d0,h0,a0,b0⟩:=e3 0 _ rfl;obtain⟨d1,h1,a1,b1⟩:=e3 1 _ rfl;obtain⟨w,hw⟩:∃w,s.ws[d0.toNat]?=aa w:=⟨_,qC (show d0.toNat<s.ws.length by omega)⟩;have wn:=g.bnn _ (gs.ws w (qO hw)).1;have lq:=pq.ln;have ec:=jZ ns (23+i);rw[show((23+i:al):ag)=23+(i:ag) by omega] at ec;rw[show((i+31:al):ag)=(i:ag)+31 by omega] at e1;refine⟨_,_,rfl,(aZ (d:=.lst (ds.map D.int)) (aU (aA (aU (aA rfl (aA .(G) aO)) ec) (aA .(G) (aA (kj (tZ (aA ((wp (au rfl rfl gT)).trans (by rw[qg])) .(n)) (show 3<=1000 by decide))) aO))) e1)).trans (pQ (i:=3) (f:=pT) (l:=Q) (x:=s.nm) (v:=(w.1,d1%(h+1))) rfl (dw (au (au (au rfl rfl gT) (cw (n:=0) rfl h0) (uJ a0 (x:=dW w) (by rw[ql,hw];rfl))) rfl cJ) (au (cw (n:=1) rfl h1) (au (au rfl rfl (ixL _ 6)) rfl rfl) (c8 .(f)))) (au rfl rfl cJ) .(f)),_,oS (.int i),oS (bA s),oS .(k),rfl,pq.pt gs.nm wn⟩)
 rw[kG,qg] at p1;subst h1;refine⟨Q,bM (n:=4) (ds:=[.scr ns,.int 23,aF bs ss js us ls ks h]) [oS (.scr ns),oS (.int 23),oS .(a),ab,ab,ab,ab] rfl ((bT (ρ1:=lpE ns .(a) [] ab ab ab) rfl).trans ((bT ((cR ?_).trans e1)).trans ((pf rfl).trans (bS rfl)))),p1⟩;unfold itE;rw[au (z:=.lst (ss.map bA)) rfl rfl (ixL _ 1)];rfl
end
section
variable {bs:ac BenchT} {P Q:bc}
theorem KI (g:Good bs ss js us ls ks h) (p:PlanN n P) (o:OnB ss P) {s t:StepT} (hs:s∈plc ss P) (ht:t∈plc ss P):∃b,mi [pD P,eD (bU ss P),aF bs ss js us ls ks h,.str s.nm,.str t.nm]=aa (.bl b):=by
 have T:=vQ g o;have en:=CI g T (fun x hx=>j4 hx) (fun u hu=>by have:=(g.u u hu).n;omega) (fun s hs=>(sI g o hs).1) hs ht (p.bn _ (iR (T.gp hs)));have ns:=(g.s s (j4 hs)).nm;have nt:=(g.s t (j4 ht)).nm;have tn:toB (cF kY (ae (vSh 0) (ae (vSh 1) (ae (vSh 2) .(ar))))) [oS (pD P),oS (eD (bU ss P)),oS .(a),oS .(u),oS (.str t.nm),ab]=aa (ly us P (bU ss P) (s,t)):=a5 (aU (aA rfl (aA rfl (aA rfl .(n)))) en);cases e:ly us P (bU ss P) (s,t) with
 |true=>
  rw[e] at tn;exact⟨aq,bM (n:=1) (ds:=[pD P,eD (bU ss P),aF bs ss js us ls ks h,.str s.nm,.str t.nm]) [oS (pD P),oS (eD (bU ss P)),oS .(a),oS .(u),oS (.str t.nm),ab] rfl (j6 tn rfl)⟩
 |false=>
  rw[e] at tn;obtain⟨ρ',e2⟩:=uC (gg:=ay 5) (body:=sIf (cD (toB (b2 fE (vSh 3) (b2 ixD (vSh 5) .(l)))) (toB (b2 fE (vSh 4) (b2 ixD (vSh 5) .(l))))) (sIf (toB (cF kP (ae (vSh 0) (ae (vSh 1) .(ar))))) .(J) aP) aP) (d:=ba) (v:=fun j:JobT=>if (decide (s.nm∈j.ms) && decide (t.nm∈j.ms) && kU P (bU ss P) s.nm t.nm)=ai then aa (D.bl aq) else ab) (e:=vC (.bl ai)) (z:=.bl ai) (fi:=itF (b2 ixD (vSh 2) .(i))) (ρ:=[oS (pD P),oS (eD (bU ss P)),oS .(a),oS .(u),oS (.str t.nm),ab]) js
   (fun ρ=>∃a,ρ=[oS (pD P),oS (eD (bU ss P)),oS .(a),oS .(u),oS (.str t.nm),a]) (cI (au rfl rfl (ixL _ 2))) (fun j hj ρ=>by
    rintro⟨a,rfl⟩;have mn:∀y∈j.ms,bf y=ai:=fun y hy=>g.snn y ((g.j j hj).ms y hy);refine⟨_,_,rfl,?_,oS (ba j),rfl⟩;have t1:toB (b2 fE (vSh 3) (b2 ixD (vSh 5) .(l))) [oS (pD P),oS (eD (bU ss P)),oS .(a),oS .(u),oS (.str t.nm),oS (ba j)]=aa (decide (s.nm∈j.ms)):=a5 (au rfl (au rfl rfl fF) (oA ns mn));have t2:toB (b2 fE (vSh 4) (b2 ixD (vSh 5) .(l))) [oS (pD P),oS (eD (bU ss P)),oS .(a),oS .(u),oS (.str t.nm),oS (ba j)]=aa (decide (t.nm∈j.ms)):=a5 (au rfl (au rfl rfl fF) (oA nt mn));have t3:toB (cF kP (ae (vSh 0) (ae (vSh 1) .(ar)))) [oS (pD P),oS (eD (bU ss P)),oS .(a),oS .(u),oS (.str t.nm),oS (ba j)]=aa (kU P (bU ss P) s.nm t.nm):=a5 (aU (aA rfl (aA rfl .(n))) (Bt T (bw.mpr ⟨s,hs,rfl⟩) (bw.mpr ⟨t,ht,rfl⟩)));cases e1:decide (s.nm∈j.ms) with
    |false=>rw[e1] at t1;exact(bH (jy t1)).trans rfl
    |true=>
     rw[e1] at t1;refine(bH (ib t1 t2)).trans ?_;cases e2:decide (t.nm∈j.ms) with
     |false=>rfl
     |true=>
      refine(bH t3).trans ?_;cases kU P (bU ss P) s.nm t.nm<;>rfl) ⟨_,rfl⟩ (fun ρ _=>rfl)
  rw[lL] at e2;refine⟨(js.find? fun j=>decide (s.nm∈j.ms) && decide (t.nm∈j.ms) && kU P (bU ss P) s.nm t.nm).isNone,bM (n:=1) (ρ':=ρ') (ds:=[pD P,eD (bU ss P),aF bs ss js us ls ks h,.str s.nm,.str t.nm]) [oS (pD P),oS (eD (bU ss P)),oS .(a),oS .(u),oS (.str t.nm),ab] rfl ((fO tn).trans (e2.trans ?_))⟩;cases js.find? fun j=>decide (s.nm∈j.ms) && decide (t.nm∈j.ms) && kU P (bU ss P) s.nm t.nm<;>rfl
theorem Ob (g:Good bs ss js us ls ks h) (p:PlanN n P) (hn:n<=100) (o:OnB ss P) (kk:∀q∈P,q.1∈ss.map (·.nm)) {s:StepT} (hs:s∈plc ss P):∃b,wP [pD P,aF bs ss js us ls ks h,.str s.nm]=aa (.bl b):=by
 have T:=vQ g o;obtain⟨b,hb,hbn⟩:=(sI g o hs).2;have e0:=vV g o;have lp:=p.ln;have t1:orT (toB (b2 gtD (b2 aW (vSh 3) (vSh 2)) (b2 ixD (vSh 1) (vC (.int 6))))) (orT (toB (cF nQ (ae (vSh 0) (ae (vSh 3) (ae (vSh 1) .(an)))))) (toB (cF oo (ae (vSh 0) (ae (vSh 3) (ae (vSh 1) .(an))))))) [oS (pD P),oS .(a),oS .(u),oS (eD (bU ss P)),ab]=aa (decide (h<ent (bU ss P) s.nm) || (jv b.br (stt P s.nm) (ent (bU ss P) s.nm) || ik js s.nm (stt P s.nm) (ent (bU ss P) s.nm))):=
  mE (a5 (au (au rfl rfl (eZ (T.ge hs))) (au rfl rfl (ixL _ 6)) rfl)) (mE (a5 (aU (aA rfl (aA rfl .(n))) (zW g T hs hb hbn.symm))) (a5 (aU (aA rfl (aA rfl .(n))) (Bk g (j4 hs) (T.gp hs) (T.ge hs)))))
 cases et:decide (h<ent (bU ss P) s.nm) || (jv b.br (stt P s.nm) (ent (bU ss P) s.nm) || ik js s.nm (stt P s.nm) (ent (bU ss P) s.nm)) with
 |true=>
  rw[et] at t1;exact⟨aq,bM (n:=2) (ds:=[pD P,aF bs ss js us ls ks h,.str s.nm]) [oS (pD P),oS .(a),oS .(u),ab,ab] rfl ((aZ (aU .(n) e0)).trans (j6 t1 rfl))⟩
 |false=>
  rw[et] at t1;obtain⟨ρ',e2⟩:=uC (gg:=ay 4) (body:=sIf (toB (b2 neA (vSh 4) (vSh 2))) (sIf (bC (toB (cF mi (ae (vSh 0) (ae (vSh 3) (ae (vSh 1) (ae (vSh 2) (ae (vSh 4) aj)))))))) .(J) aP) aP) (d:=fun q:ak×ak×ag=>D.str q.1) (v:=fun q=>if (!decide (q.1=s.nm) && (match mi [pD P,eD (bU ss P),aF bs ss js us ls ks h,.str s.nm,.str q.1] with
    |some (.bl b)=>!b
    |_=>aq))=ai then aa (D.bl aq) else ab) (e:=vC (.bl ai)) (z:=.bl ai) (fi:=itK (vSh 0)) (ρ:=[oS (pD P),oS .(a),oS .(u),oS (eD (bU ss P)),ab]) P
   (fun ρ=>∃a,ρ=[oS (pD P),oS .(a),oS .(u),oS (eD (bU ss P)),a]) D9 (fun q hq ρ=>by
    rintro⟨a,rfl⟩;obtain⟨t,ht,en⟩:=bw.mp (kk q hq);have htp:t∈plc ss P:=gw.mpr ⟨ht,by rw[en,mG p.nd (show(q.1,q.2)∈P from hq)];rfl⟩;obtain⟨b,eb⟩:=KI g p o hs htp;rw[en] at eb;refine⟨_,_,rfl,?_,oS (.str q.1),rfl⟩;have t1:toB (b2 neA (vSh 4) (vSh 2)) [oS (pD P),oS .(a),oS .(u),oS (eD (bU ss P)),oS (.str q.1)]=aa (!decide (q.1=s.nm)):=a5 (au rfl rfl (DQ _ _));rw[eb];cases e1:decide (q.1=s.nm) with
    |true=>rw[e1] at t1;exact(bH t1).trans rfl
    |false=>
     rw[e1] at t1;refine(bH t1).trans ((bH (tM (a5 (aU (aA rfl (aA rfl (aA rfl .(n)))) eb)))).trans ?_);cases b<;>rfl) ⟨_,rfl⟩ (fun ρ _=>rfl)
  rw[lL] at e2;refine⟨(P.find? fun q=>(!decide (q.1=s.nm) && (match mi [pD P,eD (bU ss P),aF bs ss js us ls ks h,.str s.nm,.str q.1] with
    |some (.bl b)=>!b
    |_=>aq))).isNone,bM (n:=2) (ρ':=ρ') (ds:=[pD P,aF bs ss js us ls ks h,.str s.nm]) [oS (pD P),oS .(a),oS .(u),ab,ab] rfl ((aZ (aU .(n) e0)).trans ((fO t1).trans (e2.trans ?_)))⟩
  generalize (P.find? fun q=>(!decide (q.1=s.nm) && (match mi [pD P,eD (bU ss P),aF bs ss js us ls ks h,.str s.nm,.str q.1] with
    |some (.bl b)=>!b
    |_=>aq)))=o
  cases o<;>rfl
end
theorem Ef (I:bj->Prop) (Q:D->Prop) (hf:fi ρ=aa xs) (h0:I ρ) (hs:∀x∈xs,∀ρ,I ρ->Wp (gg x ρ) fun ρ1=>Wp (g ρ1) fun r=>(r.1=.nx/\I r.2)\/∃d,r.1=.rt d/\Q d):Wp (bD fi gg g ρ) fun r=>(r.1=.nx/\I r.2)\/∃d,r.1=.rt d/\Q d:=by
 unfold bD;rw[hf,qc];clear hf
 induction xs generalizing ρ with
 |nil=>exact⟨_,rfl,.inl ⟨rfl,h0⟩⟩
 |cons x xs ih=>
  unfold fz;refine p7 ((hs x (.head _) ρ h0).imp fun ρ1 k=>p7 (k.imp ?_));rintro⟨fl,ρ2⟩ (⟨e,hI⟩|⟨d,e,hQ⟩)
  .have e:fl=.nx:=e;subst e;exact ih hI fun y hy=>hs y (.tail _ hy)
  .have e:fl=.rt d:=e;subst e;exact⟨_,rfl,.inr ⟨d,rfl,hQ⟩⟩
theorem LI {I:bj->Prop} {Q:D->Prop} (h:Wp (g ρ) fun r=>(r.1=.nx/\I r.2)\/∃d,r.1=.rt d/\Q d) (h2:∀ρ,I ρ->Wp (g' ρ) fun r=>∃d,r.1=.rt d/\Q d):Wp (ax g g' ρ) fun r=>∃d,r.1=.rt d/\Q d:=p7 (h.imp (by
 rintro⟨fl,ρ2⟩ (⟨e,hI⟩|⟨d,e,hQ⟩)
 .have e:fl=.nx:=e;subst e;exact h2 _ hI
 .have e:fl=.rt d:=e;subst e;exact⟨_,rfl,d,rfl,hQ⟩))
section
variable {bs:ac BenchT} {P Q:bc}
noncomputable abbrev lwE (L:D) (E:ac (ak×ag)) (x:ak) (m:ag) (a b c d e:ar Slot):bj:=[oS L,oS (eD E),oS (.str x),oS (.int m),a,b,c,d,e]
theorem Kp {G:D->FQ} (h1:f ρ=aa d) (h2:fr ρ=aa ds) (h3:G d ds=aa z):mF G f fr ρ=aa z:=by unfold mF;rw[h1,qc,h2];exact h3
theorem Be {a b:ag} (h1:fa ρ=aa (.int a)) (h2:fb ρ=aa (.int b)):cF gC (ae fa (ae fb aj)) ρ=aa (.int (if b > a then b else a)):=aU (aA h1 (aA h2 aO)) rfl
theorem OB (g:Good bs ss js us ls ks h) {M:ag} (hM:0<=M) (hE:∀k x,lk E k=aa x->0<=x/\x<=M) (hx:bf x=ai):∃m,sJ [aF bs ss js us ls ks h,eD E,.str x]=aa (.int m)/\0<=m/\m<=M+h:=by
 have hh:=g.hh;obtain⟨ρ1,e1,m1,a1,b1,c1,h1,r1⟩:=dv (gg:=bJ 3 (aJ (ay 4) .(ak))) (body:=(sIf (cD (toB (b2 eqA (vSh 5) (vSh 2))) (toB (b2 gA (vSh 4) (vSh 1)))) (aG 3 (cF gC (ae (vSh 3) (ae (b2 aK (b2 aW (vSh 1) (vSh 4)) (vSh 6)) aj)))) aP)) (xs:=ls.map cY) (ρ:=lwE .(a) E x 0 ab ab ab ab ab)
  (fun _ ρ=>∃m a b c,ρ=lwE .(a) E x m a b c ab ab/\0<=m/\m<=M+h) ⟨0,_,_,_,rfl,by omega,by omega⟩ (fun i y ρ hy hI=>by
   obtain⟨m,a,b,c,rfl,q0,q1⟩:=hI;rw[ql] at hy;obtain⟨l,hl,rfl⟩:=oMd hy;have gl:=(g.l l (qO hl)).g;have t1:toB (b2 eqA (vSh 5) (vSh 2)) (lwE .(a) E x m (oS (.str l.a)) (oS (.str l.b)) (oS (.int l.g)) ab ab)=aa (decide (l.b=x)):=a5 (au rfl rfl (yo _ _));have t2:toB (b2 gA (vSh 4) (vSh 1)) (lwE .(a) E x m (oS (.str l.a)) (oS (.str l.b)) (oS (.int l.g)) ab ab)=aa (lk E l.a).isSome:=a5 (au rfl rfl JY);cases e1:decide (l.b=x) with
   |false=>rw[e1] at t1;exact⟨_,_,rfl,(bH (jy t1)).trans rfl,m,_,_,_,rfl,q0,q1⟩
   |true=>
    rw[e1] at t1;cases e2:lk E l.a with
    |none=>rw[e2] at t2;exact⟨_,_,rfl,(bH (ib t1 t2)).trans rfl,m,_,_,_,rfl,q0,q1⟩
    |some z=>
     rw[e2] at t2;have hz:=hE _ _ e2;refine⟨_,_,rfl,(bH (ib t1 t2)).trans (jw (Be rfl (au (au rfl rfl (eZ e2)) rfl rfl))),_,_,_,_,rfl,?_,?_⟩<;>split<;>omega)
 subst h1;obtain⟨ρ2,e2,m2,d2,e2',h2,r2⟩:=dv (gg:=ay 7) (body:=(sIf (cD (toB (b2 ixD (vSh 7) .(j))) (toB (b2 fE (vSh 2) (b2 ixD (vSh 7) .(l))))) (bD (itF (slF (b2 ixD (vSh 7) .(l)) pN (pS (mF rg (b2 ixD (vSh 7) .(l)) .(an))))) (ay 8) (aG 3 (cF gC (ae (vSh 3) (ae (b3 ip (vSh 1) (vSh 8) .(d)) aj))))) aP)) (xs:=js.map ba) (ρ:=lwE .(a) E x m1 a1 b1 c1 ab ab)
  (fun _ ρ=>∃m d e,ρ=lwE .(a) E x m a1 b1 c1 d e/\0<=m/\m<=M+h) ⟨m1,_,_,rfl,r1⟩ (fun i y ρ hy hI=>by
   obtain⟨m,d,e,rfl,q0,q1⟩:=hI;rw[ql] at hy;obtain⟨j,hj,rfl⟩:=oMd hy;have gj:=g.j j (qO hj);have t1:toB (b2 ixD (vSh 7) .(j)) (lwE .(a) E x m a1 b1 c1 (oS (ba j)) e)=aa j.od:=a5 (au rfl rfl i0);have t2:toB (b2 fE (vSh 2) (b2 ixD (vSh 7) .(l))) (lwE .(a) E x m a1 b1 c1 (oS (ba j)) e)=aa (decide (x∈j.ms)):=a5 (au rfl (au rfl rfl fF) (oA hx fun y hy=>g.snn y (gj.ms y hy)));cases e1:j.od with
   |false=>rw[e1] at t1;exact⟨_,_,rfl,(bH (jy t1)).trans rfl,m,_,_,rfl,q0,q1⟩
   |true=>
    rw[e1] at t1;by_cases hm:x∈j.ms
    .rw[qR hm] at t2;have hlt:j.ms.findIdx (·==x)<j.ms.length:=List.findIdx_lt_length_of_exists ⟨x,hm,by simp⟩;obtain⟨ρ3,e3,m3,f3,h3,r3⟩:=dv (gg:=ay 8) (body:=(aG 3 (cF gC (ae (vSh 3) (ae (b3 ip (vSh 1) (vSh 8) .(d)) aj))))) (xs:=(j.ms.map D.str).take (j.ms.findIdx (·==x))) (ρ:=lwE .(a) E x m a1 b1 c1 (oS (ba j)) e)
      (fun _ ρ=>∃m f,ρ=lwE .(a) E x m a1 b1 c1 (oS (ba j)) f/\0<=m/\m<=M+h) ⟨m,_,rfl,q0,q1⟩ (fun k y ρ hy hI=>by
       obtain⟨m,f,rfl,q0,q1⟩:=hI;obtain⟨w,_,rfl⟩:=bw.mp (u9 (qO hy));have hz:0<=(lk E w).getD 0/\(lk E w).getD 0<=M:=by
        cases e:lk E w with
        |none=>exact⟨sj 0,hM⟩
        |some z=>exact hE _ _ e
       refine⟨_,_,rfl,jw (Be rfl (yv rfl rfl rfl Nb)),_,_,rfl,?_,?_⟩<;>split<;>omega)
     refine⟨_,_,rfl,(bH (ib t1 t2)).trans ((cR (cI ((tW (d:=(j.ms.findIdx (·==x):al)) (au rfl rfl fF) (Kp (au rfl rfl fF) (aA rfl aO) ?_) .(f)).trans (by rw[l0])))).trans (e3.trans (by rw[h3]))),m3,_,_,rfl,r3⟩;show(ie _).bind _=_;rw[tp];exact qX hlt
    .rw[qM hm] at t2;exact⟨_,_,rfl,(bH (ib t1 t2)).trans rfl,m,_,_,rfl,q0,q1⟩)
 subst h2;exact⟨m2,bM (n:=6) (ds:=[aF bs ss js us ls ks h,eD E,.str x]) [oS .(a),oS (eD E),oS (.str x),ab,ab,ab,ab,ab,ab] rfl ((aZ rfl).trans ((bT ((cR (cI (au rfl rfl (ixL _ 4)))).trans e1)).trans ((bT ((cR (cI (au rfl rfl (ixL _ 2)))).trans e2)).trans (bS rfl)))),r2⟩
end
structure BPlan (ss:ac StepT) (n:al) (B:ag) (P:bc):Prop where
 n:PlanN n P
 k:∀q∈P,q.1∈ss.map (·.nm)
 o:OnB ss P
 b:∀q∈P,0<=q.2.2/\q.2.2<=B
section
variable {bs:ac BenchT} {P Q:bc} {B:ag}
theorem C4 {o o':ar α} {P:α->Prop} (e:o=o') (h:Wp o' P):Wp o P:=e▸h
theorem IK (nd:(ss.map (·.nm)).Nodup) {s t:StepT} (hs:s∈ss) (ht:t∈ss) (e:s.nm=t.nm):s=t:=by
 induction ss with
 |nil=>cases hs
 |cons a l ih=>
  rw[qo,kD] at nd;rcases cM.mp hs with rfl|hs'<;>rcases cM.mp ht with rfl|ht'
  .rfl
  .exact bN (bw.mpr ⟨t,ht',e.symm⟩) nd.1
  .exact bN (bw.mpr ⟨s,hs',e⟩) nd.1
  .exact ih nd.2 hs' ht'
theorem BPlan.put (g:Good bs ss js us ls ks h) (p:BPlan ss n B P) {s:StepT} (hs:s∈ss) {w:ak×ag} (hw:w∈s.ws) {st B':ag} (h0:0<=st) (h1:st<=B') (hB:B<=B'):BPlan ss (n+1) B' (pt P s.nm (w.1,st)) where
 n:=p.n.pt (g.s s hs).nm (g.bnn _ ((g.s s hs).ws w hw).1)
 k q hq:=(nN hq).elim (fun e=>by rw[e];exact bw.mpr ⟨s,hs,rfl⟩) (p.k q)
 o t ht q hq:=by
  rw[ye] at hq;split at hq
  .rename_i e;cases hq;have e:=IK g.sn ht hs e;subst e;rw[mG (g.s t ht).nd (show(w.1,w.2)∈t.ws from hw)];rfl
  .exact p.o t ht q hq
 b q hq:=(nN hq).elim (fun e=>by rw[e];exact⟨h0,h1⟩) fun m=>⟨(p.b q m).1,zG (p.b q m).2 hB⟩
noncomputable abbrev puE (P:bc) (L:D) (s:StepT) (m:ag) (a b c d:ar Slot):bj:=[oS (pD P),oS L,oS (bA s),oS (.int m),a,b,c,d]
theorem Ll (g:Good bs ss js us ls ks h) (p:BPlan ss n B P) (hn:n<=50) {s:StepT} (hs:s∈ss) {m:ag} (m0:0<=m) (m1:m<=500000):Wp (sX [pD P,aF bs ss js us ls ks h,bA s,.int m]) fun d=>∃w st,d=pD (pt P s.nm (w,st))/\(∃l,(w,l)∈s.ws)/\0<=st/\st<=m+40:=by
 have gs:=g.s s hs;have hh:=g.hh;have hr:0<=m/\m<=1000000/\0<=(if m+40<h then m+40 else h)/\(if m+40<h then m+40 else h)<=1000000:=by refine⟨m0,by omega,?_⟩;split<;>omega
 have cp:∀{a b c d:ar Slot} {w:ak} {st:ag} {fb fs:FE} {R:FS},fb (puE P .(a) s m a b c (aa (.odk (tb pT P))))=aa (.str w)->fs (puE P .(a) s m a b c (aa (.odk (tb pT P))))=aa (.int st)->ax (oe 7 (vSh 0)) (ax (eK 7 (b2 ixD (vSh 2) .(d)) (aT (szF (ae fb (ae fs aj))))) (iC 7 R)) (puE P .(a) s m a b c d)=R (puE P .(a) s m a b c (oS (pD (pt P s.nm (w,st))))):=fun {a b c d w st fb fs R} e1 e2=>
  (bT (ρ1:=puE P .(a) s m a b c (aa (.odk (tb pT P)))) rfl).trans ((bT (pQ (i:=7) (f:=pT) (l:=P) (x:=s.nm) (v:=(w,st)) rfl (dw e1 e2) (au rfl rfl cJ) (by have:=p.n.ln;omega))).trans (pf rfl))
 refine Kw (LI (I:=fun ρ=>∃a b c d,ρ=puE P .(a) s m a b c d) (Ef (fun ρ=>∃a b c d,ρ=puE P .(a) s m a b c d) _ (xs:=s.ws.map dW) (cI (au rfl rfl gT)) ⟨ab,ab,ab,ab,rfl⟩ ?_) ?_)
 .rintro x hx ρ ⟨a,b,c,d,rfl⟩;obtain⟨w,hw,rfl⟩:=bw.mp hx;refine⟨_,rfl,?_⟩;refine(Ef (fun ρ=>∃c d,ρ=puE P .(a) s m (oS (.str w.1)) (oS (.int w.2)) c d) (fun d=>∃w st,d=pD (pt P s.nm (w,st))/\(∃l,(w,l)∈s.ws)/\0<=st/\st<=m+40) (mI (aA rfl (aA (aU (aA (au rfl rfl (ixL _ 6)) (aA .(G) aO)) rfl) aO)) (Ap hr)) ⟨c,d,rfl⟩ ?_).imp fun r k=>k.imp (fun⟨e,c,d,q⟩=>⟨e,_,_,c,d,q⟩) id;rintro y hy ρ ⟨c,d,rfl⟩;obtain⟨k,hk,rfl⟩:=bw.mp hy;rw[eV] at hk;have hst:m+(k:ag)<=m+40:=by split at hk<;>omega
  refine⟨_,rfl,?_⟩;have p':=p.put g hs hw (st:=m+k) (B':=max B (m+40)) .(f) .(f) .(f);obtain⟨b,eb⟩:=Ob g p'.n .(f) p'.o p'.k (s:=s) (gw.mpr ⟨hs,by rw[ye,qX rfl];rfl⟩);refine C4 (cp (a:=oS (.str w.1)) (b:=oS (.int w.2)) (c:=oS (.int (m+k))) (d:=d) (w:=w.1) (st:=m+k) rfl rfl) ?_;refine HR (Nv (a5 (aU (aA rfl (aA rfl (aA (au rfl rfl cJ) aO))) eb)) ?_);cases b with
  |false=>exact⟨_,rfl,.inl ⟨rfl,_,_,rfl⟩⟩
  |true=>exact⟨_,rfl,.inr ⟨_,rfl,w.1,_,rfl,⟨w.2,hw⟩,by omega,hst⟩⟩
 .rintro ρ ⟨a,b,c,d,rfl⟩;obtain⟨w,l,hwl⟩:∃w l,s.ws=w::l:=List.exists_cons_of_length_pos gs.l1;refine C4 (cp (w:=w.1) (st:=m) (au (au (au rfl rfl gT) rfl ((ixL _ 0).trans (by rw[hwl];rfl))) rfl (cJ (x0:=.str w.1) (r:=[.int w.2]))) rfl) ?_;exact⟨_,rfl,_,rfl,w.1,m,rfl,⟨w.2,by rw[hwl];exact .head _⟩,m0,by omega⟩
end
section
variable {bs:ac BenchT} {P Q:bc} {B:ag}
theorem M' (g:Good bs ss js us ls ks h) (hb:∀q∈P,0<=q.2.2/\q.2.2<=B) {k:ak} {x:ag} (hk:lk (bU ss P) k=aa x):0<=x/\x<=B+h:=by obtain⟨s,hs,e⟩:=ro.mp (iR hk);unfold fR at e;obtain⟨q,hq,e⟩:=oBd e;obtain⟨l,hl,e⟩:=oMd e;cases e;have:=hb _ (iR hq);have:=((g.s s hs).ws _ (iR hl)).2;dsimp only at *;omega
theorem JM (g:Good bs ss js us ls ks h) (hh:h<=1000) (hl:ss.length<=20):∃P,xT [aF bs ss js us ls ks h]=aa (pD P)/\PlanN ss.length P:=by
 have hh1:=g.hh;obtain⟨ρ',e1,P,a,b,h1,p1⟩:=dv (gg:=ay 2) (body:=(ax (aG 3 (cF sJ (ae (vSh 0) (ae (cF nV (ae (vSh 1) .(T))) (ae (b2 ixD (vSh 2) .(d)) aj))))) (aG 1 (cF sX (ae (vSh 1) (ae (vSh 0) (ae (vSh 2) .(au)))))))) (xs:=ss.map bA) (ρ:=[oS .(a),oS (pD []),ab,ab])
  (fun i ρ=>∃P a b,ρ=[oS .(a),oS (pD P),a,b]/\BPlan ss i (i*5000) P) ⟨[],ab,ab,rfl,⟨⟨.nil,qw _,(fun _ z=>by cases z),(fun _ z=>by cases z)⟩,(fun _ z=>by cases z),(fun s _ q hq=>by cases hq),(fun _ z=>by cases z)⟩⟩ (fun i x ρ hx hI=>by obtain⟨P,a,b,rfl,p⟩:=hI;rw[ql] at hx;obtain⟨s,hs,rfl⟩:=oMd hx;have hi:i<ss.length:=(cX.mp hs).1;have hsm:=qO hs;obtain⟨m,em,m0,m1⟩:=OB (E:=bU ss P) g (M:=i*5000+h) .(f) (fun k x hk=>M' g p.b hk) (g.s s hsm).nm;obtain⟨_,ep,w,st,rfl,⟨l,hw⟩,s0,s1⟩:=Ll g p .(f) hsm m0 .(f);refine⟨_,_,rfl,(aZ (aU (aA rfl (aA (aU .(n) (vV g p.o)) (aA (au rfl rfl cJ) aO))) em)).trans (jw (aU (aA rfl (aA rfl .(n))) ep)),_,oS (bA s),oS (.int m),rfl,p.put g hsm hw s0 ?_ ?_⟩<;>omega)
 rw[qg] at p1;subst h1;exact⟨P,bM (n:=3) (ds:=[aF bs ss js us ls ks h]) [oS .(a),ab,ab,ab] rfl ((aZ rfl).trans ((bT ((cR (cI (au rfl rfl (ixL _ 1)))).trans e1)).trans (bS rfl))),p1.n⟩
end
theorem KH {l:ac ag} {lo:ar ag} :(dX l lo hi).length<=l.length:=by unfold dX;rw[qD,ja];omega
theorem Lw (ns:ac ag) (hns:ns.length<=63):Bc [.scr ns]=aa (.bl ai):=by
 have c20:0<=(ns.getD 20 0)%37/\(ns.getD 20 0)%37<37:=by omega
 have c22:0<=(ns.getD 22 0)%6/\(ns.getD 22 0)%6<6:=by omega
 obtain⟨n,hn⟩:∃n:al,1+(ns.getD 22 0)%6=(n:ag):=⟨(1+(ns.getD 22 0)%6).toNat,by omega⟩;obtain⟨bs,ss,js,us,ls,ks,el,g,jl,sl⟩:=Mp ns n (4+ns.getD 20 0%37) 5 .(f) .(f) .(g);have ml:(js.flatMap (·.ms)).length<=300:=by have:=wM (f:=fun j:JobT=>j.ms) (m:=10) (l:=js) fun j hj=>qL (g.j j hj).ln (by rw[qg];exact sl);omega
 obtain⟨P1,eb,p1⟩:=JM g .(f) .(f);obtain⟨P2,e2,p2⟩:=FY g ns;have e20:b2 aK .(l) (b2 bz (cF dS (ae (vSh 0) (ae (vC (.int 20)) aj))) (vC (.int 37))) [oS (.scr ns),ab,ab,ab,ab,ab,ab,ab,ab,ab]=aa (.int (4+ns.getD 20 0%37)):=au rfl (au (aU .(n) (jZ ns 20)) rfl (c8 .(g))) rfl;have eS:=Gd g ml;generalize 4+ns.getD 20 0%37=h at el g e20 eb e2 eS;have e22:b2 aK .(c) (b2 bz (cF dS (ae (vSh 0) (ae (vC (.int 22)) aj))) (vC (.int 6))) [oS (.scr ns),oS (.int h),ab,ab,ab,ab,ab,ab,ab,ab]=aa (.int (n:ag)):=au rfl (au (aU .(n) (jZ ns 22)) rfl (c8 .(g))) (by rw[←hn];rfl);obtain⟨P,eP,p⟩:∃P,sIf (toB (b2 eqD (b2 bz (cF dS (ae (vSh 0) (ae (vC (.int 21)) aj))) .(j)) .(d))) (aG 4 (cF ug (ae (vSh 0) (ae (vC (.int 23)) .(an))))) aP [oS (.scr ns),oS (.int h),oS .(a),oS .(e),oS (pD P1),ab,ab,ab,ab,ab]=aa (.nx,[oS (.scr ns),oS (.int h),oS .(a),oS .(e),oS (pD P),ab,ab,ab,ab,ab])/\PlanN 10 P:=by
  have t:toB (b2 eqD (b2 bz (cF dS (ae (vSh 0) (ae (vC (.int 21)) aj))) .(j)) .(d)) [oS (.scr ns),oS (.int h),oS .(a),oS .(e),oS (pD P1),ab,ab,ab,ab,ab]=aa (decide (ns.getD 21 0%3=0)):=a5 (au (au (aU .(n) (jZ ns 21)) rfl (c8 .(g))) rfl (eqi _ _));cases e:decide (ns.getD 21 0%3=0) with
  |false=>rw[e] at t;exact⟨P1,(bH t).trans rfl,p1.up sl⟩
  |true=>rw[e] at t;exact⟨P2,(bH t).trans (jw (aU (aA rfl .(n)) e2)),p2.up sl⟩
 obtain⟨ρ',e1,a,b,c,d,f,h1⟩:=dv (gg:=ay 5) (body:=.(U)) (xs:=((0::dX ns (aa 29) (aa 59))++[4]).map D.int) (ρ:=[oS (.scr ns),oS (.int h),oS .(a),oS .(e),oS (pD P),ab,ab,ab,ab,ab])
  (fun _ ρ=>∃a b c d f,ρ=[oS (.scr ns),oS (.int h),oS .(a),oS .(e),oS (pD P),a,b,c,d,f]) ⟨_,_,_,_,_,rfl⟩ (fun i x ρ hx hI=>by
   obtain⟨a,b,c,d,f,rfl⟩:=hI;rw[ql] at hx;obtain⟨z,_,rfl⟩:=oMd hx;obtain⟨Q,eq,pq⟩:=GY g p .(g) z;have pk:=pq.ok .(g);obtain⟨o,ef,ed,go⟩:=Ow g pk .(f);have ne1:∀b:aX,neA (.bl b) (.bl b)=aa (.bl aq):=by intro b;cases b<;>rfl
   refine⟨_,_,rfl,(aZ (aU (aA rfl .(n)) eq)).trans ((aZ (aU (aA rfl aO) rfl)).trans ((aZ (aU .(n) ef)).trans ((aZ (aU .(n) ed)).trans ((bH (nD (a5 (au rfl rfl go.ne)) (nD (a5 (au .(G) .(G) (ne1 _))) (a5 (au rfl rfl (JV pk)))))).trans rfl)))),oS (.int z),oS (pD Q),oS (pD Q),oS (o.getD .non),oS (o.getD .non),rfl⟩)
 subst h1;have ei:itF (b2 aK (b2 aK (aH (szF (ae .(d) aj))) (slF (vSh 0) (pS (vC (.int 29))) (pS (vC (.int 59))))) (aH (szF (ae .(l) aj)))) [oS (.scr ns),oS (.int h),oS .(a),oS .(e),oS (pD P),ab,ab,ab,ab,ab]=aa (((0::dX ns (aa 29) (aa 59))++[4]).map D.int):=by have hc:=KH (l:=ns) (lo:=aa 29) (hi:=aa 59);rw[gK];exact cI (au (au (x:=.lst [.int 0]) (y:=.lst ((dX ns (aa 29) (aa 59)).map D.int)) rfl rfl (io (by rw[qU,qg];omega))) (y:=.lst [.int 4]) rfl (io (by rw[qk,qU,qU,qg];omega)))
 exact bM (n:=9) (ds:=[.scr ns]) [oS (.scr ns),ab,ab,ab,ab,ab,ab,ab,ab,ab] rfl ((aZ e20).trans ((aZ (aU (aA rfl (aA e22 .(n))) el)).trans ((aZ (aU (aA rfl aO) eS)).trans ((aZ (aU (aA rfl aO) eb)).trans ((bT eP).trans ((bT ((cR ei).trans e1)).trans (bS rfl)))))))
noncomputable def vY (K:bi):Sp:=fun vs H Q _=>∃(a:aw) (ns:ac ag),vs=[.ref a]/\SqL K H a (ns.map V.int)/\ns.length<=63/\∀H',Q (.bl ai) H'
theorem all_mk {l:EW} {h:Heap} {fa:aw} (X:K.In h) (G:h.Ns fY mg) (hfa:mg "law"=aa (.ref fa))
  (aC_Shop:zd K fY "Shop"=aa (aa (.ref C_Shop)))
  (pg_Shop:uQ K C_Shop fZ=ai) (hd_Shop:yF K C_Shop=ai) (po_Shop:EA K C_Shop=ai) (sa_Shop:dG K (.ref C_Shop) "__setattr__"=aa (aa (.builtin "object.__setattr__"))) (mk_Shop:yG K C_Shop=ai) (kc_Shop:i7 K (.ref C_Shop)=ai)
  (n0_Shop:dG K (.ref C_Shop) "benches"=aa ab)
  (n1_Shop:dG K (.ref C_Shop) "steps"=aa ab)
  (n2_Shop:dG K (.ref C_Shop) "jobs"=aa ab)
  (n3_Shop:dG K (.ref C_Shop) "setups"=aa ab)
  (n4_Shop:dG K (.ref C_Shop) "links"=aa ab)
  (n5_Shop:dG K (.ref C_Shop) "stocks"=aa ab)
  (n6_Shop:dG K (.ref C_Shop) "horizon"=aa ab)
  (n7_Shop:dG K (.ref C_Shop) "bench_by_name"=aa ab)
  (n8_Shop:dG K (.ref C_Shop) "step_by_name"=aa ab)
  (n9_Shop:dG K (.ref C_Shop) "setup_by_names"=aa ab)
  (n10_Shop:dG K (.ref C_Shop) "job_by_step"=aa ab)
  (a84:zd K fY "law"=aa (aa (.ref f84))) (l84:K.lookup f84=aa ⟨oc84,od84,.func (hG "law" "law" (ij (top 96)) (eU (top 96)) (aS (top 96)) .none kV84 dc84 pm84 an84 cd84 ct84),sl84⟩) (c84:rC K cd84 "law"=ai) (k84:i7 K (.ref f84)=ai)
  (V:Vd K mg C_Shop)
 : ∃fd:m4,(∀(s:aI) (v:Value),rA s fd ⟨[v],[]⟩ [("_law_script",v)])/\∀base:Heap,K.In base->base.Ns fY mg->FnOk l.prog w K mg base CX0 13 fa fd ["_law_script"] (vY K):=by
 have e:=hfa.symm.trans (ze X G a84);have e2:=Value.ref.inj (qG e);subst e2;have O_Shop:ClsOk .(o) K mg "Shop" C_Shop:=⟨by unfold Gam;rfl,⟨pg_Shop,hd_Shop,po_Shop,sa_Shop⟩,ze X G aC_Shop,mk_Shop,kc_Shop⟩;have cf_Shop:CF .(o) K "Shop" DN:=O_Shop.cf (jU.mpr ⟨n0_Shop,(jU.mpr ⟨n1_Shop,(jU.mpr ⟨n2_Shop,(jU.mpr ⟨n3_Shop,(jU.mpr ⟨n4_Shop,(jU.mpr ⟨n5_Shop,(jU.mpr ⟨n6_Shop,(jU.mpr ⟨n7_Shop,(jU.mpr ⟨n8_Shop,(jU.mpr ⟨n9_Shop,(jU.mpr ⟨n10_Shop,(List.forall_mem_nil _)⟩)⟩)⟩)⟩)⟩)⟩)⟩)⟩)⟩)⟩)⟩);have V:Vw K mg C_Shop:={V with O_Shop,cf_Shop};refine⟨hG "law" "law" (ij (top 96)) (eU (top 96)) (aS (top 96)) .none kV84 dc84 pm84 an84 cd84 ct84,fun s v=>.of_eq rfl,fun base _ _=>?_⟩;have FL:=vx (st:=top 96) l84 c84 k84;have ok:FnOk l.prog w K mg base CX0 13 fa _ ["_law_script"] (spF .(o) K 1 Bc):=FL.okD (k:=12) i4 (O8 V fa);refine ok.imp fun vs H Q E hq=>?_;obtain⟨a,ns,rfl,hS,hlen,k⟩:=hq;exact⟨H,[.scr ns],.bl ai,bO.refl H,.cons (.scr hS) .nil,rfl,Lw ns hlen,fun v G' H' _ r=>by rw[r.bl_inv];exact k H'⟩
theorem walk {l:EW} {q:dy} {d:y0} {K:yZ->bi} (hn:l.most=aa 63) (hdf:d.params.defaults=[])
  (hY:∀(w:cS) (h:Heap),YP w h->(K w.params).In h)
  (F:∀(w:cS) (mg:ak->ar Value) (fa:aw) (h:Heap),(K w.params).In h->h.Ns fY mg->mg d.name=aa (.ref fa)->
   ∃fd:m4,(∀(s:aI) (u:Value),rA s fd ⟨[u],[]⟩ [("_law_script",u)])/\∀base:Heap,(K w.params).In base->base.Ns fY mg->FnOk l.prog w (K w.params) mg base CX0 13 fa fd ["_law_script"] (vY (K w.params))) :
  Ra q loose XP YP l.row.toRowW d [] (fun f vs=>y6 f vs):=
 L2.walk_of (n:=63) (k:=13) (x:="_law_script") (CX:=fun _=>CX0) (sp:=fun w=>vY (K w.params)) hn .(g) hdf ⟨rfl,by decide,by decide⟩ hY F (fun _ _ a ns hl _ hS=>⟨a,ns,rfl,hS,hl,fun _=>rfl⟩) fun _ _ _ _ _ z=>z
end Law
end L2
namespace PySem.W.Fast
def tw1535559687235828884:=()
def tw8653798986742088750:=()
def tw4661542822762160713:=()
def tw4726192261075308600:=()
def tw16285754286813517523:=()
def tw6318540344272892543:=()
def tw11808569207727570146:=()
def tw5702180257002328623:=()
def tw18289264699688196482:=()
def tw6445268403220971313:=()
def tw3547039323604960669:=()
def tw14163570027391031966:=()
def tw17954935587011288712:=()
def tw13550435452449051731:=()
def tw13310549543550078979:=()
def tw16933443806667435844:=()
def tw7142066595905212155:=()
def tw6247134689544253039:=()
def tw11810779249388327239:=()
def tw9314094012358218248:=()
def tw17203596569607353354:=()
def tw9891010923751559683:=()
def tw17408126518267434840:=()
def tw11372952475233619042:=()
def tw196639926375036447:=()
def tw16075039064059756554:=()
def tw2867365407615019520:=()
def tw15034546416607093908:=()
def tw741185333123349694:=()
def tw977318090243274330:=()
def tw15767271966537295482:=()
def tw18315736652583627843:=()
def tw7265886932410907425:=()
def tw6268560040457383839:=()
def tw6926217608824224658:=()
def tw5115546881609605917:=()
def tw4179269056781778088:=()
def tw7047647334170815843:=()
def tw3260666657003813821:=()
def tw13832877713989841785:=()
def tw4456458039232687028:=()
def tw2009662259389346341:=()
def tw3165921450676059164:=()
def tw3550553002207031065:=()
def tw966918693747289589:=()
def tw8263784367130251539:=()
def tw11696549468391294026:=()
def tw351891674977872529:=()
def tw1462159977954363883:=()
def tw15020408419784753602:=()
def tw13803445100200584084:=()
def tw1321186113067943213:=()
def tw3431931694045606080:=()
def tw15184319507936163521:=()
def tw12272387119904574892:=()
def tw11258563781519736779:=()
def tw5127481934035312742:=()
def tw14374458720104950924:=()
def tw16238188549392699838:=()
def tw8222180984954412609:=()
def tw143466199590573579:=()
def tw2208411380113814256:=()
def tw12839489543984973907:=()
def tw8872335930088324986:=()
def tw8476605737895065162:=()
def tw2503160210493707468:=()
def tw14410906574520082492:=()
def tw4059245113805706311:=()
def tw5548269098295929359:=()
def tw5793268975029161735:=()
def tw17053699265518759936:=()
def tw15559626059984186427:=()
def tw8844291727724808298:=()
def tw649508378790397784:=()
def tw3418755436356073627:=()
def tw4551813668259597774:=()
def tw13837903319375743738:=()
def tw15388505916021060414:=()
def tw15310776387580365639:=()
def tw1480687391116388289:=()
def tw9515596447829048517:=()
def tw18076517883139460211:=()
def tw9155137254719115210:=()
def tw6430863297075570954:=()
def tw746847418773554264:=()
def tw3642337166331579639:=()
def tw16509477959917598275:=()
def tw4205768280425339922:=()
def tw1112463701205750051:=()
def tw8142652164389373765:=()
def tw10356086316469425863:=()
def tw4303002443759239727:=()
def tw7884696602764924433:=()
def tw12934308856130468730:=()
def tw7602550021472441438:=()
def tw10582569381801007634:=()
def tw1330396326200438206:=()
def tw14138492315681707234:=()
def tw7097478921264221899:=()
def tw7263485507901965533:=()
def tw2030191455169284953:=()
def tw14592092999090636137:=()
def tw3925862974263187079:=()
def tw15370265908609579805:=()
def tw4559843370288716611:=()
def tw16939721271458152469:=()
def tw13732132916691775387:=()
def tw14261973427959286460:=()
def tw17744366248369257845:=()
def tw15309829761155920163:=()
def tw10228160388821126574:=()
def tw12395363932341431873:=()
def tw5972896054628208745:=()
def tw14981824178867785955:=()
def tw11392610751868931580:=()
def tw6586946774168784264:=()
def tw13372411447013209013:=()
def tw7017683254760477674:=()
def tw8953643410020694403:=()
def tw1127948898151561870:=()
def tw6805741792683571833:=()
def tw1526075873540396272:=()
def tw9645742927060083495:=()
def tw3312338273893401204:=()
def tw9606298086886432432:=()
def tw3232820707360036100:=()
def tw1384453821867797125:=()
def tw5153642694968010188:=()
def tw14061624922771446317:=()
def tw1616455441643003120:=()
def tw8541921115682635802:=()
def tw12529367167502808305:=()
def tw13437924284337548191:=()
def tw378754357934754549:=()
def tw1169184908476935620:=()
def tw15314211554850634814:=()
def tw1646035295808944705:=()
def tw16088705181880587976:=()
def tw16876553009481049093:=()
def tw8917360568715003084:=()
def tw10986439289397791946:=()
def tw15057419730415329219:=()
def tw13049863122609783802:=()
def tw17858734638949001831:=()
def tw17039804741669447893:=()
def tw10524328487824963801:=()
def tw6477874192714027807:=()
def tw7781297300563031421:=()
def tw9230517993512249519:=()
def tw17123232183699345255:=()
def tw10571521608247978801:=()
def tw1279258781725630901:=()
def tw3746748001121504811:=()
def tw15503481234211447326:=()
def tw14931363418668012328:=()
def tw15684036655836791733:=()
def tw16888580294683851835:=()
def tw12678110625756606148:=()
def tw3624809765863108419:=()
def tw14262148250863899724:=()
def tw6226515360656741804:=()
def tw10687399620524186569:=()
def tw11690684322226577293:=()
def tw1125649439405680584:=()
def tw3685406981791055464:=()
def tw11016954627493104496:=()
def tw486062680761095610:=()
def tw8189200831073484079:=()
def tw2646649590620137648:=()
def tw514230807431556030:=()
def tw16728076902087905005:=()
def tw2972233875727767181:=()
def tw18097762164755543674:=()
def tw1832315231388671128:=()
def tw1415964932356128104:=()
def tw15789152566198218651:=()
def tw1639121852387713559:=()
def tw11723977227308769184:=()
def tw11398265102756921115:=()
def tw1510257777171991995:=()
def tw13730492943233868995:=()
def tw9415679118304719516:=()
def tw6301487131841578419:=()
def tw8314247304798232577:=()
def tw7208205853497276783:=()
def tw17253453366367522075:=()
def tw14219643518162158373:=()
def tw10675677809804788230:=()
def tw4622419332795394100:=()
def tw5456852661756264853:=()
def tw4351547687365640924:=()
def tw14847349964779657452:=()
def tw11509303606923687859:=()
def tw10542913438641246653:=()
def tw5916907004370045116:=()
def tw8167264717680884710:=()
def tw10623903159768586006:=()
def tw3915291076609200209:=()
def tw10424876172959798749:=()
def tw6025335138106925400:=()
def tw4977304311993341891:=()
def tw17480923029891169744:=()
def tw17315117403240636620:=()
def tw9709336889055225285:=()
def tw11426265733891569923:=()
def tw16980449632331475322:=()
def tw5665882577292727798:=()
def tw14234889078365563290:=()
def tw7572854872114438710:=()
def tw9432207657636873733:=()
def tw8243701421586238255:=()
def tw9534288406185774151:=()
def tw7150543497219083543:=()
def tw2300600799600290726:=()
def tw13957847652501402556:=()
def tw1858324872684469218:=()
def tw8511359257715740724:=()
def tw2635770293741889119:=()
def tw10481842508150885996:=()
def tw91424076426295179:=()
def tw2882943210508429843:=()
def tw969457779795197296:=()
def tw10567163898988498915:=()
def tw12478934747998312062:=()
def tw12924480362134023526:=()
def tw3676093719425610451:=()
def tw6708963922424020605:=()
def tw8872988042653456596:=()
def tw9319697054151540942:=()
def tw14039677174903303825:=()
def tw6519779311122308265:=()
def tw17289925736019398772:=()
def tw16711334755924932510:=()
def tw17200505837450713355:=()
def tw13135058258366707323:=()
def tw5460389920176670712:=()
def tw17068359918998862223:=()
def tw17670331681206839121:=()
def tw10511500980746489827:=()
def tw6997901226956898248:=()
def tw12473935805644884943:=()
def tw11966718155647194317:=()
def tw18348377937087980768:=()
def tw11398265583063149281:=()
def tw14480989029318056823:=()
def tw14934149964163670376:=()
def tw7438226307500856925:=()
def tw10041840257974414749:=()
def tw9467832364089979936:=()
def tw13932640190795640603:=()
def tw13095288423303333890:=()
def tw8973626478329107770:=()
def tw2207959174810702999:=()
def tw17953867120354591796:=()
def tw6883076253784856381:=()
def tw15043651268636925364:=()
def tw5081670965102222160:=()
def tw15946265468847867696:=()
def tw15970337338560762553:=()
def tw11509578998902195124:=()
def tw5451386734020978667:=()
def tw4288191556937050784:=()
def tw202003555838624764:=()
def tw11407512574055241495:=()
def tw4978810705171926555:=()
def tw3280021902595356165:=()
def tw15459479672072459699:=()
def tw9391997802510141787:=()
def tw3789703749397244859:=()
def tw10495759927040353854:=()
def tw4983095353920939653:=()
def tw5710302980778041845:=()
def tw3760440258965167904:=()
def tw11277017087285476674:=()
def tw6234267858560876566:=()
def tw76527905148673845:=()
def tw11759285216101131931:=()
def tw11484239644749910336:=()
def tw10476197191786152667:=()
def tw16316839805128332310:=()
def tw11869127926355434544:=()
def tw10926789047782356170:=()
def tw12486308413539992015:=()
def tw16896115383183590593:=()
def tw11246777613168260171:=()
def tw4632429286815567605:=()
def tw15362130513316656903:=()
def tw13824654395051921887:=()
def tw2179683495106031502:=()
def tw12597508576197482755:=()
def tw14934483876977258678:=()
def tw12038575859779616965:=()
def tw17175601340010398585:=()
def tw3671259528123733710:=()
def tw4650995153750669506:=()
def tw3896549763453292786:=()
def tw10186982988110085857:=()
def tw6725388764555907395:=()
def tw1358610470251242735:=()
def tw18344000001717123677:=()
def tw5077075944280736153:=()
def tw16503436263781653692:=()
def tw3853551685407684473:=()
def tw4679543889434560487:=()
def tw15517834779202255414:=()
def tw15525968950047951834:=()
def tw10851978025225215154:=()
def tw10883345342457232881:=()
def tw12665348780453326810:=()
def tw10147051091647582991:=()
def tw9097067806695959803:=()
def tw16669839158466789214:=()
def tw16735024914490856464:=()
def tw7273232129545180907:=()
def tw13240787108503924418:=()
def tw10650376165833007341:=()
def tw8815719816244481067:=()
def tw13773987738374306869:=()
def tw10289958076375803061:=()
def tw16364210241000553410:=()
def tw10980905426178609588:=()
def tw7893415940469417406:=()
def tw16433402036019815764:=()
def tw17120399488679569439:=()
def tw7271913064275241442:=()
def tw3143977223340143904:=()
def tw664469393302012982:=()
def tw8588601002105761550:=()
def tw4751812043568241004:=()
def tw13257147761124123300:=()
def tw8672578710087895981:=()
def tw10970462199120950104:=()
def tw332627466010786008:=()
def tw8804573430971868620:=()
def tw5153211712911242489:=()
def tw1604957111371700650:=()
def tw4445013012748954458:=()
def tw9713085987580461295:=()
def tw7474294330098615806:=()
def tw10794827436919480881:=()
def tw4456648377953994518:=()
def tw2269591106701119610:=()
def tw12003438143343953902:=()
def tw3011033986932803599:=()
def tw10564355360493701770:=()
def tw6858909612342374905:=()
def tw6543210667167213313:=()
def tw16580985924927981233:=()
def tw12811649383165285188:=()
def tw11328281145557501030:=()
def tw11149940812496348905:=()
def tw16976107503252689216:=()
def tw791886975810123106:=()
def tw3541310436349941608:=()
def tw3838507643096482670:=()
def tw1605283515891280078:=()
def tw17769858462210622147:=()
def tw15487484479238083555:=()
def tw16325978333659143811:=()
def tw10655222495127619732:=()
def tw7863506704971401984:=()
def tw46167098109403817:=()
def tw5724176545368633923:=()
def tw16857993717069062140:=()
def tw5233999742450250158:=()
def tw6682675546166562809:=()
def tw13536976917468899362:=()
def tw12050509536977327584:=()
def tw1924433096698652077:=()
def tw10634179392450987697:=()
def tw13034181299712882558:=()
def tw16160476029711795480:=()
def tw546781205595879568:=()
def tw8641465404303227043:=()
def tw2965301245211347691:=()
def tw5463689362513048834:=()
def tw15766739690630352062:=()
def tw3756203934368991509:=()
def tw12458062940102349009:=()
def tw7387496357803516805:=()
def tw6159623534658484139:=()
def tw3241827570209115345:=()
def tw13230064438711537009:=()
def tw7400535123686777022:=()
def tw10540471901672127554:=()
def tw14323791167330729658:=()
def tw266999618959026147:=()
def tw14062356128307833795:=()
def tw17018385207523163398:=()
def tw6105625473134790391:=()
def tw10094160133600468630:=()
def tw2074123994312073025:=()
def tw1762606618156427270:=()
def tw7900500156013192262:=()
def tw9420403469359778363:=()
def tw9481012668274102493:=()
def tw5401552091261380880:=()
def tw15710045246613360798:=()
def tw7130504257098431158:=()
def tw18946680368329055:=()
def tw3494346681455306673:=()
def tw4240701253170914236:=()
def tw6314195352643894636:=()
def tw9935543229982302625:=()
def tw5760681343131457578:=()
def tw16148168236440723234:=()
def tw12485346783440724893:=()
def tw14190817649658049656:=()
def tw3563618027855955398:=()
def tw17182952908672414371:=()
def tw13338383011295045382:=()
def tw11456333079921092576:=()
def tw5103560464218220517:=()
def tw1708069149132961356:=()
def tw16252467097366220348:=()
def tw6657079204832846289:=()
def tw16378783207262395203:=()
def tw15233038636789333503:=()
def tw15258570184274458158:=()
def tw2952764842899010212:=()
def tw3970871798668364425:=()
def tw13621281926666321042:=()
def tw16408562335893540519:=()
def tw14325255462706859552:=()
def tw2358606943657029470:=()
def tw13853703194642537143:=()
def tw9763520996173953093:=()
def tw13537321595442955854:=()
def tw12307616448851857837:=()
def tw5649781073676126603:=()
def tw17270997563659230333:=()
def tw5668320685879265755:=()
def tw12975718245196827108:=()
def tw16212119491662636202:=()
def tw10917464660981890972:=()
def tw7951832269748337530:=()
def tw5514372296203692199:=()
def tw12643696176901464154:=()
def tw7203674322012276152:=()
def tw9856383541352849869:=()
def tw3368370755723829958:=()
def tw7144917811997861652:=()
def tw651256824932191273:=()
def tw16568130206685135952:=()
def tw5060281454496164124:=()
def tw8875946273507978678:=()
def tw161889558456993586:=()
def tw15057566543542720087:=()
def tw2962200191225459992:=()
def tw4589319818859182259:=()
def tw12992225147338618299:=()
def tw4037678805471437111:=()
def tw8299829685633570470:=()
def tw5143549323260582801:=()
def tw16417582662517482292:=()
def tw4511019281816143548:=()
def tw14557487235160028103:=()
def tw12135279933736766499:=()
def tw16620112470597288714:=()
def tw6826800504955227945:=()
def tw12972343790571935919:=()
def tw12621960254225345919:=()
def tw7000964978553276663:=()
def tw5989068624798902458:=()
def tw592190709808327965:=()
def tw10465838339125624170:=()
def tw10980194288969572300:=()
def tw17407404706002534292:=()
def tw7051844659385316121:=()
def tw8700911841575082492:=()
def tw2901449508054606231:=()
def tw5344391532423522108:=()
def tw2731353767480770386:=()
def tw14447845409368467247:=()
def tw7012987064331341582:=()
def tw4781192760843369103:=()
def tw2975852419075146638:=()
def tw13433836036409232248:=()
def tw2618816166364645228:=()
def tw18353571876790410783:=()
def tw13420687410216103908:=()
def tw13667575673457292731:=()
def tw18111759038394295581:=()
def tw5150788514888610515:=()
def tw8086215483914406366:=()
def tw9463348881281190549:=()
def tw8460936100807465224:=()
def tw6343029329739149191:=()
def tw3259650755622259570:=()
def tw4197629206785110942:=()
def tw18172430828619689017:=()
def tw5996715792309205644:=()
def tw26313813897630156:=()
def tw4166996099026989236:=()
def tw12049556292023333789:=()
def tw2051423358439605363:=()
def tw14643991279092055190:=()
def tw4930773127980500553:=()
def tw3262202144442873234:=()
def tw18061629054460912062:=()
def tw8721365796085025224:=()
def tw5132381728814502328:=()
def tw475421159251083691:=()
def tw12438939011497257548:=()
def tw18103873510646512293:=()
def tw13461641283398952611:=()
def tw15956577702819111656:=()
def tw1133361201876219976:=()
def tw14773649512730404534:=()
def tw15812080716225560269:=()
def tw16462561985818017823:=()
def tw11051717056312630812:=()
def tw5866775202166175623:=()
def tw514688086245694204:=()
def tw13917386396016910894:=()
def tw11341009583334844834:=()
def tw18290665476395370212:=()
def tw11073752933369303470:=()
def tw7150785991973776735:=()
def tw14267609611190949039:=()
def tw11491746140490359600:=()
def tw16910608636862536673:=()
def tw11748582591940084988:=()
def tw6819517959044380357:=()
def tw17702027694246216180:=()
def tw11502724498219907456:=()
def tw1054871192157691901:=()
def tw15720343609220736469:=()
def tw461366359346158765:=()
def tw9556093826616054194:=()
def tw4520329838735583737:=()
def tw15843234145787819866:=()
def tw1114386525606824072:=()
def tw15443701710165190255:=()
def tw9556149235952840596:=()
def tw16408190458966824192:=()
def tw196255747391157861:=()
def tw12778419090701845459:=()
def tw6110093594274128950:=()
def tw10740777641819170199:=()
end PySem.W.Fast
open PySem PySem.W PyProof.Rows L2
set_option maxRecDepth 100000 in
set_option maxHeartbeats 0 in
theorem PySem.Challenge.cw_shopbound_k21_first_wish_broken_holds : PySem.Challenge.rw_shopbound_k21_first_wish_broken.Holds := by
 w_on;o_law;k_head;(case hw=>w_witness2)
 k_fill
 refine Law.walk (l:=Tx) rfl rfl (fun w h Y=>PySem.W.kIn_of Y) ?F
 case F=>
  intro w mg fa h KX G hmg
  refine' Law.all_mk KX G hmg ?aC_Shop ?pg_Shop ?hd_Shop ?po_Shop ?sa_Shop ?mk_Shop ?kc_Shop ?n0_Shop ?n1_Shop ?n2_Shop ?n3_Shop ?n4_Shop ?n5_Shop ?n6_Shop ?n7_Shop ?n8_Shop ?n9_Shop ?n10_Shop ?a84 ?l84 ?c84 ?k84 ?V
  (case aC_Shop=>k_is)
  (case pg_Shop=>k_is)
  (case hd_Shop=>k_is)
  (case po_Shop=>k_is)
  (case sa_Shop=>k_is)
  (case mk_Shop=>k_is)
  (case kc_Shop=>k_is)
  (case n0_Shop=>k_is)
  (case n1_Shop=>k_is)
  (case n2_Shop=>k_is)
  (case n3_Shop=>k_is)
  (case n4_Shop=>k_is)
  (case n5_Shop=>k_is)
  (case n6_Shop=>k_is)
  (case n7_Shop=>k_is)
  (case n8_Shop=>k_is)
  (case n9_Shop=>k_is)
  (case n10_Shop=>k_is)
  (case a84=>k_is)
  (case l84=>k_is)
  (case c84=>k_is)
  (case k84=>k_is)
  (case V=>constructor;all_goals first|(refine' Dfn.mk' KX G ?a ?l ?c ?k;(case a=>k_is);(case l=>k_is);(case c=>k_is);(case k=>k_is))|(refine' DfnM.mk' ?a ?i ?l ?c ?k;(case a=>k_is);(case i=>k_is);(case l=>k_is);(case c=>k_is);(case k=>k_is))|(refine' PySem.W.mg_none_of KX G ?a;(case a=>k_is))|(refine' Law.tkI_of KX G ?a;(case a=>k_is)))
end
end
