import PyProof.Rows.All
import Wide.All
import OpenK.AllK
import Wide.FinOn
import Lean
import PyProof.EqAt
import PyProof.EqKinds
import PyProof.TupleCall
import PySem.SetOps
import KE.KDictOf
import PyProof.AttrMiss
import PyProof.IsiH_list
import PyProof.WalkInts
import KE.KMinBuiltin
import PyProof.Rows.CallKwBuiltin
import KE.KEqDict
import KE.KItemsList
import KE.KDictSum
import KE.KRevSl
import PyProof.Rows.SortStr
import PyProof.Rows.SortWalk
import PyProof.DictWalks
import KE.KTryMore
import PyProof.NsDelKeeps
import PyProof.ExcAttrAll.ValueError
import PyProof.StrReplace2
import PyProof.ReprStr
import PyProof.Rows.RuleU_int
import PyProof.InstStoreFacts
import PyProof.ExcInit
import KE.KDictList
import PyProof.MaxThree
import KE.KRevIter
import PyProof.Rows.SortShell
import PyProof.MinMaxWalk
import PyProof.Rows.SumAny
import PyProof.ZipIter
import PySem.Challenge.RW_shopbound_k31_facts_at_first
set_option Elab.async false
set_option linter.all false
set_option maxRecDepth 100000
open Option renaming some->aa,none->af,map->pZ,isSome_iff_exists->uN,isSome_map->yY,getD_none->S5,join_some->TV,getD_some->TW
open _root_ renaming List->ac,Int->aj,Nat->ak,Option->aq,Bool->aN,absurd->bu,Array->bI,congrArg->bO,if_true->cq,if_false->cB,String->cE,DecidableEq->dz,of_decide_eq_true->jt,beq_iff_eq->jX,beq_eq_false_iff_ne->kW,Unit->mB,not_or->rg,and_self->zH,decide_eq_true_eq->Gc,instBEqOfDecidableEq->T',decide_eq_false_iff_not->Uu
open Bool renaming true->ah,false->ar,and_eq_true->eX,not_true->ie,not_false->ot,eq_iff_iff->uJ,and_eq_true_iff->vc,true_and->zu,false_or->FV,or_eq_true->F3,eq_false_iff->Gf,and_false->S9,not_eq_true'->Ut
open PySem renaming Str->ai,Addr->au,Value->av,wpAny->aC,Shared->aE,starEach->aH,sizeLine->aJ,model->aL,tupleKeyHash->bw,backTo->bF,cLine->bY,Env->ci,Around->cv,World->cA,argBest->cO,Pos->c8,swapsWith->dh,compareOp->di,Program->dy,bootBuiltins->dH,bindArgs->dQ,backToKw->dR,keywordEach->dS,mainGlobals->eU,sizeLine_eq->eV,holding->fm,codeAny->fu,pyNext->fK,seqItems?->fR,binaryOp->gc,attributeBase->gG,Keyword->gI,sysModules->hG,wpAny_mono->hU,NameKind->hV,codeAny_builtin->ib,plainId_quiet->ic,standAt->jh,wpAny_truthy_bool->ji,assign->jj,assignEach->jk,wpAny_seqItems->ju,wpAny_tryCatch->jv,FuncData->jZ,wpAny_newObj_type->j0,Walks->j6,tupleKind->k0,foldedSetIterable->lf,getMethod->lg,Result->li,atKey->lu,SetTable->lv,pyIter->mC,bindL->mD,bindC->mE,mem_of_lookup->mG,IsPart->mJ,getItem->mK,wpAny_pyIter_list->mO,wpAny_letGo->mS,BindsTo->nU,codeAny_mono->nV,wpAny_Call_Name_kw->nW,callWith->nX,sliceBounds->n5,valueAt->oe,callerA->og,GenState->pM,rawInt->pO,behindInMarks->pQ,DictEntry->pX,wpAny_of_eq->rh,CmpOf->rj,wpAny_updateSeq->rq,Model->uG,letOwnedTupleGo->uH,wpAny_passesOwn->uI,wpAny_call->uM,wpAny_typeOf->uP,tupleKind_room_in1->uR,PyData->uX,setAdd->u6,wpAny_setState_of->u7,wpAny_standAt->yG,lastMarks->yJ,pick_run->yO,wpAny_call_entry->yP,typeLookup->yR,subscripted->yU,call_meets->yX,Params->yZ,relabel->y7,setSearchFrom->zt,updateSeq->zz,argsOk->zA,Within->Fg,builtinsNs->Fh,wpAny_Name->Fj,wpAny_execs_nil->Fn,swapsWithSole->Fp,swappedStores->Fq,cellsFrom->Fz,wpAny_field->FD,seqIndex_of->FJ,slot_list_getitem->FK,typeIs_str->FM,typeIs_int->FN,PlainAttrs->FO,call_meetsIn->FW,call->FY,compEnvC->F1,ReadsAll->F7,wpAny_forIn_list->Gi,ofAClassStatement->Gj,scanBound->Gm,wpAny_attempt->Gn,wpAny_isInstance->Go,wpAny_rule->Gp,wpAny_typeNameOfWhole_keyiter->Gr,wpAny_pyIter_keyiter->Gu,wpAny_execs_cons->SG,wpAny_assign_Name->SH,noFill_tuple_add->SV,wpAny_callSpecial?_slot->S1,sliceRange_one->S6,wpAny_getItem_list_slice->S7,wpAny_specialOf->Te,wpAny_Dict_empty->Tg,wpAny_comprehension_free->Tp,wpAny_pyIter_enum->Tr,codeAny_call_builtin->T3,carriedByValue->T5,searchCouldBeSeen->T6,wpAny_eqIsQuiet_tuple->T7,wpAny_storeSet_of->T9,typeLookup_type->Ua,builtinLookup_eq_fast->Ub,getAttrByItsOwn->Uc,boundAndCalled->Ud,getattributeRaised->Ue,wpAny_notOrdered_dict->Uf,wpAny_dictEntries->Ul,wpAny_dictEpoch->Um,wpAny_isOneOf_keyiter->Uo,wpAny_setField->Up,firstArgMember->Us,size_of_entries->Uw
open PySem.W renaming Frag->aM,findIn->b8,fnOf->cV,keepIn->fQ,kia_one->jY,emptyDict->lj,instObj->my,codeIn->mI,plainGet->nS,isFn->nT,hasDictIn->pR,makesIn->pT,nsIn->p6,mg_of->p8,plainOver->uK,lookIn->yK,plainGet_of->Ft,takerIn->Fu,callWith_K->Fx,OpenLaw->FZ,handedIn->SJ,kitOne->SK,kitx_list->SL,kitx_dict->SM,methodCall_KW->SS,cellsFrom_some->SU,WalkO->To,kdl_dict->Uv,kdl_call->Uy,keq_ne->UA
open Pure renaming pure->aT
open List renaming mem_map->bz,mem_singleton->bD,replicate->bJ,mem_cons->bZ,range->ck,length->cI,lookup->cK,mem_append->cT,nodup_cons->cU,forall_mem_cons->dj,map_append->dF,find?_cons->eE,mem_range->fH,getElem?_eq_some_iff->fJ,foldl_cons->fL,map_congr_left->gj,append_nil->gH,all_eq_true->ia,take_length->iH,nodup_append->iJ,length_drop->jq,nodup_nil->jr,any_cons->j5,replicate_succ->lr,take_succ->lw,mem_append_left->mz,take_sublist->mH,take_of_length_le->mN,set_cons_zero->mT,getElem?_set_self->nR,flatten_cons->n6,length_singleton->n9,lookup_cons->oh,getElem_mem->oj,getD_eq_getElem?_getD->oo,mem_filterMap->pP,append_assoc->pV,drop_zero->p5,mem_of_mem_take->p9,flatMap_cons->rA,mem_filter->uF,getElem?_replicate->uO,length_eq_zero_iff->uU,drop_length->uV,mem_iff_getElem?->uW,take->uZ,pairwise_map->u5,filter_cons->vd,any_eq_true->vg,all_map->vh,filterMap_cons->yF,getElem?_take_of_lt->yM,reverse_cons->yV,getElem?_eq_none->y9,mem_iff_getElem->zd,getD->ze,length_mapIdx->zf,drop_eq_getElem_cons->zg,take_append_drop->zn,find?_eq_none->zo,foldl_append->zr,length_tail->zC,mergeSort_perm->zE,all_cons->zG,take_add_one->zI,drop_of_length_le->zL,range'->zM,map_take->zN,getElem_inj->Fi,of_mem_zip->Fy,foldl->FR,nodup_range->Gd,length_pos_iff->Gv,map_inj_right->Gx,set_cons_succ->Gy,getElem?_of_mem->Gz,map_id->GB,flatMap_append->GC,mem_flatMap->GD,range'_succ->GE,flatMap_nil->GF,forall_mem_nil->GG,any_eq_false->SI,length_set->S4,ext_getElem?->Tt,getElem?_mapIdx->Tu,ext_getElem->Tx,pairwise_iff_getElem->TF,getElem?_drop->TL,mem_of_mem_drop->TM,mem_of_find?_eq_some->TN,find?_some->TQ,nodup_iff_pairwise_ne->TU,filterMap_cons_some->TY,pairwise_lt_range->TZ,map_id'->UB,find?_append->UE,map_drop->UF,range_eq_range'->UG,map_eq_nil_iff->UH
open PySem.Value renaming ref->bP,none->kX,bool->kY,type->kZ,int->uC,str->uD,isInt->SB,isStrOf->SC,isStrOf_shape->SD
open Sum renaming inr->bX,inl->nQ
open PySem.SetTable renaming below->cr,runEnd->cZ,insertAt->c0,bits->fy,leap->iF,turns->mP,sizeAbove->oq,tooFull->u8,fresh->u9,Probe->zm,grown->zp,has->Ga,fits->Gb,slot->TJ,fill->TK,layClean->TX
open Ne renaming symm->cH
open PyProof.Rows renaming envOfC->cY,AllBare->lc,IsTup->uE,IntsAre->uS,callWith_type1->yI,Subscript_->yS,subscriptTail->yT,StrsAre->zc,Constant_none->Fk,UnaryOp_->Fm,slot_tuple_getitem->FF,tail_any->FH,slicePart_none->SZ,subscriptTail_builtinR->S3,callWith_builtin1->Vb,boot_enumerate->Vh,neg_int->Vq
open List.cons renaming inj->dB
open PySem.PassesOwn renaming never->eF
open Nat renaming zero_le->eW,lt_irrefl->fE,lt_succ_self->lq,zero_add->ly,lt_or_ge->mM,lt_succ_of_lt->mR,le_succ->nY,succ_mul->oa,le_of_lt->pL,lt_trans->pW,min_eq_left->uY,ne_of_gt->yH,le_of_eq->yL,mul_le_mul->za,succ_pos->zh,mod_lt->zi,le_add_right->zj,min_def->zK,min_le_right->FB,not_lt->F2,add_assoc->F8,lt_succ_iff->F9,not_lt_zero->F',mul_comm->Tc,lt_trichotomy->TH,sub_zero->UD,le_total->UJ,min_eq_right->UK
open PySem.SeqAt renaming shaped->eY
open False renaming elim->fP
open Array renaming getElem?_eq_some_iff->ge,length_toList->iE,getD_eq_getD_getElem?->zl,mem_toList_iff->Fs,toArray_toList->Gs,toList->SF,replicate->TR,filterMap->T0,forIn_toList->T4,getElem?_eq_none_iff->Ux
open PySem.PyData renaming eqv->gf,canLay0->jw,canLayAll0->j7,depthAll->j8,depth->kc,str->ou,eqvAll->vf,strOk->Gw,int->Tw
open Sum.inr renaming inj->g9
open PySem.Str renaming ofString->hZ,length->pU,empty->uL
open Int renaming toNat_natCast->ig,eq_ofNat_of_zero_le->ox,zero_add->zJ,le_refl->GA,emod_nonneg->Tz,emod_lt_of_pos->TC
open PySem.Heap renaming SameBut->iD,size_push->jp,get?_update_self->nZ,dictOf_iff->zx
open PySem.Around renaming under_plainId->iG,under->Fv
open ToString renaming toString->iI
open True renaming intro->jo
open MonadExcept renaming tryCatch->j9
open PySem.F renaming plain_max_loop->lx,plain_min_loop->lz,called_set->mQ,slot_list_getattribute->zw,entry_max_loop->zy,entry_min_loop->zD,slot_list_append->FU,slot_dict_get->FX,plainAttrs_list->F6,slot_dict_keyiterator_next->Gq,slot_tuple_add->SW,entry_tuple_add->SX,args_tuple_add_2->SY,slot_list_extend->S',slot_int_rmul->Ta,slot_dict_clear->Td,entry_dict_get->Th,args_dict_get_2->Ti,plainAttrs_dict->Tj,type_list_append->Tv,slot_dict_iter->Uj
open PySem.NameKind renaming free->mL,cell->y6
open PySem.Walks renaming list->om,dictKeys->Uz
open ForInStep renaming yield->pY
open PySem.SetTable.layClean renaming free->rf
open List.Sublist renaming nodup->rB,refl->UI,cons->Vt,cons₂->Vu
open PySem.Obj renaming mapSeq->uQ,putSet->Gk,mapFields->Uq,data_mapFields->Ur
open ForIn renaming forIn->uT
open List.Pairwise renaming map->ve,imp_of_mem->Gg,nil->Tn,filterMap->Vj
open PySem.Builtin.Slice renaming slicePlaces->yN,sliceAdjust->FC,sliceApplied->S0,slicePartIndex->Vc,sliceFields->Ve
open PySem.Builtin.Tuple renaming tupleExact->yQ,tupleItemsOf->Vf
open PySem.Builtin.List renaming listTooLong->yW,listFitsIndex->Vg
open PySem.Builtin.Str renaming strSliceIndices->zb,tooLong->Vi,glued->Vs
open PySem.SetTable.below renaming go->zk
open PySem.Shared renaming TypeIs->zq
open PySem.Heap.SameBut renaming update->zv,refl->Tq
open PySem.Builtin.Builtins renaming bindParams->zB
open Option.some renaming injEq->zF,inj->UM
open PySem.Code renaming isFrame->Fw,frames->SN
open PyProof.Rows.IsTup renaming new->FI
open PySem.Calls renaming callWith_builtin->FP,Name_function_global->SE,spliced_nil->SO,spliced_cons->SQ,evalArgs_plain->S8
open PySem.Txt renaming slice->F4,join->F5
open PySem.SetTable.probe renaming go->Ge
open PyProof.Rows.F renaming plain_set_update_loop->Gh,entry_set_update_loop->T1
open PySem.Heap.IsSliceOf renaming new->S2
open PySem.Heap.DictOf renaming new->Tf
open PySem.W.WData renaming int->Tk
open PySem.W.WShape renaming has->Tl
open PySem.Moved renaming trans->T2
open Prod.mk renaming inj->T8,injEq->UC
open PySem.Builtin.Dict renaming updateFrom->Ug,showsAll->Uk,addKeywords->Vl,pairItems->Vm,selfAndRest->Vn,dictSlotNone->Vo
open PySem.CmpOf renaming ints_gt->Uh,ints_lt->Ui
open PySem.Builtin.Range renaming rangeSize->UN
open PySem.EqNone renaming eq_none_none->UO,eq_none_bool->UP,eq_none_int->UQ,eq_none_str->UR,eq_bool_none->US,eq_int_none->UU,eq_str_none->UW,ne_none_none->UZ,ne_none_bool->U0,ne_none_int->U1,ne_none_str->U2,ne_bool_none->U3,ne_int_none->U5,ne_str_none->U7
open PySem.EqMixed renaming eq_bool_str->UT,eq_int_str->UV,eq_str_bool->UX,eq_str_int->UY,ne_bool_str->U4,ne_int_str->U6,ne_str_bool->U8,ne_str_int->U9
open PySem.W.Looks renaming here->U'
open PySem.Within renaming cons->Va
open PySem.Builtin.Frozenset renaming updateFrom->Vk
open PySem.Builtin.Dict_items renaming ownsTuple->Vp
open PySem.Challenge renaming pw_shopbound_k31_facts_at_first->Vr,rw_shopbound_k31_facts_at_first->Vv
set_option hygiene false
set_option compiler.extract_closed false
local macro_rules
|`(.(a))=>`(Gam C_Facts C_Grounds C_Shop)
|`(.(b))=>`(by omega)
|`(.(c))=>`(by decide)
|`(.(e))=>`(Cal .(a) P w K mg base)
|`(.(f))=>`(vC (.int 0))
|`(.(g))=>`(c9 CX0 P w K mg base N qual (aB st) f cdv A outer s H E)
|`(.(h))=>`(.tail _ (.tail _ (.tail _ (.head _))))
|`(.(i))=>`(vC (.int 1))
|`(.(j))=>`(A.deeper (cY qual (aB st) s.heap.objs.size f cdv))
|`(.(k))=>`(bH bs ss js us ls ks h)
|`(.(l))=>`(fcD bs ss js us ls ks h lm kp kvs O A B P)
|`(.(n))=>`(aL X.prog X.w)
|`(.(o))=>`(x==("__debug__":ai))
|`(.(p))=>`(b2 ixD (vSh 0) .(f))
|`(.(q))=>`(J t.mask (bw knd k) n0)
|`(.(r))=>`(.ListComp elt [⟨tg,iter,ifs,0⟩] scope pos)
|`(.(s))=>`(s.heap.push {cls:=.type "set",dict:=af,data:=.set #[] 0 (.fresh 0 0 led)})
|`(.(t))=>`(by infer_instance)
|`(.(u))=>`(vC (.int 4))
|`(.(v))=>`(ax rfl aI)
|`(.(w))=>`(cy bs ss js us ls ks h)
|`(.(x))=>`(.Name x vp)
local macro_rules
|`(.(z))=>`(by decide +kernel)
|`(.(A))=>`(cr t.place .(ba))
|`(.(B))=>`(bC (cQ (dC (jJ V) hr (bS (DO.de (lcN ["row"] (by left))) cu) ln1)))
|`(.(C))=>`(x==("__classdict__":ai))
|`(.(D))=>`(CalM .(a) P w K mg base "Facts")
|`(.(E))=>`(s.heap.objs.size+1)
|`(.(F))=>`(aG (vC (.bl ar)))
|`(.(G))=>`(by ac_rfl)
|`(.(H))=>`(aL prog w)
|`(.(I))=>`(ag (vSh 2) ao)
|`(.(J))=>`(ag (vSh 1) ao)
|`(.(K))=>`(cV "__init__" qual (cW st) (bR st) (aB st) (.ref T) kV doc pm an cdv ct)
|`(.(L))=>`(fun z=>nomatch z)
|`(.(M))=>`(vC (.int 3))
|`(.(N))=>`(fun d=>aa (Slot.sh d))
|`(.(O))=>`(.lst (sn.map D.str))
|`(.(P))=>`(cN 2 (bx (aA 0) (bx (aA 1) cM)))
|`(.(Q))=>`(vC (.int 2))
|`(.(R))=>`(lp M h r)
|`(.(S))=>`(by nofun)
|`(.(T))=>`(aF (c7 (DW.dt (gq (by exfalso) (gC (gk (gB (dn (gm rfl) rfl V.z_all gw (bS (DO.de (lcN ["row","bench_names","horizon"] (by left))) cu))))))) .(t) df) .(B))
|`(.(U))=>`(cD I q (by simp))
|`(.(V))=>`(.lst (ss.map bm))
|`(.(W))=>`(k==mL && env.scope.kind==.function && env.kindOf n==aa .cell)
|`(.(X))=>`(by and_intros)
local macro_rules
|`(.(Y))=>`(.frz o (.dK us))
|`(.(aa))=>`(.lst (js.map aX))
|`(.(ab))=>`(dE (show("has_kept":ai)∉cw by decide +kernel) rfl aI hh)
|`(.(ac))=>`(ag (vSh 0) ao)
|`(.(ad))=>`(fun _ _ _ _ _=>rfl)
|`(.(ae))=>`(gD bs ss js us ls ks h lm kp kvs)
|`(.(af))=>`(bF pos (aH es X.env))
|`(.(ag))=>`(.tail _ (.tail _ (.tail _ .(h))))
|`(.(ah))=>`(ac Key×D)
|`(.(ai))=>`(tb plP P)
|`(.(aj))=>`(bM "Facts" "grounds" (vSh 0))
|`(.(ak))=>`(N.length-(ps.length+1))
|`(.(al))=>`(faD bs ss js us ls ks h lm (koD o,mo) kvs (lk P) nw)
|`(.(am))=>`(fun b o e=>?_)
|`(.(ao))=>`(s.ws.map fun w=>((.inr w.1:Key),D.int w.2))
|`(.(ap))=>`(.Call (.Name x p) (e::es) [] pos)
|`(.(aq))=>`(aD rfl (aD rfl rfl gZ) rfl)
|`(.(as))=>`(ax rfl (ax rfl .(v)))
|`(.(au))=>`((jf (bN (b:=ar) ?_)).trans ((jf (bN (b:=ar) ?_)).trans (bU (f:=vSh 0) rfl)))
|`(.(av))=>`(.lst (bs.map bK))
|`(.(aw))=>`(.lst (bn.map D.str))
|`(.(ax))=>`(ac Key×V)
local macro_rules
|`(.(ay))=>`(bn fun _ _ _ _ _ _ _=>rfl)
|`(.(aA))=>`(.Call (.Attribute o m apos) (e::es) [] pos)
|`(.(aB))=>`(eM hN hv hd hcd)
|`(.(aC))=>`(b2 ixD (vSh 0) .(i))
|`(.(aD))=>`(.refl gh)
|`(.(aE))=>`(CalM .(a) P w K mg base "Shop")
|`(.(aF))=>`((items.toList.drop (sIx items.size 0 lo)).take (sIx items.size items.size hi-sIx items.size 0 lo))
|`(.(aG))=>`(ha pins s σ H _ I h)
|`(.(aH))=>`(.inr s.nm)
|`(.(aI))=>`(ne c _ r (by intro z;cases z))
|`(.(aK))=>`(.ref s.heap.objs.size)
|`(.(aL))=>`(.str s.nm)
|`(.(aN))=>`(he pins s σ H _ I h)
|`(.(aO))=>`(.Call (.Attribute o m apos) [] [] pos)
|`(.(aP))=>`(cV m qual (cW st) (bR st) (aB st) .none kV doc pm an cdv ct)
|`(.(aQ))=>`(V.cf_Grounds.re y)
|`(.(aR))=>`(.Subscript .(x) (.Constant (.int 0) kk pc) pk)
|`(.(aS))=>`(fun x=>⟨_,rfl⟩)
|`(.(aT))=>`(c0 es (t.put .(q)).2 (bw knd k,bP a))
|`(.(aU))=>`(V.cf_Shop.re y)
|`(.(aV))=>`(wiD (lk P) js lm h nw)
|`(.(aW))=>`(fun r s'=>r=.ok (.ret (.bool ah))/\OldK s₁.heap s'.heap/\s'.os=s₁.os/\lc s'.gens)
local macro_rules
|`(.(aX))=>`(fun b hb=>by cases hb)
|`(.(aY))=>`(if ([]:ac gI).isEmpty then 0 else 1)
|`(.(ba))=>`(J t.mask h n0)
|`(.(bc))=>`(fun b o hb e=>kk b o (by simpa using hb) e)
|`(.(bd))=>`(.inl (gh _ _ ha))
|`(.(be))=>`(aD rfl rfl rfl)
|`(.(bf))=>`(A.under (.builtin "type.__call__" ⟨.ref C::us,kw⟩))
|`(.(bg))=>`(iz bs ss js us ls ks h)
|`(.(bh))=>`(fun z=>hc (by simp[z]))
|`(.(bi))=>`(ss.take i)
|`(.(bj))=>`(s.heap.push {cls:=.type "range",data:=.fields #[.int lo t,.int hi u,.int 1 v]})
|`(.(bk))=>`(j9 (fK (.ref I)) _ >>= _)
|`(.(bl))=>`(ha pos pins s σ H _ I h)
|`(.(bm))=>`(ns.map V.int)
|`(.(bn))=>`(HT.sIx xs.length xs.length hi-HT.sIx xs.length 0 lo)
|`(.(bp))=>`(EP X pins σ Q)
|`(.(bq))=>`(kvs.any fun kv=>decide (kv.1=k))
|`(.(br))=>`(iB X N' scope cl C s₀ H₀ fp)
|`(.(bs))=>`(eN X.env scope.names [])
|`(.(bu))=>`(by simpa using hi)
|`(.(bv))=>`(apos.endLine==cpos.line)
local macro_rules
|`(.(bz))=>`(I.ok.hd hc)
|`(.(bB))=>`(bs.drop a++bs.take a)
|`(.(bC))=>`(aH [] X.env)
|`(.(bD))=>`(show ar=ah from hs)
|`(.(bE))=>`(fun s=>.int (fiH Q js nw s.nm))
|`(.(bF))=>`(all_cons rfl (all_cons rfl gK))
|`(.(bG))=>`(bo (szF (ag (bo (szF (ag (vSh 0) .(J)))) .(I))))
|`(.(bH))=>`(ne b _ q (by intro z;cases z))
|`(.(bI))=>`(fun z=>hb (by rw[z];exact qh))
|`(.(bJ))=>`(fun s=>.int (laH Q js lm h s))
|`(.(bK))=>`(by right)
local macro_rules|`(tactic|omega)=>`(tactic|first|(repeat(rename∃_,_=>z;clear z));lia|lia)
local macro_rules|`(tactic|ac_nf)=>`(tactic|first|exact Or.inl rfl|exact Or.inr rfl|exact Or.inr (Or.inl rfl)|exact Or.inr (Or.inr rfl)|assumption)
set_option bootstrap.genMatcherCode false
set_option genSizeOf false
set_option genSizeOfSpec false
noncomputable section
theorem oBd {α:Type u} {β:Type v} {o:aq α} {f:α->aq β} {b:β} (h:o.bind f=aa b):∃a,o=aa a/\f a=aa b:=Option.bind_eq_some_iff.mp h
theorem oMd {α:Type u} {β:Type v} {o:aq α} {f:α->β} {b:β} (h:o.map f=aa b):∃a,o=aa a/\f a=b:=Option.map_eq_some_iff.mp h
noncomputable section
section
open PySem PySem.Spec PyProof.Rows
noncomputable def qc:=@Option.bind_some
noncomputable def qd:=@List.getElem?_cons_zero
noncomputable def qe:=@List.getElem?_cons_succ
noncomputable def qf:=@Option.map_some
noncomputable def qg:=@List.length_map
noncomputable def qh:=@List.mem_cons_self
noncomputable def qi:=@List.mem_cons_of_mem
noncomputable def qj:=@List.length_cons
noncomputable def qk:=@List.length_append
noncomputable def ql:=@List.getElem?_map
noncomputable def qm:=@List.length_nil
noncomputable def qo:=@List.map_cons
noncomputable def qp:=@List.map_map
noncomputable def qq:=@List.cons_append
noncomputable def qr:=@Bool.false_eq_true
noncomputable def qt:=@Bool.false_ne_true
noncomputable def qu:=@Heap.get?_push_of_some
noncomputable def qv:=@Heap.lt_size
noncomputable def qw:=@Nat.le_refl
noncomputable def qx:=@wpAny_bind
noncomputable def qy:=@Heap.get?_update_other
noncomputable def qz:=@List.getElem?_set_ne
noncomputable def qA:=@List.getElem?_append_left
noncomputable def qB:=@wpAny_pure
noncomputable def qC:=@List.size_toArray
noncomputable def qD:=@Nat.ne_of_lt
noncomputable def qE:=@List.getElem?_eq_getElem
noncomputable def qF:=@List.length_take
noncomputable def qG:=@Nat.lt_of_lt_of_le
noncomputable def qH:=@Heap.get?_push_size
noncomputable def qI:=@UM
noncomputable def qJ:=@Array.getElem?_toList
noncomputable def qL:=@List.not_mem_nil
noncomputable def qM:=@List.getElem?_append_right
noncomputable def qN:=@bZ
noncomputable def qO:=@Nat.le_trans
noncomputable def qP:=@decide_eq_false
noncomputable def qQ:=@List.map_nil
noncomputable def qR:=@List.mem_of_getElem?
noncomputable def qS:=@List.mem_append_right
noncomputable def qT:=@List.nil_append
noncomputable def qU:=@decide_eq_true
noncomputable def qV:=@wpAny_holding
noncomputable def qW:=@List.length_range
noncomputable def qX:=@List.mem_map_of_mem
noncomputable def qY:=@if_pos
noncomputable def qZ:=@if_neg
end
section
namespace L2
open PySem PySem.Spec PyProof.Rows
noncomputable abbrev Key:=Sum aj ai
def nI:Key->av->aN
 |.inl k,v=>SB k v
 |.inr x,v=>SC x v
def Si (w:cA):Key->aj
 |.inl k=>hashInt k
 |.inr x=>hashStr w x
theorem ik:∀{k:Key} {v:av},nI k v=ah->(∃i t,k=nQ i/\v=uC i t)\/(∃x t,k=bX x/\v=uD x t)
 |.inl i,v,h=>by
  obtain⟨t,e⟩:=Value.isInt_shape (k:=i) (v:=v) h;exact .inl ⟨i,t,rfl,e⟩
 |.inr x,v,h=>by obtain⟨t,e⟩:=SD (x:=x) (v:=v) h;exact .inr ⟨x,t,rfl,e⟩
theorem Lg (i:aj) (t:Tok):nI (.inl i) (.int i t)=ah:=by simp[nI,SB]
theorem Iy (x:ai) (t:Tok):nI (.inr x) (.str x t)=ah:=by simp[nI,SC]
theorem Rr (a b:aj):decide ((nQ a:Key)=nQ b)=(a==b):=by
 by_cases e:a=b
 .subst e;simp
 .have h:¬(nQ a:Key)=nQ b:=fun q=>e (Sum.inl.inj q);rw[qP h];exact(kW.mpr e).symm
theorem KM (a b:ai):decide ((bX a:Key)=bX b)=decide (a=b):=by
 by_cases e:a=b
 .subst e;simp
 .have h:¬(bX a:Key)=bX b:=fun q=>e (g9 q);rw[qP h,qP e]
theorem K3 (a:aj) (b:ai):decide ((nQ a:Key)=bX b)=ar:=qP (fun q=>nomatch q)
theorem J3 (a:ai) (b:aj):decide ((bX a:Key)=nQ b)=ar:=qP (fun q=>nomatch q)
def cj (prog:dy) (w:cA):PySem.KeyKind prog w Key where
 is:=nI
 hash:=Si w
 inj:=fun v a b ha hb=>by
  rcases ik ha with⟨i,t,rfl,rfl⟩|⟨x,t,rfl,rfl⟩
  .rcases ik hb with⟨j,u,rfl,e⟩|⟨y,u,rfl,e⟩
   .injection e with e1 _;rw[e1]
   .exact nomatch e
  .rcases ik hb with⟨j,u,rfl,e⟩|⟨y,u,rfl,e⟩
   .exact nomatch e
   .injection e with e1 _;rw[e1]
 byValue:=fun k v h=>by rcases ik h with⟨i,t,rfl,rfl⟩|⟨x,t,rfl,rfl⟩<;>rfl
 pyHash:=fun hv h=>by
  rcases ik hv with⟨i,t,rfl,rfl⟩|⟨x,t,rfl,rfl⟩
  .exact wpAny_pyHash_int h
  .exact wpAny_pyHash_str h
 eqBool:=fun hu hv h=>by
  rcases ik hu with⟨i,t,rfl,rfl⟩|⟨x,t,rfl,rfl⟩
  .rcases ik hv with⟨j,u,rfl,rfl⟩|⟨y,u,rfl,rfl⟩
   .rw[Rr] at h;exact wpAny_eqBool_int h
   .rw[K3] at h;exact SeqAt.EqAt.int_str i t y u _ _ _ _ h
  .rcases ik hv with⟨j,u,rfl,rfl⟩|⟨y,u,rfl,rfl⟩
   .rw[J3] at h;exact SeqAt.EqAt.str_int x t j u _ _ _ _ h
   .rw[KM] at h;exact wpAny_eqBool_str h
 «strs»:=fun k x t v h=>by
  rcases ik h with⟨i,u,rfl,e⟩|⟨y,u,rfl,e⟩
  .exact nomatch e
  .injection e with e1 _;subst e1;cases v<;>rfl
theorem PH (prog:dy) (w:cA) (i:aj) (t:Tok):(cj prog w).is (.inl i) (.int i t)=ah:=Lg i t
theorem Sy (prog:dy) (w:cA) (x:ai) (t:Tok):(cj prog w).is (.inr x) (.str x t)=ah:=Iy x t
inductive V where
 |non|bl (b:aN)|int (i:aj)|str (x:ai)|ref (a:au)|ty (n:cE)
 deriving dz
noncomputable def bp:V->av->Prop
 |.non,u=>u=kX
 |.bl b,u=>u=kY b
 |.int i,u=>∃t,u=uC i t
 |.str x,u=>∃t,u=uD x t
 |.ref a,u=>u=bP a
 |.ty n,u=>u=kZ n
noncomputable abbrev aU:ac V->ac av->Prop:=Paired bp
theorem aU.length {xs:ac V} {us:ac av} (r:aU xs us):xs.length=us.length:=Paired.length r
theorem aU.get:∀{xs:ac V} {us:ac av} {i:ak} {x:V},aU xs us->xs[i]?=aa x->∃u,us[i]?=aa u/\bp x u
 |_,_,_,_,.nil,e=>by simp at e
 |_,_,0,_,.cons r _,e=>by simp at e;subst e;exact⟨_,rfl,r⟩
 |_,_,i+1,x,.cons _ t,e=>by obtain⟨u,h1,h2⟩:=aU.get (i:=i) (x:=x) t (by simpa using e);exact⟨u,by simpa using h1,h2⟩
theorem aU.set {x:V} {u:av} (r:bp x u):∀{xs:ac V} {us:ac av} (i:ak),aU xs us->aU (xs.set i x) (us.set i u)
 |_,_,_,.nil=>.nil
 |_,_,0,.cons _ t=>.cons r t
 |_,_,i+1,.cons q t=>.cons q (aU.set r i t)
theorem aU.append:∀{xs ys:ac V} {us ws:ac av},aU xs us->aU ys ws->aU (xs++ys) (us++ws)
 |_,_,[],_,r,s=>by cases r;exact s
 |_,_,_::_,_,r,s=>by obtain _|⟨r,t⟩:=r;exact .cons r (aU.append t s)
theorem aU.take:∀{xs:ac V} {us:ac av} (n:ak),aU xs us->aU (xs.take n) (us.take n)
 |_,_,0,_=>.nil
 |_,_,_+1,.nil=>.nil
 |_,_,n+1,.cons r t=>.cons r (aU.take n t)
theorem aU.drop:∀{xs:ac V} {us:ac av} (n:ak),aU xs us->aU (xs.drop n) (us.drop n)
 |_,_,0,r=>r
 |_,_,_+1,.nil=>.nil
 |_,_,n+1,.cons _ t=>aU.drop n t
def dX:aq V->aq av->Prop
 |some v,aa u=>bp v u
 |none,af=>True
 |_,_=>False
variable {κ:Type}
noncomputable def KV :ac (κ×V)->ac (κ×av)->Prop:=Paired fun(p:κ×V) (q:κ×av)=>p.1=q.1/\bp p.2 q.2
noncomputable def kV:Key->V
 |.inl i=>.int i
 |.inr x=>.str x
inductive HO where
 |lst (xs:ac V)
 |tup (xs:ac V)
 |dK (kvs:ac (Key×V))|dT (kvs:ac .(ax))
 |set (S:aj->aN) (n:ak)
 |ins (C dx:au) (fs:ac (ai×V))
 |own (x:au)
 |frz (o:Obj) (u:HO)
 |tbl (ps:bI av)
 |ext (φ:Heap->Prop)
noncomputable abbrev Hp:=au->aq HO
noncomputable def upd (H:Hp) (a:au) (o:HO):Hp:=fun b=>if b=a then aa o else H b
variable {H:Hp} {a:au}
theorem aV {o:HO} :upd H a o a=aa o:=by unfold upd;rw[qY rfl]
theorem ay {b:au} {o:HO} (h:b≠a):upd H a o b=H b:=by unfold upd;rw[qZ h]
theorem xE {b:au} {o u:HO} (h:H a=aa o) (h':H b=aa u) (d:o≠u):a≠b:=by intro e;subst e;rw[h] at h';exact d (qI h')
theorem bi {b:au} {o:HO} (h:H a=aa o) (h':H b=af):a≠b:=by intro e;subst e;rw[h] at h';cases h'
section
variable (P:dy) (w:cA)
def ca (H:Hp) (h:Heap) (a:au):HO->Prop
 |.lst xs=>xs.length<=aJ/\∃(its:ac av) (n:ak),aU xs its/\h.get? a=aa {cls:=.type "list",data:=.seq its.toArray n}
 |.tup xs=>xs.length<=aJ/\∃its:ac av,aU xs its/\uE h a its.toArray
 |.dK kvs=>kvs.length<=aJ/\(a==hG)=ar/\∃vs,KV kvs vs/\h.DictOf (cj P w) a vs
 |.dT kvs=>kvs.length<=aJ/\(a==hG)=ar/\∃xs:ac (ac Key×au×av),
   Paired (fun(p:ac Key×V) (q:ac Key×au×av)=>p.1=q.1/\H q.2.1=aa (.tup (p.1.map kV))/\bp p.2 q.2.2) kvs xs /\
   ∃o es ep,h.get? a=aa o/\o.ExactDict/\o.data=.dict es ep/\es.toList=xs.map (entryOfKey (k0 (cj P w)))/\(xs.map (·.1)).Nodup
 |.set S n=>h.SetOf (intKind P w) a S n
 |.ins C dx fs=>H dx=aa (.own a)/\fs.length<=1000/\dx≠a/\h.get? a=aa (my C dx) /\
   ∃mA,h.Ns1 dx mA/\(∀f,dX (fs.lookup f) (mA f))/\Fg mA (fs.map (·.1))
 |.own _=>∃o,h.get? a=aa o
 |.frz o u=>h.get? a=aa o/\ca H h a u
 |.tbl ps=>h.get? a=aa {cls:=.none,data:=.fields ps}
 |.ext φ=>φ h/\(∃o,h.get? a=aa o)/\∀h1 h2:Heap,φ h1->(∀o,h1.get? a=aa o->h2.get? a=aa o)->φ h2
noncomputable def HOk (H:Hp) (h:Heap):Prop:=∀a o,H a=aa o->ca P w H h a o
end
variable {P:dy} {w:cA} {H':Hp} {h':Heap}
section
variable {h:Heap} {o:HO}
theorem ca.lt (x:ca P w H h a o):a<h.objs.size:=by
 cases o with
 |lst xs=>obtain⟨_,_,_,_,e⟩:=x;exact qv e
 |tup xs=>obtain⟨_,_,_,p⟩:=x;exact p.lt
 |dK kvs=>obtain⟨_,_,_,_,o,_,_,e,_⟩:=x;exact qv e
 |dT kvs=>obtain⟨_,_,_,_,o,_,_,e,_⟩:=x;exact qv e
 |set S n=>obtain⟨o,_,_,_,e,_⟩:=x;exact qv e
 |ins C dx fs=>obtain⟨_,_,_,e,_⟩:=x;exact qv e
 |own y=>obtain⟨_,e⟩:=x;exact qv e
 |frz ob u=>obtain⟨e,_⟩:=x;exact qv e
 |tbl ps=>exact qv (show h.get? a=aa _ from x)
 |ext φ=>obtain⟨_,⟨_,e⟩,_⟩:=x;exact qv e
theorem Paired.mapP {α β:Type} {F G:α->β->Prop}:∀{l₁:ac α} {l₂:ac β},Paired F l₁ l₂->(∀a b,F a b->G a b)->Paired G l₁ l₂
 |_,[],r,_=>by cases r;exact .nil
 |_,_::_,r,f=>by obtain _|⟨r,t⟩:=r;exact .cons (f _ _ r) (Paired.mapP t f)
theorem ca.stay (x:ca P w H h a o) (k:∀b u,(b=a\/H b=aa (.own a))->h.get? b=aa u->h'.get? b=aa u)
  (ho:∀b,H b=aa (.own a)->H' b=aa (.own a)) (ht:∀b xs,H b=aa (.tup xs)->H' b=aa (.tup xs)):ca P w H' h' a o:=by
 induction o with
 |lst xs=>obtain⟨z,its,n,r,e⟩:=x;exact⟨z,its,n,r,k _ _ (.inl rfl) e⟩
 |tup xs=>obtain⟨z,its,r,ob,e,c⟩:=x;exact⟨z,its,r,ob,k _ _ (.inl rfl) e,c⟩
 |dK kvs=>obtain⟨z,y,vs,r,ob,es,ep,e,c⟩:=x;exact⟨z,y,vs,r,ob,es,ep,k _ _ (.inl rfl) e,c⟩
 |dT kvs=>
  obtain⟨z,y,xs,r,ob,es,ep,e,c⟩:=x;exact⟨z,y,xs,Paired.mapP r fun p q z=>⟨z.1,ht _ _ z.2.1,z.2.2⟩,ob,es,ep,k _ _ (.inl rfl) e,c⟩
 |set S n=>obtain⟨ob,es,ep,t,e,c⟩:=x;exact⟨ob,es,ep,t,k _ _ (.inl rfl) e,c⟩
 |ins C dx fs=>
  obtain⟨d,z,ne,e,mA,⟨od,es,ep,e2,c⟩,r⟩:=x;exact⟨ho _ d,z,ne,k _ _ (.inl rfl) e,mA,⟨od,es,ep,k _ _ (.inr d) e2,c⟩,r⟩
 |own y=>obtain⟨ob,e⟩:=x;exact⟨ob,k _ _ (.inl rfl) e⟩
 |frz ob u ih=>obtain⟨e,q⟩:=x;exact⟨k _ _ (.inl rfl) e,ih q⟩
 |tbl ps=>
  have e:h.get? a=aa {cls:=.none,data:=.fields ps}:=x;show h'.get? a=aa {cls:=.none,data:=.fields ps};exact k a _ (.inl rfl) e
 |ext φ=>obtain⟨p,⟨o,e⟩,st⟩:=x;exact⟨st _ _ p fun o q=>k _ _ (.inl rfl) q,⟨o,k _ _ (.inl rfl) e⟩,st⟩
theorem HOk.lt (x:HOk P w H h) (e:H a=aa o):a<h.objs.size:=(x a o e).lt
theorem HOk.fresh (x:HOk P w H h) (e:h.objs.size<=a):H a=af:=by
 cases q:H a with
 |none=>rfl
 |some u=>exact bu (qG (x.lt q) e) (fE _)
theorem HOk.kept (x:HOk P w H h) (k:∀b u,h.get? b=aa u->h'.get? b=aa u):HOk P w H h':=fun a o e=>
 (x a o e).stay (fun b u _ q=>k b u q) (fun _ q=>q) fun _ _ q=>q
theorem HOk.laid (x:HOk P w H h) (k:∀b u,h.get? b=aa u->h'.get? b=aa u) (hp:h.objs.size<=a) (new:ca P w (upd H a o) h' a o):HOk P w (upd H a o) h':=fun b u e=>by
 have hn:=x.fresh hp;by_cases hb:b=a
 .subst hb;rw[aV] at e;cases e;exact new
 .rw[ay hb] at e;exact(x b u e).stay (fun c v _ q=>k c v q) (fun c q=>by rw[ay (bi q hn)];exact q) fun c xs q=>by rw[ay (bi q hn)];exact q
end
noncomputable def Rd (H:Hp) (a:au) (u:HO):Prop:=H a=aa u\/∃o,H a=aa (.frz o u)
theorem Rd.ok {h:Heap} {u:HO} (r:Rd H a u) (x:HOk P w H h):ca P w H h a u:=by
 rcases r with r|⟨o,r⟩
 .exact x a u r
 .obtain⟨_,q⟩:=x a _ r;exact q
noncomputable def Mut:aq HO->Prop
 |some (.lst _)=>True
 |some (.dK _)=>True
 |some (.dT _)=>True
 |some (.set _ _)=>True
 |some (.ins _ _ _)=>True
 |some (.ext _)=>True
 |_=>False
section
variable {h:Heap} {x e:au} {o':HO}
theorem HOk.write (ok:HOk P w H h) (mu:Mut (H x)) (he:e=x\/H e=aa (.own x)) (k:∀b u,b≠e->h.get? b=aa u->h'.get? b=aa u) (heo:∃u,h'.get? e=aa u)
  (new:ca P w (upd H x o') h' x o'):HOk P w (upd H x o') h':=fun b u q=>by
 have nown:∀c y,H c=aa (.own y)->c≠x:=fun c y r z=>by subst z;rw[r] at mu;exact mu
 have ntup:∀c xs,H c=aa (.tup xs)->c≠x:=fun c xs r z=>by subst z;rw[r] at mu;exact mu
 by_cases hb:b=x
 .subst hb;rw[aV] at q;cases q;exact new
 .rw[ay hb] at q;by_cases hbe:b=e
  .have q':H b=aa (.own x):=by
    rcases he with z|z
    .exact bu (hbe.trans z) hb
    .rw[hbe];exact z
   rw[q] at q';cases q';obtain⟨v,hv⟩:=heo;exact⟨v,by rw[hbe];exact hv⟩
  .refine(ok b u q).stay (fun c v hc r=>k c v ?_ r) (fun c r=>by rw[ay (nown c b r)];exact r) fun c xs r=>by rw[ay (ntup c xs r)];exact r
   rcases hc with rfl|hc
   .exact hbe
   .rintro rfl;rcases he with z|z
    .exact nown c b hc z
    .rw[hc] at z;cases z;exact hb rfl
end
structure Un (fs ex:ac au) (H H':Hp) (h h':Heap):Prop where
 keep:∀b o,h.get? b=aa o->H b=af->b∉fs->b∉ex->h'.get? b=aa o
 slot:∀b o,h.get? b=aa o->H b=af->b∈fs->b∉ex->∃sl,h'.get? b=aa {o with slots:=sl}
 free:∀b o,h.get? b=aa o->H b=af->b∉ex->H' b=af
 there:∀b o,h.get? b=aa o->b∉ex->∃o',h'.get? b=aa o'
 tups:∀b xs,H b=aa (.tup xs)->H' b=aa (.tup xs)
 frzs:∀b o u,H b=aa (.frz o u)->H' b=aa (.frz o u)
 tbls:∀b ps,H b=aa (.tbl ps)->∃more,H' b=aa (.tbl (ps++more))
variable {H1 H2:Hp}
section
variable {fs fs' ex ex':ac au} {h h1 h2:Heap} {x e:au} {o:HO}
theorem Un.any (u:Un fs ex H H1 h h1) {b:au} {ob:Obj} (q:h.get? b=aa ob) (n:H b=af) (hx:b∉ex):∃sl,h1.get? b=aa {ob with slots:=sl}:=by
 by_cases hb:b∈fs
 .exact u.slot b ob q n hb hx
 .exact⟨ob.slots,u.keep b ob q n hb hx⟩
theorem Un.kept (k:∀b u,h.get? b=aa u->h'.get? b=aa u):Un fs ex H H h h':=
 ⟨fun b ob q _ _ _=>k b ob q,fun b ob q _ _ _=>⟨ob.slots,k b ob q⟩,fun _ _ _ n _=>n,fun b ob q _=>⟨ob,k b ob q⟩,fun _ _ q=>q,fun _ _ _ q=>q,fun _ ps q=>⟨#[],by rw[q];simp⟩⟩
theorem Un.refl:Un fs ex H H h h:=Un.kept fun _ _ q=>q
theorem Un.laid (k:∀b u,h.get? b=aa u->h'.get? b=aa u) (hp:h.objs.size<=a) (hn:H a=af):Un fs ex H (upd H a o) h h' where
 keep:=fun b u q _ _ _=>k b u q
 slot:=fun b u q _ _ _=>⟨u.slots,k b u q⟩
 free:=fun b u q n _=>by rw[ay (qD (qG (qv q) hp))];exact n
 there:=fun b u q _=>⟨u,k b u q⟩
 tups:=fun b xs q=>by rw[ay (bi q hn)];exact q
 frzs:=fun b u xs q=>by rw[ay (bi q hn)];exact q
 tbls:=fun b ps q=>⟨#[],by rw[ay (bi q hn),q];simp⟩
theorem Un.write (mu:Mut (H x)) (he:e=x\/H e=aa (.own x)) (k:∀b u,b≠e->h.get? b=aa u->h'.get? b=aa u) (heo:∃u,h'.get? e=aa u):Un fs ex H (upd H x o) h h':=by
 have hx:∀b,H b=af->b≠x:=fun b n z=>by subst z;rw[n] at mu;exact mu
 have hb:∀b,H b=af->b≠e:=fun b n z=>by
  subst z;rcases he with r|r
  .exact hx b n r
  .rw[n] at r;cases r
 have hm:∀b u,H b=aa u->¬Mut (aa u)->b≠x:=fun b u q nm z=>by subst z;rw[q] at mu;exact nm mu
 refine⟨fun b u q n _ _=>k b u (hb b n) q,fun b u q n _ _=>⟨u.slots,k b u (hb b n) q⟩,fun b u q n _=>by rw[ay (hx b n)];exact n,fun b u q _=>?_,
  fun b xs q=>by rw[ay (hm b _ q fun z=>z)];exact q,fun b u xs q=>by rw[ay (hm b _ q fun z=>z)];exact q,fun b ps q=>⟨#[],by rw[ay (hm b _ q fun z=>z),q];simp⟩⟩
 by_cases hbe:b=e
 .subst hbe;exact heo
 .exact⟨u,k b u hbe q⟩
end
noncomputable def trk (h:Heap) (H:Hp):ac au:=(ck h.objs.size).filter fun a=>(H a).isSome
def jB (h:Heap) (H:Hp):Heap:=PySem.W.hideAll h (trk h H)
theorem Ny (h:Heap) (H:Hp):(jB h H).objs.size=h.objs.size:=PySem.W.hideAll_size _ _
theorem Hn {h:Heap} {b:au} {o:Obj} (e:h.get? b=aa o) (n:H b=af):(jB h H).get? b=aa o:=
 PySem.W.hideAll_get _ e fun hm=>by have q:(H b).isSome=ah:=(uF.mp hm).2;rw[n] at q;simp at q
theorem J1 {h:Heap} {b:au} {o:Obj} (e:(jB h H).get? b=aa o):h.get? b=aa o/\H b=af:=by
 have e':h.get? b=aa o:=PySem.W.of_hideAll (trk h H) e;refine⟨e',?_⟩;cases q:H b with
 |none=>rfl
 |some x=>
  have hm:b∈trk h H:=uF.mpr ⟨fH.mpr (qv e'),by simp[q]⟩;have z:(jB h H).get? b=af:=PySem.W.hideAll_none (trk h H) hm;rw[z] at e;cases e
noncomputable def Np (g h:Heap) (L:au):ac (au×Obj):=(ck h.objs.size).filterMap fun a=>if a=L\/(g.get? a).isSome=ah then af else (h.get? a).map fun o=>(a,o)
def bL (g h:Heap) (L d:au):ac (au×Obj):=(Np g h L).filter fun p=>decide (p.1≠d)
structure Mod (K:aM) (mg:ai->aq av) (base:Heap):Prop where
 kin:K.In base
 glob:base.Ns eU mg
 blt:∃mb,base.Ns Fh mb/\∀x:ai,x≠"__name__"->mb x=dH x
 nolimit:base.NoLimit
structure Cx where
 prog:dy
 w:cA
 K:aM
 mg:ai->aq av
 base:Heap
 A:cv
 N:ac ai
 s₀:aE
 H₀:Hp
 env:ci
 outer:ac ci
 stack:ac ci
 ex:ac au
 fn:ai->aN
 calm:aN
 pn:ac (au×Obj)
 xe:av->aE->Prop
noncomputable def frs (l:ac ci):ac au:=l.filterMap (·.frame)
abbrev Cx.fs (X:Cx):ac au:=frs X.outer
noncomputable def Vis (sc:Scope) (x:ai):Prop:=sc.names.lookup x=aa .local\/sc.names.lookup x=aa .cell\/sc.names.lookup x=aa .free
noncomputable def Loc (sc:Scope) (x:ai):Prop:=sc.names.lookup x=aa .local\/sc.names.lookup x=aa .cell
noncomputable def Og (env:ci) (h:Heap) (m:ai->aq av) (x:ai) (u:av):Prop:=
 (env.kindOf x=aa .local/\m x=aa u)\/((env.kindOf x=aa .cell\/env.kindOf x=aa .free)/\∃c,env.cells.lookup x=aa c/\h.IsCell c (aa u))
structure Cx.Ok (X:Cx):Prop where
 mod:Mod X.K X.mg X.base
 kind:X.env.scope.kind=.function
 glob:X.env.globals=eU
 blt:X.env.builtins=Fh
 above:X.s₀.heap.objs.size<=X.env.locals
 inj:∀x y c,X.env.cells.lookup x=aa c->X.env.cells.lookup y=aa c->x=y
 has:∀x,(X.env.kindOf x=aa .cell\/X.env.kindOf x=aa .free)->∃c,X.env.cells.lookup x=aa c
 cab:∀x c,X.fn x=ah->X.env.cells.lookup x=aa c->X.s₀.heap.objs.size<=c
 hd:X.calm=ah->X.A.handled=af
 frames:X.A.frames=aa X.stack
 stk:X.stack=X.outer\/(X.stack=X.env::X.outer/\X.env.frame=aa X.env.locals)
 exf:∀b∈X.ex,b≠X.env.locals/\∀x c,X.env.cells.lookup x=aa c->c≠b
 bs:∀b o,X.base.get? b=aa o->X.s₀.heap.get? b=aa o/\X.H₀ b=af
 bsz:X.base.objs.size<=X.s₀.heap.objs.size
 noex:∀b o,X.base.get? b=aa o->b∉X.ex
 exfs:∀b∈X.ex,b∉X.fs
 funs:X.s₀.heap.FunFrames X.base X.outer
 frf:∀b∈X.fs,X.H₀ b=af
structure Inv (X:Cx) (pins:ac (au×Obj)) (σ:ac (aq V)) (H:Hp) (s:aE):Prop where
 ok:X.Ok
 os:s.os=X.s₀.os
 bare:lc s.gens
 base:Un X.fs X.ex X.H₀ H X.s₀.heap s.heap
 loc:∃m,s.heap.Ns X.env.locals m/\∀(i:ak) (x:ai) (v:V),X.N[i]?=aa x->σ[i]?=aa (aa v)->Vis X.env.scope x->∃u,bp v u/\Og X.env s.heap m x u
 cell:∀x c,X.env.cells.lookup x=aa c->∃v,s.heap.IsCell c v
 free:H X.env.locals=af
 freeC:∀x c,X.env.cells.lookup x=aa c->H c=af
 pin:∀p∈X.pn++pins,s.heap.get? p.1=aa p.2/\H p.1=af/\p.1≠X.env.locals/\p.1∉X.fs/\∀v,p.2.data≠.cell v
 hok:HOk X.prog X.w H s.heap
 len:σ.length=X.N.length
variable {X:Cx} {pins:ac (au×Obj)} {s s':aE} {t' i j:ak} {d':Drawn} {N:ac ai} {x:ai} {A:cv} {E:av->aE->Prop} {v:V} {u:av}
section
variable {σ:ac (aq V)}
theorem Cx.Ok.nofr (ok:X.Ok) {b:au} {o:Obj} (e:X.base.get? b=aa o):b∉X.fs:=fun hb=>by have:=(ok.funs.mem hb).1;rw[e] at this;cases this
theorem Inv.bs (I:Inv X pins σ H s):∀b o,X.base.get? b=aa o->s.heap.get? b=aa o/\H b=af:=fun b o e=>
 ⟨I.base.keep b o (I.ok.bs b o e).1 (I.ok.bs b o e).2 (I.ok.nofr e) (I.ok.noex b o e),I.base.free b o (I.ok.bs b o e).1 (I.ok.bs b o e).2 (I.ok.noex b o e)⟩
theorem Inv.bk (I:Inv X pins σ H s):∀b o,X.base.get? b=aa o->s.heap.get? b=aa o:=fun b o e=>(I.bs b o e).1
theorem Inv.mod (I:Inv X pins σ H s):Mod X.K X.mg X.base:=I.ok.mod
theorem Inv.kIn (I:Inv X pins σ H s):X.K.In s.heap:=I.ok.mod.kin.keeps I.bk
theorem Inv.lt (I:Inv X pins σ H s):X.env.locals<s.heap.objs.size:=let ⟨_,hn,_⟩:=I.loc;hn.lt
theorem Inv.sz (I:Inv X pins σ H s):X.s₀.heap.objs.size<=s.heap.objs.size:=qO I.ok.above (pL I.lt)
theorem Inv.nofs (I:Inv X pins σ H s) (h:s.heap.objs.size<=a):a∉X.fs:=fun hb=>by obtain⟨_,o,ho,_⟩:=I.ok.funs.mem hb;exact bu (qG (qv ho) (qO I.sz h)) (fE _)
theorem Inv.cne (I:Inv X pins σ H s):∀x c,X.env.cells.lookup x=aa c->c≠X.env.locals:=fun x c e z=>by obtain⟨v,o,ho,hd⟩:=I.cell x c e;obtain⟨m,⟨o',es,ep,ho',hd',_⟩,_⟩:=I.loc;rw[z,ho'] at ho;cases ho;rw[hd'] at hd;cases hd
theorem Inv.funs (I:Inv X pins σ H s):s.heap.FunFrames X.base X.outer:=by
 have all:∀(l:ac ci),(∀b∈frs l,b∈X.fs)->X.s₀.heap.FunFrames X.base l->s.heap.FunFrames X.base l:=by
  intro l
  induction l with
  |nil=>intro _ _;trivial
  |cons env r ih=>
   intro hs hl;obtain⟨hk,⟨L,o,hf,hn,ho,hd⟩,hr⟩:=hl;have hL:L∈X.fs:=hs L (by unfold frs;rw[yF,hf];exact qh);obtain⟨sl,e⟩:=I.base.slot L o ho (I.ok.frf L hL) hL fun z=>I.ok.exfs L z hL;exact⟨hk,⟨L,_,hf,hn,e,hd⟩,ih (fun b hb=>hs b (by unfold frs;rw[yF,hf];exact qi _ hb)) hr⟩
 exact all X.outer (fun _ hb=>hb) I.ok.funs
theorem Inv.stack (I:Inv X pins σ H s):s.heap.FunFrames X.base X.stack:=by
 rcases I.ok.stk with e|⟨e,hf⟩
 .rw[e];exact I.funs
 .rw[e];obtain⟨m,hn,_⟩:=I.loc;refine .cons (by rw[I.ok.kind];decide) hf hn ?_ I.funs;exact Heap.get?_none_of_le (qO I.ok.bsz I.ok.above)
theorem Inv.stkSub (I:Inv X pins σ H s):∀b∈frs X.stack,b∈X.env.locals::X.fs:=fun b hb=>by
 rcases I.ok.stk with e|⟨e,hf⟩
 .rw[e] at hb;exact qi _ hb
 .rw[e] at hb;unfold frs at hb;rw[yF,hf] at hb;exact hb
theorem Inv.stkFree (I:Inv X pins σ H s):∀b∈frs X.stack,H b=af:=fun b hb=>by
 rcases bZ.mp (I.stkSub b hb) with e|hb
 .rw[e];exact I.free
 .obtain⟨_,o,ho,_⟩:=I.ok.funs.mem hb;exact I.base.free b o ho (I.ok.frf b hb) fun z=>I.ok.exfs b z hb
theorem Inv.step {g':bI pM} {ch:ac au} (I:Inv X pins σ H s)
  (hch:∀b∈ch,(b∈X.ex\/X.s₀.heap.objs.size<=b)/\b≠X.env.locals/\(∀x c,X.env.cells.lookup x=aa c->c≠b)/\∀p∈X.pn++pins,p.1≠b)
  (keep:∀b o,b≠X.env.locals->b∉X.fs->b∉ch->s.heap.get? b=aa o->H b=af->h'.get? b=aa o)
  (slot:∀b o,b≠X.env.locals->b∈X.fs->b∉ch->s.heap.get? b=aa o->H b=af->∃sl,h'.get? b=aa {o with slots:=sl}) (free:∀b o,b∉ch->s.heap.get? b=aa o->H b=af->H' b=af)
  (there:∀b o,b∉ch->s.heap.get? b=aa o->∃o',h'.get? b=aa o')
  (tups:∀b xs,H b=aa (.tup xs)->H' b=aa (.tup xs)) (frzs:∀b o u,H b=aa (.frz o u)->H' b=aa (.frz o u)) (tbls:∀b ps,H b=aa (.tbl ps)->∃more,H' b=aa (.tbl (ps++more)))
  (ns:∀m,s.heap.Ns X.env.locals m->h'.Ns X.env.locals m) (hok:HOk X.prog X.w H' h') (hg:lc g') :
  Inv X pins σ H' {s with heap:=h',gens:=g',drawn:=d',toks:=t'}:=by
 have neL:∀b o,X.s₀.heap.get? b=aa o->b≠X.env.locals:=fun b o e=>qD (qG (qv e) I.ok.above);have neC:∀b o,X.s₀.heap.get? b=aa o->b∉X.ex->b∉ch:=fun b o e hx hb=>by
  rcases(hch b hb).1 with z|z
  .exact hx z
  .exact bu (qG (qv e) z) (fE _)
 have cellK:∀x c,X.env.cells.lookup x=aa c->∀v,s.heap.IsCell c v->h'.IsCell c v:=fun x c e v ⟨o,ho,hd⟩=>by
  have nch:c∉ch:=fun z=>(hch c z).2.2.1 x c e rfl;by_cases hc:c∈X.fs
  .obtain⟨sl,q⟩:=slot c o (I.cne x c e) hc nch ho (I.freeC x c e);exact⟨_,q,hd⟩
  .exact⟨o,keep c o (I.cne x c e) hc nch ho (I.freeC x c e),hd⟩
 refine⟨I.ok,I.os,hg,⟨fun b o e n hb hx=>?_,fun b o e n hb hx=>?_,fun b o e n hx=>?_,fun b o e hx=>?_,fun b xs e=>tups b xs (I.base.tups b xs e),fun b o xs e=>frzs b o xs (I.base.frzs b o xs e),fun b ps e=>?_⟩,?_,fun x c e=>?_,?_,fun x c e=>?_,fun p hp=>?_,hok,I.len⟩
 .exact keep b o (neL b o e) hb (neC b o e hx) (I.base.keep b o e n hb hx) (I.base.free b o e n hx)
 .obtain⟨sl,e1⟩:=I.base.slot b o e n hb hx;obtain⟨sl',e2⟩:=slot b _ (neL b o e) hb (neC b o e hx) e1 (I.base.free b o e n hx);exact⟨sl',e2⟩
 .obtain⟨o',e1⟩:=I.base.there b o e hx;exact free b o' (neC b o e hx) e1 (I.base.free b o e n hx)
 .obtain⟨o',e1⟩:=I.base.there b o e hx;exact there b o' (neC b o e hx) e1
 .obtain⟨m1,e1⟩:=I.base.tbls b ps e;obtain⟨m2,e2⟩:=tbls b _ e1;exact⟨m1++m2,by rw[e2,Array.append_assoc]⟩
 .obtain⟨m,hn,hl⟩:=I.loc;refine⟨m,ns m hn,fun i x v e1 e2 e3=>?_⟩;obtain⟨u,r,l⟩:=hl i x v e1 e2 e3;refine⟨u,r,?_⟩;rcases l with l|⟨k,c,e,z⟩
  .exact .inl l
  .exact .inr ⟨k,c,e,cellK x c e _ z⟩
 .obtain⟨v,z⟩:=I.cell x c e;exact⟨v,cellK x c e v z⟩
 .obtain⟨m,⟨o,_,_,ho,_⟩,_⟩:=I.loc;exact free _ o (fun z=>(hch _ z).2.1 rfl) ho I.free
 .obtain⟨v,o,ho,hd⟩:=I.cell x c e;exact free c o (fun z=>(hch c z).2.2.1 x c e rfl) ho (I.freeC x c e)
 .obtain⟨e,n,ne,nf,d⟩:=I.pin p hp;have nch:p.1∉ch:=fun z=>(hch p.1 z).2.2.2 p hp rfl;exact⟨keep p.1 p.2 ne nf nch e n,free p.1 p.2 nch e n,ne,nf,d⟩
theorem Inv.un (I:Inv X pins σ H s) (u:Un X.fs [] H H' s.heap h') (hok:HOk X.prog X.w H' h'):Inv X pins σ H' {s with heap:=h',toks:=t'}:=by
 obtain⟨m,⟨o,es,ep,ho,r⟩,_⟩:=id I.loc;obtain⟨sl,hL⟩:=u.any ho I.free (by simp);exact I.step (g':=s.gens) (d':=s.drawn) (ch:=[]) (fun _ z=>nomatch z) (fun b o _ hb _ e n=>u.keep b o e n hb (by simp)) (fun b o _ hb _ e n=>u.slot b o e n hb (by simp)) (fun b o _ e n=>u.free b o e n (by simp)) (fun b o _ e=>u.there b o e (by simp)) u.tups u.frzs u.tbls (fun m' hm=>by obtain⟨o',es',ep',ho',r'⟩:=hm;rw[ho] at ho';cases ho';exact⟨_,es',ep',hL,r'⟩) hok I.bare
theorem Inv.call {g':bI pM} {ch:ac au} (I:Inv X pins σ H s) (u:Un (frs X.stack) ch H H' s.heap h') (hok:HOk X.prog X.w H' h') (hg:lc g')
  (hch:∀b∈ch,(b∈X.ex\/X.s₀.heap.objs.size<=b)/\b≠X.env.locals/\(∀x c,X.env.cells.lookup x=aa c->c≠b)/\∀p∈X.pn++pins,p.1≠b) :
  Inv X pins σ H' {s with heap:=h',gens:=g',drawn:=d',toks:=t'}:=by
 obtain⟨m,⟨o,es,ep,ho,r⟩,_⟩:=id I.loc;obtain⟨sl,hL⟩:=u.any ho I.free fun z=>(hch _ z).2.1 rfl;exact I.step (ch:=ch) hch (fun b o hL hb hc e n=>u.keep b o e n (fun z=>(bZ.mp (I.stkSub b z)).elim hL hb) hc) (fun b o _ _ hc e n=>u.any e n hc) (fun b o hc e n=>u.free b o e n hc) (fun b o hc e=>u.there b o e hc) u.tups u.frzs u.tbls (fun m' hm=>by obtain⟨o',es',ep',ho',r'⟩:=hm;rw[ho] at ho';cases ho';exact⟨_,es',ep',hL,r'⟩) hok hg
theorem Inv.turned {it:au} (I:Inv X pins σ H s) (k:∀b o,b≠it->s.heap.get? b=aa o->h'.get? b=aa o) (hn:H it=af) (hL:it≠X.env.locals)
  (h1:it∈X.ex\/X.s₀.heap.objs.size<=it) (h2:∀x c,X.env.cells.lookup x=aa c->c≠it) (h3:∀p∈X.pn++pins,p.1≠it):Inv X pins σ H {s with heap:=h',toks:=t'}:=by
 have nit:∀b u,H b=aa u->b≠it:=fun b u e z=>by rw[z,hn] at e;cases e
 refine I.step (g':=s.gens) (d':=s.drawn) (ch:=[it]) (fun b hb=>?_) (fun b o _ _ hc e _=>k b o .(bh) e) (fun b o _ _ hc e _=>⟨o.slots,k b o .(bh) e⟩) (fun _ _ _ _ n=>n)
  (fun b o hc e=>⟨o,k b o .(bh) e⟩) (fun _ _ e=>e) (fun _ _ _ e=>e) (fun b ps e=>⟨#[],by rw[e];simp⟩) (fun m hm=>?_) (fun b u e=>?_) I.bare
 .have e:b=it:=by simpa using hb
  subst e;exact⟨h1,hL,h2,h3⟩
 .obtain⟨o,es,ep,ho,r⟩:=hm;exact⟨o,es,ep,k _ o (cH hL) ho,r⟩
 .refine(I.hok b u e).stay (fun c v hc q=>k c v ?_ q) (fun _ q=>q) fun _ _ q=>q;rcases hc with z|z
  .rw[z];exact nit b u e
  .exact nit c _ z
theorem Inv.tok (I:Inv X pins σ H s) (t:ak):Inv X pins σ H {s with toks:=t}:=I.un (h':=s.heap) (t':=t) Un.refl I.hok
theorem Inv.kept {t':ak} (I:Inv X pins σ H s) (k:∀b u,s.heap.get? b=aa u->h'.get? b=aa u):Inv X pins σ H {s with heap:=h',toks:=t'}:=I.un (Un.kept k) (I.hok.kept k)
theorem Inv.laid {a:au} {o:HO} {t':ak} (I:Inv X pins σ H s) (k:∀b u,s.heap.get? b=aa u->h'.get? b=aa u) (hp:s.heap.objs.size<=a) (new:ca X.prog X.w (upd H a o) h' a o) :
  Inv X pins σ (upd H a o) {s with heap:=h',toks:=t'}:=I.un (Un.laid k hp (I.hok.fresh hp)) (I.hok.laid k hp new)
theorem Inv.write {x e:au} {o:HO} {t':ak} (I:Inv X pins σ H s) (mu:Mut (H x)) (he:e=x\/H e=aa (.own x)) (k:∀b u,b≠e->s.heap.get? b=aa u->h'.get? b=aa u) (heo:∃u,h'.get? e=aa u)
  (new:ca X.prog X.w (upd H x o) h' x o):Inv X pins σ (upd H x o) {s with heap:=h',toks:=t'}:=I.un (Un.write mu he k heo) (I.hok.write mu he k heo new)
theorem Inv.pins_of {pins':ac (au×Obj)} (I:Inv X pins σ H s) (h:∀p∈pins',s.heap.get? p.1=aa p.2/\H p.1=af/\p.1≠X.env.locals/\p.1∉X.fs/\∀v,p.2.data≠.cell v):Inv X pins' σ H s:=
 ⟨I.ok,I.os,I.bare,I.base,I.loc,I.cell,I.free,I.freeC,fun p hp=>(cT.mp hp).elim (fun z=>I.pin p (mz _ z)) (h p),I.hok,I.len⟩
theorem Bi (hN:N.Nodup) (a:N[i]?=aa x) (b:N[j]?=aa x):i=j:=by obtain⟨h1,e1⟩:=fJ.mp a;obtain⟨h2,e2⟩:=fJ.mp b;exact(Fi hN).mp (e1.trans e2.symm)
theorem E2 {M:uG} {Q:mB->aE->Prop} (I:Inv X pins σ H s) (hN:X.N.Nodup) (hi:X.N[i]?=aa x) (hx:Loc X.env.scope x) (r:bp v u)
  (h:∀s',Inv X pins (σ.set i (aa v)) H s'->(∃a,iD a s.heap s'.heap/\(a=X.env.locals\/X.env.cells.lookup x=aa a))->Q () s') (hf:X.fn x=ah\/X.env.scope.names.lookup x=aa .local:=by ac_nf):aC M A (storeName X.env x u) Q E s:=by
 obtain⟨m,hn,hl⟩:=id I.loc;have hcls:(X.env.scope.kind==.class || (X.env.scope.kind==.module && X.env.locals != X.env.globals))=ar:=by rw[I.ok.kind];rfl
 have hiσ:i < σ.length:=by rw[I.len];exact(fJ.mp hi).1
 have cne:=I.cne;have tracked:∀{a:au} {h':Heap},(∃o,s.heap.get? a=aa o/\H a=af)->iD a s.heap h'->HOk X.prog X.w H h':=fun {a h'} ha hs b ob e=>by
  obtain⟨_,_,hfree⟩:=ha;refine(I.hok b ob e).stay (fun c w' hc q=>(hs.2 c ?_).trans q) (fun _ q=>q) fun _ _ q=>q;rintro rfl;rcases hc with rfl|hc
  .rw[hfree] at e;cases e
  .rw[hfree] at hc;cases hc
 rcases hx with hk|hk
 .refine wpAny_storeName_local hk hn (fun h' hn' hs=>?_) hcls;obtain⟨oL,_,_,hoL,_⟩:=id hn;refine h _ ⟨I.ok,I.os,I.bare,⟨fun b o e n hb hx=>?_,fun b o e n hb hx=>?_,I.base.free,fun b o e hx=>?_,I.base.tups,I.base.frzs,I.base.tbls⟩,⟨_,hn',fun j y v' e1 e2 e3=>?_⟩,fun y c e=>?_,I.free,I.freeC,fun p hp=>?_,tracked ⟨oL,hoL,I.free⟩ hs,by simpa using I.len⟩ ⟨_,hs,.inl rfl⟩
  .exact(hs.2 b (qD (qG (qv e) I.ok.above))).trans (I.base.keep b o e n hb hx)
  .obtain⟨sl,e1⟩:=I.base.slot b o e n hb hx;exact⟨sl,(hs.2 b (qD (qG (qv e) I.ok.above))).trans e1⟩
  .obtain⟨o',e1⟩:=I.base.there b o e hx;exact⟨o',(hs.2 b (qD (qG (qv e) I.ok.above))).trans e1⟩
  .by_cases hj:j=i
   .subst hj;rw[hi] at e1;cases e1;rw[nR hiσ] at e2;cases e2;exact⟨u,r,.inl ⟨hk,by simp⟩⟩
   .rw[qz (cH hj)] at e2;obtain⟨u',r',q⟩:=hl j y v' e1 e2 e3;refine⟨u',r',?_⟩;rcases q with⟨k,e⟩|⟨k,c,e,z⟩
    .refine .inl ⟨k,?_⟩;have:y≠x:=fun e=>hj (Bi hN e1 (e▸hi));simp[this,e]
    .exact .inr ⟨k,c,e,z.sameBut hs (cne y c e)⟩
  .obtain⟨w',z⟩:=I.cell y c e;exact⟨w',z.sameBut hs (cne y c e)⟩
  .obtain⟨e,n,ne,nf,d⟩:=I.pin p hp;exact⟨(hs.2 p.1 ne).trans e,n,ne,nf,d⟩
 .have hfn:X.fn x=ah:=by
   rcases hf with z|z
   .exact z
   .rw[z] at hk;cases hk
  obtain⟨c,hc⟩:=I.ok.has x (.inl hk);obtain⟨w',z⟩:=I.cell x c hc;refine wpAny_storeName_cell I.ok.kind hk hc z (fun h' hc' hs=>?_);obtain⟨oc,hoc,hocd⟩:=id z;refine h {s with heap:=h'} ⟨I.ok,I.os,I.bare,⟨fun b o e n hb hx=>?_,fun b o e n hb hx=>?_,I.base.free,fun b o e hx=>?_,I.base.tups,I.base.frzs,I.base.tbls⟩,⟨m,hn.sameBut hs (cH (cne x c hc)),fun j y v' e1 e2 e3=>?_⟩,fun y c' e=>?_,I.free,I.freeC,fun p hp=>?_,tracked ⟨oc,hoc,I.freeC x c hc⟩ hs,by simpa using I.len⟩ ⟨c,hs,.inr hc⟩
  .exact(hs.2 b (qD (qG (qv e) (I.ok.cab x c hfn hc)))).trans (I.base.keep b o e n hb hx)
  .obtain⟨sl,e1⟩:=I.base.slot b o e n hb hx;exact⟨sl,(hs.2 b (qD (qG (qv e) (I.ok.cab x c hfn hc)))).trans e1⟩
  .obtain⟨o',e1⟩:=I.base.there b o e hx;exact⟨o',(hs.2 b (qD (qG (qv e) (I.ok.cab x c hfn hc)))).trans e1⟩
  .by_cases hj:j=i
   .subst hj;rw[hi] at e1;cases e1;rw[nR hiσ] at e2;cases e2;exact⟨u,r,.inr ⟨.inl hk,c,hc,hc'⟩⟩
   .rw[qz (cH hj)] at e2;obtain⟨u',r',q⟩:=hl j y v' e1 e2 e3;refine⟨u',r',?_⟩;rcases q with q|⟨k,c',e,z'⟩
    .exact .inl q
    .refine .inr ⟨k,c',e,z'.sameBut hs ?_⟩;rintro rfl;exact hj (Bi hN e1 (I.ok.inj _ _ _ e hc▸hi))
  .by_cases hcc:c'=c
   .subst hcc;exact⟨_,hc'⟩
   .obtain⟨w2,z2⟩:=I.cell y c' e;exact⟨w2,z2.sameBut hs hcc⟩
  .obtain⟨e,n,ne,nf,d⟩:=I.pin p hp;refine⟨(hs.2 p.1 ?_).trans e,n,ne,nf,d⟩;intro q;rw[q,hoc] at e;have q':oc=p.2:=qI e;exact d w' (by rw[←q'];exact hocd)
theorem CQ {M:uG} {Q:mB->aE->Prop} (I:Inv X pins σ H s) (hN:X.N.Nodup) (hi:X.N[i]?=aa x) (hx:Loc X.env.scope x) (r:bp v u)
  (h:∀s',Inv X pins (σ.set i (aa v)) H s'->Q () s') (hf:X.fn x=ah\/X.env.scope.names.lookup x=aa .local:=by ac_nf):aC M A (storeName X.env x u) Q E s:=
 E2 I hN hi hx r (fun s' I' _=>h s' I') hf
theorem Inv.call' {ch:ac au} (I:Inv X pins σ H s) (ho:s'.os=s.os) (u:Un (frs X.stack) ch H H' s.heap s'.heap) (hok:HOk X.prog X.w H' s'.heap) (hg:lc s'.gens)
  (hch:∀b∈ch,(b∈X.ex\/X.s₀.heap.objs.size<=b)/\b≠X.env.locals/\(∀x c,X.env.cells.lookup x=aa c->c≠b)/\∀p∈X.pn++pins,p.1≠b):Inv X pins σ H' s':=by
 obtain⟨h',g',d',t',o'⟩:=s';have e:o'=s.os:=ho;subst e;exact I.call (g':=g') (t':=t') (d':=d') u hok hg hch
end
abbrev XK:=av->aq au->Hp->Prop
noncomputable abbrev St:=ac (aq V)
abbrev VK:=V->Hp->Prop
abbrev TE:=St->Hp->VK->Prop
abbrev TT:=St->Hp->(aN->Hp->Prop)->Prop
abbrev TA:=St->Hp->(ac V->Hp->Prop)->Prop
structure Ends where
 nx:St->Hp->Prop
 rt:VK
 bk:St->Hp->Prop:=fun _ _=>False
 ct:St->Hp->Prop:=fun _ _=>False
abbrev TS:=Ends->St->Hp->Prop
noncomputable def EP (X:Cx) (pins:ac (au×Obj)) (σ:St) (Q:VK) (u:av) (s':aE):Prop:=∃v H',Inv X pins σ H' s'/\bp v u/\Q v H'
noncomputable def TP (X:Cx) (pins:ac (au×Obj)) (σ:St) (Q:aN->Hp->Prop) (b:aN) (s':aE):Prop:=∃H',Inv X pins σ H' s'/\Q b H'
noncomputable def AP (X:Cx) (pins:ac (au×Obj)) (σ:St) (Q:ac V->Hp->Prop) (us:ac av) (s':aE):Prop:=∃vs H',Inv X pins σ H' s'/\aU vs us/\Q vs H'
noncomputable def SP (X:Cx) (pins:ac (au×Obj)) (D:Ends) (f:Flow) (s':aE):Prop:=
 match f with
 |.next=>∃σ' H',Inv X pins σ' H' s'/\D.nx σ' H'
 |.brk=>∃σ' H',Inv X pins σ' H' s'/\D.bk σ' H'
 |.cont=>∃σ' H',Inv X pins σ' H' s'/\D.ct σ' H'
 |.ret u=>∃v σ' H',Inv X pins σ' H' s'/\bp v u/\D.rt v H'
noncomputable def PE (X:Cx) (e:Expr) (t:TE):Prop:=
 ∀(pins:ac (au×Obj)) (s:aE) (σ:St) (H:Hp) (Q:VK),Inv X pins σ H s->t σ H Q->aC .(n) X.A (eval e X.env) .(bp) X.xe s
noncomputable def PT (X:Cx) (e:Expr) (t:TT):Prop:=
 ∀(pins:ac (au×Obj)) (s:aE) (σ:St) (H:Hp) (Q:aN->Hp->Prop),Inv X pins σ H s->t σ H Q->aC .(n) X.A (isTrue e X.env (eval e X.env)) (TP X pins σ Q) X.xe s
noncomputable def PW (X:Cx) (e:Expr) (t:TT):Prop:=
 ∀(whole:Sem av) (pins:ac (au×Obj)) (s:aE) (σ:St) (H:Hp) (Q:aN->Hp->Prop),Inv X pins σ H s->t σ H Q->aC .(n) X.A (isTrue e X.env whole) (TP X pins σ Q) X.xe s
variable {e:Expr}
theorem PW.pt {t:TT} (h:PW X e t):PT X e t:=h _
noncomputable def PA (X:Cx) (es:ac Expr) (t:TA):Prop:=
 ∀(pos:c8) (pins:ac (au×Obj)) (s:aE) (σ:St) (H:Hp) (Q:ac V->Hp->Prop),Inv X pins σ H s->t σ H Q->aC .(n) X.A (spliced .(af)) (AP X pins σ Q) X.xe s
noncomputable def PS (X:Cx) (st:Stmt) (t:TS):Prop:=
 ∀(pins:ac (au×Obj)) (s:aE) (σ:St) (H:Hp) (D:Ends),Inv X pins σ H s->t D σ H->aC .(n) X.A (exec st X.env) (SP X pins D) X.xe s
noncomputable def PSs (X:Cx) (st:ac Stmt) (t:TS):Prop:=
 ∀(pins:ac (au×Obj)) (s:aE) (σ:St) (H:Hp) (D:Ends),Inv X pins σ H s->t D σ H->aC .(n) X.A (execs st X.env) (SP X pins D) X.xe s
variable {α:Type}
theorem thn {t:Sem α} {Q Q':α->aE->Prop} {M:uG} (h:aC M A t Q E s) (hQ:∀a s,Q a s->Q' a s):aC M A t Q' E s:=hU h hQ fun _ _ x=>x
variable {pos:c8} {σ:St} {Q:av->aE->Prop} {b:Expr} {ta:TE}
section
noncomputable def Cj (i:ak):TE:=fun σ H Q=>∃v,σ[i]?=aa (aa v)/\Q v H
noncomputable def tC (v:V):TE:=fun _ H Q=>Q v H
theorem eM (hN:X.N[i]?=aa x) (hv:Vis X.env.scope x) (hd:.(o)=ar:=by decide) (hcd:.(C)=ar:=by decide):PE X (.Name x pos) (Cj i):=by
 intro pins s σ H Q I h;obtain⟨v,e,h⟩:=h;obtain⟨m,hn,hl⟩:=I.loc;obtain⟨u,r,l⟩:=hl i x v hN e hv;have fin:EP X pins σ Q u s:=⟨v,H,I,r,h⟩;rcases l with⟨hk,hm⟩|⟨hk,c,hc,hcell⟩
 .exact Fj (wpAny_loadName_local I.ok.kind hk hn hm fin) hd
 .rcases hk with hk|hk
  .exact Fj (wpAny_loadName_cell I.ok.kind hk hc hcell fin) hd
  .exact Fj (wpAny_loadName_free I.ok.kind hk hc hcell fin hcd) hd
theorem nG {i j pos}:PE X (.Constant (.int i) j pos) (tC (.int i)):=fun _ _ _ H _ I h=>wpAny_Constant_int ⟨.int i,H,I.tok _,⟨_,rfl⟩,h⟩
theorem MI {b j pos}:PE X (.Constant (.bool b) j pos) (tC (.bl b)):=fun _ _ _ H _ I h=>Constant_bool ⟨.bl b,H,I,rfl,h⟩
theorem B1 {j pos}:PE X (.Constant .none j pos) (tC .non):=fun _ _ _ H _ I h=>Fk ⟨.non,H,I,rfl,h⟩
theorem Sv {x j pos}:PE X (.Constant (.str x) j pos) (tC (.str x)):=fun _ _ _ H _ I h=>Calls.Constant_str ⟨.str x,H,I.tok _,⟨_,rfl⟩,h⟩
noncomputable def Gl (X:Cx) (x:ai):Prop:=X.env.kindOf x=aa .globalImplicit
theorem t9 (I:Inv X pins σ H s) (hg:Gl X x) (hm:X.mg x=aa u) (h:Q u s)
  (hd:.(o)=ar:=by decide):aC .(n) X.A (eval (.Name x pos) X.env) Q E s:=
 SE I.ok.kind hg (Calls.loadGlobal_global (by rw[I.ok.glob];exact I.mod.glob.keeps I.bk) hm h) hd
theorem kN (I:Inv X pins σ H s) (hg:Gl X x) (hm:X.mg x=af) (hv:dH x=aa u) (h:Q u s)
  (hn:x≠"__name__":=by decide) (hd:.(o)=ar:=by decide):aC .(n) X.A (eval (.Name x pos) X.env) Q E s:=by
 obtain⟨mb,h1,h2⟩:=I.mod.blt;exact SE I.ok.kind hg (Calls.loadGlobal_builtin (by rw[I.ok.glob];exact I.mod.glob.keeps I.bk) hm (by rw[I.ok.blt];exact h1.keeps I.bk) ((h2 x hn).trans hv) h) hd
theorem NF (hg:Gl X x) (hm:X.mg x=aa u) (r:bp v u) (hd:.(o)=ar:=by decide):PE X (.Name x pos) (tC v):=
 fun _ _ _ H _ I h=>t9 I hg hm ⟨v,H,I,r,h⟩ hd
theorem Li (hg:Gl X x) (hm:X.mg x=af) (hv:dH x=aa u) (r:bp v u) (hn:x≠"__name__":=by decide) (hd:.(o)=ar:=by decide):PE X (.Name x pos) (tC v):=
 fun _ _ _ H _ I h=>kN I hg hm hv ⟨v,H,I,r,h⟩ hn hd
variable {a:Expr} {tb:TE}
noncomputable def tB (t:TE):TT:=fun σ H Q=>t σ H fun x H1=>∃c,x=.bl c/\Q c H1
theorem JS {t:TE} (h:PE X e t) (he:∀whole,isTrue e X.env whole=(do let v ←whole;jh e.pos;fm [v] (truthy v)):=by intro _;rfl):PT X e (tB t):=by intro pins s σ H Q I hw;refine isTrue_plain (thn (h pins s σ H _ I hw) fun v s1 ζ=>?_) (he _);obtain⟨x,H1,I1,r1,q1⟩:=ζ;obtain⟨d,rfl,q⟩:=q1;cases r1;exact ji ⟨H1,I1,q⟩
variable {tA tB':TT} {bL:ac Expr}
noncomputable def QH (t u:TT):TT:=fun σ H Q=>t σ H fun c H1=>if c=ah then u σ H1 Q else Q ar H1
noncomputable def tOr (t u:TT):TT:=fun σ H Q=>t σ H fun c H1=>if c=ah then Q ah H1 else u σ H1 Q
noncomputable def J9 (t:TT):TT:=fun σ H Q=>t σ H fun c H1=>Q (!c) H1
theorem Lb (ha:PT X a tA):PW X (.BoolOp .And [a] pos) tA:=by
 intro wh pins s σ H Q I h;refine isTrue_and (thn (ha pins s σ H Q I h) fun c s1 e=>?_);cases c with
 |true=>exact isTrue_and_nil e
 |false=>exact e
theorem Je (ha:PT X a tA):PW X (.BoolOp .Or [a] pos) tA:=by
 intro wh pins s σ H Q I h;refine isTrue_or (thn (ha pins s σ H Q I h) fun c s1 e=>?_);cases c with
 |false=>exact isTrue_or_nil e
 |true=>exact e
theorem NT (ha:PT X a tA) (hb:PW X (.BoolOp .And (b::bL) pos) tB'):PW X (.BoolOp .And (a::b::bL) pos) (QH tA tB'):=by
 intro wh pins s σ H Q I h;refine isTrue_and (thn .(aG) fun c s1 ⟨H1,I1,q1⟩=>?_);cases c with
 |true=>exact hb wh pins s1 σ H1 Q I1 q1
 |false=>exact⟨H1,I1,q1⟩
theorem Rz (ha:PT X a tA) (hb:PW X (.BoolOp .Or (b::bL) pos) tB'):PW X (.BoolOp .Or (a::b::bL) pos) (tOr tA tB'):=by
 intro wh pins s σ H Q I h;refine isTrue_or (thn .(aG) fun c s1 ⟨H1,I1,q1⟩=>?_);cases c with
 |true=>exact⟨H1,I1,q1⟩
 |false=>exact hb wh pins s1 σ H1 Q I1 q1
theorem OP (ha:PT X a tA):PT X (.UnaryOp .Not a pos) (J9 tA):=by intro pins s σ H Q I h;exact isTrue_not (ha pins s σ H (fun c H1=>Q (!c) H1) I h)
def Pa (ta tb:TE):TE:=fun σ H Q=>ta σ H fun x H1=>∃c,x=.bl c/\if c=ah then tb σ H1 Q else Q (.bl ar) H1
def Pq (ta tb:TE):TE:=fun σ H Q=>ta σ H fun x H1=>∃c,x=.bl c/\if c=ah then Q (.bl ah) H1 else tb σ H1 Q
noncomputable def Ke (ta:TE):TE:=fun σ H Q=>ta σ H fun x H1=>∃c,x=.bl c/\Q (.bl (!c)) H1
theorem Ls {op} {t:TE} (h:PE X a t):PE X (.BoolOp op [a] pos) t:=fun pins s σ H Q I hw=>BoolOp_one (h pins s σ H Q I hw)
theorem GM (ha:PE X a ta) (hb:PE X (.BoolOp .And (b::bL) pos) tb):PE X (.BoolOp .And (a::b::bL) pos) (Pa ta tb):=by
 intro pins s σ H Q I h;refine BoolOp_and (thn .(aG) fun v s1 ζ=>?_);obtain⟨x,H1,I1,r1,q1⟩:=ζ;obtain⟨c,rfl,q1⟩:=q1;cases r1;refine ji ?_;cases c with
 |true=>exact hb pins s1 σ H1 Q I1 q1
 |false=>exact⟨.bl ar,H1,I1,rfl,q1⟩
theorem Pg (ha:PE X a ta) (hb:PE X (.BoolOp .Or (b::bL) pos) tb):PE X (.BoolOp .Or (a::b::bL) pos) (Pq ta tb):=by
 intro pins s σ H Q I h;refine BoolOp_or (thn .(aG) fun v s1 ζ=>?_);obtain⟨x,H1,I1,r1,q1⟩:=ζ;obtain⟨c,rfl,q1⟩:=q1;cases r1;refine ji ?_;cases c with
 |false=>exact hb pins s1 σ H1 Q I1 q1
 |true=>exact⟨.bl ah,H1,I1,rfl,q1⟩
theorem Sc (ha:PE X a ta):PE X (.UnaryOp .Not a pos) (Ke ta):=by intro pins s σ H Q I h;refine Fm (thn .(aG) fun v s1 ζ=>?_);obtain⟨x,H1,I1,r1,q1⟩:=ζ;obtain⟨c,rfl,q1⟩:=q1;cases r1;exact not_of (ji ⟨.bl (!c),H1,I1,rfl,q1⟩)
def tIf (t:TT) (ta tb:TE):TE:=fun σ H Q=>t σ H fun c H1=>if c=ah then ta σ H1 Q else tb σ H1 Q
theorem Bk {c:Expr} (hc:PT X c tA) (ha:PE X a ta) (hb:PE X b tb):PE X (.IfExp c a b pos) (tIf tA ta tb):=by
 intro pins s σ H Q I h;refine wpAny_IfExp (thn (hc pins s σ H _ I h) fun d s1 ⟨H1,I1,q1⟩=>?_);cases d with
 |true=>exact ha pins s1 σ H1 Q I1 q1
 |false=>exact hb pins s1 σ H1 Q I1 q1
end
noncomputable def SqL (K:aM) (H:Hp) (a:au) (xs:ac V):Prop:=
 Rd H a (.lst xs) \/
  ∃(o:Obj) (its:bI av) (n:ak),K.lookup a=aa o/\o.cls=.type "list"/\o.dict=af/\o.data=.seq its n/\its.size<=aJ/\aU xs its.toList
noncomputable def SqT (K:aM) (H:Hp) (a:au) (xs:ac V):Prop:=
 Rd H a (.tup xs) \/
  ∃(o:Obj) (its:bI av) (n:ak),K.lookup a=aa o/\o.cls=.type "tuple"/\o.data=.seq its n/\its.size<=aJ/\aU xs its.toList
noncomputable def Rc:av->aq V
 |.none=>aa .non
 |.bool b=>aa (.bl b)
 |.int i _=>aa (.int i)
 |.str x _=>aa (.str x)
 |.ref a=>aa (.ref a)
 |.type n=>aa (.ty n)
 |_=>af
theorem bp.abs {x:V} (r:bp x u):Rc u=aa x:=by
 cases x with
 |non=>cases r;rfl
 |bl _=>cases r;rfl
 |int _=>obtain⟨t,rfl⟩:=r;rfl
 |str _=>obtain⟨t,rfl⟩:=r;rfl
 |ref _=>cases r;rfl
 |ty _=>cases r;rfl
variable {y:V}
theorem bp.inj {x:V} (r:bp x u) (q:bp y u):x=y:=qI (r.abs.symm.trans q.abs)
theorem aU.inj:∀{xs ys:ac V} {us:ac av},aU xs us->aU ys us->xs=ys
 |_,_,[],p,q=>by cases p;cases q;rfl
 |_,_,_::_,p,q=>by obtain _|⟨r,t⟩:=p;obtain _|⟨r',t'⟩:=q;rw[r.inj r',aU.inj t t']
variable {ys:ac V}
section
variable {xs:ac V}
theorem Inv.list (I:Inv X pins σ H s) (h:SqL X.K H a xs):∃its:ac av,aU xs its/\PlainL s.heap a its.toArray/\xs.length<=aJ:=by
 rcases h with h|⟨o,its,n,hk,hc,hd,hs,hz,r⟩
 .obtain⟨z,its,n,r,e⟩:=h.ok I.hok;exact⟨its,r,⟨_,n,e,rfl,rfl,rfl⟩,z⟩
 .refine⟨its.toList,r,⟨o,n,I.kIn a o hk,hc,hd,by simpa using hs⟩,?_⟩;have e:=r.length;simp only[iE] at e;omega
theorem Inv.tuple (I:Inv X pins σ H s) (h:SqT X.K H a xs):∃its:ac av,aU xs its/\uE s.heap a its.toArray/\xs.length<=aJ:=by
 rcases h with h|⟨o,its,n,hk,hc,hs,hz,r⟩
 .obtain⟨z,its,r,p⟩:=h.ok I.hok;exact⟨its,r,p,z⟩
 .refine⟨its.toList,r,⟨o,I.kIn a o hk,hc,n,by simpa using hs⟩,?_⟩;have e:=r.length;simp only[iE] at e;omega
theorem Inv.list_inj (I:Inv X pins σ H s) (h:SqL X.K H a xs) (h':SqL X.K H a ys):xs=ys:=by
 obtain⟨its,r,⟨o,n,e,_,_,d⟩,_⟩:=I.list h;obtain⟨its',r',⟨o',n',e',_,_,d'⟩,_⟩:=I.list h';rw[e] at e';cases e';rw[d] at d';injection d' with d1 _;have:its=its':=by simpa using bO SF d1
 subst this;exact r.inj r'
theorem Inv.tuple_inj (I:Inv X pins σ H s) (h:SqT X.K H a xs) (h':SqT X.K H a ys):xs=ys:=by
 obtain⟨its,r,⟨o,e,_,n,d⟩,_⟩:=I.tuple h;obtain⟨its',r',⟨o',e',_,n',d'⟩,_⟩:=I.tuple h';rw[e] at e';cases e';rw[d] at d';injection d' with d1 _;have:its=its':=by simpa using bO SF d1
 subst this;exact r.inj r'
end
noncomputable abbrev Cx.wish (X:Cx) (E:av->aE->Prop):Cx:={X with xe:=E}
noncomputable abbrev Cx.nox (X:Cx):Cx:=X.wish fun _ _=>False
theorem Cx.Ok.wish (ok:X.Ok) (E:av->aE->Prop):(X.wish E).Ok:=
 ⟨ok.mod,ok.kind,ok.glob,ok.blt,ok.above,ok.inj,ok.has,ok.cab,ok.hd,ok.frames,ok.stk,ok.exf,ok.bs,ok.bsz,ok.noex,ok.exfs,ok.funs,ok.frf⟩
theorem Cx.Ok.unwish (ok:(X.wish E).Ok):X.Ok:=
 ⟨ok.mod,ok.kind,ok.glob,ok.blt,ok.above,ok.inj,ok.has,ok.cab,ok.hd,ok.frames,ok.stk,ok.exf,ok.bs,ok.bsz,ok.noex,ok.exfs,ok.funs,ok.frf⟩
theorem Inv.wish (I:Inv X pins σ H s) (E:av->aE->Prop):Inv (X.wish E) pins σ H s:=⟨I.ok.wish E,I.os,I.bare,I.base,I.loc,I.cell,I.free,I.freeC,I.pin,I.hok,I.len⟩
theorem Inv.unwish (I:Inv (X.wish E) pins σ H s):Inv X pins σ H s:=⟨I.ok.unwish,I.os,I.bare,I.base,I.loc,I.cell,I.free,I.freeC,I.pin,I.hok,I.len⟩
theorem SP.unwish {D:Ends} {f:Flow} {s':aE} (h:SP (X.wish E) pins D f s'):SP X pins D f s':=by
 cases f with
 |next=>obtain⟨σ',H',I,q⟩:=h;exact⟨σ',H',I.unwish,q⟩
 |brk=>obtain⟨σ',H',I,q⟩:=h;exact⟨σ',H',I.unwish,q⟩
 |cont=>obtain⟨σ',H',I,q⟩:=h;exact⟨σ',H',I.unwish,q⟩
 |ret u=>obtain⟨v,σ',H',I,r,q⟩:=h;exact⟨v,σ',H',I.unwish,r,q⟩
theorem PSs.nox {st:ac Stmt} {t:TS} (h:PSs X.nox st t):PSs X st t:=fun pins s σ H D I hw=>
 hU (h pins s σ H D (I.wish _) hw) (fun _ _ q=>q.unwish) fun _ _ z=>fP z
variable {st:Stmt} {te:TE} {tc:TT}
section
variable {bL:ac Stmt} {t u:TS}
noncomputable def Sa:TS:=fun D σ H=>D.nx σ H
noncomputable def O1 (t u:TS):TS:=fun D σ H=>t {D with nx:=u D} σ H
theorem OE:PSs X [] Sa:=fun _ _ σ H _ I h=>Fn ⟨σ,H,I,h⟩
theorem Rq (h1:PS X st t) (h2:PSs X bL u):PSs X (st::bL) (O1 t u):=by
 intro pins s σ H D I h;refine SG (thn (h1 pins s σ H {D with nx:=u D} I h) fun f s1 q=>?_);cases f with
 |next=>
  obtain⟨σ',H',I',q⟩:=q;exact h2 pins s1 σ' H' D I' q
 |ret v=>exact q
 |brk=>exact q
 |cont=>exact q
theorem KW (h1:PS X st t):PSs X [st] t:=by
 intro pins s σ H D I h;refine SG (thn (h1 pins s σ H D I h) fun f s1 q=>?_);cases f with
 |next=>exact Fn q
 |ret v=>exact q
 |brk=>exact q
 |cont=>exact q
theorem Inv.quiet (I:Inv X pins σ H s):interactive X.env=ar:=by simp[interactive,I.ok.kind]
noncomputable def Md (te:TE):TS:=fun D σ H=>te σ H fun _ H1=>D.nx σ H1
theorem oz (he:PE X e te) (hs:dh e af pos.line X.env=aT ar:=by rfl):PS X (.Expr e pos) (Md te):=by intro pins s σ H D I h;exact wpAny_Expr_any (thn .(aN) fun v s1 ⟨x,H1,I1,r1,q1⟩=>⟨σ,H1,I1,q1⟩) I.quiet hs
noncomputable def Nm (te:TE):TS:=fun D σ H=>te σ H D.rt
theorem EM (he:PE X e te):PS X (.Return (aa e) pos) (Nm te):=by intro pins s σ H D I h;exact wpAny_Return_some (thn .(aN) fun v s1 ⟨x,H1,I1,r1,q1⟩=>⟨x,σ,H1,I1,r1,q1⟩)
noncomputable def Mx (c:TT) (t u:TS):TS:=fun D σ H=>c σ H fun b H1=>if b=ah then t D σ H1 else u D σ H1
theorem HJ {c:Expr} {a b:ac Stmt} (hc:PT X c tc) (ha:PSs X a t) (hb:PSs X b u):PS X (.If c a b pos) (Mx tc t u):=by
 intro pins s σ H D I h;refine wpAny_If (thn (hc pins s σ H _ I h) fun d s1 ⟨H1,I1,q1⟩=>?_);cases d with
 |true=>exact ha pins s1 σ H1 D I1 q1
 |false=>exact hb pins s1 σ H1 D I1 q1
end
abbrev TG:=V->St->Hp->(St->Hp->Prop)->Prop
abbrev TGs:=ac V->St->Hp->(St->Hp->Prop)->Prop
noncomputable def PG (X:Cx) (target:Expr) (t:TG):Prop:=
 ∀(pins:ac (au×Obj)) (s:aE) (σ:St) (H:Hp) (v:V) (u:av) (Q:St->Hp->Prop),Inv X pins σ H s->bp v u->t v σ H Q->
  aC .(n) X.A (jj target X.env u) (fun _ s'=>∃σ' H',Inv X pins σ' H' s'/\Q σ' H') X.xe s
noncomputable def PGs (X:Cx) (ts:ac Expr) (t:TGs):Prop:=
 ∀(pins:ac (au×Obj)) (s:aE) (σ:St) (H:Hp) (vs:ac V) (us:ac av) (Q:St->Hp->Prop),Inv X pins σ H s->aU vs us->t vs σ H Q->
  aC .(n) X.A (assignInOrder ((jk ts X.env).map (·.2)) us) (fun _ s'=>∃σ' H',Inv X pins σ' H' s'/\Q σ' H') X.xe s
abbrev yq:=V->V->V->Hp->(Hp->Prop)->Prop
noncomputable def zR (X:Cx) (t:yq):Prop:=
 ∀(pins:ac (au×Obj)) (s:aE) (σ:St) (H:Hp) (o i v:V) (ov iv u:av) (Q:Hp->Prop),Inv X pins σ H s->bp o ov->bp i iv->bp v u->t o i v H Q->
  aC .(n) X.A (setItem ov iv u) (fun _ s'=>∃H',Inv X pins σ H' s'/\Q H') X.xe s
variable {es:ac Expr} {n:ak} {o tg:Expr} {to:TE} {pos':c8}
noncomputable def oX (i:ak):TG:=fun v σ H Q=>Q (σ.set i (aa v)) H
theorem NZ (hN:X.N.Nodup) (hi:X.N[i]?=aa x) (hx:Loc X.env.scope x) (hf:X.fn x=ah\/X.env.scope.names.lookup x=aa .local:=by ac_nf):PG X (.Name x pos) (oX i):=by intro pins s σ H v u Q I r h;exact SH (CQ I hN hi hx r (fun s' I'=>⟨_,H,I',h⟩) hf)
noncomputable def Kn:TGs:=fun vs σ H Q=>vs=[]/\Q σ H
noncomputable def GI (t:TG) (u:TGs):TGs:=fun vs σ H Q=>∃v r,vs=v::r/\t v σ H fun σ' H'=>u r σ' H' Q
theorem O4:PGs X [] Kn:=by intro pins s σ H vs us Q I r h;obtain⟨e,h⟩:=h;subst e;cases r;exact assignInOrder_nil ⟨σ,H,I,h⟩
theorem Qn {t:TG} {u:TGs} (h1:PG X e t) (h2:PGs X es u)
  (hs:(jk (e::es) X.env).map (·.2)=jj e X.env::(jk es X.env).map (·.2):=by rfl):PGs X (e::es) (GI t u):=by
 intro pins s σ H vs us Q I r h;obtain⟨v,vr,e1,h⟩:=h;subst e1;cases r with
 |cons r rr=>
  rw[hs];refine assignInOrder_cons (thn (h1 pins s σ H _ _ _ I r h) fun _ s1 ⟨σ1,H1,I1,q1⟩=>?_);exact h2 pins s1 σ1 H1 _ _ Q I1 rr q1
def Kq (K:aM) (n:ak) (t:TGs):TG:=fun v σ H Q=>∃a xs,v=.ref a/\SqT K H a xs/\xs.length=n/\t xs σ H Q
theorem Os {k:ak} {t:TGs} (hc:X.calm=ah) (h:PGs X es t)
  (hn:(jk es X.env).length=n:=by rfl) (hst:(jk es X.env).findIdx? (·.1)=af:=by rfl):PG X (.Tuple es k pos) (Kq X.K n t):=by
 intro pins s σ H v u Q I r hw;obtain⟨a,xs,e1,hq,hl,hw⟩:=hw;subst e1;cases r;obtain⟨its,rv,ht,hz⟩:=I.tuple hq;refine assign_Tuple_tuple .(bz) ht (by simp[hn,←hl,rv.length]) hst fun h' hx=>?_;have I1:Inv X pins σ H {s with heap:=h'}:=I.kept (t':=s.toks) fun b o e=>hx b o (qD (qv e)) e;exact h pins _ σ H xs _ Q I1 (by simpa using rv) hw
noncomputable def RJ (to ti:TE) (t:yq):TG:=fun v σ H Q=>to σ H fun o H1=>ti σ H1 fun i H2=>t o i v H2 fun H3=>Q σ H3
theorem HY {i:Expr} {ti:TE} {t:yq} (ho:PE X o to) (hi:PE X i ti) (hs:zR X t)
  (ha:∀v,jj (.Subscript o i pos) X.env v=(do
   let ov ←fm [v] (eval o X.env)
   let iv ←fm [v,ov] (eval i X.env)
   jh pos
   fm [v,ov,iv] (setItem ov iv v)
   release [v,ov,iv] []):=by intro _;rfl):PG X (.Subscript o i pos) (RJ to ti t):=by
 intro pins s σ H v u Q I r h;rw[ha];refine qx (qV (thn (ho pins s σ H _ I h) fun ov s1 ζ=>?_));obtain⟨x,H1,I1,r1,q1⟩:=ζ;refine qx (qV (thn (hi pins s1 σ H1 _ I1 q1) fun iv s2 ⟨y,H2,I2,r2,q2⟩=>?_));refine qx (yG (qx (qV (thn (hs pins s2 σ H2 x y v ov iv u _ I2 r1 r2 r q2) fun _ s3 ⟨H3,I3,q3⟩=>?_))));exact wpAny_release ⟨σ,H3,I3,q3⟩
noncomputable def o8 (te:TE) (g:TG):TS:=fun D σ H=>te σ H fun x H1=>g x σ H1 D.nx
theorem Cf {g:TG} (he:PE X e te) (hg:PG X tg g) (hs:Fp [tg] e pos.line X.env=aT ar:=by rfl) (hw:Fq [tg] e X.env=aT af:=by rfl)
  (h1:(jk [tg] X.env).map (·.2)=[jj tg X.env]:=by rfl):PS X (.Assign [tg] e pos) (o8 te g):=by
 intro pins s σ H D I h;refine wpAny_Assign_stores (thn .(aN) fun v s1 ζ=>?_) hs hw;obtain⟨x,H1,I1,r1,q1⟩:=ζ;rw[h1];exact thn (hg pins s1 σ H1 x v _ I1 r1 q1) fun _ s2 q=>q
theorem pd (hN:X.N.Nodup) (hi:X.N[i]?=aa x) (hx:Loc X.env.scope x) (he:PE X e te) (hs:dh e (aa (.Name x pos')) pos.line X.env=aT ar:=by rfl) (hf:X.fn x=ah\/X.env.scope.names.lookup x=aa .local:=by ac_nf) :
  PS X (.Assign [.Name x pos'] e pos) (o8 te (oX i)):=by
 intro pins s σ H D I h;refine wpAny_Assign_Name (thn .(aN) fun v s1 ζ=>?_) hs;obtain⟨y,H1,I1,r1,q1⟩:=ζ;exact CQ I1 hN hi hx r1 (fun s2 I2=>⟨_,H1,I2,q1⟩) hf
structure It where
 go:ak->Hp->Prop
 yld:ak->Hp->V->Hp->Prop
 stop:ak->Hp->Prop
noncomputable def gz (X:Cx) (pins:ac (au×Obj)) (H:Hp) (b:au):Prop:=
 H b=af/\b≠X.env.locals/\b∉X.fs/\(b∈X.ex\/X.s₀.heap.objs.size<=b)/\(∀x c,X.env.cells.lookup x=aa c->c≠b)/\∀p∈X.pn++pins,p.1≠b
theorem Inv.fpOk {b:au} (I:Inv X pins σ H s) (hb:s.heap.objs.size<=b) (hn:H' b=af):gz X pins H' b:=by
 refine⟨hn,yH (qG I.lt hb),I.nofs hb,.inr (qO I.sz hb),fun x c e z=>?_,fun p hp z=>?_⟩
 .obtain⟨v,q⟩:=I.cell x c e;exact bu (qG q.lt (by rw[z];exact hb)) (fE _)
 .exact bu (qG (qv (I.pin p hp).1) (by rw[z];exact hb)) (fE _)
structure Turn (P:dy) (w:cA) (K:aM) (tg:Expr) (J:It) (fp:ac au) (it:au) (tn:ak->Heap->Prop):Prop where
 mem:it∈fp
 obj:∀i h,tn i h->∀b∈fp,∃o,h.get? b=aa o/\∀v,o.data≠.cell v
 keep:∀i h h',tn i h->(∀b∈fp,∀o,h.get? b=aa o->h'.get? b=aa o)->tn i h'
 item:∀(X:Cx),X.prog=P->X.w=w->X.K=K->X.calm=ah->∀(i:ak) (pins:ac (au×Obj)) (s:aE) (σ:St) (H:Hp) (E:av->aE->Prop),Inv X pins σ H s->(∀b∈fp,gz X pins H b)->tn i s.heap->J.go i H->
  aC (aL P w) X.A (fK (.ref it)) (fun r s1=>∃u,r=aa u /\
   aC (aL P w) X.A (uH tg (.ref it) u) (fun _ s2=>∃x H',Inv X pins σ H' s2/\bp x u/\J.yld i H x H'/\tn (i+1) s2.heap/\∀b∈fp,H' b=af) E s1) E s
 done:∀(X:Cx),X.prog=P->X.w=w->X.K=K->X.calm=ah->∀(i:ak) (pins:ac (au×Obj)) (s:aE) (σ:St) (H:Hp) (E:av->aE->Prop),Inv X pins σ H s->(∀b∈fp,gz X pins H b)->tn i s.heap->J.stop i H->
  aC (aL P w) X.A (fK (.ref it)) (fun r s1=>r=af/\Inv X pins σ H s1) E s
 self:∀(A:cv) (i:ak) (s:aE) (Q:av->aE->Prop) (E:av->aE->Prop),tn i s.heap->Q (.ref it) s->aC (aL P w) A (mC (.ref it)) Q E s
abbrev TI:=St->Hp->(It->Hp->Prop)->Prop
noncomputable def PIE (X:Cx) (pins:ac (au×Obj)) (σ:St) (tg:Expr) (R:It->Hp->Prop) (itv:av) (s2:aE):Prop:=
 ∃(it:au) (fp:ac au) (tn:ak->Heap->Prop) (J:It) (H':Hp),itv=.ref it/\Inv X pins σ H' s2/\Turn X.prog X.w X.K tg J fp it tn/\tn 0 s2.heap/\(∀b∈fp,gz X pins H' b)/\R J H'
noncomputable def PI (X:Cx) (tg iter:Expr) (wi:TI):Prop:=
 ∀(pins:ac (au×Obj)) (s:aE) (σ:St) (H:Hp) (R:It->Hp->Prop),Inv X pins σ H s->wi σ H R->
  aC .(n) X.A (eval iter X.env) (fun v s1=>aC .(n) X.A (mC v) (PIE X pins σ tg R) X.xe s1) X.xe s
theorem ph {M:uG} {it:au} {o:Obj} {n:cE} {vs:bI av} {Q:mB->aE->Prop} (ho:s.heap.get? it=aa o) (hc:o.cls=.type n) (hd:o.data=.fields vs)
  (hn:["enumerate","zip","dict_itemiterator","dict_reverseitemiterator","odict_iterator","itertools.zip_longest","itertools.pairwise"].contains n=ar) (hQ:Q () s):aC M A (uH tg (.ref it) u) Q E s:=by
 unfold uH;cases tg<;>first
  |exact qB hQ
  |(cases u<;>first
    |exact qB hQ
    |(refine qx (wpAny_load ho ?_);rw[hc,hd];show aC M A (if (["enumerate","zip","dict_itemiterator","dict_reverseitemiterator","odict_iterator","itertools.zip_longest","itertools.pairwise"].contains n && vs[0]?==aa (pO _))=ah then _ else _) Q E s;rw[qZ (by intro h;rw[hn,Bool.false_and] at h;cases h)];exact qB hQ))
def Itl (K:aM) (a:au):It:=
 ⟨fun i H=>∃xs x,SqL K H a xs/\xs[i]?=aa x,fun i H x H'=>H'=H/\∀xs,SqL K H a xs->xs[i]?=aa x,fun i H=>∃xs,SqL K H a xs/\xs.length<=i⟩
def Itt (K:aM) (a:au):It:=
 ⟨fun i H=>∃xs x,SqT K H a xs/\xs[i]?=aa x,fun i H x H'=>H'=H/\∀xs,SqT K H a xs->xs[i]?=aa x,fun i H=>∃xs,SqT K H a xs/\xs.length<=i⟩
noncomputable def Itr (lo:aj) (n:ak):It:=⟨fun i _=>i<n,fun i H x H'=>H'=H/\x=.int (lo+i),fun i _=>n<=i⟩
variable {K:aM}
theorem HX (a it:au):Turn P w K tg (Itl K a) [it] it (fun i h=>h.IsListIter it a i) where
 mem:=by simp
 obj:=fun i h st b hb=>by
  have e:b=it:=by simpa using hb
  subst e;obtain⟨o,e,c,d⟩:=st;exact⟨o,e,fun v z=>by rw[d] at z;cases z⟩
 keep:=fun i h h' st k=>st.at fun o e=>k it (by simp) o e
 item:=by intro X hP hw hK hc i pins s σ H E I hf st hg;subst hP hw hK;obtain⟨xs,x,hq,hx⟩:=hg;obtain⟨its,rv,p,hz⟩:=I.list hq;obtain⟨u,hu,ru⟩:=rv.get hx;obtain⟨f0,f1,f2,f3,f4,f5⟩:=hf it (by simp);refine wpAny_pyNext_list_item st p.isList (x:=u) (by simpa using hu) fun h' st' sb=>?_;have I1:Inv X pins σ H {s with heap:=h'}:=I.turned (t':=s.toks) (fun b o hb e=>(sb.2 b hb).trans e) f0 f1 f3 f4 f5;obtain⟨o,e,c,d⟩:=id st';exact⟨u,rfl,ph (s:={s with heap:=h'}) e c d .(c) ⟨x,H,I1,ru,⟨rfl,fun ys hy=>by rw[I.list_inj hy hq];exact hx⟩,st',fun b hb=>(hf b hb).1⟩⟩
 done:=by intro X hP hw hK hc i pins s σ H E I hf st hg;subst hP hw hK;obtain⟨xs,hq,hx⟩:=hg;obtain⟨its,rv,p,hz⟩:=I.list hq;obtain⟨f0,f1,f2,f3,f4,f5⟩:=hf it (by simp);have hl:=rv.length;exact wpAny_pyNext_list_end .(bz) st p.isList (by simp;omega) fun h' eb=>⟨rfl,I.turned (t':=s.toks) (fun b o hb e=>eb b o hb e) f0 f1 f3 f4 f5⟩
 self:=fun _ _ _ _ _ st h=>wpAny_pyIter_listiter st h
theorem ID (a it:au):Turn P w K tg (Itt K a) [it] it (fun i h=>h.IsTupleIter it a i) where
 mem:=by simp
 obj:=fun i h st b hb=>by
  have e:b=it:=by simpa using hb
  subst e;obtain⟨o,e,c,d⟩:=st;exact⟨o,e,fun v z=>by rw[d] at z;cases z⟩
 keep:=fun i h h' st k=>st.at fun o e=>k it (by simp) o e
 item:=by intro X hP hw hK hc i pins s σ H E I hf st hg;subst hP hw hK;obtain⟨xs,x,hq,hx⟩:=hg;obtain⟨its,rv,p,hz⟩:=I.tuple hq;obtain⟨u,hu,ru⟩:=rv.get hx;obtain⟨f0,f1,f2,f3,f4,f5⟩:=hf it (by simp);refine wpAny_pyNext_tuple_item st (show s.heap.IsTuple a its.toArray from p) (x:=u) (by simpa using hu) fun h' st' sb=>?_;have I1:Inv X pins σ H {s with heap:=h'}:=I.turned (t':=s.toks) (fun b o hb e=>(sb.2 b hb).trans e) f0 f1 f3 f4 f5;obtain⟨o,e,c,d⟩:=id st';exact⟨u,rfl,ph (s:={s with heap:=h'}) e c d .(c) ⟨x,H,I1,ru,⟨rfl,fun ys hy=>by rw[I.tuple_inj hy hq];exact hx⟩,st',fun b hb=>(hf b hb).1⟩⟩
 done:=by intro X hP hw hK hc i pins s σ H E I hf st hg;subst hP hw hK;obtain⟨xs,hq,hx⟩:=hg;obtain⟨its,rv,p,hz⟩:=I.tuple hq;obtain⟨f0,f1,f2,f3,f4,f5⟩:=hf it (by simp);have hl:=rv.length;exact wpAny_pyNext_tuple_end .(bz) st (show s.heap.IsTuple a its.toArray from p) (by simp;omega) fun h' eb=>⟨rfl,I.turned (t':=s.toks) (fun b o hb e=>eb b o hb e) f0 f1 f3 f4 f5⟩
 self:=fun _ _ _ _ _ st h=>wpAny_pyIter_tupleiter st h
theorem QI (it:au) (lo:aj) (n:ak):Turn P w K tg (Itr lo n) [it] it (fun i h=>IsRangeIter h it (lo+(i:ak)*1) ((n:aj)-(i:ak)) 1) where
 mem:=by simp
 obj:=fun i h st b hb=>by
  have e:b=it:=by simpa using hb
  subst e;exact⟨_,st,fun v z=>by have z':Data.fields _=Data.cell v:=z;cases z'⟩
 keep:=fun i h h' st k=>k it (by simp) _ st
 item:=by intro X hP hw hK hc i pins s σ H E I hf st hg;subst hP hw hK;obtain⟨f0,f1,f2,f3,f4,f5⟩:=hf it (by simp);have W:=Walks.range (prog:=X.prog) (w:=X.w) .(bz) it lo 1 n;refine W.item i s _ _ hg st fun v h' tk hv st' kk=>?_;obtain⟨t,rfl⟩:=hv;have I1:Inv X pins σ H {s with heap:=h',toks:=tk}:=I.turned .(bc) f0 f1 f3 f4 f5;refine⟨_,rfl,ph (s:={s with heap:=h',toks:=tk}) (n:="range_iterator") st' rfl rfl .(c) ⟨.int (lo+i),H,I1,⟨t,?_⟩,⟨rfl,rfl⟩,st',fun b hb=>(hf b hb).1⟩⟩;rw[Int.mul_one]
 done:=by intro X hP hw hK hc i pins s σ H E I hf st hg;subst hP hw hK;obtain⟨f0,f1,f2,f3,f4,f5⟩:=hf it (by simp);exact wpAny_pyNext_range_end .(bz) st (by have:n<=i:=hg;omega) fun h' eb=>⟨rfl,I.turned (t':=s.toks) (fun b o hb e=>eb b o hb e) f0 f1 f3 f4 f5⟩
 self:=fun _ _ _ _ _ st h=>wpAny_pyIter_rangeiter st h
variable {lo:aj} {p:c8} {fp:ac au} {iter:Expr} {body:ac Stmt} {wi:TI}
theorem EQ {R:It->Hp->Prop} {hi:aj} {t u v:Tok} {tk:ak} (I:Inv X pins σ H s) (h1 : -(2 ^ 62)<=lo) (h2:lo<2 ^ 62) (h3 : -(2 ^ 62)<=hi) (h4:hi<2 ^ 62)
  (q:R (Itr lo (hi-lo).toNat) H):aC .(n) X.A (mC .(aK)) (PIE X pins σ tg R) E {s with heap:=s.heap.push {cls:=.type "range",data:=.fields #[.int lo t,.int hi u,.int 1 v]},toks:=tk}:=by
 refine wpAny_pyIter_range (IsRange.new ..) (small_one h1 h2 h3 h4) ?_;have I1:Inv X pins σ H {s with heap:=s.heap.push {cls:=.type "range",data:=.fields #[.int lo t,.int hi u,.int 1 v]},toks:=tk}:=I.kept fun b o e=>qu _ e;refine⟨.(bj).objs.size,[.(bj).objs.size],_,_,H,rfl,
  I1.kept (t':=tk) fun b o e=>qu _ e,QI _ lo (hi-lo).toNat,?_,fun b hb=>?_,q⟩
 .have e1:lo+((0:ak):aj)*1=lo:=by simp
  have e2:(((hi-lo).toNat:ak):aj)-((0:ak):aj)=UN lo hi 1:=by rw[rangeSize_one];split<;>omega
  show IsRangeIter _ _ (lo+((0:ak):aj)*1) ((((hi-lo).toNat:ak):aj)-((0:ak):aj)) 1;rw[e1,e2];exact qH _ rfl
 .have e:b=.(bj).objs.size:=by simpa using hb
  subst e;exact I1.fpOk (qw _) (I1.hok.fresh (qw _))
def HN (ta:TA):TI:=fun σ H R=>ta σ H fun vs H1=>∃j:aj,vs=[.int j] /\ -(2 ^ 62)<=j/\j<2 ^ 62/\R (Itr 0 j.toNat) H1
def Kg (ta:TA):TI:=fun σ H R=>ta σ H fun vs H1=>∃i j:aj,vs=[.int i,.int j]/\(-(2 ^ 62)<=i/\i<2 ^ 62 /\ -(2 ^ 62)<=j/\j<2 ^ 62)/\R (Itr i (j-i).toNat) H1
theorem P2 {a:Expr} {ta:TA} (hg:Gl X "range") (hm:X.mg "range"=af) (ha:PA X [a] ta) (hs:aH [a] X.env=[(ar,eval a X.env)]:=by rfl):PI X tg (.Call (.Name "range" p) [a] [] pos) (HN ta):=by
 intro pins s σ H R I h;refine Call_ (kN I hg hm boot_range (yI (thn .(bl) fun us s1 ζ=>?_) hs rfl));obtain⟨vs,H1,I1,r1,q1⟩:=ζ;obtain⟨j,e,q1,q2,q⟩:=q1;subst e;cases r1 with
 |cons r rr=>
  cases rr;obtain⟨t,rfl⟩:=r;exact call_range_1 (EQ I1 .(b) .(b) q1 q2 (by simpa using q))
theorem Mp {a:Expr} {ta:TA} (hg:Gl X "range") (hm:X.mg "range"=af) (ha:PA X [a,b] ta) (hs:aH [a,b] X.env=[(ar,eval a X.env),(ar,eval b X.env)]:=by rfl) (hs2:aH [b] X.env=[(ar,eval b X.env)]:=by rfl) :
  PI X tg (.Call (.Name "range" p) [a,b] [] pos) (Kg ta):=by
 intro pins s σ H R I h;refine Call_ (kN I hg hm boot_range (yI (thn .(bl) fun us s1 ζ=>?_) (by rw[hs,hs2]) (by rw[hs2];rfl)));obtain⟨vs,H1,I1,r1,q1⟩:=ζ;obtain⟨i,j,e,⟨q1,q2,q3,q4⟩,q⟩:=q1;subst e;cases r1 with
 |cons r rr=>
  cases rr with
  |cons r' rr=>
   cases rr;obtain⟨t,rfl⟩:=r;obtain⟨t',rfl⟩:=r';exact call_range_2 (EQ I1 q1 q2 q3 q4 q)
def GJ (wi:TI) (g:TG) (tb:TS):TS:=fun D σ H=>wi σ H fun J H1=>∃W:ak->ak->St->Hp->Prop,(∃m,W 0 m σ H1)/\∀i m σ H,W i m σ H->
 (J.stop i H/\D.nx σ H)\/(J.go i H/\∃N:St->Hp->Prop,(∀σ' H',N σ' H'->∃m',m'<m/\W (i+1) m' σ' H')/\∀x H',J.yld i H x H'->g x σ H' fun σ2 H2=>tb {D with nx:=N,ct:=N,bk:=D.nx} σ2 H2)
noncomputable def oJ (fp:ac au) (h:Heap):ac (au×Obj):=fp.filterMap fun b=>(h.get? b).map fun o=>(b,o)
theorem tQ {h:Heap} {b:au} {o:Obj} (hb:b∈fp) (e:h.get? b=aa o):(b,o)∈oJ fp h:=pP.mpr ⟨b,hb,by rw[e];rfl⟩
theorem OB {h:Heap} {p:au×Obj} (hp:p∈oJ fp h):p.1∈fp/\h.get? p.1=aa p.2:=by
 obtain⟨b,hb,e⟩:=pP.mp hp;cases q:h.get? b with
 |none=>rw[q] at e;cases e
 |some o=>
  rw[q] at e;have e':(b,o)=p:=qI e;subst e';exact⟨hb,q⟩
theorem Inv.pinned (I:Inv X pins σ H s) (hf:∀b∈fp,gz X pins H b) (ho:∀b∈fp,∃o,s.heap.get? b=aa o/\∀v,o.data≠.cell v):Inv X (pins++oJ fp s.heap) σ H s:=
 I.pins_of fun p hp=>(cT.mp hp).elim (fun z=>I.pin p (qS _ z)) fun z=>by obtain⟨hb,e⟩:=OB z;obtain⟨f0,f1,f2,_⟩:=hf p.1 hb;obtain⟨o,e',d⟩:=ho p.1 hb;rw[e] at e';cases e';exact⟨e,f0,f1,f2,d⟩
theorem Inv.unpinned {pl:ac (au×Obj)} (I:Inv X (pins++pl) σ H s):Inv X pins σ H s:=I.pins_of fun p hp=>I.pin p (qS _ (mz _ hp))
theorem PJ {g:TG} {tb:TS} (hp:PassesOwn .(n) X.A X.env X.xe) (hc:X.calm=ah) (hi:PI X tg iter wi) (hg:PG X tg g) (hb:PSs X body tb)
  (hs:∀x,lf iter X.env x=aT x:=by intro _;rfl):PS X (.For tg iter body [] pos) (GJ wi g tb):=by
 intro pins s σ H D I h;refine wpAny_For (thn (hi pins s σ H _ I h) fun v s1 h1=>thn h1 fun itv s2 h2=>?_) hs;obtain⟨it,fp,tn,J,H2,e,I2,T,st2,f2,W,⟨m0,w0⟩,turn⟩:=h2;subst e;have stat:∀{H':Hp},(∀b∈fp,H' b=af)->∀b∈fp,gz X pins H' b:=fun hn b hb=>⟨hn b hb,(f2 b hb).2⟩;refine codeAny_forLoop_any (fun n s'=>∃i σ' H',Inv X pins σ' H' s'/\tn i s'.heap/\(∀b∈fp,H' b=af)/\W i n σ' H') ?_ m0 ⟨0,σ,H2,I2,st2,fun b hb=>(f2 b hb).1,w0⟩;rintro n s3 ⟨i,σ3,H3,I3,st3,fr3,w3⟩;rcases turn i n σ3 H3 w3 with⟨stop,qn⟩|⟨go,N,hN,step⟩
 .refine uI hp (thn (T.done X rfl rfl rfl hc i pins s3 σ3 H3 X.xe I3 (stat fr3) st3 stop) fun r s4 ⟨hr,I4⟩=>?_);subst hr;exact Fn ⟨σ3,H3,I4,qn⟩
 .refine uI hp (thn (T.item X rfl rfl rfl hc i pins s3 σ3 H3 X.xe I3 (stat fr3) st3 go) fun r s4 ⟨u,hr,h4⟩=>?_);subst hr;refine uI hp (thn h4 fun _ s5 ζ=>?_);obtain⟨x,H5,I5,r5,y5,st5,fr5⟩:=ζ;have I5':=I5.pinned (stat fr5) (T.obj _ _ st5);refine uI hp (thn (hg _ s5 σ3 H5 x u _ I5' r5 (step x H5 y5)) fun _ s6 ⟨σ6,H6,I6,q6⟩=>?_);refine uI hp (thn (hb _ s6 σ6 H6 _ I6 q6) fun f s7 q7=>?_);have again:∀{σ7:St} {H7:Hp},Inv X (pins++oJ fp s5.heap) σ7 H7 s7->N σ7 H7->∃m,m<n/\∃i σ' H',Inv X pins σ' H' s7/\tn i s7.heap/\(∀b∈fp,H' b=af)/\W i m σ' H':=fun {σ7 H7} I7 n7=>by obtain⟨m',hm,w7⟩:=hN σ7 H7 n7;refine⟨m',hm,i+1,σ7,H7,I7.unpinned,T.keep _ _ _ st5 fun b hb o e=>(I7.pin (b,o) (qS _ (qS _ (tQ hb e)))).1,fun b hb=>?_,w7⟩;obtain⟨o,e,d⟩:=T.obj _ _ st5 b hb;exact(I7.pin (b,o) (qS _ (qS _ (tQ hb e)))).2.1
  cases f with
  |next=>obtain⟨σ7,H7,I7,n7⟩:=q7;exact again I7 n7
  |cont=>obtain⟨σ7,H7,I7,n7⟩:=q7;exact again I7 n7
  |brk=>obtain⟨σ7,H7,I7,q7⟩:=q7;exact⟨σ7,H7,I7.unpinned,q7⟩
  |ret v=>obtain⟨x7,σ7,H7,I7,r7,q7⟩:=q7;exact⟨x7,σ7,H7,I7.unpinned,r7,q7⟩
abbrev R2:=V->V->Hp->VK->Prop
noncomputable def OpR (X:Cx) (f:av->av->Sem av) (r:R2):Prop:=
 ∀(pins:ac (au×Obj)) (s:aE) (σ:St) (H:Hp) (x y:V) (v u:av) (Q:VK),Inv X pins σ H s->bp x v->bp y u->r x y H Q->
  aC .(n) X.A (f v u) .(bp) X.xe s
noncomputable def UnR (X:Cx) (f:av->Sem av) (r:V->Hp->VK->Prop):Prop:=
 ∀(pins:ac (au×Obj)) (s:aE) (σ:St) (H:Hp) (x:V) (v:av) (Q:VK),Inv X pins σ H s->bp x v->r x H Q->
  aC .(n) X.A (f v) .(bp) X.xe s
noncomputable def dO (X:Cx) (f:av) (r:ac V->Hp->VK->Prop):Prop:=
 ∀(pins:ac (au×Obj)) (s:aE) (σ:St) (H:Hp) (xs:ac V) (us:ac av) (Q:VK),Inv X pins σ H s->aU xs us->r xs H Q->
  aC .(n) X.A (call f us) .(bp) X.xe s
def tOp (r:R2) (ta tb:TE):TE:=fun σ H Q=>ta σ H fun x H1=>tb σ H1 fun y H2=>r x y H2 Q
noncomputable def tUn (r:V->Hp->VK->Prop) (ta:TE):TE:=fun σ H Q=>ta σ H fun x H1=>r x H1 Q
noncomputable def rI (C:aj->aj->Prop) (g:aj->aj->V):R2:=fun x y H Q=>∃i j,x=.int i/\y=.int j/\C i j/\Q (g i j) H
noncomputable def rI0 (g:aj->aj->V):R2:=fun x y H Q=>∃i j,x=.int i/\y=.int j/\Q (g i j) H
noncomputable def rU (g:aj->V):V->Hp->VK->Prop:=fun x H Q=>∃i,x=.int i/\Q (g i) H
section
variable {a c:Expr} {tb tc:TE}
theorem xZ (ha:PE X a ta) (hb:PE X b tb) {R:V->V->Hp->Prop} (I:Inv X pins σ H s)
  (h:ta σ H fun x H1=>tb σ H1 fun y H2=>R x y H2) {f:av->av->Sem av} 
  (hf:∀v u s2 x y H2,Inv X pins σ H2 s2->bp x v->bp y u->R x y H2->aC .(n) X.A (f v u) Q X.xe s2) :
  aC .(n) X.A (eval a X.env) (fun v s₁=>aC .(n) X.A (eval b X.env) (fun u s₂=>aC .(n) X.A (f v u) Q X.xe s₂) X.xe s₁) X.xe s:=by
 refine thn .(aG) fun v s1 ζ=>?_;obtain⟨x,H1,I1,r1,q1⟩:=ζ;refine thn (hb pins s1 σ H1 _ I1 q1) fun u s2 ⟨y,H2,I2,r2,q2⟩=>?_;exact hf v u s2 x y H2 I2 r1 r2 q2
theorem LQ {op:Operator} {r:R2} (ho:OpR X (gc op) r) (ha:PE X a ta) (hb:PE X b tb):PE X (.BinOp a op b pos) (tOp r ta tb):=by intro pins s σ H Q I h;exact wpAny_BinOp (xZ ha hb I h fun v u s2 x y H2 I2 rx ry q=>ho pins s2 σ H2 x y v u Q I2 rx ry q)
theorem Lk {op:UnaryOp} {r:V->Hp->VK->Prop} (ho:UnR X (unaryOp op) r) (ha:PE X a ta):PE X (.UnaryOp op a pos) (tUn r ta):=by intro pins s σ H Q I h;exact Fm (thn .(aG) fun v s1 ⟨x,H1,I1,r1,q1⟩=>ho pins s1 σ H1 x v Q I1 r1 q1)
theorem opI {f:av->av->Sem av} {C:aj->aj->Prop} {g:aj->aj->aj} 
  (rule:∀(i j:aj) (t u:Tok) (s:aE) (Q:av->aE->Prop) (E:av->aE->Prop),C i j->Q (.int (g i j) s.toks) {s with toks:=s.toks+1}->aC .(n) X.A (f (.int i t) (.int j u)) Q E s) :
  OpR X f (rI C fun i j=>.int (g i j)):=by
 intro pins s σ H x y v u Q I rx ry h;obtain⟨i,j,rfl,rfl,hc,q⟩:=h;obtain⟨t,rfl⟩:=rx;obtain⟨t',rfl⟩:=ry;exact rule i j t t' s _ _ hc ⟨.int (g i j),H,I.tok _,⟨_,rfl⟩,q⟩
theorem DH {f:av->av->Sem av} {g:aj->aj->aj} 
  (rule:∀(i j:aj) (t u:Tok) (s:aE) (Q:av->aE->Prop) (E:av->aE->Prop),Q (.int (g i j) s.toks) {s with toks:=s.toks+1}->aC .(n) X.A (f (.int i t) (.int j u)) Q E s) :
  OpR X f (rI0 fun i j=>.int (g i j)):=by
 intro pins s σ H x y v u Q I rx ry h;obtain⟨i,j,rfl,rfl,q⟩:=h;obtain⟨t,rfl⟩:=rx;obtain⟨t',rfl⟩:=ry;exact rule i j t t' s _ _ ⟨.int (g i j),H,I.tok _,⟨_,rfl⟩,q⟩
theorem t5 {f:av->av->Sem av} {g:aj->aj->aN} 
  (rule:∀(i j:aj) (t u:Tok) (s:aE) (Q:av->aE->Prop) (E:av->aE->Prop),Q (.bool (g i j)) s->aC .(n) X.A (f (.int i t) (.int j u)) Q E s) :
  OpR X f (rI0 fun i j=>.bl (g i j)):=by
 intro pins s σ H x y v u Q I rx ry h;obtain⟨i,j,rfl,rfl,q⟩:=h;obtain⟨t,rfl⟩:=rx;obtain⟨t',rfl⟩:=ry;exact rule i j t t' s _ _ ⟨.bl (g i j),H,I,rfl,q⟩
noncomputable def Ph (i j:aj):Prop:=0<j/\j<1073741824
noncomputable def M9 (i j:aj):Prop:=0<=j/\j<=1000000/\i.natAbs<2 ^ 64
noncomputable def uu (i j:aj):Prop:=(-(2 ^ 64)<i/\i<2 ^ 64)\/(-(2 ^ 64)<j/\j<2 ^ 64)
theorem uu.ok {i j:aj} (h:uu i j):IntMulOk i j:=by
 rcases h with⟨h1,h2⟩|⟨h1,h2⟩
 .exact .of_left (intBits_le_64 h1 h2)
 .exact .of_right (intBits_le_64 h1 h2)
theorem Iq:OpR X (gc .Add) (rI0 fun i j=>.int (i+j)):=DH fun _ _ _ _ _ _ _ q=>add_int q
theorem IN:OpR X (gc .Sub) (rI0 fun i j=>.int (i-j)):=DH fun _ _ _ _ _ _ _ q=>sub_int q
theorem OD:OpR X (gc .Mult) (rI uu fun i j=>.int (i*j)):=opI fun _ _ _ _ _ _ _ hc q=>mul_int q hc.ok
theorem KH:OpR X (gc .FloorDiv) (rI Ph fun i j=>.int (i / j)):=opI fun i j _ _ _ _ _ hc q=>by have h1:(0:aj)<j:=hc.1;have h2:j<1073741824:=hc.2;exact floordiv_int .(b) (by rw[Int.fdiv_eq_ediv_of_nonneg i .(b)];exact q) (.inl (PyProof.noPylong_small .(b)))
theorem Oa:OpR X (gc .Mod) (rI (fun _ j=>0<j) fun i j=>.int (i%j)):=opI fun i j _ _ _ _ _ hc q=>by have h1:(0:aj)<j:=hc;exact mod_int' .(b) (by rw[Int.fmod_eq_emod_of_nonneg i .(b)];exact q)
theorem Ki:OpR X (gc .Pow) (rI M9 fun i j=>.int (i ^ j.toNat)):=opI fun _ _ _ _ _ _ _ hc q=>pow_int_small hc.1 hc.2.1 hc.2.2 q
theorem unI {f:av->Sem av} {g:aj->aj} 
  (rule:∀(i:aj) (t:Tok) (s:aE) (Q:av->aE->Prop) (E:av->aE->Prop),Q (.int (g i) s.toks) {s with toks:=s.toks+1}->aC .(n) X.A (f (.int i t)) Q E s) :
  UnR X f (rU fun i=>.int (g i)):=by
 intro pins s σ H x v Q I rx h;obtain⟨i,rfl,q⟩:=h;obtain⟨t,rfl⟩:=rx;exact rule i t s _ _ ⟨.int (g i),H,I.tok _,⟨_,rfl⟩,q⟩
theorem Sb:UnR X (unaryOp .USub) (rU fun i=>.int (-i)):=unI fun _ _ _ _ _ q=>neg_int q
end
noncomputable def yp:V->V->aN
 |.non,.non=>ah|.non,.int _=>ah|.int _,.non=>ah|.non,.bl _=>ah|.bl _,.non=>ah|.non,.str _=>ah|.str _,.non=>ah
 |.int _,.int _=>ah|.bl _,.bl _=>ah|.str _,.str _=>ah
 |.int _,.str _=>ah|.str _,.int _=>ah|.bl _,.str _=>ah|.str _,.bl _=>ah
 |_,_=>ar
def rEq:R2:=fun x y H Q=>yp x y=ah/\Q (.bl (decide (x=y))) H
def rNe:R2:=fun x y H Q=>yp x y=ah/\Q (.bl (!decide (x=y))) H
theorem B' {i j:aj} :decide (V.int i=V.int j)=(i==j):=by rw[uJ];simp
theorem zS {i j:aN} :decide (V.bl i=V.bl j)=(i==j):=by rw[uJ];simp
theorem BD {i j:ai} :decide (V.str i=V.str j)=(i==j):=by rw[uJ];simp
variable {r':R2} {op op':CmpOp}
section
variable {a c:Expr} {tb tc:TE}
theorem cD {Q:VK} {k k':aN} (I:Inv X pins σ H s) (q:Q (.bl k) H) (e:k=k'):EP X pins σ Q (.bool k') s:=by subst e;exact⟨.bl k,H,I,rfl,q⟩
theorem Ng:OpR X (di .Eq) rEq:=by
 intro pins s σ H x y v u Q I rx ry h;obtain⟨hs,q⟩:=h;cases x with
 |non=>
  cases rx;cases y with
  |non=>cases ry;exact UO .(U)
  |bl j=>cases ry;exact UP .(U)
  |int j=>obtain⟨t',rfl⟩:=ry;exact UQ .(U)
  |str j=>obtain⟨t',rfl⟩:=ry;exact UR .(U)
  |_=>exact bu .(bD) qt
 |bl i=>
  cases rx;cases y with
  |non=>cases ry;exact US .(U)
  |bl j=>cases ry;exact eq_bool (cD I q zS)
  |str j=>obtain⟨t',rfl⟩:=ry;exact UT .(U)
  |_=>exact bu .(bD) qt
 |int i=>
  obtain⟨t,rfl⟩:=rx;cases y with
  |non=>cases ry;exact UU .(U)
  |int j=>obtain⟨t',rfl⟩:=ry;exact eq_int (cD I q B')
  |str j=>obtain⟨t',rfl⟩:=ry;exact UV .(U)
  |_=>exact bu .(bD) qt
 |str i=>
  obtain⟨t,rfl⟩:=rx;cases y with
  |non=>cases ry;exact UW .(U)
  |bl j=>cases ry;exact UX .(U)
  |int j=>obtain⟨t',rfl⟩:=ry;exact UY .(U)
  |str j=>obtain⟨t',rfl⟩:=ry;exact eq_str (cD I q BD)
  |_=>exact bu .(bD) qt
 |_=>cases y<;>exact bu .(bD) qt
theorem MV:OpR X (di .NotEq) rNe:=by
 intro pins s σ H x y v u Q I rx ry h;obtain⟨hs,q⟩:=h;cases x with
 |non=>
  cases rx;cases y with
  |non=>cases ry;exact UZ .(U)
  |bl j=>cases ry;exact U0 .(U)
  |int j=>obtain⟨t',rfl⟩:=ry;exact U1 .(U)
  |str j=>obtain⟨t',rfl⟩:=ry;exact U2 .(U)
  |_=>exact bu .(bD) qt
 |bl i=>
  cases rx;cases y with
  |non=>cases ry;exact U3 .(U)
  |bl j=>cases ry;exact ne_bool (cD I q (bO not zS))
  |str j=>obtain⟨t',rfl⟩:=ry;exact U4 .(U)
  |_=>exact bu .(bD) qt
 |int i=>
  obtain⟨t,rfl⟩:=rx;cases y with
  |non=>cases ry;exact U5 .(U)
  |int j=>obtain⟨t',rfl⟩:=ry;exact ne_int (cD I q (bO not B'))
  |str j=>obtain⟨t',rfl⟩:=ry;exact U6 .(U)
  |_=>exact bu .(bD) qt
 |str i=>
  obtain⟨t,rfl⟩:=rx;cases y with
  |non=>cases ry;exact U7 .(U)
  |bl j=>cases ry;exact U8 .(U)
  |int j=>obtain⟨t',rfl⟩:=ry;exact U9 .(U)
  |str j=>obtain⟨t',rfl⟩:=ry;exact ne_str (cD I q (bO not BD))
  |_=>exact bu .(bD) qt
 |_=>cases y<;>exact bu .(bD) qt
theorem RP:OpR X (di .Lt) (rI0 fun i j=>.bl (decide (i<j))):=t5 fun _ _ _ _ _ _ _ q=>lt_int q
theorem Sz:OpR X (di .LtE) (rI0 fun i j=>.bl (decide (i<=j))):=t5 fun _ _ _ _ _ _ _ q=>le_int q
theorem Mo:OpR X (di .Gt) (rI0 fun i j=>.bl (decide (j<i))):=t5 fun _ _ _ _ _ _ _ q=>gt_int q
theorem OT:OpR X (di .GtE) (rI0 fun i j=>.bl (decide (j<=i))):=t5 fun _ _ _ _ _ _ _ q=>ge_int q
theorem OJ:OpR X (di .Lt) (fun x y H Q=>∃i j,x=.str i/\y=.str j/\Q (.bl (decide (i.cps.toList<j.cps.toList))) H):=by intro pins s σ H x y v u Q I rx ry h;obtain⟨i,j,rfl,rfl,q⟩:=h;obtain⟨t,rfl⟩:=rx;obtain⟨t',rfl⟩:=ry;exact lt_str (cD I q rfl)
theorem Ov:OpR X (di .Is) (fun x y H Q=>y=.non/\Q (.bl (decide (x=.non))) H):=by
 intro pins s σ H x y v u Q I rx ry h;obtain⟨rfl,q⟩:=h;cases ry;refine is_none_gen (cD I q ?_);cases x<;>first
  |(cases rx;rfl)
  |(obtain⟨t,rfl⟩:=rx;rfl)
theorem RL:OpR X (di .IsNot) (fun x y H Q=>y=.non/\Q (.bl (!decide (x=.non))) H):=by
 intro pins s σ H x y v u Q I rx ry h;obtain⟨rfl,q⟩:=h;cases ry;refine isnot_none_gen (cD I q ?_);cases x<;>first
  |(cases rx;rfl)
  |(obtain⟨t,rfl⟩:=rx;rfl)
theorem OpR.or {f:av->av->Sem av} {r:R2} (h:OpR X f r) (h':OpR X f r'):OpR X f (fun x y H Q=>r x y H Q\/r' x y H Q):=by
 intro pins s σ H x y v u Q I rx ry q;rcases q with q|q
 .exact h pins s σ H x y v u Q I rx ry q
 .exact h' pins s σ H x y v u Q I rx ry q
theorem jx (b:Expr) (h:op≠.In:=by decide) (h2:op≠.NotIn:=by decide):pQ op b=ar:=by
 have e1:(op==CmpOp.In)=ar:=by cases op<;>first|rfl|exact bu rfl h
 have e2:(op==CmpOp.NotIn)=ar:=by cases op<;>first|rfl|exact bu rfl h2
 cases b<;>simp[pQ,e1,e2]
theorem Q0 {r:R2} (ho:OpR X (di op) r) (ha:PE X a ta) (hb:PE X b tb) (hm:pQ op b=ar):PE X (.Compare a [op] [b] pos) (tOp r ta tb):=by intro pins s σ H Q I h;exact wpAny_Compare1 (xZ ha hb I h fun v u s2 x y H2 I2 rx ry q=>ho pins s2 σ H2 x y v u Q I2 rx ry q) hm
noncomputable def Ev (t:TE):TT:=fun σ H Q=>t σ H fun x H'=>∃k,x=.bl k/\Q k H'
theorem Qx {r:R2} (ho:OpR X (di op) r) (ha:PE X a ta) (hb:PE X b tb) (hm:pQ op b=ar):PT X (.Compare a [op] [b] pos) (Ev (tOp r ta tb)):=by
 intro pins s σ H Q I h;refine wpAny_isTrue_Compare1 (thn .(aG) fun v s1 ⟨x,H1,I1,r1,q1⟩=>thn (hb pins s1 σ H1 _ I1 q1) fun u s2 ⟨y,H2,I2,r2,q2⟩=>
  thn (ho pins s2 σ H2 x y v u _ I2 r1 r2 q2) fun c s3 ⟨z,H3,I3,r3,k,e,q3⟩=>?_) hm
 subst e;cases r3;exact ji ⟨H3,I3,q3⟩
def xf (r r':R2) (ta tb tc:TE):TE:=fun σ H Q=>ta σ H fun x H1=>tb σ H1 fun y H2=>r x y H2 fun z H3=>∃k,z=.bl k /\
 (if k=ah then tc σ H3 fun w' H4=>r' y w' H4 Q else Q (.bl ar) H3)
theorem KN {r:R2} (ho:OpR X (di op) r) (ho':OpR X (di op') r') (ha:PE X a ta) (hb:PE X b tb) (hc:PE X c tc)
  (hm:yJ [op,op'] [b,c]=ar:=by with_unfolding_all rfl):PE X (.Compare a [op,op'] [b,c] pos) (xf r r' ta tb tc):=by
 intro pins s σ H Q I h;refine Compare_chain (thn .(aG) fun v s1 ⟨x,H1,I1,r1,q1⟩=>chain_link (thn (hb pins s1 σ H1 _ I1 q1) fun u s2 ⟨y,H2,I2,r2,q2⟩=>
  thn (ho pins s2 σ H2 x y v u _ I2 r1 r2 q2) fun d s3 ⟨z,H3,I3,r3,k,e,q3⟩=>?_)) hm
 subst e;cases r3;refine ji ?_;cases k with
 |false=>exact ite_ff ⟨.bl ar,H3,I3,rfl,q3⟩
 |true=>exact ite_tt (chain_last (thn (hc pins s3 σ H3 _ I3 q3) fun w' s4 ⟨z',H4,I4,r4,q4⟩=>ho' pins s4 σ H4 y z' u w' Q I4 r2 r4 q4))
theorem QZ {r:R2} (ho:OpR X (di op) r) (ho':OpR X (di op') r') (ha:PE X a ta) (hb:PE X b tb) (hc:PE X c tc)
  (hm:yJ [op,op'] [b,c]=ar:=by with_unfolding_all rfl):PT X (.Compare a [op,op'] [b,c] pos) (Ev (xf r r' ta tb tc)):=by
 intro pins s σ H Q I h;refine isTrue_chain (thn .(aG) fun v s1 ⟨x,H1,I1,r1,q1⟩=>test_link (thn (hb pins s1 σ H1 _ I1 q1) fun u s2 ⟨y,H2,I2,r2,q2⟩=>
  thn (ho pins s2 σ H2 x y v u _ I2 r1 r2 q2) fun d s3 ⟨z,H3,I3,r3,k,e,q3⟩=>?_)) hm
 subst e;cases r3;refine ji ?_;cases k with
 |false=>
  obtain⟨k',e',q'⟩:=q3;cases e';exact ite_ff ⟨H3,I3,q'⟩
 |true=>
  refine ite_tt (test_last (thn (hc pins s3 σ H3 _ I3 q3) fun w' s4 ⟨z',H4,I4,r4,q4⟩=>thn (ho' pins s4 σ H4 y z' u w' _ I4 r2 r4 q4) fun d' s5 ζ=>?_));obtain⟨z2,H5,I5,r5,k2,e2,q5⟩:=ζ;subst e2;cases r5;exact ji ⟨H5,I5,q5⟩
theorem oF:(aJ:ak)<2 ^ 63:=by rw[eV];decide
theorem QQ:OpR X (gc .Add) (fun x y H Q=>∃i j,x=.str i/\y=.str j/\i.length+j.length<=aJ/\Q (.str (i++j)) H):=by intro pins s σ H x y v u Q I rx ry h;obtain⟨i,j,rfl,rfl,hz,q⟩:=h;obtain⟨t,rfl⟩:=rx;obtain⟨t',rfl⟩:=ry;exact add_str (fun t' tk=>⟨.str (i++j),H,I.tok _,⟨_,rfl⟩,q⟩) hz
theorem eJ {x:V} {us:ac av} (r:aU [x] us):∃u,us=[u]/\bp x u:=by
 cases r with
 |cons r1 r2=>cases r2;exact⟨_,rfl,r1⟩
theorem vH {x:V} {us:ac av} (r:aU [x,y] us):∃u w',us=[u,w']/\bp x u/\bp y w':=by
 cases r with
 |cons r1 r2=>
  cases r2 with
  |cons r3 r4=>cases r4;exact⟨_,_,rfl,r1,r3⟩
theorem K' (hc:X.calm=ah):dO X (.builtin "max") (fun xs H Q=>∃i j,xs=[.int i,.int j]/\Q (.int (if j > i then j else i)) H):=by
 intro pins s σ H xs us Q I r h;obtain⟨i,j,rfl,q⟩:=h;obtain⟨u,w',rfl,⟨t,rfl⟩,⟨t',rfl⟩⟩:=vH r;refine max_two_ints .(bz) fun h' tk k=>⟨_,H,I.kept k,?_,q⟩;by_cases hj:j > i
 .rw[qY hj,qY hj];exact⟨_,rfl⟩
 .rw[qZ hj,qZ hj];exact⟨_,rfl⟩
theorem Io (hc:X.calm=ah):dO X (.builtin "min") (fun xs H Q=>∃i j,xs=[.int i,.int j]/\Q (.int (if j<i then j else i)) H):=by
 intro pins s σ H xs us Q I r h;obtain⟨i,j,rfl,q⟩:=h;obtain⟨u,w',rfl,⟨t,rfl⟩,⟨t',rfl⟩⟩:=vH r;refine min_two_ints .(bz) fun h' tk k=>⟨_,H,I.kept k,?_,q⟩;by_cases hj:j<i
 .rw[qY hj,qY hj];exact⟨_,rfl⟩
 .rw[qZ hj,qZ hj];exact⟨_,rfl⟩
noncomputable def Qm (K:aM) (x:V) (H:Hp) (n:ak):Prop:=
 match x with
 |.str y=>y.length<=aJ/\n=y.length
 |.ref p=>(∃xs,SqL K H p xs/\n=xs.length)\/∃xs,SqT K H p xs/\n=xs.length
 |_=>False
theorem JR:dO X (.builtin "len") (fun xs H Q=>∃x n,xs=[x]/\Qm X.K x H n/\Q (.int n) H):=by
 intro pins s σ H xs us Q I r h;obtain⟨x,n,rfl,e,q⟩:=h;obtain⟨u,rfl,rx⟩:=eJ r;have hl:=oF;have hs:aJ=16777216:=eV;cases x with
 |str y=>
  obtain⟨t,rfl⟩:=rx;obtain⟨hy,e'⟩:y.length<=aJ/\n=y.length:=e;subst e';exact len_str .(b) ⟨.int _,H,I.tok _,⟨_,rfl⟩,q⟩
 |ref p=>
  cases rx;have e':(∃xs,SqL X.K H p xs/\n=xs.length)\/∃xs,SqT X.K H p xs/\n=xs.length:=e;rcases e' with⟨xs,hx,e'⟩|⟨xs,hx,e'⟩
  .subst e';obtain⟨its,r',pl,hz⟩:=I.list hx;have hlen:=r'.length;exact Calls.call_len_list pl.isList (by simp only[qC];omega) ⟨.int xs.length,H,I.tok _,⟨_,by simp only[qC];rw[hlen]⟩,q⟩
  .subst e';obtain⟨its,r',pl,hz⟩:=I.tuple hx;have hlen:=r'.length;exact len_tuple pl (by simp only[qC];omega) ⟨.int xs.length,H,I.tok _,⟨_,by simp only[qC];rw[hlen]⟩,q⟩
 |_=>exact(show False from e).elim
end
structure ObjM (h:Heap) (x dx C:au) (mA:ai->aq av):Prop where
 obj:h.get? x=aa (my C dx)
 ns:h.Ns1 dx mA
 ne:dx≠x
variable {dx:au} {mA:ai->aq av}
theorem PC {h:Heap} (n:h.Ns1 dx mA):∃od,h.get? dx=aa od/\∀name,yK name od=aa (mA name):=by
 obtain⟨o,es,ep,ho,hd,hk,_,hm⟩:=n;refine⟨o,ho,fun name=>?_⟩;have e:=hm name;unfold nsFind findBy at e;rw[←Array.find?_toList] at e;unfold yK;rw[hd];dsimp only;split
 .rename_i y q;rw[q] at e;exact bO aa e
 .rename_i q;rw[q] at e;have a:es.toList.any (·.refKey)=ar:=by rw[SI];intro y hy;obtain⟨z,t,hkey⟩:=hk y (Fs.mp hy);simp[DictEntry.refKey,hkey]
  have a':¬es.toList.any (·.refKey)=ah:=by rw[a];exact qt
  rw[qZ a'];exact bO aa e
variable {C:au}
theorem ObjM.look {h:Heap} {x:au} (I:ObjM h x dx C mA):∃od,PySem.W.InstAt h x (my C dx) C (aa od)/\∀name,yK name od=aa (mA name):=
 let ⟨od,ho,hl⟩:=PC I.ns
 ⟨od,⟨I.obj,rfl,rfl,ho⟩,hl⟩
variable {prog:dy} {name:ai} {pl:Sem aN} {ns:ac ai} {kw:ac (ai×av)}
section
variable {x f:au} {v:av}
theorem Po {expr:aN} (X:K.In s.heap) (I:ObjM s.heap x dx C mA) (hg:nS K C name=ah) (hh:pR K C=ah)
  (ha:b8 K (.ref C) name=aa af) (hv:mA name=aa v) (hv':SJ v=ah) (h:Q v {s with toks:=s.toks+1}) :
  aC .(H) A (getAttr (.ref x) name expr) Q E s:=by
 obtain⟨od,J,hl⟩:=I.look;exact PySem.W.get_value X J (Ft hg).1 (PySem.W.findObj_own hh ha rfl (by rw[hl,hv])) hv' h
theorem Hq {Q:av×ac av->aE->Prop} (X:K.In s.heap) (I:ObjM s.heap x dx C mA) (hg:nS K C name=ah)
  (hf:b8 K (.ref C) name=aa (aa (.ref f))) (ht:nT K (.ref f)=ah) (hv:mA name=af) (h:Q (.ref f,[.ref x]) s) :
  aC .(H) A (lg (.ref x) name pl) Q E s:=by
 obtain⟨od,J,hl⟩:=I.look;exact PySem.W.method_fn X J (Ft hg).1 (Ft hg).2 hf (jX.mp ht) (by show(yK name od).map (·.isSome)=aa ar;rw[hl,hv];rfl) h
theorem MH {Q:mB->aE->Prop} (X:K.In s.heap) (I:ObjM s.heap x dx C mA)
  (hs:b8 K (.ref C) "__setattr__"=aa (aa (.builtin "object.__setattr__"))) (hp:uK K C=ah) (ht:Fu K C name=aa af) (hh:pR K C=ah)
  (hw:Fg mA ns) (hsz:ns.length<=aJ)
  (h:∀h',ObjM h' x dx C (fun y=>if y=name then aa v else mA y)->iD dx s.heap h'->Q () {s with heap:=h',toks:=s.toks+2}) :
  aC .(H) A (setAttr (.ref x) name v) Q E s:=by
 obtain⟨od,J,hl⟩:=I.look;refine PySem.W.set_plain X J hs (PySem.W.osa_open (s:={s with toks:=s.toks+1}) (r:=af) X J hp ht fun b=>?_);obtain⟨cd,hc,hd'⟩:=PySem.W.any_some hh;have hx:s.heap.get? x=aa ⟨.ref C,aa dx,.plain,#[]⟩:=I.obj;refine qx (qB (qx (qx (wpAny_loadPart hx (qx (U' (s:={s with toks:=s.toks+1}) (PySem.W.looks_clsIn X hc) ?_))))));rw[hd'];refine qB (a:=aa dx) (qx (qB (qx ?_)));refine wpAny_nsSet1 (s:={s with toks:=s.toks+1}) I.ns fun h' hn2 hs2=>?_;obtain⟨oD,esD,epD,hoD,hdD,hcD⟩:=hn2.count (Va name v hw);refine qx (wpAny_lookBehind hoD (by rw[hdD];exact pastItsLine_dict (qO hcD (by rw[qj];omega))) ?_);exact qB (h _ ⟨(hs2.2 _ (cH I.ne)).trans I.obj,hn2,I.ne⟩ hs2)
theorem EZ {R:li->aE->Prop} {vs:ac av} (X:K.In s.heap) (hm:pT K C=ah)
  (hi:b8 K (.ref C) "__init__"=aa (aa (.ref f))) (hf:PySem.W.typeIn K (.ref f)=aa (.type "function"))
  (h:fu .(H) (A.under (.builtin "type.__call__" ⟨.ref C::vs,kw⟩)) (.call (.ref f) ⟨.ref .(E)::vs,kw⟩) (PySem.W.InitBack .(E) R)
   {s with heap:=(s.heap.push lj).push (my C s.heap.objs.size)}) :
  fu .(H) A (.call (.ref C) ⟨vs,kw⟩) R s:=by
 obtain⟨hh,g,d,t,os⟩:=s;exact PySem.W.make_core (PySem.W.makes_of X hm) (PySem.W.looks_findIn X hi) (fun self=>PySem.W.bind_fn X self hf) (.inl rfl) h
end
noncomputable def eO (f:ai) (v:V):ac (ai×V)->ac (ai×V)
 |[]=>[(f,v)]
 |(g,x)::r=>if g=f then (g,v)::r else (g,x)::eO f v r
theorem Mh (f g:ai) (v:V):∀fs:ac (ai×V),(eO f v fs).lookup g=if g=f then aa v else fs.lookup g:=by
 intro xs0
 induction xs0 with
 |nil=>
  show cK g [(f,v)]=_;by_cases h:g=f
  .have hb:(g==f)=ah:=jX.mpr h;simp only[cK,hb,qY h]
  .have hb:(g==f)=ar:=kW.mpr h;simp only[cK,hb,qZ h]
 |cons x0 r ih=>
  obtain⟨k,x⟩:=x0;have ih:=ih;rw[show eO f v ((k,x)::r)=(if k=f then (k,v)::r else (k,x)::eO f v r) from rfl];by_cases hk:k=f
  .rw[qY hk];by_cases h:g=k
   .have hb:(g==k)=ah:=jX.mpr h;simp only[cK,hb,qY (h.trans hk)]
   .have hb:(g==k)=ar:=kW.mpr h;simp only[cK,hb,qZ (fun e:g=f=>h (e.trans hk.symm))]
  .rw[qZ hk];by_cases h:g=k
   .have hb:(g==k)=ah:=jX.mpr h;simp only[cK,hb,qZ (fun e:g=f=>hk (h.symm.trans e))]
   .have hb:(g==k)=ar:=kW.mpr h;simp only[cK,hb];exact ih
theorem Bc (f:ai) (v:V):∀fs:ac (ai×V),f∈(eO f v fs).map (·.1)/\∀g,g∈fs.map (·.1)->g∈(eO f v fs).map (·.1):=by
 intro xs0
 induction xs0 with
 |nil=>
  exact⟨by simp[eO],fun g h=>by simp at h⟩
 |cons x0 r ih=>
  obtain⟨k,x⟩:=x0;obtain⟨i1,i2⟩:=ih;rw[show eO f v ((k,x)::r)=(if k=f then (k,v)::r else (k,x)::eO f v r) from rfl];by_cases hk:k=f
  .rw[qY hk];subst hk;exact⟨by simp,fun g h=>by simpa using h⟩
  .rw[qZ hk];refine⟨?_,fun g h=>?_⟩
   .rw[qo];exact qi _ i1
   .rw[qo] at h ⊢;rcases bZ.mp h with e|e
    .exact bZ.mpr (.inl e)
    .exact qi _ (i2 g e)
theorem Ql (f:ai) (v:V):∀fs:ac (ai×V),(eO f v fs).length<=fs.length+1:=by
 intro xs0
 induction xs0 with
 |nil=>
  simp[eO]
 |cons x0 r ih=>
  obtain⟨k,x⟩:=x0;have ih:=ih;rw[show eO f v ((k,x)::r)=(if k=f then (k,v)::r else (k,x)::eO f v r) from rfl];by_cases hk:k=f
  .rw[qY hk,qj,qj];omega
  .rw[qZ hk,qj,qj];omega
theorem dX.some_of {o:aq av} (r:dX (aa v) o):∃u,o=aa u/\bp v u:=by
 cases o with
 |none=>exact(show False from r).elim
 |some u=>exact⟨u,rfl,r⟩
theorem dX.none_of {o:aq av} (r:dX af o):o=af:=by
 cases o with
 |none=>rfl
 |some u=>exact(show False from r).elim
theorem Qk (r:bp v u):SJ u=ah:=by
 cases v with
 |non=>cases(show u=kX from r);rfl
 |bl b=>cases(show u=kY b from r);rfl
 |int i=>obtain⟨t,e⟩:=(show ∃t,u=uC i t from r);cases e;rfl
 |str x=>obtain⟨t,e⟩:=(show ∃t,u=uD x t from r);cases e;rfl
 |ref a=>cases(show u=bP a from r);rfl
 |ty n=>cases(show u=kZ n from r);rfl
section
variable {h:Heap} {fs fs':ac (ai×V)}
theorem um (hok:HOk P w H h) (e:H a=aa (.ins C dx fs)):∃mA,ObjM h a dx C mA/\(∀f,dX (fs.lookup f) (mA f))/\Fg mA (fs.map (·.1))/\fs.length<=1000/\H dx=aa (.own a):=by obtain⟨d,z,ne,ob,mA,n,r,q⟩:=(show ca P w H h a (.ins C dx fs) from hok a _ e);exact⟨mA,⟨ob,n,ne⟩,r,q,z,d⟩
end
structure Cls (K:aM) (C:au):Prop where
 pg:nS K C uL=ah
 hd:pR K C=ah
 po:uK K C=ah
 sa:b8 K (.ref C) "__setattr__"=aa (aa (.builtin "object.__setattr__"))
theorem Cls.get (c:Cls K C) (f:ai):nS K C f=ah:=c.pg
noncomputable def kq (K:aM) (C:au) (f:ai):Prop:=b8 K (.ref C) f=aa af
theorem kq.taker {K:aM} {C:au} {f:ai} (n:kq K C f):Fu K C f=aa af:=by unfold Fu;rw[show b8 K (.ref C) f=aa af from n];rfl
structure Meth (K:aM) (C:au) (m:ai) (f:au):Prop where
 at_:b8 K (.ref C) m=aa (aa (.ref f))
 fn:nT K (.ref f)=ah
 kp:fQ K (.ref f)=ah
variable {m:ai} {env:ci}
section
variable {fs:ac (ai×V)} {f:ai}
theorem Hf {b:aN} (I:Inv X pins σ H s) (e:H a=aa (.ins C dx fs)) (c:Cls X.K C) (n:kq X.K C f) (l:fs.lookup f=aa v)
  (h:∀u s',Inv X pins σ H s'->bp v u->Q u s'):aC .(n) A (getAttr (.ref a) f b) Q E s:=by
 obtain⟨mA,O,r,_,_,_⟩:=um I.hok e;obtain⟨u,hu,ru⟩:=dX.some_of (v:=v) (o:=mA f) (by rw[←l];exact r f);exact Po I.kIn O (c.get f) c.hd n hu (Qk ru) (h u _ (I.tok _) ru)
theorem En {g:au} {Q:av×ac av->aE->Prop} (I:Inv X pins σ H s) (e:H a=aa (.ins C dx fs)) (c:Cls X.K C) (k:Meth X.K C m g) (l:fs.lookup m=af)
  (h:Q (.ref g,[.ref a]) s):aC .(n) A (lg (.ref a) m pl) Q E s:=by
 obtain⟨mA,O,r,_,_,_⟩:=um I.hok e;have hn:mA m=af:=dX.none_of (by rw[←l];exact r m);exact Hq I.kIn O (c.get m) k.at_ k.fn hn h
theorem Ko {Q:mB->aE->Prop} (I:Inv X pins σ H s) (e:H a=aa (.ins C dx fs)) (c:Cls X.K C) (n:kq X.K C f) (hl:fs.length<1000) (ry:bp y u)
  (h:∀s',Inv X pins σ (upd H a (.ins C dx (eO f y fs))) s'->Q () s'):aC .(n) A (setAttr (.ref a) f u) Q E s:=by
 obtain⟨mA,O,r,wi,_,ho⟩:=um I.hok e;have hz:(fs.map (·.1)).length<=aJ:=by rw[qg,eV];omega
 refine MH I.kIn O c.sa c.po n.taker c.hd wi hz fun h' O' sb=>h _ ?_;have hd:∃o,h'.get? dx=aa o:=let ⟨o,_,_,e',_⟩:=O'.ns;⟨o,e'⟩
 refine I.write (x:=a) (e:=dx) (by rw[e];exact jo) (.inr ho) (fun b q hb z=>(sb.2 b hb).trans z) hd ?_;refine⟨by rw[ay O.ne];exact ho,?_,O.ne,O'.obj,_,O'.ns,fun g=>?_,fun g hg=>?_⟩
 .have:=Ql f y fs;omega
 .show dX ((eO f y fs).lookup g) (if g=f then aa u else mA g);rw[Mh];by_cases q:g=f
  .rw[qY q,qY q];exact ry
  .rw[qZ q,qZ q];exact r g
 .by_cases q:g=f
  .rw[q];exact(Bc f y fs).1
  .refine(Bc f y fs).2 g (wi g fun z=>hg ?_);show(if g=f then aa u else mA g)=af;rw[qZ q];exact z
theorem Inv.made (I:Inv X pins σ H s):Inv X pins σ (upd (upd H s.heap.objs.size (.own .(E))) .(E) (.ins C s.heap.objs.size []))
  {s with heap:=(s.heap.push lj).push (my C s.heap.objs.size)}:=by
 have e1:(s.heap.push lj).get? s.heap.objs.size=aa lj:=qH s.heap rfl;have e2:((s.heap.push lj).push (my C s.heap.objs.size)).get? .(E)=aa (my C s.heap.objs.size):=by
  have:=qH (s.heap.push lj) (o:=my C s.heap.objs.size) rfl
  rwa [jp] at this
 have e3:(s.heap.push lj).Ns s.heap.objs.size (fun _=>af):=⟨lj,#[],_,e1,rfl,(fun e he=>bu he (by simp)),fun _=>rfl⟩;have I1:=I.laid (a:=s.heap.objs.size) (o:=.own .(E)) (h':=s.heap.push lj) (t':=s.toks) (fun b u q=>qu _ q) (qw _) ⟨_,e1⟩;refine I1.laid (a:=s.heap.objs.size+1) (o:=.ins C s.heap.objs.size []) (t':=s.toks) (fun b u q=>qu _ q) (yL (jp _ _)) ?_;have ne:s.heap.objs.size≠s.heap.objs.size+1:=qD (lq _);refine⟨by rw[ay ne,aV],eW _,ne,e2,fun _=>af,(Heap.Ns1.of_empty e3).at fun o q=>qu _ q,fun _=>jo,fun y hy=>bu rfl hy⟩
theorem LA (hb:gG e f env (eval e env)=eval e env)
  (h:aC .(H) A (eval e env) (fun o s₁=>aC .(H) A (getAttr o f ah) Q E s₁) E s):aC .(H) A (eval (.Attribute e f pos) env) Q E s:=
 Attribute_any_ h (by rw[arm_eval_Attribute,hb])
end
def QE (K:aM) (ta:TE) (f:ai):TE:=fun σ H Q=>ta σ H fun x H1=>∃a C dx fs v,x=.ref a/\H1 a=aa (.ins C dx fs)/\Cls K C/\kq K C f/\fs.lookup f=aa v/\Q v H1
def LL (K:aM) (ta tv:TE) (f:ai):TS:=fun D σ H=>tv σ H fun y H1=>ta σ H1 fun x H2=>∃a C dx fs,x=.ref a/\H2 a=aa (.ins C dx fs)/\Cls K C/\kq K C f/\fs.length<1000 /\
 D.nx σ (upd H2 a (.ins C dx (eO f y fs)))
variable {value:Expr} {tpos:c8} {tv:TE}
section
variable {f:ai}
theorem tL (he:PE X e ta) (hb:gG e f X.env (eval e X.env)=eval e X.env):PE X (.Attribute e f pos) (QE X.K ta f):=by intro pins s σ H Q I h;refine LA hb (thn .(aN) fun u s1 z=>?_);obtain⟨x,H1,I1,rx,a,C,dx,fs,v,ex,ea,c,n,l,q⟩:=z;subst ex;obtain rfl:u=bP a:=rx;exact Hf I1 ea c n l fun u' s2 I2 ru=>⟨v,H1,I2,ru,q⟩
theorem oK (ha:PE X o ta) (hv:PE X value tv) (hs:dh value (aa (.Attribute o f pos')) pos.line X.env=aT ar):PS X (.Assign [.Attribute o f pos'] value pos) (LL X.K ta tv f):=by intro pins s σ H D I h;refine plainObj_wpAny_Assign_Attribute (thn (hv pins s σ H _ I h) fun u s1 ⟨y,H1,I1,ry,q⟩=>thn (ha pins s1 σ H1 _ I1 q) fun ov s2 z=>?_) hs;obtain⟨x,H2,I2,rx,a,C,dx,fs,ex,ea,c,n,l,q2⟩:=z;subst ex;obtain rfl:ov=bP a:=rx;exact Ko I2 ea c n l ry fun s3 I3=>⟨σ,_,I3,q2⟩
end
section
variable {c:av} {b:aN}
inductive TyOf (K:aM) (H:Hp):V->av->Prop where
 |non:TyOf K H .non (.type "NoneType")
 |bl (x:aN):TyOf K H (.bl x) (.type "bool")
 |int (i:aj):TyOf K H (.int i) (.type "int")
 |str (x:ai):TyOf K H (.str x) (.type "str")
 |lst {a:au} {xs:ac V} (e:H a=aa (.lst xs)):TyOf K H (.ref a) (.type "list")
 |frz {a:au} {o:Obj} {xs:ac V} (e:H a=aa (.frz o (.lst xs))):TyOf K H (.ref a) (.type "list")
 |tup {a:au} {xs:ac V} (e:H a=aa (.tup xs)):TyOf K H (.ref a) (.type "tuple")
 |dK {a:au} {kvs:ac (Key×V)} (e:H a=aa (.dK kvs)):TyOf K H (.ref a) (.type "dict")
 |dT {a:au} {kvs:ac .(ax)} (e:H a=aa (.dT kvs)):TyOf K H (.ref a) (.type "dict")
 |ins {a C dx:au} {fs:ac (ai×V)} (e:H a=aa (.ins C dx fs)) (cl:Cls K C) (ha:b8 K (.ref C) "__class__"=aa (aa (.builtin "object.__class__")))
   (hn:PySem.W.specialIn K (.builtin "object.__class__") "__get__"=aa (aa (.builtin "getset_descriptor.__get__"))) (htk:PySem.W.takesIn K (.builtin "object.__class__")=aa ah)
   (hm:PySem.W.mroIn K C (.type "object")=aa ah):TyOf K H (.ref a) (.ref C)
theorem Jj {x:V} {t:av} (I:Inv X pins σ H s) (rx:bp x u) (ty:TyOf X.K H x t) (e:SK X.K t c=aa b) (h:∀tk,Q (.bool b) {s with toks:=tk}) :
  aC .(n) A (call (.builtin "isinstance") [u,c]) Q E s:=by
 cases ty with
 |non=>cases(show u=kX from rx);exact jY PySem.W.kitx_none I.kIn jo e .(L) h
 |bl y=>cases(show u=kY y from rx);exact jY PySem.W.kitx_bool I.kIn jo e .(L) h
 |int i=>obtain⟨t,q⟩:=(show ∃t,u=uC i t from rx);cases q;exact jY PySem.W.kitx_int I.kIn jo e .(L) h
 |str y=>obtain⟨t,q⟩:=(show ∃t,u=uD y t from rx);cases q;exact jY PySem.W.kitx_str I.kIn jo e .(L) h
 | @lst a xs ea=>
  cases(show u=bP a from rx);obtain⟨_,_,n,_,h1⟩:=(show ca X.prog X.w H s.heap a (.lst xs) from I.hok a _ ea);exact jY SL I.kIn ⟨_,h1,rfl⟩ e .(L) h
 | @frz a ob xs ea=>
  cases(show u=bP a from rx);obtain⟨_,_,_,n,_,h1⟩:=(show ca X.prog X.w H s.heap a (.frz ob (.lst xs)) from I.hok a _ ea);exact jY SL I.kIn ⟨_,h1,rfl⟩ e .(L) h
 | @tup a xs ea=>
  cases(show u=bP a from rx);obtain⟨_,_,_,p⟩:=(show ca X.prog X.w H s.heap a (.tup xs) from I.hok a _ ea);obtain⟨o,h1,h2,_⟩:=p;exact jY PySem.W.kitx_tuple I.kIn ⟨o,h1,h2⟩ e .(L) h
 | @dK a kvs ea=>
  cases(show u=bP a from rx);obtain⟨_,_,vs,_,p⟩:=(show ca X.prog X.w H s.heap a (.dK kvs) from I.hok a _ ea);obtain⟨o,es,ep,h1,h2,_⟩:=p;exact jY SM I.kIn ⟨o,h1,h2.1⟩ e .(L) h
 | @dT a kvs ea=>
  cases(show u=bP a from rx);obtain⟨_,_,xs,_,o,es,ep,h1,h2,_⟩:=(show ca X.prog X.w H s.heap a (.dT kvs) from I.hok a _ ea);exact jY SM I.kIn ⟨o,h1,h2.1⟩ e .(L) h
 | @ins a C dx fs ea cl ha hn htk hm=>
  cases(show u=bP a from rx);obtain⟨mA,O,_⟩:=um I.hok ea;obtain⟨od,J,_⟩:=O.look;exact jY (PySem.W.kitx_own (cl.get _) cl.hd ha hn htk hm) I.kIn J e .(L) h
end
structure Room (k:ak) (A:cv):Prop where
 hd:A.handled=af
 dp:A.depth+3*k+5<recursionLimit
 un:A.units+16*k+200<bY
theorem Room.mono {k:ak} (r:Room k A) (h:j<=k):Room j A:=⟨r.hd,by have:=r.dp;omega,by have:=r.un;omega⟩
theorem Room.deeper {k:ak} (r:Room (k+1) A) (env:ci):Room k (A.deeper env):=
 ⟨r.hd,by have:=r.dp;show A.depth+1+3*k+5 < _;omega,by have:=r.un;show A.units+3+16*k+200 < _;omega⟩
theorem Mg {us:ac av} :.(bf).depth=A.depth+1:=by
 first|rfl|simp[Fv,Code.weight,Code.isCreation,Code.isGuard,Code.isCaller,SN,Fw,guardIds]
theorem PM {us:ac av} :.(bf).units=A.units+1:=by
 first|rfl|simp[Fv,Code.cUnits,SN,Fw]
theorem Room.make {k:ak} (r:Room (k+1) A) (C:au) (us:ac av) (kw:ac (ai×av)):Room k .(bf):=
 ⟨r.hd,by have:=r.dp;rw[Mg];omega,by have:=r.un;rw[PM];omega⟩
theorem Room.depth {k:ak} (r:Room k A):A.depth<recursionLimit:=by have:=r.dp;omega
noncomputable def wM:TA:=fun _ H Q=>Q [] H
noncomputable def Cw (ta:TE) (tr:TA):TA:=fun σ H Q=>ta σ H fun x H1=>tr σ H1 fun xs H2=>Q (x::xs) H2
section
variable {t:TA}
theorem fD:PA X [] wM:=fun _ _ _ _ H Q I h=>SO ⟨[],H,I,.nil,h⟩
theorem e7 (ha:PE X e te) (hr:PA X es t) (hs:aH (e::es) X.env=(ar,eval e X.env)::aH es X.env:=by rfl):PA X (e::es) (Cw te t):=by intro pos pins s σ H Q I h;rw[hs];show aC _ _ (spliced ((ar,eval e X.env)::bF pos (aH es X.env))) _ _ s;refine SQ (thn .(aG) fun u s1 ζ=>?_);obtain⟨x,H1,I1,r1,q1⟩:=ζ;exact thn (hr pos pins s1 σ H1 _ I1 q1) fun us s2 ⟨xs,H2,I2,r2,q2⟩=>⟨x::xs,H2,I2,.cons r1 r2,q2⟩
def PY (t:TA):TE:=fun σ H Q=>t σ H fun xs H1=>xs.length<=aJ/\∀p,H1 p=af->Q (.ref p) (upd H1 p (.tup xs))
def Qv (t:TA):TE:=fun σ H Q=>t σ H fun xs H1=>xs.length<=aJ/\∀p,H1 p=af->Q (.ref p) (upd H1 p (.lst xs))
theorem IJ {x1} (h:PA X es t):PE X (.Tuple es x1 pos) (PY t):=by intro pins s σ H Q I hq;refine wpAny_Tuple_spliced (thn (h pos pins s σ H _ I hq) fun us s1 ⟨xs,H1,I1,r,z,q⟩=>⟨by rw[←r.length];exact z,?_⟩);have hf:H1 s1.heap.objs.size=af:=I1.hok.fresh (qw _);refine⟨.ref s1.heap.objs.size,upd H1 s1.heap.objs.size (.tup xs),I1.laid (t':=s1.toks) (fun b u e=>qu _ e) (qw _) ?_,rfl,q _ hf⟩;exact⟨z,us,r,⟨_,qH _ rfl,rfl,_,rfl⟩⟩
theorem EA (h:PA X es t):PE X (.List es pos) (Qv t):=by intro pins s σ H Q I hq;refine wpAny_List_spliced (thn (h pos pins s σ H _ I hq) fun us s1 ⟨xs,H1,I1,r,z,q⟩=>⟨by rw[←r.length];exact z,?_⟩);have hf:H1 s1.heap.objs.size=af:=I1.hok.fresh (qw _);refine⟨.ref s1.heap.objs.size,upd H1 s1.heap.objs.size (.lst xs),I1.laid (t':=s1.toks) (fun b u e=>qu _ e) (qw _) ?_,rfl,q _ hf⟩;exact⟨z,us,0,r,qH _ rfl⟩
end
abbrev Sp:=ac V->Hp->VK->XK->Prop
abbrev CXT:=ac ci->Hp->aE->XK->av->aE->Prop
structure Env0 (P:dy) (w:cA) (K:aM) (mg:ai->aq av) (base:Heap) (A:cv) (outer:ac ci) (s:aE) (H:Hp):Prop where
 frames:A.frames=aa outer
 mod:Mod K mg base
 bs:∀b o,base.get? b=aa o->s.heap.get? b=aa o/\H b=af
 bsz:base.objs.size<=s.heap.objs.size
 funs:s.heap.FunFrames base outer
 frf:∀b∈frs outer,H b=af
 hok:HOk P w H s.heap
 bare:lc s.gens
noncomputable def CE (outer:ac ci) (P:dy) (w:cA) (H:Hp) (s:aE) (Q:VK) (u:av) (s':aE):Prop:=
 ∃v H',s'.os=s.os/\lc s'.gens/\Un (frs outer) [] H H' s.heap s'.heap/\HOk P w H' s'.heap/\bp v u/\Q v H'
noncomputable def CR (CX:CXT) (outer:ac ci) (P:dy) (w:cA) (H:Hp) (s:aE) (Q:VK) (E:XK) (r:li) (s':aE):Prop:=
 match r with
 |.ok (.ret u)=>CE outer P w H s Q u s'
 |.ok _=>False
 |.error e=>CX outer H s E e s'
structure FnOk (P:dy) (w:cA) (K:aM) (mg:ai->aq av) (base:Heap) (CX:CXT) (k:ak) (f:au) (fd:jZ) (ps:ac ai) (sp:Sp):Prop where
 len:∀vs H Q E,sp vs H Q E->vs.length=ps.length
 run:∀(A:cv) (outer:ac ci) (s:aE) (H:Hp) (args:Args) (us:ac av) (vs:ac V) (Q:VK) (E:XK),Room k A->Env0 P w K mg base A outer s H->nU s fd args (ps.zip us)->aU vs us->sp vs H Q E->
  fu (aL P w) A (.call (.ref f) args) (CR CX outer P w H s Q E) s
variable {mg:ai->aq av} {base:Heap} {CX:CXT} {fd:jZ} {ps:ac ai} {sp:Sp}
theorem FnOk.imp {k:ak} {f:au} {sp':Sp} (F:FnOk P w K mg base CX k f fd ps sp)
  (h:∀vs H Q E,sp' vs H Q E->sp vs H Q E):FnOk P w K mg base CX k f fd ps sp':=
 ⟨fun vs H Q E q=>F.len vs H Q E (h _ _ _ _ q),fun A outer s H args us vs Q E hr he hb hv hs=>F.run A outer s H args us vs Q E hr he hb hv (h _ _ _ _ hs)⟩
variable {outer:ac ci}
theorem Env0.make (e:Env0 P w K mg base A outer s H) (C:au) (us:ac av) (kw:ac (ai×av)) :
  Env0 P w K mg base .(bf) outer s H:=⟨by first|exact e.frames|(simpa[Fv,Code.envs,Fw,pushEnvs] using e.frames),e.mod,e.bs,e.bsz,e.funs,e.frf,e.hok,e.bare⟩
theorem Inv.env0 (I:Inv X pins σ H s):Env0 X.prog X.w X.K X.mg X.base X.A X.stack s H:=
 ⟨I.ok.frames,I.ok.mod,I.bs,qO I.ok.bsz I.sz,I.stack,I.stkFree,I.hok,I.bare⟩
theorem Inv.after {Q:VK} (I:Inv X pins σ H s) (h:CE X.stack X.prog X.w H s Q u s'):EP X pins σ Q u s':=by obtain⟨v,H',os,bare,un,hok,r,q⟩:=h;obtain⟨hh,g,d,t,os'⟩:=s';obtain rfl:os'=s.os:=os;exact⟨v,H',I.call (h':=hh) (g':=g) (d':=d) (t':=t) (ch:=[]) un hok bare (fun b z=>bu z (by simp)),r,q⟩
noncomputable def Nz (sp:Sp) (dvs:ac V) (E:XK) (t:TA):TE:=fun σ H Q=>t σ H fun vs H1=>sp (vs++dvs) H1 Q E
noncomputable def Eg (C:au) (m:ai) (sp:Sp) (dvs:ac V) (E:XK) (ta:TE) (t:TA):TE:=fun σ H Q=>ta σ H fun x H1=>∃a dx fs,x=.ref a/\H1 a=aa (.ins C dx fs)/\fs.lookup m=af /\
 t σ H1 fun vs H2=>sp (x::(vs++dvs)) H2 Q E
def LV (C:au) (sp:Sp) (dvs:ac V) (E:XK) (t:TA):TE:=fun σ H Q=>t σ H fun vs H1=>∀x dx,H1 x=af->H1 dx=af->dx≠x->
 sp (.ref x::(vs++dvs)) (upd (upd H1 dx (.own x)) x (.ins C dx [])) (fun v H2=>v=.non/\Q (.ref x) H2) E
noncomputable def dU (K:aM) (fd:jZ) (ps:ac ai) (ds:ac av):Prop:=
 ∀(s:aE) (us:ac av),K.In s.heap->(us++ds).length=ps.length->nU s fd ⟨us,[]⟩ (ps.zip (us++ds))
theorem dU.all (h:∀us:ac av,us.length=ps.length->dQ fd ⟨us,[]⟩=aT (ps.zip us)):dU K fd ps []:=fun s us _ hl=>by rw[gH] at hl ⊢;exact .of_eq (h us hl)
noncomputable def jV (CX:CXT) (X:Cx) (E:XK):Prop:=∀(pins:ac (au×Obj)) (σ:St) (H:Hp) (s:aE) (e:av) (s':aE),Inv X pins σ H s->CX X.stack H s E e s'->X.xe e s'
variable {dvs vs:ac V} {apos:c8}
section
variable {k:ak} {f:au} {ds:ac av} {E:XK} {t:TA}
theorem wG {Q:VK} {us:ac av} (F:FnOk X.prog X.w X.K X.mg X.base CX k f fd ps sp) (hr:Room k X.A) (hb:dU X.K fd ps ds) (hd:aU dvs ds) (hx:jV CX X E)
  (I:Inv X pins σ H s) (r:aU vs us) (h:sp (vs++dvs) H Q E):aC .(n) X.A (call (.ref f) us) .(bp) X.xe s:=by
 have r2:aU (vs++dvs) (us++ds):=r.append hd;have hl:(us++ds).length=ps.length:=by rw[←r2.length];exact F.len _ _ _ _ h
 refine uM (nV (F.run X.A X.stack s H ⟨us,[]⟩ (us++ds) (vs++dvs) Q E hr I.env0 (hb s us I.kIn hl) r2 h) fun r s' hq=>?_);cases r with
 |error e=>exact hx pins σ H s e s' I hq
 |ok fl=>
  cases fl with
  |ret u=>exact I.after hq
  |next=>exact fP hq
  |brk=>exact fP hq
  |cont=>exact fP hq
theorem IK (F:FnOk X.prog X.w X.K X.mg X.base CX k f fd ps sp) (hr:Room k X.A) (hg:Gl X x) (hm:X.mg x=aa (.ref f)) (hk:fQ X.K (.ref f)=ah) (hb:dU X.K fd ps ds) (hd:aU dvs ds) (hx:jV CX X E)
  (ha:PA X (e::es) t) (hdb:.(o)=ar:=by decide) (he:aH (e::es) X.env=(ar,eval e X.env)::aH es X.env:=by rfl) (hpl:.(af).any (·.1)=ar:=by rfl) :
  PE X .(ap) (Nz sp dvs E t):=by
 intro pins s σ H Q I h;refine nW (t9 I hg hm ?_ hdb);refine Fx (h₀:=X.base) I.ok.mod.kin hk (thn .(bl) fun us s1 ⟨vs,H1,I1,r,q⟩=>⟨I1.kIn,?_⟩) he hpl;exact wG F hr hb hd hx I1 r q
theorem v6 (he:PE X o ta) (c:Cls X.K C) (hm:Meth X.K C m f) (F:FnOk X.prog X.w X.K X.mg X.base CX k f fd ps sp) (hr:Room k X.A) (hb:dU X.K fd ps ds) (hd:aU dvs ds) (hx:jV CX X E) (ha:PA X (e::es) t)
  (hst:aH (e::es) X.env=(ar,eval e X.env)::aH es X.env:=by rfl) (hpl:.(af).any (·.1)=ar:=by rfl)
  (ht:eval .(aA) X.env=(do
   let ov ←eval o X.env
   jh apos.atName
   let (f,first) ←fm [ov] (lg ov m pl)
   nX pos f first (bF pos (aH (e::es) X.env)) (dR pos (dS [] X.env))):=by rfl) :
  PE X .(aA) (Eg C m sp dvs E ta t):=by
 intro pins s σ H Q I h;refine SS (pl:=pl) (thn .(aN) fun u s1 z=>?_) ht;obtain⟨x,H1,I1,rx,a,dx,fs,ex,ea,l,q⟩:=z;subst ex;obtain rfl:u=bP a:=rx;refine En I1 ea c hm l ?_;refine Fx (first:=[.ref a]) (h₀:=X.base) I.ok.mod.kin hm.kp (thn (ha pos pins s1 σ H1 _ I1 q) fun us s2 ⟨vs,H2,I2,r,q2⟩=>⟨I2.kIn,?_⟩) hst hpl;exact wG (us:=.ref a::us) (vs:=.ref a::vs) F hr hb hd hx I2 (.cons rfl r) q2
theorem A7 (he:PE X o ta) (c:Cls X.K C) (hm:Meth X.K C m f) (F:FnOk X.prog X.w X.K X.mg X.base CX k f fd ps sp) (hr:Room k X.A) (hb:dU X.K fd ps ds) (hd:aU dvs ds) (hx:jV CX X E)
  (ht:eval .(aO) X.env=(do
   let ov ←eval o X.env
   jh apos.atName
   let (f,first) ←fm [ov] (lg ov m pl)
   nX pos f first (bF pos .(bC)) (dR pos (dS [] X.env))):=by rfl) :
  PE X .(aO) (Eg C m sp dvs E ta wM):=by
 intro pins s σ H Q I h;refine SS (pl:=pl) (thn .(aN) fun u s1 z=>?_) ht;obtain⟨x,H1,I1,rx,a,dx,fs,ex,ea,l,q⟩:=z;subst ex;obtain rfl:u=bP a:=rx;refine En I1 ea c hm l ?_;exact PySem.W.callWith_K0 (first:=[.ref a]) I1.kIn hm.kp (wG (us:=[.ref a]) (vs:=[.ref a]) F hr hb hd hx I1 (.cons rfl .nil) q)
structure Mk (K:aM) (C f:au):Prop where
 makes:pT K C=ah
 init:b8 K (.ref C) "__init__"=aa (aa (.ref f))
 fn:nT K (.ref f)=ah
 kp:fQ K (.ref C)=ah
theorem QF {Q:VK} {us:ac av} (M:Mk X.K C f) (F:FnOk X.prog X.w X.K X.mg X.base CX k f fd ps sp) (hr:Room (k+1) X.A) (hb:dU X.K fd ps ds) (hd:aU dvs ds)
  (hx:jV CX X E) (I:Inv X pins σ H s) (r:aU vs us)
  (h:∀x dx,H x=af->H dx=af->dx≠x->sp (.ref x::(vs++dvs)) (upd (upd H dx (.own x)) x (.ins C dx [])) (fun v H2=>v=.non/\Q (.ref x) H2) E) :
  aC .(n) X.A (call (.ref C) us) .(bp) X.xe s:=by
 have hq:=h .(E) s.heap.objs.size (I.hok.fresh (nY _)) (I.hok.fresh (qw _)) (qD (lq _));have I2:=Inv.made (C:=C) I;have r2:aU (V.ref .(E)::(vs++dvs)) (bP .(E)::(us++ds)):=.cons rfl (r.append hd);have hl:(bP .(E)::us++ds).length=ps.length:=by have e:=r2.length;rw[F.len _ _ _ _ hq] at e;exact e.symm
 refine uM (EZ (f:=f) I.kIn M.makes M.init (jX.mp M.fn) (nV (F.run _ X.stack _ _ ⟨bP .(E)::us,[]⟩ (bP .(E)::(us++ds)) _ _ E (hr.make C us [])
  (I2.env0.make C us []) (hb _ (bP .(E)::us) I2.kIn hl) r2 hq) fun r s' hq'=>?_))
 cases r with
 |error e=>exact hx pins σ _ _ e s' I2 hq'
 |ok fl=>
  cases fl with
  |ret u=>
   obtain⟨v,H',I3,rv,ev,q3⟩:=I2.after hq';subst ev;exact⟨rv,⟨V.ref .(E),H',I3,rfl,q3⟩⟩
  |next=>exact fP hq'
  |brk=>exact fP hq'
  |cont=>exact fP hq'
theorem Al (M:Mk X.K C f) (F:FnOk X.prog X.w X.K X.mg X.base CX k f fd ps sp) (hr:Room (k+1) X.A) (hg:Gl X x) (hm:X.mg x=aa (.ref C)) (hb:dU X.K fd ps ds) (hd:aU dvs ds) (hx:jV CX X E)
  (ha:PA X (e::es) t) (hdb:.(o)=ar:=by decide) (he:aH (e::es) X.env=(ar,eval e X.env)::aH es X.env:=by rfl) (hpl:.(af).any (·.1)=ar:=by rfl) :
  PE X .(ap) (LV C sp dvs E t):=by
 intro pins s σ H Q I h;refine nW (t9 I hg hm ?_ hdb);refine Fx (h₀:=X.base) I.ok.mod.kin M.kp (thn .(bl) fun us s1 ⟨vs,H1,I1,r,q⟩=>⟨I1.kIn,?_⟩) he hpl;exact QF M F hr hb hd hx I1 r q
end
noncomputable def PK (X:Cx) (kws:ac gI) (t:TA):Prop:=
 ∀(pos:c8) (pins:ac (au×Obj)) (s:aE) (σ:St) (H:Hp) (Q:ac V->Hp->Prop),Inv X pins σ H s->t σ H Q->aC .(n) X.A (evalAll ((dR pos (dS kws X.env)).map (·.2))) (AP X pins σ Q) X.xe s
variable {kpos:c8} {kws:ac gI} {tk:TA} {gV:ac V->ac V->ac V}
section
variable {k:ak} {f:au} {ks:ac ai} {E:XK} {t:TA} {nm:aq ai}
theorem IG:PK X [] wM:=fun _ _ _ _ H Q I h=>wpAny_evalAll_nil ⟨[],H,I,.nil,h⟩
theorem Rv (ha:PE X e te) (hr:PK X kws t):PK X (⟨nm,e,kpos⟩::kws) (Cw te t):=by intro pos pins s σ H Q I h;show aC _ _ (evalAll ((do let v ←eval e X.env;jh pos;aT v)::(dR pos (dS kws X.env)).map (·.2))) _ _ s;refine wpAny_evalAll_cons (qx (thn .(aG) fun u s1 ⟨x,H1,I1,r1,q1⟩=>qx (yG (qB ?_))));exact thn (hr pos pins s1 σ H1 _ I1 q1) fun us s2 ⟨xs,H2,I2,r2,q2⟩=>⟨x::xs,H2,I2,.cons r1 r2,q2⟩
structure KBinds (K:aM) (fd:jZ) (ps ks:ac ai) (g:ac av->ac av->ac av) (gV:ac V->ac V->ac V):Prop where
 to:∀(s:aE) (us ws:ac av),K.In s.heap->(g us ws).length=ps.length->nU s fd ⟨us,ks.zip ws⟩ (ps.zip (g us ws))
 rel:∀{vs:ac V} {us:ac av} {zs:ac V} {ws:ac av},aU vs us->aU zs ws->aU (gV vs zs) (g us ws)
variable {g:ac av->ac av->ac av}
end
structure FnScope (N P:ac ai) (sc:Scope):Prop where
 kind:sc.kind=.function
 co:sc.isCoroutine=ar
 gen:sc.isGenerator=ar
 nd:N.Nodup
 pre:N.take P.length=P
 par:∀x∈P,sc.names.lookup x=aa .local\/sc.names.lookup x=aa .cell
 nofree:∀y∈sc.names,y.2≠.free
variable {kindOf:ai->aq hV}
theorem HU :∀{binds:ac (ai×av)} {m:ai->aq av},(∀v,(x,v)∉binds)->mD kindOf binds m x=m x:=by
 intro xs0
 induction xs0 with
 |nil=>
  intro _ _;exact rfl
 |cons x0 r ih=>
  obtain⟨n,v⟩:=x0;intro m h;unfold mD;rw[ih fun w hw=>h w (qi _ hw)];split
  .have:x≠n:=by rintro rfl;exact h v qh
   simp[this]
  .rfl
theorem JG :∀{binds:ac (ai×av)} {m:ai->aq av},(∀v,(x,v)∉binds)->mE kindOf binds m x=m x:=by
 intro xs0
 induction xs0 with
 |nil=>
  intro _ _;exact rfl
 |cons x0 r ih=>
  obtain⟨n,v⟩:=x0;intro m h;unfold mE;rw[ih fun w hw=>h w (qi _ hw)];split
  .rfl
  .have:x≠n:=by rintro rfl;exact h v qh
   simp[this]
theorem zP {kindOf:ai->aq hV} {x:ai} {v:av}:∀{P:ac ai} {vs:ac av} {i:ak} {m:ai->aq av},P.Nodup->P[i]?=aa x->vs[i]?=aa v->kindOf x=aa .local->
  mD kindOf (P.zip vs) m x=aa v
 |[],_,_,_,_,h,_,_=>by simp at h
 |_::_,[],_,_,_,_,h,_=>by simp at h
 |p::P,w::vs,0,m,nd,h1,h2,hk=>by
  simp at h1 h2;subst h1;subst h2;show mD kindOf ((p,w)::P.zip vs) m p=_;unfold mD;rw[HU fun v hv=>(cU.mp nd).1 (Fy hv).1,qY hk];simp
 |p::P,w::vs,i+1,m,nd,h1,h2,hk=>by show mD kindOf ((p,w)::P.zip vs) m x=_;unfold mD;exact zP (i:=i) (cU.mp nd).2 (by simpa using h1) (by simpa using h2) hk
theorem Cd {kindOf:ai->aq hV} {x:ai} {v:av}:∀{P:ac ai} {vs:ac av} {i:ak} {m:ai->aq av},P.Nodup->P[i]?=aa x->vs[i]?=aa v->kindOf x≠aa .local->
  mE kindOf (P.zip vs) m x=aa v
 |[],_,_,_,_,h,_,_=>by simp at h
 |_::_,[],_,_,_,_,h,_=>by simp at h
 |p::P,w::vs,0,m,nd,h1,h2,hk=>by
  simp at h1 h2;subst h1;subst h2;show mE kindOf ((p,w)::P.zip vs) m p=_;unfold mE;rw[JG fun v hv=>(cU.mp nd).1 (Fy hv).1,qZ hk];simp
 |p::P,w::vs,i+1,m,nd,h1,h2,hk=>by show mE kindOf ((p,w)::P.zip vs) m x=_;unfold mE;exact Cd (i:=i) (cU.mp nd).2 (by simpa using h1) (by simpa using h2) hk
noncomputable def dw (N:ac ai) (vs:ac V):St:=vs.map aa++bJ (N.length-vs.length) af
noncomputable def c9 (CX:CXT) (P:dy) (w:cA) (K:aM) (mg:ai->aq av) (base:Heap) (N:ac ai) (qual:ai) (scope:Scope) (f:au) (cd:av) (A:cv) (outer:ac ci) (s:aE) (H:Hp) (E:XK):Cx where
 prog:=P
 w:=w
 K:=K
 mg:=mg
 base:=base
 A:=A.deeper (cY qual scope s.heap.objs.size f cd)
 N:=N
 s₀:=s
 H₀:=H
 env:=cY qual scope s.heap.objs.size f cd
 outer:=outer
 stack:=cY qual scope s.heap.objs.size f cd::outer
 ex:=[]
 calm:=ah
 fn:=fun _=>ah
 pn:=[]
 xe:=fun e s'=>aC (aL P w) (A.deeper (cY qual scope s.heap.objs.size f cd)) (leaving (cY qual scope s.heap.objs.size f cd) e) (fun _ s''=>CX outer H s E e s'') (fun e' s''=>CX outer H s E e' s'') s'
variable {sc:Scope}
theorem EU (h:sc.names.lookup x=aa .cell):∃c,(Fz n sc.names []).lookup x=aa c:=by have q:=SU sc.names n [] (.inl h);exact uN.mp q
variable {qual:ai} {scope:Scope} {cd:av}
theorem Qs {f:au} {s1:aE} {E:XK} {us:ac av} 
  (S:FnScope N ps scope) (hd:A.handled=af) (e0:Env0 P w K mg base A outer s H) (hl:vs.length=ps.length) (r:aU vs us)
  (x:InCallC s s.heap.objs.size (mD (cY qual scope s.heap.objs.size f cd).kindOf (ps.zip us) fun _=>af) (Fz .(E) scope.names []) (mE (cY qual scope s.heap.objs.size f cd).kindOf (ps.zip us) fun _=>af) s1) :
  Inv (c9 CX P w K mg base N qual scope f cd A outer s H E) [] (dw N vs) H s1:=by
 have hpl:ps.length<=N.length:=by have:=bO cI S.pre;rw[qF] at this;omega
 obtain⟨h1,tk,rfl,hk⟩:=x.done;have noA:∀b:au,b∉(c9 CX P w K mg base N qual scope f cd A outer s H E).ex:=fun b z=>bu (show b∈([]:ac au) from z) (by simp);refine⟨⟨e0.mod,S.kind,rfl,rfl,qw _,fun y z c h1 h2=>?_,fun y hy=>?_,fun y c _ h=>?_,fun _=>hd,Around.frames_deeper e0.frames,.inr ⟨rfl,rfl⟩,fun b z=>bu z (noA b),e0.bs,e0.bsz,fun b _ _=>noA b,fun b z=>bu z (noA b),e0.funs,e0.frf⟩,
  rfl,e0.bare,Un.kept hk,⟨_,x.toInCall.ns,fun i y v h1 h2 h3=>?_⟩,fun y c h=>⟨_,x.cell y c h⟩,e0.hok.fresh (qw _),fun y c h=>?_,fun p hp=>bu (show p∈([]:ac (au×Obj)) from hp) (by simp),e0.hok.kept hk,?_⟩
 .exact name_of_addr x.apart (mG h1) (mG h2)
 .have hy:scope.names.lookup y=aa .cell\/scope.names.lookup y=aa .free:=hy;rcases hy with hy|hy
  .exact EU hy
  .exact bu rfl (S.nofree _ (mG hy))
 .exact pL (x.above y c (mG h))
 .have hi:i<vs.length:=by
   unfold dw at h2;by_cases hi:i<vs.length
   .exact hi
   .rw[qM .(bu)] at h2;rw[uO] at h2;split at h2<;>cases h2
  have ha:vs[i]?=aa v:=by
   unfold dw at h2;rw[qA .(bu),ql] at h2;cases e:vs[i]? with
   |none=>rw[e] at h2;cases h2
   |some a=>rw[e] at h2;cases h2;rfl
  obtain⟨u,hu,rv⟩:=r.get ha;have hp:ps[i]?=aa y:=by rw[←S.pre,yM .(b)];exact h1
  have ndP:ps.Nodup:=by rw[←S.pre];exact S.nd.sublist (mH _ _)
  refine⟨u,rv,?_⟩;rcases S.par y (qR hp) with k|k
  .exact .inl ⟨k,zP ndP hp hu k⟩
  .obtain⟨c,e⟩:=EU (n:=s.heap.objs.size+1) k;refine .inr ⟨.inl k,c,e,?_⟩;have q:=x.cell y c e;rw[Cd ndP hp hu (by show scope.names.lookup y≠_;rw[k];decide)] at q;exact q
 .exact e0.hok.fresh (pL (x.above y c (mG h)))
 .unfold dw;show _=N.length;rw[qk,qg,List.length_replicate];omega
variable {doc pm cdv ct oc:av} {an od:aq au} {osl:bI (aq av)}
theorem B9 {k:ak} {f:au} {params:Arguments} {dV kV:av} 
  (lk:K.lookup f=aa ⟨oc,od,.func (cV name qual params body scope dV kV doc pm an cdv ct),osl⟩) (hcd:mI K cdv qual=ah) (S:FnScope N ps scope)
  (len:∀vs H Q E,sp vs H Q E->vs.length=ps.length)
  (hbody:∀(A:cv) (outer:ac ci) (s:aE) (H:Hp) (vs:ac V) (Q:VK) (E:XK),Room k (A.deeper (cY qual scope s.heap.objs.size f cdv))->sp vs H Q E->
   ∃t,PSs (c9 CX P w K mg base N qual scope f cdv A outer s H E) body t/\t {nx:=fun _ H'=>Q .non H',rt:=Q} (dw N vs) H) :
  FnOk P w K mg base CX (k+1) f (cV name qual params body scope dV kV doc pm an cdv ct) ps sp:=by
 refine⟨len,fun A outer s H args us vs Q E hr e0 hb r hsp=>?_⟩;have hl:=len _ _ _ _ hsp;have KX:K.In s.heap:=e0.mod.kin.keeps fun b o e=>(e0.bs b o e).1;have lim:s.heap.NoLimit:=e0.mod.nolimit.keeps fun b o e=>(e0.bs b o e).1;have hkind:∀y∈ps.zip us,scope.names.lookup y.1=aa .local\/(scope.names.lookup y.1=aa .cell/\((Fz .(E) scope.names []).lookup y.1).isSome=ah):=fun⟨n,v⟩ hy=>by
  rcases S.par n (Fy hy).1 with q|q
  .exact .inl q
  .exact .inr ⟨q,SU _ _ _ (.inl q)⟩
 refine codeAny_call_function hr.depth (KX _ _ lk) rfl S.co S.gen rfl (PySem.W.codeRec_of KX hcd) (hb _ _ _ _ ?_);refine wpAny_newFunctionEnv_cells S.kind hkind fun env he s1 x=>?_;subst he;refine⟨lim.keeps x.toInCall.keep,codeAny_func ?_⟩;obtain⟨t,ht,hq⟩:=hbody A outer s H vs Q E (hr.deeper _) hsp;have I:Inv (c9 CX P w K mg base N qual scope f cdv A outer s H E) [] (dw N vs) H s1:=Qs S hr.hd e0 hl r x;refine hU (ht [] s1 (dw N vs) H _ I hq) (fun fl s' hs=>?_) fun e s' hs=>hs;have fin:∀{σ':St} {H':Hp} {v:V} {u:av},Inv (c9 CX P w K mg base N qual scope f cdv A outer s H E) [] σ' H' s'->bp v u->Q v H'->CE outer P w H s Q u s':=
  fun {σ' H' v u} J rv q=>⟨v,H',J.os,J.bare,J.base,J.hok,rv,q⟩
 cases fl with
 |ret u=>
  obtain⟨v,σ',H',J,rv,q⟩:=hs;exact fin J rv q
 |next=>
  obtain⟨σ',H',J,q⟩:=hs;exact fin (v:=V.non) (u:=kX) J rfl q
 |brk=>
  obtain⟨_,_,_,q⟩:=hs;exact fP q
 |cont=>
  obtain⟨_,_,_,q⟩:=hs;exact fP q
variable {T:cE}
section
variable {t:TA} {id:cE} {r:ac V->Hp->VK->Prop}
noncomputable def tCB (r:ac V->Hp->VK->Prop) (t:TA):TE:=fun σ H Q=>t σ H fun vs H1=>r vs H1 Q
theorem wp (hc:dO X (.builtin id) r) (hg:Gl X x) (hm:X.mg x=af) (hv:dH x=aa (.builtin id)) (ha:PA X (e::es) t) (hn:x≠"__name__":=by decide) (hdb:.(o)=ar:=by decide)
  (he:aH (e::es) X.env=(ar,eval e X.env)::aH es X.env:=by rfl) (hpl:.(af).any (·.1)=ar:=by rfl):PE X .(ap) (tCB r t):=by
 intro pins s σ H Q I h;refine nW (kN I hg hm hv ?_ hn hdb);exact Vb (thn .(bl) fun us s1 ⟨vs,H1,I1,r1,q1⟩=>hc pins s1 σ H1 vs us Q I1 r1 q1) he hpl
theorem lC (hc:dO X (.type T) r) (hg:Gl X x) (hm:X.mg x=af) (hv:dH x=aa (.type T)) (ha:PA X (e::es) t) (hn:x≠"__name__":=by decide) (hdb:.(o)=ar:=by decide)
  (he:aH (e::es) X.env=(ar,eval e X.env)::aH es X.env:=by rfl) (hpl:.(af).any (·.1)=ar:=by rfl):PE X .(ap) (tCB r t):=by
 intro pins s σ H Q I h;refine nW (kN I hg hm hv ?_ hn hdb);exact yI (thn .(bl) fun us s1 ⟨vs,H1,I1,r1,q1⟩=>hc pins s1 σ H1 vs us Q I1 r1 q1) he hpl
end
variable {sl:au} {vl vu:av} {hi:aq aj}
namespace HT
theorem cat_tup {t b:au} {vs ws:ac av} (ht:uE s.heap t vs.toArray) (hb:uE s.heap b ws.toArray) (hv:vs≠[])
  (h1:ws=[]->Q (.ref t) s) (h2:ws≠[]->Q .(aK) {s with heap:=s.heap.push {cls:=.type "tuple",data:=.seq (vs++ws).toArray} })
  (hsz:vs.length+ws.length<=aJ):aC .(H) A (gc .Add (.ref t) (.ref b)) Q E s:=by
 obtain⟨⟨cls,dd,data,sl⟩,ho,hc,n,hd⟩:=id ht;obtain⟨⟨cls2,dd2,data2,sl2⟩,ho2,hc2,n2,hd2⟩:=id hb;simp only at hc hd hc2 hd2;subst hc hd hc2 hd2;have e:vs.toArray++ws.toArray=(vs++ws).toArray:=by simp
 by_cases hw:ws=[]
 .exact concat_meets ⟨_,ho,rfl⟩ ⟨_,ho2,rfl⟩ SV seq_tuple_add SW SX (SY _ _)
   (tuple_addW1 t b vs.toArray ws.toArray n n2 dd dd2 sl sl2 (by simpa using hv) (by simp[hw])) ⟨ho,ho2,h1 hw⟩
 .refine concat_meets ⟨_,ho,rfl⟩ ⟨_,ho2,rfl⟩ SV seq_tuple_add SW SX (SY _ _)
   (tuple_addW2 t b vs.toArray ws.toArray n n2 dd dd2 sl sl2 (by simpa using hv) (by simpa using hw) (by rw[qC,qC];exact hsz)) ⟨ho,ho2,?_⟩
  rw[e];exact h2 hw
noncomputable def sIx (n d:ak):aq aj->ak
 |none=>d
 |some v=>if v<0 then (v+(n:aj)).toNat else min v.toNat n
theorem Qo (n d:ak) (hd:d<=n) (o:aq aj):sIx n d o<=n:=by
 cases o with
 |none=>exact hd
 |some v=>
  show(if v<0 then (v+(n:aj)).toNat else min v.toNat n)<=n;by_cases hv:v<0
  .rw[qY hv];omega
  .rw[qZ hv];exact FB _ _
theorem AB (v:aj) (n d:ak):(if v<0 then max (v+(n:aj)) 0 else min v (n:aj))=((sIx n d (aa v):ak):aj):=by
 show(if v<0 then max (v+(n:aj)) 0 else min v (n:aj))=(((if v<0 then (v+(n:aj)).toNat else min v.toNat n):ak):aj);by_cases hv:v<0
 .simp only[qY hv];omega
 .simp only[qZ hv];omega
theorem Oc (lo hi:aq aj) (n:ak):FC lo hi 1 (n:aj)=(((sIx n 0 lo:ak):aj),((sIx n n hi:ak):aj)):=by
 have h1:¬((1:aj)<0):=by omega
 unfold FC;simp only[h1,cB];refine Prod.ext ?_ ?_
 .cases lo with
  |none=>rfl
  |some v=>exact AB v n 0
 .cases hi with
  |none=>rfl
  |some v=>exact AB v n n
theorem Qj (i j:ak):yN (i:aj) (j:aj) 1=j-i:=by
 unfold yN;have h1:(1:aj) > 0:=by omega
 simp only[h1,cq,Int.ediv_one];split<;>omega
theorem BR {v:av} {o:aq aj} {Q:aq aj->aE->Prop} (p:mJ v o) (h:Q o s):aC .(H) A (Vc v) Q E s:=by
 cases p with
 |none=>exact SZ h
 |int i t=>exact slicePart_int h
theorem KZ {lo:aq aj} {Q:aj×aj×ak->aE->Prop} (hs:s.heap.IsSliceOf sl vl vu .none) (pl:mJ vl lo) (pu:mJ vu hi)
  (h:Q (((sIx n 0 lo:ak):aj),1,sIx n n hi-sIx n 0 lo) s):aC .(H) A (S0 (.ref sl) (aT (n:aj))) Q E s:=by
 obtain⟨os,hos,hcs,hds⟩:=id hs;unfold S0 Ve;refine qx (qx (FD hos hds (x:=vl) rfl (qx (FD hos hds (x:=vu) rfl (qx (FD hos hds (x:=.none) rfl (qB ?_)))))));refine qx (SZ ?_);show aC _ _ (if ((1:aj)==0)=ah then _ else _) _ _ s;rw[qZ .(c)];refine qx (BR pl (qx (BR pu (qx (qB ?_)))));show aC _ _ (match FC lo hi 1 (n:aj) with|(lo,hi)=>aT (lo,(1:aj),yN lo hi 1)) _ _ s;rw[Oc lo hi n];show aC _ _ (aT (((sIx n 0 lo:ak):aj),(1:aj),yN ((sIx n 0 lo:ak):aj) ((sIx n n hi:ak):aj) 1)) _ _ s;rw[Qj];exact qB h
theorem GQ (xs:bI av) (i k:ak):((ck k).filterMap fun(m:ak)=>xs[((i:aj)+(m:aj)*1).toNat]?).toArray=((xs.toList.drop i).take k).toArray:=by
 have e:(fun(m:ak)=>xs[((i:aj)+(m:aj)*1).toNat]?)=fun m=>xs[i+m]?:=by
  funext m
  have:((i:aj)+(m:aj)*1).toNat=i+m:=by omega
  rw[this]
 rw[e];have:=yO xs i k;rw[List.filterMap_map] at this;have e2:((fun x=>xs[x]?) ∘ fun x=>i+x)=fun m=>xs[i+m]?:=rfl;rw[e2] at this;rw[this]
theorem getItem_tuple_cut {t:au} {items:bI av} {lo:aq aj} (ht:uE s.heap t items) (hs:s.heap.IsSliceOf sl vl vu .none) (pl:mJ vl lo) (pu:mJ vu hi)
  (hw:¬(sIx items.size 0 lo=0/\sIx items.size items.size hi=items.size))
  (h:Q .(aK) {s with heap:=s.heap.push {cls:=.type "tuple",data:=.seq .(aF).toArray} })
  (hsz:items.size<=aJ):aC .(H) A (mK (.ref t) (.ref sl)) Q E s:=by
 have htake:sizeOk (.seq .(aF).toArray):=by show.(aF).toArray.size<=aJ;rw[qC,qF,jq,iE];omega
 have hj:sIx items.size items.size hi<=items.size:=Qo _ _ (qw _) hi;obtain⟨os,hos,hcs,hds⟩:=id hs;have hTs:s.TypeIs (.ref sl) "slice":=⟨os,hos,hcs⟩;unfold mK
 try with_reducible refine qV ?_
 first|refine qx (qB ?_)|skip
 refine qx (wpAny_sequenceKey ht.typeIs .(c) ?_);refine qx (S1 (name:=hZ "__getitem__") ht.typeIs FF
  (yP FF ht.typeIs entry_tuple_getitem ?_ (args_tuple_getitem _ _)))
 show aC _ _ (Vf (.ref t) >>= _) _ _ s;refine qx (tupleItemsOf_ ht ?_);refine qx (uP hTs ?_);rw[qY .(c)];refine qx (KZ hs pl pu ?_);have hno:¬((((sIx items.size 0 lo:ak):aj)==0 && (1:aj)==1 && (sIx items.size items.size hi-sIx items.size 0 lo)==items.size)=ah):=by intro q;rw[eX,eX] at q;have q1:((sIx items.size 0 lo:ak):aj)=0:=eq_of_beq q.1.1;have q2:sIx items.size items.size hi-sIx items.size 0 lo=items.size:=eq_of_beq q.2;exact hw ⟨by omega,by omega⟩
 show aC _ _ (if (((sIx items.size 0 lo:ak):aj)==0 && (1:aj)==1 && (sIx items.size items.size hi-sIx items.size 0 lo)==items.size)=ah then _ else _) _ _ s;rw[qZ hno,GQ]
 first
  |exact qx (m:=yQ _) (j0 (qB ⟨_,rfl,qB h⟩) htake)
  |exact qx (m:=yQ _) (j0 (qx (qB (qB ⟨_,rfl,qB h⟩))) htake)
  |exact qx (qx (m:=yQ _) (j0 (qB (qB ⟨_,rfl,qB h⟩)) htake))
  |exact qx (qx (m:=yQ _) (j0 (qB ⟨_,rfl,qB h⟩) htake))
end HT
abbrev TO:=St->Hp->(aq aj->Hp->Prop)->Prop
noncomputable def PO (X:Cx) (e:aq Expr) (t:TO):Prop:=
 ∀(pins:ac (au×Obj)) (s:aE) (σ:St) (H:Hp) (Q:aq aj->Hp->Prop),Inv X pins σ H s->t σ H Q->
  aC .(n) X.A (evalPart e X.env) (fun u s'=>∃o H',Inv X pins σ H' s'/\mJ u o/\Q o H') X.xe s
noncomputable def QL:TO:=fun _ H Q=>Q af H
noncomputable def Qg (t:TE):TO:=fun σ H Q=>t σ H fun x H1=>∃i,x=.int i/\Q (aa i) H1
variable {p2:c8}
section
variable {lo hi:aq Expr} {tl th:TO}
theorem Nn:PO X af QL:=by intro pins s σ H Q I h;rw[evalPart_none];exact qB ⟨af,H,I,.none,h⟩
theorem N1 (h:PE X e te):PO X (aa e) (Qg te):=by intro pins s σ H Q I hw;rw[evalPart_some];refine thn (h pins s σ H _ I hw) fun u s1 ζ=>?_;obtain⟨x,H1,I1,r1,q1⟩:=ζ;obtain⟨i,rfl,q⟩:=q1;obtain⟨t,rfl⟩:=r1;exact⟨aa i,H1,I1,.int i t,q⟩
noncomputable def SlR (X:Cx) (r:V->aq aj->aq aj->Hp->VK->Prop):Prop:=
 ∀(pins:ac (au×Obj)) (s:aE) (σ:St) (H:Hp) (x:V) (v vl vu:av) (lo hi:aq aj) (sl:au) (Q:VK),Inv X pins σ H s->bp x v->s.heap.IsSliceOf sl vl vu .none->mJ vl lo->mJ vu hi->r x lo hi H Q->
  ∃T id,yR (.type T) "__getitem__"=aT (aa (.builtin id))/\s.TypeIs v T/\aC .(n) X.A (mK v (.ref sl)) .(bp) X.xe s
theorem SlR.or {r r':V->aq aj->aq aj->Hp->VK->Prop} (h:SlR X r) (h':SlR X r'):SlR X (fun x lo hi H Q=>r x lo hi H Q\/r' x lo hi H Q):=by
 intro pins s σ H x v vl vu lo hi sl Q I rx hs pl pu q;rcases q with q|q
 .exact h pins s σ H x v vl vu lo hi sl Q I rx hs pl pu q
 .exact h' pins s σ H x v vl vu lo hi sl Q I rx hs pl pu q
noncomputable def tSl (r:V->aq aj->aq aj->Hp->VK->Prop) (te:TE) (tl th:TO):TE:=fun σ H Q=>te σ H fun x H1=>tl σ H1 fun l H2=>th σ H2 fun u H3=>r x l u H3 Q
theorem Pz {r:V->aq aj->aq aj->Hp->VK->Prop} (hr:SlR X r) (he:PE X e te) (hl:PO X lo tl) (hu:PO X hi th):PE X (.Subscript e (.Slice lo hi af p2) pos) (tSl r te tl th):=by intro pins s σ H Q I h;refine yS (thn .(aN) fun v s1 ζ=>?_);obtain⟨x,H1,I1,r1,q1⟩:=ζ;refine wpAny_Slice (thn (hl pins s1 σ H1 _ I1 q1) fun vl s2 ⟨l,H2,I2,pl,q2⟩=>thn (hu pins s2 σ H2 _ I2 q2) fun vu s3 ⟨u,H3,I3,pu,q3⟩=>?_);rw[evalPart_none];refine qB ?_;have I4:Inv X pins σ H3 {s3 with heap:=s3.heap.push {cls:=.type "slice",data:=.fields #[vl,vu,.none]} }:=I3.kept (t':=s3.toks) fun b ob q=>qu _ q;obtain⟨T,id,hT,ht,hg⟩:=hr pins {s3 with heap:=s3.heap.push {cls:=.type "slice",data:=.fields #[vl,vu,.none]} } σ H3 x v vl vu l u s3.heap.objs.size Q I4 r1 (S2 ..) pl pu q3;show aC .(n) X.A (yT e (.Slice lo hi af p2) v (.ref s3.heap.objs.size)) .(bp) X.xe {s3 with heap:=s3.heap.push {cls:=.type "slice",data:=.fields #[vl,vu,.none]} };exact FH (ops:=[.ref s3.heap.objs.size,v]) ht hT hg (by with_unfolding_all rfl)
def kj (xs:ac V) (lo hi:aq aj):ac V:=(xs.drop (HT.sIx xs.length 0 lo)).take .(bn)
theorem z7 (xs:ac V) (lo hi:aq aj):(kj xs lo hi).length<=xs.length:=by unfold kj;rw[qF,jq];omega
noncomputable def Nv (K:aM):V->aq aj->aq aj->Hp->VK->Prop:=fun x lo hi H Q=>∃a xs,x=.ref a/\SqT K H a xs /\
 ¬(HT.sIx xs.length 0 lo=0/\HT.sIx xs.length xs.length hi=xs.length)/\∀p,H p=af->Q (.ref p) (upd H p (.tup (kj xs lo hi)))
theorem Ol:SlR X (Nv X.K):=by
 intro pins s σ H x v vl vu lo hi sl Q I rx hs pl pu h;obtain⟨a,xs,rfl,hx,hw,q⟩:=h;cases rx;obtain⟨its,r,ht,hz⟩:=I.tuple hx;have hlen:its.toArray.size=xs.length:=by rw[qC];exact r.length.symm
 refine⟨"tuple",_,FF.lookup,ht.typeIs,?_⟩;refine HT.getItem_tuple_cut ht hs pl pu (by rw[hlen];exact hw) ?_ (by rw[hlen];exact hz);rw[hlen];refine⟨.ref s.heap.objs.size,_,I.laid (t':=s.toks) (o:=.tup (kj xs lo hi)) (fun b ob q=>qu _ q) (qw _) ?_,rfl,q _ (I.hok.fresh (qw _))⟩;exact⟨qO (z7 xs lo hi) hz,_,(r.drop (HT.sIx xs.length 0 lo)).take .(bn),FI _ _⟩
def AA (K:aM):R2:=fun x y H Q=>∃a b xs ys,x=.ref a/\y=.ref b/\SqT K H a xs/\SqT K H b ys/\xs≠[]/\xs.length+ys.length<=aJ /\
 (ys=[]->Q (.ref a) H)/\(ys≠[]->∀p,H p=af->Q (.ref p) (upd H p (.tup (xs++ys))))
theorem aU.nil_iff {xs:ac V} {us:ac av} (r:aU xs us):us=[]↔xs=[]:=by
 cases r with
 |nil=>simp
 |cons _ _=>simp
theorem Oe:OpR X (gc .Add) (AA X.K):=by intro pins s σ H x y v u Q I rx ry h;obtain⟨a,b,xs,ys,rfl,rfl,ha,hb,hx,hz,q1,q2⟩:=h;cases rx;cases ry;obtain⟨its,r1,p1,_⟩:=I.tuple ha;obtain⟨its2,r2,p2,_⟩:=I.tuple hb;refine HT.cat_tup p1 p2 (fun z=>hx (r1.nil_iff.mp z)) (fun z=>⟨.ref a,H,I,rfl,q1 (r2.nil_iff.mp z)⟩) (fun z=>?_) (by rw[←r1.length,←r2.length];exact hz);refine⟨.ref s.heap.objs.size,_,I.laid (t':=s.toks) (o:=.tup (xs++ys)) (fun b ob q=>qu _ q) (qw _) ?_,rfl,q2 (fun w=>z (r2.nil_iff.mpr w)) _ (I.hok.fresh (qw _))⟩;exact⟨by rw[qk];exact hz,_,r1.append r2,FI _ _⟩
end
noncomputable def ixN (n:ak) (i:aj):aq ak:=if 0<=i then (if i<n then aa i.toNat else af) else if -(n:aj)<=i then aa (i+n).toNat else af
def atI (xs:ac α) (i:aj):aq α:=(ixN xs.length i).bind fun j=>xs[j]?
theorem AL {i:aj} (h:ixN n i=aa j):seqIndex? i n=aa j/\j<n /\ -(n:aj)<=i/\i<n:=by
 unfold ixN at h;by_cases h0:0<=i
 .rw[qY h0] at h;by_cases h1:i<n
  .rw[qY h1] at h;have e:i.toNat=j:=qI h;exact⟨by rw[FJ h0 h1,e],by omega,by omega,h1⟩
  .rw[qZ h1] at h;cases h
 .rw[qZ h0] at h;by_cases h1 : -(n:aj)<=i
  .rw[qY h1] at h;have e:(i+n).toNat=j:=qI h;exact⟨by rw[seqIndex_neg .(b) h1,e],by omega,h1,by omega⟩
  .rw[qZ h1] at h;cases h
theorem w9 {xs:ac α} {i:aj} {v:α} (h:atI xs i=aa v):∃j,seqIndex? i xs.length=aa j/\xs[j]?=aa v/\j<xs.length /\ -(xs.length:aj)<=i/\i<xs.length:=by
 unfold atI at h;cases e:ixN xs.length i with
 |none=>rw[e] at h;cases h
 |some j=>
  rw[e] at h;obtain⟨h1,h2,h3,h4⟩:=AL e;exact⟨j,h1,h,h2,h3,h4⟩
theorem iP {xs:ac α} {v:α} (h:xs[j]?=aa v):atI xs (j:aj)=aa v:=by
 have hj:j<xs.length:=(fJ.mp h).1;have e:ixN xs.length (j:aj)=aa j:=by unfold ixN;rw[qY .(b),qY .(b)];simp
 unfold atI;rw[e];exact h
noncomputable def o6 (b:Expr):Prop:=∀o i,yU b ar o i=operate [o,i] (mK o i)
noncomputable def IxR (X:Cx) (r:R2):Prop:=
 ∀(value slice:Expr) (pins:ac (au×Obj)) (s:aE) (σ:St) (H:Hp) (x y:V) (v u:av) (Q:VK),Inv X pins σ H s->bp x v->bp y u->r x y H Q->
  yU slice ar v u=operate [v,u] (mK v u)->aC .(n) X.A (yT value slice v u) .(bp) X.xe s
noncomputable def MtR (X:Cx) (id:cE) (r:V->ac V->Hp->VK->Prop):Prop:=
 ∀(pins:ac (au×Obj)) (s:aE) (σ:St) (H:Hp) (x:V) (xs:ac V) (v:av) (us:ac av) (Q:VK),Inv X pins σ H s->bp x v->aU xs us->r x xs H Q->
  aC .(n) X.A (call (.builtin id) (v::us)) .(bp) X.xe s
variable {its its':ac av} {cpos:c8}
section
variable {a:Expr} {tb:TE}
theorem IxR.or {r:R2} (h:IxR X r) (h':IxR X r'):IxR X (fun x y H Q=>r x y H Q\/r' x y H Q):=by
 intro value slice pins s σ H x y v u Q I rx ry q hs;rcases q with q|q
 .exact h value slice pins s σ H x y v u Q I rx ry q hs
 .exact h' value slice pins s σ H x y v u Q I rx ry q hs
theorem sR {r:R2} (hr:IxR X r) (ha:PE X a ta) (hb:PE X b tb) (hs:o6 b):PE X (.Subscript a b pos) (tOp r ta tb):=by intro pins s σ H Q I h;exact yS (xZ ha hb I h fun v u s2 x y H2 I2 rx ry q=>hr a b pins s2 σ H2 x y v u Q I2 rx ry q (hs _ _))
def Ct (K:aM):R2:=fun x y H Q=>∃p xs i v,x=.ref p/\y=.int i/\SqL K H p xs/\atI xs i=aa v/\Q v H
def DM (K:aM):R2:=fun x y H Q=>∃p xs i v,x=.ref p/\y=.int i/\SqT K H p xs/\atI xs i=aa v/\Q v H
def Cg:R2:=fun x y H Q=>∃z i c,x=.str z/\y=.int i/\z.length<=aJ/\atI z.cps.toList i=aa c/\Q (.str ⟨#[c]⟩) H
theorem JH:IxR X (Ct X.K):=by
 intro value slice pins s σ H x y v u Q I rx ry h hs;obtain⟨p,xs,i,z,rfl,rfl,hq,he,q⟩:=h;cases rx;obtain⟨t,rfl⟩:=ry;obtain⟨its,r,pl,hz⟩:=I.list hq;obtain⟨j,h1,h2,h3,h4,h5⟩:=w9 he;obtain⟨w,ew,rw'⟩:=r.get h2;have hl:=r.length;have hn:=oF;have fin:EP X pins σ Q w s:=⟨z,H,I,rw',q⟩;by_cases h0:0<=i
 .have hj:i.toNat=j:=by rw[FJ h0 h5] at h1;exact qI h1
  exact item_listR pl.isList h0 .(b) (by rw[hj];simpa using ew) fin hs
 .have hj:(i+(its.toArray.size:aj)).toNat=j:=by rw[seqIndex_neg .(b) h4] at h1;rw[qC,←hl];exact qI h1
  exact S3 (x:=w) pl.isList.typeIs FK.lookup
   (wpAny_getItem_list_neg (Q:=fun r s'=>r=w/\EP X pins σ Q r s') pl.isList .(b) (by rw[qC]<;>omega) .(b) (by rw[hj];simpa using ew) ⟨rfl,fin⟩) hs
theorem JW:IxR X (DM X.K):=by
 intro value slice pins s σ H x y v u Q I rx ry h hs;obtain⟨p,xs,i,z,rfl,rfl,hq,he,q⟩:=h;cases rx;obtain⟨t,rfl⟩:=ry;obtain⟨its,r,pl,hz⟩:=I.tuple hq;obtain⟨j,h1,h2,h3,h4,h5⟩:=w9 he;obtain⟨w,ew,rw'⟩:=r.get h2;have hl:=r.length;have hn:=oF;have fin:EP X pins σ Q w s:=⟨z,H,I,rw',q⟩;exact S3 (x:=w) pl.typeIs slot_tuple_getitem.lookup
  (getItem_tuple (j:=j) (Q:=fun r s'=>r=w/\EP X pins σ Q r s') pl .(b) .(b) (by rw[qC,←hl];exact h1) (by simpa using ew) ⟨rfl,fin⟩) hs
theorem LS:IxR X Cg:=by
 intro value slice pins s σ H x y v u Q I rx ry h hs;obtain⟨z,i,c,rfl,rfl,hz,he,q⟩:=h;obtain⟨t,rfl⟩:=rx;obtain⟨t',rfl⟩:=ry;obtain⟨j,h1,h2,h3,h4,h5⟩:=w9 he;have hl:z.cps.toList.length=z.length:=by simp[pU]
 rw[hl] at h1 h4 h5;have hn:=oF;exact FH (FM s z t) slot_str_getitem.lookup (getItem_str (c:=c) (by have e1:decide (i < -(2 ^ 63:aj))=ar:=qP .(b);have e2:decide (i ≥ 2 ^ 63)=ar:=qP .(b);rw[e1,e2,Bool.or_false]) (by rw[h1];simpa using h2) ⟨.str ⟨#[c]⟩,H,I.tok _,⟨_,rfl⟩,q⟩) hs
def rIx (K:aM):R2:=fun x y H Q=>Ct K x y H Q\/DM K x y H Q\/Cg x y H Q
theorem uq:IxR X (rIx X.K):=JH.or (JW.or LS)
theorem QJ (its:ac av) (n j:ak) (u:av):uQ (·.setIfInBounds j u) {cls:=.type "list",data:=.seq its.toArray n}={cls:=.type "list",data:=.seq (its.set j u).toArray n}:=by simp[uQ]
theorem Inv.lst {p:au} {xs:ac V} (I:Inv X pins σ H s) (h:H p=aa (.lst xs)) :
  ∃(its:ac av) (n:ak),aU xs its/\s.heap.get? p=aa {cls:=.type "list",data:=.seq its.toArray n}/\xs.length<=aJ:=by
 obtain⟨z,its,n,r,e⟩:=I.hok p _ h;exact⟨its,n,r,e,z⟩
theorem Inv.lstUpd {p:au} {xs:ac V} {n':ak} {f:Obj->Obj} (I:Inv X pins σ H s) (h:H p=aa (.lst xs))
  (ho:s.heap.get? p=aa {cls:=.type "list",data:=.seq its.toArray n}) (hf:f {cls:=.type "list",data:=.seq its.toArray n}={cls:=.type "list",data:=.seq its'.toArray n'}) (r:aU ys its') (hz:ys.length<=aJ) (t:ak) :
  Inv X pins σ (upd H p (.lst ys)) {s with heap:=s.heap.update p f,toks:=t}:=by
 have e:(s.heap.update p f).get? p=aa {cls:=.type "list",data:=.seq its'.toArray n'}:=by rw[nZ f ho (by rw[hf]<;>rfl),hf]
 refine I.write (x:=p) (e:=p) (by rw[h];trivial) (.inl rfl) (fun b u hb q=>(qy _ _ (cH hb)).trans q) ⟨_,e⟩ ?_;exact⟨hz,its',n',r,e⟩
noncomputable def Pu:V->V->V->Hp->(Hp->Prop)->Prop:=fun o i v H Q=>∃p xs k j,o=.ref p/\i=.int k/\H p=aa (.lst xs)/\ixN xs.length k=aa j/\Q (upd H p (.lst (xs.set j v)))
theorem Sk:zR X Pu:=by
 intro pins s σ H o i v ov iv u Q I ro ri rv h;obtain⟨p,xs,k,j,rfl,rfl,hp,hj,q⟩:=h;cases ro;obtain⟨t,rfl⟩:=ri;obtain⟨its,n,r,ho,hz⟩:=I.lst hp;obtain⟨h1,h2,h3,h4⟩:=AL hj;have hl:=r.length;have hn:=oF;have I':Inv X pins σ (upd H p (.lst (xs.set j v))) {s with heap:=s.heap.update p (uQ (·.setIfInBounds j u))} :=
  I.lstUpd hp ho (QJ its n j u) (r.set rv j) (by rw[S4];exact hz) s.toks
 by_cases h0:0<=k
 .have hk:k.toNat=j:=by rw[FJ h0 h4] at h1;exact qI h1
  exact PySem.W.ki_setAt ho h0 .(b) (by rw[qC,←hl];exact h4) (by rw[hk];exact⟨_,I',q⟩)
 .have hk:(k+(its.toArray.size:aj)).toNat=j:=by rw[seqIndex_neg .(b) h3] at h1;rw[qC,←hl];exact qI h1
  exact PySem.W.ki_setBack ho .(b) (by rw[qC,←hl];exact h3) .(b) (by rw[hk];exact⟨_,I',q⟩)
theorem OQ (lo hi:aq aj) (n:ak):(n5 lo hi af n).1=((HT.sIx n 0 lo:ak):aj)/\(n5 lo hi af n).2.1=((HT.sIx n n hi:ak):aj)/\(n5 lo hi af n).2.2=1:=by
 refine⟨?_,?_,rfl⟩
 .cases lo with
  |none=>simp[n5,HT.sIx]
  |some i=>
   simp only[n5,HT.sIx,S5,show(1:aj) > 0 by decide,cq];by_cases h:i<0
   .simp only[h,cq]<;>omega
   .simp only[h,cB]<;>omega
 .cases hi with
  |none=>simp[n5,HT.sIx]
  |some i=>
   simp only[n5,HT.sIx,S5,show(1:aj) > 0 by decide,cq];by_cases h:i<0
   .simp only[h,cq]<;>omega
   .simp only[h,cB]<;>omega
theorem GZ (its:ac av) (lo hi:aq aj):slicePick its.toArray lo hi af=((its.drop (HT.sIx its.length 0 lo)).take (HT.sIx its.length its.length hi-HT.sIx its.length 0 lo)).toArray:=by obtain⟨h1,h2,h3⟩:=OQ lo hi its.toArray.size;unfold slicePick;rw[h1,h2,h3];simp only[S6,yO,qC]<;>rfl
noncomputable def MZ (K:aM):V->aq aj->aq aj->Hp->VK->Prop:=fun x lo hi H Q=>∃a xs,x=.ref a/\SqL K H a xs/\∀p,H p=af->Q (.ref p) (upd H p (.lst (kj xs lo hi)))
theorem M2:SlR X (MZ X.K):=by intro pins s σ H x v vl vu lo hi sl Q I rx hs pl pu h;obtain⟨a,xs,rfl,hx,q⟩:=h;cases rx;obtain⟨its,r,ht,hz⟩:=I.list hx;have hlen:=r.length;refine⟨"list",_,FK.lookup,ht.isList.typeIs,?_⟩;refine S7 ht.isList hs pl pu .none (by simp) ?_ (by rw[qC]<;>omega);rw[GZ,←hlen];refine⟨.ref s.heap.objs.size,_,I.laid (t':=s.toks) (o:=.lst (kj xs lo hi)) (fun b ob q=>qu _ q) (qw _) ?_,rfl,q _ (I.hok.fresh (qw _))⟩;exact⟨qO (z7 xs lo hi) hz,_,0,(r.drop (HT.sIx xs.length 0 lo)).take .(bn),qH _ rfl⟩
theorem BZ:dO X (.type "list") (fun xs H Q=>∃p ys,xs=[.ref p]/\(SqL X.K H p ys\/SqT X.K H p ys)/\∀l,H l=af->Q (.ref l) (upd H l (.lst ys))):=by
 intro pins s σ H xs us Q I r h;obtain⟨p,ys,rfl,hq,q⟩:=h;obtain⟨u,rfl,rx⟩:=eJ r;cases rx;have fin:∀(its:ac av),aU ys its->ys.length<=aJ->∀(h':Heap) (c':ak),(∀b o',s.heap.get? b=aa o'->h'.get? b=aa o')->
   h'.get? s.heap.objs.size=aa {cls:=.type "list",dict:=af,data:=.seq its.toArray c',slots:=#[]}->EP X pins σ Q .(aK) {s with heap:=h'}:=fun its r' hz h' c' kp e=>
  ⟨.ref s.heap.objs.size,_,I.laid (t':=s.toks) kp (qw _) (show ca X.prog X.w _ h' _ (.lst ys) from⟨hz,its,c',r',e⟩),rfl,q _ (I.hok.fresh (qw _))⟩
 rcases hq with hq|hq
 .obtain⟨its,r',pl,hz⟩:=I.list hq;have hlen:=r'.length;obtain⟨o,ho,hc,n,hd⟩:=pl.isList;exact call_list_seq p (.inl rfl) ho hc hd (fun h' c' kp e=>fin its r' hz h' c' kp e) (by simp only[qC]<;>omega)
 .obtain⟨its,r',pl,hz⟩:=I.tuple hq;have hlen:=r'.length;obtain⟨o,ho,hc,n,hd⟩:=pl;exact call_list_seq p (.inr rfl) ho hc hd (fun h' c' kp e=>fin its r' hz h' c' kp e) (by simp only[qC]<;>omega)
theorem PZ:dO X (.type "tuple") (fun xs H Q=>∃p ys,xs=[.ref p]/\((SqL X.K H p ys/\∀l,H l=af->Q (.ref l) (upd H l (.tup ys)))\/(SqT X.K H p ys/\Q (.ref p) H))):=by
 intro pins s σ H xs us Q I r h;obtain⟨p,ys,rfl,h⟩:=h;obtain⟨u,rfl,rx⟩:=eJ r;cases rx;rcases h with⟨hq,q⟩|⟨hq,q⟩
 .obtain⟨its,r',pl,hz⟩:=I.list hq;have hlen:=r'.length;refine call_tuple_list pl.isList (fun h' kp=>?_) (by simp only[qC]<;>omega);have I1:Inv X pins σ H {s with heap:=h'}:=I.kept (t':=s.toks) kp;have I2:Inv X pins σ (upd H h'.objs.size (.tup ys)) {s with heap:=h'.push {cls:=.type "tuple",data:=.seq its.toArray} } :=
   I1.laid (t':=s.toks) (fun b o e=>qu _ e) (qw _) (show ca X.prog X.w _ _ _ (.tup ys) from⟨hz,its,r',FI _ _⟩)
  exact⟨.ref h'.objs.size,_,I2,rfl,q _ (I1.hok.fresh (qw _))⟩
 .obtain⟨its,r',pl,hz⟩:=I.tuple hq;exact call_tuple_same pl ⟨.ref p,H,I,rfl,q⟩
noncomputable def tyV (K:aM) (T:cE) (x:V) (H:Hp):Prop:=match x with
 |.str _=>T="str"
 |.int _=>T="int"
 |.ref p=>(T="list"/\∃xs,SqL K H p xs)\/(T="tuple"/\∃o,K.lookup p=aa o/\o.cls=.type "tuple"/\o.dict=af) \/
   (T="dict"/\((∃kvs,H p=aa (.dK kvs))\/∃kvs,H p=aa (.dT kvs)))\/(T="set"/\∃S n,H p=aa (.set S n))
 |_=>False
theorem Br {x:V} {v:av} (I:Inv X pins σ H s) (r:bp x v) (ty:tyV X.K T x H) :
  s.TypeIs v T/\∀a,v=.ref a->∃ob,s.heap.get? a=aa ob/\ob.dict=af:=by
 cases x with
 |str z=>
  obtain⟨t,rfl⟩:=r;cases(show T="str" from ty);exact⟨FM s z t,fun _ e=>nomatch e⟩
 |int i=>
  obtain⟨t,rfl⟩:=r;cases(show T="int" from ty);exact⟨FN s i t,fun _ e=>nomatch e⟩
 |ref p=>
  cases r;rcases ty with⟨rfl,xs,hq⟩|⟨rfl,o,hk,hc,hd⟩|⟨rfl,hk⟩|⟨rfl,S,n,hk⟩
  .obtain⟨its,_,pl,_⟩:=I.list hq;refine⟨pl.isList.typeIs,fun a e=>?_⟩;cases e;obtain⟨o,n,e,c,hd,_⟩:=pl;exact⟨o,e,hd⟩
  .refine⟨⟨o,I.kIn p o hk,hc⟩,fun a e=>?_⟩;cases e;exact⟨o,I.kIn _ o hk,hd⟩
  .have z:∃o,s.heap.get? p=aa o/\o.ExactDict:=by
    rcases hk with⟨kvs,hk⟩|⟨kvs,hk⟩
    .obtain⟨_,_,_,_,o,_,_,e,ex,_⟩:=I.hok p _ hk;exact⟨o,e,ex⟩
    .obtain⟨_,_,_,_,o,_,_,e,ex,_⟩:=I.hok p _ hk;exact⟨o,e,ex⟩
   obtain⟨o,e,ex⟩:=z;refine⟨⟨o,e,ex.1⟩,fun a e2=>?_⟩;cases e2;exact⟨o,e,ex.2.1⟩
  .obtain⟨o,_,_,_,e,ex,_⟩:=I.hok p _ hk;refine⟨⟨o,e,ex.1⟩,fun a e2=>?_⟩;cases e2;exact⟨o,e,ex.2.1⟩
 |_=>exact fP ty
def Jy (K:aM) (T:cE) (r:V->ac V->Hp->VK->Prop) (to:TE):TE:=fun σ H Q=>to σ H fun x H1=>tyV K T x H1/\r x [] H1 Q
def tBM (K:aM) (T:cE) (r:V->ac V->Hp->VK->Prop) (to:TE) (t:TA):TE:=fun σ H Q=>to σ H fun x H1=>tyV K T x H1/\t σ H1 fun xs H2=>r x xs H2 Q
variable {t:TA} {id:cE} {r:V->ac V->Hp->VK->Prop}
theorem R1 (pa:FO T) (slot:Slot T name id) (hty:typeOf (.builtin id)=aT (.type "method_descriptor")) (hm:MtR X id r) (ho:PE X o to)
  (hbase:gG o name X.env (eval o X.env)=eval o X.env:=by rfl) (hline:.(bv)=ah:=by rfl):PE X (.Call (.Attribute o name apos) [] [] cpos) (Jy X.K T r to):=by
 intro pins s σ H Q I h;refine wpAny_Call_method0_late hbase hline (thn (ho pins s σ H _ I h) fun v s1 ζ=>?_);obtain⟨x,H1,I1,r1,ty,q1⟩:=ζ;obtain⟨h1,h2⟩:=Br I1 r1 ty;exact⟨T,id,pa,slot,hty,h1,h2,FP rfl (PySem.evalArgs_none (hm pins s1 σ H1 x [] v [] Q I1 r1 .nil q1))⟩
theorem ui (pa:FO T) (slot:Slot T name id) (hty:typeOf (.builtin id)=aT (.type "method_descriptor")) (hm:MtR X id r) (ho:PE X o to) (ha:PA X (e::es) t)
  (hbase:gG o name X.env (eval o X.env)=eval o X.env:=by rfl)
  (hfew:((bF cpos (aH (e::es) X.env)).all (fun x=>!x.1) && (dR cpos (dS [] X.env)).all (fun x=>x.1.isSome)
   && decide ((e::es).length+([]:ac gI).length+.(aY)<30))=ah:=by rfl)
  (hline:.(bv)=ah:=by rfl) (hs:aH (e::es) X.env=(ar,eval e X.env)::aH es X.env:=by rfl) (hplain:(bF cpos (aH es X.env)).any (·.1)=ar:=by rfl) :
  PE X (.Call (.Attribute o name apos) (e::es) [] cpos) (tBM X.K T r to t):=by
 intro pins s σ H Q I h;refine wpAny_Call_method_late hbase hfew hline rfl (thn (ho pins s σ H _ I h) fun v s1 ζ=>?_);obtain⟨x,H1,I1,r1,ty,q1⟩:=ζ;obtain⟨h1,h2⟩:=Br I1 r1 ty;refine⟨T,id,pa,slot,hty,h1,h2,?_⟩;have hA:=ha cpos pins s1 σ H1 _ I1 q1;rw[hs] at hA ⊢;refine FP (by show(ar || (bF cpos (aH es X.env)).any (·.1))=ar;rw[hplain]<;>rfl) (S8 ?_);exact thn hA fun us s2 ⟨vs,H2,I2,r2,q2⟩=>hm pins s2 σ H2 x vs v us Q I2 r1 r2 q2
end
noncomputable def MtM (X:Cx) (id:cE) (r:V->ac V->Hp->VK->Prop):Prop:=
 ∀(pins:ac (au×Obj)) (s:aE) (σ:St) (H:Hp) (x:V) (xs:ac V) (v:av) (us:ac av) (Q:VK),Inv X pins σ H s->bp x v->aU xs us->r x xs H Q->
  aC .(n) X.A (call (.builtin id) (v::us)) .(bp) X.xe s
theorem aU.one:∀{x:V} {us:ac av},aU [x] us->∃u,us=[u]/\bp x u
 |_,_,h=>by obtain _|⟨r,_|_⟩:=h;exact⟨_,rfl,r⟩
theorem aU.reverse {xs:ac V} {us:ac av} (h:aU xs us):aU xs.reverse us.reverse:=by
 induction h with
 |nil=>exact .nil
 |cons r t ih=>rw[yV,yV];exact aU.append ih (.cons r .nil)
theorem aU.rep {xs:ac V} {us:ac av} (h:aU xs us):∀k:ak,aU (bJ k xs).flatten (bJ k us).flatten
 |0=>.nil
 |k+1=>by rw[lr,lr,n6,n6];exact aU.append h (aU.rep h k)
theorem BY (its:ac av):∀(k:ak) (acc:ac av),
  FR (fun x1 x2=>x1++x2) acc.toArray (bJ k its.toArray)=(acc++(bJ k its).flatten).toArray
 |0,acc=>by simp
 |k+1,acc=>by
  have e:acc.toArray++its.toArray=(acc++its).toArray:=by simp
  have e2:(acc++its)++(bJ k its).flatten=acc++(bJ (k+1) its).flatten:=by rw[lr,n6,pV]
  rw[←e2,←BY its k (acc++its),←e,lr,fL]
variable {l:au} {zs:ac V}
section
variable {b:au} {xs:ac V}
theorem Inv.lset {f:bI av->bI av} (I:Inv X pins σ H s) (hH:H l=aa (.lst xs))
  (e:s.heap.get? l=aa {cls:=.type "list",data:=.seq its.toArray n}) (hf:f its.toArray=its'.toArray) (hv:aU ys its') (hz:ys.length<=aJ) :
  Inv X pins σ (upd H l (.lst ys)) {s with heap:=s.heap.update l (uQ f),toks:=t'}:=by
 have q:=PySem.IsL.update e f;rw[hf] at q;refine I.write (x:=l) (e:=l) (by rw[hH];exact trivial) (.inl rfl) (fun b' u hb hu=>(qy s.heap (uQ f) (cH hb)).trans hu) ⟨_,q⟩ ?_;exact⟨hz,its',_,hv,q⟩
theorem Inv.lnew (I:Inv X pins σ H s) (hv:aU ys its) (hz:ys.length<=aJ) :
  Inv X pins σ (upd H s.heap.objs.size (.lst ys)) {s with heap:=s.heap.push {cls:=.type "list",data:=.seq its.toArray},toks:=t'} :=
 I.laid (fun _ _ q=>qu _ q) (qw _) ⟨hz,its,0,hv,qH _ rfl⟩
theorem Inv.fresh (I:Inv X pins σ H s):H s.heap.objs.size=af:=I.hok.fresh (qw _)
theorem Inv.lstM (I:Inv X pins σ H s) (hH:H l=aa (.lst xs)):xs.length<=aJ/\∃(its:ac av) (n:ak),aU xs its/\xs.length=its.length/\s.heap.get? l=aa {cls:=.type "list",data:=.seq its.toArray n}:=by obtain⟨z,its,n,r,e⟩:=I.hok l _ hH;exact⟨z,its,n,r,r.length,e⟩
theorem DK (h:n<=aJ):yW n=ar:=by unfold yW;exact qP .(b)
end
noncomputable def P1:V->ac V->Hp->VK->Prop:=fun x vs H Q=>∃l xs y,x=.ref l/\vs=[y]/\H l=aa (.lst xs)/\xs.length<aJ/\Q .non (upd H l (.lst (xs++[y])))
theorem xz:MtM X "list.append" P1:=by intro pins s σ H x vs v us Q I rx rv h;obtain⟨l,xs,y,rfl,rfl,hH,hz,q⟩:=h;cases rx;obtain⟨u,rfl,ru⟩:=rv.one;obtain⟨z,its,n,r,hl,e⟩:=I.lstM hH;refine yX FU ⟨_,e,rfl⟩ F.entry_list_append (F.args_list_append_2 _ _) (PySem.list_append l its.toArray n u (by rw[qC];omega)) ⟨e,?_⟩;refine⟨.non,_,I.lset (its':=its++[u]) hH e (by simp) (r.append (.cons ru .nil)) ?_,rfl,q⟩;rw[qk,n9];omega
noncomputable def Q1:V->ac V->Hp->VK->Prop:=fun x vs H Q=>∃l b xs zs,x=.ref l/\vs=[.ref b]/\H l=aa (.lst xs)/\H b=aa (.lst zs)/\xs.length+zs.length<=aJ/\Q .non (upd H l (.lst (xs++zs)))
theorem Pf:MtM X "list.extend" Q1:=by
 intro pins s σ H x vs v us Q I rx rv h;obtain⟨l,b,xs,zs,rfl,rfl,hH,hB,hz,q⟩:=h;cases rx;obtain⟨u,rfl,ru⟩:=rv.one;cases ru;obtain⟨z,its,n,r,hl,e⟩:=I.lstM hH;obtain⟨z2,its2,n2,r2,hl2,e2⟩:=I.lstM hB;have hsz:its.toArray.size+its2.toArray.size<=aJ:=by rw[qC,qC];omega
 have hlong:¬(!its.toArray.isEmpty && yW (its.toArray.size+its2.toArray.size))=ah:=by rw[DK hsz,S9];exact qt
 refine yX S' ⟨_,e,rfl⟩ F.entry_list_extend (F.args_list_extend_2 _ _)
  (AutoSeq1.list_extend_list_list_0 l its.toArray n b its2.toArray n2 hlong (by rw[qC];omega) .(b)) ⟨e,e2,?_⟩
 refine⟨.non,_,I.lset (its':=its++its2) hH e (by simp) (r.append r2) ?_,rfl,q⟩;rw[qk];omega
def wq:R2:=fun x y H Q=>∃l b xs zs,x=.ref l/\y=.ref b/\H l=aa (.lst xs)/\H b=aa (.lst zs)/\xs.length+zs.length<=aJ/\∀p,H p=af->Q (.ref p) (upd H p (.lst (xs++zs)))
theorem Oq:OpR X (gc .Add) wq:=by
 intro pins s σ H x y v u Q I rx ry h;obtain⟨l,b,xs,zs,rfl,rfl,hH,hB,hz,q⟩:=h;cases rx;cases ry;obtain⟨z,its,n,r,hl,e⟩:=I.lstM hH;obtain⟨z2,its2,n2,r2,hl2,e2⟩:=I.lstM hB;refine PySem.P.add_list e e2 ?_ (by rw[qC,qC];omega);have ea:its.toArray++its2.toArray=(its++its2).toArray:=by simp
 rw[ea];exact⟨.ref _,_,I.lnew (t':=s.toks) (r.append r2) (by rw[qk];omega),rfl,q _ I.fresh⟩
def Ek:R2:=fun x y H Q=>∃l k xs,x=.ref l/\y=.int k/\H l=aa (.lst xs) /\ -(2 ^ 63)<=k/\k<2 ^ 63/\xs.length*k.toNat<=aJ /\
 ∀p,H p=af->Q (.ref p) (upd H p (.lst (bJ k.toNat xs).flatten))
theorem Dy (xs:ac α) (k:ak):(bJ k xs).flatten.length=k*xs.length:=by
 induction k with
 |zero=>simp
 |succ k ih=>rw[lr,n6,qk,ih,oa,Nat.add_comm]
theorem Q8:OpR X (gc .Mult) Ek:=by
 intro pins s σ H x y v u Q I rx ry h;obtain⟨l,k,xs,rfl,rfl,hH,h1,h2,hz,q⟩:=h;cases rx;obtain⟨t,rfl⟩:=ry;obtain⟨z,its,n,r,hl,e⟩:=I.lstM hH;have hlen:its.toArray.size*k.toNat<=aJ:=by rw[qC,←hl];exact hz
 have hcap:¬its.toArray.size*k.toNat > (2 ^ 63-1) / 8:=by
  have:(aJ:ak)<=(2 ^ 63-1) / 8:=by decide
  omega
 have hfit:¬(!Vg k)=ah:=by rw[fitsIndex_both h1 h2];exact qt
 have hlong:¬yW (its.toArray.size*k.toNat)=ah:=by rw[DK hlen];exact qt
 have hnew:FR (fun x1 x2=>x1++x2) #[] (bJ (if its.toArray.isEmpty=ah then 0 else k.toNat) its.toArray)=(bJ k.toNat its).flatten.toArray:=by
  have f0:∀m:ak,FR (fun x1 x2=>x1++x2) #[] (bJ m its.toArray)=(bJ m its).flatten.toArray:=fun m=>by have:=BY its m [];rw[qT] at this;exact this
  rw[f0];cases its with
  |nil=>simp
  |cons a r'=>rw[qZ (by simp)]
 refine wpAny_binaryOp_repeat_ref (T:="list") (U:="int") .(c) ⟨_,e,rfl⟩ (fun s'=>FN s' k t) noFill_list_mul F.fills_int_mul Ta repeat_list F.slot_int_index.lookup
  (yX Ta (FN s k t) F.entry_int_rmul (F.args_int_rmul_2 _ _) (int___rmul___int_list k t l its.toArray n)
   ⟨e,rfl,⟨_,e,rfl⟩,yX F.slot_list_mul ⟨_,e,rfl⟩ F.entry_list_mul (F.args_list_mul_2 _ _) (AutoListH.list___mul___list_int_3 l its.toArray n k t hfit hcap hlong) ⟨e,?_⟩⟩)
 rw[hnew];exact⟨.ref _,_,I.lnew (t':=s.toks) (r.rep k.toNat) (by rw[Dy,Tc];exact hz),rfl,q _ I.fresh⟩
section
variable [dz κ]
noncomputable def fV (kvs:ac (κ×V)) (k:κ):aq V:=(kvs.find? fun kv=>decide (kv.1=k)).map (·.2)
def putK (kvs:ac (κ×V)) (k:κ) (v:V):ac (κ×V):=
 if .(bq)=ah then kvs.map (fun kv=>if kv.1=k then (kv.1,v) else kv) else kvs++[(k,v)]
theorem rH {p:κ×V} {r:ac (κ×V)} {k:κ} (e:p.1=k):fV (p::r) k=aa p.2:=by simp[fV,eE,e]
theorem rD {p:κ×V} {r:ac (κ×V)} {k:κ} (e:¬p.1=k):fV (p::r) k=fV r k:=by simp[fV,eE,e]
theorem HL (k:κ):∀kvs:ac (κ×V),.(bq)=(fV kvs k).isSome:=by
 intro xs0
 induction xs0 with
 |nil=>
  exact rfl
 |cons p r ih=>
  rw[j5];by_cases e:p.1=k
  .simp only[rH e,qU e,Bool.true_or,Option.isSome_some]
  .rw[rD e,qP e,FV];exact ih
theorem BQ (kvs:ac (κ×V)) (k:κ) (v:V):(putK kvs k v).length<=kvs.length+1:=by
 unfold putK;split
 .rw[qg];omega
 .rw[qk,qj,qm];omega
theorem dX.isSome_eq {o:aq V} {u:aq av} (r:dX o u):o.isSome=u.isSome:=by
 cases o with
 |none=>cases u with
  |none=>rfl
  |some _=>exact(show False from r).elim
 |some _=>cases u with
  |none=>exact(show False from r).elim
  |some _=>rfl
theorem dX.getD {o:aq V} {u:aq av} {d:V} {d':av} (r:dX o u) (rd:bp d d'):bp (o.getD d) (u.getD d'):=by
 cases o with
 |none=>cases u with
  |none=>exact rd
  |some _=>exact(show False from r).elim
 |some _=>cases u with
  |none=>exact(show False from r).elim
  |some _=>exact r
theorem KV.val {kvs:ac (κ×V)} {vs:ac (κ×av)} (r:KV kvs vs) (k:κ):dX (fV kvs k) (oe vs k):=by
 unfold KV at r
 induction r with
 |nil=>exact jo
 | @cons p q ps qs h t ih=>
  obtain⟨h1,h2⟩:=h;by_cases e:p.1=k
  .have e':q.1=k:=h1.symm.trans e;have b:oe (q::qs) k=aa q.2:=by simp[oe,eE,e']
   rw[rH e,b];exact h2
  .have e':¬q.1=k:=fun z=>e (h1.trans z);have b:oe (q::qs) k=oe qs k:=by simp[oe,eE,e']
   rw[rD e,b];exact ih
theorem KV.any {kvs:ac (κ×V)} {vs:ac (κ×av)} (r:KV kvs vs) (k:κ):.(bq)=vs.any fun kv=>decide (kv.1=k):=by
 unfold KV at r
 induction r with
 |nil=>rfl
 |cons h t ih=>rw[j5,j5,ih,h.1]
theorem KV.repl {kvs:ac (κ×V)} {vs:ac (κ×av)} (r:KV kvs vs) (k:κ) (ry:bp y u) :
  KV (kvs.map fun kv=>if kv.1=k then (kv.1,y) else kv) (vs.map fun kv=>if kv.1=k then (kv.1,u) else kv):=by
 unfold KV at r ⊢
 induction r with
 |nil=>exact .nil
 | @cons p q ps qs h t ih=>
  rw[qo,qo];refine .cons ?_ ih;obtain⟨h1,h2⟩:=h;by_cases e:p.1=k
  .rw[qY e,qY (h1.symm.trans e)];exact⟨h1,ry⟩
  .rw[qZ e,qZ (fun z=>e (h1.trans z))];exact⟨h1,h2⟩
theorem KV.put {kvs:ac (κ×V)} {vs:ac (κ×av)} (r:KV kvs vs) (k:κ) (ry:bp y u):KV (putK kvs k y) (stored vs k u):=by
 unfold putK stored;rw[r.any k];by_cases e:(vs.any fun kv=>decide (kv.1=k))=ah
 .rw[qY e,qY e];exact r.repl k ry
 .rw[qZ e,qZ e];exact Paired.snoc r ⟨rfl,ry⟩
theorem KV.keys {kvs:ac (κ×V)} {vs:ac (κ×av)} (r:KV kvs vs):kvs.map (·.1)=vs.map (·.1):=by
 unfold KV at r
 induction r with
 |nil=>rfl
 |cons h t ih=>rw[qo,qo,ih,h.1]
theorem KV.length {kvs:ac (κ×V)} {vs:ac (κ×av)} (r:KV kvs vs):kvs.length=vs.length:=Paired.length r
end
theorem kF {k:Key} (r:bp (kV k) u):(cj P w).is k u=ah:=by
 cases k with
 |inl i=>obtain⟨t,e⟩:=(show ∃t,u=uC i t from r);subst e;exact PH P w i t
 |inr x=>obtain⟨t,e⟩:=(show ∃t,u=uD x t from r);subst e;exact Sy P w x t
theorem MK :∀{ks:ac Key} {us:ac av},aU (ks.map kV) us->ItemsAre (cj P w) ks us:=by
 intro xs0
 induction xs0 with
 |nil=>
  intro _ r;rw[qQ] at r;cases r;exact .nil
 |cons k ks ih=>
  intro _ r;rw[qo] at r;cases r with
  |cons h t=>exact .cons (kF h) (ih t)
noncomputable abbrev KT (H:Hp):ac .(ax)->ac (ac Key×au×av)->Prop:=Paired fun p q=>p.1=q.1/\H q.2.1=aa (.tup (p.1.map kV))/\bp p.2 q.2.2
theorem KT.val {kvs:ac .(ax)} {xs:ac (ac Key×au×av)} (r:KT H kvs xs) (k:ac Key):dX (fV kvs k) ((lu xs k).map (·.2)):=by
 induction r with
 |nil=>exact jo
 | @cons p q ps qs h t ih=>
  obtain⟨h1,_,h2⟩:=h;by_cases e:p.1=k
  .have e':q.1=k:=h1.symm.trans e;have b:lu (q::qs) k=aa q.2:=by simp[lu,eE,e']
   rw[rH e,b];exact h2
  .have e':¬q.1=k:=fun z=>e (h1.trans z);have b:lu (q::qs) k=lu qs k:=by simp[lu,eE,e']
   rw[rD e,b];exact ih
theorem KT.repl {kvs:ac .(ax)} {xs:ac (ac Key×au×av)} (r:KT H kvs xs) (k:ac Key) (ry:bp y u) :
  KT H (kvs.map fun kv=>if kv.1=k then (kv.1,y) else kv) (xs.map (putAt k u)):=by
 induction r with
 |nil=>exact .nil
 | @cons p q ps qs h t ih=>
  rw[qo,qo];refine .cons ?_ ih;obtain⟨h1,h2,h3⟩:=h;unfold putAt;by_cases e:p.1=k
  .rw[qY e,qY (h1.symm.trans e)];exact⟨h1,h2,ry⟩
  .rw[qZ e,qZ (fun z=>e (h1.trans z))];exact⟨h1,h2,h3⟩
theorem KT.put {kvs:ac .(ax)} {xs:ac (ac Key×au×av)} (r:KT H kvs xs) (k:ac Key) {b:au} (hb:H b=aa (.tup (k.map kV))) (ry:bp y u) :
  KT H (putK kvs k y) (storedH xs k b u):=by
 have e:.(bq)=(lu xs k).isSome:=by rw[HL,(r.val k).isSome_eq,yY]
 unfold putK storedH;rw[e];by_cases q:(lu xs k).isSome=ah
 .rw[qY q,qY q];exact r.repl k ry
 .rw[qZ q,qZ q];exact Paired.snoc r ⟨rfl,hb,ry⟩
theorem KT.keeps {kvs:ac .(ax)} {xs:ac (ac Key×au×av)} (r:KT H kvs xs) (ht:∀b ys,H b=aa (.tup ys)->H' b=aa (.tup ys)):KT H' kvs xs:=
 Paired.mapP r fun _ _ z=>⟨z.1,ht _ _ z.2.1,z.2.2⟩
section
variable {h:Heap}
theorem Dm {u:HO} (ok:HOk P w H h) (e:Rd H a u):ca P w H h a u:=e.ok ok
theorem gM {kvs:ac (Key×V)} (ok:HOk P w H h) (e:Rd H a (.dK kvs)):kvs.length<=aJ/\(a==hG)=ar/\∃vs,KV kvs vs/\h.DictOf (cj P w) a vs:=
 show ca P w H h a (.dK kvs) from Dm ok e
theorem xN {kvs:ac (Key×V)} (ok:HOk P w H h) (e:H a=aa (.dK kvs)):kvs.length<=aJ/\(a==hG)=ar/\∃vs,KV kvs vs/\h.DictOf (cj P w) a vs:=gM ok (.inl e)
theorem ky {ks:ac Key} (ok:HOk P w H h) (e:H a=aa (.tup (ks.map kV))):(k0 (cj P w)).is h ks a:=by obtain⟨_,its,r,o,h1,h2,n,h3⟩:=(show ca P w H h a (.tup (ks.map kV)) from ok a _ e);exact⟨o,its.toArray,n,h1,h2,h3,by simpa using MK r⟩
theorem iW {kvs:ac .(ax)} (ok:HOk P w H h) (e:Rd H a (.dT kvs)):kvs.length<=aJ/\(a==hG)=ar /\
  ∃xs,KT H kvs xs/\h.DictOfH (k0 (cj P w)) a xs:=by
 obtain⟨z,y,xs,r,o,es,ep,h1,h2,h3,h4,h5⟩:=(show ca P w H h a (.dT kvs) from Dm ok e);refine⟨z,y,xs,r,o,es,ep,h1,h2,h3,h4,fun x hx=>?_,h5⟩;have all:∀{l:ac .(ax)} {m:ac (ac Key×au×av)},KT H l m->∀x∈m,(k0 (cj P w)).is h x.1 x.2.1:=by
  intro l m q
  induction q with
  |nil=>intro x hx;exact nomatch hx
  | @cons p q ps qs hq t ih=>
   intro x hx;rcases bZ.mp hx with e|hx
   .subst e;exact ky ok (by rw[←hq.1];exact hq.2.1)
   .exact ih x hx
 exact all r x hx
theorem R8 {kvs:ac .(ax)} (ok:HOk P w H h) (e:H a=aa (.dT kvs)):kvs.length<=aJ/\(a==hG)=ar /\
  ∃xs,KT H kvs xs/\h.DictOfH (k0 (cj P w)) a xs:=iW ok (.inl e)
end
noncomputable def fT (H:Hp) (a:au) (y:V) (r:aq V):Prop:=
 (∃kvs k,Rd H a (.dK kvs)/\y=kV k/\r=fV kvs k)\/∃kvs k b,Rd H a (.dT kvs)/\y=.ref b/\H b=aa (.tup (k.map kV))/\r=fV kvs k
noncomputable def gP (H:Hp) (a:au) (y v:V) (H':Hp):Prop:=
 (∃kvs k,H a=aa (.dK kvs)/\y=kV k/\kvs.length<aJ/\H'=upd H a (.dK (putK kvs k v))) \/
 ∃kvs k b,H a=aa (.dT kvs)/\y=.ref b/\H b=aa (.tup (k.map kV))/\kvs.length<aJ/\H'=upd H a (.dT (putK kvs k v))
theorem fT.k {kvs:ac (Key×V)} {k:Key} (e:H a=aa (.dK kvs)):fT H a (kV k) (fV kvs k):=.inl ⟨kvs,k,.inl e,rfl,rfl⟩
theorem fT.t {b:au} {kvs:ac .(ax)} {k:ac Key} (e:H a=aa (.dT kvs)) (eb:H b=aa (.tup (k.map kV))):fT H a (.ref b) (fV kvs k):=.inr ⟨kvs,k,b,.inl e,rfl,eb,rfl⟩
theorem gP.k {kvs:ac (Key×V)} {k:Key} (e:H a=aa (.dK kvs)) (hl:kvs.length<aJ):gP H a (kV k) v (upd H a (.dK (putK kvs k v))):=.inl ⟨kvs,k,e,rfl,hl,rfl⟩
theorem gP.t {b:au} {kvs:ac .(ax)} {k:ac Key} (e:H a=aa (.dT kvs)) (eb:H b=aa (.tup (k.map kV))) (hl:kvs.length<aJ) :
  gP H a (.ref b) v (upd H a (.dT (putK kvs k v))):=.inr ⟨kvs,k,b,e,rfl,eb,hl,rfl⟩
section
variable {r:av} {o:aq V}
theorem Inv.big (I:Inv X pins σ H s):hG<s.heap.objs.size:=by have h:eU<s.heap.objs.size:=(I.mod.glob.keeps I.bk).lt;exact pW .(c) h
theorem NJ (hu:A.units+1<bY) (I:Inv X pins σ H s) (g:fT H a y (aa v)) (ry:bp y u) (h:∀w' s',Inv X pins σ H s'->bp v w'->Q w' s') :
  aC .(n) A (mK (.ref a) u) Q E s:=by
 rcases g with⟨kvs,k,e,ey,l⟩|⟨kvs,k,b,e,ey,eb,l⟩
 .subst ey;obtain⟨z,hd,vs,rel,dd⟩:=gM I.hok e;obtain⟨w',hw,rw'⟩:=dX.some_of (v:=v) (o:=oe vs k) (by rw[l];exact rel.val k);exact wpAny_getItem_of (kF ry) dd.mapOf hw (h w' _ (I.tok _) rw')
 .subst ey;cases(show u=bP b from ry);obtain⟨z,hd,xs,rel,dd⟩:=iW I.hok e;obtain⟨w',hw,rw'⟩:=dX.some_of (v:=v) (o:=(lu xs k).map (·.2)) (by rw[l];exact rel.val k);obtain⟨p,hp,hp2⟩:=oMd hw;refine wpAny_getItem_heap (uR hu) (ky I.hok eb) dd hp ?_;rw[hp2];exact h w' _ (I.tok _) rw'
theorem QO (hu:A.units+1<bY) (I:Inv X pins σ H s) (g:fT H a y o) (ry:bp y u) (h:∀s',Inv X pins σ H s'->Q (.bool o.isSome) s') :
  aC .(n) A (di .In u (.ref a)) Q E s:=by
 rcases g with⟨kvs,k,e,ey,l⟩|⟨kvs,k,b,e,ey,eb,l⟩
 .subst ey;obtain⟨z,hd,vs,rel,dd⟩:=gM I.hok e;refine wpAny_in_of (kF ry) hd dd.mapOf ?_;rw[←(rel.val k).isSome_eq,←l];exact h _ (I.tok _)
 .subst ey;cases(show u=bP b from ry);obtain⟨z,hd,xs,rel,dd⟩:=iW I.hok e;refine wpAny_in_heap (uR hu) (ky I.hok eb) hd dd ?_;have q:=(rel.val k).isSome_eq;rw[yY] at q;rw[←q,←l];exact h _ (I.tok _)
theorem G8 (hu:A.units+1<bY) (I:Inv X pins σ H s) (g:fT H a y o) (ry:bp y u) (h:∀s',Inv X pins σ H s'->Q (.bool (!o.isSome)) s') :
  aC .(n) A (di .NotIn u (.ref a)) Q E s:=by
 rcases g with⟨kvs,k,e,ey,l⟩|⟨kvs,k,b,e,ey,eb,l⟩
 .subst ey;obtain⟨z,hd,vs,rel,dd⟩:=gM I.hok e;refine wpAny_notIn_of (kF ry) hd dd.mapOf ?_;rw[←(rel.val k).isSome_eq,←l];exact h _ (I.tok _)
 .subst ey;cases(show u=bP b from ry);obtain⟨z,hd,xs,rel,dd⟩:=iW I.hok e;refine wpAny_notIn_heap (uR hu) (ky I.hok eb) hd dd ?_;have q:=(rel.val k).isSome_eq;rw[yY] at q;rw[←q,←l];exact h _ (I.tok _)
theorem xR {ob:HO} (I:Inv X pins σ H s) (mu:Mut (H a)) (hs:iD a s.heap h') (he:∃q,h'.get? a=aa q) (new:ca X.prog X.w (upd H a ob) h' a ob) :
  Inv X pins σ (upd H a ob) {s with heap:=h',toks:=t'} :=
 I.write (x:=a) (e:=a) mu (.inl rfl) (fun b q hb z=>(hs.2 b hb).trans z) he new
theorem Cb {kvs:ac (Key×V)} {vs:ac (Key×av)} (z:kvs.length<=aJ) (hd:(a==hG)=ar) (rel:KV kvs vs) (dd:h'.DictOf (cj P w) a vs) :
  ca P w H' h' a (.dK kvs):=⟨z,hd,vs,rel,dd⟩
theorem O0 {Q:mB->aE->Prop} (hu:A.units+1<bY) (I:Inv X pins σ H s) (g:gP H a y v H') (ry:bp y u) (rv:bp v r) (h:∀s',Inv X pins σ H' s'->Q () s') :
  aC .(n) A (setItem (.ref a) u r) Q E s:=by
 rcases g with⟨kvs,k,e,ey,l,eH⟩|⟨kvs,k,b,e,ey,eb,l,eH⟩
 .subst ey eH;obtain⟨z,hd,vs,rel,dd⟩:=xN I.hok e;have hz:vs.length<=aJ:=by rw[←rel.length];exact z
  have hl:(putK kvs k v).length<=aJ:=by have:=BQ kvs k v;omega
  refine wpAny_setItem_pairs (hsz:=hz) (kF ry) dd fun h' dd' hs=>h _ ?_;have he:∃q,h'.get? a=aa q:=let ⟨q,_,_,hq,_⟩:=dd';⟨q,hq⟩
  exact xR I (by rw[e];exact jo) hs he (Cb hl hd (rel.put k rv) dd')
 .subst ey eH;cases(show u=bP b from ry);obtain⟨z,hd,xs,rel,dd⟩:=R8 I.hok e;have hz:xs.length<=aJ:=by rw[←Paired.length rel];exact z
  have hl:(putK kvs k v).length<=aJ:=by have:=BQ kvs k v;omega
  refine wpAny_setItem_heap (hsz:=hz) (uR hu) (ky I.hok eb) dd fun h' dd' hs=>h _ ?_;obtain⟨q,es,ep,hq,h2,h3,h4,_,h5⟩:=dd';refine xR I (by rw[e];exact jo) hs ⟨q,hq⟩ ⟨hl,hd,_,(rel.put k eb rv).keeps fun c ys ec=>?_,q,es,ep,hq,h2,h3,h4,h5⟩;rw[ay (xE ec e .(L))];exact ec
end
section
variable {kvs:ac (Key×V)} {k:Key}
theorem Q9 (I:Inv X pins σ H s) (e:H a=aa (.dK kvs)) (h:∀s',Inv X pins σ (upd H a (.dK [])) s'->Q .none s'):aC .(n) A (call (.builtin "dict.clear") [.ref a]) Q E s:=by
 obtain⟨z,hd,vs,rel,dd⟩:=xN I.hok e;refine FW Td dd.typeIs PySem.F.entry_dict_clear (PySem.F.args_dict_clear_1 _) (meets_dict_clear (cj X.prog X.w) a) ⟨vs,dd,by rw[←rel.length];exact z,fun h' dd' hs=>h _ ?_⟩;have he:∃q,h'.get? a=aa q:=let ⟨q,_,_,hq,_⟩:=dd';⟨q,hq⟩
 exact xR (t':=s.toks) I (by rw[e];exact jo) hs he (Cb (eW _) hd .nil dd')
end
noncomputable def wA (i:Expr):Prop:=∀ov iv,yU i ar ov iv=operate [ov,iv] (mK ov iv)
theorem Rn {slice:Expr} {id:cE} 
  (hl:yR (.type T) "__getitem__"=aT (aa (.builtin id))) (hs:wA slice)
  (h:aC .(H) A (eval value env) (fun o s₁=>aC .(H) A (eval slice env) (fun i s₂=>s₂.TypeIs o T/\aC .(H) A (mK o i) Q E s₂) E s₁) E s) :
  aC .(H) A (eval (.Subscript value slice pos) env) Q E s:=by
 refine yS (hU h (fun o s₁ h₁=>hU h₁ (fun i s₂ h₂=>?_) fun _ _ x=>x) fun _ _ x=>x);obtain⟨hT,h₂⟩:=h₂;unfold yT;refine qx ?_;rw[getitemInPython_of_ne hT.not_modules];refine qx (Te hT hl ?_);have fin:aC .(H) A (yU slice ar o i) (fun r s₃=>aC .(H) A (letTemporaryGo value o r >>= fun _=>aT r) Q E s₃) E s₂:=by rw[hs o i];exact wpAny_operating (hU h₂ (fun r s₃ h₃=>qx (wpAny_letTemporaryGo (qB h₃))) fun _ _ x=>x)
 first
  |exact qB (qx fin)
  |exact qx (qB (qx fin))
  |exact qx fin
theorem NG {o:aq V} (I:Inv X pins σ H s) (g:fT H a y o):s.TypeIs (.ref a) "dict":=by
 rcases g with⟨kvs,k,e,_,_⟩|⟨kvs,k,b,e,_,_,_⟩
 .obtain⟨_,_,vs,_,dd⟩:=gM I.hok e;exact dd.typeIs
 .obtain⟨_,_,xs,_,dd⟩:=iW I.hok e;exact dd.typeIs
def JV (td ty:TE):TE:=fun σ H Q=>td σ H fun x H1=>ty σ H1 fun y H2=>∃a v,x=.ref a/\fT H2 a y (aa v)/\Q v H2
def Jh (td ty tv:TE):TS:=fun D σ H=>tv σ H fun v H1=>td σ H1 fun x H2=>ty σ H2 fun y H3=>∃a H4,x=.ref a/\gP H3 a y v H4/\D.nx σ H4
variable {td ty:TE}
section
variable {i:Expr}
theorem Hk (hu:X.A.units+1<bY) (ho:PE X o td) (hi:PE X i ty) (hs:wA i):PE X (.Subscript o i pos) (JV td ty):=by intro pins s σ H Q I h;refine Rn PySem.F.slot_dict_getitem.lookup hs (thn (ho pins s σ H _ I h) fun u s1 ⟨x,H1,I1,rx,q1⟩=>thn (hi pins s1 σ H1 _ I1 q1) fun iv s2 ζ=>?_);obtain⟨y,H2,I2,ry,a,v,ex,g,q2⟩:=ζ;subst ex;obtain rfl:u=bP a:=rx;exact⟨NG I2 g,NJ hu I2 g ry fun w' s3 I3 rw'=>⟨v,H2,I3,rw',q2⟩⟩
theorem rP (hu:X.A.units+1<bY) (ho:PE X o td) (hi:PE X i ty) (hv:PE X value tv) (hs:dh value (aa (.Subscript o i pos')) pos.line X.env=aT ar) :
  PS X (.Assign [.Subscript o i pos'] value pos) (Jh td ty tv):=by
 intro pins s σ H D I h;refine wpAny_Assign_Subscript (thn (hv pins s σ H _ I h) fun r s1 ⟨v,H1,I1,rv,q1⟩=>thn (ho pins s1 σ H1 _ I1 q1) fun u s2 ⟨x,H2,I2,rx,q2⟩=>thn (hi pins s2 σ H2 _ I2 q2) fun iv s3 ζ=>?_) hs;obtain⟨y,H3,I3,ry,a,H4,ex,g,q3⟩:=ζ;subst ex;obtain rfl:u=bP a:=rx;exact O0 hu I3 g ry rv fun s4 I4=>⟨σ,H4,I4,q3⟩
end
theorem Hs (h:Heap) (hb:hG<h.objs.size):ca P w H (h.push {cls:=.type "dict",data:=.dict #[]}) h.objs.size (.dK []):=
 ⟨eW _,kW.mpr (cH (qD hb)),[],.nil,Tf h⟩
theorem Rs (h:Heap) (hb:hG<h.objs.size):ca P w H (h.push {cls:=.type "dict",data:=.dict #[]}) h.objs.size (.dT []):=
 ⟨eW _,kW.mpr (cH (qD hb)),[],.nil,_,#[],0,qH _ rfl,⟨rfl,rfl,rfl⟩,rfl,rfl,jr⟩
def HR:TE:=fun _ H Q=>∀p,H p=af->Q (.ref p) (upd H p (.dK []))
def Sq:TE:=fun _ H Q=>∀p,H p=af->Q (.ref p) (upd H p (.dT []))
theorem tE:PE X (.Dict [] [] pos) HR:=fun pins s σ H Q I h=>
 Tg ⟨.ref s.heap.objs.size,_,I.laid (a:=s.heap.objs.size) (o:=.dK []) (t':=s.toks) (fun _ _ q=>qu _ q) (qw _) (Hs s.heap I.big),rfl,h _ (I.hok.fresh (qw _))⟩
theorem AO:PE X (.Dict [] [] pos) Sq:=fun pins s σ H Q I h=>
 Tg ⟨.ref s.heap.objs.size,_,I.laid (a:=s.heap.objs.size) (o:=.dT []) (t':=s.toks) (fun _ _ q=>qu _ q) (qw _) (Rs s.heap I.big),rfl,h _ (I.hok.fresh (qw _))⟩
structure M1 (X:Cx) (o:Expr) (m:ai) (apos:c8) (e:Expr) (cpos:c8):Prop where
 base:gG o m X.env (eval o X.env)=eval o X.env
 few:((bF cpos (aH [e] X.env)).all (fun x=>!x.1) && (dR cpos (dS [] X.env)).all (fun x=>x.1.isSome)
  && decide (([e]:ac Expr).length+([]:ac gI).length+.(aY)<30))=ah
 line:.(bv)=ah
 trees:bF cpos (aH [e] X.env)=[(ar,eval e X.env)]
noncomputable def IsD (H:Hp) (a:au):Prop:=(∃kvs,Rd H a (.dK kvs))\/∃kvs,Rd H a (.dT kvs)
theorem JU (I:Inv X pins σ H s) (d:IsD H a) :
  s.TypeIs (.ref a) "dict"/\(∀b,bP a=.ref b->∃ob,s.heap.get? b=aa ob/\ob.dict=af)/\(a==hG)=ar:=by
 rcases d with⟨kvs,e⟩|⟨kvs,e⟩
 .obtain⟨_,hd,vs,_,dd⟩:=gM I.hok e;refine⟨dd.typeIs,fun b q=>?_,hd⟩;cases q;obtain⟨ob,_,_,h1,h2,_⟩:=dd;exact⟨ob,h1,h2.2.1⟩
 .obtain⟨_,hd,xs,_,dd⟩:=iW I.hok e;refine⟨dd.typeIs,fun b q=>?_,hd⟩;cases q;obtain⟨ob,_,_,h1,h2,_⟩:=dd;exact⟨ob,h1,h2.2.1⟩
section
variable {d:V} {r:av} {o:aq V}
theorem Oo (hu:A.units+1<bY) (I:Inv X pins σ H s) (g:fT H a y o) (ry:bp y u) (h:∀w' s',Inv X pins σ H s'->bp (o.getD .non) w'->Q w' s') :
  aC .(n) A (call (.builtin "dict.get") [.ref a,u]) Q E s:=by
 rcases g with⟨kvs,k,e,ey,l⟩|⟨kvs,k,b,e,ey,eb,l⟩
 .subst ey;obtain⟨z,hd,vs,rel,dd⟩:=gM I.hok e;refine FW FX dd.typeIs Th (Ti _ _) (meets_dict_get (cj X.prog X.w) a (kF ry) hd) ⟨_,dd.mapOf,h _ _ (I.tok _) ?_⟩;rw[l];exact(rel.val k).getD rfl
 .subst ey;cases(show u=bP b from ry);obtain⟨z,hd,xs,rel,dd⟩:=iW I.hok e;refine FW FX dd.typeIs Th (Ti _ _) (meetsH_dict_get (k0 (cj X.prog X.w)) a b hd) ⟨uR hu,k,xs,ky I.hok eb,dd,h _ _ (I.tok _) ?_⟩;rw[l];exact(rel.val k).getD rfl
end
def QA (td ty:TE):TE:=fun σ H Q=>td σ H fun x H1=>∃a,x=.ref a/\IsD H1 a/\ty σ H1 fun y H2=>∃o,fT H2 a y o/\Q (o.getD .non) H2
section
variable {f:Expr} {tx:TE}
theorem LK (hu:X.A.units+1<bY) (ho:PE X o td) (he:PE X e ty) (m:M1 X o "get" apos e cpos):PE X (.Call (.Attribute o "get" apos) [e] [] cpos) (QA td ty):=by intro pins s σ H Q I h;refine wpAny_Call_method m.base m.few m.line Tj FX PySem.F.type_dict_get (thn (ho pins s σ H _ I h) fun u s1 ζ=>?_);obtain⟨x,H1,I1,rx,a,ex,d,q1⟩:=ζ;subst ex;obtain rfl:u=bP a:=rx;obtain⟨t1,t2,_⟩:=JU I1 d;refine⟨t1,t2,?_⟩;rw[m.trees];refine FP rfl (S8 (SQ (thn (he pins s1 σ H1 _ I1 q1) fun iv s2 ⟨y,H2,I2,ry,ov,g,q2⟩=>SO ?_)));exact Oo hu I2 g ry fun w' s3 I3 rw'=>⟨_,H2,I3,rw',q2⟩
end
variable {q:dy} {loose:ac ai} {XP:(ai->aq av)->Heap->Prop} {YP:cA->Heap->Prop}
namespace Att
open PySem PySem.W PySem.Calls PyProof.Rows
theorem P3 {P:yZ} {h:Heap} :∀(ns:ac aj) (vs:ac av),WellAll P h vs (ns.map Tk)->uS vs ns:=by
 intro ns
 induction ns with
 |nil=>
  intro vs w;rw[qQ] at w;cases w;exact .nil
 |cons n ns ih=>
  intro vs w;rw[qo] at w;cases w with
  |cons a b=>
   cases a;exact .cons _ _ (ih _ b)
theorem Lw {l:OpenLaw} (hn:l.most=aa n) {P:yZ} {h:Heap} {args:ac WData} {vals:ac av} 
  (hpre:l.row.toRowW.claim.pre args=ah) (hwl:WellAll P h vals args) :
  ∃a vs ns,vals=[bP a]/\args=[WData.list (ns.map Tk)]/\h.get? a=aa {cls:=.type "list",data:=.seq vs.toArray}/\uS vs ns/\ns.length<=n:=by
 have hsh:WShape.hasAll [] args [.list .int]=ah:=(pre_splitW hpre).1;have hc:l.pre.holds [] {args:=args}=ah:=(pre_splitW hpre).2;obtain⟨d,r,rfl,h1,h2⟩:=hasAllW_cons hsh;obtain rfl:=hasAllW_nil h2;obtain⟨xs,rfl,h3⟩:=hasW_list h1;obtain⟨ns,rfl⟩:=items_int h3;have hlen:ns.length<=n:=by
  unfold OpenLaw.pre at hc;have h4:(WTm.not (.lt (.lit (.int (n:aj))) (.len (.arg 0)))).holds [] {args:=[.list (ns.map .int)]}=ah:=by have h4:=(holds_andW hc).1;rw[hn] at h4;exact h4
  have h5:=condW_of h4 (w_not (w_lt w_lit (w_len_list (w_arg rfl))));rw[qg] at h5;refine Nat.le_of_not_lt fun q=>?_;have q':(n:aj)<((ns.length:ak):aj):=by omega
  first
   |(rw[qU q'] at h5;exact bu h5 .(c))
   |(simp at h5;omega)
 cases hwl with
 |cons w1 w2=>
  cases w2;cases w1 with
  |list ho hall=>exact⟨_,_,ns,rfl,rfl,ho,P3 ns _ hall,hlen⟩
theorem PR (l:OpenLaw) (args:ac WData):l.row.toRowW.claim.post args (.bool ah) args=ah:=
 postW_of (r:=l.row.toRowW) (X:=(ah==ah))
  (show Tl [] (.bool ah) .bool=ah by first|rfl|decide|simp[Tl,WShape.arms,WShape.armsAll])
  (show(WTm.eq .res (.lit (.bool ah))).value [] {args:=args,res:=aa (.bool ah),after:=args}=aa (.bool (ah==ah)) from w_eq_bool (w_res rfl) w_lit) rfl
theorem attach_call {l:OpenLaw} {d:DefRec} 
  (hn:l.most=aa n) (hdf:d.params.defaults=[])
  (call:∀(w:cA) (s₀ s₁:aE) (mg mb:ai->aq av) (fa:au) (o:Obj) (pm cd doc:av) (a:au) (vs:ac av) (ns:ac aj),
   Ground q loose [] XP w s₀ mg mb s₁.heap->YP w s₁.heap->
   s₁.heap.get? fa=aa o->o.data=.func (docDef d.name d.params d.body d.scope pm cd doc)->s₁.heap.CodeRec cd d.name->mg d.name=aa (.ref fa)->
   s₁.heap.get? a=aa {cls:=.type "list",data:=.seq vs.toArray}->uS vs ns->ns.length<=n->s₁.gens=#[]->
   fu (aL l.prog w) og (.call (.ref fa) ⟨[.ref a],[]⟩) .(aW) s₁) :
  WalkO q loose XP YP l.row.toRowW d [] (fun f vs=>FY f vs):=by
 intro w s₀ s₁ mg mb G Y fa o pm cd doc dV kV ho hd hcd hD hmg hg args vals as hpre hlay hrd hwl hlo;obtain rfl:dV=.none:=Dflts.none hD hdf;obtain rfl:kV=.none:=Dflts.noKw hD;obtain⟨a,vs,ns,rfl,rfl,hobj,hints,hlen⟩:=Lw hn hpre hwl;refine enter_call (nV (call w s₀ s₁ mg mb fa o pm cd doc a vs ns G Y ho (fd_plain hd) hcd hmg hobj hints hlen hg) fun r s' hq=>?_);obtain⟨rfl,h2,h3,h4⟩:=hq;exact⟨.inl ⟨.bool ah,.bool ah,[],rfl,fun _=>rfl,.bool ah,PR l _,fun _=>⟨Tn,fun _ hm=>(nomatch hm)⟩⟩,h2,h3,h4⟩
section
variable {K:aM}
noncomputable def UL (h:Heap) (L d:au):ac (au×Obj):=(ck h.objs.size).filterMap fun a=>if a=L\/a=d then af else (h.get? a).map fun o=>(a,o)
end
end Att
theorem AS:∀{vs:ac av} {ns:ac aj},uS vs ns->aU .(bm) vs
 |_,_,.nil=>.nil
 |_,_,.cons n t h=>.cons ⟨t,rfl⟩ (AS h)
noncomputable def wz (H:Hp):Prop:=∀b,H b=af\/∃o xs,H b=aa (.frz o (.lst xs))
theorem R6 {mb:ai->aq av} {k:ak} {fa:au} {s₁:aE} {vs:ac av} {ns:ac aj} 
  (KX:K.In s₁.heap) (hns:s₁.heap.Ns eU mg) (hb:s₁.heap.Ns Fh mb) (hbb:∀x:ai,x≠"__name__"->mb x=dH x) (hlim:s₁.heap.NoLimit) (hg:s₁.gens=#[])
  (ha:s₁.heap.get? a=aa {cls:=.type "list",data:=.seq vs.toArray}) (hi:uS vs ns) (hl:ns.length<=aJ) (hr:Room k og)
  (F:∀base:Heap,K.In base->base.Ns eU mg->FnOk P w K mg base CX k fa fd [x] sp) (hbind:∀(s:aE) (u:av),nU s fd ⟨[u],[]⟩ [(x,u)])
  (hsp:∀H:Hp,wz H->SqL K H a .(bm)->sp [.ref a] H (fun v _=>v=.bl ah) fun _ _ _=>False)
  (hCX:∀H e s',CX [] H s₁ (fun _ _ _=>False) e s'->False) :
  fu (aL P w) og (.call (.ref fa) ⟨[.ref a],[]⟩) .(aW) s₁:=by
 have rv:=AS hi;have lenV:=hi.length;have core:∀H:Hp,wz H->SqL K H a .(bm)->HOk P w H s₁.heap->(∀b,H b≠af->b=a)->(H a≠af->K.lookup a=af)->
   fu (aL P w) og (.call (.ref fa) ⟨[.ref a],[]⟩) .(aW) s₁:=by
  intro H hO hS hok hA hK;have base_of:∀{b:au} {o:Obj},s₁.heap.get? b=aa o->H b=af->(jB s₁.heap H).get? b=aa o:=fun e n=>Hn e n;have noA:∀{b:au} {o:Obj} {es:bI pX} {ep:ak},s₁.heap.get? b=aa o->o.data=.dict es ep->H b=af:=fun {b o es ep} e d=>by
   cases q:H b with
   |none=>rfl
   |some u=>
    have e':b=a:=hA b (by rw[q];simp);subst e';rw[ha] at e;cases e;have d':Data.seq vs.toArray _=Data.dict es ep:=d;cases d'
  have nsK:∀{b:au} {m:ai->aq av},s₁.heap.Ns b m->(jB s₁.heap H).Ns b m:=fun {b m} ⟨o,es,ep,e,d,r⟩=>⟨o,es,ep,base_of e (noA e d),d,r⟩;have hKb:K.In (jB s₁.heap H):=fun b o e=>base_of (KX b o e) (by
   cases q:H b with
   |none=>rfl
   |some u=>
    have e':b=a:=hA b (by rw[q];simp);subst e';rw[hK (by rw[q];simp)] at e;cases e)
  have hM:Mod K mg (jB s₁.heap H):=⟨hKb,nsK hns,⟨mb,nsK hb,hbb⟩,let ⟨mc,h1,h2⟩:=hlim;⟨mc,nsK h1,h2⟩⟩;have e0:Env0 P w K mg (jB s₁.heap H) og [] s₁ H:=⟨rfl,hM,fun b o e=>J1 e,yL (Ny _ _),trivial,fun b hb=>bu (show b∈([]:ac au) from hb) (by simp),hok,.of_eq hg⟩;refine nV ((F _ hKb (nsK hns)).run og [] s₁ H ⟨[.ref a],[]⟩ [.ref a] [.ref a] _ _ hr e0 (hbind s₁ (.ref a)) (.cons rfl .nil) (hsp H hO hS)) fun r s' h=>?_;cases r with
  |error e=>exact(hCX H e s' h).elim
  |ok fl=>
   cases fl with
   |next=>exact fP h
   |brk=>exact fP h
   |cont=>exact fP h
   |ret u=>
    obtain⟨v,H',os,bare,un,hok',r',q⟩:=h;have q':v=.bl ah:=q;subst q';obtain rfl:u=kY ah:=r';refine⟨rfl,OldK.of_keep fun b o e=>?_,os,bare⟩;cases q:H b with
    |none=>exact un.keep b o e q (by intro z;exact bu (show b∈([]:ac au) from z) (by simp)) (by simp)
    |some u=>
     rcases hO b with z|⟨ob,xs,z⟩
     .rw[q] at z;cases z
     .have z2:=un.frzs b ob _ z;obtain⟨e1,_⟩:=hok b _ z;obtain⟨e2,_⟩:=hok' b _ z2;rw[e] at e1;cases e1;exact e2
 cases hk:K.lookup a with
 |some o=>
  have e:=KX a o hk;rw[ha] at e;cases e;refine core (fun _=>af) (fun _=>.inl rfl) (.inr ⟨_,vs.toArray,_,hk,rfl,rfl,rfl,by rw[qC,lenV];exact hl,by simpa using rv⟩) (fun b u z=>by have z':(af:aq HO)=aa u:=z;cases z') (fun b z=>bu rfl z) fun z=>bu rfl z
 |none=>
  refine core (fun b=>if b=a then aa (.frz {cls:=.type "list",data:=.seq vs.toArray} (.lst .(bm))) else af) (fun b=>?_) (.inl (.inr ⟨{cls:=.type "list",data:=.seq vs.toArray},qY rfl⟩)) (fun b u z=>?_) (fun b z=>?_) fun _=>hk
  .by_cases hb:b=a
   .exact .inr ⟨_,_,qY hb⟩
   .exact .inl (qZ hb)
  .by_cases hb:b=a
   .have z':=(qY hb).symm.trans z;cases z';subst hb;exact⟨ha,by rw[qg];exact hl,vs,_,rv,ha⟩
   .have z':=(qZ hb).symm.trans z;cases z'
  .by_cases hb:b=a
   .exact hb
   .exact bu (qZ hb) z
noncomputable abbrev KOf {h:Heap} (_:K.In h):aM:=K
theorem walk_of {l:FZ} {k:ak} {d:DefRec} {K:yZ->aM} {CX:cA->CXT} {sp:cA->Sp} 
  (hn:l.most=aa n) (hn2:n<=aJ) (hdf:d.params.defaults=[]) (hr:Room k og)
  (hY:∀(w:cA) (h:Heap),YP w h->(K w.params).In h)
  (F:∀(w:cA) (mg:ai->aq av) (fa:au) (h:Heap),(K w.params).In h->h.Ns eU mg->mg d.name=aa (.ref fa)->
   ∃fd:jZ,(∀(s:aE) (u:av),nU s fd ⟨[u],[]⟩ [(x,u)]) /\
    ∀base:Heap,(K w.params).In base->base.Ns eU mg->FnOk l.prog w (K w.params) mg base (CX w) k fa fd [x] (sp w))
  (hsp:∀(w:cA) (H:Hp) (a:au) (ns:ac aj),ns.length<=n->wz H->SqL (K w.params) H a .(bm)->sp w [.ref a] H (fun v _=>v=.bl ah) fun _ _ _=>False)
  (hCX:∀(w:cA) (H:Hp) (s:aE) (e:av) (s':aE),CX w [] H s (fun _ _ _=>False) e s'->False) :
  To q loose XP YP l.row.toRowW d [] (fun f vs=>FY f vs):=by
 refine Att.attach_call hn hdf fun w s₀ s₁ mg mb fa o pm cd doc a vs ns G Y ho hd hcd hmg hobj hints hlen hg=>?_;have KX:=hY w _ Y;obtain⟨fd,hb,hF⟩:=F w mg fa _ KX G.T.g hmg;exact R6 KX G.T.g G.T.b G.T.builtins G.T.nolimit hg hobj hints (qO hlen hn2) hr hF hb (fun H hO hS=>hsp w H a ns hlen hO hS) fun H e s'=>hCX w H s₁ e s'
noncomputable def bE (s:Stmt) (j:ak):Stmt:=match s with
 |.ClassDef _ _ _ body _ _ _ _ _ _ _=>body.getD j (.Pass ⟨0,0,0,0⟩)
 |_=>.Pass ⟨0,0,0,0⟩
noncomputable def cW (s:Stmt):Arguments:=match s with
 |.FunctionDef _ a _ _ _ _ _ _ _ _=>a
 |_=>{posonlyargs:=[],args:=[],vararg:=af,kwonlyargs:=[],kw_defaults:=[],kwarg:=af,defaults:=[]}
noncomputable def bR (s:Stmt):ac Stmt:=match s with
 |.FunctionDef _ _ b _ _ _ _ _ _ _=>b
 |_=>[]
noncomputable def aB (s:Stmt):Scope:=match s with
 |.FunctionDef _ _ _ _ _ _ sc _ _ _=>sc
 |_=>{kind:=.function,names:=[],isGenerator:=ar,isCoroutine:=ar}
noncomputable abbrev CX0:CXT:=fun _ _ _ _ _ _=>False
noncomputable abbrev E0:XK:=fun _ _ _=>False
theorem jz :jV CX0 X E0:=fun _ _ _ _ _ _ _ h=>h.elim
structure Fun (K:aM) (x qual:ai) (st:Stmt) (f:au) (fd:jZ):Prop where
 ex:∃(oc:av) (od:aq au) (kV doc pm:av) (an:aq au) (cdv ct:av) (osl:bI (aq av)),
  fd=cV x qual (cW st) (bR st) (aB st) .none kV doc pm an cdv ct/\K.lookup f=aa ⟨oc,od,.func fd,osl⟩/\mI K cdv qual=ah
 kp:fQ K (.ref f)=ah
theorem Fun.ok {f:au} {k:ak} (F:Fun K x qual st f fd) (S:FnScope N ps (aB st)) (len:∀vs H Q E,sp vs H Q E->vs.length=ps.length)
  (hbody:∀(cdv:av) (A:cv) (outer:ac ci) (s:aE) (H:Hp) (vs:ac V) (Q:VK) (E:XK),Room k .(j)->sp vs H Q E->
   ∃t,PSs .(g).nox (bR st) t/\t {nx:=fun _ H'=>Q .non H',rt:=Q} (dw N vs) H):FnOk P w K mg base CX0 (k+1) f fd ps sp:=by
 obtain⟨oc,od,kV,doc,pm,an,cdv,ct,osl,rfl,lk,hcd⟩:=F.ex;refine B9 lk hcd S len fun A outer s H vs Q E hr hsp=>?_;obtain⟨t,h,q⟩:=hbody cdv A outer s H vs Q E hr hsp;exact⟨t,h.nox,q⟩
theorem Fun.binds {f:au} (F:Fun K x qual st f fd)
  (h:∀(kV doc pm:av) (an:aq au) (cdv ct:av) (us:ac av),us.length=ps.length->dQ (cV x qual (cW st) (bR st) (aB st) .none kV doc pm an cdv ct) ⟨us,[]⟩=aT (ps.zip us)):dU K fd ps []:=by
 obtain⟨oc,od,kV,doc,pm,an,cdv,ct,osl,rfl,lk,hcd⟩:=F.ex;exact .all (h kV doc pm an cdv ct)
theorem xH {f:au} {kV:av} (l:K.lookup f=aa ⟨oc,od,.func (cV x qual (cW st) (bR st) (aB st) .none kV doc pm an cdv ct),osl⟩)
  (c:mI K cdv qual=ah) (k:fQ K (.ref f)=ah):Fun K x qual st f (cV x qual (cW st) (bR st) (aB st) .none kV doc pm an cdv ct):=⟨⟨oc,od,kV,doc,pm,an,cdv,ct,osl,rfl,l,c⟩,k⟩
theorem pv (i:ak) (hN:X.N[i]?=aa x:=by rfl) (hv:Vis X.env.scope x:=by ac_nf) (hd:.(o)=ar:=by decide)
  (hcd:.(C)=ar:=by decide):PE X (.Name x pos) (Cj i):=eM hN hv hd hcd
theorem jy {A B:Prop} (h:B):if ar=ah then A else B:=by rw[qZ qt];exact h
theorem jM {A B:Prop} (h:A):if ah=ah then A else B:=by rw[qY rfl];exact h
noncomputable def aQ (H H':Hp):Prop:=∀b o,H b=aa o->H' b=aa o
theorem aQ.refl (H:Hp):aQ H H:=fun _ _ h=>h
theorem aQ.trans (a:aQ H H1) (b:aQ H1 H2):aQ H H2:=fun c o h=>b c o (a c o h)
theorem aQ.free (e:aQ H H') (h:H' l=af):H l=af:=by
 cases q:H l with
 |none=>rfl
 |some o=>
  rw[e l o q] at h;cases h
theorem aQ.seq {xs:ac V} (e:aQ H H') (h:SqL K H a xs):SqL K H' a xs:=by
 rcases h with(h|⟨o,h⟩)|h
 .exact .inl (.inl (e _ _ h))
 .exact .inl (.inr ⟨o,e _ _ h⟩)
 .exact .inr h
variable {elt:Expr} {ifs:ac Expr}
theorem Q5 {R:li->aE->Prop} {target:Expr} {it acc:av} (I:ak->aE->Prop)
  (turn:∀n s,I n s->aC .(H) A (fK it) (fun r s₁=>match r with
   |none=>R (.ok .next) s₁
   |some v=>aC .(H) A (uH target it v) (fun _ s₁'=>aC .(H) A (jj target env v) (fun _ s₂ =>
     aC .(H) A (uT ifs ah fun c r=>if r=ah then do let ok ←isTrue c env (eval c env);aT (pY ok) else aT (pY r)) (fun ok s₃ =>
      if ok=ah then aC .(H) A (eval elt env) (fun x s₄ =>
       aC .(H) A (call (.builtin "list.append") [acc,x]) (fun _ s₅=>∃m,m<n/\I m s₅) (fun _ _=>False) s₄) (fun _ _=>False) s₃
      else ∃m,m<n/\I m s₃) (fun _ _=>False) s₂) (fun _ _=>False) s₁') (fun _ _=>False) s₁) (fun _ _=>False) s)
  (n:ak) (h:I n s) :
  fu .(H) A (.compLoop (.ListComp elt [⟨target,iter,ifs,0⟩] scope pos) 0 it acc env) R s:=by
 refine codeAny_loop rfl I (fun n s hI=>?_) n h;show aC _ A ((compTurn (.ListComp elt [⟨target,iter,ifs,0⟩] scope pos) 0 it acc env).onRaise (fun x=>do noteFrame x env;theTreesLotGoes x)) _ _ s;refine wpAny_noted ?_;rw[compTurn_list];refine qx (yG (qx (hU (turn n s hI) (fun r s₁ h₁=>?_) fun _ _ h'=>h'.elim)));cases r with
 |none=>exact qB h₁
 |some v=>
  refine qx (hU h₁ (fun _ s₁' h₁'=>?_) fun _ _ h'=>h'.elim);refine qx (hU h₁' (fun _ s₂ h₂=>qx (hU h₂ (fun ok s₃ h₃=>?_) fun _ _ h'=>h'.elim)) fun _ _ h'=>h'.elim);cases ok with
  |false=>exact qB ⟨rfl,h₃⟩
  |true=>
   exact qx (qx (hU h₃ (fun x s₄ h₄=>qx (hU h₄ (fun _ s₅ h₅=>qB (qB ⟨rfl,h₅⟩)) fun _ _ h'=>h'.elim)) fun _ _ h'=>h'.elim))
noncomputable def iB (X:Cx) (N':ac ai) (scope:Scope) (cl:ac (ai×au)) (C:au) (s₀:aE) (H₀:Hp) (fp:ac au):Cx:=
 {X with N:=N',s₀:=s₀,H₀:=H₀,env:=F1 scope cl C X.env,outer:=X.stack,stack:=X.stack,ex:=fp,fn:=fun _=>ar,pn:=[],xe:=fun _ _=>False}
noncomputable def eN (env:ci):ac (ai×hV)->ac (ai×au)->ac (ai×au)
 |[],acc=>acc
 |(n,k)::r,acc=>eN env r (if k==.free then (match env.cells.lookup n with|some c=>(n,c)::acc|none=>acc) else acc)
theorem Jr (h:∀y∈scope.names,y.2=.free->∃c,env.cells.lookup y.1=aa c):closureFor scope env=aT (eN env scope.names []):=by
 have all:∀(l:ac (ai×hV)) (acc:ac (ai×au)),(∀y∈l,y.2=.free->∃c,env.cells.lookup y.1=aa c)->
   (uT l acc fun x r=>match x with
    |(name,kind)=>if kind==.free then do let c ←cellOf env name;aT (pY ((name,c)::r)) else aT (pY r):Sem (ac (ai×au)))=aT (eN env l acc):=by
  intro l
  induction l with
  |nil=>intro acc _;rfl
  |cons y r ih=>
   intro acc hl;obtain⟨n,k⟩:=y;rw[List.forIn_cons];have hr:∀y∈r,y.2=.free->∃c,env.cells.lookup y.1=aa c:=fun y hy=>hl y (qi _ hy);unfold eN;cases hk:(k==mL) with
   |false=>
    simp only[hk,qr,cB,pure_bind];exact ih acc hr
   |true=>
    obtain⟨c,hc⟩:=hl (n,k) qh (by simpa using hk);have hc':env.cells.lookup n=aa c:=hc;simp only[hk,cq,cellOf,hc',pure_bind];exact ih _ hr
 have e:=all scope.names [] h;exact Eq.trans (bind_pure _) e
theorem Cz :∀(l:ac (ai×hV)) (acc:ac (ai×au)),(∀x c,acc.lookup x=aa c->env.cells.lookup x=aa c)->∀x c,(eN env l acc).lookup x=aa c->env.cells.lookup x=aa c:=by
 intro xs0
 induction xs0 with
 |nil=>
  intro _ h;exact h
 |cons x0 r ih=>
  obtain⟨n,k⟩:=x0;intro acc h;unfold eN;refine ih _ ?_;split
  .split
   .rename_i c hc;intro x d hx;rw[oh] at hx;cases e:x==n with
    |true=>
     rw[e] at hx;have e':x=n:=by simpa using e
     have e2:c=d:=qI hx;rw[e',←e2];exact hc
    |false=>rw[e] at hx;exact h x d hx
   .exact h
  .exact h
theorem JA :∀(l:ac (ai×hV)) (acc:ac (ai×au)) (x:ai),(acc.lookup x).isSome=ah->((eN env l acc).lookup x).isSome=ah:=by
 intro xs0
 induction xs0 with
 |nil=>
  intro _ _ h;exact h
 |cons x0 r ih=>
  obtain⟨n,k⟩:=x0;intro acc x h;unfold eN;refine ih _ x ?_;split
  .split
   .rw[oh];split
    .rfl
    .exact h
   .exact h
  .exact h
theorem E3 :∀(l:ac (ai×hV)) (acc:ac (ai×au)) (x:ai) (c:au),(x,mL)∈l->env.cells.lookup x=aa c->((eN env l acc).lookup x).isSome=ah:=by
 intro xs0
 induction xs0 with
 |nil=>
  intro _ _ _ h _;exact nomatch h
 |cons x0 r ih=>
  obtain⟨n,k⟩:=x0;intro acc x c h hc;unfold eN;rcases bZ.mp h with e|h
  .injection e with e1 e2;subst e1;subst e2;refine JA r _ _ ?_;rw[qY (by rfl),hc];simp
  .exact ih _ x c h hc
theorem sF {env:ci}:∀(names:ac (ai×hV)) (x:ai) (k':hV),
  (names.map fun(n,k)=>if .(W) then (n,y6) else (n,k)).lookup x=aa k'->
  names.lookup x=aa k'\/(k'=.cell/\names.lookup x=aa .free)
 |[],_,_,h=>by simp at h
 |(n,k)::r,x,k',h=>by
  have ih:=@sF env r x k';have h':cK x ((if .(W)=ah then (n,y6) else (n,k))::(r.map fun(n,k)=>if .(W) then (n,y6) else (n,k)))=aa k':=h;cases hx:x==n with
  |true=>
   by_cases hc:.(W)=ah
   .rw[qY hc] at h';simp only[oh,hx] at h' ⊢;have hk:k=.free:=by simp only[eX,jX] at hc;exact hc.1.1
    right
    exact⟨(qI h').symm,by rw[hk]⟩
   .rw[qZ hc] at h';simp only[oh,hx] at h' ⊢;exact .inl h'
  |false=>
   have h2:cK x (r.map fun(n,k)=>if .(W) then (n,y6) else (n,k))=aa k':=by
    by_cases hc:.(W)=ah
    .rw[qY hc] at h';simpa only[oh,hx] using h'
    .rw[qZ hc] at h';simpa only[oh,hx] using h'
   simp only[oh,hx];exact ih h2
structure CompScope (X:Cx) (scope:Scope):Prop where
 kind:scope.kind=.function
 nocell:∀y∈scope.names,y.2≠.cell
 names:∀y∈scope.names,y.2=.local->scope.names.lookup y.1=aa .local
 free:∀y∈scope.names,y.2=.free->X.env.kindOf y.1=aa .cell\/X.env.kindOf y.1=aa .free
noncomputable def g8 (fv:ac (aq ak)) (σ:St):St:=fv.map fun o=>o.bind fun j=>(σ[j]?).join
variable {N':ac ai} {fv:ac (aq ak)}
theorem Dr (I:Inv X pins σ H s) (S:CompScope X scope):closureFor scope X.env=aT .(bs):=
 Jr fun y hy hf=>I.ok.has y.1 (S.free y hy hf)
theorem Pc (I:Inv X pins σ H s) (S:CompScope X scope) (hf:∀b∈fp,gz X pins H b) (hlt:∀b∈fp,b<s.heap.objs.size) (hC:s.heap.objs.size<=C) :
  (iB X N' scope .(bs) C s H fp).Ok:=by
 have sub:=Cz (env:=X.env) scope.names [] (fun x c h=>by simp at h);refine⟨I.ok.mod,S.kind,I.ok.glob,I.ok.blt,hC,fun x y c h1 h2=>I.ok.inj x y c (sub x c h1) (sub y c h2),fun x hx=>?_,fun x c h _=>by simp[iB] at h,I.ok.hd,I.ok.frames,.inl rfl,fun b hb=>⟨?_,fun x c e=>?_⟩,I.bs,qO I.ok.bsz I.sz,
  fun b o e hb=>?_,fun b hb=>?_,I.stack,I.stkFree⟩
 .have hx':((y7 scope X.env).names.lookup x=aa .cell\/(y7 scope X.env).names.lookup x=aa .free):=hx;have hfr:scope.names.lookup x=aa .free:=by
   rcases hx' with h|h
   .rcases sF _ _ _ h with h|⟨_,h⟩
    .exact bu rfl (S.nocell _ (mG h))
    .exact h
   .rcases sF _ _ _ h with h|⟨h,_⟩
    .exact h
    .cases h
  have hm:=mG hfr;obtain⟨c,hc⟩:=I.ok.has x (S.free _ hm rfl);exact uN.mp (E3 _ _ x c hm hc)
 .exact qD (qG (hlt b hb) hC)
 .exact(hf b hb).2.2.2.2.1 x c (sub x c e)
 .rcases(hf b hb).2.2.2.1 with z|z
  .exact I.ok.noex b o e z
  .exact bu (qG (qv e) I.ok.bsz) (F2.mpr z)
 .intro z;rcases bZ.mp (I.stkSub b z) with e|e
  .exact(hf b hb).2.1 e
  .exact(hf b hb).2.2.1 e
theorem M7 (I:Inv X pins σ H s) (S:CompScope X scope) (hf:∀b∈fp,gz X pins H b) (hlt:∀b∈fp,b<s.heap.objs.size) (hC:C=s.heap.objs.size) (hlen:fv.length=N'.length)
  (hfv:∀(i j:ak) x,N'[i]?=aa x->fv[i]?=aa (aa j)->X.N[j]?=aa x/\(X.env.kindOf x=aa .cell\/X.env.kindOf x=aa .free)/\scope.names.lookup x=aa .free) {m:ai->aq av} (hn:h'.Ns C m) (hk:∀b o,s.heap.get? b=aa o->h'.get? b=aa o) :
  Inv (iB X N' scope .(bs) C s H fp) [] (g8 fv σ) H {s with heap:=h',toks:=t'}:=by
 have ok:=Pc (N':=N') I S hf hlt (C:=C) (yL hC.symm);have sub:=Cz (env:=X.env) scope.names [] (fun x c h=>by simp at h);refine⟨ok,rfl,I.bare,Un.kept hk,⟨m,hn,fun i x v e1 e2 e3=>?_⟩,fun x c e=>?_,?_,fun x c e=>I.freeC x c (sub x c e),fun p hp=>?_,I.hok.kept hk,?_⟩
 .have e1':N'[i]?=aa x:=e1;have e2':(g8 fv σ)[i]?=aa (aa v):=e2;unfold g8 at e2';rw[ql] at e2';cases q:fv[i]? with
  |none=>rw[q] at e2';cases e2'
  |some o=>
   rw[q] at e2';cases o with
   |none=>cases e2'
   |some j=>
    have e2'':(σ[j]?).join=aa v:=by simpa using e2'
    obtain⟨hN,hkk,hfree⟩:=hfv i j x e1' q;have hσ:σ[j]?=aa (aa v):=by
     cases z:σ[j]? with
     |none=>rw[z] at e2'';cases e2''
     |some w=>rw[z] at e2'';cases w with
      |none=>cases e2''
      |some w'=>simp at e2'';rw[e2'']
    obtain⟨m0,hn0,hl⟩:=I.loc;obtain⟨u,r,l⟩:=hl j x v hN hσ (.inr hkk);refine⟨u,r,.inr ⟨?_,?_⟩⟩
    .rcases e3 with z|z|z
     .have z':(y7 scope X.env).names.lookup x=aa .local:=z;rcases sF _ _ _ z' with y|⟨y,_⟩
      .rw[hfree] at y;cases y
      .cases y
     .exact .inl z
     .exact .inr z
    .rcases l with⟨k,_⟩|⟨_,c,hc,hcell⟩
     .rcases hkk with y|y
      .rw[k] at y;cases y
      .rw[k] at y;cases y
     .obtain⟨c',hc'⟩:=uN.mp (E3 scope.names [] x c (mG hfree) hc);have e:=sub x c' hc';rw[hc] at e;cases e;obtain⟨oc,ho,hd⟩:=hcell;exact⟨c,hc',oc,hk _ _ ho,hd⟩
 .obtain⟨v,oc,ho,hd⟩:=I.cell x c (sub x c e);exact⟨v,oc,hk _ _ ho,hd⟩
 .exact I.hok.fresh (yL hC.symm)
 .exact bu (show p∈([]:ac (au×Obj)) from hp) (by simp)
 .show(g8 fv σ).length=N'.length;unfold g8;rw[qg,hlen]
theorem Se (I:Inv X pins σ H s) {cl:ac (ai×au)} (hf:∀b∈fp,gz X pins H b) (hC:s.heap.objs.size<=C) {σ':St} {pl:ac (au×Obj)} 
  (J:Inv (iB X N' scope cl C s H fp) pl σ' H' s') (hs:iD C s'.heap h'):Inv X pins σ H' {s' with heap:=h'}:=by
 have hCn:H' C=af:=J.free;refine I.call' (ch:=fp) (s':={s' with heap:=h'}) J.os ?_ ?_ J.bare fun b hb=>⟨(hf b hb).2.2.2.1,(hf b hb).2.1,(hf b hb).2.2.2.2.1,(hf b hb).2.2.2.2.2⟩
 .have U:Un (frs X.stack) fp H H' s.heap s'.heap:=J.base;have neC:∀b o,s.heap.get? b=aa o->b≠C:=fun b o e=>qD (qG (qv e) hC);refine⟨fun b o e n h1 h2=>?_,fun b o e n h1 h2=>?_,U.free,fun b o e h2=>?_,U.tups,U.frzs,U.tbls⟩
  .exact(hs.2 b (neC b o e)).trans (U.keep b o e n h1 h2)
  .obtain⟨sl,q⟩:=U.slot b o e n h1 h2;exact⟨sl,(hs.2 b (neC b o e)).trans q⟩
  .obtain⟨o',q⟩:=U.there b o e h2;exact⟨o',(hs.2 b (neC b o e)).trans q⟩
 .intro b u e;refine(J.hok b u e).stay (fun c v hc q=>(hs.2 c ?_).trans q) (fun _ q=>q) fun _ _ q=>q;rintro rfl;rcases hc with z|z
  .rw[←z,hCn] at e;cases e
  .rw[hCn] at z;cases z
noncomputable def PTs (X:Cx) (es:ac Expr) (t:TT):Prop:=
 ∀(pins:ac (au×Obj)) (s:aE) (σ:St) (H:Hp) (Q:aN->Hp->Prop),Inv X pins σ H s->t σ H Q->
  aC .(n) X.A (uT es ah fun c r=>if r=ah then do let ok ←isTrue c X.env (eval c X.env);aT (pY ok) else aT (pY r)) (TP X pins σ Q) X.xe s
noncomputable def Jx:TT:=fun _ H Q=>Q ah H
theorem RW :PTs X [] Jx:=fun _ _ _ H _ I h=>wpAny_tests_nil ⟨H,I,h⟩
theorem OR {c:Expr} {t:TT} (hc:PT X c t):PTs X [c] t:=fun pins s σ H Q I h=>wpAny_tests_one (hc pins s σ H Q I h)
noncomputable def LcW (J:It) (g:TG) (tc:TT) (te:TE) (acc:au) (Q:V->Hp->Prop) (σ0:St) (H1:Hp):Prop:=
 ∃W:ak->ak->ac V->St->Hp->Prop,(∃m,W 0 m [] σ0 (upd H1 acc (.lst [])))/\∀i m ys σ' H',W i m ys σ' H'->H' acc=aa (.lst ys) /\
  ((J.stop i H'/\Q (.ref acc) H')\/(J.go i H'/\∀x H2,J.yld i H' x H2->g x σ' H2 fun σ2 H3=>tc σ2 H3 fun b H4=>
   if b=ah then te σ2 H4 fun v H5=>H5 acc=aa (.lst ys)/\ys.length<aJ/\∃m',m'<m/\W (i+1) m' (ys++[v]) σ2 (upd H5 acc (.lst (ys++[v])))
   else ∃m',m'<m/\W (i+1) m' ys σ2 H4))
def tLC (wi:TI) (g:TG) (tc:TT) (te:TE) (fv:ac (aq ak)):TE:=fun σ H Q=>wi σ H fun J H1=>∀acc,H1 acc=af->LcW J g tc te acc Q (g8 fv σ) H1
noncomputable def PB (X:Cx) (N':ac ai) (scope:Scope) (tg:Expr) (ifs:ac Expr) (elt:Expr) (g:TG) (tc:TT) (te:TE):Prop:=
 ∀(cl:ac (ai×au)) (C:au) (s₀:aE) (H₀:Hp) (fp:ac au),PG .(br) tg g/\PTs .(br) ifs tc/\PE .(br) elt te
structure FvOk (X:Cx) (N':ac ai) (scope:Scope) (fv:ac (aq ak)):Prop where
 len:fv.length=N'.length
 at':∀(i j:ak) x,N'[i]?=aa x->fv[i]?=aa (aa j)->X.N[j]?=aa x/\(X.env.kindOf x=aa .cell\/X.env.kindOf x=aa .free)/\scope.names.lookup x=aa .free
variable {py spos:c8}
section
variable {g:TG}
theorem Em {s2:aE} {it:au} {tn:ak->Heap->Prop} {J:It} {Q:VK} {RR:av->au->li->aE->Prop} (hc:X.calm=ah) (S:CompScope X scope) (F:FvOk X N' scope fv) (hb:PB X N' scope tg ifs elt g tc te)
  (I2:Inv X pins σ H1 s2) (T:Turn X.prog X.w X.K tg J fp it tn) (st2:tn 0 s2.heap) (f2:∀b∈fp,gz X pins H1 b) (q:∀acc,H1 acc=af->LcW J g tc te acc Q (g8 fv σ) H1)
  (hRR:∀(a C:au) (H':Hp) (s':aE) (m:ai->aq av),s'.heap.Ns C m->(∀h',iD C s'.heap h'->Inv X pins σ H' {s' with heap:=h'})->gz X pins H' C->Q (.ref a) H'->RR (.ref a) C (.ok .next) s') :
  aC .(n) X.A (newList []) (fun acc s₃=>aC .(n) X.A (newFunctionEnv scope X.env.globals .(bs) [] X.env.qual af .none (aa X.env)) (fun cenv s₄ =>
   fu .(n) X.A (.compStart .(r) 0 (.ref it) acc {cenv with scope:=y7 scope X.env}) (RR acc cenv.locals) s₄) X.xe s₃) X.xe s2:=by
 refine j0 ?_;have hacc:H1 s2.heap.objs.size=af:=I2.fresh;have I3:Inv X pins σ (upd H1 s2.heap.objs.size (.lst [])) {s2 with heap:=s2.heap.push {cls:=.type "list",data:=.seq ([]:ac av).toArray} }:=I2.lnew (t':=s2.toks) .nil (eW _);generalize hs3:({s2 with heap:=s2.heap.push {cls:=.type "list",data:=.seq ([]:ac av).toArray} }:aE)=s3 at I3 ⊢;have up:∀b o,s2.heap.get? b=aa o->s3.heap.get? b=aa o:=fun b o e=>by rw[←hs3];exact qu _ e
 have lt2:∀b∈fp,b<s2.heap.objs.size:=fun b hb=>by obtain⟨o,e,_⟩:=T.obj 0 _ st2 b hb;exact qv e
 have sz3:s2.heap.objs.size<s3.heap.objs.size:=by rw[←hs3];show _<(s2.heap.push _).objs.size;rw[jp];exact lq _
 have lt3:∀b∈fp,b<s3.heap.objs.size:=fun b hb=>pW (lt2 b hb) sz3;have f3:∀b∈fp,gz X pins (upd H1 s2.heap.objs.size (.lst [])) b:=fun b hb=>⟨by rw[ay (qD (lt2 b hb))];exact(f2 b hb).1,(f2 b hb).2⟩;have st3:tn 0 s3.heap:=T.keep _ _ _ st2 fun b _ o e=>up b o e;refine wpAny_newFunctionEnv S.nocell (by intro y hy;simp at hy) (fun h4 hn4 sb4=>?_) S.kind;have k4:∀b o,s3.heap.get? b=aa o->h4.get? b=aa o:=fun b o e=>(sb4.2 b (qD (qv e))).trans (qu _ e);have st4:tn 0 h4:=T.keep _ _ _ st3 fun b _ o e=>k4 b o e;have I4:=M7 I3 S f3 lt3 (C:=s3.heap.objs.size) rfl F.len F.at' hn4 k4 (t':=s3.toks+([]:ac (ai×av)).length);generalize hX:iB X N' scope .(bs) s3.heap.objs.size s3 (upd H1 s2.heap.objs.size (.lst [])) fp=X' at I4;obtain⟨bg,bt,be⟩:=hb .(bs) s3.heap.objs.size s3 (upd H1 s2.heap.objs.size (.lst [])) fp;rw[hX] at bg bt be;have hprog:X'.prog=X.prog:=by rw[←hX];rfl
 have hw:X'.w=X.w:=by rw[←hX];rfl
 have hK:X'.K=X.K:=by rw[←hX];rfl
 have hA:X'.A=X.A:=by rw[←hX];rfl
 have hcalm:X'.calm=ah:=by rw[←hX];exact hc
 have hxe:X'.xe=fun _ _=>False:=by rw[←hX];rfl
 have henv:X'.env=F1 scope .(bs) s3.heap.objs.size X.env:=by rw[←hX];rfl
 have stat:∀{H':Hp},(∀b∈fp,H' b=af)->∀b∈fp,gz X' [] H' b:=fun {H'} hn b hb=>by have f:=f3 b hb;have ok:=I4.ok;refine⟨hn b hb,(ok.exf b (by rw[←hX];exact hb)).1,ok.exfs b (by rw[←hX];exact hb),.inl (by rw[←hX];exact hb),fun x c e=>(ok.exf b (by rw[←hX];exact hb)).2 x c e,fun p hp=>?_⟩;rw[←hX] at hp;exact bu (show p∈([]:ac (au×Obj)) from hp) (by simp)
 obtain⟨W,⟨m0,w0⟩,turn⟩:=q s2.heap.objs.size hacc;have loop:∀s5:aE,s5={s3 with heap:=h4,toks:=s3.toks+([]:ac (ai×av)).length} ->
   fu .(n) X.A (.compLoop .(r) 0 (.ref it) (.ref s2.heap.objs.size) (F1 scope .(bs) s3.heap.objs.size X.env))
    (RR (.ref s2.heap.objs.size) s3.heap.objs.size) s5:=by
  intro s5 hs5;refine Q5 (fun n s'=>∃i ys σ' H',Inv X' [] σ' H' s'/\tn i s'.heap/\(∀b∈fp,H' b=af)/\W i n ys σ' H') ?_ m0 ⟨0,[],g8 fv σ,_,hs5▸I4,hs5▸st4,fun b hb=>(f3 b hb).1,w0⟩;rintro n s6 ⟨i,ys,σ6,H6,I6,st6,fr6,w6⟩;obtain⟨ha6,turn6⟩:=turn i n ys σ6 H6 w6;rw[←henv];rcases turn6 with⟨stop,qn⟩|⟨go,step⟩
  .have d:=T.done X' hprog hw hK hcalm i [] s6 σ6 H6 (fun _ _=>False) I6 (stat fr6) st6 stop;rw[hA] at d;refine thn d fun r s7 ⟨hr,I7⟩=>?_;subst hr;obtain⟨m7,hn7,_⟩:=I7.loc;have hl:X'.env.locals=s3.heap.objs.size:=by rw[henv];rfl
   refine hRR _ _ H6 s7 m7 (hl▸hn7) (fun h' hs'=>?_) ?_ qn
   .rw[←hX] at I7;exact Se I3 f3 (qw _) I7 hs'
   .exact I3.fpOk (qw _) (by have:=I7.free;rw[hl] at this;exact this)
  .have d:=T.item X' hprog hw hK hcalm i [] s6 σ6 H6 (fun _ _=>False) I6 (stat fr6) st6 go;rw[hA] at d;refine thn d fun r s7 ⟨u,hr,h7⟩=>?_;subst hr;refine thn h7 fun _ s8 ζ=>?_;obtain⟨x,H8,I8,r8,y8,st8,fr8⟩:=ζ;have I8':=I8.pinned (stat fr8) (T.obj _ _ st8);have dg:=bg _ s8 σ6 H8 x u _ I8' r8 (step x H8 y8);rw[hprog,hw,hA,hxe] at dg;refine thn dg fun _ s9 ⟨σ9,H9,I9,q9⟩=>?_;have dt:=bt _ s9 σ9 H9 _ I9 q9;rw[hprog,hw,hA,hxe] at dt;refine thn dt fun b s10 ⟨H10,I10,q10⟩=>?_;have again:∀{σ7:St} {H7:Hp} {s7:aE} {ys':ac V},Inv X' ([]++oJ fp s8.heap) σ7 H7 s7->(∃m',m'<n/\W (i+1) m' ys' σ7 H7)->∃m,m<n/\∃i ys σ' H',Inv X' [] σ' H' s7/\tn i s7.heap/\(∀b∈fp,H' b=af)/\W i m ys σ' H':=fun {σ7 H7 s7 ys'} I7 n7=>by obtain⟨m',hm,w7⟩:=n7;refine⟨m',hm,i+1,ys',σ7,H7,I7.unpinned,T.keep _ _ _ st8 fun b hb o e=>(I7.pin (b,o) (qS _ (qS _ (tQ hb e)))).1,fun b hb=>?_,w7⟩;obtain⟨o,e,_⟩:=T.obj _ _ st8 b hb;exact(I7.pin (b,o) (qS _ (qS _ (tQ hb e)))).2.1
   cases b with
   |false=>
    rw[qZ qt] at q10 ⊢;exact again I10 q10
   |true=>
    rw[qY rfl] at q10 ⊢;have de:=be _ s10 σ9 H10 _ I10 q10;rw[hprog,hw,hA,hxe] at de;refine thn de fun v s11 ζ=>?_;obtain⟨y,H11,I11,r11,ha11,hz11,n11⟩:=ζ;have da:=xz _ s11 σ9 H11 (.ref s2.heap.objs.size) [y] (.ref s2.heap.objs.size) [v] (fun _ H'=>H'=upd H11 s2.heap.objs.size (.lst (ys++[y]))) I11 rfl (.cons r11 .nil) ⟨_,ys,y,rfl,rfl,ha11,hz11,rfl⟩;rw[hprog,hw,hA,hxe] at da;refine thn da fun _ s12 ⟨_,H12,I12,_,e12⟩=>?_;subst e12;exact again I12 n11
 exact codeAny_compStart_list (loop _ rfl) (T.self _ 0 _ _ _ st4 (loop _ rfl))
theorem ES (hc:X.calm=ah) (S:CompScope X scope) (F:FvOk X N' scope fv) (hi:PI X tg iter wi) (hb:PB X N' scope tg ifs elt g tc te) (hs:∀x,lf iter X.env x=aT x:=by intro _;rfl) :
  PE X .(r) (tLC wi g tc te fv):=by
 intro pins s σ H Q I h;rw[eval_ListComp];refine Tp (use:=af) rfl hs (Dr I S) S.kind S.names (thn (hi pins s σ H _ I h) fun x s1 h1=>thn h1 fun itv s2 h2=>?_);obtain⟨it,fp,tn,J,H1,e,I2,T,st2,f2,q⟩:=h2;subst e;refine Em (RR:=fun acc C=>compPost .(n) X.A X.xe af .(bp) acc C) hc S F hb I2 T st2 f2 q ?_;intro a C H' s' m hn hI hCL hq;exact⟨m,hn,fun h' hs'=>⟨.ref a,H',hI h' hs',rfl,hq⟩⟩
theorem KJ {y:ai} (hN:X.N.Nodup) (hy:X.N[i]?=aa y) (hyl:X.env.scope.names.lookup y=aa .local) (hc:X.calm=ah) (S:CompScope X scope) (F:FvOk X N' scope fv) (hi:PI X tg iter wi) (hb:PB X N' scope tg ifs elt g tc te)
  (hsw:dh .(r) (aa (.Name y py)) spos.line X.env=aT ah)
  (hs:∀x,lf iter X.env x=aT x:=by intro _;rfl) :
  PS X (.Assign [.Name y py] .(r) spos) (o8 (tLC wi g tc te fv) (oX i)):=by
 intro pins s σ H D I h;rw[exec_Assign_Name_used _ _ _ _ hsw];refine qx (yG (qx ?_));show aC _ _ (do let _ ←comprehension .(r) scope X.env _ (newList []) ar (eval iter X.env) (aa (jj (.Name y py) X.env))) _ _ s;refine qx (hU (Tp (use:=aa (jj (.Name y py) X.env)) (Q:=fun _ s'=>SP X pins D .next s') rfl hs (Dr I S) S.kind S.names
  (thn (hi pins s σ H _ I h) fun x s1 h1=>thn h1 fun itv s2 h2=>?_)) (fun _ s' hq=>qB (qB hq)) fun _ _ e=>e)
 obtain⟨it,fp,tn,J,H1,e,I2,T,st2,f2,q⟩:=h2;subst e;refine Em (RR:=fun acc C=>compPost .(n) X.A X.xe (aa (jj (.Name y py) X.env)) (fun _ s'=>SP X pins D .next s') acc C) hc S F hb I2 T st2 f2 q ?_;intro a C H' s' m hn hI hCL hq;show aC _ _ (jj (.Name y py) X.env (.ref a)) _ _ _;have I':Inv X pins σ H' s':=hI s'.heap (Tq _ _);refine SH ?_;refine E2 (v:=.ref a) I' hN hy (.inl hyl) rfl (fun s'' I'' hch=>?_) (.inr hyl);obtain⟨ad,hsb,had⟩:=hch;obtain⟨f0,f1,f2',f3,f4,f5⟩:=hCL;have hne:C≠ad:=by
  rcases had with z|z
  .rw[z];exact f1
  .exact fun e=>f4 y ad z e.symm
 refine⟨m,hn.sameBut hsb hne,fun h' hs'=>?_⟩;exact⟨_,H',I''.turned (t':=s''.toks) (fun b o hb e=>(hs'.2 b hb).trans e) f0 f1 f3 f4 f5,hq⟩
end
noncomputable def Its (x:ai):It:=⟨fun i _=>i<x.cps.size,fun i H v H'=>H'=H/\∃c,x.cps[i]?=aa c/\v=.str ⟨#[c]⟩,fun i _=>i=x.cps.size⟩
theorem Iw {M:uG} {n:ai} {it:av} {Q:mB->aE->Prop} (hQ:Q () s):aC M A (uH (.Name n p) it u) Q E s:=qB hQ
theorem C3 {n:ai} {ty:cE} (it:au) (x:ai) (t:Tok)
  (W:∀A:cv,A.handled=af->j6 P w A it [it] [it] x.cps.size (SignAt x) (fun i h=>h.IsStrIter it ty x t i))
  (sf:∀(A:cv) (i:ak) (s:aE) (Q:av->aE->Prop) (E:av->aE->Prop),s.heap.IsStrIter it ty x t i->Q (.ref it) s->aC (aL P w) A (mC (.ref it)) Q E s):Turn P w K (.Name n p) (Its x) [it] it (fun i h=>h.IsStrIter it ty x t i) where
 mem:=by simp
 obj:=fun i h st b hb=>by
  have e:b=it:=by simpa using hb
  subst e;obtain⟨o,e,c,d⟩:=st;exact⟨o,e,fun v z=>by rw[d] at z;cases z⟩
 keep:=fun i h h' st k=>by obtain⟨o,e,r⟩:=st;exact⟨o,k it (by simp) o e,r⟩
 item:=by intro X hP hw hK hc i pins s σ H E I hf st hg;subst hP hw hK;obtain⟨f0,f1,f2,f3,f4,f5⟩:=hf it (by simp);refine(W X.A .(bz)).item i s _ _ hg st fun v h' tk hv st' kk=>?_;obtain⟨c,u,hcc,rfl⟩:=hv;have I1:Inv X pins σ H {s with heap:=h',toks:=tk}:=I.turned .(bc) f0 f1 f3 f4 f5;exact⟨_,rfl,Iw ⟨.str ⟨#[c]⟩,H,I1,⟨_,rfl⟩,⟨rfl,c,hcc,rfl⟩,st',fun b hb=>(hf b hb).1⟩⟩
 done:=by intro X hP hw hK hc i pins s σ H E I hf st hg;subst hP hw hK;obtain⟨f0,f1,f2,f3,f4,f5⟩:=hf it (by simp);have hi:i=x.cps.size:=hg;subst hi;exact(W X.A .(bz)).done s _ _ st fun h' tk kk=>⟨rfl,I.turned .(bc) f0 f1 f3 f4 f5⟩
 self:=sf
def NL (te:TE):TI:=fun σ H R=>te σ H fun v H1=>∃x,v=.str x/\R (Its x) H1
theorem HM {n:ai} (he:PE X e te):PI X (.Name n p) e (NL te):=by
 intro pins s σ H R I h;refine thn .(aN) fun v s1 ζ=>?_;obtain⟨y,H1,I1,r1,q1⟩:=ζ;obtain⟨x,e,q⟩:=q1;subst e;obtain⟨t,rfl⟩:=r1;have fin:∀(ty:cE) (o:Obj),(s1.heap.push o).IsStrIter s1.heap.objs.size ty x t 0->Turn X.prog X.w X.K (.Name n p) (Its x) [s1.heap.objs.size] s1.heap.objs.size (fun i h=>h.IsStrIter s1.heap.objs.size ty x t i)->
   PIE X pins σ (.Name n p) R (.ref s1.heap.objs.size) {s1 with heap:=s1.heap.push o}:=fun ty o st T=>by
  refine⟨s1.heap.objs.size,[s1.heap.objs.size],_,_,H1,rfl,I1.kept (t':=s1.toks) fun b o e=>qu _ e,T,st,fun b hb=>?_,q⟩;have e:b=s1.heap.objs.size:=by simpa using hb
  subst e;exact I1.fpOk (qw _) (I1.hok.fresh (qw _))
 cases ha:x.cps.all (· < 128)
 .exact wpAny_pyIter_wide ha (fin _ _ ⟨_,qH _ rfl,rfl,rfl⟩ (C3 _ x t (fun A' hA=>Walks.strWide hA _ x t) fun _ _ _ _ _ st h=>wpAny_pyIter_striter_wide st h))
 .exact wpAny_pyIter_ascii ha (fin _ _ ⟨_,qH _ rfl,rfl,rfl⟩ (C3 _ x t (fun A' hA=>Walks.strAscii hA _ x t) fun _ _ _ _ _ st h=>wpAny_pyIter_striter_ascii st h))
def Ite (K:aM) (a:au):It:=
 ⟨fun i H=>∃xs x,SqL K H a xs/\xs[i]?=aa x,fun i H v H'=>∃T x,v=.ref T/\H T=af/\H'=upd H T (.tup [.int i,x])/\∀xs,SqL K H a xs->xs[i]?=aa x,fun i H=>∃xs,SqL K H a xs/\xs.length<=i⟩
variable {elts:ac Expr}
theorem OL {k1:ak} (e it a:au) (hei:e≠it) :
  Turn P w K (.Tuple elts k1 pos) (Ite K a) [e,it] e (fun i h=>(∃old,IsEnum h e it i old)/\h.IsListIter it a i) where
 mem:=by simp
 obj:=fun i h st b hb=>by
  obtain⟨⟨old,he⟩,o,ho,c,d⟩:=st;rcases bZ.mp hb with z|z
  .subst z;exact⟨_,he,fun v z=>by cases z⟩
  .have z':b=it:=by simpa using z
   subst z';exact⟨o,ho,fun v z=>by rw[d] at z;cases z⟩
 keep:=fun i h h' st k=>by obtain⟨⟨old,he⟩,hi⟩:=st;exact⟨⟨old,k e (by simp) _ he⟩,hi.at fun o x=>k it (by simp) o x⟩
 item:=by
  intro X hP hw hK hc i pins s σ H E I hf st hg;subst hP hw hK;obtain⟨xs,x,hq,hx⟩:=hg;obtain⟨its,rv,p,hz⟩:=I.list hq;obtain⟨u,hu,ru⟩:=rv.get hx;obtain⟨⟨old,he⟩,hit⟩:=st;obtain⟨e0,e1,e2,e3,e4,e5⟩:=hf e (by simp);obtain⟨f0,f1,f2,f3,f4,f5⟩:=hf it (by simp);have helt:e<s.heap.objs.size:=qv he;have hilt:it<s.heap.objs.size:=by obtain⟨_,x,_⟩:=hit;exact qv x
  refine wpAny_pyNext_enum_item he hit p.isList (x:=u) (by simpa using hu) hei fun h' ho hit' hT hsz hk=>?_;refine⟨_,rfl,wpAny_letOwnedTupleGo_enum ho fun h2 he2 hs2=>?_⟩;have hs2':iD e h' h2:=hs2;have kk:∀b o,b≠e->b≠it->s.heap.get? b=aa o->h2.get? b=aa o:=fun b o h1 h3 q=>(hs2'.2 b h1).trans (hk b o h1 h3 q);have hT2:h2.get? s.heap.objs.size=aa {cls:=.type "tuple",data:=.seq #[.int i s.toks,u]}:=(hs2'.2 _ (yH helt)).trans hT;have nH:H s.heap.objs.size=af:=I.fresh;have I1:Inv X pins σ (upd H s.heap.objs.size (.tup [.int i,x])) {s with heap:=h2,toks:=s.toks+1}:=by
   have ne:∀b o,H b=aa o->b≠e/\b≠it:=fun b o q=>⟨fun z=>(by rw[z,e0] at q;cases q),fun z=>(by rw[z,f0] at q;cases q)⟩;refine I.step (g':=s.gens) (d':=s.drawn) (ch:=[e,it]) (fun b hb=>?_) (fun b o _ _ hc q _=>kk b o .(bh) .(bh) q) (fun b o _ _ hc q _=>⟨o.slots,kk b o .(bh) .(bh) q⟩) (fun b o _ q n=>?_)
    (fun b o hc q=>⟨o,kk b o .(bh) .(bh) q⟩) (fun b ys q=>?_) (fun b o y q=>?_) (fun b ps q=>⟨#[],?_⟩) (fun m hm=>?_) (fun b v q=>?_) I.bare
   .rcases bZ.mp hb with z|z
    .subst z;exact⟨e3,e1,e4,e5⟩
    .have z':b=it:=by simpa using z
     subst z';exact⟨f3,f1,f4,f5⟩
   .rw[ay (qD (qv q))];exact n
   .rw[ay (bi q nH)];exact q
   .rw[ay (bi q nH)];exact q
   .rw[ay (bi q nH),q];simp
   .obtain⟨o,es,ep,q,r⟩:=hm;exact⟨o,es,ep,kk _ o (cH e1) (cH f1) q,r⟩
   .by_cases hb:b=s.heap.objs.size
    .subst hb;rw[aV] at q;cases q;exact⟨by show 2<=aJ;decide,[.int i s.toks,u],.cons ⟨_,rfl⟩ (.cons ru .nil),⟨_,hT2,rfl,_,rfl⟩⟩
    .rw[ay hb] at q;refine(I.hok b v q).stay (fun c v hc r=>?_) (fun c r=>by rw[ay (bi r nH)];exact r) fun c ys r=>by rw[ay (bi r nH)];exact r
     rcases hc with z|z
     .rw[z] at r ⊢;exact kk b v (ne b _ q).1 (ne b _ q).2 r
     .exact kk c v (ne c _ z).1 (ne c _ z).2 r
  refine⟨.ref s.heap.objs.size,_,I1,rfl,⟨_,x,rfl,nH,rfl,fun ys hy=>by rw[I.list_inj hy hq];exact hx⟩,⟨⟨_,by simpa using he2⟩,hit'.at fun o y=>(hs2'.2 it hei.symm).trans y⟩,fun b hb=>?_⟩;rcases bZ.mp hb with z|z
  .subst z;rw[ay (qD helt)];exact e0
  .have z':b=it:=by simpa using z
   subst z';rw[ay (qD hilt)];exact f0
 done:=by intro X hP hw hK hc i pins s σ H E I hf st hg;subst hP hw hK;obtain⟨xs,hq,hx⟩:=hg;obtain⟨its,rv,p,hz⟩:=I.list hq;obtain⟨⟨old,he⟩,hit⟩:=st;obtain⟨f0,f1,f2,f3,f4,f5⟩:=hf it (by simp);have hl:=rv.length;exact wpAny_pyNext_enum_end .(bz) he hit p.isList (by simp;omega) fun h' eb=>⟨rfl,I.turned (t':=s.toks) (fun b o hb e=>eb b o hb e) f0 f1 f3 f4 f5⟩
 self:=fun A i s Q E st h=>by obtain⟨⟨old,he⟩,_⟩:=st;exact Tr he h
def Sf (K:aM) (ta:TA):TI:=fun σ H R=>ta σ H fun vs H1=>∃a,vs=[.ref a]/\(∃xs,SqL K H1 a xs)/\R (Ite K a) H1
theorem Q2 {a:Expr} {ta:TA} {k1:ak} (hg:Gl X "enumerate") (hm:X.mg "enumerate"=af) (ha:PA X [a] ta) (hs:aH [a] X.env=[(ar,eval a X.env)]:=by rfl) :
  PI X (.Tuple elts k1 tpos) (.Call (.Name "enumerate" p) [a] [] pos) (Sf X.K ta):=by
 intro pins s σ H R I h;refine Call_ (kN I hg hm Vh (yI (thn .(bl) fun us s1 ζ=>?_) hs rfl));obtain⟨vs,H1,I1,r1,q1⟩:=ζ;obtain⟨l,e,⟨xs,hq⟩,q⟩:=q1;subst e;obtain⟨u,rfl,r2⟩:=eJ r1;cases r2;obtain⟨its,rv,pl,hz⟩:=I1.list hq;refine call_enumerate_list pl.isList fun h' he hit hsz hk=>?_;have I2:Inv X pins σ H1 {s1 with heap:=h'}:=I1.kept (t':=s1.toks) hk;refine Tr he ?_;refine⟨s1.heap.objs.size+1,[s1.heap.objs.size+1,s1.heap.objs.size],_,_,H1,rfl,I2,OL _ _ l (Nat.succ_ne_self _),⟨⟨_,he⟩,hit⟩,fun b hb=>?_,q⟩;rcases bZ.mp hb with z|z
 .subst z;exact I1.fpOk (nY _) (I1.hok.fresh (nY _))
 .have z':b=s1.heap.objs.size:=by simpa using z
  subst z';exact I1.fpOk (qw _) (I1.hok.fresh (qw _))
inductive D where
 |non|bl (b:aN)|int (i:aj)|str (x:ai)|tup (l:ac D)|lst (l:ac D)|scr (ns:ac aj)
 |dk (l:ac (Key×D))|fdk (l:ac (Key×D))|dt (l:ac .(ah))|fdt (l:ac .(ah))|ins (c:ai) (fs:ac (ai×D))|ty (n:cE)
noncomputable def eA:Key->D
 |.inl i=>.int i
 |.inr x=>.str x
structure Cn where
 cls:ai->aq au
 self:aq au:=af
mutual
inductive Rep (Γ:Cn) (K:aM) (G:Hp):V->D->Prop where
 |non:Rep Γ K G .non .non
 |bl (b:aN):Rep Γ K G (.bl b) (.bl b)
 |int (i:aj):Rep Γ K G (.int i) (.int i)
 |str (x:ai):Rep Γ K G (.str x) (.str x)
 |ty (n:cE):Rep Γ K G (.ty n) (.ty n)
 |tup {a:au} {vs:ac V} {ds:ac D}:G a=aa (.tup vs)->Reps Γ K G vs ds->Rep Γ K G (.ref a) (.tup ds)
 |lst {a:au} {vs:ac V} {ds:ac D}:G a=aa (.lst vs)->Reps Γ K G vs ds->Rep Γ K G (.ref a) (.lst ds)
 |scr {a:au} {ns:ac aj}:SqL K G a .(bm)->Rep Γ K G (.ref a) (.scr ns)
 |dk {a:au} {us:ac (Key×V)} {kvs:ac (Key×D)}:G a=aa (.dK us)->us.map (·.1)=kvs.map (·.1)->Reps Γ K G (us.map (·.2)) (kvs.map (·.2))->Rep Γ K G (.ref a) (.dk kvs)
 |fdk {a:au} {o:Obj} {us:ac (Key×V)} {kvs:ac (Key×D)}:G a=aa .(Y)->us.map (·.1)=kvs.map (·.1)->Reps Γ K G (us.map (·.2)) (kvs.map (·.2))->Rep Γ K G (.ref a) (.fdk kvs)
 |dt {a:au} {us:ac .(ax)} {kvs:ac .(ah)}:G a=aa (.dT us)->us.map (·.1)=kvs.map (·.1)->Reps Γ K G (us.map (·.2)) (kvs.map (·.2))->Rep Γ K G (.ref a) (.dt kvs)
 |fdt {a:au} {o:Obj} {us:ac .(ax)} {kvs:ac .(ah)}:G a=aa (.frz o (.dT us))->us.map (·.1)=kvs.map (·.1)->Reps Γ K G (us.map (·.2)) (kvs.map (·.2))->Rep Γ K G (.ref a) (.fdt kvs)
 |ins {a C dx:au} {c:ai} {us:ac (ai×V)} {fs:ac (ai×D)}:G a=aa (.ins C dx us)->Γ.cls c=aa C->us.map (·.1)=fs.map (·.1)->Reps Γ K G (us.map (·.2)) (fs.map (·.2))->Rep Γ K G (.ref a) (.ins c fs)
inductive Reps (Γ:Cn) (K:aM) (G:Hp):ac V->ac D->Prop where
 |nil:Reps Γ K G [] []
 |cons {v:V} {d:D} {vs:ac V} {ds:ac D}:Rep Γ K G v d->Reps Γ K G vs ds->Reps Γ K G (v::vs) (d::ds)
end
variable {Γ Γ':Cn} {G G' G1:Hp} {d:D} {ds:ac D}
section
variable {G2:Hp}
theorem Rep.tr (s:aQ G G') (hc:Γ'.cls=Γ.cls) (r:Rep Γ K G v d):Rep Γ' K G' v d:=
 r.rec (motive_1:=fun v d _=>Rep Γ' K G' v d) (motive_2:=fun vs ds _=>Reps Γ' K G' vs ds) .non .bl .int .str .ty (fun h _ i=>.tup (s _ _ h) i) (fun h _ i=>.lst (s _ _ h) i) (fun h=>.scr (s.seq h)) (fun h e _ i=>.dk (s _ _ h) e i) (fun h e _ i=>.fdk (s _ _ h) e i) (fun h e _ i=>.dt (s _ _ h) e i) (fun h e _ i=>.fdt (s _ _ h) e i) (fun h c e _ i=>.ins (s _ _ h) (by rw[hc];exact c) e i) .nil fun _ _ a b=>.cons a b
theorem Reps.tr {Γ':Cn} (s:aQ G G') (hc:Γ'.cls=Γ.cls):∀{vs:ac V} {ds:ac D},Reps Γ K G vs ds->Reps Γ' K G' vs ds
 |_,[],r=>by cases r;exact .nil
 |_,_::_,r=>by obtain _|⟨h,r⟩:=r;exact .cons (h.tr s hc) (r.tr s hc)
theorem Rep.mono (r:Rep Γ K G v d) (s:aQ G G'):Rep Γ K G' v d:=r.tr s rfl
theorem Reps.mono (r:Reps Γ K G vs ds) (s:aQ G G'):Reps Γ K G' vs ds:=r.tr s rfl
theorem Rep.re {Γ':Cn} (hc:Γ'.cls=Γ.cls) {v:V} {d:D} (r:Rep Γ K G v d):Rep Γ' K G v d:=r.tr (aQ.refl _) hc
theorem Reps.re {Γ':Cn} (hc:Γ'.cls=Γ.cls) {vs:ac V} {ds:ac D} (r:Reps Γ K G vs ds):Reps Γ' K G vs ds:=r.tr (aQ.refl _) hc
theorem Reps.length:∀{vs:ac V} {ds:ac D},Reps Γ K G vs ds->vs.length=ds.length
 |_,_,.nil=>rfl
 |_,_,.cons _ r=>by rw[qj,qj,r.length]
theorem Reps.get:∀{vs:ac V} {ds:ac D} {i:ak} {d:D},Reps Γ K G vs ds->ds[i]?=aa d->∃v,vs[i]?=aa v/\Rep Γ K G v d
 |_,_,_,_,.nil,e=>by simp at e
 |_,_,0,_,.cons r _,e=>by simp at e;subst e;exact⟨_,rfl,r⟩
 |_,_,i+1,d,.cons _ t,e=>by obtain⟨u,h1,h2⟩:=Reps.get (i:=i) (d:=d) t (by simpa using e);exact⟨u,by simpa using h1,h2⟩
theorem Reps.append:∀{vs ws:ac V} {ds es:ac D},Reps Γ K G vs ds->Reps Γ K G ws es->Reps Γ K G (vs++ws) (ds++es)
 |_,_,[],_,r,s=>by cases r;exact s
 |_,_,_::_,_,r,s=>by obtain _|⟨r,t⟩:=r;exact .cons r (t.append s)
theorem Reps.take:∀{vs:ac V} {ds:ac D} (n:ak),Reps Γ K G vs ds->Reps Γ K G (vs.take n) (ds.take n)
 |_,_,0,_=>.nil
 |_,_,_+1,.nil=>.nil
 |_,_,n+1,.cons r t=>.cons r (t.take n)
theorem Reps.drop:∀{vs:ac V} {ds:ac D} (n:ak),Reps Γ K G vs ds->Reps Γ K G (vs.drop n) (ds.drop n)
 |_,_,0,r=>r
 |_,_,_+1,.nil=>.nil
 |_,_,n+1,.cons _ t=>t.drop n
theorem Reps.ints:∀(ns:ac aj),Reps Γ K G .(bm) (ns.map D.int)
 |[]=>.nil
 |n::r=>.cons (.int n) (Reps.ints r)
theorem Reps.rep {vs:ac V} {ds:ac D} (h:Reps Γ K G vs ds):∀k:ak,Reps Γ K G (bJ k vs).flatten (bJ k ds).flatten
 |0=>.nil
 |k+1=>by rw[lr,lr,n6,n6];exact h.append (Reps.rep h k)
noncomputable def kyV:V->aN
 |.int _=>ah
 |.str _=>ah
 |_=>ar
def kyT:HO->aN
 |.tup vs=>vs.all kyV
 |_=>ar
structure Step (G H G' H':Hp):Prop where
 hh:aQ H H'
 gg:aQ G G'
 gh:aQ G' H'
 out:∀a o,H a=aa o->kyT o=ar->G' a=G a
theorem Step.refl (gh:aQ G H):Step G H G H:=⟨.refl _,.refl _,gh,fun _ _ _ _=>rfl⟩
theorem Step.trans (a:Step G H G1 H1) (b:Step G1 H1 G2 H2):Step G H G2 H2:=
 ⟨a.hh.trans b.hh,a.gg.trans b.gg,b.gh,fun c o e k=>(b.out c o (a.hh c o e) k).trans (a.out c o e k)⟩
theorem Step.new {p:au} {o:HO} (gh:aQ G H) (hp:H p=af):Step G H (upd G p o) (upd H p o):=by
 have gp:G p=af:=gh.free hp;refine⟨fun b u e=>?_,fun b u e=>?_,fun b u e=>?_,fun b u e _=>?_⟩
 .rw[ay (bi e hp)];exact e
 .rw[ay (bi e gp)];exact e
 .by_cases hb:b=p
  .subst hb;rw[aV] at e ⊢;exact e
  .rw[ay hb] at e ⊢;exact gh b u e
 .rw[ay (bi e hp)]
theorem Step.newOwn {p:au} {o:HO} (gh:aQ G H) (hp:H p=af):Step G H G (upd H p o):=by
 refine⟨fun b u e=>?_,.refl _,fun b u e=>?_,fun _ _ _ _=>rfl⟩
 .rw[ay (bi e hp)];exact e
 .rw[ay (bi (gh b u e) hp)];exact gh b u e
end
inductive Fld where
 |d (d:D)|k (kvs:ac (Key×D))|t (kvs:ac .(ah))
inductive Slot where
 |sh (d:D)
 |own (ds:ac D)
 |obj (c:ai) (fs:ac (ai×D))
 |objd (c:ai) (fs:ac (ai×D)) (n:ai) (kvs:ac (Key×D))
 |odk (kvs:ac (Key×D))
 |odt (kvs:ac .(ah))
 |fo (s:aN) (c:ai) (fs:ac (ai×Fld))
 |lo (fs:ac Fld)
noncomputable abbrev bA:=ac (aq Slot)
noncomputable def fW:D->aN
 |.non=>ah
 |.bl _=>ah
 |.int _=>ah
 |.str _=>ah
 |_=>ar
def nc (H:Hp):ac au->ac (ac V)->Prop
 |[],[]=>True
 |p::ps,vs::vss=>H p=aa (.lst vs)/\nc H ps vss
 |_,_=>False
def uy (Γ:Cn) (K:aM) (G:Hp):ac (ac V)->ac (ac D)->Prop
 |[],[]=>True
 |vs::vss,ds::dss=>Reps Γ K G vs ds/\uy Γ K G vss dss
 |_,_=>False
theorem nc.mem {H:Hp}:∀{ps:ac au} {vss:ac (ac V)},nc H ps vss->∀b∈ps,∃o,H b=aa o/\kyT o=ar
 |[],_,_,b,hb=>by cases hb
 |p::ps,[],h,b,hb=>h.elim
 |p::ps,vs::vss,h,b,hb=>by
  rcases bZ.mp hb with rfl|hb
  .exact⟨_,h.1,rfl⟩
  .exact h.2.mem b hb
theorem nc.stay {H H':Hp}:∀{ps:ac au} {vss:ac (ac V)},nc H ps vss->(∀b∈ps,H' b=H b)->nc H' ps vss
 |[],[],_,_=>trivial
 |[],_::_,h,_=>h.elim
 |p::ps,[],h,_=>h.elim
 |p::ps,vs::vss,h,e=>⟨(e p qh).trans h.1,h.2.stay fun b hb=>e b (qi _ hb)⟩
theorem uy.map {Γ:Cn} {K:aM} {G G':Hp} (f:∀{vs:ac V} {ds:ac D},Reps Γ K G vs ds->Reps Γ K G' vs ds):∀{vss:ac (ac V)} {dss:ac (ac D)},uy Γ K G vss dss->uy Γ K G' vss dss
 |[],[],_=>trivial
 |[],_::_,h=>h.elim
 |_::_,[],h=>h.elim
 |_::_,_::_,h=>⟨f h.1,h.2.map f⟩
inductive FldR (Γ:Cn) (K:aM) (G H:Hp):V->Fld->ac au->Prop where
 |d {v:V} {d:D}:Rep Γ K G v d->FldR Γ K G H v (.d d) []
 |k {q:au} {us:ac (Key×V)} {kvs:ac (Key×D)}:H q=aa (.dK us)->us.map (·.1)=kvs.map (·.1)->Reps Γ K G (us.map (·.2)) (kvs.map (·.2))->FldR Γ K G H (.ref q) (.k kvs) [q]
 |t {q:au} {us:ac .(ax)} {kvs:ac .(ah)}:H q=aa (.dT us)->us.map (·.1)=kvs.map (·.1)->Reps Γ K G (us.map (·.2)) (kvs.map (·.2))->FldR Γ K G H (.ref q) (.t kvs) [q]
inductive FldsR (Γ:Cn) (K:aM) (G H:Hp):ac V->ac Fld->ac au->Prop where
 |nil:FldsR Γ K G H [] [] []
 |cons {v:V} {f:Fld} {p:ac au} {vs:ac V} {fs:ac Fld} {ps:ac au}:FldR Γ K G H v f p->FldsR Γ K G H vs fs ps->FldsR Γ K G H (v::vs) (f::fs) (p++ps)
theorem FldR.mem {v:V} {f:Fld} {p:ac au} (r:FldR Γ K G H v f p):∀b∈p,∃o,H b=aa o/\kyT o=ar:=by
 cases r with
 |d _=>intro b hb;cases hb
 |k h _ _=>intro b hb;rw[bD.mp hb];exact⟨_,h,rfl⟩
 |t h _ _=>intro b hb;rw[bD.mp hb];exact⟨_,h,rfl⟩
theorem FldR.stay {f:Fld} {p:ac au} (r:FldR Γ K G H v f p) (gg:aQ G G') (hh:∀b∈p,H' b=H b):FldR Γ K G' H' v f p:=by
 cases r with
 |d h=>exact .d (h.mono gg)
 |k h a c=>exact .k ((hh _ qh).trans h) a (c.mono gg)
 |t h a c=>exact .t ((hh _ qh).trans h) a (c.mono gg)
theorem FldR.uniq {f:Fld} {p q:ac au} (r:FldR Γ K G H v f p) (s:FldR Γ K G H v f q):p=q:=by cases r<;>cases s<;>rfl
theorem FldsR.mem:∀{vs:ac V} {fs:ac Fld} {ps:ac au},FldsR Γ K G H vs fs ps->∀b∈ps,∃o,H b=aa o/\kyT o=ar
 |_,[],_,r,b,hb=>by cases r;cases hb
 |_,_::_,_,r,b,hb=>by obtain _|⟨r,t⟩:=r;exact(cT.mp hb).elim (r.mem b) (t.mem b)
theorem FldsR.stay:∀{vs:ac V} {fs:ac Fld} {ps:ac au},FldsR Γ K G H vs fs ps->aQ G G'->(∀b∈ps,H' b=H b)->FldsR Γ K G' H' vs fs ps
 |_,[],_,r,_,_=>by cases r;exact .nil
 |_,_::_,_,r,gg,hh=>by obtain _|⟨r,t⟩:=r;exact .cons (r.stay gg fun b hb=>hh b (mz _ hb)) (t.stay gg fun b hb=>hh b (qS _ hb))
theorem FldsR.uniq:∀{vs:ac V} {fs:ac Fld} {ps qs:ac au},FldsR Γ K G H vs fs ps->FldsR Γ K G H vs fs qs->ps=qs
 |_,[],_,_,p,q=>by cases p;cases q;rfl
 |_,_::_,_,_,p,q=>by obtain _|⟨r,t⟩:=p;obtain _|⟨r',t'⟩:=q;rw[r.uniq r',t.uniq t']
inductive SR (Γ:Cn) (K:aM) (H₀ G H:Hp):Slot->V->ac au->Prop where
 |sh {d:D} {v:V}:Rep Γ K G v d->SR Γ K H₀ G H (.sh d) v []
 |own {a:au} {vs:ac V} {ds:ac D}:H₀ a=af->G a=af->H a=aa (.lst vs)->Reps Γ K G vs ds->SR Γ K H₀ G H (.own ds) (.ref a) [a]
 |obj {c:ai} {a C dx:au} {vs:ac (ai×V)} {fs:ac (ai×D)}:Γ.cls c=aa C->H₀ a=af->G a=af->H a=aa (.ins C dx vs)->vs.map (·.1)=fs.map (·.1)->Reps Γ K G (vs.map (·.2)) (fs.map (·.2))->Γ.self=aa a->SR Γ K H₀ G H (.obj c fs) (.ref a) [a]
 |objd {c n:ai} {a C dx p:au} {vs:ac (ai×V)} {fs:ac (ai×D)} {us:ac (Key×V)} {kvs:ac (Key×D)}:Γ.cls c=aa C->H₀ a=af->G a=af->H a=aa (.ins C dx (vs++[(n,.ref p)]))->vs.map (·.1)=fs.map (·.1)->Reps Γ K G (vs.map (·.2)) (fs.map (·.2))->
   H₀ p=af->G p=af->H p=aa (.dK us)->us.map (·.1)=kvs.map (·.1)->Reps Γ K G (us.map (·.2)) (kvs.map (·.2))->Γ.self=aa a->SR Γ K H₀ G H (.objd c fs n kvs) (.ref a) [a,p]
 |odk {a:au} {us:ac (Key×V)} {kvs:ac (Key×D)}:H₀ a=af->G a=af->H a=aa (.dK us)->us.map (·.1)=kvs.map (·.1)->Reps Γ K G (us.map (·.2)) (kvs.map (·.2))->SR Γ K H₀ G H (.odk kvs) (.ref a) [a]
 |odt {a:au} {us:ac .(ax)} {kvs:ac .(ah)}:H₀ a=af->G a=af->H a=aa (.dT us)->us.map (·.1)=kvs.map (·.1)->Reps Γ K G (us.map (·.2)) (kvs.map (·.2))->SR Γ K H₀ G H (.odt kvs) (.ref a) [a]
 |fo {s:aN} {c:ai} {a C dx:au} {vs:ac (ai×V)} {fs:ac (ai×Fld)} {ps:ac au}:(s=ah->Γ.self=aa a)->Γ.cls c=aa C->(∀b∈a::ps,H₀ b=af/\G b=af)->(a::ps).Nodup->H a=aa (.ins C dx vs)->vs.map (·.1)=fs.map (·.1)->FldsR Γ K G H (vs.map (·.2)) (fs.map (·.2)) ps->SR Γ K H₀ G H (.fo s c fs) (.ref a) (a::ps)
 |lo {a:au} {vs:ac V} {fs:ac Fld} {ps:ac au}:(∀b∈a::ps,H₀ b=af/\G b=af)->(a::ps).Nodup->H a=aa (.lst vs)->FldsR Γ K G H vs fs ps->SR Γ K H₀ G H (.lo fs) (.ref a) (a::ps)
variable {H₀:Hp}
section
variable {s:Slot}
theorem SR.fpt (r:SR Γ K H₀ G H s v fp):∀b∈fp,H₀ b=af/\G b=af/\∃o,H b=aa o/\kyT o=ar:=by
 cases r with
 |sh r=>intro b hb;cases hb
 |own h1 h2 h3 _=>intro b hb;rw[bD.mp hb];exact⟨h1,h2,_,h3,rfl⟩
 |obj _ h1 h2 h3 _ _ _=>intro b hb;rw[bD.mp hb];exact⟨h1,h2,_,h3,rfl⟩
 |objd _ h1 h2 h3 _ _ q1 q2 q3 _ _ _=>
  intro b hb;rcases bZ.mp hb with rfl|hb
  .exact⟨h1,h2,_,h3,rfl⟩
  .rw[bD.mp hb];exact⟨q1,q2,_,q3,rfl⟩
 |odk h1 h2 h3 _ _=>intro b hb;rw[bD.mp hb];exact⟨h1,h2,_,h3,rfl⟩
 |odt h1 h2 h3 _ _=>intro b hb;rw[bD.mp hb];exact⟨h1,h2,_,h3,rfl⟩
 |fo _ _ h1 h2 h3 _ h4=>
  intro b hb;refine⟨(h1 b hb).1,(h1 b hb).2,?_⟩;rcases bZ.mp hb with rfl|hb
  .exact⟨_,h3,rfl⟩
  .exact h4.mem b hb
 |lo h1 h2 h3 h4=>
  intro b hb;refine⟨(h1 b hb).1,(h1 b hb).2,?_⟩;rcases bZ.mp hb with rfl|hb
  .exact⟨_,h3,rfl⟩
  .exact h4.mem b hb
theorem SR.stay (r:SR Γ K H₀ G H s v fp) (gg:aQ G G') (hg:∀b∈fp,G' b=af) (hh:∀b∈fp,H' b=H b):SR Γ K H₀ G' H' s v fp:=by
 cases r with
 |sh r=>exact .sh (r.mono gg)
 |own h1 h2 h3 h4=>exact .own h1 (hg _ (bD.mpr rfl)) ((hh _ (bD.mpr rfl)).trans h3) (h4.mono gg)
 |obj c h1 h2 h3 h4 h5 hs=>exact .obj c h1 (hg _ (bD.mpr rfl)) ((hh _ (bD.mpr rfl)).trans h3) h4 (h5.mono gg) hs
 |objd c h1 h2 h3 h4 h5 q1 q2 q3 q4 q5 hs=>
  exact .objd c h1 (hg _ qh) ((hh _ qh).trans h3) h4 (h5.mono gg) q1 (hg _ (qi _ qh)) ((hh _ (qi _ qh)).trans q3) q4 (q5.mono gg) hs
 |odk h1 h2 h3 h4 h5=>exact .odk h1 (hg _ (bD.mpr rfl)) ((hh _ (bD.mpr rfl)).trans h3) h4 (h5.mono gg)
 |odt h1 h2 h3 h4 h5=>exact .odt h1 (hg _ (bD.mpr rfl)) ((hh _ (bD.mpr rfl)).trans h3) h4 (h5.mono gg)
 |fo y c h1 h2 h3 h4 h5=>exact .fo y c (fun b hb=>⟨(h1 b hb).1,hg b hb⟩) h2 ((hh _ qh).trans h3) h4 (h5.stay gg fun b hb=>hh b (qi _ hb))
 |lo h1 h2 h3 h5=>exact .lo (fun b hb=>⟨(h1 b hb).1,hg b hb⟩) h2 ((hh _ qh).trans h3) (h5.stay gg fun b hb=>hh b (qi _ hb))
theorem SR.stepS (r:SR Γ K H₀ G H s v fp) (t:Step G H G' H'):SR Γ K H₀ G' H' s v fp:=r.stay t.gg (fun b hb=>by
 obtain⟨_,h2,o,h3,h4⟩:=r.fpt b hb;exact(t.out b o h3 h4).trans h2) (fun b hb=>by
 obtain⟨_,_,o,h3,_⟩:=r.fpt b hb;rw[h3];exact t.hh b o h3)
end
theorem SR.uniq {Γ:Cn} {K:aM} {H₀ G H:Hp} {s:Slot} {v:V} {fp fq:ac au} (r:SR Γ K H₀ G H s v fp) (q:SR Γ K H₀ G H s v fq):fp=fq:=by
 cases r with
 |sh r=>cases q;rfl
 |own h1 h2 h3 _=>cases q;rfl
 |obj _ h1 h2 h3 _ _ _=>cases q;rfl
 |objd _ h1 h2 h3 _ _ q1 q2 q3 _ _ _=>
  cases q with
  |objd _ _ _ k3 _ _ _ _ _ _ _ _=>
   rw[h3] at k3;have z:=(HO.ins.inj (qI k3)).2.2;have z2:=(List.append_inj' z rfl).2;cases z2;rfl
 |odk h1 h2 h3 _ _=>cases q;rfl
 |odt h1 h2 h3 _ _=>cases q;rfl
 |fo _ _ _ _ h3 _ h5=>
  cases q with
  |fo _ _ _ _ k3 _ k5=>
   rw[h3] at k3;cases k3;rw[h5.uniq k5]
 |lo _ _ h3 h5=>
  cases q with
  |lo _ _ k3 k5=>
   rw[h3] at k3;cases k3;rw[h5.uniq k5]
structure EnvRel (Γ:Cn) (K:aM) (H₀ G H:Hp) (ρ:bA) (σ:St):Prop where
 len:ρ.length=σ.length
 sl:∃fps:ak->ac au,(∀(i:ak) s,ρ[i]?=aa (aa s)->∃v,σ[i]?=aa (aa v)/\SR Γ K H₀ G H s v (fps i)) /\
  ∀(i j:ak) s t,i≠j->ρ[i]?=aa (aa s)->ρ[j]?=aa (aa t)->∀b∈fps i,b∉fps j
structure At (Γ:Cn) (K:aM) (G₀ H₀ G H:Hp) (ρ:bA) (σ:St):Prop where
 st:Step G₀ H₀ G H
 env:EnvRel Γ K H₀ G H ρ σ
noncomputable def eK (ρ:bA):Prop:=∀(i:ak) s,ρ[i]?=aa (aa s)->∃d,s=.sh d
variable {G₀:Hp} {ρ:bA} {fp':ac au} {ws:ac V}
theorem EnvRel.ofSh (len:ρ.length=σ.length) (no:eK ρ) (sh:∀(i:ak) d,ρ[i]?=aa (aa (.sh d))->∃v,σ[i]?=aa (aa v)/\Rep Γ K G v d):EnvRel Γ K H₀ G H ρ σ :=
 ⟨len,fun _=>[],fun i s e=>by obtain⟨d,rfl⟩:=no i s e;obtain⟨v,h1,h2⟩:=sh i d e;exact⟨v,h1,.sh h2⟩,fun _ _ _ _ _ _ _ b hb=>by cases hb⟩
theorem EnvRel.sh (E:EnvRel Γ K H₀ G H ρ σ) (i:ak) (d:D) (e:ρ[i]?=aa (aa (.sh d))):∃v,σ[i]?=aa (aa v)/\Rep Γ K G v d:=by
 obtain⟨fps,h,_⟩:=E.sl;obtain⟨v,h1,h2⟩:=h i _ e;generalize fps i=fp at h2;cases h2 with
 |sh r=>exact⟨v,h1,r⟩
theorem EnvRel.own (E:EnvRel Γ K H₀ G H ρ σ) (i:ak) (ds:ac D) (e:ρ[i]?=aa (aa (.own ds))):∃a vs,σ[i]?=aa (aa (.ref a))/\H₀ a=af/\G a=af/\H a=aa (.lst vs)/\Reps Γ K G vs ds:=by
 obtain⟨fps,h,_⟩:=E.sl;obtain⟨v,h1,h2⟩:=h i _ e;generalize fps i=fp at h2;cases h2 with
 |own q1 q2 q3 q4=>exact⟨_,_,h1,q1,q2,q3,q4⟩
theorem At.gh (A:At Γ K G₀ H₀ G H ρ σ):aQ G H:=A.st.gh
theorem At.step (A:At Γ K G₀ H₀ G H ρ σ) (s:Step G H G' H'):At Γ K G₀ H₀ G' H' ρ σ:=by
 obtain⟨fps,h,ap⟩:=A.env.sl;exact⟨A.st.trans s,A.env.len,fps,fun i t e=>by obtain⟨v,h1,h2⟩:=h i t e;exact⟨v,h1,h2.stepS s⟩,ap⟩
theorem At.put (A:At Γ K G₀ H₀ G H ρ σ) {s':Slot} {v':V} 
  (hfp:fp=[]\/∃s v,ρ[i]?=aa (aa s)/\σ[i]?=aa (aa v)/\SR Γ K H₀ G H s v fp)
  (hH:∀b o,H b=aa o->b∉fp->H' b=aa o) (hS:SR Γ K H₀ G' H' s' v' fp') (hn:∀b∈fp',b∈fp\/H b=af)
  (gg:aQ G G') (gh:aQ G' H') (out:∀b o,H b=aa o->b∉fp->kyT o=ar->G' b=G b) (out2:∀b∈fp,H₀ b=af):At Γ K G₀ H₀ G' H' (ρ.set i (aa s')) (σ.set i (aa v')):=by
 obtain⟨fps,h,ap⟩:=A.env.sl;have hl:=A.env.len;have old:∀b∈fp,∀j t,j≠i->ρ[j]?=aa (aa t)->b∉fps j:=fun b hb j t hj e=>by
  rcases hfp with rfl|⟨s,v,h1,h2,h3⟩
  .cases hb
  .obtain⟨v2,h4,h5⟩:=h i s h1;rw[h2] at h4;cases h4;have efp:fp=fps i:=h3.uniq h5;subst efp;exact ap i j s t (cH hj) h1 e b hb
 have slj:∀(j:ak) t,j≠i->ρ[j]?=aa (aa t)->∃v,σ[j]?=aa (aa v)/\SR Γ K H₀ G' H' t v (fps j):=fun j t hj e=>by
  obtain⟨v,h1,h2⟩:=h j t e;refine⟨v,h1,h2.stay gg (fun b hb=>?_) (fun b hb=>?_)⟩
  .obtain⟨_,q2,o,q3,q4⟩:=h2.fpt b hb;exact(out b o q3 (fun z=>old b z j t hj e hb) q4).trans q2
  .obtain⟨_,_,o,q3,_⟩:=h2.fpt b hb;rw[q3];exact hH b o q3 fun z=>old b z j t hj e hb
 have no2:∀b o,H₀ b=aa o->b∉fp:=fun b o e z=>by rw[out2 b z] at e;cases e
 have hst:Step G₀ H₀ G' H':=⟨fun b o e=>hH b o (A.st.hh b o e) (no2 b o e),A.st.gg.trans gg,gh,fun b o e k=>(out b o (A.st.hh b o e) (no2 b o e) k).trans (A.st.out b o e k)⟩;refine⟨hst,by simp[hl],fun j=>if j=i then fp' else fps j,fun j t e=>?_,fun j k t u hjk e1 e2 b hb=>?_⟩
 .by_cases hj:j=i
  .subst hj;have hlt:j < ρ.length:=by
    rcases mM j ρ.length with q|q
    .exact q
    .rw[y9 (by simp;omega)] at e;cases e
   rw[nR hlt] at e;cases e;show ∃v,_/\SR _ _ _ _ _ _ v (if j=j then fp' else fps j);rw[qY rfl];exact⟨v',by rw[nR .(b)],hS⟩
  .rw[qz (cH hj)] at e ⊢;show ∃v,_/\SR _ _ _ _ _ _ v (if j=i then fp' else fps j);rw[qZ hj];exact slj j t hj e
 .have cross:∀{k:ak} {u:Slot},k≠i->ρ[k]?=aa (aa u)->∀b∈fp',b∉fps k:=fun {k u} hk e b hb hb2=>by
   rcases hn b hb with z|z
   .exact old b z k u hk e hb2
   .obtain⟨v,_,q⟩:=h k u e;obtain⟨_,_,o,q3,_⟩:=q.fpt b hb2;rw[z] at q3;cases q3
  replace hb:b∈(if j=i then fp' else fps j):=hb
  show b∉(if k=i then fp' else fps k);by_cases hj:j=i
  .subst hj;have hk:k≠j:=cH hjk;rw[qY rfl] at hb;rw[qZ hk];rw[qz hjk] at e2;exact cross hk e2 b hb
  .rw[qZ hj] at hb;rw[qz (cH hj)] at e1;by_cases hk:k=i
   .subst hk;rw[qY rfl];exact fun z=>cross hj e1 b z hb
   .rw[qZ hk];rw[qz (cH hk)] at e2;exact ap j k t u hjk e1 e2 b hb
theorem At.setSh (A:At Γ K G₀ H₀ G H ρ σ) (r:Rep Γ K G v d):At Γ K G₀ H₀ G H (ρ.set i (aa (.sh d))) (σ.set i (aa v)):=
 A.put (fp:=[]) (fp':=[]) (.inl rfl) (fun b o e _=>e) (.sh r) .(aX) (.refl _) A.gh .(ad) .(aX)
theorem At.setOwn (A:At Γ K G₀ H₀ G H ρ σ) (ha:H a=af) (r:Reps Γ K G vs ds):At Γ K G₀ H₀ G (upd H a (.lst vs)) (ρ.set i (aa (.own ds))) (σ.set i (aa (.ref a))):=by have h0:H₀ a=af:=A.st.hh.free ha;have hg:G a=af:=A.gh.free ha;refine A.put (fp:=[]) (fp':=[a]) (.inl rfl) (fun b o e _=>by rw[ay (bi e ha)];exact e) (.own h0 hg aV r) (fun b hb=>.inr (by rw[bD.mp hb];exact ha)) (.refl _) .(am) .(ad) .(aX);rw[ay (bi e hg)];exact A.gh b o e
theorem Ly {l:ac α} {x:α} (h:l[i]?=aa x):l.set i x=l:=by
 apply Tt;intro j;by_cases hj:j=i
 .subst hj;rw[nR (fJ.mp h).1,h]
 .rw[qz (cH hj)]
theorem At.ch (A:At Γ K G₀ H₀ G H ρ σ) {s s':Slot} (hi:ρ[i]?=aa (aa s)) (hv:σ[i]?=aa (aa v)) (hs:SR Γ K H₀ G H s v fp)
  (hH:∀b o,H b=aa o->b∉fp->H' b=aa o) (hS:SR Γ K H₀ G' H' s' v fp') (hn:∀b∈fp',b∈fp\/H b=af)
  (gg:aQ G G') (gh:aQ G' H') (out:∀b o,H b=aa o->b∉fp->kyT o=ar->G' b=G b):At Γ K G₀ H₀ G' H' (ρ.set i (aa s')) σ:=by
 have:=A.put (i:=i) (.inr ⟨s,v,hi,hv,hs⟩) hH hS hn gg gh out fun b hb=>(hs.fpt b hb).1
 rwa [Ly hv] at this
theorem At.get (A:At Γ K G₀ H₀ G H ρ σ) {s:Slot} (hi:ρ[i]?=aa (aa s)):∃v fp,σ[i]?=aa (aa v)/\SR Γ K H₀ G H s v fp:=by obtain⟨fps,h,_⟩:=A.env.sl;obtain⟨v,h1,h2⟩:=h i s hi;exact⟨v,_,h1,h2⟩
theorem At.chOwn (A:At Γ K G₀ H₀ G H ρ σ) {es:ac D} (hi:ρ[i]?=aa (aa (.own ds))) (ha:σ[i]?=aa (aa (.ref a))) (r:Reps Γ K G ws es):At Γ K G₀ H₀ G (upd H a (.lst ws)) (ρ.set i (aa (.own es))) σ:=by
 obtain⟨v,fp,h1,h2⟩:=A.get hi;rw[ha] at h1;cases h1;cases h2 with
 |own q1 q2 q3 q4=>
  refine A.ch hi ha (.own q1 q2 q3 q4) (fun b o e hb=>?_) (.own q1 q2 aV r) (fun b hb=>.inl hb) (.refl _) .(am) .(ad)
  .rw[ay (fun z=>hb (bD.mpr z))];exact e
  .rw[ay (bi e q2)];exact A.gh b o e
theorem At.freeze (A:At Γ K G₀ H₀ G H ρ σ) (hi:ρ[i]?=aa (aa (.own ds))):∃G',aQ G G'/\At Γ K G₀ H₀ G' H (ρ.set i (aa (.sh (.lst ds)))) σ:=by
 obtain⟨v,fp,h1,h2⟩:=A.get hi;cases h2 with
 |own q1 q2 q3 q4=>
  rename_i a vs;have sm:aQ G (upd G a (.lst vs)):=fun b o e=>by rw[ay (bi e q2)];exact e
  refine⟨upd G a (.lst vs),sm,A.ch hi h1 (.own q1 q2 q3 q4) (fun b o e hb=>e) (.sh (.lst aV (q4.mono sm))) .(aX) sm .(am) (fun b o e hb _=>?_)⟩
  .by_cases hb:b=a
   .subst hb;rw[aV] at e;cases e;exact q3
   .rw[ay hb] at e;exact A.gh b o e
  .rw[ay (fun z=>hb (bD.mpr z))]
mutual
inductive NewL (H G:Hp):V->D->Prop where
 |flat {v:V} {d:D}:fW d=ah->NewL H G v d
 |tup {a:au} {vs:ac V} {ds:ac D}:G a=aa (.tup vs)->NewLs H G vs ds->NewL H G (.ref a) (.tup ds)
 |lst {a:au} {vs:ac V} {ds:ac D}:G a=aa (.lst vs)->H a=af->NewLs H G vs ds->NewL H G (.ref a) (.lst ds)
inductive NewLs (H G:Hp):ac V->ac D->Prop where
 |nil:NewLs H G [] []
 |cons {v:V} {d:D} {vs:ac V} {ds:ac D}:NewL H G v d->NewLs H G vs ds->NewLs H G (v::vs) (d::ds)
end
inductive Fl where
 |nx|bk|ct|rt (d:D)|ow (ds:ac D)|nw (d:D)|od (kvs:ac (Key×D))
abbrev FE:=bA->aq D
abbrev FT:=bA->aq aN
abbrev FA:=bA->aq (ac D)
abbrev FS:=bA->aq (Fl×bA)
inductive TD (Γ:Cn) (K:aM) (f:FE) (σ:St) (H:Hp) (Q:VK):Prop where
 |mk:∀G₀ H₀ G ρ d,At Γ K G₀ H₀ G H ρ σ->f ρ=aa d->(∀v G' H',Step G H G' H'->Rep Γ K G' v d->Q v H')->TD Γ K f σ H Q
inductive TDt (Γ:Cn) (K:aM) (f:FT) (σ:St) (H:Hp) (Q:aN->Hp->Prop):Prop where
 |mk:∀G₀ H₀ G ρ b,At Γ K G₀ H₀ G H ρ σ->f ρ=aa b->(∀G' H',Step G H G' H'->Q b H')->TDt Γ K f σ H Q
inductive TDa (Γ:Cn) (K:aM) (f:FA) (σ:St) (H:Hp) (Q:ac V->Hp->Prop):Prop where
 |mk:∀G₀ H₀ G ρ ds,At Γ K G₀ H₀ G H ρ σ->f ρ=aa ds->(∀vs G' H',Step G H G' H'->Reps Γ K G' vs ds->Q vs H')->TDa Γ K f σ H Q
def Ma (Γ:Cn) (K:aM) (E:Ends) (H₀ G' H':Hp) (σ':St):Fl->Prop
 |.nx=>E.nx σ' H'
 |.bk=>E.bk σ' H'
 |.ct=>E.ct σ' H'
 |.rt d=>∀v,Rep Γ K G' v d->E.rt v H'
 |.ow ds=>∀p vs,H₀ p=af->G' p=af->H' p=aa (.lst vs)->Reps Γ K G' vs ds->E.rt (.ref p) H'
 |.nw d=>∀v,Rep Γ K G' v d->NewL H₀ G' v d->E.rt v H'
 |.od kvs=>∀p us,H₀ p=af->G' p=af->H' p=aa (.dK us)->us.map (·.1)=kvs.map (·.1)->Reps Γ K G' (us.map (·.2)) (kvs.map (·.2))->E.rt (.ref p) H'
inductive TDs (Γ:Cn) (K:aM) (g:FS) (E:Ends) (σ:St) (H:Hp):Prop where
 |mk:∀G₀ H₀ G ρ fl ρ',At Γ K G₀ H₀ G H ρ σ->g ρ=aa (fl,ρ')->(∀σ' G' H',aQ G G'->At Γ K G₀ H₀ G' H' ρ' σ'->Ma Γ K E H₀ G' H' σ' fl)->TDs Γ K g E σ H
inductive TDo (Γ:Cn) (K:aM) (f:FA) (σ:St) (H:Hp) (Q:VK):Prop where
 |mk:∀G₀ H₀ G ρ ds,At Γ K G₀ H₀ G H ρ σ->f ρ=aa ds->(∀p vs G' H',Step G H G' H'->H' p=af->Reps Γ K G' vs ds->Q (.ref p) (upd H' p (.lst vs)))->TDo Γ K f σ H Q
structure DE (Γ:Cn) (X:Cx) (e:Expr) (f:FE):Prop where
 out:PE X e (TD Γ X.K f)
structure DT (Γ:Cn) (X:Cx) (e:Expr) (f:FT):Prop where
 out:PT X e (TDt Γ X.K f)
structure DW (Γ:Cn) (X:Cx) (e:Expr) (f:FT):Prop where
 out:PW X e (TDt Γ X.K f)
structure DA (Γ:Cn) (X:Cx) (es:ac Expr) (f:FA):Prop where
 out:PA X es (TDa Γ X.K f)
structure DS (Γ:Cn) (X:Cx) (st:Stmt) (g:FS):Prop where
 out:PS X st (TDs Γ X.K g)
structure DSs (Γ:Cn) (X:Cx) (st:ac Stmt) (g:FS):Prop where
 out:PSs X st (TDs Γ X.K g)
structure DO (Γ:Cn) (X:Cx) (e:Expr) (f:FA):Prop where
 out:PE X e (TDo Γ X.K f)
variable {fa fb fc f:FE}
section
variable {a c:Expr}
theorem PE.imp {t t':TE} (h:PE X e t) (i:∀σ H Q,t' σ H Q->t σ H Q):PE X e t':=fun pins s σ H Q I q=>h pins s σ H Q I (i _ _ _ q)
theorem PT.imp {t t':TT} (h:PT X e t) (i:∀σ H Q,t' σ H Q->t σ H Q):PT X e t':=fun pins s σ H Q I q=>h pins s σ H Q I (i _ _ _ q)
theorem PW.imp {t t':TT} (h:PW X e t) (i:∀σ H Q,t' σ H Q->t σ H Q):PW X e t':=fun wh pins s σ H Q I q=>h wh pins s σ H Q I (i _ _ _ q)
theorem PA.imp {t t':TA} (h:PA X es t) (i:∀σ H Q,t' σ H Q->t σ H Q):PA X es t':=fun p pins s σ H Q I q=>h p pins s σ H Q I (i _ _ _ q)
theorem PS.imp {t t':TS} (h:PS X st t) (i:∀E σ H,t' E σ H->t E σ H):PS X st t':=fun pins s σ H E I q=>h pins s σ H E I (i _ _ _ q)
theorem PSs.imp {st:ac Stmt} {t t':TS} (h:PSs X st t) (i:∀E σ H,t' E σ H->t E σ H):PSs X st t':=fun pins s σ H E I q=>h pins s σ H E I (i _ _ _ q)
noncomputable def vSh (i:ak):FE:=fun ρ=>match ρ[i]? with
 |some (aa (.sh d))=>aa d
 |_=>af
theorem LC (h:vSh i ρ=aa d):ρ[i]?=aa (aa (.sh d)):=by
 unfold vSh at h;split at h
 .rename_i e;cases h;exact e
 .cases h
theorem bG (i:ak) (hN:X.N[i]?=aa x:=by rfl) (hv:Vis X.env.scope x:=by ac_nf) (hd:.(o)=ar:=by decide)
  (hcd:.(C)=ar:=by decide):DE Γ X (.Name x pos) (vSh i):=⟨.(aB).imp fun σ H Q ⟨G₀,H₀,G,ρ,d,A,h,k⟩=>by
 obtain⟨v,h1,h2⟩:=A.env.sh i d (LC h);exact⟨v,h1,k v G H (.refl A.gh) h2⟩⟩
noncomputable def vC (d:D):FE:=fun _=>aa d
theorem TD.const (r:∀G,Rep Γ X.K G v d) (h:PE X e (tC v)):DE Γ X e (vC d):=⟨h.imp fun σ H Q ⟨G₀,H₀,G,ρ,d',A,h,k⟩=>by cases h;exact k v G H (.refl A.gh) (r G)⟩
theorem sA {i j}:DE Γ X (.Constant (.int i) j pos) (vC (.int i)):=TD.const (fun _=>.int i) nG
theorem L6 {i j}:DE Γ X (.Constant (.bool i) j pos) (vC (.bl i)):=TD.const (fun _=>.bl i) MI
theorem vI {j}:DE Γ X (.Constant .none j pos) (vC .non):=TD.const (fun _=>.non) B1
theorem mW {i j}:DE Γ X (.Constant (.str i) j pos) (vC (.str i)):=TD.const (fun _=>.str i) Sv
theorem L3 {i:aj} {t:Tok} (hg:Gl X x) (hm:X.mg x=aa (.int i t)) (hd:.(o)=ar:=by decide):DE Γ X (.Name x pos) (vC (.int i)):=TD.const (fun _=>.int i) (NF hg hm ⟨t,rfl⟩ hd)
noncomputable def b2 (g:D->D->aq D) (fa fb:FE):FE:=fun ρ=>(fa ρ).bind fun x=>(fb ρ).bind fun y=>g x y
noncomputable def b1 (g:D->aq D) (fa:FE):FE:=fun ρ=>(fa ρ).bind g
noncomputable def fB (Γ:Cn) (K:aM) (g:D->D->aq D) (r:R2):Prop:=
 ∀{G H v u x y z},aQ G H->Rep Γ K G v x->Rep Γ K G u y->g x y=aa z->∀Q:VK,(∀w G' H',Step G H G' H'->Rep Γ K G' w z->Q w H')->r v u H Q
theorem TD.two {g:D->D->aq D} {r:R2} (hr:fB Γ X.K g r):∀σ H Q,TD Γ X.K (b2 g fa fb) σ H Q->tOp r (TD Γ X.K fa) (TD Γ X.K fb) σ H Q:=by
 rintro σ H Q ⟨G₀,H₀,G,ρ,d,A,h,k⟩;unfold b2 at h;cases ha:fa ρ with
 |none=>rw[ha] at h;cases h
 |some x=>
  cases hb:fb ρ with
  |none=>rw[ha] at h;simp only[qc,hb,Option.bind_none] at h;cases h
  |some y=>
   simp only[ha,hb,qc] at h;refine⟨G₀,H₀,G,ρ,x,A,ha,fun v G1 H1 s1 r1=>⟨G₀,H₀,G1,ρ,y,A.step s1,hb,fun u G2 H2 s2 r2=>?_⟩⟩;exact hr s2.gh (r1.mono s2.gg) r2 h Q fun w G' H' s r=>k w G' H' ((s1.trans s2).trans s) r
theorem lW {op:Operator} {g:D->D->aq D} {r:R2} (ho:OpR X (gc op) r) (hr:fB Γ X.K g r) (ha:DE Γ X a fa) (hb:DE Γ X b fb):DE Γ X (.BinOp a op b pos) (b2 g fa fb):=⟨(LQ ho ha.1 hb.1).imp (TD.two hr)⟩
noncomputable def aW:D->D->aq D
 |.int i,.int j=>aa (.int (i+j))
 |.str x,.str y=>if x.length+y.length<=aJ then aa (.str (x++y)) else af
 |.lst x,.lst y=>if x.length+y.length<=aJ then aa (.lst (x++y)) else af
 |_,_=>af
noncomputable def kP:D->D->aq D
 |.int i,.int j=>aa (.int (i-j))
 |_,_=>af
noncomputable def iN (x:ai) (n:ak):ai:=⟨(bJ n x.cps.toList).flatten.toArray⟩
noncomputable def cR:D->D->aq D
 |.int i,.int j=>if (-(2 ^ 64)<i/\i<2 ^ 64)\/(-(2 ^ 64)<j/\j<2 ^ 64) then aa (.int (i*j)) else af
 |.lst x,.int j=>if -(2 ^ 63)<=j/\j<2 ^ 63/\x.length*j.toNat<=aJ then aa (.lst (bJ j.toNat x).flatten) else af
 |.str x,.int j=>if 0<=j/\j<1000/\x.length<1000 then aa (.str (iN x j.toNat)) else af
 |_,_=>af
noncomputable def jN:D->D->aq D
 |.int i,.int j=>if 0<j/\j<1073741824 then aa (.int (i / j)) else af
 |_,_=>af
noncomputable def er:D->D->aq D
 |.int i,.int j=>if 0<j then aa (.int (i%j)) else af
 |_,_=>af
noncomputable def jW:D->D->aq D
 |.int i,.int j=>if 0<=j/\j<=1000000/\i.natAbs<2 ^ 64 then aa (.int (i ^ j.toNat)) else af
 |_,_=>af
theorem Rep.int_inv {i:aj} (r:Rep Γ K G v (.int i)):v=.int i:=by cases r;rfl
theorem Rep.str_inv {i:ai} (r:Rep Γ K G v (.str i)):v=.str i:=by cases r;rfl
theorem Rep.bl_inv {i:aN} (r:Rep Γ K G v (.bl i)):v=.bl i:=by cases r;rfl
theorem Rep.lst_inv (r:Rep Γ K G v (.lst ds)):∃a vs,v=.ref a/\G a=aa (.lst vs)/\Reps Γ K G vs ds:=by cases r;exact⟨_,_,rfl,by assumption,by assumption⟩
theorem Rep.tup_inv (r:Rep Γ K G v (.tup ds)):∃a vs,v=.ref a/\G a=aa (.tup vs)/\Reps Γ K G vs ds:=by cases r;exact⟨_,_,rfl,by assumption,by assumption⟩
theorem Rep.scr_inv {ns:ac aj} (r:Rep Γ K G v (.scr ns)):∃a,v=.ref a/\SqL K G a .(bm):=by cases r;exact⟨_,rfl,by assumption⟩
theorem gO {Q:VK} (gh:aQ G H) (r:Reps Γ K G vs ds) (k:∀w G' H',Step G H G' H'->Rep Γ K G' w (.lst ds)->Q w H'):∀p,H p=af->Q (.ref p) (upd H p (.lst vs)):=fun p hp=>by have s:=Step.new (o:=.lst vs) gh hp;exact k _ _ _ s (.lst aV (r.mono s.gg))
theorem sK {Q:VK} (gh:aQ G H) (r:Reps Γ K G vs ds) (k:∀w G' H',Step G H G' H'->Rep Γ K G' w (.tup ds)->Q w H'):∀p,H p=af->Q (.ref p) (upd H p (.tup vs)):=fun p hp=>by have s:=Step.new (o:=.tup vs) gh hp;exact k _ _ _ s (.tup aV (r.mono s.gg))
theorem G7 :fB Γ K aW (fun x y H Q=>(rI0 (fun i j=>V.int (i+j)) x y H Q\/(∃i j,x=.str i/\y=.str j/\i.length+j.length<=aJ/\Q (.str (i++j)) H))\/wq x y H Q):=by
 intro G H v u x y z gh r1 r2 h Q k;unfold aW at h;split at h
 .cases h;cases r1.int_inv;cases r2.int_inv;exact .inl (.inl ⟨_,_,rfl,rfl,k _ G H .(aD) (.int _)⟩)
 .split at h
  .cases h;cases r1.str_inv;cases r2.str_inv;exact .inl (.inr ⟨_,_,rfl,rfl,by assumption,k _ G H .(aD) (.str _)⟩)
  .cases h
 .split at h
  .rename_i hz;cases h;obtain⟨a,vs,rfl,ha,ra⟩:=r1.lst_inv;obtain⟨b,us,rfl,hb,rb⟩:=r2.lst_inv;exact .inr ⟨a,b,vs,us,rfl,rfl,gh _ _ ha,gh _ _ hb,by rw[ra.length,rb.length];exact hz,gO gh (ra.append rb) k⟩
  .cases h
 .cases h
theorem Lz:OpR X (gc .Add) (fun x y H Q=>(rI0 (fun i j=>V.int (i+j)) x y H Q\/(∃i j,x=.str i/\y=.str j/\i.length+j.length<=aJ/\Q (.str (i++j)) H))\/wq x y H Q):=(Iq.or QQ).or Oq
theorem JB (ha:DE Γ X a fa) (hb:DE Γ X b fb):DE Γ X (.BinOp a .Add b pos) (b2 aW fa fb):=lW Lz G7 ha hb
theorem Jf {g:D->D->aq D} {o:aj->aj->aj} (hg:∀x y z,g x y=aa z->∃i j,x=.int i/\y=.int j/\z=.int (o i j)):fB Γ K g (rI0 fun i j=>V.int (o i j)):=by intro G H v u x y z gh r1 r2 h Q k;obtain⟨i,j,rfl,rfl,rfl⟩:=hg x y z h;cases r1.int_inv;cases r2.int_inv;exact⟨_,_,rfl,rfl,k _ G H .(aD) (.int _)⟩
theorem yb {g:D->D->aq D} {C:aj->aj->Prop} {o:aj->aj->aj} (hg:∀x y z,g x y=aa z->∃i j,x=.int i/\y=.int j/\C i j/\z=.int (o i j)):fB Γ K g (rI C fun i j=>V.int (o i j)):=by intro G H v u x y z gh r1 r2 h Q k;obtain⟨i,j,rfl,rfl,hc,rfl⟩:=hg x y z h;cases r1.int_inv;cases r2.int_inv;exact⟨_,_,rfl,rfl,hc,k _ G H .(aD) (.int _)⟩
theorem B5 (ha:DE Γ X a fa) (hb:DE Γ X b fb):DE Γ X (.BinOp a .Sub b pos) (b2 kP fa fb):=lW IN (Jf fun x y z h=>by unfold kP at h;split at h<;>cases h;exact⟨_,_,rfl,rfl,rfl⟩) ha hb
theorem O3 (ha:DE Γ X a fa) (hb:DE Γ X b fb):DE Γ X (.BinOp a .FloorDiv b pos) (b2 jN fa fb):=lW KH (yb fun x y z h=>by
 unfold jN at h;split at h
 .split at h<;>cases h;exact⟨_,_,rfl,rfl,by assumption,rfl⟩
 .cases h) ha hb
theorem Iu (ha:DE Γ X a fa) (hb:DE Γ X b fb):DE Γ X (.BinOp a .Mod b pos) (b2 er fa fb):=lW Oa (yb fun x y z h=>by
 unfold er at h;split at h
 .split at h<;>cases h;exact⟨_,_,rfl,rfl,by assumption,rfl⟩
 .cases h) ha hb
theorem QS (ha:DE Γ X a fa) (hb:DE Γ X b fb):DE Γ X (.BinOp a .Pow b pos) (b2 jW fa fb):=lW Ki (yb fun x y z h=>by
 unfold jW at h;split at h
 .split at h<;>cases h;exact⟨_,_,rfl,rfl,by assumption,rfl⟩
 .cases h) ha hb
theorem z5 (a:bI ak):∀(k:ak) (acc:ac ak),(bJ k a).foldl (·++·) acc.toArray=(acc++(bJ k a.toList).flatten).toArray
 |0,acc=>by simp
 |k+1,acc=>by
  rw[lr,fL,lr,n6,←pV,←z5 a k (acc++a.toList)]
  congr 1
  simp
def EJ:R2:=fun x y H Q=>∃z n,x=.str z/\y=.int n/\0<=n/\n<1000/\z.length<1000/\Q (.str (iN z n.toNat)) H
theorem JQ:OpR X (gc .Mult) EJ:=by
 intro pins s σ H x y v u Q I rx ry h;obtain⟨z,n,rfl,rfl,h0,h1,h2,q⟩:=h;obtain⟨t,rfl⟩:=rx;obtain⟨t',rfl⟩:=ry;have hl:z.length*n.toNat<=1000000:=qO (za (pL h2) (show n.toNat<=1000 by omega)) .(c);have e0:(bJ n.toNat z.cps).foldl (·++·) #[]=(iN z n.toNat).cps:=by have:=z5 z.cps n.toNat [];simpa[iN] using this
 refine PySem.P.mul_str ?_ (fun h _=>?_) (fun _ _=>?_) ?_
 .rw[qP .(b),qP .(b)];rfl
 .have e:(z.length:aj)*n=((z.length*n.toNat:ak):aj):=by rw[Int.natCast_mul];congr 1;omega
  have:(z.length:aj)<=(2 ^ 63-1:aj) / n:=Int.le_ediv_of_mul_le .(b) (by rw[e];omega);omega
 .unfold Vi;exact qP (by have:=eV;omega)
 .split
  .have:n=0:=by omega
   subst this;exact⟨by decide,⟨.str _,H,I.tok _,⟨_,rfl⟩,by simpa[iN,uL] using q⟩⟩
  .split
   .rename_i hc;have ez:iN z n.toNat=z:=by
     rcases F3 _ _▸hc with e|e
     .have:n=1:=by simpa using e
      subst this;simp[iN]
     .have hz:z.cps=#[]:=by
       have:z.cps.size=0:=by simpa[pU] using e
       exact Array.eq_empty_of_size_eq_zero this
      cases z;simp only at hz;subst hz;simp[iN]
    exact⟨.str _,H,I,⟨_,rfl⟩,by rw[←ez];exact q⟩
   .rw[e0];refine⟨?_,⟨.str _,H,I.tok _,⟨_,rfl⟩,q⟩⟩;have e1:(iN z n.toNat).length=n.toNat*z.length:=by show(bJ n.toNat z.cps.toList).flatten.toArray.size=_;rw[qC,Dy];simp[pU]
    show(iN z n.toNat).length<=aJ;rw[e1,Tc];have:=eV;omega
theorem OO :fB Γ K cR (fun x y H Q=>(rI uu (fun i j=>V.int (i*j)) x y H Q\/Ek x y H Q)\/EJ x y H Q):=by
 intro G H v u x y z gh r1 r2 h Q k;unfold cR at h;split at h
 .split at h
  .cases h;cases r1.int_inv;cases r2.int_inv;exact .inl (.inl ⟨_,_,rfl,rfl,by assumption,k _ G H .(aD) (.int _)⟩)
  .cases h
 .split at h
  .rename_i hz;cases h;obtain⟨a,vs,rfl,ha,ra⟩:=r1.lst_inv;cases r2.int_inv;exact .inl (.inr ⟨a,_,vs,rfl,rfl,gh _ _ ha,hz.1,hz.2.1,by rw[ra.length];exact hz.2.2,gO gh (ra.rep _) k⟩)
  .cases h
 .split at h
  .rename_i hz;cases h;cases r1.str_inv;cases r2.int_inv;exact .inr ⟨_,_,rfl,rfl,hz.1,hz.2.1,hz.2.2,k _ G H .(aD) (.str _)⟩
  .cases h
 .cases h
theorem Jv (ha:DE Γ X a fa) (hb:DE Γ X b fb):DE Γ X (.BinOp a .Mult b pos) (b2 cR fa fb):=lW ((OD.or Q8).or JQ) OO ha hb
end
variable {ft gt:FT} {fr:FA}
section
variable {a c:Expr}
theorem Rep.non_inv (r:Rep Γ K G v .non):v=.non:=by cases r;rfl
noncomputable def ltS (x y:ai):aN:=decide (x.cps.toList<y.cps.toList)
def ltD:D->D->aq D
 |.int i,.int j=>aa (.bl (decide (i<j)))
 |.str x,.str y=>aa (.bl (ltS x y))
 |_,_=>af
def leD:D->D->aq D
 |.int i,.int j=>aa (.bl (decide (i<=j)))
 |.str x,.str y=>aa (.bl (!ltS y x))
 |_,_=>af
noncomputable def gtD:D->D->aq D
 |.int i,.int j=>aa (.bl (decide (j<i)))
 |_,_=>af
noncomputable def geD:D->D->aq D
 |.int i,.int j=>aa (.bl (decide (j<=i)))
 |_,_=>af
noncomputable def eqS:D->D->aq aN
 |.int i,.int j=>aa (decide (i=j))
 |.bl i,.bl j=>aa (decide (i=j))
 |.str i,.str j=>aa (decide (i=j))
 |.non,.non=>aa ah
 |.non,.int _=>aa ar|.int _,.non=>aa ar|.non,.bl _=>aa ar|.bl _,.non=>aa ar|.non,.str _=>aa ar|.str _,.non=>aa ar
 |.int _,.str _=>aa ar|.str _,.int _=>aa ar|.bl _,.str _=>aa ar|.str _,.bl _=>aa ar
 |_,_=>af
def eqD (x y:D):aq D:=(eqS x y).map D.bl
def neD (x y:D):aq D:=(eqS x y).map fun b=>D.bl (!b)
theorem Bu {u:V} {x y:D} {k:aN} (r1:Rep Γ K G v x) (r2:Rep Γ K G u y) (h:eqS x y=aa k):yp v u=ah/\decide (v=u)=k:=by
 unfold eqS at h;split at h<;>cases h
 .cases r1.int_inv;cases r2.int_inv;exact⟨rfl,by simp⟩
 .cases r1.bl_inv;cases r2.bl_inv;exact⟨rfl,by simp⟩
 .cases r1.str_inv;cases r2.str_inv;exact⟨rfl,by simp⟩
 .cases r1.non_inv;cases r2.non_inv;exact⟨rfl,by simp⟩
 .cases r1.non_inv;cases r2.int_inv;exact⟨rfl,by simp⟩
 .cases r1.int_inv;cases r2.non_inv;exact⟨rfl,by simp⟩
 .cases r1.non_inv;cases r2.bl_inv;exact⟨rfl,by simp⟩
 .cases r1.bl_inv;cases r2.non_inv;exact⟨rfl,by simp⟩
 .cases r1.non_inv;cases r2.str_inv;exact⟨rfl,by simp⟩
 .cases r1.str_inv;cases r2.non_inv;exact⟨rfl,by simp⟩
 .cases r1.int_inv;cases r2.str_inv;exact⟨rfl,by simp⟩
 .cases r1.str_inv;cases r2.int_inv;exact⟨rfl,by simp⟩
 .cases r1.bl_inv;cases r2.str_inv;exact⟨rfl,by simp⟩
 .cases r1.str_inv;cases r2.bl_inv;exact⟨rfl,by simp⟩
theorem J5 :fB Γ K eqD rEq:=by
 intro G H v u x y z gh r1 r2 h Q k;unfold eqD at h;cases e:eqS x y with
 |none=>rw[e] at h;cases h
 |some b=>
  rw[e] at h;cases h;obtain⟨h1,h2⟩:=Bu r1 r2 e;exact⟨h1,by rw[h2];exact k _ G H .(aD) (.bl _)⟩
theorem MG :fB Γ K neD rNe:=by
 intro G H v u x y z gh r1 r2 h Q k;unfold neD at h;cases e:eqS x y with
 |none=>rw[e] at h;cases h
 |some b=>
  rw[e] at h;cases h;obtain⟨h1,h2⟩:=Bu r1 r2 e;exact⟨h1,by rw[h2];exact k _ G H .(aD) (.bl _)⟩
theorem B4 {g:D->D->aq D} {o:aj->aj->aN} (hg:∀x y z,g x y=aa z->∃i j,x=.int i/\y=.int j/\z=.bl (o i j)):fB Γ K g (rI0 fun i j=>V.bl (o i j)):=by intro G H v u x y z gh r1 r2 h Q k;obtain⟨i,j,rfl,rfl,rfl⟩:=hg x y z h;cases r1.int_inv;cases r2.int_inv;exact⟨_,_,rfl,rfl,k _ G H .(aD) (.bl _)⟩
theorem PF:OpR X (di .LtE) (fun x y H Q=>∃i j,x=.str i/\y=.str j/\Q (.bl (!ltS j i)) H):=by intro pins s σ H x y v u Q I rx ry h;obtain⟨i,j,rfl,rfl,q⟩:=h;obtain⟨t,rfl⟩:=rx;obtain⟨t',rfl⟩:=ry;exact PySem.P.le_str (cD I q (by simp[ltS]))
theorem OI :fB Γ K ltD (fun x y H Q=>rI0 (fun i j=>V.bl (decide (i<j))) x y H Q\/∃i j,x=.str i/\y=.str j/\Q (.bl (decide (i.cps.toList<j.cps.toList))) H):=by
 intro G H v u x y z gh r1 r2 h Q k;unfold ltD at h;split at h<;>cases h
 .cases r1.int_inv;cases r2.int_inv;exact .inl ⟨_,_,rfl,rfl,k _ G H .(aD) (.bl _)⟩
 .cases r1.str_inv;cases r2.str_inv;exact .inr ⟨_,_,rfl,rfl,k _ G H .(aD) (.bl _)⟩
theorem Rb :fB Γ K leD (fun x y H Q=>rI0 (fun i j=>V.bl (decide (i<=j))) x y H Q\/∃i j,x=.str i/\y=.str j/\Q (.bl (!ltS j i)) H):=by
 intro G H v u x y z gh r1 r2 h Q k;unfold leD at h;split at h<;>cases h
 .cases r1.int_inv;cases r2.int_inv;exact .inl ⟨_,_,rfl,rfl,k _ G H .(aD) (.bl _)⟩
 .cases r1.str_inv;cases r2.str_inv;exact .inr ⟨_,_,rfl,rfl,k _ G H .(aD) (.bl _)⟩
structure CmpD (Γ:Cn) (X:Cx) (op:CmpOp) (g:D->D->aq D):Prop where
 ex:∃r,OpR X (di op) r/\fB Γ X.K g r
theorem Dq:CmpD Γ X .Lt ltD:=⟨_,RP.or OJ,OI⟩
theorem nD:CmpD Γ X .LtE leD:=⟨_,Sz.or PF,Rb⟩
theorem A9:CmpD Γ X .Gt gtD:=⟨_,Mo,B4 fun x y z h=>by unfold gtD at h;split at h<;>cases h;exact⟨_,_,rfl,rfl,rfl⟩⟩
theorem Ad:CmpD Γ X .GtE geD:=⟨_,OT,B4 fun x y z h=>by unfold geD at h;split at h<;>cases h;exact⟨_,_,rfl,rfl,rfl⟩⟩
theorem sV:CmpD Γ X .Eq eqD:=⟨_,Ng,J5⟩
theorem xp:CmpD Γ X .NotEq neD:=⟨_,MV,MG⟩
theorem vF {g:D->D->aq D} (h:CmpD Γ X op g) (ha:DE Γ X a fa) (hb:DE Γ X b fb) (hm:pQ op b=ar):DE Γ X (.Compare a [op] [b] pos) (b2 g fa fb):=⟨by obtain⟨r,ho,hr⟩:=h.ex;exact(Q0 ho ha.1 hb.1 hm).imp (TD.two hr)⟩
noncomputable def chD (g g':D->D->aq D) (fa fb fc:FE):FE:=fun ρ=>(fa ρ).bind fun x=>(fb ρ).bind fun y=>(g x y).bind fun z=>match z with
 |.bl ah=>(fc ρ).bind fun w=>g' y w
 |.bl ar=>aa (.bl ar)
 |_=>af
theorem TD.chain {g g':D->D->aq D} {r:R2} (hr:fB Γ X.K g r) (hr':fB Γ X.K g' r'):∀σ H Q,TD Γ X.K (chD g g' fa fb fc) σ H Q->xf r r' (TD Γ X.K fa) (TD Γ X.K fb) (TD Γ X.K fc) σ H Q:=by
 rintro σ H Q ⟨G₀,H₀,G,ρ,d,A,h,k⟩;unfold chD at h;obtain⟨x,ha,h⟩:=oBd h;obtain⟨y,hb,h⟩:=oBd h;obtain⟨z,hz,h⟩:=oBd h;refine⟨G₀,H₀,G,ρ,x,A,ha,fun v G1 H1 s1 r1=>⟨G₀,H₀,G1,ρ,y,A.step s1,hb,fun u G2 H2 s2 r2=>?_⟩⟩;refine hr s2.gh (r1.mono s2.gg) r2 hz _ fun w G3 H3 s3 r3=>?_;split at h
 .cases r3.bl_inv;obtain⟨w,hc,h⟩:=oBd h;refine⟨ah,rfl,jM ⟨G₀,H₀,G3,ρ,w,((A.step s1).step s2).step s3,hc,fun q G4 H4 s4 r4=>?_⟩⟩;exact hr' s4.gh ((r2.mono s3.gg).mono s4.gg) r4 h Q fun w' G' H' s r=>k w' G' H' ((((s1.trans s2).trans s3).trans s4).trans s) r
 .cases r3.bl_inv;cases h;exact⟨ar,rfl,jy (k _ G3 H3 ((s1.trans s2).trans s3) (.bl _))⟩
 .cases h
theorem ON {g g':D->D->aq D} (h:CmpD Γ X op g) (h':CmpD Γ X op' g') (ha:DE Γ X a fa) (hb:DE Γ X b fb) (hc:DE Γ X c fc) (hm:yJ [op,op'] [b,c]=ar:=by with_unfolding_all rfl) :
  DE Γ X (.Compare a [op,op'] [b,c] pos) (chD g g' fa fb fc):=⟨by
 obtain⟨r,ho,hr⟩:=h.ex;obtain⟨r',ho',hr'⟩:=h'.ex;exact(KN ho ho' ha.1 hb.1 hc.1 hm).imp (TD.chain hr hr')⟩
noncomputable def toB (f:FE):FT:=fun ρ=>(f ρ).bind fun d=>match d with
 |.bl b=>aa b
 |_=>af
theorem TDt.val :∀σ H Q,TDt Γ X.K (toB f) σ H Q->TD Γ X.K f σ H fun x H'=>∃k,x=.bl k/\Q k H':=by rintro σ H Q ⟨G₀,H₀,G,ρ,b,A,h,k⟩;unfold toB at h;obtain⟨d,hd,h⟩:=oBd h;split at h<;>cases h;exact⟨G₀,H₀,G,ρ,_,A,hd,fun v G' H' s r=>⟨b,r.bl_inv,k G' H' s⟩⟩
theorem iQ {g:D->D->aq D} (h:CmpD Γ X op g) (ha:DE Γ X a fa) (hb:DE Γ X b fb) (hm:pQ op b=ar):DT Γ X (.Compare a [op] [b] pos) (toB (b2 g fa fb)):=⟨by obtain⟨r,ho,hr⟩:=h.ex;exact(Qx ho ha.1 hb.1 hm).imp fun σ H Q q=>TD.two hr σ H _ (TDt.val σ H Q q)⟩
theorem Sl {g g':D->D->aq D} (h:CmpD Γ X op g) (h':CmpD Γ X op' g') (ha:DE Γ X a fa) (hb:DE Γ X b fb) (hc:DE Γ X c fc) (hm:yJ [op,op'] [b,c]=ar:=by with_unfolding_all rfl) :
  DT Γ X (.Compare a [op,op'] [b,c] pos) (toB (chD g g' fa fb fc)):=⟨by
 obtain⟨r,ho,hr⟩:=h.ex;obtain⟨r',ho',hr'⟩:=h'.ex;exact(QZ ho ho' ha.1 hb.1 hc.1 hm).imp fun σ H Q q=>TD.chain hr hr' σ H _ (TDt.val σ H Q q)⟩
theorem gB (h:DE Γ X e f) (he:∀whole,isTrue e X.env whole=(do let v ←whole;jh e.pos;fm [v] (truthy v)):=by intro _;rfl):DT Γ X e (toB f):=⟨(JS h.1 he).imp TDt.val⟩
noncomputable def bh (f:FT):FT:=fun ρ=>(f ρ).map (!·)
noncomputable def lD (f g:FT):FT:=fun ρ=>(f ρ).bind fun b=>if b=ah then g ρ else aa ar
noncomputable def orT (f g:FT):FT:=fun ρ=>(f ρ).bind fun b=>if b=ah then aa ah else g ρ
variable {bL:ac Expr}
theorem DW.dt (h:DW Γ X e ft):DT Γ X e ft:=⟨h.1.pt⟩
theorem gk (h:DT Γ X a ft):DT Γ X (.UnaryOp .Not a pos) (bh ft):=⟨(OP h.1).imp fun σ H Q=>by rintro⟨G₀,H₀,G,ρ,b,A,h,k⟩;unfold bh at h;obtain⟨c,hc,h⟩:=oMd h;exact⟨G₀,H₀,G,ρ,c,A,hc,fun G' H' s=>by show Q (!c) H';rw[h];exact k G' H' s⟩⟩
theorem xM (h:DT Γ X a ft):DW Γ X (.BoolOp .And [a] pos) ft:=⟨Lb h.1⟩
theorem gC (h:DT Γ X a ft):DW Γ X (.BoolOp .Or [a] pos) ft:=⟨Je h.1⟩
theorem yh (h:DT Γ X a ft) (h':DW Γ X (.BoolOp .And (b::bL) pos) gt):DW Γ X (.BoolOp .And (a::b::bL) pos) (lD ft gt):=⟨(NT h.1 h'.1).imp fun σ H Q=>by
 rintro⟨G₀,H₀,G,ρ,r,A,h,k⟩;unfold lD at h;obtain⟨c,hc,h⟩:=oBd h;refine⟨G₀,H₀,G,ρ,c,A,hc,fun G1 H1 s1=>?_⟩;cases c with
 |true=>exact jM ⟨G₀,H₀,G1,ρ,r,A.step s1,by simpa using h,fun G' H' s=>k G' H' (s1.trans s)⟩
 |false=>
  rw[qZ qt] at h;cases h;exact jy (k _ _ s1)⟩
theorem gq (h:DT Γ X a ft) (h':DW Γ X (.BoolOp .Or (b::bL) pos) gt):DW Γ X (.BoolOp .Or (a::b::bL) pos) (orT ft gt):=⟨(Rz h.1 h'.1).imp fun σ H Q=>by
 rintro⟨G₀,H₀,G,ρ,r,A,h,k⟩;unfold orT at h;obtain⟨c,hc,h⟩:=oBd h;refine⟨G₀,H₀,G,ρ,c,A,hc,fun G1 H1 s1=>?_⟩;cases c with
 |false=>exact jy ⟨G₀,H₀,G1,ρ,r,A.step s1,by simpa using h,fun G' H' s=>k G' H' (s1.trans s)⟩
 |true=>
  rw[qY rfl] at h;cases h;exact jM (k _ _ s1)⟩
noncomputable def cc (fa fb:FE):FE:=fun ρ=>(fa ρ).bind fun d=>match d with
 |.bl ah=>fb ρ
 |.bl ar=>aa (.bl ar)
 |_=>af
noncomputable def orD (fa fb:FE):FE:=fun ρ=>(fa ρ).bind fun d=>match d with
 |.bl ah=>aa (.bl ah)
 |.bl ar=>fb ρ
 |_=>af
noncomputable def oH (fa:FE):FE:=fun ρ=>(fa ρ).bind fun d=>match d with
 |.bl b=>aa (.bl (!b))
 |_=>af
theorem EE {op} (h:DE Γ X a fa):DE Γ X (.BoolOp op [a] pos) fa:=⟨Ls h.1⟩
theorem yv (ha:DE Γ X a fa) (hb:DE Γ X (.BoolOp .And (b::bL) pos) fb):DE Γ X (.BoolOp .And (a::b::bL) pos) (cc fa fb):=⟨(GM ha.1 hb.1).imp fun σ H Q=>by
 rintro⟨G₀,H₀,G,ρ,d,A,h,k⟩;unfold cc at h;obtain⟨x,hx,h⟩:=oBd h;refine⟨G₀,H₀,G,ρ,x,A,hx,fun v G1 H1 s1 r1=>?_⟩;split at h
 .cases r1.bl_inv;exact⟨ah,rfl,jM ⟨G₀,H₀,G1,ρ,d,A.step s1,h,fun w G' H' s r=>k w G' H' (s1.trans s) r⟩⟩
 .cases r1.bl_inv;cases h;exact⟨ar,rfl,jy (k _ G1 H1 s1 (.bl _))⟩
 .cases h⟩
theorem KS (ha:DE Γ X a fa) (hb:DE Γ X (.BoolOp .Or (b::bL) pos) fb):DE Γ X (.BoolOp .Or (a::b::bL) pos) (orD fa fb):=⟨(Pg ha.1 hb.1).imp fun σ H Q=>by
 rintro⟨G₀,H₀,G,ρ,d,A,h,k⟩;unfold orD at h;obtain⟨x,hx,h⟩:=oBd h;refine⟨G₀,H₀,G,ρ,x,A,hx,fun v G1 H1 s1 r1=>?_⟩;split at h
 .cases r1.bl_inv;cases h;exact⟨ah,rfl,jM (k _ G1 H1 s1 (.bl _))⟩
 .cases r1.bl_inv;exact⟨ar,rfl,jy ⟨G₀,H₀,G1,ρ,d,A.step s1,h,fun w G' H' s r=>k w G' H' (s1.trans s) r⟩⟩
 .cases h⟩
theorem Ox (ha:DE Γ X a fa):DE Γ X (.UnaryOp .Not a pos) (oH fa):=⟨(Sc ha.1).imp fun σ H Q=>by
 rintro⟨G₀,H₀,G,ρ,d,A,h,k⟩;unfold oH at h;obtain⟨x,hx,h⟩:=oBd h;refine⟨G₀,H₀,G,ρ,x,A,hx,fun v G1 H1 s1 r1=>?_⟩;split at h
 .cases r1.bl_inv;cases h;exact⟨_,rfl,k _ G1 H1 s1 (.bl _)⟩
 .cases h⟩
noncomputable def ifD (ft:FT) (fa fb:FE):FE:=fun ρ=>(ft ρ).bind fun c=>if c=ah then fa ρ else fb ρ
theorem tf (hc:DT Γ X c ft) (ha:DE Γ X a fa) (hb:DE Γ X b fb):DE Γ X (.IfExp c a b pos) (ifD ft fa fb):=⟨(Bk hc.1 ha.1 hb.1).imp fun σ H Q=>by
 rintro⟨G₀,H₀,G,ρ,d,A,h,k⟩;unfold ifD at h;obtain⟨x,hx,h⟩:=oBd h;refine⟨G₀,H₀,G,ρ,x,A,hx,fun G1 H1 s1=>?_⟩;cases x with
 |true=>exact jM ⟨G₀,H₀,G1,ρ,d,A.step s1,by simpa using h,fun w G' H' s r=>k w G' H' (s1.trans s) r⟩
 |false=>exact jy ⟨G₀,H₀,G1,ρ,d,A.step s1,by simpa using h,fun w G' H' s r=>k w G' H' (s1.trans s) r⟩⟩
noncomputable def ao:FA:=fun _=>aa []
noncomputable def ag (fa:FE) (fr:FA):FA:=fun ρ=>(fa ρ).bind fun x=>(fr ρ).map (x::·)
theorem cu:DA Γ X [] ao:=⟨fD.imp fun σ H Q=>by rintro⟨G₀,H₀,G,ρ,d,A,h,k⟩;cases h;exact k _ G H (.refl A.gh) .nil⟩
theorem bS (ha:DE Γ X e fa) (hr:DA Γ X es fr) (hs:aH (e::es) X.env=(ar,eval e X.env)::aH es X.env:=by rfl):DA Γ X (e::es) (ag fa fr):=⟨(e7 ha.1 hr.1 hs).imp fun σ H Q=>by rintro⟨G₀,H₀,G,ρ,d,A,h,k⟩;unfold ag at h;obtain⟨x,hx,h⟩:=oBd h;obtain⟨xs,hxs,h⟩:=oMd h;subst h;exact⟨G₀,H₀,G,ρ,x,A,hx,fun v G1 H1 s1 r1=>⟨G₀,H₀,G1,ρ,xs,A.step s1,hxs,fun vs G2 H2 s2 r2=>k _ G2 H2 (s1.trans s2) (.cons (r1.mono s2.gg) r2)⟩⟩⟩
noncomputable def szF (fr:FA):FA:=fun ρ=>(fr ρ).bind fun l=>if l.length<=aJ then aa l else af
noncomputable def aS (fr:FA):FE:=fun ρ=>(fr ρ).map D.lst
noncomputable def bo (fr:FA):FE:=fun ρ=>(fr ρ).map D.tup
theorem DO.de (h:DO Γ X e fr):DE Γ X e (aS fr):=⟨h.1.imp fun σ H Q=>by rintro⟨G₀,H₀,G,ρ,d,A,h,k⟩;unfold aS at h;obtain⟨ds,hd,rfl⟩:=oMd h;exact⟨G₀,H₀,G,ρ,ds,A,hd,fun p vs G' H' s hp r=>gO s.gh r (fun w G2 H2 s2 r2=>k w G2 H2 (s.trans s2) r2) p hp⟩⟩
theorem tF (h:DA Γ X es fr):DO Γ X (.List es pos) (szF fr):=⟨(EA h.1).imp fun σ H Q=>by
 rintro⟨G₀,H₀,G,ρ,d,A,h,k⟩;unfold szF at h;obtain⟨ds,hd,h⟩:=oBd h;split at h
 .rename_i hz;cases h;exact⟨G₀,H₀,G,ρ,d,A,hd,fun vs G' H' s r=>⟨by rw[r.length];exact hz,fun p hp=>k p vs G' H' s hp r⟩⟩
 .cases h⟩
theorem NX {x1} (h:DA Γ X es fr):DE Γ X (.Tuple es x1 pos) (bo (szF fr)):=⟨(IJ h.1).imp fun σ H Q=>by
 rintro⟨G₀,H₀,G,ρ,d,A,h,k⟩;unfold bo szF at h;obtain⟨ds',hd',rfl⟩:=oMd h;obtain⟨ds,hd,h⟩:=oBd hd';split at h
 .rename_i hz;cases h;exact⟨G₀,H₀,G,ρ,ds',A,hd,fun vs G' H' s r=>⟨by rw[r.length];exact hz,sK s.gh r fun w G2 H2 s2 r2=>k w G2 H2 (s.trans s2) r2⟩⟩
 .cases h⟩
noncomputable def xQ (Γ:Cn) (K:aM) (g:ac D->aq D) (r:ac V->Hp->VK->Prop):Prop:=
 ∀{G H vs ds z},aQ G H->Reps Γ K G vs ds->g ds=aa z->∀Q:VK,(∀w G' H',Step G H G' H'->Rep Γ K G' w z->Q w H')->r vs H Q
noncomputable def cF (g:ac D->aq D) (fr:FA):FE:=fun ρ=>(fr ρ).bind g
theorem TD.call {g:ac D->aq D} {r:ac V->Hp->VK->Prop} (hr:xQ Γ X.K g r):∀σ H Q,TD Γ X.K (cF g fr) σ H Q->tCB r (TDa Γ X.K fr) σ H Q:=by rintro σ H Q ⟨G₀,H₀,G,ρ,d,A,h,k⟩;unfold cF at h;obtain⟨ds,hd,h⟩:=oBd h;exact⟨G₀,H₀,G,ρ,ds,A,hd,fun vs G1 H1 s1 r1=>hr s1.gh r1 h Q fun w G' H' s r=>k w G' H' (s1.trans s) r⟩
structure BltD (Γ:Cn) (X:Cx) (id:cE) (g:ac D->aq D):Prop where
 ex:∃r,dO X (.builtin id) r/\xQ Γ X.K g r
structure TyD (Γ:Cn) (X:Cx) (id:cE) (g:ac D->aq D):Prop where
 ex:∃r,dO X (.type id) r/\xQ Γ X.K g r
theorem dn {id:cE} {g:ac D->aq D} (hc:BltD Γ X id g) (hg:Gl X x) (hm:X.mg x=af) (hv:dH x=aa (.builtin id)) (ha:DA Γ X (e::es) fr) (hn:x≠"__name__":=by decide) (hdb:.(o)=ar:=by decide)
  (he:aH (e::es) X.env=(ar,eval e X.env)::aH es X.env:=by rfl) (hpl:.(af).any (·.1)=ar:=by rfl):DE Γ X .(ap) (cF g fr):=⟨by
 obtain⟨r,h1,h2⟩:=hc.ex;exact(wp h1 hg hm hv ha.1 hn hdb he hpl).imp (TD.call h2)⟩
theorem gY {id:cE} {g:ac D->aq D} (hc:TyD Γ X id g) (hg:Gl X x) (hm:X.mg x=af) (hv:dH x=aa (.type id)) (ha:DA Γ X (e::es) fr) (hn:x≠"__name__":=by decide) (hdb:.(o)=ar:=by decide)
  (he:aH (e::es) X.env=(ar,eval e X.env)::aH es X.env:=by rfl) (hpl:.(af).any (·.1)=ar:=by rfl):DE Γ X .(ap) (cF g fr):=⟨by
 obtain⟨r,h1,h2⟩:=hc.ex;exact(lC h1 hg hm hv ha.1 hn hdb he hpl).imp (TD.call h2)⟩
theorem lO {n:cE} (hg:Gl X x) (hm:X.mg x=af) (hv:dH x=aa (.type n)) (hn:x≠"__name__":=by decide) (hd:.(o)=ar:=by decide):DE Γ X (.Name x pos) (vC (.ty n)):=TD.const (fun _=>.ty n) (Li hg hm hv rfl hn hd)
theorem Reps.one (r:Reps Γ K G vs [d]):∃v,vs=[v]/\Rep Γ K G v d:=by
 cases r with
 |cons h t=>cases t;exact⟨_,rfl,h⟩
theorem Reps.two {d':D} (r:Reps Γ K G vs [d,d']):∃v u,vs=[v,u]/\Rep Γ K G v d/\Rep Γ K G u d':=by
 cases r with
 |cons h t=>cases t with
  |cons h2 t2=>cases t2;exact⟨_,_,rfl,h,h2⟩
noncomputable def iL:ac D->aq D
 |[.int i,.int j]=>aa (.int (if j > i then j else i))
 |_=>af
theorem Lh (hc:X.calm=ah):BltD Γ X "max" iL:=⟨_,K' hc,fun {G H vs ds z} gh r h Q k=>by unfold iL at h;split at h<;>cases h;obtain⟨v,u,rfl,r1,r2⟩:=r.two;cases r1.int_inv;cases r2.int_inv;exact⟨_,_,rfl,k _ G H .(aD) (.int _)⟩⟩
noncomputable def jQ:ac D->aq D
 |[.int i,.int j]=>aa (.int (if j<i then j else i))
 |_=>af
theorem Jw (hc:X.calm=ah):BltD Γ X "min" jQ:=⟨_,Io hc,fun {G H vs ds z} gh r h Q k=>by unfold jQ at h;split at h<;>cases h;obtain⟨v,u,rfl,r1,r2⟩:=r.two;cases r1.int_inv;cases r2.int_inv;exact⟨_,_,rfl,k _ G H .(aD) (.int _)⟩⟩
noncomputable def b9:ac D->aq D
 |[.str x]=>if x.length<=aJ then aa (.int (x.length:ak)) else af
 |[.lst l]=>aa (.int (l.length:ak))
 |[.tup l]=>aa (.int (l.length:ak))
 |[.scr l]=>aa (.int (l.length:ak))
 |_=>af
theorem ME:BltD Γ X "len" b9:=⟨_,JR,fun {G H vs ds z} gh r h Q k=>by
 unfold b9 at h;split at h
 .split at h
  .cases h;obtain⟨v,rfl,r1⟩:=r.one;cases r1.str_inv;exact⟨_,_,rfl,⟨by assumption,rfl⟩,k _ G H .(aD) (.int _)⟩
  .cases h
 .cases h;obtain⟨v,rfl,r1⟩:=r.one;obtain⟨a,vs,rfl,ha,rv⟩:=r1.lst_inv;exact⟨_,_,rfl,.inl ⟨vs,.inl .(bd),rfl⟩,k _ G H .(aD) (by rw[rv.length];exact .int _)⟩
 .cases h;obtain⟨v,rfl,r1⟩:=r.one;obtain⟨a,vs,rfl,ha,rv⟩:=r1.tup_inv;exact⟨_,_,rfl,.inr ⟨vs,.inl .(bd),rfl⟩,k _ G H .(aD) (by rw[rv.length];exact .int _)⟩
 .cases h;obtain⟨v,rfl,r1⟩:=r.one;obtain⟨a,rfl,ha⟩:=r1.scr_inv;exact⟨_,_,rfl,.inl ⟨_,gh.seq ha,rfl⟩,k _ G H .(aD) (by rw[qg];exact .int _)⟩
 .cases h⟩
noncomputable def tyD:D->aq cE
 |.non=>aa "NoneType"
 |.bl _=>aa "bool"
 |.int _=>aa "int"
 |.str _=>aa "str"
 |.lst _=>aa "list"
 |.tup _=>aa "tuple"
 |.dk _=>aa "dict"
 |.dt _=>aa "dict"
 |_=>af
noncomputable def fC (t c:cE):aq aN:=if (kZ t==kZ c)=ah then aa ah else if PySem.W.kitMeta c=ah then pZ (fun x=>x.contains (kZ c)) (PySem.fastBuiltinMro t) else af
def dv:ac D->aq D
 |[d,.ty c]=>(tyD d).bind fun t=>(fC t c).map D.bl
 |_=>af
theorem Kv {t:cE} (gh:aQ G H) (r:Rep Γ K G v d) (h:tyD d=aa t):TyOf K H v (.type t):=by
 unfold tyD at h;split at h<;>cases h
 .cases r.non_inv;exact .non
 .cases r.bl_inv;exact .bl _
 .cases r.int_inv;exact .int _
 .cases r.str_inv;exact .str _
 .obtain⟨a,vs,rfl,ha,_⟩:=r.lst_inv;exact .lst (gh _ _ ha)
 .obtain⟨a,vs,rfl,ha,_⟩:=r.tup_inv;exact .tup (gh _ _ ha)
 .cases r with
  |dk h _ _=>exact .dK (gh _ _ h)
 .cases r with
  |dt h _ _=>exact .dT (gh _ _ h)
theorem Ot:BltD Γ X "isinstance" dv:=by
 refine⟨fun vs H Q=>∃v t c b,vs=[v,.ty c]/\TyOf X.K H v (.type t)/\SK X.K (.type t) (.type c)=aa b/\Q (.bl b) H,?_,?_⟩
 .intro pins s σ H xs us Q I r h;obtain⟨v,t,c,b,rfl,ty,hk,q⟩:=h;obtain⟨u,w',rfl,r1,r2⟩:=vH r;cases r2;exact Jj I r1 ty hk fun tk=>⟨.bl b,H,I.tok tk,rfl,q⟩
 .intro G H vs ds z gh r h Q k;unfold dv at h;split at h
  .obtain⟨t,ht,h⟩:=oBd h;obtain⟨b,hb,rfl⟩:=oMd h;obtain⟨v,u,rfl,r1,r2⟩:=r.two;cases r2;exact⟨v,t,_,b,rfl,Kv gh r1 ht,hb,k _ G H .(aD) (.bl _)⟩
  .cases h
end
variable {β:Type} {fh:bA->aq (aq aj)} {fo:FE}
section
variable {a c:Expr}
theorem Reps.atI {K:aM} {G:Hp} {vs:ac V} {ds:ac D} {i:aj} {d:D} (r:Reps Γ K G vs ds) (h:L2.atI ds i=aa d):∃v,L2.atI vs i=aa v/\Rep Γ K G v d:=by
 unfold L2.atI at h ⊢;rw[r.length];cases e:ixN ds.length i with
 |none=>rw[e] at h;cases h
 |some j=>
  rw[e] at h;obtain⟨v,h1,h2⟩:=r.get (i:=j) (d:=d) h;exact⟨v,h1,h2⟩
theorem Nf (g:α->β) (xs:ac α) (i:aj):L2.atI (xs.map g) i=(L2.atI xs i).map g:=by
 unfold L2.atI;rw[qg];cases ixN xs.length i with
 |none=>rfl
 |some j=>simp
def ixD:D->D->aq D
 |.lst l,.int i=>atI l i
 |.tup l,.int i=>atI l i
 |.scr l,.int i=>(atI l i).map D.int
 |.str x,.int i=>if x.length<=aJ then (atI x.cps.toList i).map fun c=>D.str ⟨#[c]⟩ else af
 |_,_=>af
theorem LJ :fB Γ K ixD (rIx K):=by
 intro G H v u x y z gh r1 r2 h Q k;unfold ixD at h;split at h
 .obtain⟨a,vs,rfl,ha,rv⟩:=r1.lst_inv;cases r2.int_inv;obtain⟨w,hw,rw'⟩:=rv.atI h;exact .inl ⟨a,vs,_,w,rfl,rfl,.inl .(bd),hw,k w G H .(aD) rw'⟩
 .obtain⟨a,vs,rfl,ha,rv⟩:=r1.tup_inv;cases r2.int_inv;obtain⟨w,hw,rw'⟩:=rv.atI h;exact .inr (.inl ⟨a,vs,_,w,rfl,rfl,.inl .(bd),hw,k w G H .(aD) rw'⟩)
 .obtain⟨a,rfl,ha⟩:=r1.scr_inv;cases r2.int_inv;obtain⟨n,hn,rfl⟩:=oMd h;exact .inl ⟨a,_,_,.int n,rfl,rfl,gh.seq ha,by rw[Nf,hn];rfl,k _ G H .(aD) (.int _)⟩
 .split at h
  .cases r1.str_inv;cases r2.int_inv;obtain⟨n,hn,rfl⟩:=oMd h;exact .inr (.inr ⟨_,_,n,rfl,rfl,by assumption,hn,k _ G H .(aD) (.str _)⟩)
  .cases h
 .cases h
theorem rK (ha:DE Γ X a fa) (hb:DE Γ X b fb) (hs:o6 b:=by intro _ _;rfl):DE Γ X (.Subscript a b pos) (b2 ixD fa fb):=⟨(sR uq ha.1 hb.1 hs).imp (TD.two LJ)⟩
def dq (xs:ac α) (lo hi:aq aj):ac α:=(xs.drop (HT.sIx xs.length 0 lo)).take .(bn)
theorem R' (g:α->β) (xs:ac α) (lo hi:aq aj):dq (xs.map g) lo hi=(dq xs lo hi).map g:=by unfold dq;simp
theorem Reps.cut (r:Reps Γ K G vs ds) (lo hi:aq aj):Reps Γ K G (kj vs lo hi) (dq ds lo hi):=by unfold kj dq;rw[r.length];exact(r.drop _).take _
def kG (x:ai) (lo hi:aq aj):ai:=⟨(dq x.cps.toList lo hi).toArray⟩
theorem EO (lo hi:aq aj) (n:ak):zb lo hi 1 n=(ck (HT.sIx n n hi-HT.sIx n 0 lo)).map (HT.sIx n 0 lo+·):=by
 rw[←S6];unfold zb;have h1:∀(o:aq aj) (d:ak),d<=n->(match o with|none=>(d:aj)|some i=>if (1:aj) > 0 then max 0 (min (if i<0 then i+(n:aj) else i) n) else max (-1) (min (if i<0 then i+(n:aj) else i) ((n:aj)-1)))=((HT.sIx n d o:ak):aj):=fun o d hd=>by
  cases o with
  |none=>simp[HT.sIx]
  |some i=>
   simp only[HT.sIx,show(1:aj) > 0 by decide,cq];by_cases h:i<0
   .simp only[h,cq];omega
   .simp only[h,cB];omega
 have e0:=h1 lo 0 (eW _);have e1:=h1 hi n (qw _);rw[←e0,←e1];rfl
theorem E6 (x:ai) (lo hi:aq aj):F4 x lo hi=kG x lo hi:=by
 have key:(zb lo hi 1 x.length).filterMap (x.cps[·]?)=dq x.cps.toList lo hi:=by rw[EO,yO];unfold dq;rw[show x.cps.toList.length=x.length by simp[pU]]
 unfold F4 kG;split
 .rename_i h;rw[←key];have hl:(zb lo hi 1 x.length).length=x.length:=by simpa using h
  rw[EO] at hl ⊢;rw[yO];rw[qg,qW] at hl;have hb:HT.sIx x.length x.length hi<=x.length:=by
   cases hi with
   |none=>simp[HT.sIx]
   |some i=>simp only[HT.sIx];split<;>omega
  have h0:HT.sIx x.length 0 lo=0\/x.length=0:=by omega
  have hx:x.cps.toList.length=x.length:=by simp[pU]
  have e:(x.cps.toList.drop (HT.sIx x.length 0 lo)).take (HT.sIx x.length x.length hi-HT.sIx x.length 0 lo)=x.cps.toList:=by
   rcases h0 with h0|h0
   .rw[h0,p5];rw[h0] at hl;exact mN .(b)
   .have:x.cps.toList=[]:=uU.mp .(b);rw[this];simp
  rw[e]
 .rw[key]
noncomputable def pN:bA->aq (aq aj):=fun _=>aa af
noncomputable def pS (f:FE):bA->aq (aq aj):=fun ρ=>(f ρ).bind fun d=>match d with
 |.int i=>aa (aa i)
 |_=>af
inductive TDp (Γ:Cn) (K:aM) (f:bA->aq (aq aj)) (σ:St) (H:Hp) (Q:aq aj->Hp->Prop):Prop where
 |mk:∀G₀ H₀ G ρ o,At Γ K G₀ H₀ G H ρ σ->f ρ=aa o->(∀G' H',Step G H G' H'->Q o H')->TDp Γ K f σ H Q
structure DP (Γ:Cn) (X:Cx) (e:aq Expr) (f:bA->aq (aq aj)):Prop where
 out:PO X e (TDp Γ X.K f)
theorem Ey:DP Γ X af pN:=⟨fun pins s σ H Q I ⟨G₀,H₀,G,ρ,o,A,h,k⟩=>by cases h;exact Nn pins s σ H Q I (k G H (.refl A.gh))⟩
theorem EF (h:DE Γ X e f):DP Γ X (aa e) (pS f):=⟨fun pins s σ H Q I ⟨G₀,H₀,G,ρ,o,A,q,k⟩=>by unfold pS at q;obtain⟨d,hd,q⟩:=oBd q;split at q<;>cases q;exact N1 h.1 pins s σ H Q I ⟨G₀,H₀,G,ρ,_,A,hd,fun v G' H' s r=>⟨_,r.int_inv,k G' H' s⟩⟩⟩
theorem Jg:SlR X (fun x lo hi H Q=>∃z,x=.str z/\z.length<=aJ/\Q (.str (kG z lo hi)) H):=by
 intro pins s σ H x v vl vu lo hi sl Q I rx hs pl pu h;obtain⟨z,rfl,hz,q⟩:=h;obtain⟨t,rfl⟩:=rx;refine⟨"str",_,PySem.F.slot_str_getitem.lookup,FM _ _ _,?_⟩;obtain⟨l,rfl,el⟩:∃l:aq (aj×Tok),vl=partValue l/\l.map (·.1)=lo:=by
  cases pl with
  |none=>exact⟨af,rfl,rfl⟩
  |int i t=>exact⟨aa (i,t),rfl,rfl⟩
 obtain⟨u,rfl,eu⟩:∃l:aq (aj×Tok),vu=partValue l/\l.map (·.1)=hi:=by
  cases pu with
  |none=>exact⟨af,rfl,rfl⟩
  |int i t=>exact⟨aa (i,t),rfl,rfl⟩
 refine wpAny_getItem_str_slice (l:=l) (u:=u) (st:=af) hs rfl ?_;have e:(if ((pZ (fun x=>x.fst) (af:aq (aj×Tok))).getD 1==1 && (slicePicked z l u af).length==z.length)=ah then z else {cps:=(List.filterMap (fun x=>z.cps[x]?) (slicePicked z l u af)).toArray})=kG z lo hi:=by
  have e0:F4 z (l.map (·.1)) (u.map (·.1))=kG z lo hi:=by rw[el,eu];exact E6 z lo hi
  exact e0
 refine post_val_or_str ⟨?_,fun t' k=>?_⟩
 .rw[e,←E6];exact qO (Txt.slice_le z _ _) hz
 .rw[e];exact⟨.str _,H,I.tok k,⟨_,rfl⟩,q⟩
noncomputable def kU (lo hi:aq aj):D->aq D
 |.lst l=>aa (.lst (dq l lo hi))
 |.scr l=>aa (.lst ((dq l lo hi).map D.int))
 |.tup l=>if HT.sIx l.length 0 lo=0/\HT.sIx l.length l.length hi=l.length then af else aa (.tup (dq l lo hi))
 |.str x=>if x.length<=aJ then aa (.str (kG x lo hi)) else af
 |_=>af
def slF (f:FE) (fl fh:bA->aq (aq aj)):FE:=fun ρ=>(f ρ).bind fun d=>(fl ρ).bind fun l=>(fh ρ).bind fun h=>kU l h d
variable {fl:bA->aq (aq aj)} {lo hi:aq Expr}
theorem L9 (he:DE Γ X e f) (hl:DP Γ X lo fl) (hh:DP Γ X hi fh):DE Γ X (.Subscript e (.Slice lo hi af p2) pos) (slF f fl fh):=⟨(Pz (M2.or (Ol.or Jg)) he.1 hl.1 hh.1).imp fun σ H Q=>by
 rintro⟨G₀,H₀,G,ρ,d,A,h,k⟩;unfold slF at h;obtain⟨x,hx,h⟩:=oBd h;obtain⟨l,hl,h⟩:=oBd h;obtain⟨u,hu,h⟩:=oBd h;refine⟨G₀,H₀,G,ρ,x,A,hx,fun v G1 H1 s1 r1=>⟨G₀,H₀,G1,ρ,l,A.step s1,hl,fun G2 H2 s2=>⟨G₀,H₀,G2,ρ,u,(A.step s1).step s2,hu,fun G3 H3 s3=>?_⟩⟩⟩;have s:=(s1.trans s2).trans s3;have r:=r1.mono (s2.gg.trans s3.gg);have gh:=s3.gh;unfold kU at h;split at h
 .cases h;obtain⟨a,vs,rfl,ha,rv⟩:=r.lst_inv;exact .inl ⟨a,vs,rfl,.inl .(bd),gO gh (rv.cut l u) fun w G4 H4 s4 r4=>k w G4 H4 (s.trans s4) r4⟩
 .cases h;obtain⟨a,rfl,ha⟩:=r.scr_inv;refine .inl ⟨a,_,rfl,gh.seq ha,gO gh ?_ fun w G4 H4 s4 r4=>k w G4 H4 (s.trans s4) r4⟩;show Reps Γ X.K G3 (dq _ l u) _;rw[R'];exact Reps.ints _
 .split at h
  .cases h
  .rename_i hw;cases h;obtain⟨a,vs,rfl,ha,rv⟩:=r.tup_inv;exact .inr (.inl ⟨a,vs,rfl,.inl .(bd),by rw[rv.length];exact hw,sK gh (rv.cut l u) fun w G4 H4 s4 r4=>k w G4 H4 (s.trans s4) r4⟩)
 .split at h
  .cases h;cases r.str_inv;exact .inr (.inr ⟨_,rfl,by assumption,k _ _ _ s (.str _)⟩)
  .cases h
 .cases h⟩
structure MtD (Γ:Cn) (X:Cx) (T id:cE) (g:D->ac D->aq D):Prop where
 ex:∃r,MtR X id r/\∀{G H v x vs ds z},aQ G H->Rep Γ X.K G v x->Reps Γ X.K G vs ds->g x ds=aa z->∀Q:VK,(∀w G' H',Step G H G' H'->Rep Γ X.K G' w z->Q w H')->r v vs H Q
 ty:∀{G H v x ds z},aQ G H->Rep Γ X.K G v x->g x ds=aa z->tyV X.K T v H
noncomputable def mF (g:D->ac D->aq D) (f:FE) (fr:FA):FE:=fun ρ=>(f ρ).bind fun d=>(fr ρ).bind fun ds=>g d ds
theorem Mz {id:cE} {g:D->ac D->aq D} (pa:FO T) (slot:PySem.Slot T name id) (hty:typeOf (.builtin id)=aT (.type "method_descriptor")) (hm:MtD Γ X T id g) (ho:DE Γ X o fo) (ha:DA Γ X (e::es) fr)
  (hbase:gG o name X.env (eval o X.env)=eval o X.env:=by rfl)
  (hfew:((bF cpos (aH (e::es) X.env)).all (fun x=>!x.1) && (dR cpos (dS [] X.env)).all (fun x=>x.1.isSome)
   && decide ((e::es).length+([]:ac gI).length+.(aY)<30))=ah:=by rfl)
  (hline:.(bv)=ah:=by rfl) (hs:aH (e::es) X.env=(ar,eval e X.env)::aH es X.env:=by rfl) (hplain:(bF cpos (aH es X.env)).any (·.1)=ar:=by rfl) :
  DE Γ X (.Call (.Attribute o name apos) (e::es) [] cpos) (mF g fo fr):=⟨by
 obtain⟨r,h1,h2⟩:=hm.ex;refine(ui pa slot hty h1 ho.1 ha.1 hbase hfew hline hs hplain).imp fun σ H Q=>?_;rintro⟨G₀,H₀,G,ρ,d,A,h,k⟩;unfold mF at h;obtain⟨x,hx,h⟩:=oBd h;obtain⟨ds,hd,h⟩:=oBd h;exact⟨G₀,H₀,G,ρ,x,A,hx,fun v G1 H1 s1 r1=>⟨hm.ty s1.gh r1 h,G₀,H₀,G1,ρ,ds,A.step s1,hd,fun vs G2 H2 s2 r2=>h2 s2.gh (r1.mono s2.gg) r2 h Q fun w G3 H3 s3 r3=>k w G3 H3 ((s1.trans s2).trans s3) r3⟩⟩⟩
noncomputable def lA:ac D->aq (ac ai)
 |[]=>aa []
 |.str x::r=>(lA r).map (x::·)
 |_::_=>af
def o9:D->ac D->aq D
 |.str sep,[.lst l]=>(lA l).bind fun ys=>if (ys.map (·.length)).sum+ys.length*sep.length<=16777216 then aa (.str (F5 sep ys)) else af
 |_,_=>af
theorem Be {K:aM} {G:Hp}:∀{vs:ac V} {ds:ac D} {ys:ac ai},Reps Γ K G vs ds->lA ds=aa ys->vs=ys.map V.str
 |_,[],ys,r,h=>by cases r;cases h;rfl
 |_,d::ds,ys,r,h=>by
  obtain _|⟨h1,h2⟩:=r;cases d with
  |str x=>
   obtain⟨zs,hz,rfl⟩:=oMd (show(lA ds).map (x::·)=aa ys from h);rw[h1.str_inv,Be h2 hz];rfl
  |_=>cases h
theorem Pn:∀{ys:ac ai} {us:ac av},aU (ys.map V.str) us->zc us ys:=by
 intro xs0
 induction xs0 with
 |nil=>
  intro _ r;rw[qQ] at r;cases r;exact .nil
 |cons y ys ih=>
  intro _ r;rw[qo] at r;cases r with
  |cons r1 r2=>
   obtain⟨t,e⟩:=r1;subst e;exact .cons y t (ih r2)
theorem Ml:MtD Γ X "str" "str.join" o9:=by
 refine⟨⟨fun v vs H Q=>∃sep a ys,v=.str sep/\vs=[.ref a]/\H a=aa (.lst (ys.map V.str))/\(ys.map (·.length)).sum+ys.length*sep.length<=16777216/\Q (.str (F5 sep ys)) H,?_,?_⟩,?_⟩
 .intro pins s σ H x xs v us Q I rx rs h;obtain⟨sep,a,ys,rfl,rfl,ha,hz,q⟩:=h;obtain⟨t,rfl⟩:=rx;obtain⟨u,rfl,ru⟩:=eJ rs;cases ru;obtain⟨its,rv,pl,_⟩:=I.list (.inl (.inl ha));exact join_list pl.isList (Pn rv) hz fun t' k=>⟨.str _,H,I.tok k,⟨_,rfl⟩,q⟩
 .intro G H v x vs ds z gh r1 r2 h Q k;unfold o9 at h;split at h
  .obtain⟨ys,hy,h⟩:=oBd h;split at h
   .cases h;cases r1.str_inv;obtain⟨v,rfl,r3⟩:=r2.one;obtain⟨a,ws,rfl,ha,rw'⟩:=r3.lst_inv;refine⟨_,a,ys,rfl,rfl,?_,by assumption,k _ G H .(aD) (.str _)⟩;rw[←Be rw' hy];exact gh _ _ ha
   .cases h
  .cases h
 .intro G H v x ds z gh r h;unfold o9 at h;split at h
  .cases r.str_inv;exact rfl
  .cases h
noncomputable def nE:ac D->aq (ac aN)
 |[]=>aa []
 |.bl x::r=>(nE r).map (x::·)
 |_::_=>af
theorem D' {K:aM} {G:Hp}:∀{vs:ac V} {ds:ac D} {ys:ac aN},Reps Γ K G vs ds->nE ds=aa ys->vs=ys.map V.bl
 |_,[],ys,r,h=>by cases r;cases h;rfl
 |_,d::ds,ys,r,h=>by
  obtain _|⟨h1,h2⟩:=r;cases d with
  |bl x=>
   obtain⟨zs,hz,rfl⟩:=oMd (show(nE ds).map (x::·)=aa ys from h);rw[h1.bl_inv,D' h2 hz];rfl
  |_=>cases h
def fj:ac D->aq D
 |[.lst l]=>(nE l).map fun bs=>D.bl (bs.all id)
 |_=>af
theorem Hj:∀{bs:ac aN} {us:ac av},aU (bs.map V.bl) us->us=bs.map kY:=by
 intro xs0
 induction xs0 with
 |nil=>
  intro _ r;rw[qQ] at r;cases r;rfl
 |cons y ys ih=>
  intro _ r;rw[qo] at r;cases r with
  |cons r1 r2=>cases r1;rw[ih r2];rfl
theorem Sg (bs:ac aN):(ck bs.length).all (fun i=>bs.getD i ar)=bs.all id:=by
 rw[uJ,ia,ia];constructor
 .intro h x hx;obtain⟨i,hi,e⟩:=zd.mp hx;have:=h i (fH.mpr hi);simp[ze,hi] at this;rw[←e];exact this
 .intro h i hi;have hi':=fH.mp hi;have:=h (bs[i]) (oj hi');simp[ze,hi'];exact this
theorem RO {bs:ac aN} :TruthOf prog w A (fun i v=>(bs.map kY).toArray[i]?=aa v) (fun i=>bs.getD i ar):=fun i v s Q E hP hQ=>by
 have hP':(bs.map kY)[i]?=aa v:=by simpa using hP
 rw[ql] at hP';obtain⟨b,hb,rfl⟩:=oMd hP';have:bs.getD i ar=b:=by simp[ze,hb]
 have hQ':Q (bs.getD i ar) s:=hQ;rw[this] at hQ';exact ji hQ'
theorem gm (hc:X.calm=ah):BltD Γ X "all" fj:=by
 refine⟨fun vs H Q=>∃(a:au) (bs:ac aN),vs=[.ref a]/\H a=aa (.lst (bs.map V.bl))/\Q (.bl (bs.all id)) H,?_,?_⟩
 .intro pins s σ H xs us Q I r h;obtain⟨a,bs,rfl,ha,q⟩:=h;obtain⟨u,rfl,ru⟩:=eJ r;cases ru;obtain⟨its,rv,pl,_⟩:=I.list (.inl (.inl ha));have e:=Hj rv;subst e;refine call_all_walk (mO pl.isList ?_);have ne:a≠s.heap.objs.size:=by obtain⟨o,_,h1,_⟩:=pl;exact qD (qv h1)
  refine⟨s.heap.objs.size,_,_,_,_,_,fun i=>bs.getD i ar,rfl,om (A:=X.A.in1) (show X.A.in1.handled=af from I.ok.hd hc) s.heap.objs.size a ne (bs.map kY).toArray,⟨⟨_,qH _ rfl,rfl,rfl⟩,pl.isList.at fun o q=>qu _ q⟩,RO,fun h' tk hk=>?_⟩;have e2:(bs.map kY).toArray.size=bs.length:=by simp
  rw[e2,Sg];refine⟨.bl _,H,I.kept fun b o z=>hk b o ?_ (qu _ z),rfl,q⟩;intro z';have:b=s.heap.objs.size:=by simpa using z'
  exact bu (qv z) (by rw[this];exact fE _)
 .intro G H vs ds z gh r h Q k;unfold fj at h;split at h
  .obtain⟨bs,hb,rfl⟩:=oMd h;obtain⟨v,rfl,r1⟩:=r.one;obtain⟨a,ws,rfl,ha,rw'⟩:=r1.lst_inv;refine⟨a,bs,rfl,?_,k _ G H .(aD) (.bl _)⟩;rw[←D' rw' hb];exact gh _ _ ha
  .cases h
end
structure Yd (Γ:Cn) (K:aM) (J:It) (G:Hp) (ds:ac D):Prop where
 go:∀(i:ak) d G2 H2,ds[i]?=aa d->aQ G G2->aQ G2 H2->J.go i H2/\∀x H3,J.yld i H2 x H3->∃G3,Step G2 H2 G3 H3/\Rep Γ K G3 x d
 stop:∀G2 H2,aQ G G2->aQ G2 H2->J.stop ds.length H2
inductive TDi (Γ:Cn) (K:aM) (f:FA) (σ:St) (H:Hp) (R:It->Hp->Prop):Prop where
 |mk:∀G₀ H₀ G ρ ds,At Γ K G₀ H₀ G H ρ σ->f ρ=aa ds->(∀J G' H',Step G H G' H'->Yd Γ K J G' ds->R J H')->TDi Γ K f σ H R
structure DI (Γ:Cn) (X:Cx) (tg e:Expr) (f:FA):Prop where
 out:PI X tg e (TDi Γ X.K f)
theorem PI.imp {t t':TI} (h:PI X tg e t) (i:∀σ H R,t' σ H R->t σ H R):PI X tg e t':=fun pins s σ H R I q=>h pins s σ H R I (i _ _ _ q)
variable {fi:FA} {ts:ac Expr} {gs:FGs} {fe:FE} {ρ1:bA}
section
variable {a c:Expr}
theorem Qu {a:au} (h:G a=aa (.tup vs)) (r:Reps Γ K G vs ds):Yd Γ K (Itt K a) G ds:=by refine⟨fun i d G2 H2 hd g1 g2=>?_,fun G2 H2 g1 g2=>⟨vs,.inl (.inl (g2 _ _ (g1 _ _ h))),by rw[r.length];exact qw _⟩⟩;obtain⟨v,hv,rv⟩:=r.get hd;refine⟨⟨vs,v,.inl (.inl (g2 _ _ (g1 _ _ h))),hv⟩,fun x H3 ⟨e1,e2⟩=>?_⟩;subst e1;have:=e2 vs (.inl (.inl (g2 _ _ (g1 _ _ h))));rw[hv] at this;cases this;exact⟨G2,.refl g2,rv.mono g1⟩
theorem CU {a:au} (h:SqL K G a vs) (r:Reps Γ K G vs ds):Yd Γ K (Ite K a) G (ds.mapIdx fun i d=>D.tup [.int i,d]):=by refine⟨fun i d G2 H2 hd g1 g2=>?_,fun G2 H2 g1 g2=>⟨vs,g2.seq (g1.seq h),by rw[zf,r.length];exact qw _⟩⟩;rw[Tu] at hd;obtain⟨d',hd',rfl⟩:=oMd hd;obtain⟨v,hv,rv⟩:=r.get hd';refine⟨⟨vs,v,g2.seq (g1.seq h),hv⟩,fun x H3 ⟨T,y,e0,hT,e1,e2⟩=>?_⟩;subst e0;have:=e2 vs (g2.seq (g1.seq h));rw[hv] at this;cases this;subst e1;have s:=Step.new (o:=.tup [.int i,v]) g2 hT;exact⟨_,s,.tup aV (.cons (.int _) (.cons ((rv.mono g1).mono s.gg) .nil))⟩
noncomputable def kT:D->aq (ac D)
 |.lst l=>aa l
 |.tup l=>aa l
 |.scr l=>aa (l.map D.int)
 |_=>af
def itF (f:FE):FA:=fun ρ=>(f ρ).bind kT
theorem RA {l:Expr} {tl:TE} (hl:PE X l tl):PI X tg l (fun σ H R=>tl σ H fun x H1=>(∃a,x=.ref a/\(∃xs,SqL X.K H1 a xs)/\R (Itl X.K a) H1)\/(∃a,x=.ref a/\(∃xs,SqT X.K H1 a xs)/\R (Itt X.K a) H1)):=by
 intro pins s σ H R I h;refine thn (hl pins s σ H _ I h) fun v s1 ζ=>?_;obtain⟨x,H1,I1,r1,q1⟩:=ζ;rcases q1 with⟨a,e,⟨xs,hq⟩,q⟩|⟨a,e,⟨xs,hq⟩,q⟩
 .subst e;cases r1;obtain⟨its,rv,p,hz⟩:=I1.list hq;refine mO p.isList ?_;refine⟨s1.heap.objs.size,[s1.heap.objs.size],_,_,H1,rfl,I1.kept (t':=s1.toks) fun b o e=>qu _ e,HX a _,⟨_,qH _ rfl,rfl,rfl⟩,fun b hb=>?_,q⟩;have e:b=s1.heap.objs.size:=by simpa using hb
  subst e;exact I1.fpOk (qw _) (I1.hok.fresh (qw _))
 .subst e;cases r1;obtain⟨its,rv,p,hz⟩:=I1.tuple hq;refine wpAny_pyIter_tuple (show s1.heap.IsTuple a its.toArray from p) ?_;refine⟨s1.heap.objs.size,[s1.heap.objs.size],_,_,H1,rfl,I1.kept (t':=s1.toks) fun b o e=>qu _ e,ID a _,⟨_,qH _ rfl,rfl,rfl⟩,fun b hb=>?_,q⟩;have e:b=s1.heap.objs.size:=by simpa using hb
  subst e;exact I1.fpOk (qw _) (I1.hok.fresh (qw _))
theorem pf (h:DE Γ X iter f):DI Γ X tg iter (itF f):=⟨(RA h.1).imp fun σ H R=>by
 rintro⟨G₀,H₀,G,ρ,ds,A,h,k⟩;unfold itF at h;obtain⟨d,hd,h⟩:=oBd h;refine⟨G₀,H₀,G,ρ,d,A,hd,fun v G' H' s r=>?_⟩;unfold kT at h;split at h
 .cases h;obtain⟨a,vs,rfl,ha,rv⟩:=r.lst_inv;refine .inl ⟨a,rfl,⟨vs,.inl (.inl (s.gh _ _ ha))⟩,k _ G' H' s ?_⟩;refine⟨fun i d G2 H2 hd g1 g2=>?_,fun G2 H2 g1 g2=>⟨vs,.inl (.inl (g2 _ _ (g1 _ _ ha))),by rw[rv.length];exact qw _⟩⟩;obtain⟨v,hv,rv'⟩:=rv.get hd;refine⟨⟨vs,v,.inl (.inl (g2 _ _ (g1 _ _ ha))),hv⟩,fun x H3 ⟨e1,e2⟩=>?_⟩;subst e1;have:=e2 vs (.inl (.inl (g2 _ _ (g1 _ _ ha))));rw[hv] at this;cases this;exact⟨G2,.refl g2,rv'.mono g1⟩
 .cases h;obtain⟨a,vs,rfl,ha,rv⟩:=r.tup_inv;exact .inr ⟨a,rfl,⟨vs,.inl (.inl (s.gh _ _ ha))⟩,k _ G' H' s (Qu ha rv)⟩
 .rename_i l;cases h;obtain⟨a,rfl,ha⟩:=r.scr_inv;refine .inl ⟨a,rfl,⟨_,s.gh.seq ha⟩,k _ G' H' s ?_⟩;refine⟨fun i d G2 H2 hd g1 g2=>?_,fun G2 H2 g1 g2=>⟨_,g2.seq (g1.seq ha),by simp⟩⟩;rw[ql] at hd;obtain⟨n,hn,rfl⟩:=oMd hd;have hv:(List.map V.int l)[i]?=aa (V.int n):=by rw[ql,hn];rfl
  refine⟨⟨_,_,g2.seq (g1.seq ha),hv⟩,fun x H3 ⟨e1,e2⟩=>?_⟩;subst e1;have:=e2 _ (g2.seq (g1.seq ha));rw[hv] at this;cases this;exact⟨G2,.refl g2,.int _⟩
 .cases h⟩
noncomputable def wm:D->aq (ac D)
 |.str x=>aa (x.cps.toList.map fun c=>D.str ⟨#[c]⟩)
 |_=>af
def itS (f:FE):FA:=fun ρ=>(f ρ).bind wm
theorem OY {n:ai} {q:c8} (h:DE Γ X iter f):DI Γ X (.Name n q) iter (itS f):=⟨(HM h.1).imp fun σ H R=>by
 rintro⟨G₀,H₀,G,ρ,ds,A,h,k⟩;unfold itS at h;obtain⟨d,hd,h⟩:=oBd h;refine⟨G₀,H₀,G,ρ,d,A,hd,fun v G' H' s r=>?_⟩;unfold wm at h;split at h<;>cases h;cases r.str_inv;rename_i x;refine⟨x,rfl,k _ G' H' s ⟨fun i d G2 H2 hd g1 g2=>?_,fun G2 H2 g1 g2=>?_⟩⟩
 .rw[ql] at hd;obtain⟨c,hc,rfl⟩:=oMd hd;have hc':x.cps[i]?=aa c:=by simpa using hc
  refine⟨(ge.mp hc').1,fun y H3 ⟨e1,c2,h2,e2⟩=>?_⟩;subst e1;subst e2;rw[hc'] at h2;cases h2;exact⟨G2,.refl g2,.str _⟩
 .show _=x.cps.size;simp⟩
noncomputable def Bv:D->aq (ac D)
 |.lst l=>aa (l.mapIdx fun i d=>D.tup [.int i,d])
 |.scr l=>aa ((l.map D.int).mapIdx fun i d=>D.tup [.int i,d])
 |_=>af
def itE (f:FE):FA:=fun ρ=>(f ρ).bind Bv
theorem MA {k1:ak} (hg:Gl X "enumerate") (hm:X.mg "enumerate"=af) (h:DE Γ X a f) (hs:aH [a] X.env=[(ar,eval a X.env)]:=by rfl) (hs0:aH ([a]:ac Expr) X.env=(ar,eval a X.env)::aH [] X.env:=by rfl) :
  DI Γ X (.Tuple elts k1 tpos) (.Call (.Name "enumerate" p) [a] [] pos) (itE f):=⟨(Q2 hg hm (e7 h.1 fD hs0) hs).imp fun σ H R=>by
 rintro⟨G₀,H₀,G,ρ,ds,A,h,k⟩;unfold itE at h;obtain⟨d,hd,h⟩:=oBd h;refine⟨G₀,H₀,G,ρ,d,A,hd,fun v G' H' s r=>?_⟩;unfold Bv at h;split at h
 .cases h;obtain⟨a,vs,rfl,ha,rv⟩:=r.lst_inv;exact⟨a,rfl,⟨vs,.inl (.inl (s.gh _ _ ha))⟩,k _ G' H' s (CU (.inl (.inl ha)) rv)⟩
 .cases h;obtain⟨a,rfl,ha⟩:=r.scr_inv;exact⟨a,rfl,⟨_,s.gh.seq ha⟩,k _ G' H' s (CU ha (Reps.ints _))⟩
 .cases h⟩
theorem Aa :Yd Γ K (Itr lo n) G ((ck n).map fun i:ak=>D.int (lo+i)):=by
 refine⟨fun i d G2 H2 hd g1 g2=>?_,fun G2 H2 g1 g2=>?_⟩
 .rw[ql] at hd;obtain⟨j,hj,rfl⟩:=oMd hd;have hi:i<n:=by have:=(fJ.mp hj).1;simpa using this
  have e:j=i:=by simpa[hi] using hj.symm
  subst e;refine⟨hi,fun x H3 ⟨e1,e2⟩=>?_⟩;subst e1;subst e2;exact⟨G2,.refl g2,.int _⟩
 .show n<=_;simp
noncomputable def dM:ac D->aq (ac D)
 |[.int j]=>if -(2 ^ 62)<=j/\j<2 ^ 62 then aa ((ck j.toNat).map fun i:ak=>D.int (0+i)) else af
 |_=>af
noncomputable def mq:ac D->aq (ac D)
 |[.int i,.int j]=>if -(2 ^ 62)<=i/\i<2 ^ 62 /\ -(2 ^ 62)<=j/\j<2 ^ 62 then aa ((ck (j-i).toNat).map fun k:ak=>D.int (i+k)) else af
 |_=>af
noncomputable def itR (g:ac D->aq (ac D)) (fr:FA):FA:=fun ρ=>(fr ρ).bind g
theorem Qa (hg:Gl X "range") (hm:X.mg "range"=af) (h:DA Γ X [a] fr) (hs:aH [a] X.env=[(ar,eval a X.env)]:=by rfl):DI Γ X tg (.Call (.Name "range" p) [a] [] pos) (itR dM fr):=⟨(P2 hg hm h.1 hs).imp fun σ H R=>by
 rintro⟨G₀,H₀,G,ρ,ds,A,h,k⟩;unfold itR at h;obtain⟨d,hd,h⟩:=oBd h;refine⟨G₀,H₀,G,ρ,d,A,hd,fun v G' H' s r=>?_⟩;unfold dM at h;split at h
 .split at h
  .rename_i hz;cases h;obtain⟨v,rfl,r1⟩:=r.one;cases r1.int_inv;exact⟨_,rfl,hz.1,hz.2,k _ G' H' s Aa⟩
  .cases h
 .cases h⟩
theorem Mw (hg:Gl X "range") (hm:X.mg "range"=af) (h:DA Γ X [a,b] fr) (hs:aH [a,b] X.env=[(ar,eval a X.env),(ar,eval b X.env)]:=by rfl) (hs2:aH [b] X.env=[(ar,eval b X.env)]:=by rfl):DI Γ X tg (.Call (.Name "range" p) [a,b] [] pos) (itR mq fr):=⟨(Mp hg hm h.1 hs hs2).imp fun σ H R=>by
 rintro⟨G₀,H₀,G,ρ,ds,A,h,k⟩;unfold itR at h;obtain⟨d,hd,h⟩:=oBd h;refine⟨G₀,H₀,G,ρ,d,A,hd,fun v G' H' s r=>?_⟩;unfold mq at h;split at h
 .split at h
  .rename_i hz;cases h;obtain⟨v,u,rfl,r1,r2⟩:=r.two;cases r1.int_inv;cases r2.int_inv;exact⟨_,_,rfl,hz,k _ G' H' s Aa⟩
  .cases h
 .cases h⟩
abbrev FG:=D->bA->aq bA
abbrev FGs:=ac D->bA->aq bA
inductive TDg (Γ:Cn) (K:aM) (g:FG) (v:V) (σ:St) (H:Hp) (Q:St->Hp->Prop):Prop where
 |mk:∀G₀ H₀ G ρ d ρ',At Γ K G₀ H₀ G H ρ σ->Rep Γ K G v d->g d ρ=aa ρ'->(∀σ',At Γ K G₀ H₀ G H ρ' σ'->Q σ' H)->TDg Γ K g v σ H Q
inductive TDgs (Γ:Cn) (K:aM) (g:FGs) (vs:ac V) (σ:St) (H:Hp) (Q:St->Hp->Prop):Prop where
 |mk:∀G₀ H₀ G ρ ds ρ',At Γ K G₀ H₀ G H ρ σ->Reps Γ K G vs ds->g ds ρ=aa ρ'->(∀σ',At Γ K G₀ H₀ G H ρ' σ'->Q σ' H)->TDgs Γ K g vs σ H Q
structure DG (Γ:Cn) (X:Cx) (tg:Expr) (g:FG):Prop where
 pg:PG X tg (TDg Γ X.K g)
 no:∀d ρ ρ',g d ρ=aa ρ'->eK ρ->eK ρ'
structure DGs (Γ:Cn) (X:Cx) (ts:ac Expr) (g:FGs):Prop where
 pg:PGs X ts (TDgs Γ X.K g)
 no:∀d ρ ρ',g d ρ=aa ρ'->eK ρ->eK ρ'
theorem PG.imp {t t':TG} (h:PG X tg t) (i:∀v σ H Q,t' v σ H Q->t v σ H Q):PG X tg t':=fun pins s σ H v u Q I r q=>h pins s σ H v u Q I r (i _ _ _ _ q)
theorem PGs.imp {t t':TGs} (h:PGs X ts t) (i:∀v σ H Q,t' v σ H Q->t v σ H Q):PGs X ts t':=fun pins s σ H v u Q I r q=>h pins s σ H v u Q I r (i _ _ _ _ q)
noncomputable def aA (i:ak):FG:=fun d ρ=>aa (ρ.set i (aa (.sh d)))
theorem Ku (h:eK ρ):eK (ρ.set i (aa (.sh d))):=fun j ds e=>by
 by_cases hj:j=i
 .subst hj;rw[List.getElem?_set,qY rfl] at e;split at e<;>cases e;exact⟨_,rfl⟩
 .rw[qz (cH hj)] at e;exact h j ds e
theorem lY (i:ak) (hN:X.N.Nodup) (hi:X.N[i]?=aa x:=by rfl) (hx:Loc X.env.scope x:=by ac_nf) (hf:X.fn x=ah\/X.env.scope.names.lookup x=aa .local:=by ac_nf):DG Γ X (.Name x pos) (aA i):=by
 refine⟨(NZ hN hi hx hf).imp fun v σ H Q=>?_,fun d ρ ρ' e h=>?_⟩
 .rintro⟨G₀,H₀,G,ρ,d,ρ',A,r,h,k⟩;cases h;exact k _ (A.setSh r)
 .cases e;exact Ku h
noncomputable def cM:FGs:=fun ds ρ=>match ds with
 |[]=>aa ρ
 |_=>af
noncomputable def bx (g:FG) (gs:FGs):FGs:=fun ds ρ=>match ds with
 |d::r=>(g d ρ).bind fun ρ'=>gs r ρ'
 |_=>af
theorem Ci:DGs Γ X [] cM:=by
 refine⟨O4.imp fun vs σ H Q=>?_,fun d ρ ρ' e h=>?_⟩
 .rintro⟨G₀,H₀,G,ρ,ds,ρ',A,r,h,k⟩;unfold cM at h;split at h<;>cases h;cases r;exact⟨rfl,k σ A⟩
 .unfold cM at e;split at e<;>cases e;exact h
theorem oV {g:FG} (h1:DG Γ X e g) (h2:DGs Γ X ts gs) (hs:(jk (e::ts) X.env).map (·.2)=jj e X.env::(jk ts X.env).map (·.2):=by rfl):DGs Γ X (e::ts) (bx g gs):=by
 refine⟨(Qn h1.pg h2.pg hs).imp fun vs σ H Q=>?_,fun ds ρ ρ' e h=>?_⟩
 .rintro⟨G₀,H₀,G,ρ,ds,ρ',A,r,h,k⟩;unfold bx at h;split at h
  .obtain⟨ρ1,h1,h⟩:=oBd h;cases r with
   |cons r1 r2=>exact⟨_,_,rfl,G₀,H₀,G,ρ,_,ρ1,A,r1,h1,fun σ1 A1=>⟨G₀,H₀,G,ρ1,_,ρ',A1,r2,h,k⟩⟩
  .cases h
 .unfold bx at e;split at e
  .obtain⟨ρ1,e1,e⟩:=oBd e;exact h2.no _ _ _ e (h1.no _ _ _ e1 h)
  .cases e
noncomputable def cN (n:ak) (gs:FGs):FG:=fun d ρ=>match d with
 |.tup ds=>if ds.length=n then gs ds ρ else af
 |_=>af
theorem BC {k:ak} (hc:X.calm=ah) (h:DGs Γ X ts gs) (hn:(jk ts X.env).length=n:=by rfl) (hst:(jk ts X.env).findIdx? (·.1)=af:=by rfl):DG Γ X (.Tuple ts k pos) (cN n gs):=by
 refine⟨(Os hc h.pg hn hst).imp fun v σ H Q=>?_,fun ds ρ ρ' e q=>?_⟩
 .rintro⟨G₀,H₀,G,ρ,d,ρ',A,r,h,k⟩;unfold cN at h;split at h
  .split at h
   .rename_i hl;obtain⟨a,vs,rfl,ha,rv⟩:=r.tup_inv;exact⟨a,vs,rfl,.inl (.inl (A.gh _ _ ha)),by rw[rv.length];exact hl,G₀,H₀,G,ρ,_,ρ',A,rv,h,k⟩
   .cases h
  .cases h
 .unfold cN at e;split at e
  .split at e
   .exact h.no _ _ _ e q
   .cases e
  .cases e
noncomputable def cg (g:FG) (ft:FT) (fe:FE):ac D->bA->aq (ac D)
 |[],_=>aa []
 |x::xs,ρ=>(g x ρ).bind fun ρ1=>(ft ρ1).bind fun b=>if b=ah then (fe ρ1).bind fun d=>(cg g ft fe xs ρ1).map (d::·) else cg g ft fe xs ρ1
noncomputable def eS (fv:ac (aq ak)) (ρ:bA):bA:=fv.map fun o=>o.bind fun j=>match ρ[j]? with
 |some (aa (.sh d))=>aa (.sh d)
 |_=>af
def ba (fi:FA) (g:FG) (ft:FT) (fe:FE) (fv:ac (aq ak)):FA:=fun ρ=>(fi ρ).bind fun xs=>if xs.length<=aJ then cg g ft fe xs (eS fv ρ) else af
structure DTs (Γ:Cn) (X:Cx) (es:ac Expr) (f:FT):Prop where
 out:PTs X es (TDt Γ X.K f)
theorem PTs.imp {t t':TT} (h:PTs X es t) (i:∀σ H Q,t' σ H Q->t σ H Q):PTs X es t':=fun pins s σ H Q I q=>h pins s σ H Q I (i _ _ _ q)
noncomputable def tT:FT:=fun _=>aa ah
theorem nC:DTs Γ X [] tT:=⟨RW.imp fun σ H Q=>by rintro⟨G₀,H₀,G,ρ,b,A,h,k⟩;cases h;exact k G H (.refl A.gh)⟩
theorem sG (h:DT Γ X c ft):DTs Γ X [c] ft:=⟨OR h.1⟩
variable {g:FG}
structure DB (Γ:Cn) (X:Cx) (N':ac ai) (scope:Scope) (tg:Expr) (ifs:ac Expr) (elt:Expr) (g:FG) (ft:FT) (fe:FE):Prop where
 out:∀(cl:ac (ai×au)) (C:au) (s₀:aE) (H₀:Hp) (fp:ac au),DG Γ .(br) tg g/\DTs Γ .(br) ifs ft/\DE Γ .(br) elt fe
theorem DB.pb (h:DB Γ X N' scope tg ifs elt g ft fe):PB X N' scope tg ifs elt (TDg Γ X.K g) (TDt Γ X.K ft) (TD Γ X.K fe):=fun cl C s₀ H₀ fp=>⟨(h.1 cl C s₀ H₀ fp).1.pg,(h.1 cl C s₀ H₀ fp).2.1.1,(h.1 cl C s₀ H₀ fp).2.2.1⟩
theorem CP (A:At Γ K G₀ H₀ G H ρ σ):At Γ K G H G H (eS fv ρ) (g8 fv σ)/\eK (eS fv ρ):=by
 have no:eK (eS fv ρ):=fun i ds e=>by
  unfold eS at e;rw[ql] at e;obtain⟨o,ho,e⟩:=oMd e;cases o with
  |none=>cases e
  |some j=>
   simp only[qc] at e;split at e<;>cases e;exact⟨_,rfl⟩
 refine⟨⟨.refl A.gh,.ofSh (by simp[eS,g8]) no fun i d e=>?_⟩,no⟩;unfold eS at e;unfold g8;rw[ql] at e ⊢;obtain⟨o,ho,e⟩:=oMd e;rw[ho];cases o with
 |none=>cases e
 |some j=>
  simp only[qc] at e;split at e
  .rename_i d' hd';cases e;obtain⟨v,h1,h2⟩:=A.env.sh j d hd';exact⟨v,by simp[h1],h2⟩
  .cases e
theorem EY {J:It} {σ1:St} {xs:ac D} {Q:VK} {acc:au} (no:∀d ρ ρ',g d ρ=aa ρ'->eK ρ->eK ρ') (A0:At Γ X.K G1 H1 G1 H1 ρ1 σ1) (no0:eK ρ1) (Y:Yd Γ X.K J G1 xs) (hz:xs.length<=aJ) (h:cg g ft fe xs ρ1=aa ds) (hacc:H1 acc=af)
  (k:∀p vs G' H',Step G1 H1 G' H'->H' p=af->Reps Γ X.K G' vs ds->Q (.ref p) (upd H' p (.lst vs))):LcW J (TDg Γ X.K g) (TDt Γ X.K ft) (TD Γ X.K fe) acc Q σ1 H1:=by
 have gacc:G1 acc=af:=A0.gh.free hacc;refine⟨fun i m ys σ' H'=>m=xs.length-i/\i<=xs.length/\ys.length<=i/\∃G' ρ' done bL,At Γ X.K G1 H1 G' H' ρ' σ'/\eK ρ'/\H' acc=aa (.lst ys)/\G' acc=af/\Reps Γ X.K G' ys done/\cg g ft fe (xs.drop i) ρ'=aa bL/\done++bL=ds,?_,?_⟩
 .refine⟨xs.length,rfl,eW _,qw _,G1,ρ1,[],ds,?_,no0,aV,gacc,.nil,by rw[p5];exact h,rfl⟩;have sn:=Step.newOwn (o:=.lst []) A0.gh hacc;exact⟨sn,.ofSh A0.env.len no0 A0.env.sh⟩
 .rintro i m ys σ' H' ⟨hm,hi,hyi,G',ρ',done,bL,A',no',hacc',gacc',ry,hr,hd⟩;subst hm;refine⟨hacc',?_⟩;by_cases hlt:i<xs.length
  .right
   have hxi:xs[i]?=aa xs[i]:=by simp[hlt]
   obtain⟨go,yl⟩:=Y.go i _ G' H' hxi A'.st.gg A'.gh;refine⟨go,fun x H2 hy=>?_⟩;obtain⟨G2,s2,r2⟩:=yl x H2 hy;have A2:=A'.step s2;have hdr:xs.drop i=xs[i]::xs.drop (i+1):=zg hlt;rw[hdr] at hr;unfold cg at hr;obtain⟨ρ2,h1,hr⟩:=oBd hr;obtain⟨b,h2,hr⟩:=oBd hr;refine⟨G1,H1,G2,ρ',_,ρ2,A2,r2,h1,fun σ2 A3=>⟨G1,H1,G2,ρ2,b,A3,h2,fun G4 H4 s4=>?_⟩⟩;have no1:=no _ _ _ h1 no';have hH4:H4 acc=aa (.lst ys):=s4.hh _ _ (s2.hh _ _ hacc');have hG4:G4 acc=af:=(s4.out _ _ (s2.hh _ _ hacc') rfl).trans ((s2.out _ _ hacc' rfl).trans gacc');cases b with
   |false=>
    rw[qZ qt] at hr;refine jy ⟨xs.length-(i+1),by omega,rfl,hlt,by omega,G4,ρ2,done,bL,A3.step s4,no1,hH4,hG4,(ry.mono s2.gg).mono s4.gg,hr,hd⟩
   |true=>
    rw[qY rfl] at hr;obtain⟨d,h3,hr⟩:=oBd hr;obtain⟨zs,h5,rfl⟩:=oMd hr;refine jM ⟨G1,H1,G4,ρ2,d,A3.step s4,h3,fun v G5 H5 s5 r5=>?_⟩;have A5:=(A3.step s4).step s5;have hH5:H5 acc=aa (.lst ys):=s5.hh _ _ hH4;have hG5:G5 acc=af:=(s5.out _ _ hH4 rfl).trans hG4;refine⟨hH5,by omega,xs.length-(i+1),by omega,rfl,hlt,by rw[qk,n9];omega,G5,ρ2,done++[d],zs,?_,no1,aV,hG5,((((ry.mono s2.gg).mono s4.gg).mono s5.gg).append (.cons r5 .nil)),h5,by rw[pV];exact hd⟩;refine⟨⟨fun b o e=>?_,A5.st.gg,fun b o e=>?_,A5.st.out⟩,.ofSh A5.env.len no1 A5.env.sh⟩
    .rw[ay (bi e hacc)];exact A5.st.hh b o e
    .rw[ay (bi e hG5)];exact A5.st.gh b o e
  .left
   have e:i=xs.length:=by omega
   subst e;rw[uV] at hr;cases hr;rw[gH] at hd;subst hd;refine⟨Y.stop G' H' A'.st.gg A'.gh,?_⟩;have hf:H'=upd (fun b=>if b=acc then af else H' b) acc (.lst ys):=by
    funext b
    by_cases hb:b=acc
    .subst hb;rw[aV];exact hacc'
    .rw[ay hb,qZ hb]
   rw[hf];refine k acc ys G' (fun b=>if b=acc then af else H' b) ⟨fun b o e=>?_,A'.st.gg,fun b o e=>?_,A'.st.out⟩ (qY rfl) ry
   .show(if b=acc then af else H' b)=aa o;rw[qZ (bi e hacc)];exact A'.st.hh b o e
   .show(if b=acc then af else H' b)=aa o;rw[qZ (bi e gacc')];exact A'.st.gh b o e
theorem BL (no:∀d ρ ρ',g d ρ=aa ρ'->eK ρ->eK ρ'):∀σ H Q,TDo Γ X.K (ba fi g ft fe fv) σ H Q->tLC (TDi Γ X.K fi) (TDg Γ X.K g) (TDt Γ X.K ft) (TD Γ X.K fe) fv σ H Q:=by
 rintro σ H Q ⟨G₀,H₀,G,ρ,ds,A,h,k⟩;unfold ba at h;obtain⟨xs,hx,h⟩:=oBd h;split at h
 case isFalse=>cases h
 rename_i hz;refine⟨G₀,H₀,G,ρ,xs,A,hx,fun J G1 H1 s1 Y acc hacc=>?_⟩;obtain⟨A0,no0⟩:=CP (fv:=fv) (A.step s1);exact EY no A0 no0 Y hz h hacc fun p vs G' H' s2 hp r=>k p vs G' H' (s1.trans s2) hp r
theorem Ji (hc:X.calm=ah) (S:CompScope X scope) (F:FvOk X N' scope fv) (hi:DI Γ X tg iter fi) (hb:DB Γ X N' scope tg ifs elt g ft fe) (hs:∀x,lf iter X.env x=aT x:=by intro _;rfl) :
  DO Γ X .(r) (ba fi g ft fe fv):=⟨(ES hc S F hi.1 hb.pb hs).imp (BL (hb.1 [] 0 X.s₀ X.H₀ []).1.no)⟩
end
variable {g g':FS} {sts:ac Stmt} {gg:FG} {vp:c8}
section
variable {a c:Expr}
noncomputable def aY:FS:=fun ρ=>aa (.nx,ρ)
noncomputable def aw (g g':FS):FS:=fun ρ=>(g ρ).bind fun r=>match r.1 with
 |.nx=>g' r.2
 |fl=>aa (fl,r.2)
theorem df:DSs Γ X [] aY:=⟨OE.imp fun E σ H=>by rintro⟨G₀,H₀,G,ρ,fl,ρ',A,h,k⟩;cases h;exact k σ G H (.refl _) A⟩
theorem bC (h:DS Γ X st g):DSs Γ X [st] g:=⟨KW h.1⟩
theorem aF (h1:DS Γ X st g) (h2:DSs Γ X sts g'):DSs Γ X (st::sts) (aw g g'):=⟨(Rq h1.1 h2.1).imp fun E σ H=>by
 rintro⟨G₀,H₀,G,ρ,fl,ρ',A,h,k⟩;unfold aw at h;obtain⟨⟨fl1,ρ1⟩,h1,h⟩:=oBd h;refine⟨G₀,H₀,G,ρ,fl1,ρ1,A,h1,fun σ1 G1 H1 sm A1=>?_⟩;cases fl1 with
 |nx=>exact⟨G₀,H₀,G1,ρ1,fl,ρ',A1,h,fun σ' G' H' sm' A'=>k σ' G' H' (sm.trans sm') A'⟩
 |bk=>cases h;exact k σ1 G1 H1 sm A1
 |ct=>cases h;exact k σ1 G1 H1 sm A1
 |rt d=>cases h;exact k σ1 G1 H1 sm A1
 |ow d=>cases h;exact k σ1 G1 H1 sm A1
 |nw d=>cases h;exact k σ1 G1 H1 sm A1
 |od d=>cases h;exact k σ1 G1 H1 sm A1⟩
noncomputable def aG (f:FE):FS:=fun ρ=>(f ρ).map fun d=>(.rt d,ρ)
theorem cQ (h:DE Γ X e f):DS Γ X (.Return (aa e) pos) (aG f):=⟨(EM h.1).imp fun E σ H=>by rintro⟨G₀,H₀,G,ρ,fl,ρ',A,h,k⟩;unfold aG at h;obtain⟨d,hd,h⟩:=oMd h;cases h;exact⟨G₀,H₀,G,ρ,d,A,hd,fun v G' H' s r=>k σ G' H' s.gg (A.step s) v r⟩⟩
noncomputable def aR (i:ak) (f:FE):FS:=fun ρ=>(f ρ).map fun d=>(.nx,ρ.set i (aa (.sh d)))
theorem iu (i:ak) (hN:X.N.Nodup) (h:DE Γ X e f) (hi:X.N[i]?=aa x:=by rfl) (hx:Loc X.env.scope x:=by ac_nf) (hs:dh e (aa (.Name x pos')) pos.line X.env=aT ar:=by rfl) (hf:X.fn x=ah\/X.env.scope.names.lookup x=aa .local:=by ac_nf) :
  DS Γ X (.Assign [.Name x pos'] e pos) (aR i f):=⟨(pd hN hi hx h.1 hs hf).imp fun E σ H=>by
 rintro⟨G₀,H₀,G,ρ,fl,ρ',A,h,k⟩;unfold aR at h;obtain⟨d,hd,h⟩:=oMd h;cases h;exact⟨G₀,H₀,G,ρ,d,A,hd,fun v G' H' s r=>k _ G' H' s.gg ((A.step s).setSh r)⟩⟩
noncomputable def eQ (i:ak) (f:FA):FS:=fun ρ=>(f ρ).map fun d=>(.nx,ρ.set i (aa (.own d)))
theorem KD :∀E σ H,TDs Γ X.K (eQ i fr) E σ H->o8 (TDo Γ X.K fr) (oX i) E σ H:=by rintro E σ H ⟨G₀,H₀,G,ρ,fl,ρ',A,h,k⟩;unfold eQ at h;obtain⟨d,hd,h⟩:=oMd h;cases h;exact⟨G₀,H₀,G,ρ,d,A,hd,fun p vs G' H' s hp r=>k _ G' _ s.gg ((A.step s).setOwn hp r)⟩
theorem K4 (i:ak) (hN:X.N.Nodup) (h:DO Γ X e fr) (hi:X.N[i]?=aa x:=by rfl) (hx:Loc X.env.scope x:=by ac_nf) (hs:dh e (aa (.Name x pos')) pos.line X.env=aT ar:=by rfl) (hf:X.fn x=ah\/X.env.scope.names.lookup x=aa .local:=by ac_nf) :
  DS Γ X (.Assign [.Name x pos'] e pos) (eQ i fr):=⟨(pd hN hi hx h.1 hs hf).imp KD⟩
theorem OH :∀E σ H,TDs Γ X.K (aR i (aS fr)) E σ H->o8 (TDo Γ X.K fr) (oX i) E σ H:=by rintro E σ H ⟨G₀,H₀,G,ρ,fl,ρ',A,h,k⟩;unfold aR aS at h;obtain⟨d,hd,h⟩:=oMd h;obtain⟨ds,hd',rfl⟩:=oMd hd;cases h;refine⟨G₀,H₀,G,ρ,ds,A,hd',fun p vs G' H' s hp r=>?_⟩;have s2:=Step.new (o:=.lst vs) s.gh hp;exact k _ _ _ (s.gg.trans s2.gg) (((A.step s).step s2).setSh (.lst aV (r.mono s2.gg)))
theorem HV (i:ak) {y:ai} (hN:X.N.Nodup) (hc:X.calm=ah) (S:CompScope X scope) (F:FvOk X N' scope fv) (hi:DI Γ X tg iter fi) (hb:DB Γ X N' scope tg ifs elt gg ft fe)
  (hy:X.N[i]?=aa y:=by rfl) (hyl:X.env.scope.names.lookup y=aa .local:=by rfl) (hsw:dh .(r) (aa (.Name y py)) spos.line X.env=aT ah:=by rfl) (hs:∀x,lf iter X.env x=aT x:=by intro _;rfl) :
  DS Γ X (.Assign [.Name y py] .(r) spos) (aR i (aS (ba fi gg ft fe fv))):=⟨(KJ hN hy hyl hc S F hi.1 hb.pb hsw hs).imp fun E σ H q=>BL (hb.1 [] 0 X.s₀ X.H₀ []).1.no σ H _ (OH E σ H q)⟩
noncomputable def gb (i:ak) (f:FE):FS:=fun ρ=>match ρ[i]? with
 |some (aa (.own ds))=>(f ρ).bind fun d=>if ds.length<aJ then aa (.nx,ρ.set i (aa (.own (ds++[d])))) else af
 |_=>af
theorem Ix (i:ak) (h:DE Γ X e f) (hN:X.N[i]?=aa x:=by rfl) (hv:Vis X.env.scope x:=by ac_nf) (hd:.(o)=ar:=by decide)
  (hcd:.(C)=ar:=by decide)
  (hbase:gG .(x) "append" X.env (eval .(x) X.env)=eval .(x) X.env:=by rfl)
  (hfew:((bF cpos (aH [e] X.env)).all (fun x=>!x.1) && (dR cpos (dS [] X.env)).all (fun x=>x.1.isSome)
   && decide ([e].length+([]:ac gI).length+.(aY)<30))=ah:=by rfl)
  (hline:.(bv)=ah:=by rfl) (hs:aH [e] X.env=(ar,eval e X.env)::aH [] X.env:=by rfl) (hplain:(bF cpos .(bC)).any (·.1)=ar:=by rfl)
  (hsw:dh (.Call (.Attribute .(x) "append" apos) [e] [] cpos) af pos.line X.env=aT ar:=by rfl) :
  DS Γ X (.Expr (.Call (.Attribute .(x) "append" apos) [e] [] cpos) pos) (gb i f):=⟨(oz (ui F6 FU Tv xz .(aB) (e7 h.1 fD hs) hbase hfew hline hs hplain) hsw).imp fun E σ H=>by
  rintro⟨G₀,H₀,G,ρ,fl,ρ',A,h,k⟩;unfold gb at h;split at h
  .rename_i ds hi;obtain⟨d,hd,h⟩:=oBd h;split at h
   .rename_i hz;cases h;obtain⟨a,vs,h1,h2,h3,h4,h5⟩:=A.env.own i ds hi;refine⟨.ref a,h1,.inl ⟨rfl,vs,.inl (.inl h4)⟩,G₀,H₀,G,ρ,d,A,hd,fun v G1 H1 s1 r1=>?_⟩;have A1:=A.step s1;refine⟨a,vs,v,rfl,rfl,s1.hh _ _ h4,by rw[h5.length];exact hz,?_⟩;exact k σ G1 _ s1.gg (A1.chOwn hi h1 ((h5.mono s1.gg).append (.cons r1 .nil)))
   .cases h
  .cases h⟩
noncomputable def ff (i:ak) (g:FS):FS:=fun ρ=>match ρ[i]? with
 |some (aa (.own ds))=>g (ρ.set i (aa (.sh (.lst ds))))
 |_=>af
theorem TDs.frz (i:ak):∀E σ H,TDs Γ X.K (ff i g) E σ H->TDs Γ X.K g E σ H:=by
 rintro E σ H ⟨G₀,H₀,G,ρ,fl,ρ',A,h,k⟩;unfold ff at h;split at h
 .rename_i ds hi;obtain⟨G',sm,A'⟩:=A.freeze hi;exact⟨G₀,H₀,G',_,fl,ρ',A',h,fun σ1 G1 H1 sm1 A1=>k σ1 G1 H1 (sm.trans sm1) A1⟩
 .cases h
theorem wJ (i:ak) (h:DSs Γ X sts g):DSs Γ X sts (ff i g):=⟨h.1.imp (TDs.frz i)⟩
noncomputable def sIf (ft:FT) (g g':FS):FS:=fun ρ=>(ft ρ).bind fun c=>if c=ah then g ρ else g' ρ
theorem c7 {sa sb:ac Stmt} (hc:DT Γ X c ft) (ha:DSs Γ X sa g) (hb:DSs Γ X sb g'):DS Γ X (.If c sa sb pos) (sIf ft g g'):=⟨(HJ hc.1 ha.1 hb.1).imp fun E σ H=>by
 rintro⟨G₀,H₀,G,ρ,fl,ρ',A,h,k⟩;unfold sIf at h;obtain⟨x,hx,h⟩:=oBd h;refine⟨G₀,H₀,G,ρ,x,A,hx,fun G1 H1 s1=>?_⟩;cases x with
 |true=>exact jM ⟨G₀,H₀,G1,ρ,fl,ρ',A.step s1,by simpa using h,fun σ2 G2 H2 sm2 A2=>k σ2 G2 H2 (s1.gg.trans sm2) A2⟩
 |false=>exact jy ⟨G₀,H₀,G1,ρ,fl,ρ',A.step s1,by simpa using h,fun σ2 G2 H2 sm2 A2=>k σ2 G2 H2 (s1.gg.trans sm2) A2⟩⟩
noncomputable def mf (gg:FG) (f:FE):FS:=fun ρ=>(f ρ).bind fun d=>(gg d ρ).map fun ρ'=>(.nx,ρ')
theorem wH (h:DE Γ X e f) (hg:DG Γ X tg gg) (hs:Fp [tg] e pos.line X.env=aT ar:=by rfl) (hw:Fq [tg] e X.env=aT af:=by rfl)
  (h1:(jk [tg] X.env).map (·.2)=[jj tg X.env]:=by rfl):DS Γ X (.Assign [tg] e pos) (mf gg f):=⟨(Cf h.1 hg.pg hs hw h1).imp fun E σ H=>by
 rintro⟨G₀,H₀,G,ρ,fl,ρ',A,h,k⟩;unfold mf at h;obtain⟨d,hd,h⟩:=oBd h;obtain⟨ρ1,h1,h⟩:=oMd h;cases h;exact⟨G₀,H₀,G,ρ,d,A,hd,fun v G' H' s r=>⟨G₀,H₀,G',ρ,d,ρ',A.step s,r,h1,fun σ' A'=>k σ' G' H' s.gg A'⟩⟩⟩
noncomputable def dD (gg:FG) (body:FS):ac D->FS
 |[],ρ=>aa (.nx,ρ)
 |x::xs,ρ=>(gg x ρ).bind fun ρ1=>(body ρ1).bind fun r=>match r.1 with
  |.nx=>dD gg body xs r.2
  |.ct=>dD gg body xs r.2
  |.bk=>aa (.nx,r.2)
  |.rt d=>aa (.rt d,r.2)
  |.ow d=>aa (.ow d,r.2)
  |.nw d=>aa (.nw d,r.2)
  |.od d=>aa (.od d,r.2)
def bW (fi:FA) (gg:FG) (body:FS):FS:=fun ρ=>(fi ρ).bind fun xs=>dD gg body xs ρ
theorem dN (hp:PassesOwn .(n) X.A X.env X.xe) (hc:X.calm=ah) (hi:DI Γ X tg iter fi) (hg:DG Γ X tg gg) (hb:DSs Γ X body g) (hs:∀x,lf iter X.env x=aT x:=by intro _;rfl) :
  DS Γ X (.For tg iter body [] pos) (bW fi gg g):=⟨(PJ hp hc hi.1 hg.pg hb.1 hs).imp fun E σ H=>by
 rintro⟨G₀,H₀,G,ρ,fl,ρ',A,h,k⟩;unfold bW at h;obtain⟨xs,hx,h⟩:=oBd h;refine⟨G₀,H₀,G,ρ,xs,A,hx,fun J G1 H1 s1 Y=>?_⟩;refine⟨fun i m σ' H'=>m=xs.length-i/\i<=xs.length/\∃G' ρ1,aQ G1 G'/\At Γ X.K G₀ H₀ G' H' ρ1 σ'/\dD gg g (xs.drop i) ρ1=aa (fl,ρ'),⟨xs.length,rfl,eW _,G1,ρ,.refl _,A.step s1,by rw[p5];exact h⟩,?_⟩;rintro i m σ' H' ⟨rfl,hi,G',ρ1,sm,A',hr⟩;by_cases hlt:i<xs.length
 .right
  have hxi:xs[i]?=aa xs[i]:=by simp[hlt]
  obtain⟨go,yl⟩:=Y.go i _ G' H' hxi sm A'.gh;have hdr:xs.drop i=xs[i]::xs.drop (i+1):=zg hlt;rw[hdr] at hr;unfold dD at hr;obtain⟨ρ2,h2,hr⟩:=oBd hr;obtain⟨⟨fl3,ρ3⟩,h3,hr⟩:=oBd hr;refine⟨go,fun σ3 H3=>(fl3=.nx\/fl3=.ct)/\∃G3,aQ G1 G3/\At Γ X.K G₀ H₀ G3 H3 ρ3 σ3,fun σ3 H3 ⟨hfl,G3,sm3,A3⟩=>?_,fun x H2 hy=>?_⟩
  .refine⟨xs.length-(i+1),by omega,rfl,hlt,G3,ρ3,sm3,A3,?_⟩;rcases hfl with e|e<;>subst e<;>exact hr
  .obtain⟨G2,s2,r2⟩:=yl x H2 hy;refine⟨G₀,H₀,G2,ρ1,_,ρ2,A'.step s2,r2,h2,fun σ2 A2=>⟨G₀,H₀,G2,ρ2,fl3,ρ3,A2,h3,fun σ3 G3 H3 sm3 A3=>?_⟩⟩;have smm:aQ G1 G3:=(sm.trans s2.gg).trans sm3;cases fl3 with
   |nx=>exact⟨.inl rfl,G3,smm,A3⟩
   |ct=>exact⟨.inr rfl,G3,smm,A3⟩
   |bk=>cases hr;exact k σ3 G3 H3 (s1.gg.trans smm) A3
   |rt d=>cases hr;exact k σ3 G3 H3 (s1.gg.trans smm) A3
   |ow d=>cases hr;exact k σ3 G3 H3 (s1.gg.trans smm) A3
   |nw d=>cases hr;exact k σ3 G3 H3 (s1.gg.trans smm) A3
   |od d=>cases hr;exact k σ3 G3 H3 (s1.gg.trans smm) A3
 .left
  have e:i=xs.length:=by omega
  subst e;rw[uV] at hr;cases hr;exact⟨Y.stop G' H' sm A'.gh,k σ' G' H' (s1.gg.trans sm) A'⟩⟩
end
variable {fk:FE} {F:ac D->aq D}
section
variable {a c:Expr} {fw:FE}
theorem Bf:DE Γ X (.Dict [] [] pos) (vC (.dk [])):=⟨tE.imp fun σ H Q=>by rintro⟨G₀,H₀,G,ρ,d,A,h,k⟩ p hp;cases h;have s:=Step.new (o:=.dK []) A.gh hp;exact k _ _ _ s (.dk (us:=[]) (kvs:=[]) aV rfl .nil)⟩
inductive spF (Γ:Cn) (K:aM) (n:ak) (F:ac D->aq D) (vs:ac V) (H:Hp) (Q:VK) (_e3:XK):Prop where
 |mk:∀G ds d,aQ G H->Reps Γ K G vs ds->ds.length=n->F ds=aa d->(∀v G' H',Step G H G' H'->Rep Γ K G' v d->Q v H')->spF Γ K n F vs H Q _e3
noncomputable def aP (n:ak) (g:FS):ac D->aq D:=fun ds=>(g (ds.map .(N)++bJ n af)).bind fun r=>match r.1 with
 |.rt d=>aa d
 |.nx=>aa .non
 |_=>af
theorem sd {m:ak} (gh:aQ G H) (r:Reps Γ K G vs ds) (hm:m=N.length-vs.length):At Γ K G H G H (ds.map .(N)++bJ m af) (dw N vs):=by
 have no:eK (ds.map .(N)++bJ m af):=fun i es e=>by
  by_cases hi:i<ds.length
  .rw[qA .(bu),ql] at e;obtain⟨d,_,e⟩:=oMd e;cases e;exact⟨_,rfl⟩
  .rw[qM .(bu),uO] at e;split at e<;>cases e
 refine⟨.refl gh,.ofSh (by simp[dw,r.length,hm]) no fun i d e=>?_⟩;by_cases hi:i<ds.length
 .rw[qA .(bu),ql] at e;obtain⟨d',hd,e⟩:=oMd e;cases e;obtain⟨v,hv,rv⟩:=r.get hd;refine⟨v,?_,rv⟩;unfold dw;rw[qA (by rw[qg,r.length];exact hi),ql,hv];rfl
 .rw[qM .(bu),uO] at e;split at e<;>cases e
theorem Fun.okD {f:au} {k:ak} (F:Fun K x qual st f fd) (S:FnScope N ps (aB st))
  (hbody:∀(cdv:av) (A:cv) (outer:ac ci) (s:aE) (H:Hp) (E:XK),Room k .(j)->
   DSs Γ .(g).nox (bR st) g):FnOk P w K mg base CX0 (k+1) f fd ps (spF Γ K ps.length (aP (N.length-ps.length) g)):=by
 refine F.ok S (fun vs H Q E h=>?_) (fun cdv A outer s H vs Q E hr h=>?_)
 .obtain⟨G,ds,d,_,r,hl,_⟩:=h;rw[r.length,hl]
 .obtain⟨G,ds,d,gh,r,hl,hd,k⟩:=h;refine⟨_,(hbody cdv A outer s H E hr).1,?_⟩;unfold aP at hd;obtain⟨⟨fl,ρ'⟩,hg,hd⟩:=oBd hd;refine⟨G,H,G,_,fl,ρ',sd gh r (by rw[r.length,hl]),hg,fun σ' G' H' sm A'=>?_⟩;cases fl with
  |rt d'=>cases hd;exact fun v rv=>k v G' H' A'.st rv
  |nx=>cases hd;exact k .non G' H' A'.st .non
  |bk=>cases hd
  |ct=>cases hd
  |ow d=>cases hd
  |nw d=>cases hd
  |od d=>cases hd
theorem Nl {k:ak} {fx:au} (Fo:FnOk X.prog X.w X.K X.mg X.base CX0 k fx fd ps (spF Γ X.K n F)) (hr:Room k X.A) (hg:Gl X x) (hm:X.mg x=aa (.ref fx)) (hk:fQ X.K (.ref fx)=ah) (hb:dU X.K fd ps [])
  (ha:DA Γ X (e::es) fr) (hn:∀ρ ds,fr ρ=aa ds->ds.length=n) (hdb:.(o)=ar:=by decide) (he:aH (e::es) X.env=(ar,eval e X.env)::aH es X.env:=by rfl) (hpl:.(af).any (·.1)=ar:=by rfl) :
  DE Γ X .(ap) (cF F fr):=⟨(IK Fo hr hg hm hk hb .nil jz ha.1 hdb he hpl).imp fun σ H Q=>by
 rintro⟨G₀,H₀,G,ρ,d,A,h,k⟩;unfold cF at h;obtain⟨ds,hd,h⟩:=oBd h;refine⟨G₀,H₀,G,ρ,ds,A,hd,fun vs G1 H1 s1 r1=>?_⟩;show spF Γ X.K n F (vs++[]) H1 Q E0;rw[gH];exact⟨G1,ds,d,s1.gh,r1,hn ρ ds hd,h,fun v G' H' s r=>k v G' H' (s1.trans s) r⟩⟩
theorem Hr (h:ao ρ=aa ds):ds.length=0:=by cases h;rfl
theorem ma (hn:∀ρ ds,fr ρ=aa ds->ds.length=n):∀ρ ds,ag fa fr ρ=aa ds->ds.length=n+1:=fun ρ ds h=>by unfold ag at h;obtain⟨x,hx,h⟩:=oBd h;obtain⟨xs,hxs,rfl⟩:=oMd h;rw[qj,hn ρ xs hxs]
end
structure Cal (Γ:Cn) (P:dy) (w:cA) (K:aM) (mg:ai->aq av) (base:Heap) (x:ai) (n k:ak) (F:ac D->aq D):Prop where
 ex:∃f fd ps,FnOk P w K mg base CX0 k f fd ps (spF Γ K n F)/\mg x=aa (.ref f)/\fQ K (.ref f)=ah/\dU K fd ps []
structure Dfn (K:aM) (mg:ai->aq av) (x:ai) (st:Stmt):Prop where
 ex:∃f fd,Fun K x x st f fd/\mg x=aa (.ref f)
theorem tI {k:ak} (C:Cal Γ X.prog X.w X.K X.mg X.base x n k F) (hr:Room j X.A) (hk:k<=j) (hg:Gl X x) (ha:DA Γ X (e::es) fr) (hn:∀ρ ds,fr ρ=aa ds->ds.length=n)
  (hdb:.(o)=ar:=by decide) (he:aH (e::es) X.env=(ar,eval e X.env)::aH es X.env:=by rfl) (hpl:.(af).any (·.1)=ar:=by rfl) :
  DE Γ X .(ap) (cF F fr):=by
 obtain⟨f,fd,ps,h1,h2,h3,h4⟩:=C.ex;exact Nl h1 (hr.mono hk) hg h2 h3 h4 ha hn hdb he hpl
theorem Dfn.cal {k:ak} (F:Dfn K mg x st) (S:FnScope N ps (aB st))
  (hb:∀(kV doc pm:av) (an:aq au) (cdv ct:av) (us:ac av),us.length=ps.length->dQ (cV x x (cW st) (bR st) (aB st) .none kV doc pm an cdv ct) ⟨us,[]⟩=aT (ps.zip us))
  (hbody:∀(f:au) (cdv:av) (A:cv) (outer:ac ci) (s:aE) (H:Hp) (E:XK),Room k (A.deeper (cY x (aB st) s.heap.objs.size f cdv))->
   DSs Γ (c9 CX0 P w K mg base N x (aB st) f cdv A outer s H E).nox (bR st) g):Cal Γ P w K mg base x ps.length (k+1) (aP (N.length-ps.length) g):=by
 obtain⟨f,fd,h1,h2⟩:=F.ex;exact⟨f,fd,ps,h1.okD S (hbody f),h2,h1.kp,h1.binds hb⟩
theorem Dfn.mk' {h:Heap} {f:au} {kV:av} (X:K.In h) (G:h.Ns eU mg) (a:p6 K eU x=aa (aa (.ref f)))
  (l:K.lookup f=aa ⟨oc,od,.func (cV x x (cW st) (bR st) (aB st) .none kV doc pm an cdv ct),osl⟩) (c:mI K cdv x=ah) (k:fQ K (.ref f)=ah):Dfn K mg x st:=
 ⟨f,_,xH l c k,p8 X G a⟩
noncomputable def rO (names:ac (ai×hV)) (outer:ac (ai×hV)):aN:=
 names.all fun y=>y.2 != .cell && (y.2 != .local || names.lookup y.1==aa .local) && (y.2 != .free || outer.lookup y.1==aa .cell || outer.lookup y.1==aa .free)
theorem CompScope.of (hk:scope.kind=.function) (h:rO scope.names X.env.scope.names=ah):CompScope X scope:=by
 unfold rO at h;rw[ia] at h;refine⟨hk,fun y hy e=>?_,fun y hy e=>?_,fun y hy e=>?_⟩
 .have:=h y hy;rw[e] at this;simp at this
 .have:=h y hy;rw[e] at this;simpa using this
 .have:=h y hy;rw[e] at this;simpa[Env.kindOf] using this
noncomputable def t7 (N':ac ai) (fv:ac (aq ak)) (N:ac ai) (outer names:ac (ai×hV)):aN:=
 fv.length==N'.length && (N'.zip fv).all fun y=>match y.2 with
  |none=>ah
  |some j=>N[j]?==aa y.1 && (outer.lookup y.1==aa .cell || outer.lookup y.1==aa .free) && names.lookup y.1==aa .free
theorem FvOk.of (h:t7 N' fv X.N X.env.scope.names scope.names=ah):FvOk X N' scope fv:=by
 unfold t7 at h;rw[eX,ia] at h;obtain⟨h1,h2⟩:=h;refine⟨by simpa using h1,fun i j x e1 e2=>?_⟩;have hm:(x,aa j)∈N'.zip fv:=by refine uW.mpr ⟨i,?_⟩;rw[List.getElem?_zip_eq_some];exact⟨e1,e2⟩
 have:=h2 _ hm;simp only[eX,F3,jX] at this;exact⟨this.1.1,this.1.2,this.2⟩
mutual
noncomputable def pdD:D->aq uX
 |.non=>aa .none
 |.bl b=>aa (.bool b)
 |.int i=>aa (.int i)
 |.str x=>aa (.str x)
 |.tup l=>(eZ l).map PyData.tuple
 |.lst l=>(eZ l).map PyData.list
 |.scr ns=>aa (.list (ns.map Tw))
 |_=>af
noncomputable def eZ:ac D->aq (ac uX)
 |[]=>aa []
 |d::r=>(pdD d).bind fun p=>(eZ r).map (p::·)
end
theorem O6 {h:Heap} :∀{ns:ac aj} {us:ac av},aU .(bm) us->∃as,F7 h us (ns.map Tw) as:=by
 intro xs0
 induction xs0 with
 |nil=>
  intro _ r;rw[qQ] at r;cases r;exact⟨_,.nil⟩
 |cons n ns ih=>
  intro _ r;rw[qo] at r;cases r with
  |cons r1 r2=>
   obtain⟨t,e⟩:=r1;subst e;obtain⟨as,q⟩:=ih r2;exact⟨_,.cons (.int n t) q⟩
theorem Rep.reads (I:Inv X pins σ H s) (gh:aQ G H) {p:uX} (r:Rep Γ X.K G v d):bp v u->pdD d=aa p->∃as,Reads s.heap u p as:=by
 refine r.rec (motive_1:=fun v d _=>∀u p,bp v u->pdD d=aa p->∃as,Reads s.heap u p as) (motive_2:=fun vs ds _=>∀us ps,aU vs us->eZ ds=aa ps->∃as,F7 s.heap us ps as) ?_ ?_ ?_ ?_ ?_ ?_ ?_ ?_ ?_ ?_ ?_ ?_ ?_ ?_ ?_ u p
 .intro u p r h;cases r;rw[pdD] at h;cases h;exact⟨_,.none⟩
 .intro b u p r h;cases r;rw[pdD] at h;cases h;exact⟨_,.bool b⟩
 .intro i u p r h;obtain⟨t,rfl⟩:=r;rw[pdD] at h;cases h;exact⟨_,.int i t⟩
 .intro x u p r h;obtain⟨t,rfl⟩:=r;rw[pdD] at h;cases h;exact⟨_,.str x t⟩
 .intro n u p r h;rw[pdD] at h;cases h;all_goals (intros;contradiction)
 .intro a vs ds ha _ i u p r h;cases r;rw[pdD] at h;obtain⟨ps,hp,rfl⟩:=oMd h;obtain⟨its,rv,⟨o,e1,e2,n,e3⟩,_⟩:=I.tuple (.inl .(bd));obtain⟨as,q⟩:=i _ _ rv hp;exact⟨_,.tuple e1 e2 e3 (by simpa using q)⟩
 .intro a vs ds ha _ i u p r h;cases r;rw[pdD] at h;obtain⟨ps,hp,rfl⟩:=oMd h;obtain⟨its,rv,⟨o,n,e1,e2,_,e3⟩,_⟩:=I.list (.inl .(bd));obtain⟨as,q⟩:=i _ _ rv hp;exact⟨_,.list e1 e2 e3 (by simpa using q)⟩
 .intro a ns hs u p r h;cases r;rw[pdD] at h;cases h;obtain⟨its,rv,⟨o,n,e1,e2,_,e3⟩,_⟩:=I.list (gh.seq hs);obtain⟨as,q⟩:=O6 (h:=s.heap) rv;exact⟨_,.list e1 e2 e3 (by simpa using q)⟩
 iterate 5
  .intros
   rename_i h;rw[pdD] at h;cases h;all_goals (intros;contradiction)
 .intro us ps r h;cases r;rw[eZ] at h;cases h;exact⟨_,.nil⟩
 .intro v d vs ds _ _ i1 i2 us ps r h;cases r with
  |cons q1 q2=>
   rw[eZ] at h;obtain⟨p,hp,h⟩:=oBd h;obtain⟨ps,hps,rfl⟩:=oMd h;obtain⟨as,a1⟩:=i1 _ _ q1 hp;obtain⟨bs,a2⟩:=i2 _ _ q2 hps;exact⟨_,.cons a1 a2⟩
theorem Reps.reads (I:Inv X pins σ H s) (gh:aQ G H):∀{vs:ac V} {ds:ac D} {us:ac av} {ps:ac uX},Reps Γ X.K G vs ds->aU vs us->eZ ds=aa ps->∃as,F7 s.heap us ps as
 |_,[],_,_,q,r,h=>by cases q;cases r;rw[eZ] at h;cases h;exact⟨_,.nil⟩
 |_,_::_,_,_,q,r,h=>by
  obtain _|⟨r1,r2⟩:=q;cases r with
  |cons q1 q2=>
   rw[eZ] at h;obtain⟨p,hp,h⟩:=oBd h;obtain⟨ps,hps,rfl⟩:=oMd h;obtain⟨as,a1⟩:=Rep.reads I gh r1 q1 hp;obtain⟨bs,a2⟩:=Reps.reads I gh r2 q2 hps;exact⟨_,.cons a1 a2⟩
section
variable {a c:Expr}
noncomputable def eqX (x y:D):aq aN:=(pdD x).bind fun p=>(pdD y).bind fun q=>if eY p=ah/\eY q=ah then aa (gf p q) else af
def oO (x y:D):aq D:=(eqX x y).map D.bl
def jc (x y:D):aq D:=(eqX x y).map fun b=>D.bl (!b)
def rX (Γ:Cn) (K:aM) (neg:aN):R2:=fun x y H Q=>∃G d e b,aQ G H/\Rep Γ K G x d/\Rep Γ K G y e/\eqX d e=aa b/\Q (.bl (if neg then !b else b)) H
theorem xV {x y:D} {b:aN} (h:eqX x y=aa b):∃p q,pdD x=aa p/\pdD y=aa q/\eY p=ah/\eY q=ah/\b=gf p q:=by
 unfold eqX at h;obtain⟨p,hp,h⟩:=oBd h;obtain⟨q,hq,h⟩:=oBd h;split at h
 .rename_i hz;cases h;exact⟨p,q,hp,hq,hz.1,hz.2,rfl⟩
 .cases h
theorem HQ (hu:X.A.units+64<bY):OpR X (di .Eq) (rX Γ X.K ar):=by intro pins s σ H x y v u Q I rx ry h;obtain⟨G,d,e,b,gh,r1,r2,hb,q⟩:=h;obtain⟨p,q',hp,hq,s1,s2,rfl⟩:=xV hb;obtain⟨as,a1⟩:=r1.reads I gh rx hp;obtain⟨bs,a2⟩:=r2.reads I gh ry hq;exact eq_dataH a1 a2 s1 s2 hu ⟨.bl _,H,I,rfl,q⟩
theorem Km (hu:X.A.units+64<bY):OpR X (di .NotEq) (rX Γ X.K ah):=by intro pins s σ H x y v u Q I rx ry h;obtain⟨G,d,e,b,gh,r1,r2,hb,q⟩:=h;obtain⟨p,q',hp,hq,s1,s2,rfl⟩:=xV hb;obtain⟨as,a1⟩:=r1.reads I gh rx hp;obtain⟨bs,a2⟩:=r2.reads I gh ry hq;exact ne_dataH a1 a2 s1 s2 hu ⟨.bl _,H,I,rfl,q⟩
theorem MJ (hu:X.A.units+64<bY):CmpD Γ X .Eq oO:=⟨_,HQ (Γ:=Γ) hu,fun {G H v u x y z} gh r1 r2 h Q k=>by unfold oO at h;obtain⟨b,hb,rfl⟩:=oMd h;exact⟨G,x,y,b,gh,r1,r2,hb,k _ G H .(aD) (.bl _)⟩⟩
theorem C7 (hu:X.A.units+64<bY):CmpD Γ X .NotEq jc:=⟨_,Km (Γ:=Γ) hu,fun {G H v u x y z} gh r1 r2 h Q k=>by unfold jc at h;obtain⟨b,hb,rfl⟩:=oMd h;exact⟨G,x,y,b,gh,r1,r2,hb,k _ G H .(aD) (.bl _)⟩⟩
noncomputable def inX (x y:D):aq aN:=(pdD x).bind fun p=>(pdD y).bind fun q=>match q with
 |.list l=>if eY p=ah/\j7 l=ah then aa (l.any fun z=>gf z p) else af
 |_=>af
def gJ (x y:D):aq D:=(inX x y).map D.bl
def An (x y:D):aq D:=(inX x y).map fun b=>D.bl (!b)
def EX (Γ:Cn) (K:aM) (neg:aN):R2:=fun x y H Q=>∃G d e b,aQ G H/\Rep Γ K G x d/\Rep Γ K G y e/\inX d e=aa b/\Q (.bl (if neg then !b else b)) H
theorem C1 {x y:D} {b:aN} (h:inX x y=aa b):∃p l,pdD x=aa p/\pdD y=aa (.list l)/\eY p=ah/\j7 l=ah/\b=l.any fun z=>gf z p:=by
 unfold inX at h;obtain⟨p,hp,h⟩:=oBd h;obtain⟨q,hq,h⟩:=oBd h;split at h
 .split at h
  .rename_i hz;cases h;exact⟨p,_,hp,hq,hz.1,hz.2,rfl⟩
  .cases h
 .cases h
theorem CN {p:uX} (h:eY p=ah):p.canLay0=ah/\p.depth<=64:=by unfold eY at h;rw[eX] at h;exact⟨h.1,jt h.2⟩
theorem Rw (hu:X.A.units+66<bY):OpR X (di .In) (EX Γ X.K ar):=by intro pins s σ H x y v u Q I rx ry h;obtain⟨G,d,e,b,gh,r1,r2,hb,q⟩:=h;obtain⟨p,l,hp,hq,s1,s2,rfl⟩:=C1 hb;obtain⟨as,a1⟩:=r1.reads I gh rx hp;obtain⟨bs,a2⟩:=r2.reads I gh ry hq;obtain⟨c1,c2⟩:=CN s1;have:=FB (j8 l) p.depth;exact SeqAt.in_list_reads a2 a1 s2 c1 .(b) ⟨.bl _,H,I,rfl,q⟩
theorem RM (hu:X.A.units+66<bY):OpR X (di .NotIn) (EX Γ X.K ah):=by intro pins s σ H x y v u Q I rx ry h;obtain⟨G,d,e,b,gh,r1,r2,hb,q⟩:=h;obtain⟨p,l,hp,hq,s1,s2,rfl⟩:=C1 hb;obtain⟨as,a1⟩:=r1.reads I gh rx hp;obtain⟨bs,a2⟩:=r2.reads I gh ry hq;obtain⟨c1,c2⟩:=CN s1;have:=FB (j8 l) p.depth;exact SeqAt.notIn_list_reads a2 a1 s2 c1 .(b) ⟨.bl _,H,I,rfl,q⟩
theorem AR (hu:X.A.units+66<bY):CmpD Γ X .In gJ:=⟨_,Rw (Γ:=Γ) hu,fun {G H v u x y z} gh r1 r2 h Q k=>by unfold gJ at h;obtain⟨b,hb,rfl⟩:=oMd h;exact⟨G,x,y,b,gh,r1,r2,hb,k _ G H .(aD) (.bl _)⟩⟩
theorem E9 (hu:X.A.units+66<bY):CmpD Γ X .NotIn An:=⟨_,RM (Γ:=Γ) hu,fun {G H v u x y z} gh r1 r2 h Q k=>by unfold An at h;obtain⟨b,hb,rfl⟩:=oMd h;exact⟨G,x,y,b,gh,r1,r2,hb,k _ G H .(aD) (.bl _)⟩⟩
theorem ce {k:ak} (hr:Room k X.A):X.A.units+66<bY:=by have:=hr.un;omega
theorem ki {k:ak} (hr:Room k X.A):X.A.units+64<bY:=by have:=hr.un;omega
noncomputable def rR (d:D):aN:=match d with
 |.non=>ah
 |_=>ar
def isD (x y:D):aq D:=match y with
 |.non=>aa (.bl (rR x))
 |_=>af
def dI (x y:D):aq D:=match y with
 |.non=>aa (.bl (!rR x))
 |_=>af
theorem Di (r:Rep Γ K G v d):decide (v=.non)=rR d:=by cases r<;>simp[rR]
theorem EL:CmpD Γ X .Is isD:=⟨_,Ov,fun {G H v u x y z} gh r1 r2 h Q k=>by unfold isD at h;split at h<;>cases h;exact⟨r2.non_inv,by rw[Di r1];exact k _ G H .(aD) (.bl _)⟩⟩
theorem EN:CmpD Γ X .IsNot dI:=⟨_,RL,fun {G H v u x y z} gh r1 r2 h Q k=>by unfold dI at h;split at h<;>cases h;exact⟨r2.non_inv,by rw[Di r1];exact k _ G H .(aD) (.bl _)⟩⟩
end
variable {fx:FE}
section
variable {a c i:Expr}
theorem Step.back (gh:aQ G H) (s1:aQ G G1) (s:Step G1 H G' H'):Step G H G H':=⟨s.hh,.refl _,(s1.trans s.gg).trans s.gh,fun _ _ _ _=>rfl⟩
theorem Rep.flat (r:Rep Γ K G v d) (h:fW d=ah):Rep Γ K G' v d:=by
 cases r with
 |non=>exact .non
 |bl b=>exact .bl b
 |int i=>exact .int i
 |str x=>exact .str x
 |_=>cases h
noncomputable def gR (i:ak) (f:FE):FS:=fun ρ=>match ρ[i]? with
 |some (aa (.own ds))=>(f ρ).bind fun d=>match d with
  |.lst l=>if ds.length+l.length<=aJ then aa (.nx,ρ.set i (aa (.own (ds++l)))) else af
  |_=>af
 |_=>af
theorem wZ (i:ak) (h:DE Γ X e f) (hN:X.N[i]?=aa x:=by rfl) (hv:Vis X.env.scope x:=by ac_nf) (hd:.(o)=ar:=by decide)
  (hcd:.(C)=ar:=by decide)
  (hbase:gG .(x) "extend" X.env (eval .(x) X.env)=eval .(x) X.env:=by rfl)
  (hfew:((bF cpos (aH [e] X.env)).all (fun x=>!x.1) && (dR cpos (dS [] X.env)).all (fun x=>x.1.isSome)
   && decide ([e].length+([]:ac gI).length+.(aY)<30))=ah:=by rfl)
  (hline:.(bv)=ah:=by rfl) (hs:aH [e] X.env=(ar,eval e X.env)::aH [] X.env:=by rfl) (hplain:(bF cpos .(bC)).any (·.1)=ar:=by rfl)
  (hsw:dh (.Call (.Attribute .(x) "extend" apos) [e] [] cpos) af pos.line X.env=aT ar:=by rfl) :
  DS Γ X (.Expr (.Call (.Attribute .(x) "extend" apos) [e] [] cpos) pos) (gR i f):=⟨(oz (ui F6 S' PySem.F.type_list_extend Pf .(aB) (e7 h.1 fD hs) hbase hfew hline hs hplain) hsw).imp fun E σ H=>by
  rintro⟨G₀,H₀,G,ρ,fl,ρ',A,h,k⟩;unfold gR at h;split at h
  .rename_i ds hi;obtain⟨d,hd,h⟩:=oBd h;split at h
   .rename_i l;split at h
    .rename_i hz;cases h;obtain⟨a,vs,h1,h2,h3,h4,h5⟩:=A.env.own i ds hi;refine⟨.ref a,h1,.inl ⟨rfl,vs,.inl (.inl h4)⟩,G₀,H₀,G,ρ,_,A,hd,fun v G1 H1 s1 r1=>?_⟩;have A1:=A.step s1;obtain⟨b,us,rfl,hb,rb⟩:=r1.lst_inv;refine⟨a,b,vs,us,rfl,rfl,s1.hh _ _ h4,s1.gh _ _ hb,by rw[h5.length,rb.length];exact hz,?_⟩;exact k σ G1 _ s1.gg (A1.chOwn hi h1 ((h5.mono s1.gg).append rb))
    .cases h
   .cases h
  .cases h⟩
noncomputable def xx:ac D->aq D
 |[.lst l]=>aa (.tup l)
 |[.tup l]=>aa (.tup l)
 |_=>af
theorem Ir:TyD Γ X "tuple" xx:=⟨_,PZ,fun {G H vs ds z} gh r h Q k=>by
 unfold xx at h;split at h<;>cases h
 .obtain⟨v,rfl,r1⟩:=r.one;obtain⟨a,us,rfl,ha,ra⟩:=r1.lst_inv;exact⟨a,us,rfl,.inl ⟨.inl .(bd),sK gh ra k⟩⟩
 .obtain⟨v,rfl,r1⟩:=r.one;obtain⟨a,us,rfl,ha,ra⟩:=r1.tup_inv;exact⟨a,us,rfl,.inr ⟨.inl .(bd),k _ G H .(aD) (.tup ha ra)⟩⟩⟩
noncomputable def wD:ac D->aq D
 |[.lst l]=>aa (.lst l)
 |[.tup l]=>aa (.lst l)
 |[.scr l]=>aa (.lst (l.map D.int))
 |_=>af
theorem PP:TyD Γ X "list" wD:=⟨_,BZ,fun {G H vs ds z} gh r h Q k=>by
 unfold wD at h;split at h<;>cases h
 .obtain⟨v,rfl,r1⟩:=r.one;obtain⟨a,us,rfl,ha,ra⟩:=r1.lst_inv;exact⟨a,us,rfl,.inl (.inl .(bd)),gO gh ra k⟩
 .obtain⟨v,rfl,r1⟩:=r.one;obtain⟨a,us,rfl,ha,ra⟩:=r1.tup_inv;exact⟨a,us,rfl,.inr (.inl .(bd)),gO gh ra k⟩
 .obtain⟨v,rfl,r1⟩:=r.one;obtain⟨a,rfl,ha⟩:=r1.scr_inv;exact⟨a,_,rfl,.inl (gh.seq ha),gO gh (Reps.ints _) k⟩⟩
noncomputable def bd [dz κ] (kvs:ac (κ×α)) (k:κ):aq α:=(kvs.find? fun kv=>decide (kv.1=k)).map (·.2)
def bQ [dz κ] (kvs:ac (κ×α)) (k:κ) (v:α):ac (κ×α):=
 if .(bq)=ah then kvs.map (fun kv=>if kv.1=k then (kv.1,v) else kv) else kvs++[(k,v)]
theorem mZ {κ:Type} [dz κ] {K:aM} {G:Hp} {k:κ}:∀{us:ac (κ×V)} {kvs:ac (κ×D)},us.map (·.1)=kvs.map (·.1)->Reps Γ K G (us.map (·.2)) (kvs.map (·.2))->
  (bd kvs k=af/\fV us k=af)\/∃d v,bd kvs k=aa d/\fV us k=aa v/\Rep Γ K G v d
 |[],[],_,_=>.inl ⟨rfl,rfl⟩
 |[],_::_,e,_=>by cases e
 |_::_,[],e,_=>by cases e
 |(k1,v)::us,(k2,d)::kvs,e,r=>by
  have e1:k1=k2:=(dB e).1;have e2:us.map (·.1)=kvs.map (·.1):=(dB e).2;subst e1;have r:Reps Γ K G (v::us.map (·.2)) (d::kvs.map (·.2)):=r;cases r with
  |cons r1 r2=>
   by_cases h:k1=k
   .exact .inr ⟨d,v,by simp[bd,eE,h],rH h,r1⟩
   .have:=mZ (k:=k) e2 r2;rw[rD (p:=(k1,v)) h];simpa[bd,eE,h] using this
theorem Da {κ:Type} [dz κ] {k:κ} {α β:Type}:∀{us:ac (κ×α)} {kvs:ac (κ×β)},us.map (·.1)=kvs.map (·.1)->(us.any fun kv=>decide (kv.1=k))=.(bq)
 |[],[],_=>rfl
 |[],_::_,e=>by cases e
 |_::_,[],e=>by cases e
 |(k1,v)::us,(k2,d)::kvs,e=>by have e1:k1=k2:=(dB e).1;subst e1;rw[j5,j5,Da (us:=us) (kvs:=kvs) (dB e).2]
theorem C9 {κ:Type} [dz κ] {K:aM} {G:Hp} {k:κ} {v:V} {d:D} (rv:Rep Γ K G v d):∀{us:ac (κ×V)} {kvs:ac (κ×D)},us.map (·.1)=kvs.map (·.1)->Reps Γ K G (us.map (·.2)) (kvs.map (·.2))->
  (us.map fun kv=>if kv.1=k then (kv.1,v) else kv).map (·.1)=(kvs.map fun kv=>if kv.1=k then (kv.1,d) else kv).map (·.1)/\Reps Γ K G ((us.map fun kv=>if kv.1=k then (kv.1,v) else kv).map (·.2)) ((kvs.map fun kv=>if kv.1=k then (kv.1,d) else kv).map (·.2))
 |[],[],_,_=>⟨rfl,.nil⟩
 |[],_::_,e,_=>by cases e
 |_::_,[],e,_=>by cases e
 |(k1,u)::us,(k2,x)::kvs,e,r=>by
  have e1:k1=k2:=(dB e).1;have e2:us.map (·.1)=kvs.map (·.1):=(dB e).2;subst e1;have r:Reps Γ K G (u::us.map (·.2)) (x::kvs.map (·.2)):=r;cases r with
  |cons r1 r2=>
   obtain⟨h1,h2⟩:=C9 (k:=k) rv e2 r2;by_cases h:k1=k
   .subst h;simp only[qo,cq];exact⟨by rw[h1],.cons rv h2⟩
   .simp only[qo,qZ h];exact⟨by rw[h1],.cons r1 h2⟩
theorem lN [dz κ] {k:κ} (rv:Rep Γ K G v d) {us:ac (κ×V)} {kvs:ac (κ×D)} (e:us.map (·.1)=kvs.map (·.1)) (r:Reps Γ K G (us.map (·.2)) (kvs.map (·.2))) :
  (putK us k v).map (·.1)=(bQ kvs k d).map (·.1)/\Reps Γ K G ((putK us k v).map (·.2)) ((bQ kvs k d).map (·.2)):=by
 unfold putK bQ;rw[Da (k:=k) e];split
 .exact C9 rv e r
 .simp only[dF,qo,qQ];exact⟨by rw[e],r.append (.cons rv .nil)⟩
noncomputable def f8:D->aq Key
 |.int i=>aa (.inl i)
 |.str x=>aa (.inr x)
 |_=>af
noncomputable def eC:ac D->aq (ac Key)
 |[]=>aa []
 |d::r=>(f8 d).bind fun k=>(eC r).map (k::·)
theorem kA {k:Key} (r:Rep Γ K G v d) (h:f8 d=aa k):v=kV k:=by
 unfold f8 at h;split at h<;>cases h
 .exact r.int_inv
 .exact r.str_inv
theorem jO {K:aM} {G:Hp}:∀{vs:ac V} {ds:ac D} {ks:ac Key},Reps Γ K G vs ds->eC ds=aa ks->vs=ks.map kV
 |_,[],ks,r,h=>by cases r;cases h;rfl
 |_,d::ds,ks,r,h=>by obtain _|⟨h1,h2⟩:=r;unfold eC at h;obtain⟨k,hk,h⟩:=oBd h;obtain⟨zs,hz,rfl⟩:=oMd h;rw[kA h1 hk,jO h2 hz];rfl
def jE (d k:D):aq (aq D):=match d,k with
 |.dk l,k=>(f8 k).map (bd l)
 |.fdk l,k=>(f8 k).map (bd l)
 |.dt l,.tup t=>(eC t).map (bd l)
 |.fdt l,.tup t=>(eC t).map (bd l)
 |_,_=>af
theorem Ig {k:D} {r:aq D} (gh:aQ G H) (rv:Rep Γ K G v d) (h:jE d k=aa r):∃a,v=.ref a/\IsD H a:=by
 unfold jE at h;split at h
 .cases rv with
  |dk h _ _=>exact⟨_,rfl,.inl ⟨_,.inl (gh _ _ h)⟩⟩
 .cases rv with
  |fdk h _ _=>exact⟨_,rfl,.inl ⟨_,.inr ⟨_,gh _ _ h⟩⟩⟩
 .cases rv with
  |dt h _ _=>exact⟨_,rfl,.inr ⟨_,.inl (gh _ _ h)⟩⟩
 .cases rv with
  |fdt h _ _=>exact⟨_,rfl,.inr ⟨_,.inr ⟨_,gh _ _ h⟩⟩⟩
 .cases h
theorem rE {k:D} {r:aq D} (gh:aQ G H) (rv:Rep Γ K G v d) (ry:Rep Γ K G y k) (h:jE d k=aa r) :
  ∃a o,v=.ref a/\fT H a y o/\((r=af/\o=af)\/∃w z,r=aa z/\o=aa w/\Rep Γ K G w z):=by
 unfold jE at h;split at h
 .obtain⟨kk,hk,rfl⟩:=oMd h;cases rv with
  |dk h1 h2 h3=>
   have ey:=kA ry hk;subst ey;refine⟨_,_,rfl,fT.k (gh _ _ h1),?_⟩;rcases mZ (k:=kk) h2 h3 with⟨q1,q2⟩|⟨z,w,q1,q2,q3⟩
   .exact .inl ⟨q1,q2⟩
   .exact .inr ⟨w,z,q1,q2,q3⟩
 .obtain⟨kk,hk,rfl⟩:=oMd h;cases rv with
  |fdk h1 h2 h3=>
   have ey:=kA ry hk;subst ey;refine⟨_,_,rfl,.inl ⟨_,kk,.inr ⟨_,gh _ _ h1⟩,rfl,rfl⟩,?_⟩;rcases mZ (k:=kk) h2 h3 with⟨q1,q2⟩|⟨z,w,q1,q2,q3⟩
   .exact .inl ⟨q1,q2⟩
   .exact .inr ⟨w,z,q1,q2,q3⟩
 .obtain⟨kk,hk,rfl⟩:=oMd h;cases rv with
  |dt h1 h2 h3=>
   obtain⟨b,ys,rfl,hb,rb⟩:=ry.tup_inv;have ey:=jO rb hk;subst ey;refine⟨_,_,rfl,fT.t (gh _ _ h1) (gh _ _ hb),?_⟩;rcases mZ (k:=kk) h2 h3 with⟨q1,q2⟩|⟨z,w,q1,q2,q3⟩
   .exact .inl ⟨q1,q2⟩
   .exact .inr ⟨w,z,q1,q2,q3⟩
 .obtain⟨kk,hk,rfl⟩:=oMd h;cases rv with
  |fdt h1 h2 h3=>
   obtain⟨b,ys,rfl,hb,rb⟩:=ry.tup_inv;have ey:=jO rb hk;subst ey;refine⟨_,_,rfl,.inr ⟨_,kk,_,.inr ⟨_,gh _ _ h1⟩,rfl,gh _ _ hb,rfl⟩,?_⟩;rcases mZ (k:=kk) h2 h3 with⟨q1,q2⟩|⟨z,w,q1,q2,q3⟩
   .exact .inl ⟨q1,q2⟩
   .exact .inr ⟨w,z,q1,q2,q3⟩
 .cases h
def cm (d k:D):aq D:=(jE d k).bind id
theorem NI (hu:X.A.units+66<bY) (ho:DE Γ X o fo) (hi:DE Γ X i fi') (hs:wA i:=by intro _ _;rfl):DE Γ X (.Subscript o i pos) (b2 cm fo fi'):=⟨(Hk .(b) ho.1 hi.1 hs).imp fun σ H Q=>by
 rintro⟨G₀,H₀,G,ρ,d,A,h,k⟩;unfold b2 at h;obtain⟨x,hx,h⟩:=oBd h;obtain⟨y,hy,h⟩:=oBd h;refine⟨G₀,H₀,G,ρ,x,A,hx,fun v G1 H1 s1 r1=>⟨G₀,H₀,G1,ρ,y,A.step s1,hy,fun u G2 H2 s2 r2=>?_⟩⟩;unfold cm at h;obtain⟨r,hr,h⟩:=oBd h;obtain⟨a,ov,rfl,hg,hc⟩:=rE s2.gh (r1.mono s2.gg) r2 hr;rcases hc with⟨rfl,_⟩|⟨w,z,rfl,rfl,rw'⟩
 .cases h
 .cases h;exact⟨a,w,rfl,hg,k w G2 H2 (s1.trans s2) rw'⟩⟩
def pE (d k:D):aq D:=(jE d k).map fun r=>r.getD .non
theorem xD (hu:X.A.units+66<bY) (ho:DE Γ X o fo) (he:DE Γ X e f) (m:M1 X o "get" apos e cpos:=by exact⟨rfl,rfl,rfl,rfl⟩):DE Γ X (.Call (.Attribute o "get" apos) [e] [] cpos) (b2 pE fo f):=⟨(LK .(b) ho.1 he.1 m).imp fun σ H Q=>by
 rintro⟨G₀,H₀,G,ρ,d,A,h,k⟩;unfold b2 at h;obtain⟨x,hx,h⟩:=oBd h;obtain⟨y,hy,h⟩:=oBd h;unfold pE at h;obtain⟨r,hr,rfl⟩:=oMd h;refine⟨G₀,H₀,G,ρ,x,A,hx,fun v G1 H1 s1 r1=>?_⟩;obtain⟨a0,e0,d0⟩:=Ig s1.gh r1 hr;refine⟨a0,e0,d0,G₀,H₀,G1,ρ,y,A.step s1,hy,fun u G2 H2 s2 r2=>?_⟩;obtain⟨a,ov,e1,hg,hc⟩:=rE s2.gh (r1.mono s2.gg) r2 hr;subst e0;cases e1;rcases hc with⟨rfl,rfl⟩|⟨w,z,rfl,rfl,rw'⟩
 .exact⟨af,hg,k _ G2 H2 (s1.trans s2) .non⟩
 .exact⟨aa w,hg,k w G2 H2 (s1.trans s2) rw'⟩⟩
noncomputable def b3 (g:D->D->D->aq D) (fa fb fc:FE):FE:=fun ρ=>(fa ρ).bind fun x=>(fb ρ).bind fun y=>(fc ρ).bind fun z=>g x y z
def jI (k d:D):aq D:=(jE d k).map fun r=>.bl r.isSome
def yo (k d:D):aq D:=(jE d k).map fun r=>.bl (!r.isSome)
def BF (Γ:Cn) (K:aM) (neg:aN):R2:=fun y x H Q=>∃G k d r,aQ G H/\Rep Γ K G y k/\Rep Γ K G x d/\jE d k=aa r/\Q (.bl (if neg then !r.isSome else r.isSome)) H
theorem Nb (hu:X.A.units+66<bY):OpR X (di .In) (BF Γ X.K ar):=by
 intro pins s σ H x y v u Q I rx ry h;obtain⟨G,kd,d,r,gh,r1,r2,hr,q⟩:=h;obtain⟨a,ov,rfl,hg,hc⟩:=rE gh r2 r1 hr;cases ry;have e:ov.isSome=r.isSome:=by rcases hc with⟨rfl,rfl⟩|⟨w,z,rfl,rfl,_⟩<;>rfl
 exact QO .(b) I hg rx fun s3 I3=>⟨.bl _,H,I3,rfl,by rw[e];exact q⟩
theorem Hx (hu:X.A.units+66<bY):OpR X (di .NotIn) (BF Γ X.K ah):=by
 intro pins s σ H x y v u Q I rx ry h;obtain⟨G,kd,d,r,gh,r1,r2,hr,q⟩:=h;obtain⟨a,ov,rfl,hg,hc⟩:=rE gh r2 r1 hr;cases ry;have e:ov.isSome=r.isSome:=by rcases hc with⟨rfl,rfl⟩|⟨w,z,rfl,rfl,_⟩<;>rfl
 exact G8 .(b) I hg rx fun s3 I3=>⟨.bl _,H,I3,rfl,by rw[e];exact q⟩
theorem v5 (hu:X.A.units+66<bY):CmpD Γ X .In jI:=⟨_,Nb (Γ:=Γ) hu,fun {G H v u x y z} gh r1 r2 h Q k=>by unfold jI at h;obtain⟨r,hr,rfl⟩:=oMd h;exact⟨G,x,y,r,gh,r1,r2,hr,k _ G H .(aD) (.bl _)⟩⟩
theorem MF (hu:X.A.units+66<bY):CmpD Γ X .NotIn yo:=⟨_,Hx (Γ:=Γ) hu,fun {G H v u x y z} gh r1 r2 h Q k=>by unfold yo at h;obtain⟨r,hr,rfl⟩:=oMd h;exact⟨G,x,y,r,gh,r1,r2,hr,k _ G H .(aD) (.bl _)⟩⟩
noncomputable def sNo:FS:=fun _=>af
theorem Ip :DS Γ X st sNo:=⟨fun pins s σ H E I q=>by obtain⟨G₀,H₀,G,ρ,fl,ρ',A,h,k⟩:=q;cases h⟩
end
structure CF (Γ:Cn) (K:aM) (c:ai) (attrs:ac ai):Prop where
 ex:∃C,Γ.cls c=aa C/\Cls K C/\∀f∈attrs,kq K C f
variable {attrs:ac ai} {dp ap:c8} {ke:Expr}
section
variable {a c i:Expr} {fv:FE} {cl fl n:ai}
theorem ii {K:aM} {G:Hp} {k:ai}:∀{us:ac (ai×V)} {fs:ac (ai×D)},us.map (·.1)=fs.map (·.1)->Reps Γ K G (us.map (·.2)) (fs.map (·.2))->
  (fs.lookup k=af/\us.lookup k=af)\/∃d v,fs.lookup k=aa d/\us.lookup k=aa v/\Rep Γ K G v d
 |[],[],_,_=>.inl ⟨rfl,rfl⟩
 |[],_::_,e,_=>by cases e
 |_::_,[],e,_=>by cases e
 |(k1,v)::us,(k2,d)::fs,e,r=>by
  have e1:k1=k2:=(dB e).1;have e2:us.map (·.1)=fs.map (·.1):=(dB e).2;subst e1;have r:Reps Γ K G (v::us.map (·.2)) (d::fs.map (·.2)):=r;cases r with
  |cons r1 r2=>
   by_cases h:k=k1
   .subst h;exact .inr ⟨d,v,by simp[cK],by simp[cK],r1⟩
   .have hb:(k==k1)=ar:=by simpa using h
    have:=ii (k:=k) e2 r2;simpa[cK,hb] using this
theorem oI {f:ai} :∀{fs:ac (ai×V)},fs.lookup f=af->eO f v fs=fs++[(f,v)]:=by
 intro xs0
 induction xs0 with
 |nil=>
  intro _;exact rfl
 |cons x0 r ih=>
  obtain⟨g,x⟩:=x0;intro h;by_cases e:f=g
  .subst e;simp[cK] at h
  .have hb:(f==g)=ar:=by simpa using e
   rw[eO,qZ (fun z=>e z.symm),ih (by simpa[cK,hb] using h)];rfl
noncomputable def EK (c f:ai):D->aq D
 |.ins c' fs=>if c'=c then fs.lookup f else af
 |_=>af
def bM (c f:ai) (fo:FE):FE:=fun ρ=>(fo ρ).bind (EK c f)
theorem KC (hc:CF Γ X.K cl attrs) (hf:fl∈attrs) (ho:DE Γ X o fo) (hb:gG o fl X.env (eval o X.env)=eval o X.env:=by rfl):DE Γ X (.Attribute o fl pos) (bM cl fl fo):=⟨(tL ho.1 hb).imp fun σ H Q=>by
 rintro⟨G₀,H₀,G,ρ,d,A,h,k⟩;unfold bM at h;obtain⟨x,hx,hq⟩:=oBd h;clear h;refine⟨G₀,H₀,G,ρ,x,A,hx,fun v G1 H1 s1 r1=>?_⟩;unfold EK at hq;split at hq
 .split at hq
  .rename_i ec;subst ec;obtain⟨C,q1,q2,q3⟩:=hc.ex;cases r1 with
   |ins h1 h2 h3 h4=>
    rw[q1] at h2;cases h2;rcases ii (k:=fl) h3 h4 with⟨z1,_⟩|⟨d',v',z1,z2,z3⟩
    .rw[z1] at hq;cases hq
    .rw[z1] at hq;cases hq;exact⟨_,C,_,_,v',rfl,s1.gh _ _ h1,q2,q3 fl hf,z2,k v' G1 H1 s1 z3⟩
  .cases hq
 .cases hq⟩
noncomputable def D5 (f:ai):Slot->aq D
 |.obj _ fs=>fs.lookup f
 |.objd _ fs n _=>if f=n then af else fs.lookup f
 |_=>af
noncomputable def GX:Slot->aq ai
 |.obj c _=>aa c
 |.objd c _ _ _=>aa c
 |_=>af
def iM (c f:ai) (i:ak):FE:=fun ρ=>match ρ[i]? with
 |some (aa s)=>if GX s=aa c then D5 f s else af
 |_=>af
theorem K0 {vs:ac (ai×V)} {f:ai} {w:V} (h:vs.lookup f=aa v):(vs++[(n,w)]).lookup f=aa v:=by
 induction vs with
 |nil=>cases h
 |cons p r ih=>
  obtain⟨g,x⟩:=p;by_cases e:f=g
  .subst e;simpa[cK] using h
  .have hb:(f==g)=ar:=by simpa using e
   simp only[qq,cK,hb] at h ⊢;exact ih h
theorem rQ (i:ak) (hc:CF Γ X.K cl attrs) (hf:fl∈attrs) (hN:X.N[i]?=aa x:=by rfl) (hv:Vis X.env.scope x:=by ac_nf) (hd:.(o)=ar:=by decide)
  (hcd:.(C)=ar:=by decide) (hb:gG .(x) fl X.env (eval .(x) X.env)=eval .(x) X.env:=by rfl):DE Γ X (.Attribute .(x) fl pos) (iM cl fl i):=⟨(tL .(aB) hb).imp fun σ H Q=>by
 rintro⟨G₀,H₀,G,ρ,d,A,h,k⟩;unfold iM at h;split at h
 .rename_i s hi;split at h
  .rename_i hcl;obtain⟨C,q1,q2,q3⟩:=hc.ex;obtain⟨v,fp,h1,h2⟩:=A.get hi;cases h2 with
   |sh _=>cases h
   |own _ _ _ _=>cases h
   |odk _ _ _ _ _=>cases h
   |odt _ _ _ _ _=>cases h
   |lo _ _ _ _=>cases h
   |fo _ _ _ _ _ _ _=>cases h
   |obj g1 g2 g3 g4 g5 g6 g7=>
    cases hcl;rw[q1] at g1;cases g1;have h:cK fl _=aa d:=h;rcases ii (k:=fl) g5 g6 with⟨z1,_⟩|⟨d',v',z1,z2,z3⟩
    .rw[z1] at h;cases h
    .rw[z1] at h;cases h;exact⟨_,h1,_,C,_,_,v',rfl,g4,q2,q3 fl hf,z2,k v' G H (.refl A.gh) z3⟩
   |objd g1 g2 g3 g4 g5 g6 _ _ _ _ _ g7=>
    cases hcl;rw[q1] at g1;cases g1;unfold D5 at h;simp only at h;split at h
    .cases h
    .rcases ii (k:=fl) g5 g6 with⟨z1,_⟩|⟨d',v',z1,z2,z3⟩
     .rw[z1] at h;cases h
     .rw[z1] at h;cases h;exact⟨_,h1,_,C,_,_,v',rfl,g4,q2,q3 fl hf,K0 z2,k v' G H (.refl A.gh) z3⟩
  .cases h
 .cases h⟩
noncomputable def fS (c f:ai) (i:ak) (fv:FE):FS:=fun ρ=>(fv ρ).bind fun d=>match ρ[i]? with
 |some (aa (.obj c' fs))=>if c'=c/\fs.lookup f=af/\fs.length<100 then aa (.nx,ρ.set i (aa (.obj c (fs++[(f,d)])))) else af
 |_=>af
theorem iO (i:ak) (hc:CF Γ X.K cl attrs) (hf:fl∈attrs) (hv':DE Γ X value fv) (hN:X.N[i]?=aa x:=by rfl) (hv:Vis X.env.scope x:=by ac_nf) (hd:.(o)=ar:=by decide)
  (hcd:.(C)=ar:=by decide) (hs:dh value (aa (.Attribute .(x) fl pos')) pos.line X.env=aT ar:=by rfl):DS Γ X (.Assign [.Attribute .(x) fl pos'] value pos) (fS cl fl i fv):=⟨(oK .(aB) hv'.1 hs).imp fun E σ H=>by
 rintro⟨G₀,H₀,G,ρ,flw,ρ',A,h,k⟩;unfold fS at h;obtain⟨d,hd,h⟩:=oBd h;split at h
 .rename_i c' fs hi;split at h
  .rename_i hz;obtain⟨rfl,hz2,hz3⟩:=hz;cases h;obtain⟨C,q1,q2,q3⟩:=hc.ex;refine⟨G₀,H₀,G,ρ,d,A,hd,fun v G1 H1 s1 r1=>?_⟩;have A1:=A.step s1;obtain⟨w,fp,h1,h2⟩:=A1.get hi;cases h2 with
   |obj g1 g2 g3 g4 g5 g6 g7=>
    rename_i a C' dx vs;have g1':=g1;rw[q1] at g1;cases g1;have hl:vs.lookup fl=af:=by
     rcases ii (k:=fl) g5 g6 with⟨_,z2⟩|⟨d',v',z1,_,_⟩
     .exact z2
     .rw[z1] at hz2;cases hz2
    have hlen:vs.length=fs.length:=by simpa using bO cI g5
    refine⟨_,h1,a,C,dx,vs,rfl,g4,q2,q3 fl hf,by omega,?_⟩;rw[oI hl];refine k σ G1 _ s1.gg (A1.ch hi h1 (.obj g1' g2 g3 g4 g5 g6 g7) (fun b o e hb=>?_) (.obj (vs:=vs++[(fl,v)]) g1' g2 g3 aV (by simp[g5]) (by simpa using g6.append (.cons r1 .nil)) g7) (fun b hb=>.inl hb) (.refl _) .(am) .(ad))
    .rw[ay (fun z=>hb (bD.mpr z))];exact e
    .rw[ay (bi e g3)];exact A1.gh b o e
  .cases h
 .cases h⟩
noncomputable def nB (c f:ai) (i:ak):FS:=fun ρ=>match ρ[i]? with
 |some (aa (.obj c' fs))=>if c'=c/\fs.lookup f=af/\fs.length<100 then aa (.nx,ρ.set i (aa (.objd c fs f []))) else af
 |_=>af
theorem IM (i:ak) (hc:CF Γ X.K cl attrs) (hf:fl∈attrs) (hN:X.N[i]?=aa x:=by rfl) (hv:Vis X.env.scope x:=by ac_nf) (hd:.(o)=ar:=by decide)
  (hcd:.(C)=ar:=by decide) (hs:dh (.Dict [] [] dp) (aa (.Attribute .(x) fl pos')) pos.line X.env=aT ar:=by rfl):DS Γ X (.Assign [.Attribute .(x) fl pos'] (.Dict [] [] dp) pos) (nB cl fl i):=⟨(oK .(aB) tE hs).imp fun E σ H=>by
 rintro⟨G₀,H₀,G,ρ,flw,ρ',A,h,k⟩ p hp;unfold nB at h;split at h
 .rename_i c' fs hi;split at h
  .rename_i hz;obtain⟨rfl,hz2,hz3⟩:=hz;cases h;obtain⟨C,q1,q2,q3⟩:=hc.ex;obtain⟨w,fp,h1,h2⟩:=A.get hi;cases h2 with
   |obj g1 g2 g3 g4 g5 g6 g7=>
    rename_i a C' dx vs;have g1':=g1;rw[q1] at g1;cases g1;have hl:vs.lookup fl=af:=by
     rcases ii (k:=fl) g5 g6 with⟨_,z2⟩|⟨d',v',z1,_,_⟩
     .exact z2
     .rw[z1] at hz2;cases hz2
    have hlen:vs.length=fs.length:=by simpa using bO cI g5
    have npa:a≠p:=bi g4 hp;refine⟨_,h1,a,C,dx,vs,rfl,by rw[ay npa];exact g4,q2,q3 fl hf,by omega,?_⟩;rw[oI hl];have hp0:H₀ p=af:=A.st.hh.free hp;have hpg:G p=af:=A.gh.free hp;refine k σ G _ (.refl _) (A.ch hi h1 (.obj g1' g2 g3 g4 g5 g6 g7) (fun b o e hb=>?_) (.objd (vs:=vs) (p:=p) (us:=[]) (kvs:=[]) g1' g2 g3 aV g5 g6 hp0 hpg (by rw[ay npa.symm,aV]) rfl .nil g7) (fun b hb=>?_) (.refl _) .(am) .(ad))
    .rw[ay (fun z=>hb (bD.mpr z)),ay (bi e hp)];exact e
    .rcases bZ.mp hb with rfl|hb
     .exact .inl (bD.mpr rfl)
     .rw[bD.mp hb];exact .inr hp
    .rw[ay (bi e g3),ay (bi e hpg)];exact A.gh b o e
  .cases h
 .cases h⟩
def iZ (c f:ai) (i:ak) (fk fv:FE):FS:=fun ρ=>(fv ρ).bind fun d=>(fk ρ).bind fun kd=>(f8 kd).bind fun k=>match ρ[i]? with
 |some (aa (.objd c' fs n kvs))=>if c'=c/\n=f/\fs.lookup f=af/\kvs.length<100000 then aa (.nx,ρ.set i (aa (.objd c fs n (bQ kvs k d)))) else af
 |_=>af
theorem GU {vs:ac (ai×V)} {f:ai} {w:V} (h:vs.lookup f=af):(vs++[(f,w)]).lookup f=aa w:=by
 induction vs with
 |nil=>simp[cK]
 |cons p r ih=>
  obtain⟨g,x⟩:=p;by_cases e:f=g
  .subst e;simp[cK] at h
  .have hb:(f==g)=ar:=by simpa using e
   simp only[qq,cK,hb] at h ⊢;exact ih h
theorem MN (i:ak) (hu:X.A.units+66<bY) (hc:CF Γ X.K cl attrs) (hf:fl∈attrs) (hk:DE Γ X ke fk) (hv':DE Γ X value fv) (hN:X.N[i]?=aa x:=by rfl) (hv:Vis X.env.scope x:=by ac_nf) (hd:.(o)=ar:=by decide)
  (hcd:.(C)=ar:=by decide) (hb:gG .(x) fl X.env (eval .(x) X.env)=eval .(x) X.env:=by rfl) (hs:dh value (aa (.Subscript (.Attribute .(x) fl ap) ke pos')) pos.line X.env=aT ar:=by rfl) :
  DS Γ X (.Assign [.Subscript (.Attribute .(x) fl ap) ke pos'] value pos) (iZ cl fl i fk fv):=⟨(rP .(b) (tL .(aB) hb) hk.1 hv'.1 hs).imp fun E σ H=>by
 rintro⟨G₀,H₀,G,ρ,flw,ρ',A,h,k⟩;unfold iZ at h;obtain⟨d,hd,ha⟩:=oBd h;clear h;obtain⟨kd,hkd,hb1⟩:=oBd ha;clear ha;obtain⟨kk,hkk,hq⟩:=oBd hb1;clear hb1;split at hq
 .rename_i c' fs n kvs hi;split at hq
  .rename_i hz;obtain⟨rfl,rfl,hz2,hz3⟩:=hz;cases hq;obtain⟨C,q1,q2,q3⟩:=hc.ex;refine⟨G₀,H₀,G,ρ,d,A,hd,fun v G1 H1 s1 r1=>?_⟩;have A1:=A.step s1;obtain⟨w,fp,h1,h2⟩:=A1.get hi;cases h2 with
   |objd g1 g2 g3 g4 g5 g6 y1 y2 y3 y4 y5 g7=>
    rename_i a C' dx p vs us;have g1':=g1;rw[q1] at g1;cases g1;have hl:vs.lookup n=af:=by
     rcases ii (k:=n) g5 g6 with⟨_,z2⟩|⟨d',v',z1,_,_⟩
     .exact z2
     .rw[z1] at hz2;cases hz2
    refine⟨_,h1,a,C,dx,_,.ref p,rfl,g4,q2,q3 n hf,GU hl,G₀,H₀,G1,ρ,kd,A1,hkd,fun u G2 H2 s2 r2=>?_⟩;have A2:=A1.step s2;have eu:=kA r2 hkk;subst eu;have hp2:H2 p=aa (.dK us):=s2.hh _ _ y3;have ha2:H2 a=aa (.ins C dx (vs++[(n,.ref p)])):=s2.hh _ _ g4;have ga2:G2 a=af:=(s2.out _ _ g4 rfl).trans g3;have gp2:G2 p=af:=(s2.out _ _ y3 rfl).trans y2;have npa:a≠p:=xE ha2 hp2 (by intro z;cases z);have hlen:us.length=kvs.length:=by simpa using bO cI y4
    obtain⟨w1,w2⟩:=lN (k:=kk) (r1.mono s2.gg) y4 (y5.mono s2.gg);refine⟨p,_,rfl,gP.k hp2 (by have:=eV;omega),?_⟩;refine k σ G2 _ (s1.gg.trans s2.gg) (A2.ch hi h1 (.objd g1' g2 ga2 ha2 g5 (g6.mono s2.gg) y1 gp2 hp2 y4 (y5.mono s2.gg) g7) (fun b o e hb=>?_) (.objd (p:=p) g1' g2 ga2 (by rw[ay npa];exact ha2) g5 (g6.mono s2.gg) y1 gp2 aV w1 w2 g7) (fun b hb=>.inl hb) (.refl _) .(am) .(ad))
    .rw[ay (fun z=>hb (by rw[z];exact qi _ qh))];exact e
    .rw[ay (bi e gp2)];exact A2.gh b o e
  .cases hq
 .cases hq⟩
noncomputable def Ec:Slot->aq D
 |.obj c fs=>aa (.ins c fs)
 |.objd c fs n kvs=>aa (.ins c (fs++[(n,.dk kvs)]))
 |_=>af
theorem At.done (A:At Γ K G₀ H₀ G H ρ σ) {i:ak} {s:Slot} (hi:ρ[i]?=aa (aa s)) (hd:Ec s=aa d):∃a G',Γ.self=aa a/\Step G₀ H₀ G' H/\Rep Γ K G' (.ref a) d:=by
 obtain⟨v,fp,h1,h2⟩:=A.get hi;cases h2 with
 |sh _=>cases hd
 |own _ _ _ _=>cases hd
 |odk _ _ _ _ _=>cases hd
 |odt _ _ _ _ _=>cases hd
 |lo _ _ _ _=>cases hd
 |fo _ _ _ _ _ _ _=>cases hd
 |obj g1 g2 g3 g4 g5 g6 g7=>
  cases hd;rename_i a C dx vs fs;have sm:aQ G (upd G a (.ins C dx vs)):=fun b o e=>by rw[ay (bi e g3)];exact e
  refine⟨a,upd G a (.ins C dx vs),g7,⟨A.st.hh,A.st.gg.trans sm,fun b o e=>?_,fun b o e ek=>?_⟩,.ins aV g1 g5 (g6.mono sm)⟩
  .by_cases hb:b=a
   .subst hb;rw[aV] at e;cases e;exact g4
   .rw[ay hb] at e;exact A.gh b o e
  .rw[ay (bi e g2)];exact A.st.out b o e ek
 |objd g1 g2 g3 g4 g5 g6 y1 y2 y3 y4 y5 g7=>
  cases hd;rename_i n a C dx p vs fs us kvs;have npa:a≠p:=xE g4 y3 (by intro z;cases z);have sm:aQ G (upd (upd G p (.dK us)) a (.ins C dx (vs++[(n,.ref p)]))):=fun b o e=>by rw[ay (bi e g3),ay (bi e y2)];exact e
  refine⟨a,_,g7,⟨A.st.hh,A.st.gg.trans sm,fun b o e=>?_,fun b o e ek=>?_⟩,.ins (us:=vs++[(n,.ref p)]) (fs:=fs++[(n,.dk kvs)]) aV g1 (by simp[g5]) ?_⟩
  .by_cases hb:b=a
   .subst hb;rw[aV] at e;cases e;exact g4
   .rw[ay hb] at e;by_cases hb':b=p
    .subst hb';rw[aV] at e;cases e;exact y3
    .rw[ay hb'] at e;exact A.gh b o e
  .rw[ay (bi e g2),ay (bi e y1)];exact A.st.out b o e ek
  .have r2:Rep Γ K (upd (upd G p (.dK us)) a (.ins C dx (vs++[(n,.ref p)]))) (.ref p) (.dk kvs):=.dk (us:=us) (by rw[ay npa.symm,aV]) y4 (y5.mono sm);simpa using(g6.mono sm).append (.cons r2 .nil)
end
noncomputable def Cn.mk1 (Γ:Cn) (x:au):Cn:=⟨Γ.cls,aa x⟩
variable {c:ai}
section
variable {x:au}
theorem Rep.to1 (x:au) (r:Rep Γ K G v d):Rep (Γ.mk1 x) K G v d:=Rep.re (Γ:=Γ) (Γ':=Γ.mk1 x) rfl r
theorem Reps.to1 {v:ac V} {d:ac D} (x:au) (r:Reps Γ K G v d):Reps (Γ.mk1 x) K G v d:=Reps.re (Γ:=Γ) (Γ':=Γ.mk1 x) rfl r
theorem Rep.of1 (r:Rep (Γ.mk1 x) K G v d):Rep Γ K G v d:=Rep.re (Γ:=Γ.mk1 x) (Γ':=Γ) rfl r
theorem Reps.of1 {v:ac V} {d:ac D} (r:Reps (Γ.mk1 x) K G v d):Reps Γ K G v d:=Reps.re (Γ:=Γ.mk1 x) (Γ':=Γ) rfl r
theorem CF.re (h:CF Γ K c attrs) (x:au):CF (Γ.mk1 x) K c attrs:=⟨h.ex⟩
theorem Ak {Q:VK} {E:XK} (x:au) (h:spF (Γ.mk1 x) K n F vs H Q E):spF Γ K n F vs H Q E:=by obtain⟨G,ds,d,h1,h2,h3,h4,k⟩:=h;exact⟨G,ds,d,h1,h2.of1,h3,h4,fun v G' H' s r=>k v G' H' s (r.to1 x)⟩
theorem Cal.re {y:ai} {k:ak} (C:Cal Γ P w K mg base y n k F) (x:au):Cal (Γ.mk1 x) P w K mg base y n k F:=by obtain⟨f,fd,ps,h1,h2,h3,h4⟩:=C.ex;exact⟨f,fd,ps,h1.imp fun vs H Q E q=>Ak x q,h2,h3,h4⟩
structure CalM (Γ:Cn) (P:dy) (w:cA) (K:aM) (mg:ai->aq av) (base:Heap) (c m:ai) (n k:ak) (F:ac D->aq D):Prop where
 ex:∃C f fd ps,Γ.cls c=aa C/\Cls K C/\Meth K C m f/\FnOk P w K mg base CX0 k f fd ps (spF Γ K n F)/\dU K fd ps []
theorem CalM.re {k:ak} (C:CalM Γ P w K mg base c m n k F) (x:au):CalM (Γ.mk1 x) P w K mg base c m n k F:=by obtain⟨C,f,fd,ps,h0,h1,h2,h3,h4⟩:=C.ex;exact⟨C,f,fd,ps,h0,h1,h2,h3.imp fun vs H Q E q=>Ak x q,h4⟩
inductive spI (Γ:Cn) (K:aM) (C:au) (n:ak) (F:ac D->aq D) (vs:ac V) (H:Hp) (Q:VK) (_e3:XK):Prop where
 |mk:∀x dx H1 G ds d us,vs=.ref x::us->H=upd (upd H1 dx (.own x)) x (.ins C dx [])->H1 x=af->H1 dx=af->dx≠x->aQ G H1->Reps Γ K G us ds->ds.length=n->F ds=aa d->(∀G' H',Step G H1 G' H'->Rep Γ K G' (.ref x) d->Q .non H')->spI Γ K C n F vs H Q _e3
structure CalI (Γ:Cn) (P:dy) (w:cA) (K:aM) (mg:ai->aq av) (base:Heap) (c:ai) (n k:ak) (F:ac D->aq D):Prop where
 ex:∃C f fd ps,Γ.cls c=aa C/\Mk K C f/\mg c=aa (.ref C)/\FnOk P w K mg base CX0 k f fd ps (spI Γ K C n F)/\dU K fd ps []
end
noncomputable def bT (c m:ai) (F:ac D->aq D) (fo:FE) (fr:FA):FE:=fun ρ=>(fo ρ).bind fun d=>match d with
 |.ins c' fs=>if c'=c/\fs.lookup m=af then (fr ρ).bind fun ds=>F (d::ds) else af
 |_=>af
theorem Nj {k:ak} (C:CalM Γ X.prog X.w X.K X.mg X.base c m (n+1) k F) (hr:Room j X.A) (hk:k<=j) (ho:DE Γ X o fo) (ha:DA Γ X (e::es) fr) (hn:∀ρ ds,fr ρ=aa ds->ds.length=n)
  (hst:aH (e::es) X.env=(ar,eval e X.env)::aH es X.env:=by rfl) (hpl:.(af).any (·.1)=ar:=by rfl)
  (ht:eval .(aA) X.env=(do
   let ov ←eval o X.env
   jh apos.atName
   let (f,first) ←fm [ov] (lg ov m pl)
   nX pos f first (bF pos (aH (e::es) X.env)) (dR pos (dS [] X.env))):=by rfl) :
  DE Γ X .(aA) (bT c m F fo fr):=⟨by
 obtain⟨Ca,f,fd,ps,h0,h1,h2,h3,h4⟩:=C.ex;refine(v6 ho.1 h1 h2 h3 (hr.mono hk) h4 .nil jz ha.1 hst hpl ht).imp fun σ H Q=>?_;rintro⟨G₀,H₀,G,ρ,d,A,h,k⟩;unfold bT at h;obtain⟨x,hx,hq⟩:=oBd h;clear h;refine⟨G₀,H₀,G,ρ,x,A,hx,fun v G1 H1 s1 r1=>?_⟩;split at hq
 .rename_i c' fs;split at hq
  .rename_i hz;obtain⟨rfl,hz2⟩:=hz;obtain⟨ds,hds,hF⟩:=oBd hq;have r1':=r1;cases r1 with
   |ins g1 g2 g3 g4=>
    rw[h0] at g2;cases g2;rename_i _ _ us0;have hl:cK m us0=af:=by
     rcases ii (k:=m) g3 g4 with⟨_,z2⟩|⟨d',v',z1,_,_⟩
     .exact z2
     .rw[z1] at hz2;cases hz2
    refine⟨_,_,_,rfl,s1.gh _ _ g1,hl,G₀,H₀,G1,ρ,ds,A.step s1,hds,fun vs G2 H2 s2 r2=>?_⟩;show spF Γ X.K (n+1) F (_::(vs++[])) H2 Q E0;rw[gH];exact⟨G2,_,d,s2.gh,.cons (r1'.mono s2.gg) r2,by rw[qj,hn ρ ds hds],hF,fun v G' H' s r=>k v G' H' ((s1.trans s2).trans s) r⟩
  .cases hq
 .cases hq⟩
theorem Ms {k:ak} (C:CalM Γ X.prog X.w X.K X.mg X.base c m 1 k F) (hr:Room j X.A) (hk:k<=j) (ho:DE Γ X o fo)
  (ht:eval .(aO) X.env=(do
   let ov ←eval o X.env
   jh apos.atName
   let (f,first) ←fm [ov] (lg ov m pl)
   nX pos f first (bF pos .(bC)) (dR pos (dS [] X.env))):=by rfl) :
  DE Γ X .(aO) (bT c m F fo ao):=⟨by
 obtain⟨Ca,f,fd,ps,h0,h1,h2,h3,h4⟩:=C.ex;refine(A7 ho.1 h1 h2 h3 (hr.mono hk) h4 .nil jz ht).imp fun σ H Q=>?_;rintro⟨G₀,H₀,G,ρ,d,A,h,k⟩;unfold bT at h;obtain⟨x,hx,hq⟩:=oBd h;clear h;refine⟨G₀,H₀,G,ρ,x,A,hx,fun v G1 H1 s1 r1=>?_⟩;split at hq
 .rename_i c' fs;split at hq
  .rename_i hz;obtain⟨rfl,hz2⟩:=hz;obtain⟨ds,hds,hF⟩:=oBd hq;cases hds;have r1':=r1;cases r1 with
   |ins g1 g2 g3 g4=>
    rw[h0] at g2;cases g2;rename_i _ _ us0;have hl:cK m us0=af:=by
     rcases ii (k:=m) g3 g4 with⟨_,z2⟩|⟨d',v',z1,_,_⟩
     .exact z2
     .rw[z1] at hz2;cases hz2
    refine⟨_,_,_,rfl,s1.gh _ _ g1,hl,?_⟩;exact⟨G1,_,d,s1.gh,.cons r1' .nil,rfl,hF,fun v G' H' s r=>k v G' H' (s1.trans s) r⟩
  .cases hq
 .cases hq⟩
theorem Hh {k:ak} (C:CalI Γ X.prog X.w X.K X.mg X.base c n k F) (hr:Room j X.A) (hk:k+1<=j) (hg:Gl X c) (ha:DA Γ X (e::es) fr) (hn:∀ρ ds,fr ρ=aa ds->ds.length=n)
  (hdb:(c==("__debug__":ai))=ar:=by decide) (he:aH (e::es) X.env=(ar,eval e X.env)::aH es X.env:=by rfl) (hpl:.(af).any (·.1)=ar:=by rfl) :
  DE Γ X (.Call (.Name c p) (e::es) [] pos) (cF F fr):=⟨by
 obtain⟨Ca,f,fd,ps,h0,h1,h2,h3,h4⟩:=C.ex;refine(Al h1 h3 (hr.mono hk) hg h2 h4 .nil jz ha.1 hdb he hpl).imp fun σ H Q=>?_;rintro⟨G₀,H₀,G,ρ,d,A,h,k⟩;unfold cF at h;obtain⟨ds,hd,hq⟩:=oBd h;refine⟨G₀,H₀,G,ρ,ds,A,hd,fun vs G1 H1 s1 r1 x dx hx hdx hne=>?_⟩;rw[gH];exact⟨x,dx,H1,G1,ds,d,vs,rfl,rfl,hx,hdx,hne,s1.gh,r1,hn ρ ds hd,hq,fun G' H' s r=>⟨rfl,k _ G' H' (s1.trans s) r⟩⟩⟩
def mV (n:ak) (c:ai) (g:FS):ac D->aq D:=fun ds=>(g (aa (.obj c [])::ds.map .(N)++bJ n af)).bind fun r=>match r.1 with
 |.nx=>match r.2[0]? with
  |some (aa s)=>Ec s
  |_=>af
 |_=>af
variable {s0:ai}
theorem Fun.okI {f:au} {k:ak} (F:Fun K x qual st f fd) (S:FnScope N (s0::ps) (aB st)) (hC:Γ.cls c=aa C)
  (hbody:∀(y:au) (cdv:av) (A:cv) (outer:ac ci) (s:aE) (H:Hp) (E:XK),Room k .(j)->
   DSs (Γ.mk1 y) .(g).nox (bR st) g):FnOk P w K mg base CX0 (k+1) f fd (s0::ps) (spI Γ K C ps.length (mV .(ak) c g)):=by
 refine F.ok S (fun vs H Q E h=>?_) (fun cdv A outer s H vs Q E hr h=>?_)
 .obtain⟨y,dx,H1,G,ds,d,us,rfl,_,_,_,_,_,r,hl,_⟩:=h;rw[qj,r.length,hl,qj]
 .obtain⟨y,dx,H1,G,ds,d,us,rfl,rfl,hx,hdx,hne,gh,r,hl,hd,k⟩:=h;refine⟨_,(hbody y cdv A outer s _ E hr).1,?_⟩;unfold mV at hd;obtain⟨⟨fl,ρ'⟩,hg,hd⟩:=oBd hd;have s1:=Step.newOwn (o:=.own y) gh hdx;have hx1:(upd H1 dx (.own y)) y=af:=by rw[ay (cH hne)];exact hx
  have s2:=s1.trans (Step.newOwn (o:=.ins C dx []) s1.gh hx1);have hlen:us.length=ds.length:=r.length;have A0:At (Γ.mk1 y) K G H1 G (upd (upd H1 dx (.own y)) y (.ins C dx [])) (aa (.obj c [])::ds.map .(N)++bJ .(ak) af) (dw N (.ref y::us)):=by
   refine⟨s2,by simp[dw,hlen,hl],fun i=>if i=0 then [y] else [],fun i t e=>?_,fun i j t u hij e1 e2 b hb=>?_⟩
   .cases i with
    |zero=>
     cases e;exact⟨.ref y,rfl,.obj (vs:=[]) (fs:=[]) hC hx (gh.free hx) aV rfl .nil rfl⟩
    |succ i=>
     have e:(ds.map .(N)++bJ .(ak) af)[i]?=aa (aa t):=e;by_cases hi:i<ds.length
     .rw[qA .(bu),ql] at e;obtain⟨d',hd',e⟩:=oMd e;cases e;obtain⟨v,hv,rv⟩:=r.get hd';refine⟨v,?_,.sh (rv.to1 y)⟩;unfold dw;show((us.map aa)++_)[i]?=aa (aa v);rw[qA (by rw[qg,hlen];exact hi),ql,hv];rfl
     .rw[qM .(bu),uO] at e;split at e<;>cases e
   .have hb:b∈(if i=0 then [y] else []):=hb;show b∉(if j=0 then [y] else []);by_cases hi:i=0
    .subst hi;rw[qZ (cH hij)];exact fun z=>by cases z
    .rw[qZ hi] at hb;cases hb
  refine⟨G,H1,G,_,fl,ρ',A0,hg,fun σ' G' H' sm A'=>?_⟩;cases fl with
  |nx=>
   simp only at hd;split at hd
   .rename_i sl hs;obtain⟨a,G2,e1,st2,rp⟩:=A'.done hs hd;cases e1;exact k G2 H' st2 rp.of1
   .cases hd
  |rt d'=>cases hd
  |ow d'=>cases hd
  |nw d'=>cases hd
  |od d'=>cases hd
  |bk=>cases hd
  |ct=>cases hd
structure DfnM (K:aM) (C:au) (c m qual:ai) (st:Stmt):Prop where
 ex:∃f fd,Fun K m qual st f fd/\b8 K (.ref C) m=aa (aa (.ref f))/\nT K (.ref f)=ah
structure ClsOk (Γ:Cn) (K:aM) (mg:ai->aq av) (c:ai) (C:au):Prop where
 cn:Γ.cls c=aa C
 cl:Cls K C
 mgC:mg c=aa (.ref C)
 makes:pT K C=ah
 kp:fQ K (.ref C)=ah
theorem DfnM.cal {k:ak} (O:ClsOk Γ K mg c C) (F:DfnM K C c m qual st) (S:FnScope N ps (aB st))
  (hb:∀(kV doc pm:av) (an:aq au) (cdv ct:av) (us:ac av),us.length=ps.length->dQ .(aP) ⟨us,[]⟩=aT (ps.zip us))
  (hbody:∀(f:au) (cdv:av) (A:cv) (outer:ac ci) (s:aE) (H:Hp) (E:XK),Room k .(j)->
   DSs Γ .(g).nox (bR st) g):CalM Γ P w K mg base c m ps.length (k+1) (aP (N.length-ps.length) g):=by
 obtain⟨f,fd,h1,h2,h3⟩:=F.ex;exact⟨C,f,fd,ps,O.cn,O.cl,⟨h2,h3,h1.kp⟩,h1.okD S (hbody f),h1.binds hb⟩
theorem DfnM.calI {k:ak} (O:ClsOk Γ K mg c C) (F:DfnM K C c "__init__" qual st) (S:FnScope N (s0::ps) (aB st))
  (hb:∀(kV doc pm:av) (an:aq au) (cdv ct:av) (us:ac av),us.length=(s0::ps).length->dQ (cV "__init__" qual (cW st) (bR st) (aB st) .none kV doc pm an cdv ct) ⟨us,[]⟩=aT ((s0::ps).zip us))
  (hbody:∀(f y:au) (cdv:av) (A:cv) (outer:ac ci) (s:aE) (H:Hp) (E:XK),Room k .(j)->
   DSs (Γ.mk1 y) .(g).nox (bR st) g):CalI Γ P w K mg base c ps.length (k+1) (mV .(ak) c g):=by
 obtain⟨f,fd,h1,h2,h3⟩:=F.ex;exact⟨C,f,fd,s0::ps,O.cn,⟨O.makes,h2,h3,O.kp⟩,O.mgC,h1.okI S O.cn (hbody f),h1.binds hb⟩
theorem ClsOk.cf (O:ClsOk Γ K mg c C) (h:∀f∈attrs,kq K C f):CF Γ K c attrs:=⟨C,O.cn,O.cl,h⟩
theorem PQ (us:ac av):us=(ck us.length).map fun i=>us.getD i .none:=by
 apply Tx
 .simp
 .intro i h1 h2;simp[oo,qE h1]
theorem bn {F:av->av->av->aq au->av->av->jZ} (h:∀a b c d e f (v:ak->av),dQ (F a b c d e f) ⟨(ck ps.length).map v,[]⟩=aT (ps.zip ((ck ps.length).map v))) (a b c:av) (d:aq au) (e f:av) (us:ac av) (hl:us.length=ps.length) :
  dQ (F a b c d e f) ⟨us,[]⟩=aT (ps.zip us):=by
 have:=h a b c d e f fun i=>us.getD i .none;rw[←hl,←PQ us] at this;exact this
section
variable {g:FG}
theorem lcN (N':ac ai) (hi:DI Γ X tg iter fi) (hb:N'.Nodup->DB Γ X N' scope tg ifs elt g ft fe:=by intro nd;exact⟨fun _ _ _ _ _=>⟨by right,by first|exact nC|(refine sG ?_;exfalso),by ac_rfl⟩⟩) (hn:N'.Nodup:=by decide +kernel) (hc:X.calm=ah:=by rfl) (hk:scope.kind=.function:=by rfl) (h:rO scope.names X.env.scope.names=ah:=by rfl) (F:t7 N' fv X.N X.env.scope.names scope.names=ah:=by rfl) (hs:∀x,lf iter X.env x=aT x:=by intro _;rfl):DO Γ X .(r) (ba fi g ft fe fv):=Ji hc (.of hk h) (.of F) hi (hb hn) hs
theorem ko (i:ak) {y:ai} (hN:X.N.Nodup) (N':ac ai) (hi:DI Γ X tg iter fi) (hb:N'.Nodup->DB Γ X N' scope tg ifs elt g ft fe:=by intro nd;exact⟨fun _ _ _ _ _=>⟨by right,by first|exact nC|(refine sG ?_;exfalso),by ac_rfl⟩⟩) (hn:N'.Nodup:=by decide +kernel) (hc:X.calm=ah:=by rfl) (hk:scope.kind=.function:=by rfl) (h:rO scope.names X.env.scope.names=ah:=by rfl) (F:t7 N' fv X.N X.env.scope.names scope.names=ah:=by rfl) (hy:X.N[i]?=aa y:=by rfl) (hyl:X.env.scope.names.lookup y=aa .local:=by rfl) (hsw:dh .(r) (aa (.Name y py)) spos.line X.env=aT ah:=by rfl) (hs:∀x,lf iter X.env x=aT x:=by intro _;rfl):DS Γ X (.Assign [.Name y py] .(r) spos) (aR i (aS (ba fi g ft fe fv))):=HV i hN hc (.of hk h) (.of F) hi (hb hn) hy hyl hsw hs
end
theorem gw:dH "all"=aa (.builtin "all"):=by decide +kernel
theorem Ju:dH "isinstance"=aa (.builtin "isinstance"):=by decide +kernel
theorem O9:dH "len"=aa (.builtin "len"):=by decide +kernel
theorem Ea:dH "max"=aa (.builtin "max"):=by decide +kernel
theorem sU:dH "min"=aa (.builtin "min"):=by decide +kernel
theorem xP:dH "sorted"=aa (.builtin "sorted"):=by decide +kernel
theorem KQ:dH "bool"=aa (.type "bool"):=by decide +kernel
theorem km:dH "dict"=aa (.type "dict"):=by decide +kernel
theorem Qe:dH "int"=aa (.type "int"):=by decide +kernel
theorem o5:dH "list"=aa (.type "list"):=by decide +kernel
theorem GW:dH "str"=aa (.type "str"):=by decide +kernel
theorem CK:dH "tuple"=aa (.type "tuple"):=by decide +kernel
theorem KI:dH "set"=aa (.type "set"):=by decide +kernel
noncomputable abbrev FS1 (N:ac ai) (k:ak) (sc:Scope):Prop:=FnScope N (N.take k) sc
section
variable {k:ak}
theorem Dfn.cl (F:Dfn K mg x st) (S:FnScope N ps (aB st)) (hbody:N.Nodup->∀(f:au) (cdv:av) (A:cv) (outer:ac ci) (s:aE) (H:Hp) (E:XK),Room k (A.deeper (cY x (aB st) s.heap.objs.size f cdv))->DSs Γ (c9 CX0 P w K mg base N x (aB st) f cdv A outer s H E).nox (bR st) g)
  (hb:∀a b c d e f (v:ak->av),dQ (cV x x (cW st) (bR st) (aB st) .none a b c d e f) ⟨(ck ps.length).map v,[]⟩=aT (ps.zip ((ck ps.length).map v)):=by exact fun _ _ _ _ _ _ _=>rfl):Cal Γ P w K mg base x ps.length (k+1) (aP (N.length-ps.length) g):=F.cal S (bn hb) (hbody S.nd)
theorem DfnM.cl (O:ClsOk Γ K mg c C) (F:DfnM K C c m qual st) (S:FnScope N ps (aB st)) (hbody:N.Nodup->∀(f:au) (cdv:av) (A:cv) (outer:ac ci) (s:aE) (H:Hp) (E:XK),Room k .(j)->DSs Γ .(g).nox (bR st) g)
  (hb:∀a b c d e f (v:ak->av),dQ (cV m qual (cW st) (bR st) (aB st) .none a b c d e f) ⟨(ck ps.length).map v,[]⟩=aT (ps.zip ((ck ps.length).map v)):=by exact fun _ _ _ _ _ _ _=>rfl):CalM Γ P w K mg base c m ps.length (k+1) (aP (N.length-ps.length) g):=DfnM.cal O F S (bn hb) (hbody S.nd)
end
variable {M n0 ep:ak} {h:aj} {owner:bI (aq ak)} {hs:ac aj} {I:au} {wr:ac au} {hashAt:ak->aj} {h0:Heap} {es':bI (aj×av)}
namespace ST
structure Pr where
 j:ak
 more:ak
 i:ak
 pt:ak
def adv (M:ak) (p:Pr):Pr:=if p.more > 0 then {p with j:=p.j+1,more:=p.more-1} else
 {j:=(iF M p.i p.pt).1,more:=cZ M (iF M p.i p.pt).1-(iF M p.i p.pt).1,i:=(iF M p.i p.pt).1,pt:=(iF M p.i p.pt).2}
def st0 (M:ak) (h:aj):Pr:={j:=fy h%(M+1),more:=cZ M (fy h%(M+1))-fy h%(M+1),i:=fy h%(M+1),pt:=fy h}
def it (M:ak) (h:aj):ak->Pr
 |0=>st0 M h
 |n+1=>adv M (it M h n)
def J (M:ak) (h:aj) (n:ak):ak:=(it M h n).j
noncomputable def lp (M:ak) (h:aj):ak->ak×ak
 |0=>(fy h%(M+1),fy h)
 |r+1=>iF M .(R).1 .(R).2
def lM (M:ak) (x:ak×ak):Pr:={j:=x.1,more:=cZ M x.1-x.1,i:=x.1,pt:=x.2}
theorem uh (M:ak) (h:aj) (n:ak):∀k,it M h (n+k)=(Nat.repeat (adv M) k (it M h n))
 |0=>rfl
 |k+1=>by rw[←F8,it,uh M h n k];rfl
theorem Jz (M i:ak):cZ M i-i<=9:=by unfold cZ;split<;>omega
theorem sT (M:ak):∀(k:ak) (p:Pr),k<=p.more->Nat.repeat (adv M) k p={p with j:=p.j+k,more:=p.more-k}
 |0,p,_=>rfl
 |k+1,p,h=>by rw[Nat.repeat,sT M k p .(b)];unfold adv;rw[qY (by show p.more-k > 0;omega)];simp only[Nat.sub_sub,F8]
theorem DC (M:ak) (h:aj):∀r,∃n,n<=10*r/\it M h n=lM M .(R)
 |0=>⟨0,qw _,rfl⟩
 |r+1=>by obtain⟨n,hn,e⟩:=DC M h r;have hl:=Jz M .(R).1;refine⟨n+(cZ M .(R).1-.(R).1)+1,by omega,?_⟩;have e2:=sT M (cZ M .(R).1-.(R).1) (lM M .(R)) (qw _);rw[it,uh,e,e2];unfold adv;rw[qZ (by show ¬((cZ M .(R).1-.(R).1)-(cZ M .(R).1-.(R).1) > 0);omega)];rfl
theorem J2 (h:aj):fy h<2 ^ 64:=by unfold fy;have h1:=Tz h (show(2 ^ 64:aj)≠0 by decide);have h2:=TC h (show(0:aj)<2 ^ 64 by decide);omega
theorem E1 (M:ak) (h:aj):∀r,.(R).2=fy h / 32 ^ r
 |0=>by simp[lp]
 |r+1=>by show.(R).2 / 32=_;rw[E1 M h r,Nat.div_div_eq_div_mul,Nat.pow_succ]
theorem Ps (M:ak) (h:aj) {r:ak} (hr:13<=r):.(R).2=0:=by rw[E1];refine Nat.div_eq_of_lt (qG (J2 h) ?_);exact qO (show 2 ^ 64<=32 ^ 13 by decide) (Nat.pow_le_pow_right .(c) hr)
noncomputable def fl (M i:ak):ak:=(i*5+1)%(M+1)
def orb (M:ak):ak->ak->ak
 |0,i=>i
 |m+1,i=>fl M (orb M m i)
theorem xw (M:ak) (h:aj):∀m,(lp M h (13+m)).1=orb M m (lp M h 13).1
 |0=>rfl
 |m+1=>by show(iF M (lp M h (13+m)).1 (lp M h (13+m)).2).1=_;rw[Ps M h .(b),xw M h m];simp[iF,orb,fl]
theorem sQ (M i:ak) (a:ak):∀b,orb M (a+b) i=orb M b (orb M a i)
 |0=>rfl
 |b+1=>by rw[←F8,orb,sQ M i a b];rfl
def wV (M:ak):ak->ak->ac ak
 |0,_=>[]
 |n+1,i=>i::wV M n (fl M i)
theorem D7 (M:ak):∀m i,orb M (m+1) i=orb M m (fl M i)
 |0,_=>rfl
 |m+1,i=>by rw[orb,D7 M m i];rfl
theorem Do (M:ak):∀(n i j:ak),j∈wV M n i->∃m,m<n/\orb M m i=j
 |0,_,_,h=>nomatch h
 |n+1,i,j,h=>by
  rcases bZ.mp h with e|h
  .exact⟨0,zh _,e.symm⟩
  .obtain⟨m,hm,e⟩:=Do M n (fl M i) j h;exact⟨m+1,by omega,by rw[D7];exact e⟩
structure Full (M:ak):Prop where
 all:∀j,j<=M->∃m,m<M+1/\orb M m 0=j
 back:orb M (M+1) 0=0
def chk (M:ak):aN:=(ck (M+1)).all (fun j=>(wV M (M+1) 0).contains j) && orb M (M+1) 0==0
theorem ux (h:chk M=ah):Full M:=by unfold chk at h;rw[eX,ia] at h;refine⟨fun j hj=>?_,by simpa using h.2⟩;have:=h.1 j (fH.mpr .(b));exact Do M (M+1) 0 j (by simpa using this)
theorem Ag:Full 7:=ux .(z)
theorem Lu:Full 31:=ux .(z)
theorem Hv:Full 127:=ux .(z)
theorem R4:Full 511:=ux .(z)
theorem Full.reach (F:Full M) (hi:i<=M) (hj:j<=M):∃m,m<=M/\orb M m i=j:=by
 obtain⟨a,ha,ea⟩:=F.all i hi;obtain⟨b,hb,eb⟩:=F.all j hj;by_cases h:a<=b
 .refine⟨b-a,by omega,?_⟩;rw[←ea,←sQ,show a+(b-a)=b by omega,eb]
 .refine⟨M+1-a+b,by omega,?_⟩;rw[←ea,←sQ,show a+(M+1-a+b)=(M+1)+b by omega,sQ,F.back,eb]
theorem yz (M:ak) (h:aj):∀r,.(R).1<=M
 |0=>F9.mp (zi _ (zh _))
 |r+1=>F9.mp (zi _ (zh _))
theorem Full.covers (F:Full M) (h:aj) (hj:j<=M):∃n,n<10*(M+15)/\J M h n=j:=by obtain⟨m,hm,e⟩:=F.reach (yz M h 13) hj;obtain⟨n,hn,en⟩:=DC M h (13+m);refine⟨n,by omega,?_⟩;unfold J;rw[en];show(lp M h (13+m)).1=j;rw[xw,e]
theorem C6 (M:ak) (h:aj):∀n,(it M h n).j+(it M h n).more<=M
 |0=>by
  have:=yz M h 0;show(lp M h 0).1+(cZ M (lp M h 0).1-(lp M h 0).1)<=M;unfold cZ;split<;>omega
 |n+1=>by
  have ih:=C6 M h n;rw[it];unfold adv;split
  .show(it M h n).j+1+((it M h n).more-1)<=M;omega
  .show(iF M (it M h n).i (it M h n).pt).1+(cZ M (iF M (it M h n).i (it M h n).pt).1-(iF M (it M h n).i (it M h n).pt).1)<=M;have:(iF M (it M h n).i (it M h n).pt).1<=M:=F9.mp (zi _ (zh _));unfold cZ;split<;>omega
theorem yB (M:ak) (h:aj) (n:ak):J M h n<=M:=qO (zj _ _) (C6 M h n)
theorem Full.first (F:Full M) (h:aj) (occ:ak->aN) (hf:∃j,j<=M/\occ j=ar):∃n,n<10*(M+15)/\occ (J M h n)=ar/\∀m,m<n->occ (J M h m)=ah:=by
 obtain⟨j,hj,hof⟩:=hf;obtain⟨n,hn,e⟩:=F.covers h hj;have key:∀n,n<10*(M+15)->occ (J M h n)=ar->∃n,n<10*(M+15)/\occ (J M h n)=ar/\∀m,m<n->occ (J M h m)=ah:=by
  intro n
  induction n using Nat.strongRecOn with
  |ind n ih=>
   intro hn ho;by_cases hx:∃m,m<n/\occ (J M h m)=ar
   .obtain⟨m,hm,hm2⟩:=hx;exact ih m hm .(b) hm2
   .refine⟨n,hn,ho,fun m hm=>?_⟩;cases q:occ (J M h m) with
    |true=>rfl
    |false=>exact bu ⟨m,hm,q⟩ hx
 exact key n hn (by rw[e];exact hof)
theorem vG (xs:bI ak) (j:ak) (hs:xs.toList.Pairwise (· < ·)):∀(fuel lo hi:ak),hi-lo<=fuel->lo<=hi->hi<=xs.size->(∀i,i<lo->∀v,xs[i]?=aa v->v<j)->(∀i,hi<=i->∀v,xs[i]?=aa v->j<=v)->
  (zk xs j fuel lo hi<=xs.size)/\(∀i,i<zk xs j fuel lo hi->∀v,xs[i]?=aa v->v<j)/\∀i,zk xs j fuel lo hi<=i->∀v,xs[i]?=aa v->j<=v
 |0,lo,hi,hf,hl,hh,h1,h2=>by
  have e:lo=hi:=by omega
  subst e;exact⟨hh,h1,h2⟩
 |fuel+1,lo,hi,hf,hl,hh,h1,h2=>by
  have mono:∀a b va vb,a<b->xs[a]?=aa va->xs[b]?=aa vb->va<vb:=fun a b va vb hab ha hb=>by have:=TF.mp hs a b;obtain⟨a1,a2⟩:=ge.mp ha;obtain⟨b1,b2⟩:=ge.mp hb;have q:=this (by simpa using a1) (by simpa using b1) hab;simpa[a2,b2] using q
  unfold zk;by_cases hlt:lo<hi
  .rw[qY hlt];have hm1:lo<=(lo+hi) / 2:=by omega
   have hm2:(lo+hi) / 2<hi:=by omega
   have hget:∃v,xs[(lo+hi) / 2]?=aa v:=⟨xs[(lo+hi) / 2]'.(b),by simp[show(lo+hi) / 2<xs.size by omega]⟩;obtain⟨v,hv⟩:=hget;have hd:xs.getD ((lo+hi) / 2) j=v:=by simp[zl,hv]
   dsimp only;rw[hd];by_cases hvj:v<j
   .rw[qY hvj];refine vG xs j hs fuel _ _ .(b) .(b) hh (fun i hi' w hw=>?_) h2;rcases mM i ((lo+hi) / 2) with hi2|hi2
    .exact pW (mono i _ w v hi2 hw hv) hvj
    .have e:i=(lo+hi) / 2:=by omega
     subst e;rw[hv] at hw;cases hw;exact hvj
   .rw[qZ hvj];refine vG xs j hs fuel _ _ .(b) .(b) .(b) h1 fun i hi' w hw=>?_;rcases mM ((lo+hi) / 2) i with hi2|hi2
    .exact qO .(b) (pL (mono _ i v w hi2 hv hw))
    .have e:i=(lo+hi) / 2:=by omega
     subst e;rw[hv] at hw;cases hw;omega
  .rw[qZ hlt];have e:lo=hi:=by omega
   subst e;exact⟨hh,h1,h2⟩
theorem vE (xs:bI ak) (j:ak) (hs:xs.toList.Pairwise (· < ·)):cr xs j<=xs.size/\(∀i,i<cr xs j->∀v,xs[i]?=aa v->v<j)/\∀i,cr xs j<=i->∀v,xs[i]?=aa v->j<=v:=
 vG xs j hs xs.size 0 xs.size (qw _) (eW _) (qw _) (fun i h=>bu h (F' _)) fun i h v hv=>by have:=(ge.mp hv).1;omega
theorem xj (xs:bI ak) (j i:ak) (hs:xs.toList.Pairwise (· < ·)) (h:xs[i]?=aa j):cr xs j=i:=by
 obtain⟨h0,h1,h2⟩:=vE xs j hs;rcases TH (cr xs j) i with hl|hl|hl
 .have hi:=(ge.mp h).1;have hg:xs[cr xs j]?=aa (xs[cr xs j]'.(b)):=by simp[show cr xs j<xs.size by omega]
  have q1:=h2 _ (qw _) _ hg;have:=TF.mp hs (cr xs j) i (by simp;omega) .(bu) hl;obtain⟨_,e⟩:=ge.mp h;simp only[Array.getElem_toList] at this;omega
 .exact hl
 .have:=h1 i hl j h;omega
structure Tb (t:lv) (es:bI (aj×av)):Prop where
 full:Full t.mask
 sz:t.place.size=es.size
 dm:t.dummies=#[]
 ri:t.place.toList.Pairwise (· < ·)
 le:∀j∈t.place.toList,j<=t.mask
 few:es.size*5<t.mask*3
 rc:∀(i j:ak) (h:aj) (x:av),t.place[i]?=aa j->es[i]?=aa (h,x)->∃n,J t.mask h n=j/\∀m,m<n->J t.mask h m∈t.place.toList
section
variable {t:lv} {es:bI (aj×av)}
theorem Tb.live (T:Tb t es) (h:t.place[i]?=aa j):t.slot j=.live i:=by unfold TJ;rw[xj _ _ _ T.ri h];simp[h]
theorem Tb.empty (T:Tb t es) (h:j∉t.place.toList):t.slot j=.empty:=by
 unfold TJ;have h1:t.place[cr t.place j]?≠aa j:=fun e=>h (by rw[←qJ] at e;exact qR e)
 have h2:Ga t.dummies j=ar:=by rw[T.dm];rfl
 simp[h1,h2]
theorem Tb.occ (T:Tb t es) (h:j∈t.place.toList):∃i:ak,t.place[i]?=aa j:=by obtain⟨i,hi⟩:=uW.mp h;exact⟨i,by rw[←qJ];exact hi⟩
theorem Tb.fits (T:Tb t es):t.fits es.size=ah:=by have h1:=T.sz;have h2:=T.few;simp only[Gb,TK,T.dm,Array.size_empty,eX,jX,Gc];omega
theorem tH:∀(a b:ac ak),a.Nodup->(∀x∈a,x∈b)->a.length<=b.length:=by
 intro xs0
 induction xs0 with
 |nil=>
  intro _ _ _;exact eW _
 |cons x r ih=>
  intro b nd h;have hx:=h x qh;have nd':=cU.mp nd;have:=ih (b.erase x) nd'.2 fun y hy=>(List.mem_erase_of_ne (show y≠x from fun e=>nd'.1 (by rw[←e];exact hy))).mpr (h y (qi _ hy));have hl:=List.length_erase_of_mem hx;have hp:0<b.length:=List.length_pos_of_mem hx;rw[qj];omega
theorem Tb.free (T:Tb t es):∃j,j<=t.mask/\decide (j∈t.place.toList)=ar:=by
 by_cases hx:∃j,j<=t.mask/\j∉t.place.toList
 .obtain⟨j,h1,h2⟩:=hx;exact⟨j,h1,qP h2⟩
 .exfalso;have all:∀j,j<=t.mask->j∈t.place.toList:=fun j hj=>Classical.byContradiction fun hn=>hx ⟨j,hj,hn⟩;have h1:=tH (ck (t.mask+1)) t.place.toList Gd fun j hj=>all j (by have:=fH.mp hj;omega);have h2:=T.sz;have h3:=T.few;simp only[qW,iE] at h1;omega
theorem Tb.first (T:Tb t es) (h:aj):∃n,n<10*(t.mask+15)/\J t.mask h n∉t.place.toList/\∀m,m<n->J t.mask h m∈t.place.toList:=by obtain⟨n,h1,h2,h3⟩:=T.full.first h (fun j=>decide (j∈t.place.toList)) T.free;exact⟨n,h1,of_decide_eq_false h2,fun m hm=>jt (h3 m hm)⟩
def gx (p:Pr):zm:={j:=p.j,more:=p.more,i:=p.i,perturb:=p.pt,dummy:=af}
theorem CC (t:lv) (p:Pr):t.advance (gx p)=gx (adv t.mask p):=by
 unfold SetTable.advance adv gx;by_cases h:p.more > 0
 .simp only[h,cq]
 .simp only[h,cB]
theorem Tb.probe_go (T:Tb t es) (hashAt:ak->aj) (h:aj) {n0:ak} (hf:J t.mask h n0∉t.place.toList) (ho:∀m,m<n0->J t.mask h m∈t.place.toList):∀(fuel n:ak),n<=n0->n0<n+fuel->
  (∃n' i,n<=n'/\n'<n0/\t.place[i]?=aa (J t.mask h n')/\hashAt i=h/\(∀m i,n<=m->m<n'->t.place[i]?=aa (J t.mask h m)->hashAt i≠h)/\Ge t hashAt h fuel (gx (it t.mask h n))=aa (.candidate (J t.mask h n') i (gx (it t.mask h (n'+1))))) \/
  ((∀m i,n<=m->m<n0->t.place[i]?=aa (J t.mask h m)->hashAt i≠h)/\Ge t hashAt h fuel (gx (it t.mask h n))=aa (.empty .(ba) af))
 |0,n,h1,h2=>by omega
 |fuel+1,n,h1,h2=>by
  unfold Ge;by_cases hn:n=n0
  .subst hn
   right
   refine⟨fun m i a b=>by omega,?_⟩;have hs:t.slot (gx (it t.mask h n)).j=.empty:=T.empty hf;rw[hs];rfl
  .obtain⟨i,hi⟩:=T.occ (ho n .(b));have hs:t.slot (gx (it t.mask h n)).j=.live i:=T.live hi;rw[hs];dsimp only;by_cases hh:hashAt i=h
   .left
    refine⟨n,i,qw _,by omega,hi,hh,fun m i a b=>by omega,?_⟩;rw[qY (by simpa using hh),CC];rfl
   .rw[qZ (by simpa using hh),CC];have inj:∀i',t.place[i']?=aa (J t.mask h n)->i'=i:=fun i' h'=>by rw[←xj _ _ _ T.ri h',←xj _ _ _ T.ri hi]
    have ext:∀{b:ak},(∀m i,n+1<=m->m<b->t.place[i]?=aa (J t.mask h m)->hashAt i≠h)->∀m i,n<=m->m<b->t.place[i]?=aa (J t.mask h m)->hashAt i≠h:=fun {b} q m i' a c d=>by
     by_cases e:m=n
     .subst e;rw[inj i' d];exact hh
     .exact q m i' .(b) c d
    rcases T.probe_go hashAt h hf ho fuel (n+1) .(b) .(b) with⟨n',i',a,b,c,d,e,f⟩|⟨e,f⟩
    .exact .inl ⟨n',i',by omega,b,c,d,ext e,f⟩
    .exact .inr ⟨ext e,f⟩
theorem pA (xs:bI α) (p:ak) (x:α) (hp:p<=xs.size):(c0 xs p x).toList=xs.toList.take p++x::xs.toList.drop p:=by unfold c0;simp[Array.toList_extract,List.extract_eq_take_drop];exact mN (by simp)
theorem Ee (l:ac α) (p:ak) (x:α) (hp:p<=l.length) (i:ak):(l.take p++x::l.drop p)[i]?=if i<p then l[i]? else if i=p then aa x else l[i-1]?:=by
 by_cases h1:i<p
 .rw[qY h1,qA (by rw[qF];omega),yM h1]
 .rw[qZ h1,qM (by rw[qF];omega),qF,uY hp];by_cases h2:i=p
  .rw[qY h2,h2];simp
  .rw[qZ h2];obtain⟨k,hk⟩:∃k,i-p=k+1:=⟨i-p-1,by omega⟩;rw[hk,qe,TL]
   congr 1
   omega
theorem vA (l:ac α) (p:ak) (x y:α):y∈l.take p++x::l.drop p↔y=x\/y∈l:=by
 rw[cT,qN];constructor
 .rintro(h|h|h)
  .exact .inr (p9 h)
  .exact .inl h
  .exact .inr (TM h)
 .rintro(h|h)
  .exact .inr (.inl h)
  .have:y∈l.take p++l.drop p:=by rw[zn];exact h
   rcases cT.mp this with h|h
   .exact .inl h
   .exact .inr (.inr h)
theorem Tb.put (T:Tb t es) {x:av} (hf:J t.mask h n0∉t.place.toList) (ho:∀m,m<n0->J t.mask h m∈t.place.toList) (few:(es.size+1)*5<t.mask*3) (pl:aN) :
  Tb { (t.put .(ba)).1 with plain:=pl} (c0 es (t.put .(ba)).2 (h,x)):=by
 obtain⟨b0,b1,b2⟩:=vE t.place .(ba) T.ri;have bes:cr t.place .(ba)<=es.size:=by rw[←T.sz];exact b0
 have pl1:(c0 t.place .(A) .(ba)).toList=t.place.toList.take .(A)++J t.mask h n0::t.place.toList.drop .(A):=pA _ _ _ b0;have el1:(c0 es .(A) (h,x)).toList=es.toList.take .(A)++(h,x)::es.toList.drop .(A):=pA _ _ _ bes;have szp:(c0 t.place .(A) .(ba)).size=t.place.size+1:=by rw[←iE,pl1];simp;omega
 have sze:(c0 es .(A) (h,x)).size=es.size+1:=by rw[←iE,el1];simp;omega
 refine⟨T.full,?_,?_,?_,?_,?_,?_⟩
 .show(c0 t.place _ _).size=_;rw[szp];show _=(c0 es .(A) (h,x)).size;rw[sze,T.sz]
 .show(if Ga t.dummies .(ba)=ah then _ else t.dummies)=#[];rw[T.dm];rfl
 .show(c0 t.place .(A) .(ba)).toList.Pairwise (· < ·);rw[pl1,List.pairwise_append,List.pairwise_cons];have tk:∀a∈t.place.toList.take .(A),a<J t.mask h n0:=fun a ha=>by
   obtain⟨i,hi⟩:=uW.mp ha;have hi':i<cr t.place .(ba):=by have:=(fJ.mp hi).1;rw[qF] at this;omega
   rw[yM hi',qJ] at hi;exact b1 i hi' a hi
  have dr:∀a∈t.place.toList.drop .(A),J t.mask h n0<a:=fun a ha=>by
   obtain⟨i,hi⟩:=uW.mp ha;rw[TL,qJ] at hi;have h1:=b2 _ (zj _ i) a hi;rcases mM .(ba) a with q|q
   .exact q
   .exact bu (by rw[←qJ] at hi;have e:a=J t.mask h n0:=.(b);rw[e] at hi;exact qR hi) hf
  refine⟨T.ri.sublist (mH _ _),⟨dr,T.ri.sublist (List.drop_sublist _ _)⟩,fun a ha b hb=>?_⟩;rcases bZ.mp hb with e|hb
  .rw[e];exact tk a ha
  .exact pW (tk a ha) (dr b hb)
 .intro j hj;have hj':j∈(c0 t.place .(A) .(ba)).toList:=hj;rw[pl1,vA] at hj';rcases hj' with e|hj'
  .rw[e];exact yB _ _ _
  .exact T.le j hj'
 .show(c0 es .(A) (h,x)).size*5<t.mask*3;rw[sze];exact few
 .intro i j h' x' e1 e2;have e1':(c0 t.place .(A) .(ba)).toList[i]?=aa j:=by rw[qJ];exact e1
  have e2':(c0 es .(A) (h,x)).toList[i]?=aa (h',x'):=by rw[qJ];exact e2
  rw[pl1,Ee _ _ _ (by simpa using b0)] at e1';rw[el1,Ee _ _ _ (by simpa using bes)] at e2';have up:∀{n:ak},(∀m,m<n->J t.mask h' m∈t.place.toList)->∀m,m<n->J t.mask h' m∈(c0 t.place .(A) .(ba)).toList:=fun q m hm=>by rw[pl1,vA];exact .inr (q m hm)
  by_cases c1:i<cr t.place .(ba)
  .rw[qY c1] at e1' e2';rw[qJ] at e1' e2';obtain⟨n,hn,q⟩:=T.rc i j h' x' e1' e2';exact⟨n,hn,up q⟩
  .rw[qZ c1] at e1' e2';by_cases c2:i=cr t.place .(ba)
   .rw[qY c2] at e1' e2';cases e1';cases e2';exact⟨n0,rfl,up ho⟩
   .rw[qZ c2] at e1' e2';rw[qJ] at e1' e2';obtain⟨n,hn,q⟩:=T.rc _ j h' x' e1' e2';exact⟨n,hn,up q⟩
end
noncomputable def eD (owner:bI (aq ak)) (j:ak):aN:=(owner.getD j (aa 0)).isNone
theorem o3 {r:ak} (e:it M h n=lM M .(R)) {k:ak} (hk:k<cZ M .(R).1+1-.(R).1):J M h (n+k)=.(R).1+k:=by unfold J;rw[uh,e,sT M k _ (by show k<=cZ M .(R).1-.(R).1;omega)];rfl
theorem Jp {r:ak} (e:it M h n=lM M .(R)):it M h (n+(cZ M .(R).1+1-.(R).1))=lM M (lp M h (r+1)):=by
 have hge:.(R).1<=cZ M .(R).1:=by unfold cZ;split<;>omega
 have e2:=sT M (cZ M .(R).1-.(R).1) (lM M .(R)) (qw _);rw[show n+(cZ M .(R).1+1-.(R).1)=n+(cZ M .(R).1-.(R).1)+1 by omega,it,uh,e,e2];unfold adv;rw[qZ (by show ¬((cZ M .(R).1-.(R).1)-(cZ M .(R).1-.(R).1) > 0);omega)];rfl
theorem Cr {M:ak} {h:aj} (owner:bI (aq ak)) {rs:ak} (hfr:eD owner (lp M h rs).1=ah):∀(fuel r n:ak),it M h n=lM M .(R)->r<=rs->rs<r+fuel->(∀m,m<n->eD owner (J M h m)=ar)->
  ∃n',eD owner (J M h n')=ah/\(∀m,m<n'->eD owner (J M h m)=ar)/\rf M owner fuel .(R).1 .(R).2=aa (J M h n')
 |0,r,n,_,h1,h2,_=>by omega
 |fuel+1,r,n,e,h1,h2,h3=>by
  unfold rf;cases hf:(ck (cZ M .(R).1+1-.(R).1)).find? (fun k=>(owner.getD (.(R).1+k) (aa 0)).isNone) with
  |some k=>
   have hk:=fH.mp (TN hf);have hp:eD owner (.(R).1+k)=ah:=by have:=TQ hf;exact this
   refine⟨n+k,by rw[o3 e hk];exact hp,fun m hm=>?_,?_⟩
   .rcases mM m n with c|c
    .exact h3 m c
    .obtain⟨d,rfl⟩:∃d,m=n+d:=⟨m-n,by omega⟩;rw[o3 e .(b)];obtain⟨as,bs,hab,hno⟩:=(List.find?_eq_some_iff_append.mp hf).2;have hd:d∈as:=by
      have hl:as=ck k:=by
       have hlen:as.length=k:=by
        have:(ck (cZ M .(R).1+1-.(R).1))[as.length]?=aa k:=by rw[hab];simp
        rw[List.getElem?_range] at this
        .exact qI this
        .have:=bO cI hab;simp at this;omega
       have:=bO (uZ k) hab;rw[List.take_range,uY .(b),←hlen,List.take_left'] at this
       .rw[hlen] at this;exact this.symm
       .rfl
      rw[hl];exact fH.mpr .(b)
     have:=hno d hd;exact Gf.mpr (fun z=>by rw[show(owner.getD (.(R).1+d) (aa 0)).isNone=ah from z] at this;cases this)
   .rw[o3 e hk]
  |none=>
   have hn:∀k,k<cZ M .(R).1+1-.(R).1->eD owner (J M h (n+k))=ar:=fun k hk=>by rw[o3 e hk];have:=zo.mp hf k (fH.mpr hk);exact Gf.mpr this
   have hge:.(R).1<=cZ M .(R).1:=by unfold cZ;split<;>omega
   have hr:r≠rs:=fun z=>by subst z;have:=hn 0 .(b);rw[o3 e .(b),Nat.add_zero,hfr] at this;cases this
   exact Cr owner hfr fuel (r+1) _ (Jp e) .(b) .(b) fun m hm=>by
    rcases mM m n with c|c
    .exact h3 m c
    .obtain⟨d,rfl⟩:∃d,m=n+d:=⟨m-n,by omega⟩;exact hn d .(b)
theorem Full.free (F:Full M) (h:aj) (owner:bI (aq ak)) (hf:∃j,j<=M/\eD owner j=ah) :
  ∃n,eD owner (J M h n)=ah/\(∀m,m<n->eD owner (J M h m)=ar)/\rf M owner (mP M) (fy h%(M+1)) (fy h)=aa (J M h n):=by
 obtain⟨j,hj,hjf⟩:=hf;obtain⟨m,hm,e⟩:=F.reach (yz M h 13) hj;have hl:(lp M h (13+m)).1=j:=by rw[xw,e]
 exact Cr owner (rs:=13+m) (by rw[hl];exact hjf) (mP M) 0 0 rfl (eW _) (by unfold mP;omega) fun m hm=>bu hm (F' _)
structure Own (M:ak) (hs:ac aj) (owner:bI (aq ak)):Prop where
 sz:owner.size=M+1
 lt:∀(j k:ak),owner[j]?=aa (aa k)->k<hs.length
 on:∀k,k<hs.length->∃j:ak,owner[j]?=aa (aa k)
 inj:∀(j j' k:ak),owner[j]?=aa (aa k)->owner[j']?=aa (aa k)->j=j'
 rc:∀(j k:ak) h,owner[j]?=aa (aa k)->hs[k]?=aa h->∃n,J M h n=j/\∀m,m<n->eD owner (J M h m)=ar
theorem oy :eD owner j=ah↔owner[j]?=aa af:=by
 unfold eD;rw[zl];cases e:owner[j]? with
 |none=>simp
 |some o=>cases o<;>simp
theorem Own.empty (M:ak):Own M [] (TR (M+1) af):=by
 have no:∀(j k:ak),(TR (M+1) (af:aq ak))[j]?=aa (aa k)->False:=fun j k h=>by rw[Array.getElem?_replicate] at h;split at h<;>cases h
 exact⟨by simp,fun j k h=>(no j k h).elim,fun k h=>bu h (F' _),fun j _ k h _=>(no j k h).elim,fun j k _ h _=>(no j k h).elim⟩
theorem Own.room (O:Own M hs owner) (hr:hs.length<=M):∃j,j<=M/\eD owner j=ah:=by
 by_cases hx:∃j,j<=M/\eD owner j=ah
 .exact hx
 .exfalso;have all:∀j,j<=M->∃k,owner[j]?=aa (aa k):=fun j hj=>by
   have h1:eD owner j≠ah:=fun z=>hx ⟨j,hj,z⟩;have h2:j<owner.size:=by rw[O.sz];omega
   cases q:owner[j] with
   |none=>exact bu (oy.mpr (by simp[h2,q])) h1
   |some k=>exact⟨k,by simp[h2,q]⟩
  have pig:=tH ((ck (M+1)).map fun j=>((owner[j]?).join).getD 0) (ck hs.length) ?_ ?_
  .rw[qg,qW,qW] at pig;omega
  .refine TU.mpr (u5.mpr (Gg ?_ Gd));intro a b ha hb hab e;obtain⟨k,hk⟩:=all a (by have:=fH.mp ha;omega);obtain⟨k',hk'⟩:=all b (by have:=fH.mp hb;omega);simp only[hk,hk',TV,TW] at e;subst e;exact hab (O.inj a b k hk hk')
  .intro x hx';obtain⟨j,hj,rfl⟩:=bz.mp hx';obtain⟨k,hk⟩:=all j (by have:=fH.mp hj;omega);simp only[hk,TV,TW];exact fH.mpr (O.lt j k hk)
theorem Own.more (O:Own M hs owner) (hf:eD owner (J M h n)=ah) (ho:∀m,m<n->eD owner (J M h m)=ar) :
  Own M (hs++[h]) (owner.setIfInBounds (J M h n) (aa hs.length)):=by
 have hlt:J M h n<owner.size:=by rw[O.sz];have:=yB M h n;omega
 have hold:=oy.mp hf;have get:∀j:ak,(owner.setIfInBounds (J M h n) (aa hs.length))[j]?=if j=J M h n then aa (aa hs.length) else owner[j]?:=fun j=>by
  rw[Array.getElem?_setIfInBounds];by_cases e:J M h n=j
  .subst e;simp[hlt]
  .rw[qZ e,qZ (cH e)]
 have stay:∀{j k:ak},owner[j]?=aa (aa k)->(owner.setIfInBounds (J M h n) (aa hs.length))[j]?=aa (aa k):=fun {j k} q=>by
  rw[get,qZ]
  .exact q
  .intro e;rw[e,hold] at q;cases q
 have notfree:∀{j:ak},eD owner j=ar->eD (owner.setIfInBounds (J M h n) (aa hs.length)) j=ar:=fun {j} q=>by
  refine Gf.mpr fun z=>?_;have z':=oy.mp z;rw[get] at z';split at z'
  .cases z'
  .rw[oy.mpr z'] at q;cases q
 refine⟨by simp[O.sz],fun j k q=>?_,fun k hk=>?_,fun j j' k q q'=>?_,fun j k h' q q'=>?_⟩
 .rw[get] at q;rw[qk,n9];split at q
  .cases q;omega
  .have:=O.lt j k q;omega
 .rw[qk,n9] at hk;by_cases e:k=hs.length
  .exact⟨J M h n,by rw[get,qY rfl,e]⟩
  .obtain⟨j,hj⟩:=O.on k .(b);exact⟨j,stay hj⟩
 .rw[get] at q q';split at q
  .rename_i c;cases q;split at q'
   .rename_i c';rw[c,c']
   .have:=O.lt j' _ q';omega
  .split at q'
   .cases q';have:=O.lt j _ q;omega
   .exact O.inj j j' k q q'
 .rw[get] at q;split at q
  .rename_i c;cases q;rw[qM (qw _)] at q';simp at q';subst q';exact⟨n,c.symm,fun m hm=>notfree (ho m hm)⟩
  .have hk:=O.lt j k q;rw[qA hk] at q';obtain⟨n',e,r⟩:=O.rc j k h' q q';exact⟨n',e,fun m hm=>notfree (r m hm)⟩
theorem Full.lays (F:Full M) (hs:bI aj) (hr:hs.size<=M):∃owner,TX M hs=aa owner/\Own M hs.toList owner:=by
 have all:∀(bL done:ac aj) (owner:bI (aq ak)),Own M done owner->(done++bL).length<=M->∃owner',Own M (done++bL) owner' /\
   bL.foldl (fun(acc:aq (bI (aq ak)×ak)) h=>do
    let (owner,k) ←acc
    let j ←rf M owner (mP M) (fy h%(M+1)) (fy h)
    aT (owner.setIfInBounds j (aa k),k+1)) (aa (owner,done.length))=aa (owner',(done++bL).length):=by
  intro bL
  induction bL with
  |nil=>intro done owner O _;exact⟨owner,by rw[gH];exact O,by simp⟩
  |cons h r ih=>
   intro done owner O hl;obtain⟨n,h1,h2,h3⟩:=F.free h owner (O.room (by simp at hl;omega));have O':=O.more h1 h2;obtain⟨owner',O2,e⟩:=ih (done++[h]) _ O' (by simpa using hl);refine⟨owner',by simpa using O2,?_⟩;rw[fL];have e1:(do
    let (owner,k) ←aa (owner,done.length)
    let j ←rf M owner (mP M) (fy h%(M+1)) (fy h)
    aT (owner.setIfInBounds j (aa k),k+1):aq (bI (aq ak)×ak))=aa (owner.setIfInBounds (J M h n) (aa done.length),done.length+1):=by
    show(rf M owner (mP M) (fy h%(M+1)) (fy h) >>= fun j=>aT (owner.setIfInBounds j (aa done.length),done.length+1))=_;rw[h3];rfl
   rw[e1];rw[qk,n9] at e;rw[e];simp
 obtain⟨owner',O,e⟩:=all hs.toList [] _ (Own.empty M) (by simpa using hr);refine⟨owner',?_,by simpa using O⟩;unfold TX;rw[←Array.foldl_toList];have e':=bO (pZ (·.1)) e;exact e'
theorem LH (f:α->aq β):∀(l:ac α),(∀k∈l,∃y,f k=aa y)->∀i:ak,(l.filterMap f)[i]?=(l[i]?).bind f:=by
 intro xs0
 induction xs0 with
 |nil=>
  intro _ i;simp
 |cons k r ih=>
  intro h i;obtain⟨y,hy⟩:=h k qh;rw[TY hy];cases i with
  |zero=>simp[hy]
  |succ i=>simp only[qe];exact ih (fun k hk=>h k (qi _ hk)) i
theorem Lm (f:α->aq β):∀(l:ac α),(∀k∈l,∃y,f k=aa y)->(l.filterMap f).length=l.length:=by
 intro xs0
 induction xs0 with
 |nil=>
  intro _;exact rfl
 |cons k r ih=>
  intro h;obtain⟨y,hy⟩:=h k qh;rw[TY hy,qj,qj,ih fun k hk=>h k (qi _ hk)]
noncomputable def dY (M:ak) (owner:bI (aq ak)):ac (ak×ak):=(ck (M+1)).filterMap fun j=>(owner.getD j af).map (j,·)
theorem jT (hsz:owner.size=M+1) {k:ak} :(j,k)∈dY M owner↔owner[j]?=aa (aa k):=by
 unfold dY;rw[pP];constructor
 .rintro⟨j',hj',e⟩;rw[zl] at e;cases q:owner[j']? with
  |none=>rw[q] at e;cases e
  |some o=>
   rw[q] at e;cases o with
   |none=>cases e
   |some k'=>cases e;exact q
 .intro q;have hj:j<owner.size:=(ge.mp q).1;exact⟨j,fH.mpr .(b),by rw[zl,q];rfl⟩
theorem AU (M:ak) (owner:bI (aq ak)):((dY M owner).map (·.1)).Pairwise (· < ·):=by unfold dY;rw[u5];refine Vj _ ?_ (TZ (n:=M+1));intro a a' haa b hb b' hb';obtain⟨k,_,rfl⟩:=oMd hb;obtain⟨k',_,rfl⟩:=oMd hb';exact haa
theorem NN (O:Own M hs owner):((dY M owner).map (·.2)).Nodup:=by have h1:=u5.mp (AU M owner);refine TU.mpr (u5.mpr (Gg ?_ h1));rintro⟨j,k⟩ ⟨j',k'⟩ ha hb hlt e;have e':k=k':=e;subst e';have:=O.inj j j' k ((jT O.sz).mp ha) ((jT O.sz).mp hb);have hlt':j<j':=hlt;omega
theorem KG (O:Own M hs owner):(dY M owner).length=hs.length:=by
 have h1:=tH ((dY M owner).map (·.2)) (ck hs.length) (NN O) fun k hk=>by obtain⟨⟨j,k'⟩,hm,rfl⟩:=bz.mp hk;exact fH.mpr (O.lt j k' ((jT O.sz).mp hm))
 have h2:=tH (ck hs.length) ((dY M owner).map (·.2)) Gd fun k hk=>by obtain⟨j,hj⟩:=O.on k (fH.mp hk);exact bz.mpr ⟨(j,k),(jT O.sz).mpr hj,rfl⟩
 rw[qg,qW] at h1 h2;omega
theorem Full.relaid {t:lv} {es:bI (aj×av)} {wanted:ak} (F:Full (oq wanted-1)) (few:es.size*5<(oq wanted-1)*3) :
  ∃t' order,t.relaid (es.map (·.1)) wanted=aa (t',order)/\(order.filterMap (es[·]?)).size=es.size/\Tb t' (order.filterMap (es[·]?))/\(∀e,e∈(order.filterMap (es[·]?)).toList↔e∈es.toList)/\t'.mask=oq wanted-1/\t'.led=t.led:=by
 generalize hM:oq wanted-1=M at F few;obtain⟨owner,hl,O⟩:=F.lays (es.map (·.1)) (by simp;omega);have hlen:(es.map (·.1)).toList.length=es.size:=by simp
 have llen:(dY M owner).length=es.size:=by rw[KG O,hlen]
 refine⟨{mask:=M,place:=((dY M owner).map (·.1)).toArray,dummies:=#[],finger:=t.finger,led:=t.led,moves:=t.movedTo M,plain:=t.plain},((dY M owner).map (·.2)).toArray,?_,?_⟩
 .unfold SetTable.relaid;rw[hM];unfold SetTable.laid;rw[hl];rfl
 .have hall:∀k∈(dY M owner).map (·.2),∃y,es[k]?=aa y:=fun k hk=>by obtain⟨⟨j,k'⟩,hm,rfl⟩:=bz.mp hk;have:=O.lt j k' ((jT O.sz).mp hm);rw[hlen] at this;exact⟨es[k'],by simp[this]⟩
  have etl:(T0 (fun x=>es[x]?) ((dY M owner).map (·.2)).toArray).toList=((dY M owner).map (·.2)).filterMap (fun x=>es[x]?):=by simp
  have esz:(T0 (fun x=>es[x]?) ((dY M owner).map (·.2)).toArray).size=es.size:=by rw[←iE,etl,Lm _ _ hall,qg,llen]
  refine⟨esz,⟨F,?_,rfl,?_,?_,?_,?_⟩,fun e=>?_,rfl,rfl⟩
  .rw[esz];simp[llen]
  .show((dY M owner).map (·.1)).toArray.toList.Pairwise (· < ·);exact AU M owner
  .intro j hj;have hj':j∈(dY M owner).map (·.1):=hj;obtain⟨⟨j',k⟩,hm,rfl⟩:=bz.mp hj';have:=(ge.mp ((jT O.sz).mp hm)).1;rw[O.sz] at this;show j'<=M;omega
  .rw[esz];exact few
  .intro i j h x e1 e2;have e1':((dY M owner).map (·.1))[i]?=aa j:=by simpa using e1
   rw[←qJ,etl,LH _ _ hall,ql] at e2;rw[ql] at e1';obtain⟨⟨j',k⟩,hm,rfl⟩:=oMd e1';rw[hm] at e2;have e2':es[k]?=aa (h,x):=e2;have ho:=(jT O.sz).mp (qR hm);obtain⟨n,hn,q⟩:=O.rc j' k h ho (by simp[e2']);refine⟨n,hn,fun m hm'=>?_⟩;have hnf:=q m hm';have hle:=yB M h m;have hlt:J M h m<owner.size:=by rw[O.sz];omega
   cases c:owner[J M h m] with
   |none=>
    rw[oy.mpr (by simp[hlt,c])] at hnf;cases hnf
   |some k'=>
    show J M h m∈(dY M owner).map (·.1);exact bz.mpr ⟨(J M h m,k'),(jT O.sz).mpr (by simp[hlt,c]),rfl⟩
  .rw[etl,pP];constructor
   .rintro⟨k,_,hk⟩;rw[←qJ] at hk;exact qR hk
   .intro he;obtain⟨k,hk⟩:=uW.mp he;rw[qJ] at hk;have hlt:=(ge.mp hk).1;obtain⟨j,hj⟩:=O.on k (by rw[hlen];exact hlt);exact⟨k,bz.mpr ⟨(j,k),(jT O.sz).mpr hj,rfl⟩,hk⟩
noncomputable def Mk (M:ak):Prop:=M=7\/M=31\/M=127\/M=511
theorem Mk.full (h:Mk M):Full M:=by
 rcases h with h|h|h|h<;>subst h
 .exact Ag
 .exact Lu
 .exact Hv
 .exact R4
theorem Mk.grow (h:Mk M) (h1:n*5<M*3) (h2:¬(n+1)*5<M*3) (hn:n<=300):Mk (oq (zp (n+1))-1)/\(n+1)*5<(oq (zp (n+1))-1)*3/\oq (zp (n+1))<=512:=by
 rcases h with h|h|h|h<;>subst h
 .have:n=4:=by omega
  subst this;exact⟨.inr (.inl .(c)),by decide,by decide⟩
 .have:n=18:=by omega
  subst this;exact⟨.inr (.inr (.inl .(c))),by decide,by decide⟩
 .have:n=76:=by omega
  subst this;exact⟨.inr (.inr (.inr .(c))),by decide,by decide⟩
 .omega
section
variable {R:li->aE->Prop} {G:bI pM->bI pM->Prop} {P:ak->av->Prop} {St:ak->aE->Prop}
noncomputable def Ed (prog:dy) (w:cA) (A:cv) (S:au) (Ba:Heap->Prop) (P:ak->av->Prop) (n:ak) (J:ak->Obj->Prop):Prop:=
 ∀(i:ak) (v:av) (s:aE) (o:Obj) (Q:aN->aE->Prop) (E:av->aE->Prop),i<n->P i v->s.heap.get? S=aa o->J i o->Ba s.heap->
  (∀b h' tk o',s.toks<=tk->iD S s.heap h'->h'.get? S=aa o'->J (i+1) o'->Q b {s with heap:=h',toks:=tk})->aC .(H) A (u6 S v) Q E s
theorem L4 (W:WalksS prog w A.in1 I fp wr G n P St) (S:au) (hSf:S∉fp) (Ba:Heap->Prop) (hBa:∀h h',Ba h->(∀b o,b∉S::wr->h.get? b=aa o->h'.get? b=aa o)->Ba h') (J:ak->Obj->Prop) (hadd:Ed prog w A.in1 S Ba P n J) :
  ∀(k i:ak) (s:aE) (o:Obj),n-i=k->i<=n->St i s->s.heap.get? S=aa o->J i o->Ba s.heap->
   (∀s' o',Moved (S::wr) G s s'->s'.heap.get? S=aa o'->J n o'->R (.ok (.ret .none)) s')->
   fu .(H) A (.builtin "set.update.loop" ⟨[.ref S,.ref I],[]⟩) R s:=by
 have hSw:S∉wr:=fun h=>hSf (W.sub _ h);have hsub:∀b∈wr,b∈S::wr:=fun b hb=>qi _ hb;intro k
 induction k with
 |zero=>
  intro i s o hk hi hst hS hJ hB hR;have hin:i=n:=by omega
  subst hin;refine ib T1 ?_;rw[iG Gh _];show aC _ A.in1 (fK (.ref I) >>= _) _ _ s;refine qx (W.done s _ _ hst fun s' hm=>?_);show aC _ A.in1 (ret kX) _ _ s';exact qB (hR s' o (hm.mono hsub) (hm.heap S _ hSw hS) hJ)
 |succ k ih=>
  intro i s o hk hi hst hS hJ hB hR;have hlt:i<n:=by omega
  refine ib T1 ?_;rw[iG Gh _];show aC _ A.in1 (fK (.ref I) >>= _) _ _ s;refine qx (W.item i s _ _ hlt hst fun v s' hP hst' hm=>?_);show aC _ A.in1 (fm [v] (u6 S v) >>= _) _ _ s';refine qx (qV ?_);refine hadd i v s' o _ _ hlt hP (hm.heap S _ hSw hS) hJ (hBa _ _ hB fun b o hb e=>hm.heap b o (fun z=>hb (hsub b z)) e) fun b h' tk o' htk hsb hS' hJ'=>?_;refine qB ⟨ic Gh _,ih (i+1) _ o' .(b) hlt (W.frame _ s' _ _ hst' htk fun b hb o e=>?_) hS' hJ' ?_ fun s'' o'' hm'' hS'' hJ''=>?_⟩
  .rw[hsb.2 b (fun h:b=S=>hSf (by rw[←h];exact hb))];exact e
  .refine hBa _ _ (hBa _ _ hB fun b o hb e=>hm.heap b o (fun z=>hb (hsub b z)) e) fun b o hb e=>?_;show h'.get? b=aa o;rw[hsb.2 b (fun h:b=S=>hb (by rw[h];exact qh))];exact e
  .refine hR s'' o'' (T2 W.gtrans ((hm.mono hsub).then_heap htk fun b o hb e=>?_) hm'') hS'' hJ'';rw[hsb.2 b (fun h:b=S=>hb (by rw[h];exact qh))];exact e
end
set_option maxRecDepth 100000 in
set_option maxHeartbeats 3200000 in
theorem AZ {items:bI av} (hh:A.handled=af) (hl:s.heap.IsList l items) (J:ak->Obj->Prop)
  (hJ0:∀led:aN,J 0 {cls:=.type "set",dict:=af,data:=.set #[] 0 (.fresh 0 0 led)})
  (hadd:∀A':cv,A'.units<=A.units+16->Ed prog w A' s.heap.objs.size (fun h=>∀b o,b<s.heap.objs.size->s.heap.get? b=aa o->h.get? b=aa o) (fun i v=>items[i]?=aa v) items.size J)
  (h:∀(h':Heap) (tk:ak) (o:Obj),h'.get? s.heap.objs.size=aa o->J items.size o->
   (∀b o,b<s.heap.objs.size->s.heap.get? b=aa o->h'.get? b=aa o)->Q .(aK) {s with heap:=h',toks:=tk}) :
  aC .(H) A (call (.type "set") [.ref l]) Q E s:=by
 obtain⟨c,tl,hmro⟩:=mQ.mro;have hmade:=mQ.made;have hsub:=mQ.sub;refine uM (codeAny_of_tree ?_);show aC _ _ (callAny (.type "set") _) _ _ _;refine qB ⟨Code.quiet_builtin _ .(z),ib F.entry_type_call ?_⟩;rw[Around.under_plain (weight_type_call_type "set" [.ref l] []) rfl];have h1:=mQ.notType;have h2:=mQ.canCreate;have hct:=F.typeCall_set_1 (.ref l)
 repeat (any_goals (first|assumption|wp_step))
 refine nV (code_set_new_1 (.ref l) (E:=E) (Q₁:=fun obj s₁=>∃led:aN,obj=.ref s.heap.objs.size/\s₁={s with heap:=s.heap.push {cls:=.type "set",dict:=af,data:=.set #[] 0 (.fresh 0 0 led)} }) fun led=>⟨led,rfl,rfl⟩) fun r s₁ hr=>?_;cases r with
 |error e=>exact hr
 |ok fl=>
  cases fl with
  |ret obj=>
   obtain⟨led,rfl,rfl⟩:=hr;have hS:.(s).get? s.heap.objs.size=aa {cls:=.type "set",dict:=af,data:=.set #[] 0 (.fresh 0 0 led)}:=qH _ rfl;have hT:zq {s with heap:=s.heap.push {cls:=.type "set",dict:=af,data:=.set #[] 0 (.fresh 0 0 led)} } .(aK) "set":=⟨_,hS,rfl⟩;have hli:=mQ.init.lookup;have hbi:=mQ.init.bind .(aK)
   repeat (any_goals (first|assumption|wp_step))
   refine nV (T3 (R:=wants (fun r s₂=>r=.none/\∃h' tk o,s₂={s with heap:=h',toks:=tk}/\h'.get? s.heap.objs.size=aa o/\J items.size o /\
     (∀b o,b<s.heap.objs.size->s.heap.get? b=aa o->h'.get? b=aa o)) E) mQ.init.plain F.entry_set_init (check_set_init_1 hT ?_)) fun r₂ s₂ hr₂=>?_
   .obtain⟨ol,hol,hcl,nl,hdl⟩:=hl;obtain⟨ocls,odict,odata,oslots⟩:=ol;simp only at hcl hdl;subst hcl;subst hdl;have hol':.(s).get? l=aa {cls:=.type "list",dict:=odict,data:=.seq items nl,slots:=oslots}:=qu _ hol;have hsls:=F.sub_list_set;have hslf:=F.sub_list_frozenset;have hne:(kZ "list"==kZ "dict")=ar:=by decide
    have hl1:.(s).IsList l items:=⟨_,hol',rfl,nl,rfl⟩;unfold Builtin.«set.__init__» noKeywords Vk;generalize hPI:mC=PI
    wp_walk
    subst hPI;refine mO hl1 ?_;refine qx (wpAny_runValue ?_);have hlS:l<s.heap.objs.size:=qv hol;have hh3:A.in1.in1.in1.handled=af:=by simp[hh]
    have hneI:l≠.(s).objs.size:=by rw[jp];exact qD (mR hlS)
    have hSf:s.heap.objs.size∉[.(s).objs.size,l]:=by rw[jp];simp only[qN,bD,qL,or_false,rg];exact⟨qD (lq _),yH hlS⟩
    have hget:(.(s).push {cls:=.type "list_iterator",data:=.fields #[.ref l,.int 0 0]}).get? s.heap.objs.size
       = aa {cls:=.type "set",dict:=af,data:=.set #[] 0 (.fresh 0 0 led)}:=qu _ hS
    refine L4 ((om hh3 _ l hneI items).toS) s.heap.objs.size
     hSf (fun h=>∀b o,b<s.heap.objs.size->s.heap.get? b=aa o->h.get? b=aa o) (fun h h' hB hk b o hb e=>hk b o ?_ (hB b o hb e)) J (hadd _ (by show A.units+3<=_;omega)) (items.size-0) 0 _ _ .(b) (eW _)
     ⟨⟨_,qH _ rfl,rfl,rfl⟩,(hl1.push _)⟩ hget (hJ0 led) (fun b o hb e=>qu _ (qu _ e)) ?hR
    .have hb1:b≠s.heap.objs.size:=qD hb;have hb2:b≠.(s).objs.size:=by rw[jp];exact qD (mR hb)
     simp only[qN,bD,qL,or_false,rg];exact⟨hb1,hb2⟩
    case hR=>
     intro s' o' hm hS' hJ';obtain⟨h',g',d',tk',os'⟩:=s';have eg:g'=s.gens:=hm.gens;have ed:d'=s.drawn:=hm.drawn;have eo:os'=s.os:=hm.os;subst eg;subst ed;subst eo;show aC _ _ _ _ _ _;refine qB ?_;show aC _ _ (ret kX) _ _ _;refine qB ⟨rfl,h',tk',o',rfl,hS',hJ',fun b o hb e=>?_⟩;have hb1:b≠s.heap.objs.size:=qD hb;have hb2:b≠.(s).objs.size:=by rw[jp];exact qD (mR hb)
     exact hm.heap b o (by simp only[qN,bD,qL,or_false,rg];exact⟨hb1,hb2⟩) (qu _ (qu _ e))
   .cases r₂ with
    |error e=>exact hr₂
    |ok fl₂ =>
     cases fl₂ with
     |ret r=>
      obtain⟨rfl,h',tk,o',rfl,hS',hJ',hk'⟩:=hr₂
      repeat (any_goals (first|assumption|wp_step))
      exact h _ _ _ hS' hJ' hk'
     |_=>exact hr₂.elim
  |_=>exact hr.elim
noncomputable def dd [dz κ] (l:ac κ):ac κ:=l.foldl (fun a k=>if k∈a then a else a++[k]) []
theorem yw [dz κ] (l:ac κ) (k:κ):dd (l++[k])=if k∈dd l then dd l else dd l++[k]:=by unfold dd;rw[zr];rfl
theorem oP [dz κ] (l:ac κ):(dd l).length<=l.length:=by
 have key:∀(l a:ac κ),(l.foldl (fun a k=>if k∈a then a else a++[k]) a).length<=a.length+l.length:=by
  intro l
  induction l with
  |nil=>intro a;exact qw _
  |cons k r ih=>
   intro a;rw[fL];refine qO (ih _) ?_;split
   .simp only[qj];omega
   .simp only[qk,qj,qm];omega
 have:=key l [];simpa[dd] using this
section
variable [dz κ] {knd:KeyKind prog w κ}
theorem Kk {ks:ac κ} {Q:aN->aE->Prop} (hk:IsTupleKey knd s.heap ks a) (hsc:∀v k,knd.is k v=ah->v.scannable=ah) (h:∀b,Q b s):aC .(H) A (hashByValue 8 (.ref a)) Q E s:=by
 have hT:=hk.typeIs;obtain⟨o,items,n,ho,_,hd,hi⟩:=hk;unfold hashByValue;refine qx (Te hT F.slot_tuple_hash.lookup ?_);refine qx (ju ho hd ?_);refine qx ?_;show aC _ _ (uT items _ _) _ _ s;rw[←T4];have hall:∀v∈items.toList,v.scannable=ah:=by
  have:∀{x:ac κ} {vs:ac av},ItemsAre knd x vs->∀v∈vs,v.scannable=ah:=by
   intro x vs q
   induction q with
   |nil=>intro v hv;cases hv
   |cons h1 _ ih=>
    intro v hv;rcases bZ.mp hv with rfl|hv
    .exact hsc _ _ h1
    .exact ih v hv
  exact this hi
 refine Gi _ (fun bL r s'=>s'=s/\∀v∈bL,v.scannable=ah) _ ?_ ?_ _ _ ⟨rfl,hall⟩
 .rintro v bL r s' ⟨rfl,hv⟩;rw[hashByValue_scannable _ (hv v qh)];refine qx (qB ?_);cases hp:plainKind v with
  |true=>
   simp only[ie,qr,cB];exact qB ⟨rfl,fun u hu'=>hv u (qi _ hu')⟩
  |false=>
   simp only[ot,cq]
   first|exact qB (qB (h _))|exact qB (h _)|exact qx (qB (qB (qB (h _))))
 .rintro⟨r1,r2⟩ s' ⟨rfl,_⟩
  first|exact qB (h _)|(cases r1<;>exact qB (h _))
theorem Ao {ks:ac κ} {Q:aN->aE->Prop} (hk:IsTupleKey knd s.heap ks a) (h:Q ar s):aC .(H) A (Gj 8 (.ref a)) Q E s:=by
 have hT:=hk.typeIs;obtain⟨o,items,n,ho,_,hd,hi⟩:=hk;unfold Gj;refine qx (uP hT ?_);dsimp only;rw[qY .(c)];refine qx (qB ?_);simp only[ie,qr,cB];refine qx (ju ho hd ?_);refine qx ?_;show aC _ _ (uT items _ _) _ _ s;rw[←T4];refine Gi _ (fun bL r s'=>r.1=af/\s'=s/\∀v∈bL,T5 v=ah) _ ?_ ?_ _ _ ⟨rfl,rfl,hi.byValue⟩
 .rintro v bL r s' ⟨hr,rfl,hv⟩;have e:Gj 7 v=aT ar:=by
   have:=hv v qh;cases v with
   |ref b=>simp[T5] at this
   |_=>rfl
  rw[e];refine qx (qB ?_);simp only[qr,cB];exact qB ⟨rfl,rfl,fun u hu'=>hv u (qi _ hu')⟩
 .rintro⟨r1,r2⟩ s' ⟨hr,rfl,_⟩;simp only at hr;subst hr;exact qB h
theorem Re {ks:ac κ} {Q:aN->aE->Prop} (hk:IsTupleKey knd s.heap ks a) (st:ac av) (hst:∀y∈st,∃k b,y=.ref b/\IsTupleKey knd s.heap k b) (h:Q ar s):aC .(H) A (T6 (.ref a) st) Q E s:=by
 unfold T6;refine qx ?_;refine Gi _ (fun bL r s'=>r.1=af/\s'=s/\∀y∈bL,∃k b,y=.ref b/\IsTupleKey knd s.heap k b) _ ?_ ?_ _ _ ⟨rfl,rfl,hst⟩
 .rintro v bL r s' ⟨hr,rfl,hv⟩;obtain⟨k,b,rfl,hb⟩:=hv v qh;dsimp only;split
  .exact qB ⟨rfl,rfl,fun u hu'=>hv u (qi _ hu')⟩
  .refine qx (T7 hk ?_);simp only[ie,qr,cB];refine qx (T7 hb ?_);simp only[ie,qr,cB];refine qx (Ao hk ?_);simp only[qr,cB];refine qx (Ao hb ?_);simp only[qr,cB];exact qB ⟨rfl,rfl,fun u hu'=>hv u (qi _ hu')⟩
 .rintro⟨r1,r2⟩ s' ⟨hr,rfl,_⟩;simp only at hr;subst hr;exact qB h
end
theorem z4 {t:lv} {es:bI (aj×av)} (T:Tb t es) {p:zm} {r:aq SetTable.Met} (hp:t.probe hashAt h p=r) (hpp:p=gx (it t.mask h n)) (hn:n<=n0) (hn0:n0<10*(t.mask+15))
  (hf:J t.mask h n0∉t.place.toList) (ho:∀m,m<n0->J t.mask h m∈t.place.toList) :
  (∃n' i,n<=n'/\n'<n0/\t.place[i]?=aa (J t.mask h n')/\hashAt i=h/\(∀m i,n<=m->m<n'->t.place[i]?=aa (J t.mask h m)->hashAt i≠h)/\r=aa (.candidate (J t.mask h n') i (gx (it t.mask h (n'+1))))) \/
  ((∀m i,n<=m->m<n0->t.place[i]?=aa (J t.mask h m)->hashAt i≠h)/\r=aa (.empty .(ba) af)):=by
 subst hpp;subst hp;unfold SetTable.probe;exact T.probe_go hashAt h hf ho (10*mP t.mask) n hn (by unfold mP;omega)
theorem JZ {t:lv} {es:bI (aj×av)} (T:Tb t es) {p:zm} (hp:∀met,t.probe hashAt h p=aa met->False) (hpp:p=gx (it t.mask h n)) (hn:n<=n0) (hn0:n0<10*(t.mask+15))
  (hf:J t.mask h n0∉t.place.toList) (ho:∀m,m<n0->J t.mask h m∈t.place.toList):False:=by
 rcases z4 T (r:=t.probe hashAt h p) rfl hpp hn hn0 hf ho with⟨n',i,_,_,_,_,_,g6⟩|⟨_,g2⟩
 .exact hp _ g6
 .exact hp _ g2
section
variable [dz κ] {knd:KeyKind prog w κ}
noncomputable def pB (knd:KeyKind prog w κ) (h:Heap) (es:bI (aj×av)):Prop:=∀(i:ak) e,es[i]?=aa e->∃k b,e=(bw knd k,.ref b)/\IsTupleKey knd h k b
theorem Mk.odd (h:Mk M):(M%2==0)=ar:=by rcases h with rfl|rfl|rfl|rfl<;>rfl
theorem PX {S:au} {o:Obj} {es:bI (aj×av)} {t:lv} {k:ac κ} {Q:SetFound->aE->Prop} (hu:A.units<bY) (ho:s.heap.get? S=aa o) (hd:o.data=.set es ep t) (T:Tb t es) (hM:Mk t.mask)
  (hk:IsTupleKey knd s.heap k a) (he:pB knd s.heap es) (hf:J t.mask (bw knd k) n0∉t.place.toList) (hocc:∀m,m<n0->J t.mask (bw knd k) m∈t.place.toList) (hn0:n0<10*(t.mask+15))
  (hyes:∀(i:ak) (b:au),es[i]?=aa (bw knd k,.ref b)->IsTupleKey knd s.heap k b->Q (.there af) s)
  (hno:(∀(i:ak) (b:au),es[i]?=aa (bw knd k,.ref b)->¬IsTupleKey knd s.heap k b)->Q (.free .(q) ar) s) :
  ∀(fuel n:ak) (stand:aq zm),n0-n<fuel->n<=n0->(stand.getD (t.probeStart (bw knd k))=gx (it t.mask (bw knd k) n))->
   (∀(m i:ak) (b:au),m<n->t.place[i]?=aa (J t.mask (bw knd k) m)->es[i]?=aa (bw knd k,.ref b)->¬IsTupleKey knd s.heap k b)->
   aC .(H) A (zt S (.ref a) (bw knd k) ah fuel stand) Q E s:=by
 intro fuel
 induction fuel with
 |zero=>intro n stand h1;omega
 |succ fuel ih=>
  intro n stand h1 h2 hs hw;unfold zt;refine qx (u7 ho hd T.fits ?_);dsimp only;have hg:t.gaveWay=ar:=hM.odd;rw[hg];simp only[qr,cB];split
  .rename_i met hp;rcases z4 T hp hs h2 hn0 hf hocc with⟨n',i,g1,g2,g3,g4,g5,g6⟩|⟨g1,g2⟩
   .cases g6;have hi:i<es.size:=by have:=(ge.mp g3).1;rw[T.sz] at this;exact this
    have hei:es[i]?=aa es[i]:=by simp[hi]
    obtain⟨k',b,e1,hb⟩:=he i _ hei;rw[e1] at hei;have hh:bw knd k'=bw knd k:=by have g4':((es[i]?).map (·.1)).getD 0=bw knd k:=g4;rw[hei] at g4';exact g4'
    rw[hh] at hei;have bL:aC .(H) A (do
      let aa (_,y):=es[i]? | unsupported "internal:set-entry"
      let equal ←fm [y] (eqBool y (.ref a))
      let (es',_,t') ←setState S
      if ah && equal then return .there af
      let aa same:=t'.sameMemory t.moves t.mask|unsupported "set.changed-during-lookup:is-the-new-block-at-the-old-address"
      let still ←match (if same then t'.slot (J t.mask (bw knd k) n') else .empty) with
       |.live i'=>match es'[i']? with
        |some (_,y')=>do aT (if ←isSame y' y then aa i' else af)
        |none=>aT af
       |_=>aT af
      match still with
      |none=>rule "set.search.anew";zt S (.ref a) (bw knd k) ah fuel af
      |some i'=>if equal then return .there (aa i') else zt S (.ref a) (bw knd k) ah fuel (aa (gx (it t.mask (bw knd k) (n'+1))))) Q E s:=by
     rw[hei];dsimp only;refine qx (qV (wpAny_eqBool_tuple hu hb hk ?_));refine qx (u7 ho hd T.fits ?_);dsimp only;by_cases hkk:k'=k
     .subst hkk;rw[qU rfl];simp only[zu,cq];exact qB (hyes i b hei hb)
     .rw[qP hkk];simp only[zu,qr,cB];have hsm:t.sameMemory t.moves t.mask=aa ah:=by unfold SetTable.sameMemory;simp
      rw[hsm];dsimp only;simp only[cq];rw[T.live g3];dsimp only;rw[hei];dsimp only;refine qx (wpAny_isSame_ref_self ?_);simp only[cq];refine qx (qB ?_);dsimp only;refine ih (n'+1) _ .(b) .(b) rfl ?_;intro m i2 b2 hm hp2 he2;by_cases h3:m<n
      .exact hw m i2 b2 h3 hp2 he2
      .by_cases h4:m=n'
       .subst h4;have ei:i2=i:=by have q1:=T.live hp2;have q2:=T.live g3;rw[q1] at q2;injection q2
        subst ei;rw[hei] at he2;cases he2;exact fun z=>hkk (hb.inj z)
       .exfalso;refine g5 m i2 .(b) .(b) hp2 ?_;show((es[i2]?).map (·.1)).getD 0=_;rw[he2];rfl
    cases hled:t.led with
    |true=>
     simp only[ie,qr,cB];exact bL
    |false=>
     simp only[ot,cq];refine qx (Re hk _ (fun y hy=>?_) ?_)
     .obtain⟨e,he1,rfl⟩:=bz.mp hy;have he2:e∈es.toList:=by have:=Fs.mp he1;rw[Array.mem_filter] at this;exact Fs.mpr this.1
      obtain⟨j,hj,ej⟩:=zd.mp he2;obtain⟨k2,b2,q1,q2⟩:=he j e (by rw[←qJ,qE hj,ej]);exact⟨k2,b2,by rw[q1],q2⟩
     .simp only[qr,cB];exact bL
   .cases g2;dsimp only;refine qB (hno fun i b hei hb=>?_);have hi:i<es.size:=(ge.mp hei).1;have hpi:t.place[i]?=aa t.place[i]! := by
     have:i<t.place.size:=by rw[T.sz];exact hi
     simp[this]
    obtain⟨m,q1,q2⟩:=T.rc i _ _ _ hpi hei;have hmem:J t.mask (bw knd k) m∈t.place.toList:=by rw[q1];rw[←qJ] at hpi;exact qR hpi
    have hm:m<n0:=by
     rcases TH m n0 with z|z|z
     .exact z
     .subst z;exact bu hmem hf
     .exact bu (q2 n0 z) hf
    by_cases h3:m<n
    .exact hw m i b h3 (by rw[q1];exact hpi) hei hb
    .refine g1 m i .(b) hm (by rw[q1];exact hpi) ?_;show((es[i]?).map (·.1)).getD 0=_;rw[hei];rfl
  .rename_i hp;exact(JZ T hp hs h2 hn0 hf hocc).elim
structure TS (knd:KeyKind prog w κ) (h:Heap) (ks:ac (ac κ)) (o:Obj):Prop where
 cls:o.ExactSet
 ex:∃es ep t,o.data=.set es ep t/\Tb t es/\Mk t.mask/\pB knd h es/\es.size=(dd ks).length/\(∀k∈dd ks,∃(i:ak) (b:au),es[i]?=aa (bw knd k,.ref b)/\IsTupleKey knd h k b)/\∀(i:ak) (k:ac κ) (b:au),es[i]?=aa (bw knd k,.ref b)->IsTupleKey knd h k b->k∈dd ks
theorem IsTupleKey.mono {h:Heap} {k:ac κ} (x:IsTupleKey knd h k a) (q:∀o,h.get? a=aa o->h'.get? a=aa o):IsTupleKey knd h' k a:=by obtain⟨o,items,n,h1,h2⟩:=x;exact⟨o,items,n,q o h1,h2⟩
theorem l7 {es:bI (aj×av)} {e:aj×av} :e∈es.toList↔∃i:ak,es[i]?=aa e:=by
 constructor
 .intro h;obtain⟨i,hi,q⟩:=zd.mp h;exact⟨i,by rw[←qJ,qE hi,q]⟩
 .rintro⟨i,h⟩;rw[←qJ] at h;exact qR h
theorem Sw {ks:ac (ac κ)} {k:ac κ} {es:bI (aj×av)} (hk:IsTupleKey knd h0 k a) (hE:pB knd h0 es) (hsz:es.size=(dd ks).length) (hin:∀k∈dd ks,∃(i:ak) (b:au),es[i]?=aa (bw knd k,.ref b)/\IsTupleKey knd h0 k b)
  (hout:∀(i:ak) (k:ac κ) (b:au),es[i]?=aa (bw knd k,.ref b)->IsTupleKey knd h0 k b->k∈dd ks) (hnew:k∉dd ks) (mem:∀e,e∈es'.toList↔e=(bw knd k,.ref a)\/e∈es.toList) (size:es'.size=es.size+1) :
  pB knd h0 es'/\es'.size=(dd (ks++[k])).length/\(∀k'∈dd (ks++[k]),∃(i:ak) (b:au),es'[i]?=aa (bw knd k',.ref b)/\IsTupleKey knd h0 k' b)/\∀(i:ak) (k':ac κ) (b:au),es'[i]?=aa (bw knd k',.ref b)->IsTupleKey knd h0 k' b->k'∈dd (ks++[k]):=by
 rw[yw,qZ hnew];refine⟨fun i e he=>?_,by rw[size,hsz,qk,n9],fun k' hk'=>?_,fun i k' b he hb=>?_⟩
 .rcases(mem e).mp (l7.mpr ⟨i,he⟩) with rfl|q
  .exact⟨k,a,rfl,hk⟩
  .obtain⟨j,q⟩:=l7.mp q;exact hE j e q
 .rcases cT.mp hk' with q|q
  .obtain⟨i,b,q1,q2⟩:=hin k' q;obtain⟨j,q3⟩:=l7.mp ((mem _).mpr (.inr (l7.mpr ⟨i,q1⟩)));exact⟨j,b,q3,q2⟩
  .rw[bD.mp q];obtain⟨j,q3⟩:=l7.mp ((mem _).mpr (.inl rfl));exact⟨j,a,q3,hk⟩
 .rcases(mem _).mp (l7.mpr ⟨i,he⟩) with q|q
  .have e:b=a:=by have:=(T8 q).2;injection this
   subst e;exact cT.mpr (.inr (bD.mpr (hb.inj hk)))
  .obtain⟨j,q⟩:=l7.mp q;exact cT.mpr (.inl (hout j k' b q hb))
theorem Ex {h:Heap} {S:au} {o:Obj} {es:bI (aj×av)} {t t':lv} (ho:h.get? S=aa o) (hd:o.data=.set es ep t):(h.update S (Gk es' t')).get? S=aa {o with data:=.set es' (ep+1) t'}:=by
 have q:=nZ (Gk es' t') ho (by rw[putSet_of es' t' hd];rfl)
 rwa [putSet_of es' t' hd] at q
set_option maxHeartbeats 1000000 in
theorem RG {S:au} {o:Obj} {ks:ac (ac κ)} {k:ac κ} {Q:aN->aE->Prop} (hsc:∀v k,knd.is k v=ah->v.scannable=ah) (hu:A.units<bY) (ho:s.heap.get? S=aa o) (T:TS knd h0 ks o) (hk:IsTupleKey knd h0 k a)
  (hB:∀b o,h0.get? b=aa o->s.heap.get? b=aa o) (hlen:ks.length<=300)
  (h:∀b h' tk o',s.toks<=tk->iD S s.heap h'->h'.get? S=aa o'->TS knd h0 (ks++[k]) o'->Q b {s with heap:=h',toks:=tk}):aC .(H) A (u6 S (.ref a)) Q E s:=by
 obtain⟨hc,es,ep,t,hd,TB,hM,hE,hsz,hin,hout⟩:=T;have up:∀{k:ac κ} {b:au},IsTupleKey knd h0 k b->IsTupleKey knd s.heap k b:=fun q=>IsTupleKey.mono q fun o e=>hB _ _ e;have down:∀{k k':ac κ} {b:au},IsTupleKey knd h0 k' b->IsTupleKey knd s.heap k b->k=k':=fun q1 q2=>q2.inj (up q1);have hE':pB knd s.heap es:=fun i e he=>by obtain⟨k,b,q1,q2⟩:=hE i e he;exact⟨k,b,q1,up q2⟩
 have hddl:=oP ks;obtain⟨n0,f1,f2,f3⟩:=TB.first (bw knd k);unfold u6;refine qV (qx (wpAny_pyHash_tuple hu (up hk) ?_));unfold setAddHashed setAddHashedIn;refine qV (qx (u7 (s:={s with toks:=s.toks+(k.length+1)}) ho hd TB.fits ?_));dsimp only;rw[show byScan (.ref a) es=ar from rfl];simp only[qr,cB];unfold setSearch;refine qx (PX (s:={s with toks:=s.toks+(k.length+1)}) hu ho hd TB hM (up hk) hE' f2 f3 f1 (fun i b hei hb=>?_) (fun hall=>?_) 100000 0 af ?_ (eW _) rfl (fun m i b hm=>by omega))
 ·
  dsimp only;obtain⟨k',b',q1,q2⟩:=hE i _ hei;have:b'=b:=by have:=(T8 q1).2;injection this with e;exact e.symm
  subst this;have ek:=down q2 hb;subst ek;have hmem:=hout i k _ hei q2;refine qB (h ar s.heap _ o (by show s.toks<=s.toks+(k.length+1);omega) (Tq S s.heap) ho ⟨hc,es,ep,t,hd,TB,hM,hE,?_⟩);rw[yw,qY hmem];exact⟨hsz,hin,hout⟩
 ·
  dsimp only;have hnew:k∉dd ks:=fun hm=>by obtain⟨i,b,q1,q2⟩:=hin k hm;exact hall i b q1 (up q2)
  have hpl:cr t.place .(q)<=es.size:=by have:=(vE t.place .(q) TB.ri).1;rw[TB.sz] at this;exact this
  have hmaskle:t.mask<=511:=by rcases hM with e|e|e|e<;>omega
  have hmem:∀e,e∈(c0 es (cr t.place .(q)) (bw knd k,bP a)).toList↔e=(bw knd k,bP a)\/e∈es.toList:=fun e=>by rw[pA _ _ _ hpl];exact vA _ _ _ _
  have hsize:(c0 es (cr t.place .(q)) (bw knd k,bP a)).size=es.size+1:=by have:=bO cI (pA es _ (bw knd k,bP a) hpl);simp only[iE,qk,qj,qF,jq] at this;omega
  have hpsz:(c0 t.place (cr t.place .(q)) .(q)).size=es.size+1:=by have:=bO cI (pA t.place _ .(q) (by rw[TB.sz];exact hpl));have h3:=TB.sz;simp only[iE,qk,qj,qF,jq] at this;omega
  refine qx (u7 (s:={s with toks:=s.toks+(k.length+1)}) ho hd TB.fits ?_);dsimp only;have fin:∀(es':bI (aj×av)) (t':lv) (h':Heap) (o':Obj),Tb t' es'->Mk t'.mask->(∀e,e∈es'.toList↔e=(bw knd k,bP a)\/e∈es.toList)->es'.size=es.size+1->iD S s.heap h'->h'.get? S=aa o'->o'.ExactSet->(∃ep',o'.data=.set es' ep' t')->Q ah {s with heap:=h',toks:=s.toks+(k.length+1)}:=fun es' t' h' o' q1 q2 q3 q4 q5 q6 q7 q8=>by obtain⟨ep',q8⟩:=q8;obtain⟨w1,w2,w3,w4⟩:=Sw hk hE hsz hin hout hnew q3 q4;exact h ah h' _ o' .(b) q5 q6 ⟨q7,es',ep',t',q8,q1,q2,w1,w2,w3,w4⟩
  have bL:∀pl:aN,aC .(H) A (do
    storeSet S .(aT) { (t.put .(q)).1 with plain:=pl}
    if (!ar && u8 { (t.put .(q)).1 with plain:=pl})=ah then do
     setRelay S (zp (es.size+1))
     aT ah
    else aT ah) Q E {s with toks:=s.toks+(k.length+1)}:=fun pl=>by
   refine qx (T9 (s:={s with toks:=s.toks+(k.length+1)}) ho hd ?_ (by show(c0 es (cr t.place .(q)) (bw knd k,bP a)).size<=aJ;rw[hsize,eV];omega));have hg1:=Ex (es':=c0 es (t.put .(q)).2 (bw knd k,bP a)) (t':={ (t.put .(q)).1 with plain:=pl}) ho hd;have hsb1:=zv s.heap S (Gk .(aT) { (t.put .(q)).1 with plain:=pl});have hdum:(t.put .(q)).1.dummies=#[]:=by show(if Ga t.dummies _ then _ else t.dummies)=#[];rw[TB.dm];rfl
   have hfill:TK { (t.put .(q)).1 with plain:=pl}=es.size+1:=by show(c0 t.place _ _).size+(t.put .(q)).1.dummies.size=_;rw[hdum];exact hpsz
   by_cases few:(es.size+1)*5<t.mask*3
   .have hfull:u8 { (t.put .(q)).1 with plain:=pl}=ar:=by unfold u8;rw[hfill];exact qP (by show ¬((es.size+1)*5 ≥ t.mask*3);omega)
    rw[hfull];simp only[ot,S9,qr,cB];refine qB (fin _ _ _ _ (TB.put (x:=.ref a) f2 f3 few pl) hM hmem hsize hsb1 hg1 hc ⟨_,rfl⟩)
   .have hfull:u8 { (t.put .(q)).1 with plain:=pl}=ah:=by unfold u8;rw[hfill];exact qU (by show((es.size+1)*5 ≥ t.mask*3);omega)
    rw[hfull];simp only[ot,Bool.and_true,cq];obtain⟨m1,m2,m3⟩:=hM.grow TB.few few .(b);have hes1:.(aT).size=es.size+1:=hsize;obtain⟨t',order,r1,r2,r3,r4,r5,r6⟩:=Full.relaid (t:={ (t.put .(q)).1 with plain:=pl}) (es:=c0 es (t.put .(q)).2 (bw knd k,bP a)) m1.full (by rw[hes1];exact m2);unfold setRelay;have hfits:Gb { (t.put .(q)).1 with plain:=pl} .(aT).size=ah:=by unfold Gb;rw[hfill,hes1,eX];have:=TB.few;exact⟨by rw[jX];exact hpsz,qU (by show es.size+1<=t.mask;omega)⟩
    refine qx ?_;refine qx (u7 (s:={s with heap:=_,toks:=s.toks+(k.length+1)}) hg1 rfl hfits ?_);dsimp only;rw[qZ (by rw[eV];omega),r1];refine qx ?_;show aC _ _ (if ((order.filterMap (.(aT)[·]?)).size != .(aT).size)=ah then _ else _) _ _ _;rw[qZ (by rw[r2];simp)];refine qB ?_;dsimp only;refine T9 (s:={s with heap:=_,toks:=s.toks+(k.length+1)}) hg1 rfl ?_ (by rw[r2,hes1,eV];omega);refine qB (fin _ t' _ _ r3 (by rw[r5];exact m1) (fun e=>(r4 e).trans (hmem e)) (by rw[r2,hes1]) (hsb1.trans (zv _ S _)) (Ex hg1 rfl) hc ⟨_,rfl⟩)
  split
  .refine qx (Kk (s:={s with toks:=s.toks+(k.length+1)}) (up hk) hsc fun bv=>?_);cases bv
   .exact bL ar
   .exact bL _
  .refine qx (qB ?_);exact bL _
 .show n0-0<100000;have:t.mask<=511:=by rcases hM with e|e|e|e<;>omega
  omega
end
end ST
section
open ST
instance (priority:=high) keyBEq:BEq Key:=T'
instance (priority:=high) keyLaw:LawfulBEq Key:=inferInstanceAs (@LawfulBEq Key T')
noncomputable def Cy (n:ak) (o:Obj):Prop:=o.ExactSet/\∃es ep t,o.data=.set es ep t/\t.fits es.size=ah/\es.size=n
def kg (p:au) (n:ak):HO:=.ext fun h=>∃o,h.get? p=aa o/\Cy n o
theorem Aq (v:av) (k:Key) (h:(cj P w).is k v=ah):v.scannable=ah:=by rcases ik h with⟨i,t,rfl,rfl⟩|⟨x,t,rfl,rfl⟩<;>rfl
noncomputable def Ln:ac V->Hp->VK->Prop:=fun xs H Q=>∃a vs,xs=[.ref a]/\H a=aa (.lst vs)/\vs.length<=300 /\
 ((∃ks:ac Key,vs=ks.map kV/\∀p,H p=af->Q (.ref p) (upd H p (kg p (dd ks).length))) \/
 (∃ts:ac (ac Key),vs.length=ts.length/\(∀(i:ak) t,ts[i]?=aa t->∃b,vs[i]?=aa (.ref b)/\H b=aa (.tup (t.map kV)))/\∀p,H p=af->Q (.ref p) (upd H p (kg p (dd ts).length))))
theorem KR (hc:X.calm=ah) (hu:X.A.units+66<bY):dO X (.type "set") Ln:=by
 intro pins s σ H xs us Q I r h;obtain⟨a,vs,rfl,ha,hl,h⟩:=h;obtain⟨u,rfl,ru⟩:=eJ r;cases ru;obtain⟨its,rv,pl,hz⟩:=I.list (.inl (.inl ha));have hlen:=rv.length;have hsz:its.toArray.size=vs.length:=by rw[qC,hlen]
 have fin:∀(n:ak) (h':Heap) (tk:ak) (o:Obj),h'.get? s.heap.objs.size=aa o->Cy n o->(∀b o,b<s.heap.objs.size->s.heap.get? b=aa o->h'.get? b=aa o)->
   (∀p,H p=af->Q (.ref p) (upd H p (kg p n)))->EP X pins σ Q .(aK) {s with heap:=h',toks:=tk}:=fun n h' tk o ho hn hk q=>by
  refine⟨.ref s.heap.objs.size,_,I.laid (a:=s.heap.objs.size) (o:=kg s.heap.objs.size n) (fun b u e=>hk b u (qv e) e) (qw _) ?_,rfl,q _ I.fresh⟩;refine⟨⟨o,ho,hn⟩,⟨o,ho⟩,fun h1 h2 hp hk2=>?_⟩;obtain⟨o1,q1,q2⟩:=hp;exact⟨o1,hk2 o1 q1,q2⟩
 rcases h with⟨ks,rfl,q⟩|⟨ts,ht,hts,q⟩
 ·
  have hkl:ks.length=its.length:=by rw[←hlen,qg]
  refine AZ .(bz) pl.isList (fun i o=>o.SetObjOf (cj X.prog X.w) (fun k=>decide (k∈dd (ks.take i))) (dd (ks.take i)).length) (fun led=>?_) (fun A' hA' i v sh o Q' E' hi hv ho hJ hB hQ=>?_) fun h' tk o ho hJ hk=>?_
  .have:=setObjOf_fresh (knd:=cj X.prog X.w) led;simpa[dd] using this
  .have hi':i<ks.length:=by rw[qC] at hi;omega
   obtain⟨u2,hu2,ru2⟩:=rv.get (i:=i) (x:=kV ks[i]) (by simp[hi']);have ev:v=u2:=by
    have hv':its[i]?=aa v:=by simpa using hv
    rw[hu2] at hv';exact(qI hv').symm
   subst ev;have hkey:=kF (P:=X.prog) (w:=X.w) ru2;have hle:(dd (ks.take i)).length<=300:=by have h1:=oP (ks.take i);rw[qF] at h1;rw[qg] at hl;omega
   unfold u6;refine qV (qx ((cj X.prog X.w).pyHash hkey ?_));refine wpAny_setAddHashed_of (knd:=cj X.prog X.w) (s:={sh with toks:=sh.toks+1}) hkey (Aq _ _ hkey) (hJ.setOf ho (by unfold Gm;omega)) (by unfold Gm;omega) fun h' hsb hS2=>?_;obtain⟨o',ho',hso⟩:=hS2.objOf;refine hQ _ h' _ o' (nY _) hsb ho' ?_;have htk:ks.take (i+1)=ks.take i++[ks[i]]:=by rw[lw,qE hi'];rfl
   show Obj.SetObjOf (cj X.prog X.w) o' (fun k=>decide (k∈dd (uZ (i+1) ks))) (dd (uZ (i+1) ks)).length;rw[htk,yw];by_cases hm:ks[i]∈dd (ks.take i)
   .rw[qY hm];rw[qY (by simpa using hm)] at hso;have e:(fun k'=>decide (k'∈dd (ks.take i)) || decide (k'=ks[i]))=fun k'=>decide (k'∈dd (ks.take i)):=by
     funext k'
     by_cases hk':k'=ks[i]
     .subst hk';simp[hm]
     .simp[hk']
    rw[e] at hso;exact hso
   .rw[qZ hm];rw[qZ (by simpa using hm)] at hso;have e:(fun k'=>decide (k'∈dd (ks.take i)) || decide (k'=ks[i]))=fun k'=>decide (k'∈dd (ks.take i)++[ks[i]]):=by
     funext k'
     rw[uJ];simp
    rw[e] at hso;simpa using hso
  .have e:ks.take its.toArray.size=ks:=by rw[qC,←hkl];exact iH
   rw[e] at hJ;have hS:=hJ.setOf ho (by have:=oP ks;rw[qg] at hl;unfold Gm;omega);obtain⟨o1,es,ep,t,v0,v1,v2,_,_,_,v3,v4⟩:=hS;rw[ho] at v0;cases v0;exact fin _ h' tk o ho ⟨v1,es,ep,t,v2,v3,v4⟩ hk q
 ·
  have hkl:ts.length=its.length:=by rw[←hlen,ht]
  refine AZ .(bz) pl.isList (fun i o=>ST.TS (cj X.prog X.w) s.heap (ts.take i) o) (fun led=>?_) (fun A' hA' i v sh o Q' E' hi hv ho hJ hB hQ=>?_) fun h' tk o ho hJ hk=>?_
  .refine⟨⟨rfl,rfl,rfl⟩,#[],0,u9 0 0 led,rfl,?_,.inl rfl,fun i e he=>by simp at he,rfl,fun k hk=>by simp[dd] at hk,fun i k b he=>by simp at he⟩;exact⟨Ag,rfl,rfl,by simp[u9],by simp[u9],by simp[u9],fun i j h x hp=>by simp[u9] at hp⟩
  .have hi':i<ts.length:=by rw[qC] at hi;omega
   obtain⟨b,hb1,hb2⟩:=hts i ts[i] (by simp[hi']);obtain⟨u2,hu2,ru2⟩:=rv.get hb1;have ev:v=u2:=by
    have hv':its[i]?=aa v:=by simpa using hv
    rw[hu2] at hv';exact(qI hv').symm
   subst ev;cases ru2;have hkey:=ky I.hok hb2;have htk:ts.take (i+1)=ts.take i++[ts[i]]:=by rw[lw,qE hi'];rfl
   refine RG (fun v k=>Aq v k) .(b) ho hJ hkey (fun b' o' e=>hB b' o' (qv e) e) (by rw[qF];have:=hl;omega) fun bb h' tk o' h1 h2 h3 h4=>hQ bb h' tk o' h1 h2 h3 (by show ST.TS _ _ (uZ (i+1) ts) o';rw[htk];exact h4)
  .have e:ts.take its.toArray.size=ts:=by rw[qC,←hkl];exact iH
   rw[e] at hJ;obtain⟨hc',es,ep,t,w1,w2,w3,w4,w5,w6,w7⟩:=hJ;exact fin _ h' tk o ho ⟨hc',es,ep,t,w1,w2.fits,w5⟩ hk q
theorem Pk:dO X (.builtin "len") (fun xs H Q=>∃p n,xs=[.ref p]/\H p=aa (kg p n)/\n<=300/\Q (.int n) H):=by intro pins s σ H xs us Q I r h;obtain⟨p,n,rfl,hp,hn,q⟩:=h;obtain⟨u,rfl,ru⟩:=eJ r;cases ru;obtain⟨⟨o,ho,hex,es,ep,t,w1,w2,w3⟩,_,_⟩:=I.hok p _ hp;exact call_len_set ho hex w1 w2 .(b) ⟨.int n,H,I.tok _,⟨_,by rw[w3]⟩,q⟩
end
section
open ST
noncomputable def me:ac D->aq (ac (ac Key))
 |[]=>aa []
 |.tup t::r=>(eC t).bind fun k=>(me r).map (k::·)
 |_::_=>af
theorem Ds {Γ:Cn} {K:aM} {G H:Hp} (gh:aQ G H):∀{vs:ac V} {ds:ac D} {ts:ac (ac Key)},Reps Γ K G vs ds->me ds=aa ts->vs.length=ts.length/\∀(i:ak) t,ts[i]?=aa t->∃b,vs[i]?=aa (.ref b)/\H b=aa (.tup (t.map kV))
 |_,[],ts,r,h=>by cases r;cases h;exact⟨rfl,fun i t e=>by simp at e⟩
 |_,d::ds,ts,r,h=>by
  obtain _|⟨h1,h2⟩:=r;cases d with
  |tup t=>
   unfold me at h;obtain⟨k,hk,h⟩:=oBd h;obtain⟨zs,hz,rfl⟩:=oMd h;obtain⟨a,us,rfl,ha,ra⟩:=h1.tup_inv;have e:=jO ra hk;subst e;obtain⟨q1,q2⟩:=Ds gh h2 hz;refine⟨by rw[qj,qj,q1],fun i t' e=>?_⟩;cases i with
   |zero=>cases e;exact⟨a,rfl,gh _ _ ha⟩
   |succ i=>exact q2 i t' e
  |_=>cases h
def nP:D->aq D
 |.lst l=>if l.length<=300 then match eC l with
  |some ks=>aa (.int (dd ks).length)
  |none=>(me l).map fun ts=>.int (dd ts).length
  else af
 |_=>af
section
variable {pos2:c8}
theorem Ro (hc:X.calm=ah) (hu:X.A.units+66<bY) (hgl:Gl X "len") (hml:X.mg "len"=af) (hgs:Gl X "set") (hms:X.mg "set"=af) (h:DE Γ X e f)
  (h1:aH ([.Call (.Name "set" p2) [e] [] pos2]:ac Expr) X.env=(ar,eval (.Call (.Name "set" p2) [e] [] pos2) X.env)::aH [] X.env:=by rfl) (h2:(bF pos .(bC)).any (·.1)=ar:=by rfl)
  (h3:aH ([e]:ac Expr) X.env=(ar,eval e X.env)::aH [] X.env:=by rfl) (h4:(bF pos2 .(bC)).any (·.1)=ar:=by rfl) :
  DE Γ X (.Call (.Name "len" p) [.Call (.Name "set" p2) [e] [] pos2] [] pos) (b1 nP f):=⟨by
 refine(wp Pk hgl hml (by rfl) (e7 (lC (KR hc hu) hgs hms (by rfl) (e7 h.1 fD h3) .(c) .(c) h3 h4) fD h1) .(c) .(c) h1 h2).imp fun σ H Q=>?_;rintro⟨G₀,H₀,G,ρ,d,A,hq,k⟩;unfold b1 at hq;obtain⟨x,hx,hl⟩:=oBd hq;clear hq;refine⟨G₀,H₀,G,ρ,x,A,hx,fun v G1 H1 s1 r1=>?_⟩;unfold nP at hl;split at hl
 .rename_i l;split at hl
  .rename_i hz;obtain⟨a,vs,rfl,ha,ra⟩:=r1.lst_inv;have go:∀(n:ak),n<=300->d=.int n->∀p,H1 p=af->∃p' n',[V.ref p]=[V.ref p']/\(upd H1 p (kg p n)) p'=aa (kg p' n')/\n'<=300/\Q (.int n') (upd H1 p (kg p n)):=fun n hn ed p hp=>by subst ed;refine⟨p,n,rfl,aV,hn,k _ G1 _ (s1.trans (Step.newOwn s1.gh hp)) (.int _)⟩
   refine⟨a,vs,rfl,s1.gh _ _ ha,by rw[ra.length];exact hz,?_⟩;split at hl
   .rename_i ks hk;refine .inl ⟨ks,jO ra hk,go _ ?_ (qI hl).symm⟩;have h5:=oP ks;have h6:ks.length=l.length:=by have:=jO ra hk;rw[←ra.length,this,qg]
    omega
   .obtain⟨ts,ht,e1⟩:=oMd hl;obtain⟨q1,q2⟩:=Ds s1.gh ra ht;refine .inr ⟨ts,q1,q2,go _ ?_ e1.symm⟩;have h5:=oP ts;have h6:=ra.length;omega
  .cases hl
 .cases hl⟩
end
end
namespace DT
theorem LP:yR (.type "list") "keys"=aT af:=by rw[Ua,Ub];kernel_rfl
theorem QW:yR (.type "list") "__getattr__"=aT af:=by rw[Ua,Ub];kernel_rfl
theorem PD {u:Tok} {R:li->aE->Prop} {xs:bI av} (hx:s.heap.get? l=aa {cls:=.type "list",data:=.seq xs n}) (hA:A.handled=af)
  (h:∀h' tk e,Heap.NewAttrErr s.heap h' e (.ref l) "keys"->R (.error (.ref e)) {s with heap:=h',toks:=tk}) :
  fu .(H) A (.call (.builtin "list.__getattribute__") ⟨[.ref l,.str "keys" u],[]⟩) R s:=by
 obtain⟨hp,g,d,tk,os⟩:=s;have hT:(⟨hp,g,d,tk,os⟩:aE).TypeIs (.ref l) "list":=⟨_,hx,rfl⟩;have f1:=LP;refine T3 zw.plain F.entry_list_ga (zw.check _ _ _ _ _ _ _ _ hT (F.args_list_getattribute_2 _ _) ?_);unfold Builtin.«object.__getattribute__»
 repeat (any_goals (first|assumption|wp_step))
 have hsz:(hZ "keys").length+100<=aJ:=by rw[PySem.ofString_length];decide
 refine wpAny_raiseAttrError (A:=A.in1) hA h ?_;exact attrMsg_fits .(z) hsz
set_option maxHeartbeats 4000000 in
theorem Sn {Q:aq av->aE->Prop} {xs:bI av} (hx:s.heap.get? l=aa {cls:=.type "list",data:=.seq xs n}) (hA:A.handled=af)
  (h:∀h' tk,(∀b ob,s.heap.get? b=aa ob->h'.get? b=aa ob)->Q af {s with heap:=h',toks:=tk}) :
  aC .(H) A (getAttr? (.ref l) "keys") Q E s:=by
 obtain⟨hp,g,d,tk,os⟩:=s;have hT:∀tk',(⟨hp,g,d,tk',os⟩:aE).TypeIs (.ref l) "list":=fun _=>⟨_,hx,rfl⟩;have f1:=sub_AttributeError;have f2:=zw.lookup;have f3:=zw.bind (.ref l);have f5:=QW;unfold getAttr? getAttrBy?;refine qx (wpAny_mkText ?_);refine qx (Gn ?_);unfold getAttrBy;refine qV (qx (uP (hT _) (qx (rh f2 ?_))));show aC _ _ (Uc _ _ _ _ _ _) _ _ _;unfold Uc;refine qx (m:=hookBefore (kZ "list")) (qB ?_);refine qx (Gn (qV ?_));show aC _ _ (Ud _ _ _) _ _ _;unfold Ud;refine qx (rh f3 ?_);refine uM (PD (s:=⟨hp,g,d,tk+1,os⟩) hx hA fun h' tk' e hn=>?_);obtain⟨t',u',he⟩:=hn.there;have hE:zq ⟨h',g,d,tk',os⟩ (.ref e) "AttributeError":=⟨_,he,rfl⟩;show aC _ _ (Ue _ _ _ _ _ _ _) _ _ _;unfold Ue;refine qx (Go hE f1 ?_);simp only[cq];refine qx (m:=hookBehind (kZ "list") af) (rh f5 ?_);unfold hookOrError attributeErrorLeaves;simp only[ot,cq];refine qx (wpAny_throw ?_);refine qx (Go hE f1 ?_);simp only[cq];exact qB (h h' tk' hn.keeps)
theorem Bs:entryFor table "dict.update.loop"=aa Builtin.«dict.update.loop»:=entryFor_of_tree (by kernel_rfl)
theorem sv:plainId "dict.update.loop"=ah:=by decide +kernel
section
variable {R:li->aE->Prop} {G:bI pM->bI pM->Prop} {P:ak->av->Prop} {St:ak->aE->Prop}
noncomputable def Bt (prog:dy) (w:cA) (A:cv) (S:au) (h0:Heap) (P:ak->av->Prop) (n:ak) (J:ak->Obj->Prop):Prop:=
 ∀(i:ak) (b:au) (kv vv:av) (s:aE) (o:Obj) (Q:mB->aE->Prop) (E:av->aE->Prop),i<n->P i (.ref b)->h0.IsTuple b #[kv,vv]->s.heap.get? S=aa o->J i o->(∀b o,b<h0.objs.size->h0.get? b=aa o->s.heap.get? b=aa o)->
  (∀h' tk o',s.toks<=tk->iD S s.heap h'->h'.get? S=aa o'->J (i+1) o'->Q () {s with heap:=h',toks:=tk})->aC .(H) A (dictSet S kv vv) Q E s
theorem RY (W:WalksS prog w A.in1 I fp wr G n P St) (S:au) (hSf:S∉fp) (h0:Heap) (hS0:h0.objs.size<=S) (hw0:∀b∈wr,h0.objs.size<=b) (J:ak->Obj->Prop) (hadd:Bt prog w A.in1 S h0 P n J) (hP:∀i v,P i v->∃b kv vv,v=.ref b/\h0.IsTuple b #[kv,vv]) :
  ∀(k i:ak) (c:aj) (s:aE) (o:Obj),n-i=k->i<=n->St i s->s.heap.get? S=aa o->J i o->(∀b o,b<h0.objs.size->h0.get? b=aa o->s.heap.get? b=aa o)->
   (∀s' o',Moved (S::wr) G s s'->s'.heap.get? S=aa o'->J n o'->R (.ok (.ret .none)) s')->
   fu .(H) A (.builtin "dict.update.loop" ⟨[.ref S,.ref I,pO c,.none],[]⟩) R s:=by
 have hSw:S∉wr:=fun h=>hSf (W.sub _ h);have hsub:∀b∈wr,b∈S::wr:=fun b hb=>qi _ hb;have keep:∀{h h':Heap},(∀b o,b<h0.objs.size->h0.get? b=aa o->h.get? b=aa o)->(∀b o,b∉S::wr->h.get? b=aa o->h'.get? b=aa o)->∀b o,b<h0.objs.size->h0.get? b=aa o->h'.get? b=aa o:=fun q1 q2 b o hb e=>q2 b o (fun z=>by
  rcases bZ.mp z with z|z
  .rw[z] at hb;exact bu hb (F2.mpr hS0)
  .exact bu hb (F2.mpr (hw0 b z))) (q1 b o hb e)
 intro k
 induction k with
 |zero=>
  intro i c s o hk hi hst hS hJ hB hR;have hin:i=n:=by omega
  subst hin;refine ib Bs ?_;rw[iG sv _];show aC _ A.in1 (fK (.ref I) >>= _) _ _ s;refine qx (W.done s _ _ hst fun s' hm=>?_);show aC _ A.in1 (Vl S [] >>= _) _ _ s';exact qx (qB (qB (hR s' o (hm.mono hsub) (hm.heap S _ hSw hS) hJ)))
 |succ k ih=>
  intro i c s o hk hi hst hS hJ hB hR;have hlt:i<n:=by omega
  refine ib Bs ?_;rw[iG sv _];show aC _ A.in1 (fK (.ref I) >>= _) _ _ s;refine qx (W.item i s _ _ hlt hst fun v s' hPv hst' hm=>?_);obtain⟨b,kv,vv,rfl,hb⟩:=hP i v hPv;have hB':=keep hB fun b o hb e=>hm.heap b o (fun z=>hb (hsub b z)) e;obtain⟨ob,hob,hoc,nn,hod⟩:=hb;have hob':s'.heap.get? b=aa ob:=hB' b ob (qv hob) hob;have hTb:s'.TypeIs (.ref b) "tuple":=⟨_,hob',hoc⟩;show aC _ A.in1 (fm [bP b] _ >>= _) _ _ s';refine qx (qV ?_);refine qx ?_;refine jv ?_;unfold Vm;refine qx (uP hTb ?_);rw[qY .(c)];refine qx (ju hob' hod (qB ?_));show aC _ A.in1 (fm [kv,vv] (dictSet S kv vv)) _ _ s';refine qV (hadd i b kv vv s' o _ _ hlt hPv ⟨ob,hob,hoc,nn,hod⟩ (hm.heap S _ hSw hS) hJ hB' fun h' tk o' htk hsb hS' hJ'=>?_);refine qB ⟨ic sv _,ih (i+1) (c+1) _ o' .(b) hlt (W.frame _ s' _ _ hst' htk fun b hb o e=>?_) hS' hJ' ?_ fun s'' o'' hm'' hS'' hJ''=>?_⟩
  .rw[hsb.2 b (fun h:b=S=>hSf (by rw[←h];exact hb))];exact e
  .refine keep hB' fun b o hb e=>?_;show h'.get? b=aa o;rw[hsb.2 b (fun h:b=S=>hb (by rw[h];exact qh))];exact e
  .refine hR s'' o'' (T2 W.gtrans ((hm.mono hsub).then_heap htk fun b o hb e=>?_) hm'') hS'' hJ'';rw[hsb.2 b (fun h:b=S=>hb (by rw[h];exact qh))];exact e
end
theorem call_dict_gen {items:bI av} {c:ak} (hh:A.handled=af) (hl:s.heap.get? l=aa {cls:=.type "list",data:=.seq items c}) (J:ak->Obj->Prop)
  (hJ0:J 0 {cls:=.type "dict",data:=.dict #[]})
  (hadd:∀A':cv,A'.units<=A.units+16->Bt prog w A' s.heap.objs.size s.heap (fun i v=>items[i]?=aa v) items.size J)
  (hP:∀(i:ak) (v:av),items[i]?=aa v->∃b kv vv,v=.ref b/\s.heap.IsTuple b #[kv,vv])
  (h:∀(h':Heap) (tk:ak) (o:Obj),h'.get? s.heap.objs.size=aa o->J items.size o->
   (∀b o,b<s.heap.objs.size->s.heap.get? b=aa o->h'.get? b=aa o)->Q .(aK) {s with heap:=h',toks:=tk}) :
  aC .(H) A (call (.type "dict") [.ref l]) Q E s:=by
 refine callType_codes (Q₁:=fun obj s₁=>obj=.ref s.heap.objs.size/\s₁={s with heap:=s.heap.push {cls:=.type "dict",data:=.dict #[]} }) F.kt_called_dict (F.kt_typeCall_dict_1 _) F.entry_dict_init (kt_code_dict_new _ ⟨rfl,rfl⟩) ?_;rintro obj s₁ ⟨rfl,rfl⟩;have hnew:(s.heap.push {cls:=.type "dict",data:=.dict #[]}).get? s.heap.objs.size=aa {cls:=.type "dict",data:=.dict #[]}:=qH _ rfl;have hl1:(s.heap.push {cls:=.type "dict",data:=.dict #[]}).get? l=aa {cls:=.type "list",data:=.seq items c}:=qu _ hl;have hT:zq {s with heap:=s.heap.push {cls:=.type "dict",data:=.dict #[]} } .(aK) "dict":=⟨_,hnew,rfl⟩;have hTl:zq {s with heap:=s.heap.push {cls:=.type "dict",data:=.dict #[]} } (.ref l) "list":=⟨_,hl1,rfl⟩;refine⟨hT,F.args_dict_init_2 _ _,?_⟩;unfold Builtin.«dict.__init__»;refine qx ?_;unfold Vn;refine qx (Uf hT ?_);show aC _ _ (aT (s.heap.objs.size,[bP l])) _ _ _;refine qB ?_;show aC _ _ (Ug "dict.__init__" s.heap.objs.size (.ref l) [] .none) _ _ _;unfold Ug;refine qx (uP hTl ?_);rw[qY .(c)];refine qx (Sn (s:={s with heap:=s.heap.push {cls:=.type "dict",data:=.dict #[]} }) (A:=A.in1.in1) hl1 hh fun h1 tk1 hk1=>?_);simp only[Option.isNone_none,cq];refine qx (Gp ?_);have hl2:h1.IsList l items:=⟨_,hk1 _ _ hl1,rfl,_,rfl⟩;refine qx (mO (s:={s with heap:=h1,toks:=tk1}) hl2 ?_);refine qB ⟨ic sv _,?_⟩;have hlS:l<s.heap.objs.size:=qv hl;have hsz1:s.heap.objs.size<h1.objs.size:=qv (hk1 _ _ hnew);have hneI:l≠h1.objs.size:=qD (pW hlS hsz1);have hSf:s.heap.objs.size∉[h1.objs.size,l]:=by simp only[qN,bD,qL,or_false,rg];exact⟨qD hsz1,yH hlS⟩
 have old:∀b o,b<s.heap.objs.size->s.heap.get? b=aa o->h1.get? b=aa o:=fun b o _ e=>hk1 _ _ (qu _ e);refine RY ((om (A:=A.in1.in1) (by simpa using hh) _ l hneI items).toS) s.heap.objs.size hSf s.heap (qw _) (fun b hb=>?_) J (hadd _ (by show A.units+2<=_;omega)) hP (items.size-0) 0 0 _ _ .(b) (eW _)
  ⟨⟨_,qH _ rfl,rfl,rfl⟩,hl2.push _⟩ (qu _ (hk1 _ _ hnew)) hJ0 (fun b o hb e=>qu _ (old b o hb e)) fun s' o' hm hS' hJ'=>?_
 .have:b=h1.objs.size:=by simpa using hb
  rw[this];exact pL hsz1
 .obtain⟨h',g',d',tk',os'⟩:=s';have eg:g'=s.gens:=hm.gens;have ed:d'=s.drawn:=hm.drawn;have eo:os'=s.os:=hm.os;subst eg;subst ed;subst eo;refine⟨rfl,h h' tk' o' hS' hJ' fun b o hb e=>hm.heap b o ?_ (qu _ (old b o hb e))⟩;simp only[qN,bD,qL,or_false,rg];exact⟨qD hb,qD (pW hb hsz1)⟩
end DT
section
variable [dz κ]
def mrg (kvs ps:ac (κ×V)):ac (κ×V):=ps.foldl (fun acc kv=>putK acc kv.1 kv.2) kvs
theorem D0 (kvs ps:ac (κ×V)) (p:κ×V):mrg kvs (ps++[p])=putK (mrg kvs ps) p.1 p.2:=by unfold mrg;rw[zr];rfl
theorem JO (kvs:ac (κ×V)) (k:κ) (v:V):(putK kvs k v).length<=kvs.length+1:=by
 unfold putK;split
 .rw[qg];omega
 .rw[qk,n9];omega
theorem rF:∀(ps kvs:ac (κ×V)),(mrg kvs ps).length<=kvs.length+ps.length:=by
 intro xs0
 induction xs0 with
 |nil=>
  intro kvs;exact qw _
 |cons p ps ih=>
  intro kvs;have h1:=ih (putK kvs p.1 p.2);have h2:=JO kvs p.1 p.2;show(mrg (putK kvs p.1 p.2) ps).length<=_;rw[qj];omega
end
noncomputable def Of:ac V->Hp->VK->Prop:=fun xs H Q=>∃(a:au) (vs:ac V) (ps:ac (Key×V)),xs=[.ref a]/\H a=aa (.lst vs)/\vs.length=ps.length/\ps.length<=1000/\(∀(i:ak) p,ps[i]?=aa p->∃b,vs[i]?=aa (.ref b)/\H b=aa (.tup [kV p.1,p.2])) /\
 ∀q,H q=af->Q (.ref q) (upd H q (.dK (mrg [] ps)))
theorem D6 {b:au} {x:V} (I:Inv X pins σ H s) (hb:H b=aa (.tup [x,y])):∃u v,bp x u/\bp y v/\s.heap.IsTuple b #[u,v]:=by
 obtain⟨its,r,p,_⟩:=I.tuple (.inl (.inl hb));cases r with
 |cons r1 r2=>
  cases r2 with
  |cons r2 r3=>
   cases r3;exact⟨_,_,r1,r2,p⟩
theorem tuple_inj {h:Heap} {b:au} {x y:bI av} (p:h.IsTuple b x) (q:h.IsTuple b y):x=y:=by obtain⟨o,h1,_,n,h2⟩:=p;obtain⟨o',g1,_,m,g2⟩:=q;rw[h1] at g1;cases g1;rw[h2] at g2;cases g2;rfl
theorem QN (hc:X.calm=ah) (hu:X.A.units+66<bY):dO X (.type "dict") Of:=by
 intro pins s σ H xs us Q I r h;obtain⟨a,vs,ps,rfl,ha,hl,hz,hp,q⟩:=h;obtain⟨u,rfl,ru⟩:=eJ r;cases ru;obtain⟨z,its,n,rv,hlen,e⟩:=I.lstM ha;have hsz:its.toArray.size=ps.length:=by rw[qC,←hlen,hl]
 have hit:∀(i:ak) (v:av),its.toArray[i]?=aa v->∃p b u w,ps[i]?=aa p/\v=.ref b/\bp (kV p.1) u/\bp p.2 w/\s.heap.IsTuple b #[u,w]:=fun i v hv=>by
  have hi:i<ps.length:=by rw[←hsz];exact(ge.mp hv).1
  obtain⟨b,hb1,hb2⟩:=hp i ps[i] (by simp[hi]);obtain⟨u2,hu2,ru2⟩:=rv.get hb1;have hv':its[i]?=aa v:=by simpa using hv
  rw[hu2] at hv';cases hv';cases ru2;obtain⟨u,w,r1,r2,r3⟩:=D6 I hb2;exact⟨ps[i],b,u,w,by simp[hi],rfl,r1,r2,r3⟩
 refine DT.call_dict_gen .(bz) e (fun i o=>∃vs',KV (mrg [] (ps.take i)) vs'/\o.IsDictOf (cj X.prog X.w) vs') ?_ (fun A' hA' i b kv vv sh o Q' E' hi hv hb ho hJ hB hQ=>?_) (fun i v hv=>?_) fun h' tk o ho hJ hk=>?_
 .obtain⟨o,ho,hd⟩:=zx.mp (Tf (knd:=cj X.prog X.w) s.heap);have:o={cls:=.type "dict",data:=.dict #[]}:=by have:=qH s.heap (o:={cls:=.type "dict",data:=.dict #[]}) rfl;rw[this] at ho;exact(qI ho).symm
  subst this;exact⟨[],.nil,hd⟩
 .obtain⟨p,b',u,w,h1,h2,h3,h4,h5⟩:=hit i _ hv;cases h2;have e2:=tuple_inj hb h5;have e3:kv=u/\vv=w:=by simpa using e2
  obtain⟨rfl,rfl⟩:=e3;obtain⟨vs',k1,k2⟩:=hJ;have hle:vs'.length<=1000:=by have q1:=k1.length;have q2:=rF (ps.take i) ([]:ac (Key×V));rw[qF,qm] at q2;omega
  refine wpAny_dictSet_pairs (kF h3) (zx.mpr ⟨o,ho,k2⟩) (fun h' hd' hsb=>?_) (by rw[eV];omega);obtain⟨o',ho',hd''⟩:=zx.mp hd';refine hQ h' _ o' (nY _) hsb ho' ⟨_,?_,hd''⟩;have htk:ps.take (i+1)=ps.take i++[p]:=by rw[lw,h1];rfl
  rw[htk,D0];exact k1.put p.1 h4
 .obtain⟨p,b,u,w,h1,h2,h3,h4,h5⟩:=hit i v hv;exact⟨b,u,w,h2,h5⟩
 .obtain⟨vs',k1,k2⟩:=hJ;rw[hsz,iH] at k1;refine⟨.ref s.heap.objs.size,_,I.laid (a:=s.heap.objs.size) (o:=.dK (mrg [] ps)) (fun b u e=>hk b u (qv e) e) (qw _) ⟨?_,?_,vs',k1,zx.mpr ⟨o,ho,k2⟩⟩,rfl,q _ I.fresh⟩
  .have:=rF ps ([]:ac (Key×V));rw[qm] at this;rw[eV];omega
  .exact kW.mpr (cH (qD I.big))
noncomputable def JI:ac V->Hp->VK->Prop:=fun xs H Q=>∃(a:au) (vs:ac V) (ps:ac .(ax)),xs=[.ref a]/\H a=aa (.lst vs)/\vs.length=ps.length/\ps.length<=2000/\(∀(i:ak) p,ps[i]?=aa p->∃b kb,vs[i]?=aa (.ref b)/\H b=aa (.tup [.ref kb,p.2])/\H kb=aa (.tup (p.1.map kV))) /\
 ∀q,H q=af->Q (.ref q) (upd H q (.dT (mrg [] ps)))
theorem Kc {P:ac Key->au->Prop} (hP:∀k b,H b=aa (.tup (k.map kV))->P k b):∀{kvs:ac .(ax)} {xs:ac (ac Key×au×av)},KT H kvs xs->∀x∈xs,P x.1 x.2.1:=by
 intro kvs xs q
 induction q with
 |nil=>intro x hx;cases hx
 | @cons p y ps ys hq t ih=>
  intro x hx;rcases bZ.mp hx with rfl|hx
  .exact hP _ _ (by rw[←hq.1];exact hq.2.1)
  .exact ih x hx
theorem Q3 (hc:X.calm=ah) (hu:X.A.units+66<bY):dO X (.type "dict") JI:=by
 intro pins s σ H xs us Q I r h;obtain⟨a,vs,ps,rfl,ha,hl,hz,hp,q⟩:=h;obtain⟨u,rfl,ru⟩:=eJ r;cases ru;obtain⟨z,its,n,rv,hlen,e⟩:=I.lstM ha;have hsz:its.toArray.size=ps.length:=by rw[qC,←hlen,hl]
 have hit:∀(i:ak) (v:av),its.toArray[i]?=aa v->∃p b kb w,ps[i]?=aa p/\v=.ref b/\H kb=aa (.tup (p.1.map kV))/\bp p.2 w/\s.heap.IsTuple b #[.ref kb,w]:=fun i v hv=>by
  have hi:i<ps.length:=by rw[←hsz];exact(ge.mp hv).1
  obtain⟨b,kb,hb1,hb2,hb3⟩:=hp i ps[i] (by simp[hi]);obtain⟨u2,hu2,ru2⟩:=rv.get hb1;have hv':its[i]?=aa v:=by simpa using hv
  rw[hu2] at hv';cases hv';cases ru2;obtain⟨u,w,r1,r2,r3⟩:=D6 I hb2;cases r1;exact⟨ps[i],b,kb,w,by simp[hi],rfl,hb3,r2,r3⟩
 have isk:∀{h':Heap},(∀b o,b<s.heap.objs.size->s.heap.get? b=aa o->h'.get? b=aa o)->∀k b,H b=aa (.tup (k.map kV))->(k0 (cj X.prog X.w)).is h' k b:=fun hB k b hb=>ST.IsTupleKey.mono (ky I.hok hb) fun o e=>hB _ _ (qv e) e;refine DT.call_dict_gen .(bz) e (fun i o=>∃xs',KT H (mrg [] (ps.take i)) xs'/\∃es ep,o.ExactDict/\o.data=.dict es ep/\es.toList=xs'.map (entryOfKey (k0 (cj X.prog X.w)))/\(xs'.map (·.1)).Nodup) ?_ (fun A' hA' i b kv vv sh o Q' E' hi hv hb ho hJ hB hQ=>?_) (fun i v hv=>?_) fun h' tk o ho hJ hk=>?_
 .exact⟨[],.nil,#[],0,⟨rfl,rfl,rfl⟩,rfl,rfl,jr⟩
 .obtain⟨p,b',kb,w,h1,h2,h3,h4,h5⟩:=hit i _ hv;cases h2;have e2:=tuple_inj hb h5;have e3:kv=.ref kb/\vv=w:=by simpa using e2
  obtain⟨rfl,rfl⟩:=e3;obtain⟨xs',k1,es,ep,k2,k3,k4,k5⟩:=hJ;have hle:xs'.length<=2000:=by have q1:=Paired.length k1;have q2:=rF (ps.take i) ([]:ac .(ax));rw[qF,qm] at q2;omega
  refine wpAny_dictSet_heap (knd:=k0 (cj X.prog X.w)) (show A'.units<bY by omega) (isk hB _ _ h3) ⟨o,es,ep,ho,k2,k3,k4,Kc (isk hB) k1,k5⟩ (fun h' hd' hsb=>?_) (by rw[eV];omega);obtain⟨o',es',ep',ho',w2,w3,w4,_,w5⟩:=hd';refine hQ h' _ o' (zj _ _) hsb ho' ⟨_,?_,es',ep',w2,w3,w4,w5⟩;have htk:ps.take (i+1)=ps.take i++[p]:=by rw[lw,h1];rfl
  rw[htk,D0];exact k1.put p.1 h3 h4
 .obtain⟨p,b,kb,w,h1,h2,h3,h4,h5⟩:=hit i v hv;exact⟨b,_,w,h2,h5⟩
 .obtain⟨xs',k1,es,ep,k2,k3,k4,k5⟩:=hJ;rw[hsz,iH] at k1;refine⟨.ref s.heap.objs.size,_,I.laid (a:=s.heap.objs.size) (o:=.dT (mrg [] ps)) (fun b u e=>hk b u (qv e) e) (qw _) ⟨?_,?_,xs',k1.keeps fun b ys e=>?_,o,es,ep,ho,k2,k3,k4,k5⟩,rfl,q _ I.fresh⟩
  .have:=rF ps ([]:ac .(ax));rw[qm] at this;rw[eV];omega
  .exact kW.mpr (cH (qD I.big))
  .rw[ay (bi e I.fresh)];exact e
noncomputable def nA:ac D->aq (ac (Key×D))
 |[]=>aa []
 |.tup [k,v]::r=>(f8 k).bind fun kk=>(nA r).map ((kk,v)::·)
 |_::_=>af
noncomputable def lI:ac D->aq (ac .(ah))
 |[]=>aa []
 |.tup [.tup t,v]::r=>(eC t).bind fun kk=>(lI r).map ((kk,v)::·)
 |_::_=>af
def pJ [dz κ] (ps:ac (κ×D)):ac (κ×D):=ps.foldl (fun acc kv=>bQ acc kv.1 kv.2) []
def kR:ac D->aq D
 |[.lst l]=>if l.length<=1000 then (nA l).map fun ps=>.dk (pJ ps) else af
 |_=>af
def nF:ac D->aq D
 |[.lst l]=>if l.length<=2000 then (lI l).map fun ps=>.dt (pJ ps) else af
 |_=>af
theorem xA {κ:Type} [dz κ] {K:aM} {G:Hp}:∀{us:ac (κ×V)} {kvs:ac (κ×D)} {acc:ac (κ×V)} {acd:ac (κ×D)},us.map (·.1)=kvs.map (·.1)->Reps Γ K G (us.map (·.2)) (kvs.map (·.2))->acc.map (·.1)=acd.map (·.1)->Reps Γ K G (acc.map (·.2)) (acd.map (·.2))->
  (mrg acc us).map (·.1)=(kvs.foldl (fun acc kv=>bQ acc kv.1 kv.2) acd).map (·.1)/\Reps Γ K G ((mrg acc us).map (·.2)) ((kvs.foldl (fun acc kv=>bQ acc kv.1 kv.2) acd).map (·.2))
 |[],[],_,_,_,_,e,r=>⟨e,r⟩
 |[],_::_,_,_,e,_,_,_=>by cases e
 |_::_,[],_,_,e,_,_,_=>by cases e
 |(k1,v)::us,(k2,d)::kvs,acc,acd,e,r,e0,r0=>by
  have e1:k1=k2:=(dB e).1;subst e1;have r:Reps Γ K G (v::us.map (·.2)) (d::kvs.map (·.2)):=r;cases r with
  |cons r1 r2=>
   obtain⟨w1,w2⟩:=lN (k:=k1) r1 e0 r0;exact xA (us:=us) (kvs:=kvs) (dB e).2 r2 w1 w2
theorem D4 {K:aM} {G H:Hp} (gh:aQ G H):∀{vs:ac V} {ds:ac D} {ps:ac (Key×D)},Reps Γ K G vs ds->nA ds=aa ps->
  ∃us:ac (Key×V),vs.length=us.length/\us.map (·.1)=ps.map (·.1)/\Reps Γ K G (us.map (·.2)) (ps.map (·.2))/\∀(i:ak) p,us[i]?=aa p->∃b,vs[i]?=aa (.ref b)/\H b=aa (.tup [kV p.1,p.2])
 |_,[],ps,r,h=>by cases r;cases h;exact⟨[],rfl,rfl,.nil,fun i p e=>by simp at e⟩
 |_,d::ds,ps,r,h=>by
  obtain _|⟨h1,h2⟩:=r;unfold nA at h;split at h
  .rename_i heq;cases heq
  .rename_i heq;cases heq;obtain⟨kk,hk,h⟩:=oBd h;obtain⟨zs,hz,rfl⟩:=oMd h;obtain⟨us,q1,q2,q3,q4⟩:=D4 gh h2 hz;obtain⟨a,ws,rfl,ha,ra⟩:=h1.tup_inv;obtain⟨x,y,rfl,rx,ry⟩:=ra.two;have ex:=kA rx hk;subst ex;refine⟨(kk,y)::us,by rw[qj,qj,q1],by simp[q2],.cons ry q3,fun i p e=>?_⟩;cases i with
   |zero=>cases e;exact⟨a,rfl,gh _ _ ha⟩
   |succ i=>exact q4 i p e
  .cases h
theorem AW {K:aM} {G H:Hp} (gh:aQ G H):∀{vs:ac V} {ds:ac D} {ps:ac .(ah)},Reps Γ K G vs ds->lI ds=aa ps->
  ∃us:ac .(ax),vs.length=us.length/\us.map (·.1)=ps.map (·.1)/\Reps Γ K G (us.map (·.2)) (ps.map (·.2))/\∀(i:ak) p,us[i]?=aa p->∃b kb,vs[i]?=aa (.ref b)/\H b=aa (.tup [.ref kb,p.2])/\H kb=aa (.tup (p.1.map kV))
 |_,[],ps,r,h=>by cases r;cases h;exact⟨[],rfl,rfl,.nil,fun i p e=>by simp at e⟩
 |_,d::ds,ps,r,h=>by
  obtain _|⟨h1,h2⟩:=r;unfold lI at h;split at h
  .rename_i heq;cases heq
  .rename_i heq;cases heq;obtain⟨kk,hk,h⟩:=oBd h;obtain⟨zs,hz,rfl⟩:=oMd h;obtain⟨us,q1,q2,q3,q4⟩:=AW gh h2 hz;obtain⟨a,ws,rfl,ha,ra⟩:=h1.tup_inv;obtain⟨x,y,rfl,rx,ry⟩:=ra.two;obtain⟨kb,ks,rfl,hkb,rk⟩:=rx.tup_inv;have ex:=jO rk hk;subst ex;refine⟨(kk,y)::us,by rw[qj,qj,q1],by simp[q2],.cons ry q3,fun i p e=>?_⟩;cases i with
   |zero=>cases e;exact⟨a,kb,rfl,gh _ _ ha,gh _ _ hkb⟩
   |succ i=>exact q4 i p e
  .cases h
theorem uB (hc:X.calm=ah) (hu:X.A.units+66<bY):TyD Γ X "dict" kR:=⟨_,QN hc hu,fun {G H vs ds z} gh r h Q k=>by
 unfold kR at h;split at h
 .split at h
  .rename_i hz;obtain⟨ps,hp,rfl⟩:=oMd h;obtain⟨v,rfl,r1⟩:=r.one;obtain⟨a,ws,rfl,ha,ra⟩:=r1.lst_inv;obtain⟨us,q1,q2,q3,q4⟩:=D4 gh ra hp;refine⟨a,ws,us,rfl,gh _ _ ha,q1,by rw[←q1,ra.length];exact hz,q4,fun p hp=>?_⟩;have s:=Step.new (o:=.dK (mrg [] us)) gh hp;obtain⟨w1,w2⟩:=xA (acc:=[]) (acd:=[]) q2 q3 rfl .nil;exact k _ _ _ s (.dk aV w1 (w2.mono s.gg))
  .cases h
 .cases h⟩
theorem Ac (hc:X.calm=ah) (hu:X.A.units+66<bY):TyD Γ X "dict" nF:=⟨_,Q3 hc hu,fun {G H vs ds z} gh r h Q k=>by
 unfold nF at h;split at h
 .split at h
  .rename_i hz;obtain⟨ps,hp,rfl⟩:=oMd h;obtain⟨v,rfl,r1⟩:=r.one;obtain⟨a,ws,rfl,ha,ra⟩:=r1.lst_inv;obtain⟨us,q1,q2,q3,q4⟩:=AW gh ra hp;refine⟨a,ws,us,rfl,gh _ _ ha,q1,by rw[←q1,ra.length];exact hz,q4,fun p hp=>?_⟩;have s:=Step.new (o:=.dT (mrg [] us)) gh hp;obtain⟨w1,w2⟩:=xA (acc:=[]) (acd:=[]) q2 q3 rfl .nil;exact k _ _ _ s (.dt aV w1 (w2.mono s.gg))
  .cases h
 .cases h⟩
noncomputable def kD (fr:FA):FS:=fun ρ=>(fr ρ).map fun ds=>(.ow ds,ρ)
theorem sx (h:DO Γ X e fr):DS Γ X (.Return (aa e) pos) (kD fr):=⟨(EM h.1).imp fun E σ H=>by rintro⟨G₀,H₀,G,ρ,fl,ρ',A,h,k⟩;unfold kD at h;obtain⟨ds,hd,h⟩:=oMd h;cases h;refine⟨G₀,H₀,G,ρ,ds,A,hd,fun p vs G' H' s hp r=>?_⟩;have hp0:H₀ p=af:=A.st.hh.free (s.hh.free hp);have hg:G' p=af:=s.gh.free hp;have s2:=s.trans (Step.newOwn (o:=.lst vs) s.gh hp);exact k σ G' _ s.gg (A.step s2) p vs hp0 hg aV r⟩
inductive spO (Γ:Cn) (K:aM) (n:ak) (F:ac D->aq (ac D)) (vs:ac V) (H:Hp) (Q:VK) (_e3:XK):Prop where
 |mk:∀G ds rs,aQ G H->Reps Γ K G vs ds->ds.length=n->F ds=aa rs->(∀p us G' H',Step G H G' H'->H' p=af->Reps Γ K G' us rs->Q (.ref p) (upd H' p (.lst us)))->spO Γ K n F vs H Q _e3
noncomputable def jA (n:ak) (g:FS):ac D->aq (ac D):=fun ds=>(g (ds.map .(N)++bJ n af)).bind fun r=>match r.1 with
 |.ow ds=>aa ds
 |_=>af
theorem Fun.okO {f:au} {k:ak} (F:Fun K x qual st f fd) (S:FnScope N ps (aB st))
  (hbody:∀(cdv:av) (A:cv) (outer:ac ci) (s:aE) (H:Hp) (E:XK),Room k .(j)->
   DSs Γ .(g).nox (bR st) g):FnOk P w K mg base CX0 (k+1) f fd ps (spO Γ K ps.length (jA (N.length-ps.length) g)):=by
 refine F.ok S (fun vs H Q E h=>?_) (fun cdv A outer s H vs Q E hr h=>?_)
 .obtain⟨G,ds,d,_,r,hl,_⟩:=h;rw[r.length,hl]
 .obtain⟨G,ds,rs,gh,r,hl,hd,k⟩:=h;refine⟨_,(hbody cdv A outer s H E hr).1,?_⟩;unfold jA at hd;obtain⟨⟨fl,ρ'⟩,hg,hd⟩:=oBd hd;refine⟨G,H,G,_,fl,ρ',sd gh r (by rw[r.length,hl]),hg,fun σ' G' H' sm A'=>?_⟩;cases fl with
  |rt d'=>cases hd
  |nx=>cases hd
  |bk=>cases hd
  |ct=>cases hd
  |nw d'=>cases hd
  |od d'=>cases hd
  |ow d'=>
   cases hd;intro p us hp0 hg hp rr;have st:Step G H G' (fun b=>if b=p then af else H' b):=by
    refine⟨fun b o e=>?_,A'.st.gg,fun b o e=>?_,A'.st.out⟩
    .show(if b=p then af else H' b)=aa o;rw[qZ (bi e hp0)];exact A'.st.hh b o e
    .show(if b=p then af else H' b)=aa o;rw[qZ (bi e hg)];exact A'.st.gh b o e
   have:=k p us G' _ st (qY rfl) rr;have hf:upd (fun b=>if b=p then af else H' b) p (.lst us)=H':=by
    funext b
    by_cases hb:b=p
    .subst hb;rw[aV,hp]
    .rw[ay hb];exact qZ hb
   rwa [hf] at this
theorem Dfn.none {k:ak} (F:Dfn K mg x st)
  (hb:∀(kV doc pm:av) (an:aq au) (cdv ct:av) (us:ac av),us.length=ps.length->dQ (cV x x (cW st) (bR st) (aB st) .none kV doc pm an cdv ct) ⟨us,[]⟩=aT (ps.zip us))
 : Cal Γ P w K mg base x ps.length k (fun _=>af):=by
 obtain⟨f,fd,h1,h2⟩:=F.ex;refine⟨f,fd,ps,⟨fun vs H Q E h=>?_,fun A outer s H args us vs Q E hr I b v h=>?_⟩,h2,h1.kp,h1.binds hb⟩
 .obtain⟨_,_,_,_,_,_,z,_⟩:=h;cases z
 .obtain⟨_,_,_,_,_,_,z,_⟩:=h;cases z
noncomputable def orG (g g':D->D->aq D) (x y:D):aq D:=match g x y with
 |some z=>aa z
 |none=>g' x y
variable {z:D}
section
variable {a c:Expr} {g g':D->D->aq D}
theorem J6 {x y:D} (h:orG g g' x y=aa z):g x y=aa z\/g' x y=aa z:=by
 unfold orG at h;split at h
 .rename_i q;cases h;exact .inl q
 .exact .inr h
theorem CmpD.or (h:CmpD Γ X op g) (h':CmpD Γ X op g'):CmpD Γ X op (orG g g'):=by
 obtain⟨r,o,d⟩:=h.ex;obtain⟨r',o',d'⟩:=h'.ex;refine⟨_,o.or o',fun {G H v u x y z} gh r1 r2 q Q k=>?_⟩;rcases J6 q with q|q
 .exact .inl (d gh r1 r2 q Q k)
 .exact .inr (d' gh r1 r2 q Q k)
def eqA:=orG eqD oO
def neA:=orG neD jc
theorem vn (hu:X.A.units+64<bY):CmpD Γ X .Eq eqA:=sV.or (MJ hu)
theorem oG (hu:X.A.units+64<bY):CmpD Γ X .NotEq neA:=xp.or (C7 hu)
theorem DfnM.mk' {f:au} {c:ai} {kV:av} (a:b8 K (.ref C) m=aa (aa (.ref f))) (i:nT K (.ref f)=ah)
  (l:K.lookup f=aa ⟨oc,od,.func .(aP),osl⟩) (cd:mI K cdv qual=ah) (k:fQ K (.ref f)=ah):DfnM K C c m qual st:=⟨f,_,xH l cd k,a,i⟩
end
section
variable {f1 f2 f3 f4 f5 f6 f7:FE}
theorem ln1:∀ρ ds,ag f1 ao ρ=aa ds->ds.length=1:=ma fun _ _ h=>Hr h
theorem ln2:∀ρ ds,ag f1 (ag f2 ao) ρ=aa ds->ds.length=2:=ma ln1
theorem ln3:∀ρ ds,ag f1 (ag f2 (ag f3 ao)) ρ=aa ds->ds.length=3:=ma ln2
theorem ln4:∀ρ ds,ag f1 (ag f2 (ag f3 (ag f4 ao))) ρ=aa ds->ds.length=4:=ma ln3
theorem ln5:∀ρ ds,ag f1 (ag f2 (ag f3 (ag f4 (ag f5 ao)))) ρ=aa ds->ds.length=5:=ma ln4
theorem ln6:∀ρ ds,ag f1 (ag f2 (ag f3 (ag f4 (ag f5 (ag f6 ao))))) ρ=aa ds->ds.length=6:=ma ln5
theorem ln7:∀ρ ds,ag f1 (ag f2 (ag f3 (ag f4 (ag f5 (ag f6 (ag f7 ao)))))) ρ=aa ds->ds.length=7:=ma ln6
end
variable {kvs:ac .(ah)} {us':ac (Key×V)}
theorem At.setOdt (A:At Γ K G₀ H₀ G H ρ σ) (ha:H a=af):At Γ K G₀ H₀ G (upd H a (.dT [])) (ρ.set i (aa (.odt []))) (σ.set i (aa (.ref a))):=by have h0:H₀ a=af:=A.st.hh.free ha;have hg:G a=af:=A.gh.free ha;refine A.put (fp:=[]) (fp':=[a]) (.inl rfl) (fun b o e _=>by rw[ay (bi e ha)];exact e) (.odt (us:=[]) (kvs:=[]) h0 hg aV rfl .nil) (fun b hb=>.inr (by rw[bD.mp hb];exact ha)) (.refl _) .(am) .(ad) .(aX);rw[ay (bi e hg)];exact A.gh b o e
theorem At.setOdk (A:At Γ K G₀ H₀ G H ρ σ) (ha:H a=af):At Γ K G₀ H₀ G (upd H a (.dK [])) (ρ.set i (aa (.odk []))) (σ.set i (aa (.ref a))):=by have h0:H₀ a=af:=A.st.hh.free ha;have hg:G a=af:=A.gh.free ha;refine A.put (fp:=[]) (fp':=[a]) (.inl rfl) (fun b o e _=>by rw[ay (bi e ha)];exact e) (.odk (us:=[]) (kvs:=[]) h0 hg aV rfl .nil) (fun b hb=>.inr (by rw[bD.mp hb];exact ha)) (.refl _) .(am) .(ad) .(aX);rw[ay (bi e hg)];exact A.gh b o e
theorem At.chOdt (A:At Γ K G₀ H₀ G H ρ σ) {kvs':ac .(ah)} {us':ac .(ax)} (hi:ρ[i]?=aa (aa (.odt kvs))) (ha:σ[i]?=aa (aa (.ref a))) (e:us'.map (·.1)=kvs'.map (·.1)) (r:Reps Γ K G (us'.map (·.2)) (kvs'.map (·.2))):At Γ K G₀ H₀ G (upd H a (.dT us')) (ρ.set i (aa (.odt kvs'))) σ:=by
 obtain⟨v,fp,h1,h2⟩:=A.get hi;rw[ha] at h1;cases h1;cases h2 with
 |odt q1 q2 q3 q4 q5=>
  refine A.ch hi ha (.odt q1 q2 q3 q4 q5) (fun b o e hb=>?_) (.odt q1 q2 aV e r) (fun b hb=>.inl hb) (.refl _) .(am) .(ad)
  .rw[ay (fun z=>hb (bD.mpr z))];exact e
  .rw[ay (bi e q2)];exact A.gh b o e
theorem At.chOdk (A:At Γ K G₀ H₀ G H ρ σ) {kvs kvs':ac (Key×D)} (hi:ρ[i]?=aa (aa (.odk kvs))) (ha:σ[i]?=aa (aa (.ref a))) (e:us'.map (·.1)=kvs'.map (·.1)) (r:Reps Γ K G (us'.map (·.2)) (kvs'.map (·.2))):At Γ K G₀ H₀ G (upd H a (.dK us')) (ρ.set i (aa (.odk kvs'))) σ:=by
 obtain⟨v,fp,h1,h2⟩:=A.get hi;rw[ha] at h1;cases h1;cases h2 with
 |odk q1 q2 q3 q4 q5=>
  refine A.ch hi ha (.odk q1 q2 q3 q4 q5) (fun b o e hb=>?_) (.odk q1 q2 aV e r) (fun b hb=>.inl hb) (.refl _) .(am) .(ad)
  .rw[ay (fun z=>hb (bD.mpr z))];exact e
  .rw[ay (bi e q2)];exact A.gh b o e
noncomputable def Bw:Slot->aq D
 |.odt kvs=>aa (.dt kvs)
 |.odk kvs=>aa (.dk kvs)
 |_=>af
theorem At.frzD (A:At Γ K G₀ H₀ G H ρ σ) {s:Slot} (hi:ρ[i]?=aa (aa s)) (hd:Bw s=aa d):∃G',aQ G G'/\At Γ K G₀ H₀ G' H (ρ.set i (aa (.sh d))) σ:=by
 obtain⟨v,fp,h1,h2⟩:=A.get hi;cases h2 with
 |sh _=>cases hd
 |own _ _ _ _=>cases hd
 |obj _ _ _ _ _ _ _=>cases hd
 |lo _ _ _ _=>cases hd
 |fo _ _ _ _ _ _ _=>cases hd
 |objd _ _ _ _ _ _ _ _ _ _ _ _=>cases hd
 |odk q1 q2 q3 q4 q5=>
  cases hd;rename_i a us kvs;have sm:aQ G (upd G a (.dK us)):=fun b o e=>by rw[ay (bi e q2)];exact e
  refine⟨upd G a (.dK us),sm,A.ch hi h1 (.odk q1 q2 q3 q4 q5) (fun b o e hb=>e) (.sh (.dk aV q4 (q5.mono sm))) .(aX) sm .(am) (fun b o e hb _=>?_)⟩
  .by_cases hb:b=a
   .subst hb;rw[aV] at e;cases e;exact q3
   .rw[ay hb] at e;exact A.gh b o e
  .rw[ay (fun z=>hb (bD.mpr z))]
 |odt q1 q2 q3 q4 q5=>
  cases hd;rename_i a us kvs;have sm:aQ G (upd G a (.dT us)):=fun b o e=>by rw[ay (bi e q2)];exact e
  refine⟨upd G a (.dT us),sm,A.ch hi h1 (.odt q1 q2 q3 q4 q5) (fun b o e hb=>e) (.sh (.dt aV q4 (q5.mono sm))) .(aX) sm .(am) (fun b o e hb _=>?_)⟩
  .by_cases hb:b=a
   .subst hb;rw[aV] at e;cases e;exact q3
   .rw[ay hb] at e;exact A.gh b o e
  .rw[ay (fun z=>hb (bD.mpr z))]
section
variable {a c:Expr} {fv:FE}
noncomputable def tz (i:ak):FS:=fun ρ=>aa (.nx,ρ.set i (aa (.odt [])))
noncomputable def tV (i:ak):FS:=fun ρ=>aa (.nx,ρ.set i (aa (.odk [])))
theorem xu (i:ak) (hN:X.N.Nodup) (hi:X.N[i]?=aa x:=by rfl) (hx:Loc X.env.scope x:=by ac_nf) (hs:dh (.Dict [] [] dp) (aa (.Name x pos')) pos.line X.env=aT ar:=by rfl) (hf:X.fn x=ah\/X.env.scope.names.lookup x=aa .local:=by ac_nf) :
  DS Γ X (.Assign [.Name x pos'] (.Dict [] [] dp) pos) (tz i):=⟨(pd hN hi hx AO hs hf).imp fun E σ H=>by
 rintro⟨G₀,H₀,G,ρ,fl,ρ',A,h,k⟩ p hp;cases h;exact k _ G _ (.refl _) (A.setOdt hp)⟩
theorem xy (i:ak) (hN:X.N.Nodup) (hi:X.N[i]?=aa x:=by rfl) (hx:Loc X.env.scope x:=by ac_nf) (hs:dh (.Dict [] [] dp) (aa (.Name x pos')) pos.line X.env=aT ar:=by rfl) (hf:X.fn x=ah\/X.env.scope.names.lookup x=aa .local:=by ac_nf) :
  DS Γ X (.Assign [.Name x pos'] (.Dict [] [] dp) pos) (tV i):=⟨(pd hN hi hx tE hs hf).imp fun E σ H=>by
 rintro⟨G₀,H₀,G,ρ,fl,ρ',A,h,k⟩ p hp;cases h;exact k _ G _ (.refl _) (A.setOdk hp)⟩
noncomputable def dZ (i:ak) (fk fv:FE):FS:=fun ρ=>(fv ρ).bind fun d=>(fk ρ).bind fun kd=>match ρ[i]? with
 |some (aa (.odt kvs))=>match kd with
  |.tup t=>(eC t).bind fun ks=>if kvs.length<100000 then aa (.nx,ρ.set i (aa (.odt (bQ kvs ks d)))) else af
  |_=>af
 |some (aa (.odk kvs))=>(f8 kd).bind fun k=>if kvs.length<100000 then aa (.nx,ρ.set i (aa (.odk (bQ kvs k d)))) else af
 |_=>af
theorem kJ (i:ak) (hu:X.A.units+66<bY) (hk:DE Γ X ke fk) (hv':DE Γ X value fv) (hN:X.N[i]?=aa x:=by rfl) (hv:Vis X.env.scope x:=by ac_nf) (hd:.(o)=ar:=by decide)
  (hcd:.(C)=ar:=by decide) (hs:dh value (aa (.Subscript .(x) ke pos')) pos.line X.env=aT ar:=by rfl) :
  DS Γ X (.Assign [.Subscript .(x) ke pos'] value pos) (dZ i fk fv):=⟨(rP .(b) .(aB) hk.1 hv'.1 hs).imp fun E σ H=>by
 rintro⟨G₀,H₀,G,ρ,flw,ρ',A,h,k⟩;unfold dZ at h;obtain⟨d,hd,ha⟩:=oBd h;clear h;obtain⟨kd,hkd,hq⟩:=oBd ha;clear ha;refine⟨G₀,H₀,G,ρ,d,A,hd,fun v G1 H1 s1 r1=>?_⟩;have A1:=A.step s1;split at hq
 .rename_i kvs hi;split at hq
  .rename_i t;obtain⟨ks,hks,hq⟩:=oBd hq;split at hq
   .rename_i hz;cases hq;obtain⟨w,fp,h1,h2⟩:=A1.get hi;cases h2 with
    |odt q1 q2 q3 q4 q5=>
     rename_i a us;refine⟨_,h1,G₀,H₀,G1,ρ,_,A1,hkd,fun u G2 H2 s2 r2=>?_⟩;have A2:=A1.step s2;obtain⟨bb,vs,rfl,hb,rb⟩:=r2.tup_inv;have ev:=jO rb hks;subst ev;have ha2:H2 a=aa (.dT us):=s2.hh _ _ q3;have hlen:us.length=kvs.length:=by simpa using bO cI q4
     obtain⟨w1,w2⟩:=lN (k:=ks) (r1.mono s2.gg) q4 (q5.mono s2.gg);exact⟨a,_,rfl,gP.t ha2 (s2.gh _ _ hb) (by have:=eV;omega),k σ G2 _ (s1.gg.trans s2.gg) (A2.chOdt hi h1 w1 w2)⟩
   .cases hq
  .cases hq
 .rename_i kvs hi;obtain⟨kk,hkk,hq⟩:=oBd hq;split at hq
  .rename_i hz;cases hq;obtain⟨w,fp,h1,h2⟩:=A1.get hi;cases h2 with
   |odk q1 q2 q3 q4 q5=>
    rename_i a us;refine⟨_,h1,G₀,H₀,G1,ρ,_,A1,hkd,fun u G2 H2 s2 r2=>?_⟩;have A2:=A1.step s2;have eu:=kA r2 hkk;subst eu;have ha2:H2 a=aa (.dK us):=s2.hh _ _ q3;have hlen:us.length=kvs.length:=by simpa using bO cI q4
    obtain⟨w1,w2⟩:=lN (k:=kk) (r1.mono s2.gg) q4 (q5.mono s2.gg);exact⟨a,_,rfl,gP.k ha2 (by have:=eV;omega),k σ G2 _ (s1.gg.trans s2.gg) (A2.chOdk hi h1 w1 w2)⟩
  .cases hq
 .cases hq⟩
def jS (i:ak) (g:FS):FS:=fun ρ=>match ρ[i]? with
 |some (aa s)=>match Bw s with
  |some d=>g (ρ.set i (aa (.sh d)))
  |none=>af
 |_=>af
theorem TDs.frzD (i:ak):∀E σ H,TDs Γ X.K (jS i g) E σ H->TDs Γ X.K g E σ H:=by
 rintro E σ H ⟨G₀,H₀,G,ρ,fl,ρ',A,h,k⟩;unfold jS at h;split at h
 .rename_i s hi;split at h
  .rename_i d hd;obtain⟨G',sm,A'⟩:=A.frzD hi hd;exact⟨G₀,H₀,G',_,fl,ρ',A',h,fun σ1 G1 H1 sm1 A1=>k σ1 G1 H1 (sm.trans sm1) A1⟩
  .cases h
 .cases h
theorem ng (i:ak) (h:DSs Γ X sts g):DSs Γ X sts (jS i g):=⟨h.1.imp (TDs.frzD i)⟩
def vY (f:FE):FA:=fun ρ=>(f ρ).bind kT
theorem Pd (hg:Gl X "list") (hm:X.mg "list"=af) (h:DE Γ X e f) (he:aH [e] X.env=(ar,eval e X.env)::aH [] X.env:=by rfl) (hpl:(bF pos .(bC)).any (·.1)=ar:=by rfl) :
  DO Γ X (.Call (.Name "list" p) [e] [] pos) (vY f):=⟨(lC BZ hg hm (by rfl) (e7 h.1 fD he) .(c) .(c) he hpl).imp fun σ H Q=>by
 rintro⟨G₀,H₀,G,ρ,ds,A,hq,k⟩;unfold vY at hq;obtain⟨d,hd,hi⟩:=oBd hq;clear hq;refine⟨G₀,H₀,G,ρ,d,A,hd,fun v G1 H1 s1 r1=>?_⟩;unfold kT at hi;split at hi
 .cases hi;obtain⟨a,us,rfl,ha,ra⟩:=r1.lst_inv;exact⟨a,us,rfl,.inl (.inl (.inl (s1.gh _ _ ha))),fun p hp=>k p us G1 H1 s1 hp ra⟩
 .cases hi;obtain⟨a,us,rfl,ha,ra⟩:=r1.tup_inv;exact⟨a,us,rfl,.inr (.inl (.inl (s1.gh _ _ ha))),fun p hp=>k p us G1 H1 s1 hp ra⟩
 .cases hi;obtain⟨a,rfl,ha⟩:=r1.scr_inv;exact⟨a,_,rfl,.inl (s1.gh.seq ha),fun p hp=>k p _ G1 H1 s1 hp (Reps.ints _)⟩
 .cases hi⟩
end
inductive TDn (Γ:Cn) (K:aM) (f:FE) (σ:St) (H:Hp) (Q:VK):Prop where
 |mk:∀G₀ H₀ G ρ d,At Γ K G₀ H₀ G H ρ σ->f ρ=aa d->(∀v G' H',Step G H G' H'->Rep Γ K G' v d->NewL H G' v d->Q v H')->TDn Γ K f σ H Q
structure DN (Γ:Cn) (X:Cx) (e:Expr) (f:FE):Prop where
 out:PE X e (TDn Γ X.K f)
inductive spN (Γ:Cn) (K:aM) (n:ak) (F:ac D->aq D) (vs:ac V) (H:Hp) (Q:VK) (_e3:XK):Prop where
 |mk:∀G ds d,aQ G H->Reps Γ K G vs ds->ds.length=n->F ds=aa d->(∀v G' H',Step G H G' H'->Rep Γ K G' v d->NewL H G' v d->Q v H')->spN Γ K n F vs H Q _e3
structure CalMN (Γ:Cn) (P:dy) (w:cA) (K:aM) (mg:ai->aq av) (base:Heap) (c m:ai) (n k:ak) (F:ac D->aq D):Prop where
 ex:∃C f fd ps,Γ.cls c=aa C/\Cls K C/\Meth K C m f/\FnOk P w K mg base CX0 k f fd ps (spN Γ K n F)/\dU K fd ps []
structure CalMO (Γ:Cn) (P:dy) (w:cA) (K:aM) (mg:ai->aq av) (base:Heap) (c m:ai) (n k:ak) (F:ac D->aq (ac D)):Prop where
 ex:∃C f fd ps,Γ.cls c=aa C/\Cls K C/\Meth K C m f/\FnOk P w K mg base CX0 k f fd ps (spO Γ K n F)/\dU K fd ps []
theorem DfnM.calO {k:ak} (O:ClsOk Γ K mg c C) (F:DfnM K C c m qual st) (S:FnScope N ps (aB st))
  (hb:∀(kV doc pm:av) (an:aq au) (cdv ct:av) (us:ac av),us.length=ps.length->dQ .(aP) ⟨us,[]⟩=aT (ps.zip us))
  (hbody:∀(f:au) (cdv:av) (A:cv) (outer:ac ci) (s:aE) (H:Hp) (E:XK),Room k .(j)->
   DSs Γ .(g).nox (bR st) g):CalMO Γ P w K mg base c m ps.length (k+1) (jA (N.length-ps.length) g):=by
 obtain⟨f,fd,h1,h2,h3⟩:=F.ex;exact⟨C,f,fd,ps,O.cn,O.cl,⟨h2,h3,h1.kp⟩,h1.okO S (hbody f),h1.binds hb⟩
noncomputable def i7 (c m:ai) (F:ac D->aq (ac D)) (fo:FE) (fr:FA):FA:=fun ρ=>(fo ρ).bind fun d=>match d with
 |.ins c' fs=>if c'=c/\fs.lookup m=af then (fr ρ).bind fun ds=>F (d::ds) else af
 |_=>af
theorem Mj {k:ak} {F:ac D->aq (ac D)} (C:CalMO Γ X.prog X.w X.K X.mg X.base c m (n+1) k F) (hr:Room j X.A) (hk:k<=j) (ho:DE Γ X o fo) (ha:DA Γ X (e::es) fr) (hn:∀ρ ds,fr ρ=aa ds->ds.length=n)
  (hst:aH (e::es) X.env=(ar,eval e X.env)::aH es X.env:=by rfl) (hpl:.(af).any (·.1)=ar:=by rfl)
  (ht:eval .(aA) X.env=(do
   let ov ←eval o X.env
   jh apos.atName
   let (f,first) ←fm [ov] (lg ov m pl)
   nX pos f first (bF pos (aH (e::es) X.env)) (dR pos (dS [] X.env))):=by rfl) :
  DO Γ X .(aA) (i7 c m F fo fr):=⟨by
 obtain⟨Ca,f,fd,ps,h0,h1,h2,h3,h4⟩:=C.ex;refine(v6 ho.1 h1 h2 h3 (hr.mono hk) h4 .nil jz ha.1 hst hpl ht).imp fun σ H Q=>?_;rintro⟨G₀,H₀,G,ρ,rs,A,h,k⟩;unfold i7 at h;obtain⟨x,hx,hq⟩:=oBd h;clear h;refine⟨G₀,H₀,G,ρ,x,A,hx,fun v G1 H1 s1 r1=>?_⟩;split at hq
 .rename_i c' fs;split at hq
  .rename_i hz;obtain⟨rfl,hz2⟩:=hz;obtain⟨ds,hds,hF⟩:=oBd hq;have r1':=r1;cases r1 with
   |ins g1 g2 g3 g4=>
    rw[h0] at g2;cases g2;rename_i _ _ us0;have hl:cK m us0=af:=by
     rcases ii (k:=m) g3 g4 with⟨_,z2⟩|⟨d',v',z1,_,_⟩
     .exact z2
     .rw[z1] at hz2;cases hz2
    refine⟨_,_,_,rfl,s1.gh _ _ g1,hl,G₀,H₀,G1,ρ,ds,A.step s1,hds,fun vs G2 H2 s2 r2=>?_⟩;show spO Γ X.K (n+1) F (_::(vs++[])) H2 Q E0;rw[gH];exact⟨G2,_,rs,s2.gh,.cons (r1'.mono s2.gg) r2,by rw[qj,hn ρ ds hds],hF,fun p us G' H' s hp r=>k p us G' H' ((s1.trans s2).trans s) hp r⟩
  .cases hq
 .cases hq⟩
variable {cp:c8}
section
open PyProof
section
variable {R:li->aE->Prop} {P:ak->av->Prop} {St:ak->Heap->Prop}
noncomputable abbrev nK (l:ac av) (c:ak):Obj:={cls:=.type "list",dict:=af,data:=.seq l.toArray c,slots:=#[]}
theorem Nx (W:j6 prog w A.in1 I fp wr n P St) (bt:ak->ak->aN) (kw:ac (ai×av)) (hc:rj prog w A.in1 .Gt P bt) (S:au) (hSf:S∉fp):∀(m j:ak) (s:aE) (u:av) (c:ak),n=j+1+m->
  St (j+1) s.heap->P (cO bt j) u->s.heap.get? S=aa (nK [u,u] c)->
  (∀v h' tk,P (cO bt (j+m)) v->(∀b o,b∉wr->b≠S->s.heap.get? b=aa o->h'.get? b=aa o)->R (.ok (.ret v)) {s with heap:=h',toks:=tk})->fu .(H) A (.builtin "max.loop" ⟨[.ref I,.none,.ref S],kw⟩) R s:=by
 have sw:S∉wr:=fun z=>hSf (W.sub _ z);have nm:(iI "max"++iI ".loop":cE)="max.loop":=by decide
 intro m
 induction m with
 |zero=>
  intro j s u c e st pu so r;refine ib zy (by
   rw[iG lx _];show aC _ A.in1 (fR (.ref S) >>= _) _ _ s;refine qx (ju so rfl ?_);show aC _ A.in1 .(bk) _ _ s;refine qx (jv (W.done s _ _ (by rw[e];exact st) fun h' tk kp=>?_));show aC _ A.in1 (zz S (fun _=>#[]) >>= _) _ _ _;have so':=kp S _ sw so;refine qx ?_;refine rq so' rfl (qx (mS (qB ?_)));exact r u _ tk pu fun b o hb hS z=>(qy _ _ (cH hS)).trans (kp b o hb z))
 |succ m ih=>
  intro j s u c e st pu so r;have lt:j+1<n:=by omega
  refine ib zy (by
   rw[iG lx _];show aC _ A.in1 (fR (.ref S) >>= _) _ _ s;refine qx (ju so rfl ?_);show aC _ A.in1 .(bk) _ _ s;refine qx (jv (W.item (j+1) s _ _ lt st fun v h' tk pv st' kp=>?_));have so':=kp S _ sw so;show aC _ A.in1 (j9 (fm [v,v] (richCompare .Gt v u >>= _)) _ >>= _) _ _ _;refine qx (jv (qV (qx (hc (j+1) (cO bt j) v u _ _ _ pv pu ?_))));refine qx (qV (ji ?_));refine qx (mS (qB ?_));have ae:j+1+m=j+(m+1):=by omega
   by_cases hb:bt (j+1) (cO bt j)=ah
   .have ab:cO bt (j+1)=j+1:=by simp only[cO,hb,cq]
    simp only[hb,cq];refine qx ?_;refine rq so' rfl (qx (mS ?_));rw[nm];refine qB ⟨ic lx _,ih (j+1) _ v _ .(b) (W.frame _ _ _ st' fun b hf o z=>?_) (by rw[ab];exact pv) (nZ _ so' rfl) fun v' h2 t2 p2 k2=>?_⟩
    .exact(qy _ _ (fun q:S=b=>hSf (by rw[q];exact hf))).trans z
    .exact r v' h2 t2 (by rw[←ae];exact p2) fun b o hw hS z=>k2 b o hw hS ((qy _ _ (cH hS)).trans (kp b o hw z))
   .have hb':bt (j+1) (cO bt j)=ar:=by simpa using hb
    have ab:cO bt (j+1)=cO bt j:=by simp only[cO,hb',qr,cB]
    simp only[hb',qr,cB];refine qx (mS ?_);rw[nm];refine qB ⟨ic lx _,ih (j+1) _ u c .(b) st' (by rw[ab];exact pu) so' fun v' h2 t2 p2 k2=>?_⟩;exact r v' h2 t2 (by rw[←ae];exact p2) fun b o hw hS z=>k2 b o hw hS (kp b o hw z))
theorem Rg (W:j6 prog w A.in1 I fp wr n P St) (bt:ak->ak->aN) (kw:ac (ai×av)) (hc:rj prog w A.in1 .Gt P bt) (S:au) (hSf:S∉fp) (hn:0<n) {c:ak} (st:St 0 s.heap) (so:s.heap.get? S=aa (nK [] c))
  (r:∀v h' tk,P (cO bt (n-1)) v->(∀b o,b∉wr->b≠S->s.heap.get? b=aa o->h'.get? b=aa o)->R (.ok (.ret v)) {s with heap:=h',toks:=tk}):fu .(H) A (.builtin "max.loop" ⟨[.ref I,.none,.ref S],kw⟩) R s:=by
 have sw:S∉wr:=fun z=>hSf (W.sub _ z);have nm:(iI "max"++iI ".loop":cE)="max.loop":=by decide
 refine ib zy (by
  rw[iG lx _];show aC _ A.in1 (fR (.ref S) >>= _) _ _ s;refine qx (ju so rfl ?_);show aC _ A.in1 .(bk) _ _ s;refine qx (jv (W.item 0 s _ _ hn st fun v h' tk pv st' kp=>?_));have so':=kp S _ sw so;show aC _ A.in1 (zz S (fun _=>#[v,v]) >>= _) _ _ _;refine qx ?_;refine rq so' rfl ?_;rw[nm];refine qB ⟨ic lx _,Nx W bt kw hc S hSf (n-1) 0 _ v _ .(b) (W.frame _ _ _ st' fun b hf o z=>?_) pv (nZ _ so' rfl) fun v' h2 t2 p2 k2=>?_⟩
  .exact(qy _ _ (fun q:S=b=>hSf (by rw[q];exact hf))).trans z
  .exact r v' h2 t2 (by rw[ly] at p2;exact p2) fun b o hw hS z=>k2 b o hw hS ((qy _ _ (cH hS)).trans (kp b o hw z)))
theorem Iz (W:j6 prog w A.in1 I fp wr n P St) (x:ai) (d:av) (kw:ac (ai×av)) (S:au) (hSf:S∉fp) (hn:n=0) {c:ak} (st:St 0 s.heap) (so:s.heap.get? S=aa (nK [] c))
  (r:∀h' tk,(∀b o,b∉wr->b≠S->s.heap.get? b=aa o->h'.get? b=aa o)->R (.ok (.ret d)) {s with heap:=h',toks:=tk}):fu .(H) A (.builtin "max.loop" ⟨[.ref I,.none,.ref S],(x,d)::kw⟩) R s:=by
 subst hn;refine ib zy (by rw[iG lx _];show aC _ A.in1 (fR (.ref S) >>= _) _ _ s;refine qx (ju so rfl ?_);show aC _ A.in1 .(bk) _ _ s;refine qx (jv (W.done s _ _ st fun h' tk kp=>?_));show aC _ A.in1 (rule _ >>= _) _ _ _;refine qx (Gp ?_);exact qB (r h' tk fun b o hb _ z=>kp b o hb z))
end
theorem JY (a v:av):zA "max" ⟨[a],[(hZ "default",v)]⟩:=by unfold zA;kernel_rfl
theorem MS {x d:av} 
  (h:aC .(H) A.in1 (mC x) (fun it t=>∃I fp wr n P St bt,it=.ref I/\j6 prog w A.in1 I fp wr n P St/\St 0 t.heap/\(∀b∈fp,b<t.heap.objs.size)/\rj prog w A.in1 .Gt P bt /\
   (n=0->∀h' tk,(∀b o,b∉wr->t.heap.get? b=aa o->h'.get? b=aa o)->Q d {t with heap:=h',toks:=tk}) /\
   (0<n->∀v h' tk,P (cO bt (n-1)) v->(∀b o,b∉wr->t.heap.get? b=aa o->h'.get? b=aa o)->Q v {t with heap:=h',toks:=tk})) E s) :
  aC .(H) A (call (.builtin "max") [x] [(hZ "default",d)]) Q E s:=by
 have nm:(iI "max"++iI ".loop":cE)="max.loop":=by decide
 refine kmb_tree F.kind_max F.plain_max F.entry_max (JY _ _) ?_;show aC _ A.in1 (zB "max" ["key","default"] 0 ⟨[],[(hZ "default",d)]⟩ >>= _) _ _ s;refine qx (rh (show zB "max" ["key","default"] 0 ⟨[],[(hZ "default",d)]⟩=aT [af,aa d] from rfl) ?_);refine qx (qB ?_);refine qx (thn h fun it t q=>?_);obtain⟨I,fp,wr,n,P,St,bt,rfl,W,st,hf,hc,q0,q1⟩:=q;have nf:t.heap.objs.size∉fp:=fun z=>fE _ (hf _ z);refine qx (j0 ?_);rw[nm];by_cases hn:n=0
 .exact qB ⟨ic lx _,Iz W _ d [] t.heap.objs.size nf hn (W.frame _ _ _ st fun b _ o z=>qu _ z) (qH _ rfl) fun h' tk kp=>q0 hn h' tk fun b o hb z=>kp b o hb (qD (qv z)) (qu _ z)⟩
 .exact qB ⟨ic lx _,Rg W bt _ hc t.heap.objs.size nf .(b) (W.frame _ _ _ st fun b _ o z=>qu _ z) (qH _ rfl) fun v h' tk pv kp=>q1 .(b) v h' tk pv fun b o hb z=>kp b o hb (qD (qv z)) (qu _ z)⟩
noncomputable def fU:ac D->aq (ac aj)
 |[]=>aa []
 |.int x::r=>(fU r).map (x::·)
 |_::_=>af
theorem px {K:aM} {G:Hp}:∀{vs:ac V} {ds:ac D} {ys:ac aj},Reps Γ K G vs ds->fU ds=aa ys->vs=ys.map V.int
 |_,[],ys,r,h=>by cases r;cases h;rfl
 |_,d::ds,ys,r,h=>by
  obtain _|⟨h1,h2⟩:=r;cases d with
  |int x=>
   obtain⟨zs,hz,rfl⟩:=oMd (show(fU ds).map (x::·)=aa ys from h);rw[h1.int_inv,px h2 hz];rfl
  |_=>cases h
theorem sH:∀{ns:ac aj} {us:ac av},aU .(bm) us->us.length=ns.length/\∀(i:ak) v,us[i]?=aa v->∃t,v=.int (ns.getD i 0) t:=by
 intro xs0
 induction xs0 with
 |nil=>
  intro _ r;rw[qQ] at r;cases r;exact⟨rfl,fun i v h=>by simp at h⟩
 |cons n ns ih=>
  intro _ r;rw[qo] at r;cases r with
  |cons r1 r2=>
   obtain⟨h1,h2⟩:=ih r2;refine⟨by simp[h1],fun i v h=>?_⟩;cases i with
   |zero=>
    obtain⟨t,rfl⟩:=r1;cases h;exact⟨t,rfl⟩
   |succ i=>exact h2 i v h
noncomputable def btI (ns:ac aj) (i j:ak):aN:=decide (ns.getD i 0 > ns.getD j 0)
def mxI (ns:ac aj):D:=if ns=[] then .non else .int (ns.getD (cO (btI ns) (ns.length-1)) 0)
def mxV (ns:ac aj):V:=if ns=[] then .non else .int (ns.getD (cO (btI ns) (ns.length-1)) 0)
def ym:D->aq D
 |.lst l=>(fU l).map mxI
 |_=>af
def Ll (t:TE):TE:=fun σ H Q=>t σ H fun v H1=>∃(a:au) (ns:ac aj),[v]=[.ref a]/\H1 a=aa (.lst .(bm))/\Q (mxV ns) H1
theorem IX {t:TE} {kp:c8} (hc:X.calm=ah) (hg:Gl X "max") (hm:X.mg "max"=af) (h:PE X e t) (he:aH [e] X.env=(ar,eval e X.env)::aH [] X.env:=by rfl) (hb:bF pos (aH [e] X.env)=(ar,eval e X.env)::bF pos .(bC):=by rfl)
  (hpl:(bF pos (aH [e] X.env)).any (·.1)=ar:=by rfl) :
  PE X (.Call (.Name "max" p) [e] [⟨aa "default",.Constant .none j cp,kp⟩] pos) (Ll t):=by
 intro pins s σ H Q I q;refine nW (kN I hg hm (u:=.builtin "max") (by rfl) ?_);refine callWith_kw (thn (e7 h fD he pos pins s σ H (fun vs H1=>∃(a:au) (ns:ac aj),vs=[.ref a]/\H1 a=aa (.lst .(bm))/\Q (mxV ns) H1) I q) fun us s1 ζ=>?_) hb hpl;obtain⟨vs,H1,I1,r1,q1⟩:=ζ;obtain⟨a,ns,rfl,ha,q2⟩:=q1;obtain⟨u,rfl,ru⟩:=eJ r1;cases ru;refine kws_cons (Fk (kws_nil ?_));show aC _ _ (call (.builtin "max") [.ref a] [(hZ "default",.none)]) _ _ _;obtain⟨its,rv,pl,_⟩:=I1.list (.inl (.inl ha));obtain⟨vl,vi⟩:=sH rv;refine MS (mO pl.isList ?_);have ne:a≠s1.heap.objs.size:=by obtain⟨o,_,h1,_⟩:=pl;exact qD (qv h1)
 have hP:∀(i:ak) v,its.toArray[i]?=aa v->∃t,v=.int (ns.getD i 0) t:=fun i v hv=>vi i v (by simpa using hv);have la:a<s1.heap.objs.size:=by obtain⟨o,_,h1,_⟩:=pl;exact qv h1
 have sz:its.toArray.size=ns.length:=by simp[vl]
 refine⟨s1.heap.objs.size,_,_,_,_,_,btI ns,rfl,om (A:=X.A.in1) (show X.A.in1.handled=af from I1.ok.hd hc) s1.heap.objs.size a ne its.toArray,⟨⟨_,qH _ rfl,rfl,rfl⟩,pl.isList.at fun o q=>qu _ q⟩,fun b hb=>?_,Uh (fun i=>ns.getD i 0) hP,fun hn h' tk hk=>?_,fun hn v h' tk pv hk=>?_⟩
 .rw[jp];simp only[qN,qL,or_false] at hb;rcases hb with z|z
  .rw[z];exact lq _
  .rw[z];exact mR la
 .have e0:ns=[]:=uU.mp .(b);refine⟨.non,H1,I1.kept fun b o z=>hk b o ?_ (qu _ z),rfl,?_⟩
  .intro z';have:b=s1.heap.objs.size:=by simpa using z'
   exact bu (qv z) (by rw[this];exact fE _)
  .unfold mxV at q2;rw[qY e0] at q2;exact q2
 .have e0:ns≠[]:=fun z=>by rw[sz,z] at hn;exact bu hn .(c)
  obtain⟨t,rfl⟩:=hP _ _ pv;refine⟨mxV ns,H1,I1.kept fun b o z=>hk b o ?_ (qu _ z),?_,q2⟩
  .intro z';have:b=s1.heap.objs.size:=by simpa using z'
   exact bu (qv z) (by rw[this];exact fE _)
  .unfold mxV;rw[qZ e0,sz];exact⟨t,rfl⟩
theorem Il {kp:c8} (hc:X.calm=ah) (hg:Gl X "max") (hm:X.mg "max"=af) (h:DE Γ X e f) (he:aH [e] X.env=(ar,eval e X.env)::aH [] X.env:=by rfl) (hb:bF pos (aH [e] X.env)=(ar,eval e X.env)::bF pos .(bC):=by rfl)
  (hpl:(bF pos (aH [e] X.env)).any (·.1)=ar:=by rfl):DE Γ X (.Call (.Name "max" p) [e] [⟨aa "default",.Constant .none j cp,kp⟩] pos) (b1 ym f):=⟨(IX hc hg hm h.1 he hb hpl).imp fun σ H Q=>by
 rintro⟨G₀,H₀,G,ρ,z,A,hq,k⟩;unfold b1 at hq;obtain⟨d,hd,hi⟩:=oBd hq;refine⟨G₀,H₀,G,ρ,d,A,hd,fun v G1 H1 s1 r1=>?_⟩;unfold ym at hi;split at hi
 .obtain⟨ns,hn,rfl⟩:=oMd hi;obtain⟨a,us,rfl,ha,ra⟩:=r1.lst_inv;refine⟨a,ns,rfl,by rw[←px ra hn];exact s1.gh _ _ ha,k _ G1 H1 s1 ?_⟩;unfold mxV mxI;split
  .exact .non
  .exact .int _
 .cases hi⟩
end
noncomputable def foF:Fld->D
 |.d d=>d
 |.k kvs=>.dk kvs
 |.t kvs=>.dt kvs
def foD (c:ai) (fs:ac (ai×Fld)):D:=.ins c (fs.map fun z=>(z.1,foF z.2))
mutual
def plD:D->aN
 |.non=>ah
 |.bl _=>ah
 |.int _=>ah
 |.str _=>ah
 |.tup l=>gS l
 |.lst l=>gS l
 |_=>ar
def gS:ac D->aN
 |[]=>ah
 |x::r=>plD x && gS r
end
noncomputable def jg (fp:ac au) (H G:Hp):Hp:=fun b=>if b∈fp then H b else G b
noncomputable def e6 (fp:ac au) (G:Hp):Hp:=fun b=>if b∈fp then af else G b
theorem jC (h:a∉fp):e6 fp G a=G a:=qZ h
theorem Rep.less (no:∀b∈fp,∀vs,G b≠aa (.lst vs)/\G b≠aa (.tup vs)) (r:Rep Γ K G v d):plD d=ah->Rep Γ K (e6 fp G) v d:=by
 refine r.rec (motive_1:=fun v d _=>plD d=ah->Rep Γ K (e6 fp G) v d) (motive_2:=fun vs ds _=>gS ds=ah->Reps Γ K (e6 fp G) vs ds) (fun _=>.non) (fun _ _=>.bl _) (fun _ _=>.int _) (fun _ _=>.str _) ?_ (fun h _ i hp=>.tup ((jC fun z=>(no _ z _).2 h).trans h) (i (by rw[plD] at hp;exact hp))) (fun h _ i hp=>.lst ((jC fun z=>(no _ z _).1 h).trans h) (i (by rw[plD] at hp;exact hp))) ?_ ?_ ?_ ?_ ?_ ?_ (fun _=>.nil) (fun _ _ a b hp=>?_)
 all_goals intros
 all_goals rename_i hp
 any_goals (simp[plD] at hp;done)
 rw[gS] at hp;exact .cons (a (vc.mp hp).1) (b (vc.mp hp).2)
theorem Reps.less (no:∀b∈fp,∀vs,G b≠aa (.lst vs)/\G b≠aa (.tup vs)):∀{vs:ac V} {ds:ac D},Reps Γ K G vs ds->gS ds=ah->Reps Γ K (e6 fp G) vs ds
 |_,[],r,_=>by cases r;exact .nil
 |_,_::_,r,hp=>by obtain _|⟨r,t⟩:=r;rw[gS] at hp;have hp':=vc.mp hp;exact .cons (r.less no hp'.1) (t.less no hp'.2)
theorem lJ (hn:∀b∈fp,G b=af):aQ G (jg fp H G):=fun b o e=>by show(if b∈fp then H b else G b)=_;rw[qZ (fun z=>by rw[hn b z] at e;cases e)];exact e
theorem FldsR.frz (hn:∀b∈fp,G b=af):∀{vs:ac V} {fs:ac Fld} {ps:ac au},FldsR Γ K G H vs fs ps->(∀b∈ps,b∈fp)->Reps Γ K (jg fp H G) vs (fs.map foF)
 |_,[],_,r,_=>by cases r;exact .nil
 |_,_::_,_,r,hm=>by
  obtain _|⟨r,t⟩:=r;refine .cons ?_ (t.frz hn fun b hb=>hm b (qS _ hb));cases r with
  |d h=>exact h.mono (lJ hn)
  |k h a c=>exact .dk (show(if _∈fp then H _ else G _)=_ by rw[qY (hm _ (mz _ qh))];exact h) a (c.mono (lJ hn))
  |t h a c=>exact .dt (show(if _∈fp then H _ else G _)=_ by rw[qY (hm _ (mz _ qh))];exact h) a (c.mono (lJ hn))
theorem FldsR.kinds:∀{vs:ac V} {fs:ac Fld} {ps:ac au},FldsR Γ K G H vs fs ps->∀b∈ps,(∃us,H b=aa (.dK us))\/∃us,H b=aa (.dT us)
 |_,_,_,.nil,b,hb=>by cases hb
 |_,_,_,.cons r t,b,hb=>by
  rcases cT.mp hb with hb|hb
  .cases r with
   |d _=>cases hb
   |k h _ _=>rw[bD.mp hb];exact .inl ⟨_,h⟩
   |t h _ _=>rw[bD.mp hb];exact .inr ⟨_,h⟩
  .exact t.kinds b hb
section
variable {s:aN} {fs:ac (ai×Fld)}
theorem At.look (A:At Γ K G₀ H₀ G H ρ σ) (hi:ρ[i]?=aa (aa (.fo s c fs))):∃fp,(∀b∈fp,G b=af/\∃o,H b=aa o/\(∀vs,o≠.lst vs)/\∀vs,o≠.tup vs)/\At Γ K G₀ H₀ (jg fp H G) H (ρ.set i (aa (.sh (foD c fs)))) σ:=by
 obtain⟨v,fp,h1,h2⟩:=A.get hi;cases h2 with
 |fo gs g1 g2 g3 g4 g5 g6=>
  rename_i a C dx vs ps;have hn:∀b∈a::ps,G b=af:=fun b hb=>(g2 b hb).2;have sm:=lJ (H:=H) hn;have ga:jg (a::ps) H G a=aa (.ins C dx vs):=by show(if a∈a::ps then H a else G a)=_;rw[qY qh];exact g4
  refine⟨a::ps,fun b hb=>⟨hn b hb,?_⟩,A.ch hi h1 (.fo gs g1 g2 g3 g4 g5 g6) (fun b o e _=>e) (.sh (.ins ga g1 (by rw[g5,qp];rfl) ?_)) .(aX) sm .(am) (fun b o e hb _=>?_)⟩
  .rcases bZ.mp hb with rfl|hb
   .exact⟨_,g4,(fun _ z=>by cases z),(fun _ z=>by cases z)⟩
   .rcases g6.kinds b hb with⟨us,e⟩|⟨us,e⟩
    .exact⟨_,e,(fun _ z=>by cases z),(fun _ z=>by cases z)⟩
    .exact⟨_,e,(fun _ z=>by cases z),(fun _ z=>by cases z)⟩
  .have:=g6.frz hn fun b hb=>qi _ hb;rw[qp] at this ⊢;exact this
  .replace e:(if b∈a::ps then H b else G b)=aa o:=e
   split at e
   .exact e
   .exact A.gh b o e
  .show(if b∈a::ps then H b else G b)=G b;rw[qZ hb]
theorem Dt (gh:aQ G H) (hf:∀b∈fp,G b=af/\∃o,H b=aa o/\(∀vs,o≠.lst vs)/\∀vs,o≠.tup vs) (s:Step (jg fp H G) H G' H'):Step G H (e6 fp G') H'/\∀b∈fp,∀vs,G' b≠aa (.lst vs)/\G' b≠aa (.tup vs):=by
 have hn:∀b∈fp,G b=af:=fun b hb=>(hf b hb).1;refine⟨⟨s.hh,fun b o e=>?_,fun b o e=>?_,fun b o e ek=>?_⟩,fun b hb vs=>?_⟩
 .show(if b∈fp then af else G' b)=_;rw[qZ (fun z=>by rw[hn b z] at e;cases e)];exact s.gg b o (lJ hn b o e)
 .replace e:(if b∈fp then af else G' b)=aa o:=e
  split at e
  .cases e
  .exact s.gh b o e
 .show(if b∈fp then af else G' b)=_;by_cases hb:b∈fp
  .rw[qY hb,hn b hb]
  .rw[qZ hb,s.out b o e ek];show(if b∈fp then H b else G b)=_;rw[qZ hb]
 .obtain⟨_,o,e,k1,k2⟩:=hf b hb;have:G' b=aa o:=by rw[s.out b o e (by cases o<;>first|rfl|exact bu rfl (k2 _))];show(if b∈fp then H b else G b)=_;rw[qY hb,e]
  rw[this];exact⟨fun z=>k1 vs (qI z),fun z=>k2 vs (qI z)⟩
end
def bwF (i:ak) (f:FE):FE:=fun ρ=>match ρ[i]? with
 |some (aa (.fo s c fs))=>(f (ρ.set i (aa (.sh (foD c fs))))).bind fun d=>if plD d=ah then aa d else af
 |_=>f ρ
def kM (i:ak) (f:FA):FA:=fun ρ=>match ρ[i]? with
 |some (aa (.fo s c fs))=>(f (ρ.set i (aa (.sh (foD c fs))))).bind fun ds=>if gS ds=ah then aa ds else af
 |_=>f ρ
theorem By (i:ak) (h:DE Γ X e f):DE Γ X e (bwF i f):=⟨h.1.imp fun σ H Q=>by
 rintro⟨G₀,H₀,G,ρ,d,A,h,k⟩;unfold bwF at h;split at h
 .rename_i sb c fs hi;obtain⟨d',hd,h⟩:=oBd h;split at h
  .rename_i hp;cases h;obtain⟨fp,hf,A1⟩:=A.look hi;refine⟨G₀,H₀,_,_,d,A1,hd,fun v G' H' s r=>?_⟩;obtain⟨s2,no⟩:=Dt A.gh hf s;exact k v _ H' s2 (r.less no hp)
  .cases h
 .exact⟨G₀,H₀,G,ρ,d,A,h,k⟩⟩
theorem Ay {f:FA} (h:∀ρ ds,f ρ=aa ds->ds.length=n):∀ρ ds,kM i f ρ=aa ds->ds.length=n:=fun ρ ds e=>by
 unfold kM at e;split at e
 .obtain⟨ds',hd,e⟩:=oBd e;split at e
  .cases e;exact h _ _ hd
  .cases e
 .exact h _ _ e
theorem BE (i:ak) {f:FA} (h:DA Γ X es f):DA Γ X es (kM i f):=⟨h.1.imp fun σ H Q=>by
 rintro⟨G₀,H₀,G,ρ,ds,A,h,k⟩;unfold kM at h;split at h
 .rename_i sb c fs hi;obtain⟨ds',hd,h⟩:=oBd h;split at h
  .rename_i hp;cases h;obtain⟨fp,hf,A1⟩:=A.look hi;refine⟨G₀,H₀,_,_,ds,A1,hd,fun vs G' H' s r=>?_⟩;obtain⟨s2,no⟩:=Dt A.gh hf s;exact k vs _ H' s2 (r.less no hp)
  .cases h
 .exact⟨G₀,H₀,G,ρ,ds,A,h,k⟩⟩
noncomputable def f9 (f:ai) (x:Fld):ac (ai×Fld)->ac (ai×Fld)
 |[]=>[]
 |(g,y)::r=>if f=g then (g,x)::r else (g,y)::f9 f x r
theorem Cm {f:ai} {x:Fld} :∀fs:ac (ai×Fld),(f9 f x fs).map (·.1)=fs.map (·.1):=by
 intro xs0
 induction xs0 with
 |nil=>
  exact rfl
 |cons x0 r ih=>
  obtain⟨g,y⟩:=x0;unfold f9;split
  .rfl
  .rw[qo,qo,ih]
section
variable {f:ai}
theorem FldsR.none:∀{vs:ac (ai×V)} {fs:ac (ai×Fld)},vs.map (·.1)=fs.map (·.1)->fs.lookup f=af->vs.lookup f=af
 |[],[],_,_=>rfl
 |[],_::_,h,_=>by cases h
 |_::_,[],h,_=>by cases h
 |(g,v)::vs,(g',y)::fs,h,hl=>by
  rw[qo,qo] at h;have ht:=(dB h).2;have e:g=g':=(dB h).1;clear h;subst e;by_cases ef:f=g
  .subst ef;simp[cK] at hl
  .have hb:(f==g)=ar:=by simpa using ef
   simp only[cK,hb] at hl ⊢;exact FldsR.none ht hl
theorem FldsR.app {vs ws:ac V} {fs gs:ac Fld} {ps qs:ac au} (h:FldsR Γ K G H vs fs ps) (h':FldsR Γ K G H ws gs qs):FldsR Γ K G H (vs++ws) (fs++gs) (ps++qs):=by
 induction h with
 |nil=>exact h'
 |cons r t ih=>rw[pV];exact .cons r ih
theorem FldsR.put {y:Fld} (hy:∀{v p},FldR Γ K G H v y p->∃q,v=.ref q/\p=[q]):∀{vs:ac (ai×V)} {fs:ac (ai×Fld)} {ps:ac au},vs.map (·.1)=fs.map (·.1)->FldsR Γ K G H (vs.map (·.2)) (fs.map (·.2)) ps->fs.lookup f=aa y->
  ∃q,vs.lookup f=aa (.ref q)/\q∈ps/\FldR Γ K G H (.ref q) y [q]/\(ps.Nodup->∀{o:HO} {y':Fld},FldR Γ K G (upd H q o) (.ref q) y' [q]->FldsR Γ K G (upd H q o) (vs.map (·.2)) ((f9 f y' fs).map (·.2)) ps):=by
 intro vs
 induction vs with
 |nil=>
  intro fs ps h _ hl;cases fs with
  |nil=>cases hl
  |cons _ _=>cases h
 |cons gv vs ih=>
  intro fs ps h r hl;cases fs with
  |nil=>cases h
  |cons gy fs=>
  obtain⟨g,v⟩:=gv;obtain⟨g',y2⟩:=gy;rw[qo,qo] at h;have ht:=(dB h).2;have e:g=g':=(dB h).1;clear h;subst e;rw[qo,qo] at r;cases r with
  |cons r1 r2=>
   by_cases ef:f=g
   .subst ef;simp only[cK,beq_self_eq_true] at hl ⊢;cases hl;obtain⟨q,rfl,rfl⟩:=hy r1;refine⟨q,rfl,mz _ qh,r1,fun nd o y' e1=>?_⟩;have hs:f9 f y' ((f,y)::fs)=(f,y')::fs:=qY rfl;rw[hs,qo,qo];refine .cons e1 (r2.stay (.refl _) fun b hb=>ay fun z=>?_);subst z;exact(cU.mp nd).1 hb
   .have hb:(f==g)=ar:=by simpa using ef
    simp only[cK,hb] at hl ⊢;obtain⟨q,b1,b2,b3,b6⟩:=ih ht r2 hl;refine⟨q,b1,qS _ b2,b3,fun nd o y' e1=>?_⟩;have hs:f9 f y' ((g,y2)::fs)=(g,y2)::f9 f y' fs:=qZ ef;rw[hs,qo,qo];have nd':=iJ.mp nd;exact .cons (r1.stay (.refl _) fun b hb=>ay fun z=>nd'.2.2 b hb q b2 z) (b6 nd'.2.1 e1)
theorem FldsR.putK {kvs:ac (Key×D)} {vs:ac (ai×V)} {fs:ac (ai×Fld)} {ps:ac au} (h:vs.map (·.1)=fs.map (·.1)) (r:FldsR Γ K G H (vs.map (·.2)) (fs.map (·.2)) ps) (hl:fs.lookup f=aa (.k kvs)) :
  ∃q us,vs.lookup f=aa (.ref q)/\q∈ps/\H q=aa (.dK us)/\us.map (·.1)=kvs.map (·.1)/\Reps Γ K G (us.map (·.2)) (kvs.map (·.2)) /\
   (ps.Nodup->∀{us':ac (Key×V)} {kvs':ac (Key×D)},us'.map (·.1)=kvs'.map (·.1)->Reps Γ K G (us'.map (·.2)) (kvs'.map (·.2))->FldsR Γ K G (upd H q (.dK us')) (vs.map (·.2)) ((f9 f (.k kvs') fs).map (·.2)) ps):=by
 obtain⟨q,b1,b2,b3,b4⟩:=FldsR.put (fun r=>by cases r;exact⟨_,rfl,rfl⟩) h r hl;cases b3 with
 |k a1 a2 a3=>exact⟨q,_,b1,b2,a1,a2,a3,fun nd _ _ e1 e2=>b4 nd (.k aV e1 e2)⟩
theorem FldsR.putT {vs:ac (ai×V)} {fs:ac (ai×Fld)} {ps:ac au} (h:vs.map (·.1)=fs.map (·.1)) (r:FldsR Γ K G H (vs.map (·.2)) (fs.map (·.2)) ps) (hl:fs.lookup f=aa (.t kvs)) :
  ∃q us,vs.lookup f=aa (.ref q)/\q∈ps/\H q=aa (.dT us)/\us.map (·.1)=kvs.map (·.1)/\Reps Γ K G (us.map (·.2)) (kvs.map (·.2)) /\
   (ps.Nodup->∀{us':ac .(ax)} {kvs':ac .(ah)},us'.map (·.1)=kvs'.map (·.1)->Reps Γ K G (us'.map (·.2)) (kvs'.map (·.2))->FldsR Γ K G (upd H q (.dT us')) (vs.map (·.2)) ((f9 f (.t kvs') fs).map (·.2)) ps):=by
 obtain⟨q,b1,b2,b3,b4⟩:=FldsR.put (fun r=>by cases r;exact⟨_,rfl,rfl⟩) h r hl;cases b3 with
 |t a1 a2 a3=>exact⟨q,_,b1,b2,a1,a2,a3,fun nd _ _ e1 e2=>b4 nd (.t aV e1 e2)⟩
end
section
variable {fv:FE} {fl cl:ai}
noncomputable def ja (c f:ai) (i:ak) (fv:FE):FS:=fun ρ=>(fv ρ).bind fun d=>match ρ[i]? with
 |some (aa (.fo s c' fs))=>if c'=c/\fs.lookup f=af/\fs.length<100 then aa (.nx,ρ.set i (aa (.fo s c (fs++[(f,.d d)])))) else af
 |_=>af
theorem na (i:ak) (hc:CF Γ X.K cl attrs) (hf:fl∈attrs) (hv':DE Γ X value fv) (hN:X.N[i]?=aa x:=by rfl) (hv:Vis X.env.scope x:=by ac_nf) (hd:.(o)=ar:=by decide)
  (hcd:.(C)=ar:=by decide) (hs:dh value (aa (.Attribute .(x) fl pos')) pos.line X.env=aT ar:=by rfl):DS Γ X (.Assign [.Attribute .(x) fl pos'] value pos) (ja cl fl i fv):=⟨(oK .(aB) hv'.1 hs).imp fun E σ H=>by
 rintro⟨G₀,H₀,G,ρ,flw,ρ',A,h,k⟩;unfold ja at h;obtain⟨d,hd,h⟩:=oBd h;split at h
 .rename_i sb c' fs hi;split at h
  .rename_i hz;obtain⟨rfl,hz2,hz3⟩:=hz;cases h;obtain⟨C,q1,q2,q3⟩:=hc.ex;refine⟨G₀,H₀,G,ρ,d,A,hd,fun v G1 H1 s1 r1=>?_⟩;have A1:=A.step s1;obtain⟨w,fp,h1,h2⟩:=A1.get hi;cases h2 with
   |fo gs g1 g2 g3 g4 g5 g6=>
    rename_i a C' dx vs ps;have g1':=g1;rw[q1] at g1;cases g1;have hl:=FldsR.none g5 hz2;have hlen:vs.length=fs.length:=by simpa using bO cI g5
    have nd:=cU.mp g3;refine⟨_,h1,a,C,dx,vs,rfl,g4,q2,q3 fl hf,by omega,?_⟩;rw[oI hl];have g6':FldsR Γ X.K G1 (upd H1 a (.ins C dx (vs++[(fl,v)]))) ((vs++[(fl,v)]).map (·.2)) ((fs++[(fl,Fld.d d)]).map (·.2)) ps:=by rw[dF,dF];have:=(g6.stay (H':=upd H1 a (.ins C dx (vs++[(fl,v)]))) (.refl _) fun b hb=>ay fun z=>nd.1 (by rw[←z];exact hb)).app (.cons (.d r1) .nil);simpa using this
    refine k σ G1 _ s1.gg (A1.ch hi h1 (.fo gs g1' g2 g3 g4 g5 g6) (fun b o e hb=>?_) (.fo gs g1' g2 g3 aV (by simp[g5]) g6') (fun b hb=>.inl hb) (.refl _) .(am) .(ad))
    .rw[ay .(bI)];exact e
    .rw[ay (bi e (g2 a qh).2)];exact A1.gh b o e
  .cases h
 .cases h⟩
noncomputable def fM (c f:ai) (i:ak) (y:Fld):FS:=fun ρ=>match ρ[i]? with
 |some (aa (.fo s c' fs))=>if c'=c/\fs.lookup f=af/\fs.length<100 then aa (.nx,ρ.set i (aa (.fo s c (fs++[(f,y)])))) else af
 |_=>af
theorem kQ (i:ak) (hc:CF Γ X.K cl attrs) (hf:fl∈attrs) (hN:X.N[i]?=aa x:=by rfl) (hv:Vis X.env.scope x:=by ac_nf) (hd:.(o)=ar:=by decide)
  (hcd:.(C)=ar:=by decide) (hs:dh (.Dict [] [] dp) (aa (.Attribute .(x) fl pos')) pos.line X.env=aT ar:=by rfl):DS Γ X (.Assign [.Attribute .(x) fl pos'] (.Dict [] [] dp) pos) (fM cl fl i (.k [])):=⟨(oK .(aB) tE hs).imp fun E σ H=>by
 rintro⟨G₀,H₀,G,ρ,flw,ρ',A,h,k⟩ p hp;unfold fM at h;split at h
 .rename_i sb c' fs hi;split at h
  .rename_i hz;obtain⟨rfl,hz2,hz3⟩:=hz;cases h;obtain⟨C,q1,q2,q3⟩:=hc.ex;obtain⟨w,fp,h1,h2⟩:=A.get hi;have ht:=h2.fpt;cases h2 with
   |fo gs g1 g2 g3 g4 g5 g6=>
    rename_i a C' dx vs ps;have g1':=g1;rw[q1] at g1;cases g1;have hl:=FldsR.none g5 hz2;have hlen:vs.length=fs.length:=by simpa using bO cI g5
    have nd:=cU.mp g3;have npa:a≠p:=bi g4 hp;have nps:∀b∈a::ps,b≠p:=fun b hb=>by obtain⟨_,_,o,e,_⟩:=ht b hb;exact bi e hp
    have hp0:H₀ p=af:=A.st.hh.free hp;have hpg:G p=af:=A.gh.free hp;refine⟨_,h1,a,C,dx,vs,rfl,by rw[ay npa];exact g4,q2,q3 fl hf,by omega,?_⟩;rw[oI hl];have g6':FldsR Γ X.K G (upd (upd H p (.dK [])) a (.ins C dx (vs++[(fl,.ref p)]))) ((vs++[(fl,V.ref p)]).map (·.2)) ((fs++[(fl,Fld.k [])]).map (·.2)) (ps++[p]):=by rw[dF,dF];refine(g6.stay (.refl _) fun b hb=>?_).app (.cons (p:=[p]) (ps:=[]) (.k (us:=[]) (by rw[ay npa.symm,aV]) rfl .nil) .nil);rw[ay fun z=>nd.1 (by rw[←z];exact hb),ay (nps b (qi _ hb))]
    refine k σ G _ (.refl _) (A.ch hi h1 (.fo gs g1' g2 g3 g4 g5 g6) (fun b o e hb=>?_) (.fo (ps:=ps++[p]) gs g1' (fun b hb=>?_) ?_ aV (by simp[g5]) g6') (fun b hb=>?_) (.refl _) .(am) .(ad))
    .rw[ay .(bI),ay (bi e hp)];exact e
    .rw[←qq] at hb;rcases cT.mp hb with hb|hb
     .exact g2 b hb
     .rw[bD.mp hb];exact⟨hp0,hpg⟩
    .rw[←qq];exact iJ.mpr ⟨g3,cU.mpr ⟨.(L),jr⟩,fun b hb c hc=>by rw[bD.mp hc];exact nps b hb⟩
    .rw[←qq] at hb;rcases cT.mp hb with hb|hb
     .exact .inl hb
     .rw[bD.mp hb];exact .inr hp
    .rw[ay (bi e (g2 a qh).2),ay (bi e hpg)];exact A.gh b o e
  .cases h
 .cases h⟩
end
section
variable {fv:FE} {fl cl:ai}
theorem Ja (i:ak) (hc:CF Γ X.K cl attrs) (hf:fl∈attrs) (hN:X.N[i]?=aa x:=by rfl) (hv:Vis X.env.scope x:=by ac_nf) (hd:.(o)=ar:=by decide)
  (hcd:.(C)=ar:=by decide) (hs:dh (.Dict [] [] dp) (aa (.Attribute .(x) fl pos')) pos.line X.env=aT ar:=by rfl):DS Γ X (.Assign [.Attribute .(x) fl pos'] (.Dict [] [] dp) pos) (fM cl fl i (.t [])):=⟨(oK .(aB) AO hs).imp fun E σ H=>by
 rintro⟨G₀,H₀,G,ρ,flw,ρ',A,h,k⟩ p hp;unfold fM at h;split at h
 .rename_i sb c' fs hi;split at h
  .rename_i hz;obtain⟨rfl,hz2,hz3⟩:=hz;cases h;obtain⟨C,q1,q2,q3⟩:=hc.ex;obtain⟨w,fp,h1,h2⟩:=A.get hi;have ht:=h2.fpt;cases h2 with
   |fo gs g1 g2 g3 g4 g5 g6=>
    rename_i a C' dx vs ps;have g1':=g1;rw[q1] at g1;cases g1;have hl:=FldsR.none g5 hz2;have hlen:vs.length=fs.length:=by simpa using bO cI g5
    have nd:=cU.mp g3;have npa:a≠p:=bi g4 hp;have nps:∀b∈a::ps,b≠p:=fun b hb=>by obtain⟨_,_,o,e,_⟩:=ht b hb;exact bi e hp
    have hp0:H₀ p=af:=A.st.hh.free hp;have hpg:G p=af:=A.gh.free hp;refine⟨_,h1,a,C,dx,vs,rfl,by rw[ay npa];exact g4,q2,q3 fl hf,by omega,?_⟩;rw[oI hl];have g6':FldsR Γ X.K G (upd (upd H p (.dT [])) a (.ins C dx (vs++[(fl,.ref p)]))) ((vs++[(fl,V.ref p)]).map (·.2)) ((fs++[(fl,Fld.t [])]).map (·.2)) (ps++[p]):=by rw[dF,dF];refine(g6.stay (.refl _) fun b hb=>?_).app (.cons (p:=[p]) (ps:=[]) (.t (us:=[]) (by rw[ay npa.symm,aV]) rfl .nil) .nil);rw[ay fun z=>nd.1 (by rw[←z];exact hb),ay (nps b (qi _ hb))]
    refine k σ G _ (.refl _) (A.ch hi h1 (.fo gs g1' g2 g3 g4 g5 g6) (fun b o e hb=>?_) (.fo (ps:=ps++[p]) gs g1' (fun b hb=>?_) ?_ aV (by simp[g5]) g6') (fun b hb=>?_) (.refl _) .(am) .(ad))
    .rw[ay .(bI),ay (bi e hp)];exact e
    .rw[←qq] at hb;rcases cT.mp hb with hb|hb
     .exact g2 b hb
     .rw[bD.mp hb];exact⟨hp0,hpg⟩
    .rw[←qq];exact iJ.mpr ⟨g3,cU.mpr ⟨.(L),jr⟩,fun b hb c hc=>by rw[bD.mp hc];exact nps b hb⟩
    .rw[←qq] at hb;rcases cT.mp hb with hb|hb
     .exact .inl hb
     .rw[bD.mp hb];exact .inr hp
    .rw[ay (bi e (g2 a qh).2),ay (bi e hpg)];exact A.gh b o e
  .cases h
 .cases h⟩
noncomputable def io (c f:ai) (i:ak) (fk fv:FE):FS:=fun ρ=>(fv ρ).bind fun d=>(fk ρ).bind fun kd=>match ρ[i]? with
 |some (aa (.fo s c' fs))=>if c'=c then match fs.lookup f with
  |some (.k kvs)=>(f8 kd).bind fun k=>if kvs.length<100000 then aa (.nx,ρ.set i (aa (.fo s c (f9 f (.k (bQ kvs k d)) fs)))) else af
  |some (.t kvs)=>match kd with
   |.tup t=>(eC t).bind fun ks=>if kvs.length<100000 then aa (.nx,ρ.set i (aa (.fo s c (f9 f (.t (bQ kvs ks d)) fs)))) else af
   |_=>af
  |_=>af else af
 |_=>af
theorem mm (i:ak) (hu:X.A.units+66<bY) (hc:CF Γ X.K cl attrs) (hf:fl∈attrs) (hk:DE Γ X ke fk) (hv':DE Γ X value fv) (hN:X.N[i]?=aa x:=by rfl) (hv:Vis X.env.scope x:=by ac_nf) (hd:.(o)=ar:=by decide)
  (hcd:.(C)=ar:=by decide) (hb:gG .(x) fl X.env (eval .(x) X.env)=eval .(x) X.env:=by rfl) (hs:dh value (aa (.Subscript (.Attribute .(x) fl ap) ke pos')) pos.line X.env=aT ar:=by rfl) :
  DS Γ X (.Assign [.Subscript (.Attribute .(x) fl ap) ke pos'] value pos) (io cl fl i fk fv):=⟨(rP .(b) (tL .(aB) hb) hk.1 hv'.1 hs).imp fun E σ H=>by
 rintro⟨G₀,H₀,G,ρ,flw,ρ',A,h,k⟩;unfold io at h;obtain⟨d,hd,ha⟩:=oBd h;clear h;obtain⟨kd,hkd,hq⟩:=oBd ha;clear ha;split at hq
 .rename_i sb c' fs hi;split at hq
  .rename_i hz;subst hz;obtain⟨C,q1,q2,q3⟩:=hc.ex;refine⟨G₀,H₀,G,ρ,d,A,hd,fun v G1 H1 s1 r1=>?_⟩;have A1:=A.step s1;obtain⟨w,fp,h1,h2⟩:=A1.get hi;cases h2 with
   |fo gs g1 g2 g3 g4 g5 g6=>
    rename_i a C' dx vs ps;have g1':=g1;rw[q1] at g1;cases g1;have nd:=cU.mp g3;split at hq
    .rename_i kvs hl;obtain⟨kk,hkk,hq⟩:=oBd hq;split at hq
     .rename_i hz;cases hq;obtain⟨p0,_,b1,_⟩:=FldsR.putK g5 g6 hl;refine⟨_,h1,a,C,dx,_,.ref p0,rfl,g4,q2,q3 fl hf,b1,G₀,H₀,G1,ρ,kd,A1,hkd,fun u G2 H2 s2 r2=>?_⟩;have A2:=A1.step s2;have eu:=kA r2 hkk;subst eu;have hg:∀b∈a::ps,H₀ b=af/\G2 b=af:=fun b hb=>by
       rcases bZ.mp hb with rfl|hb'
       .exact⟨(g2 _ hb).1,(s2.out _ _ g4 rfl).trans (g2 _ hb).2⟩
       .obtain⟨o,e,ek⟩:=g6.mem b hb';exact⟨(g2 _ hb).1,(s2.out _ _ e ek).trans (g2 _ hb).2⟩
      have ha2:H2 a=aa (.ins C dx vs):=s2.hh _ _ g4;have g62:FldsR Γ X.K G2 H2 (vs.map (·.2)) (fs.map (·.2)) ps:=g6.stay s2.gg fun b hb=>by obtain⟨o,e,ek⟩:=g6.mem b hb;rw[e];exact s2.hh _ _ e
      obtain⟨p,us,c1,c2,c3,c4,c5,c6⟩:=FldsR.putK g5 g62 hl;rw[b1] at c1;cases c1;have hlen:us.length=kvs.length:=by simpa using bO cI c4
      obtain⟨w1,w2⟩:=lN (k:=kk) (r1.mono s2.gg) c4 c5;have npa:a≠p0:=fun z=>nd.1 (by rw[z];exact c2);refine⟨p0,_,rfl,gP.k c3 (by have:=eV;omega),?_⟩;refine k σ G2 _ (s1.gg.trans s2.gg) (A2.ch hi h1 (.fo gs g1' hg g3 ha2 g5 g62) (fun b o e hb=>?_) (.fo gs g1' hg g3 (by rw[ay npa];exact ha2) (by rw[Cm];exact g5) (c6 nd.2 w1 w2)) (fun b hb=>.inl hb) (.refl _) .(am) .(ad))
      .rw[ay (fun z=>hb (by rw[z];exact qi _ c2))];exact e
      .rw[ay (bi e (hg p0 (qi _ c2)).2)];exact A2.gh b o e
     .cases hq
    .rename_i kvs hl;split at hq
     .rename_i t;obtain⟨ks,hks,hq⟩:=oBd hq;split at hq
      .rename_i hz;cases hq;obtain⟨p0,_,b1,_⟩:=FldsR.putT g5 g6 hl;refine⟨_,h1,a,C,dx,_,.ref p0,rfl,g4,q2,q3 fl hf,b1,G₀,H₀,G1,ρ,_,A1,hkd,fun u G2 H2 s2 r2=>?_⟩;have A2:=A1.step s2;obtain⟨bb,us0,rfl,hb0,rb⟩:=r2.tup_inv;have ev:=jO rb hks;subst ev;have hg:∀b∈a::ps,H₀ b=af/\G2 b=af:=fun b hb=>by
        rcases bZ.mp hb with rfl|hb'
        .exact⟨(g2 _ hb).1,(s2.out _ _ g4 rfl).trans (g2 _ hb).2⟩
        .obtain⟨o,e,ek⟩:=g6.mem b hb';exact⟨(g2 _ hb).1,(s2.out _ _ e ek).trans (g2 _ hb).2⟩
       have ha2:H2 a=aa (.ins C dx vs):=s2.hh _ _ g4;have g62:FldsR Γ X.K G2 H2 (vs.map (·.2)) (fs.map (·.2)) ps:=g6.stay s2.gg fun b hb=>by obtain⟨o,e,ek⟩:=g6.mem b hb;rw[e];exact s2.hh _ _ e
       obtain⟨p,us,c1,c2,c3,c4,c5,c6⟩:=FldsR.putT g5 g62 hl;rw[b1] at c1;cases c1;have hlen:us.length=kvs.length:=by simpa using bO cI c4
       obtain⟨w1,w2⟩:=lN (k:=ks) (r1.mono s2.gg) c4 c5;have npa:a≠p0:=fun z=>nd.1 (by rw[z];exact c2);refine⟨p0,_,rfl,gP.t c3 (s2.gh _ _ hb0) (by have:=eV;omega),?_⟩;refine k σ G2 _ (s1.gg.trans s2.gg) (A2.ch hi h1 (.fo gs g1' hg g3 ha2 g5 g62) (fun b o e hb=>?_) (.fo gs g1' hg g3 (by rw[ay npa];exact ha2) (by rw[Cm];exact g5) (c6 nd.2 w1 w2)) (fun b hb=>.inl hb) (.refl _) .(am) .(ad))
       .rw[ay (fun z=>hb (by rw[z];exact qi _ c2))];exact e
       .rw[ay (bi e (hg p0 (qi _ c2)).2)];exact A2.gh b o e
      .cases hq
     .cases hq
    .cases hq
  .cases hq
 .cases hq⟩
end
noncomputable abbrev Fo:=ac (ai×Fld)
structure UPost (Γ:Cn) (K:aM) (c:ai) (G H G' H':Hp) (fp:ac au) (a:au) (fs:Fo):Prop where
 hH:∀b o,H b=aa o->b∉fp->H' b=aa o
 gg:aQ G G'
 gh:aQ G' H'
 out:∀b o,H b=aa o->b∉fp->kyT o=ar->G' b=G b
 ob:∃C dx vs ps,Γ.cls c=aa C/\(∀b∈a::ps,G' b=af)/\(a::ps).Nodup/\H' a=aa (.ins C dx vs)/\vs.map (·.1)=fs.map (·.1)/\FldsR Γ K G' H' (vs.map (·.2)) (fs.map (·.2)) ps/\∀b∈a::ps,b∈fp\/H b=af
inductive spU (Γ:Cn) (K:aM) (c:ai) (n:ak) (F:Fo->ac D->aq (D×Fo)) (vs:ac V) (H:Hp) (Q:VK) (_e3:XK):Prop where
 |mk:∀a C dx us ps fs ws G ds d fs',vs=.ref a::ws->Γ.cls c=aa C->aQ G H->(∀b∈a::ps,G b=af)->(a::ps).Nodup->H a=aa (.ins C dx us)->us.map (·.1)=fs.map (·.1)->FldsR Γ K G H (us.map (·.2)) (fs.map (·.2)) ps->Reps Γ K G ws ds->ds.length=n->F fs ds=aa (d,fs')->(∀v G' H',UPost Γ K c G H G' H' (a::ps) a fs'->Rep Γ K G' v d->Q v H')->spU Γ K c n F vs H Q _e3
noncomputable def lF (n:ak) (c:ai) (g:FS):Fo->ac D->aq (D×Fo):=fun fs ds=>(g (aa (.fo ah c fs)::(ds.map .(N)++bJ n af))).bind fun(r:Fl×bA)=>match r.2[0]? with
 |some (aa (Slot.fo ah c' fs'))=>if c'=c then match r.1 with
  |.rt d=>aa (d,fs')
  |.nx=>aa (.non,fs')
  |_=>af else af
 |_=>af
theorem FldR.re {Γ Γ':Cn} {K:aM} {G H:Hp} (hc:Γ'.cls=Γ.cls) {v:V} {f:Fld} {p:ac au} (r:FldR Γ K G H v f p):FldR Γ' K G H v f p:=by
 cases r with
 |d h=>exact .d (h.re hc)
 |k a b c=>exact .k a b (c.re hc)
 |t a b c=>exact .t a b (c.re hc)
theorem FldsR.re {Γ Γ':Cn} {K:aM} {G H:Hp} (hc:Γ'.cls=Γ.cls):∀{vs:ac V} {fs:ac Fld} {ps:ac au},FldsR Γ K G H vs fs ps->FldsR Γ' K G H vs fs ps
 |_,[],_,r=>by cases r;exact .nil
 |_,_::_,_,r=>by obtain _|⟨r,t⟩:=r;exact .cons (r.re hc) (t.re hc)
theorem FldsR.to1 {fs:ac Fld} {ps:ac au} (x:au) (r:FldsR Γ K G H vs fs ps):FldsR (Γ.mk1 x) K G H vs fs ps:=FldsR.re (Γ:=Γ) (Γ':=Γ.mk1 x) rfl r
theorem FldsR.of1 {fs:ac Fld} {ps:ac au} {x:au} (r:FldsR (Γ.mk1 x) K G H vs fs ps):FldsR Γ K G H vs fs ps:=FldsR.re (Γ:=Γ.mk1 x) (Γ':=Γ) rfl r
theorem Ab {m:ak} :eK (ds.map .(N)++bJ m af):=fun i es e=>by
 by_cases hi:i<ds.length
 .rw[qA .(bu),ql] at e;obtain⟨d,_,e⟩:=oMd e;cases e;exact⟨_,rfl⟩
 .rw[qM .(bu),uO] at e;split at e<;>cases e
theorem Hb {us:ac (ai×V)} {ps:ac au} {fs:Fo} {m:ak} (gh:aQ G H) (hc:Γ.cls c=aa C) (hg:∀b∈a::ps,G b=af) (nd:(a::ps).Nodup) (ha:H a=aa (.ins C dx us)) (hk:us.map (·.1)=fs.map (·.1)) (hf:FldsR Γ K G H (us.map (·.2)) (fs.map (·.2)) ps) (r:Reps Γ K G ws ds) (hm:m=N.length-(ws.length+1)) :
  At (Γ.mk1 a) K G (e6 (a::ps) H) G H (aa (.fo ah c fs)::(ds.map .(N)++bJ m af)) (dw N (.ref a::ws)):=by
 have gl:aQ G (e6 (a::ps) H):=fun b o e=>by rw[jC fun z=>by rw[hg b z] at e;cases e];exact gh b o e
 have B:=sd (N:=N.tail) (m:=m) gl r (by rw[zC];omega);have es:dw N (.ref a::ws)=aa (.ref a)::dw N.tail ws:=by
  unfold dw;rw[qo,qq,qj,zC]
  congr 3
  omega
 have lh:aQ (e6 (a::ps) H) H:=fun b o e=>by
  replace e:(if b∈a::ps then af else H b)=aa o:=e
  split at e
  .cases e
  .exact e
 refine⟨⟨lh,.refl _,gh,fun _ _ _ _=>rfl⟩,by rw[es,qj,qj,B.env.len],fun|0=>a::ps|_+1=>[],fun j s e=>?_,fun j k s t hjk e1 e2=>?_⟩
 .rw[es];cases j with
  |zero=>cases e;exact⟨_,rfl,.fo (fun _=>rfl) hc (fun b hb=>⟨qY hb,hg b hb⟩) nd ha hk (hf.to1 a)⟩
  |succ j=>
   obtain⟨d,rfl⟩:=Ab j s e;obtain⟨v,h1,h2⟩:=B.env.sh j d e;exact⟨v,h1,.sh (h2.to1 a)⟩
 .cases j with
  |zero=>
   cases k with
   |zero=>exact bu rfl hjk
   |succ k=>intro b _ hb;cases hb
  |succ j=>intro b hb;cases hb
theorem Fun.okU {f:au} {k:ak} (F:Fun K x qual st f fd) (S:FnScope N (s0::ps) (aB st))
  (hbody:∀(y:au) (cdv:av) (A:cv) (outer:ac ci) (s:aE) (H:Hp) (E:XK),Room k .(j)->
   DSs (Γ.mk1 y) .(g).nox (bR st) g):FnOk P w K mg base CX0 (k+1) f fd (s0::ps) (spU Γ K c ps.length (lF .(ak) c g)):=by
 refine F.ok S (fun vs H Q E h=>?_) (fun cdv A outer s H vs Q E hr h=>?_)
 .obtain⟨a,C,dx,us,qs,fs,ws,G,ds,d,fs',rfl,_,_,_,_,_,_,_,r,hl,_⟩:=h;rw[qj,qj,r.length,hl]
 .obtain⟨a,C,dx,us,qs,fs,ws,G,ds,d,fs',rfl,hc,gh,hg,nd,ha,hk,hf,r,hl,hd,k⟩:=h;refine⟨_,(hbody a cdv A outer s H E hr).1,?_⟩;unfold lF at hd;obtain⟨⟨fl,ρ'⟩,hb,hq⟩:=oBd hd;clear hd;refine⟨G,e6 (a::qs) H,G,_,fl,ρ',Hb gh hc hg nd ha hk hf r (by rw[r.length,hl]),hb,fun σ' G' H' sm A'=>?_⟩;have post:∀fs',ρ'[0]?=aa (aa (.fo ah c fs'))->UPost Γ K c G H G' H' (a::qs) a fs':=fun fs' e0=>by
   obtain⟨v,fp,e1,e2⟩:=A'.get e0;refine⟨fun b o e hb=>A'.st.hh b o (by rw[jC hb];exact e),A'.st.gg,A'.st.gh,fun b o e hb=>A'.st.out b o (by rw[jC hb];exact e),?_⟩;cases e2 with
   |fo gs g1 g2 g3 g4 g5 g6=>
    have ea:=gs rfl;cases ea;refine⟨_,_,_,_,g1,fun b hb=>(g2 b hb).2,g3,g4,g5,g6.of1,fun b hb=>?_⟩;have h0:(if b∈a::qs then af else H b)=af:=(g2 b hb).1;split at h0
    .exact .inl (by assumption)
    .exact .inr h0
  split at hq
  .rename_i c' fs1 e0;split at hq
   .rename_i hz;subst hz;cases fl with
    |rt d1=>cases hq;exact fun v rv=>k v G' H' (post _ e0) (Rep.of1 rv)
    |nx=>cases hq;exact k .non G' H' (post _ e0) .non
    |_=>cases hq
   .cases hq
  .cases hq
structure CalMU (Γ:Cn) (P:dy) (w:cA) (K:aM) (mg:ai->aq av) (base:Heap) (c m:ai) (n k:ak) (F:Fo->ac D->aq (D×Fo)):Prop where
 ex:∃C f fd ps,Γ.cls c=aa C/\Cls K C/\Meth K C m f/\FnOk P w K mg base CX0 k f fd ps (spU Γ K c n F)/\dU K fd ps []
theorem R3 {F:Fo->ac D->aq (D×Fo)} {Q:VK} {E:XK} (y:au) (h:spU (Γ.mk1 y) K c n F vs H Q E):spU Γ K c n F vs H Q E:=by obtain⟨a,C,dx,us,ps,fs,ws,G,ds,d,fs',h0,h1,h2,h3,h4,h5,h6,h7,h8,h9,h10,k⟩:=h;refine⟨a,C,dx,us,ps,fs,ws,G,ds,d,fs',h0,h1,h2,h3,h4,h5,h6,h7.of1,h8.of1,h9,h10,fun v G' H' u r=>k v G' H' ⟨u.hH,u.gg,u.gh,u.out,?_⟩ (r.to1 y)⟩;obtain⟨C,dx,vs,ps,b1,b2,b3,b4,b5,b6,b7⟩:=u.ob;exact⟨C,dx,vs,ps,b1,b2,b3,b4,b5,b6.to1 y,b7⟩
theorem CalMU.re {k:ak} {F:Fo->ac D->aq (D×Fo)} (C:CalMU Γ P w K mg base c m n k F) (y:au):CalMU (Γ.mk1 y) P w K mg base c m n k F:=by obtain⟨C,f,fd,ps,h0,h1,h2,h3,h4⟩:=C.ex;exact⟨C,f,fd,ps,h0,h1,h2,h3.imp fun vs H Q E q=>R3 y q,h4⟩
theorem DfnM.calU {k:ak} (O:ClsOk Γ K mg c C) (F:DfnM K C c m qual st) (S:FnScope N (s0::ps) (aB st))
  (hb:∀(kV doc pm:av) (an:aq au) (cdv ct:av) (us:ac av),us.length=(s0::ps).length->dQ .(aP) ⟨us,[]⟩=aT ((s0::ps).zip us))
  (hbody:∀(f y:au) (cdv:av) (A:cv) (outer:ac ci) (s:aE) (H:Hp) (E:XK),Room k .(j)->
   DSs (Γ.mk1 y) .(g).nox (bR st) g):CalMU Γ P w K mg base c m ps.length (k+1) (lF .(ak) c g):=by
 obtain⟨f,fd,h1,h2,h3⟩:=F.ex;exact⟨C,f,fd,s0::ps,O.cn,O.cl,⟨h2,h3,h1.kp⟩,h1.okU S (hbody f),h1.binds hb⟩
variable {fs':Fo}
section
variable {sb:aN} {fs:Fo}
theorem At.upost (A:At Γ K G₀ H₀ G H ρ σ) {vs:ac (ai×V)} {ps:ac au} (hi:ρ[i]?=aa (aa (.fo sb c fs))) (hv:σ[i]?=aa (aa (.ref a))) (gs:sb=ah->Γ.self=aa a) (g1:Γ.cls c=aa C) (g2:∀b∈a::ps,H₀ b=af/\G b=af) (g3:(a::ps).Nodup) (g4:H a=aa (.ins C dx vs)) (g5:vs.map (·.1)=fs.map (·.1)) (g6:FldsR Γ K G H (vs.map (·.2)) (fs.map (·.2)) ps)
  (u:UPost Γ K c G H G' H' (a::ps) a fs'):At Γ K G₀ H₀ G' H' (ρ.set i (aa (.fo sb c fs'))) σ:=by
 obtain⟨C',dx',vs',ps',b1,b2,b3,b4,b5,b6,b7⟩:=u.ob;refine A.ch hi hv (.fo gs g1 g2 g3 g4 g5 g6) u.hH (.fo gs b1 (fun b hb=>⟨?_,b2 b hb⟩) b3 b4 b5 b6) b7 u.gg u.gh u.out;rcases b7 b hb with z|z
 .exact(g2 b z).1
 .exact A.st.hh.free z
end
section
variable {y:ai}
noncomputable def kz (c m:ai) (i:ak) (F:Fo->ac D->aq (D×Fo)) (fr:FA):FS:=fun ρ=>match ρ[i]? with
 |some (aa (.fo s c' fs))=>if c'=c/\fs.lookup m=af then (fr ρ).bind fun ds=>(F fs ds).bind fun z=>aa (.nx,ρ.set i (aa (.fo s c z.2))) else af
 |_=>af
theorem sE {k:ak} (i:ak) {F:Fo->ac D->aq (D×Fo)} (C:CalMU Γ X.prog X.w X.K X.mg X.base c m n k F) (hr:Room j X.A) (hk:k<=j) (ha:DA Γ X (e::es) fr) (hn:∀ρ ds,fr ρ=aa ds->ds.length=n) (hN:X.N[i]?=aa x:=by rfl) (hv:Vis X.env.scope x:=by ac_nf) (hd:.(o)=ar:=by decide) (hcd:.(C)=ar:=by decide)
  (hst:aH (e::es) X.env=(ar,eval e X.env)::aH es X.env:=by rfl) (hpl:.(af).any (·.1)=ar:=by rfl)
  (ht:eval (.Call (.Attribute .(x) m apos) (e::es) [] pos) X.env=(do
   let ov ←eval .(x) X.env
   jh apos.atName
   let (f,first) ←fm [ov] (lg ov m pl)
   nX pos f first (bF pos (aH (e::es) X.env)) (dR pos (dS [] X.env))):=by rfl)
  (hs:dh (.Call (.Attribute .(x) m apos) (e::es) [] pos) af pos'.line X.env=aT ar:=by rfl) :
  DS Γ X (.Expr (.Call (.Attribute .(x) m apos) (e::es) [] pos) pos') (kz c m i F fr):=⟨by
 obtain⟨Ca,f,fd,ps,h0,h1,h2,h3,h4⟩:=C.ex;refine(oz (v6 .(aB) h1 h2 h3 (hr.mono hk) h4 .nil jz ha.1 hst hpl ht) hs).imp fun E σ H=>?_;rintro⟨G₀,H₀,G,ρ,fl,ρ',A,h,k⟩;unfold kz at h;split at h
 .rename_i sb c' fs hi;split at h
  .rename_i hz;obtain⟨rfl,hz2⟩:=hz;obtain⟨ds,hds,h⟩:=oBd h;obtain⟨⟨d,fs'⟩,hF,h⟩:=oBd h;cases h;obtain⟨w,fp,q1,q2⟩:=A.get hi;cases q2 with
   |fo gs g1 g2 g3 g4 g5 g6=>
    rename_i a C' dx vs qs;have g1':=g1;rw[h0] at g1;cases g1;refine⟨_,q1,a,dx,vs,rfl,g4,FldsR.none g5 hz2,G₀,H₀,G,ρ,ds,A,hds,fun ws G2 H2 s2 r2=>?_⟩;have A2:=A.step s2;show spU Γ X.K c' n F (_::(ws++[])) H2 _ E0;rw[gH];have hg:∀b∈a::qs,H₀ b=af/\G2 b=af:=fun b hb=>by
     rcases bZ.mp hb with rfl|hb'
     .exact⟨(g2 _ hb).1,(s2.out _ _ g4 rfl).trans (g2 _ hb).2⟩
     .obtain⟨o,e,ek⟩:=g6.mem b hb';exact⟨(g2 _ hb).1,(s2.out _ _ e ek).trans (g2 _ hb).2⟩
    have ha2:H2 a=aa (.ins Ca dx vs):=s2.hh _ _ g4;have g62:FldsR Γ X.K G2 H2 (vs.map (·.2)) (fs.map (·.2)) qs:=g6.stay s2.gg fun b hb=>by obtain⟨o,e,ek⟩:=g6.mem b hb;rw[e];exact s2.hh _ _ e
    exact⟨a,Ca,dx,vs,qs,fs,ws,G2,ds,d,fs',rfl,g1',s2.gh,fun b hb=>(hg b hb).2,g3,ha2,g5,g62,r2,hn ρ ds hds,hF,fun v G' H' u r=>k σ G' H' (s2.gg.trans u.gg) (A2.upost hi q1 gs g1' hg g3 ha2 g5 g62 u)⟩
  .cases h
 .cases h⟩
end
structure MPost (Γ:Cn) (K:aM) (c:ai) (G H G' H':Hp) (x:au) (fs:Fo):Prop where
 hh:aQ H H'
 gg:aQ G G'
 gh:aQ G' H'
 out:∀b o,H b=aa o->kyT o=ar->G' b=G b
 ob:∃C dx vs ps,Γ.cls c=aa C/\(∀b∈x::ps,H b=af/\G' b=af)/\(x::ps).Nodup/\H' x=aa (.ins C dx vs)/\vs.map (·.1)=fs.map (·.1)/\FldsR Γ K G' H' (vs.map (·.2)) (fs.map (·.2)) ps
inductive spIU (Γ:Cn) (K:aM) (C:au) (c:ai) (n:ak) (F:ac D->aq Fo) (vs:ac V) (H:Hp) (Q:VK) (_e3:XK):Prop where
 |mk:∀x dx H1 G ds fs us,vs=.ref x::us->H=upd (upd H1 dx (.own x)) x (.ins C dx [])->H1 x=af->H1 dx=af->dx≠x->aQ G H1->Reps Γ K G us ds->ds.length=n->F ds=aa fs->(∀G' H',MPost Γ K c G H1 G' H' x fs->Q .non H')->spIU Γ K C c n F vs H Q _e3
noncomputable def fY (n:ak) (c:ai) (g:FS):ac D->aq Fo:=fun ds=>(g (aa (.fo ah c [])::(ds.map .(N)++bJ n af))).bind fun(r:Fl×bA)=>match r.1 with
 |.nx=>match r.2[0]? with
  |some (aa (Slot.fo ah c' fs))=>if c'=c then aa fs else af
  |_=>af
 |_=>af
theorem MU {x:au} {us:ac V} {m:ak} (gh:aQ G H1) (hc:Γ.cls c=aa C) (hx:H1 x=af) (hdx:H1 dx=af) (r:Reps Γ K G us ds) (hm:m=N.length-(us.length+1)) :
  At (Γ.mk1 x) K G H1 G (upd (upd H1 dx (.own x)) x (.ins C dx [])) (aa (.fo ah c [])::(ds.map .(N)++bJ m af)) (dw N (.ref x::us)):=by
 have B:=sd (N:=N.tail) (m:=m) gh r (by rw[zC];omega);have es:dw N (.ref x::us)=aa (.ref x)::dw N.tail us:=by
  unfold dw;rw[qo,qq,qj,zC]
  congr 3
  omega
 have lh:aQ H1 (upd (upd H1 dx (.own x)) x (.ins C dx [])):=fun b o e=>by rw[ay (bi e hx),ay (bi e hdx)];exact e
 refine⟨⟨lh,.refl _,gh.trans lh,fun _ _ _ _=>rfl⟩,by rw[es,qj,qj,B.env.len],fun|0=>[x]|_+1=>[],fun j s e=>?_,fun j k s t hjk e1 e2=>?_⟩
 .rw[es];cases j with
  |zero=>cases e;exact⟨_,rfl,.fo (ps:=[]) (fun _=>rfl) hc (fun b hb=>by rw[bD.mp hb];exact⟨hx,gh.free hx⟩) (cU.mpr ⟨.(L),jr⟩) aV rfl .nil⟩
  |succ j=>
   obtain⟨d,rfl⟩:=Ab j s e;obtain⟨v,h1,h2⟩:=B.env.sh j d e;exact⟨v,h1,.sh (h2.to1 x)⟩
 .cases j with
  |zero=>
   cases k with
   |zero=>exact bu rfl hjk
   |succ k=>intro b _ hb;cases hb
  |succ j=>intro b hb;cases hb
theorem tm {m:ak} {Q:VK} {E:XK} (hm:N.length-(n+1)=m) (hc:Γ.cls c=aa C) (h:spIU Γ K C c n (fY m c g) vs H Q E):∃y,TDs (Γ.mk1 y) K g {nx:=fun _ H'=>Q .non H',rt:=Q} (dw N vs) H:=by
 obtain⟨y,dx,H1,G,ds,fs,us,rfl,rfl,hy,hdy,_,gh,r,hl,hd,k⟩:=h;refine⟨y,?_⟩;unfold fY at hd;obtain⟨⟨fl,ρ'⟩,hb,hq⟩:=oBd hd;clear hd;refine⟨G,H1,G,_,fl,ρ',MU gh hc hy hdy r (by rw[r.length,hl,hm]),hb,fun σ' G' H' sm A'=>?_⟩;cases fl with
 |nx=>
  show Q .non H'
  replace hq:(match ρ'[0]? with
   |some (aa (Slot.fo ah c' fs))=>if c'=c then aa fs else af
   |_=>af)=aa fs:=hq
  split at hq
  .rename_i c' fs1 e0;split at hq
   .rename_i hz;subst hz;cases hq;obtain⟨v,fp,e1,e2⟩:=A'.get e0;cases e2 with
    |fo gs g1 g2 g3 g4 g5 g6=>
     have ea:=gs rfl;cases ea;exact k G' H' ⟨A'.st.hh,A'.st.gg,A'.st.gh,A'.st.out,_,_,_,_,g1,g2,g3,g4,g5,g6.of1⟩
   .cases hq
  .cases hq
 |_=>cases hq
theorem se {F:ac D->aq Fo} {Q:VK} {E:XK} (h:spIU Γ K C c n F vs H Q E):vs.length=n+1:=by obtain⟨y,dx,H1,G,ds,fs,us,rfl,_,_,_,_,_,r,hl,_⟩:=h;rw[qj,r.length,hl]
theorem Fun.okIU {f:au} {k:ak} (F:Fun K x qual st f fd) (S:FnScope N (s0::ps) (aB st)) (hc:Γ.cls c=aa C)
  (hbody:∀(y:au) (cdv:av) (A:cv) (outer:ac ci) (s:aE) (H:Hp) (E:XK),Room k .(j)->
   DSs (Γ.mk1 y) .(g).nox (bR st) g):FnOk P w K mg base CX0 (k+1) f fd (s0::ps) (spIU Γ K C c ps.length (fY .(ak) c g)):=
 F.ok S (fun vs H Q E h=>se h) fun cdv A outer s H vs Q E hr h=>by obtain⟨y,q⟩:=tm (N:=N) rfl hc h;exact⟨_,(hbody y cdv A outer s H E hr).1,q⟩
structure CalIU (Γ:Cn) (P:dy) (w:cA) (K:aM) (mg:ai->aq av) (base:Heap) (c:ai) (n k:ak) (dd:ac D) (F:ac D->aq Fo):Prop where
 ex:∃C f fd ps dvs ds,Γ.cls c=aa C/\Mk K C f/\mg c=aa (.ref C)/\FnOk P w K mg base CX0 k f fd ps (spIU Γ K C c n F)/\dU K fd ps ds/\aU dvs ds/\∀G,Reps Γ K G dvs dd
theorem CalIU.re {k:ak} {dd:ac D} {F:ac D->aq Fo} (C:CalIU Γ P w K mg base c n k dd F) (y:au):CalIU (Γ.mk1 y) P w K mg base c n k dd F:=by obtain⟨C,f,fd,ps,dvs,ds,h0,h1,h2,h3,h4,h5,h6⟩:=C.ex;refine⟨C,f,fd,ps,dvs,ds,h0,h1,h2,h3.imp fun vs H Q E q=>?_,h4,h5,fun G=>(h6 G).to1 y⟩;obtain⟨x,dx,H1,G,ds,fs,us,a1,a2,a3,a4,a5,a6,a7,a8,a9,k⟩:=q;refine⟨x,dx,H1,G,ds,fs,us,a1,a2,a3,a4,a5,a6,a7.of1,a8,a9,fun G' H' u=>k G' H' ⟨u.hh,u.gg,u.gh,u.out,?_⟩⟩;obtain⟨C,dx,vs,ps,b1,b2,b3,b4,b5,b6⟩:=u.ob;exact⟨C,dx,vs,ps,b1,b2,b3,b4,b5,b6.to1 y⟩
theorem DfnM.calIU {k:ak} (O:ClsOk Γ K mg c C) (F:DfnM K C c "__init__" qual st) (S:FnScope N (s0::ps) (aB st))
  (hb:∀(kV doc pm:av) (an:aq au) (cdv ct:av) (us:ac av),us.length=(s0::ps).length->dQ (cV "__init__" qual (cW st) (bR st) (aB st) .none kV doc pm an cdv ct) ⟨us,[]⟩=aT ((s0::ps).zip us))
  (hbody:∀(f y:au) (cdv:av) (A:cv) (outer:ac ci) (s:aE) (H:Hp) (E:XK),Room k .(j)->
   DSs (Γ.mk1 y) .(g).nox (bR st) g):CalIU Γ P w K mg base c ps.length (k+1) [] (fY .(ak) c g):=by
 obtain⟨f,fd,h1,h2,h3⟩:=F.ex;exact⟨C,f,fd,s0::ps,[],[],O.cn,⟨O.makes,h2,h3,O.kp⟩,O.mgC,h1.okIU S O.cn (hbody f),h1.binds hb,.nil,fun _=>.nil⟩
section
variable {y:ai} {dd:ac D}
theorem Bb {x:au} {fs:Fo} (gh:aQ G H) (u:MPost Γ K c G H G' H' x fs):∃G2,Step G H G2 H'/\Rep Γ K G2 (.ref x) (foD c fs):=by
 obtain⟨C,dx,vs,ps,b1,b2,b3,b4,b5,b6⟩:=u.ob;have hn:∀b∈x::ps,G' b=af:=fun b hb=>(b2 b hb).2;have sm:=lJ (H:=H') hn;refine⟨jg (x::ps) H' G',⟨u.hh,u.gg.trans sm,fun b o e=>?_,fun b o e ek=>?_⟩,?_⟩
 .replace e:(if b∈x::ps then H' b else G' b)=aa o:=e
  split at e
  .exact e
  .exact u.gh b o e
 .show(if b∈x::ps then H' b else G' b)=_;rw[qZ fun z=>by rw[(b2 b z).1] at e;cases e];exact u.out b o e ek
 .refine .ins (show(if x∈x::ps then H' x else G' x)=_ by rw[qY qh];exact b4) b1 (by rw[b5,qp];rfl) ?_;have:=b6.frz hn fun b hb=>qi _ hb;rw[qp] at this ⊢;exact this
theorem yx {m k l:ak} {F:ac D->aq Fo} (C:CalIU Γ X.prog X.w X.K X.mg X.base c n k dd F) (hr:Room l X.A) (hk:k+1<=l) (hg:Gl X c) (ha:DA Γ X (e::es) fr) (hn:∀ρ ds,fr ρ=aa ds->ds.length=m) (hm:m+dd.length=n)
  (hdb:(c==("__debug__":ai))=ar:=by decide) (he:aH (e::es) X.env=(ar,eval e X.env)::aH es X.env:=by rfl) (hpl:.(af).any (·.1)=ar:=by rfl) :
  DE Γ X (.Call (.Name c p) (e::es) [] pos) (cF (fun ds=>(F (ds++dd)).map (foD c)) fr):=⟨by
 obtain⟨Ca,f,fd,ps,dvs,dsV,h0,h1,h2,h3,h4,h5,h6⟩:=C.ex;refine(Al h1 h3 (hr.mono hk) hg h2 h4 h5 jz ha.1 hdb he hpl).imp fun σ H Q=>?_;rintro⟨G₀,H₀,G,ρ,d,A,h,k⟩;unfold cF at h;obtain⟨ds,hds,h⟩:=oBd h;obtain⟨fs,hF,rfl⟩:=oMd h;refine⟨G₀,H₀,G,ρ,ds,A,hds,fun ws G1 H1 s1 r1 x dx hx hdx ne=>?_⟩;refine⟨x,dx,H1,G1,ds++dd,fs,ws++dvs,rfl,rfl,hx,hdx,ne,s1.gh,r1.append (h6 G1),by rw[qk,hn ρ ds hds,hm],hF,fun G' H' u=>⟨rfl,?_⟩⟩;obtain⟨G2,s2,r2⟩:=Bb s1.gh u;exact k _ G2 H' (s1.trans s2) r2⟩
end
structure FunD (K:aM) (x qual:ai) (st:Stmt) (f:au) (fd:jZ) (items:ac av):Prop where
 ex:∃(oc:av) (od:aq au) (T:au) (kV doc pm:av) (an:aq au) (cdv ct:av) (osl:bI (aq av)) (to:Obj) (n:ak),
  fd=cV x qual (cW st) (bR st) (aB st) (.ref T) kV doc pm an cdv ct/\K.lookup f=aa ⟨oc,od,.func fd,osl⟩/\mI K cdv qual=ah/\K.lookup T=aa to/\to.data=.seq items.toArray n
 kp:fQ K (.ref f)=ah
variable {items:ac av}
theorem FunD.ok {f:au} {k:ak} (F:FunD K x qual st f fd items) (S:FnScope N ps (aB st)) (len:∀vs H Q E,sp vs H Q E->vs.length=ps.length)
  (hbody:∀(cdv:av) (A:cv) (outer:ac ci) (s:aE) (H:Hp) (vs:ac V) (Q:VK) (E:XK),Room k .(j)->sp vs H Q E->
   ∃t,PSs .(g).nox (bR st) t/\t {nx:=fun _ H'=>Q .non H',rt:=Q} (dw N vs) H):FnOk P w K mg base CX0 (k+1) f fd ps sp:=by
 obtain⟨oc,od,T,kV,doc,pm,an,cdv,ct,osl,to,n,rfl,lk,hcd,_⟩:=F.ex;refine B9 lk hcd S len fun A outer s H vs Q E hr hsp=>?_;obtain⟨t,h,q⟩:=hbody cdv A outer s H vs Q E hr hsp;exact⟨t,h.nox,q⟩
theorem FunD.binds {f:au} (F:FunD K x qual st f fd items)
  (h:∀(T:au) (kV doc pm:av) (an:aq au) (cdv ct:av) (us:ac av),(us++items).length=ps.length->∃k,dQ (cV x qual (cW st) (bR st) (aB st) (.ref T) kV doc pm an cdv ct) ⟨us,[]⟩=fR (.ref T) >>= k/\k (aa items.toArray)=aT (ps.zip (us++items))):dU K fd ps items:=by
 obtain⟨oc,od,T,kV,doc,pm,an,cdv,ct,osl,to,n,rfl,lk,hcd,lT,dT⟩:=F.ex;intro s us hin hl;obtain⟨k,h1,h2⟩:=h T kV doc pm an cdv ct us hl;exact .of_defaults (T:=T) rfl (hin T to lT) dT h1 h2
structure DfnMD (K:aM) (C:au) (c m qual:ai) (st:Stmt) (dvs:ac V):Prop where
 ex:∃f fd items,FunD K m qual st f fd items/\aU dvs items/\b8 K (.ref C) m=aa (aa (.ref f))/\nT K (.ref f)=ah
theorem DfnMD.mk' {f T:au} {kV:av} {to:Obj} (a:b8 K (.ref C) m=aa (aa (.ref f))) (i:nT K (.ref f)=ah)
  (l:K.lookup f=aa ⟨oc,od,.func (cV m qual (cW st) (bR st) (aB st) (.ref T) kV doc pm an cdv ct),osl⟩) (cd:mI K cdv qual=ah) (k:fQ K (.ref f)=ah) (lT:K.lookup T=aa to) (dT:to.data=.seq items.toArray n) (v:aU dvs items):DfnMD K C c m qual st dvs:=⟨f,_,items,⟨⟨oc,od,T,kV,doc,pm,an,cdv,ct,osl,to,n,rfl,l,cd,lT,dT⟩,k⟩,v,a,i⟩
theorem DfnMD.calIU {k:ak} {dd:ac D} (O:ClsOk Γ K mg c C) (F:DfnMD K C c "__init__" qual st dvs) (hdd:∀G,Reps Γ K G dvs dd) (S:FnScope N (s0::ps) (aB st))
  (hb:∀(T:au) (kV doc pm:av) (an:aq au) (cdv ct:av) (us items:ac av),us.length+dvs.length=(s0::ps).length->items.length=dvs.length->∃k,dQ .(K) ⟨us,[]⟩=fR (.ref T) >>= k/\k (aa items.toArray)=aT ((s0::ps).zip (us++items)))
  (hbody:∀(f y:au) (cdv:av) (A:cv) (outer:ac ci) (s:aE) (H:Hp) (E:XK),Room k .(j)->
   DSs (Γ.mk1 y) .(g).nox (bR st) g):CalIU Γ P w K mg base c ps.length (k+1) dd (fY .(ak) c g):=by
 obtain⟨f,fd,items,h1,hv,h2,h3⟩:=F.ex;have hl:items.length=dvs.length:=hv.length.symm;refine⟨C,f,fd,s0::ps,dvs,items,O.cn,⟨O.makes,h2,h3,O.kp⟩,O.mgC,h1.ok S (fun vs H Q E h=>se h) fun cdv A outer s H vs Q E hr h=>?_,h1.binds fun T kV doc pm an cdv ct us hu=>hb T kV doc pm an cdv ct us items (by rw[←hl,←qk];exact hu) hl,hv,hdd⟩;obtain⟨y,q⟩:=tm (N:=N) rfl O.cn h;exact⟨_,(hbody f y cdv A outer s H E hr).1,q⟩
section
open PyProof
section
variable {R:li->aE->Prop} {P:ak->av->Prop} {St:ak->Heap->Prop}
theorem M' (W:j6 prog w A.in1 I fp wr n P St) (bt:ak->ak->aN) (kw:ac (ai×av)) (hc:rj prog w A.in1 .Lt P bt) (S:au) (hSf:S∉fp):∀(m j:ak) (s:aE) (u:av) (c:ak),n=j+1+m->
  St (j+1) s.heap->P (cO bt j) u->s.heap.get? S=aa (nK [u,u] c)->
  (∀v h' tk,P (cO bt (j+m)) v->(∀b o,b∉wr->b≠S->s.heap.get? b=aa o->h'.get? b=aa o)->R (.ok (.ret v)) {s with heap:=h',toks:=tk})->fu .(H) A (.builtin "min.loop" ⟨[.ref I,.none,.ref S],kw⟩) R s:=by
 have sw:S∉wr:=fun z=>hSf (W.sub _ z);have nm:(iI "min"++iI ".loop":cE)="min.loop":=by decide
 intro m
 induction m with
 |zero=>
  intro j s u c e st pu so r;refine ib zD (by
   rw[iG lz _];show aC _ A.in1 (fR (.ref S) >>= _) _ _ s;refine qx (ju so rfl ?_);show aC _ A.in1 .(bk) _ _ s;refine qx (jv (W.done s _ _ (by rw[e];exact st) fun h' tk kp=>?_));show aC _ A.in1 (zz S (fun _=>#[]) >>= _) _ _ _;have so':=kp S _ sw so;refine qx ?_;refine rq so' rfl (qx (mS (qB ?_)));exact r u _ tk pu fun b o hb hS z=>(qy _ _ (cH hS)).trans (kp b o hb z))
 |succ m ih=>
  intro j s u c e st pu so r;have lt:j+1<n:=by omega
  refine ib zD (by
   rw[iG lz _];show aC _ A.in1 (fR (.ref S) >>= _) _ _ s;refine qx (ju so rfl ?_);show aC _ A.in1 .(bk) _ _ s;refine qx (jv (W.item (j+1) s _ _ lt st fun v h' tk pv st' kp=>?_));have so':=kp S _ sw so;show aC _ A.in1 (j9 (fm [v,v] (richCompare .Lt v u >>= _)) _ >>= _) _ _ _;refine qx (jv (qV (qx (hc (j+1) (cO bt j) v u _ _ _ pv pu ?_))));refine qx (qV (ji ?_));refine qx (mS (qB ?_));have ae:j+1+m=j+(m+1):=by omega
   by_cases hb:bt (j+1) (cO bt j)=ah
   .have ab:cO bt (j+1)=j+1:=by simp only[cO,hb,cq]
    simp only[hb,cq];refine qx ?_;refine rq so' rfl (qx (mS ?_));rw[nm];refine qB ⟨ic lz _,ih (j+1) _ v _ .(b) (W.frame _ _ _ st' fun b hf o z=>?_) (by rw[ab];exact pv) (nZ _ so' rfl) fun v' h2 t2 p2 k2=>?_⟩
    .exact(qy _ _ (fun q:S=b=>hSf (by rw[q];exact hf))).trans z
    .exact r v' h2 t2 (by rw[←ae];exact p2) fun b o hw hS z=>k2 b o hw hS ((qy _ _ (cH hS)).trans (kp b o hw z))
   .have hb':bt (j+1) (cO bt j)=ar:=by simpa using hb
    have ab:cO bt (j+1)=cO bt j:=by simp only[cO,hb',qr,cB]
    simp only[hb',qr,cB];refine qx (mS ?_);rw[nm];refine qB ⟨ic lz _,ih (j+1) _ u c .(b) st' (by rw[ab];exact pu) so' fun v' h2 t2 p2 k2=>?_⟩;exact r v' h2 t2 (by rw[←ae];exact p2) fun b o hw hS z=>k2 b o hw hS (kp b o hw z))
theorem Oi (W:j6 prog w A.in1 I fp wr n P St) (bt:ak->ak->aN) (kw:ac (ai×av)) (hc:rj prog w A.in1 .Lt P bt) (S:au) (hSf:S∉fp) (hn:0<n) {c:ak} (st:St 0 s.heap) (so:s.heap.get? S=aa (nK [] c))
  (r:∀v h' tk,P (cO bt (n-1)) v->(∀b o,b∉wr->b≠S->s.heap.get? b=aa o->h'.get? b=aa o)->R (.ok (.ret v)) {s with heap:=h',toks:=tk}):fu .(H) A (.builtin "min.loop" ⟨[.ref I,.none,.ref S],kw⟩) R s:=by
 have sw:S∉wr:=fun z=>hSf (W.sub _ z);have nm:(iI "min"++iI ".loop":cE)="min.loop":=by decide
 refine ib zD (by
  rw[iG lz _];show aC _ A.in1 (fR (.ref S) >>= _) _ _ s;refine qx (ju so rfl ?_);show aC _ A.in1 .(bk) _ _ s;refine qx (jv (W.item 0 s _ _ hn st fun v h' tk pv st' kp=>?_));have so':=kp S _ sw so;show aC _ A.in1 (zz S (fun _=>#[v,v]) >>= _) _ _ _;refine qx ?_;refine rq so' rfl ?_;rw[nm];refine qB ⟨ic lz _,M' W bt kw hc S hSf (n-1) 0 _ v _ .(b) (W.frame _ _ _ st' fun b hf o z=>?_) pv (nZ _ so' rfl) fun v' h2 t2 p2 k2=>?_⟩
  .exact(qy _ _ (fun q:S=b=>hSf (by rw[q];exact hf))).trans z
  .exact r v' h2 t2 (by rw[ly] at p2;exact p2) fun b o hw hS z=>k2 b o hw hS ((qy _ _ (cH hS)).trans (kp b o hw z)))
theorem J' (W:j6 prog w A.in1 I fp wr n P St) (x:ai) (d:av) (kw:ac (ai×av)) (S:au) (hSf:S∉fp) (hn:n=0) {c:ak} (st:St 0 s.heap) (so:s.heap.get? S=aa (nK [] c))
  (r:∀h' tk,(∀b o,b∉wr->b≠S->s.heap.get? b=aa o->h'.get? b=aa o)->R (.ok (.ret d)) {s with heap:=h',toks:=tk}):fu .(H) A (.builtin "min.loop" ⟨[.ref I,.none,.ref S],(x,d)::kw⟩) R s:=by
 subst hn;refine ib zD (by rw[iG lz _];show aC _ A.in1 (fR (.ref S) >>= _) _ _ s;refine qx (ju so rfl ?_);show aC _ A.in1 .(bk) _ _ s;refine qx (jv (W.done s _ _ st fun h' tk kp=>?_));show aC _ A.in1 (rule _ >>= _) _ _ _;refine qx (Gp ?_);exact qB (r h' tk fun b o hb _ z=>kp b o hb z))
end
theorem QB (a v:av):zA "min" ⟨[a],[(hZ "default",v)]⟩:=by unfold zA;kernel_rfl
theorem Lf {x d:av} 
  (h:aC .(H) A.in1 (mC x) (fun it t=>∃I fp wr n P St bt,it=.ref I/\j6 prog w A.in1 I fp wr n P St/\St 0 t.heap/\(∀b∈fp,b<t.heap.objs.size)/\rj prog w A.in1 .Lt P bt /\
   (n=0->∀h' tk,(∀b o,b∉wr->t.heap.get? b=aa o->h'.get? b=aa o)->Q d {t with heap:=h',toks:=tk}) /\
   (0<n->∀v h' tk,P (cO bt (n-1)) v->(∀b o,b∉wr->t.heap.get? b=aa o->h'.get? b=aa o)->Q v {t with heap:=h',toks:=tk})) E s) :
  aC .(H) A (call (.builtin "min") [x] [(hZ "default",d)]) Q E s:=by
 have nm:(iI "min"++iI ".loop":cE)="min.loop":=by decide
 refine kmb_tree F.kind_min F.plain_min F.entry_min (QB _ _) ?_;show aC _ A.in1 (zB "min" ["key","default"] 0 ⟨[],[(hZ "default",d)]⟩ >>= _) _ _ s;refine qx (rh (show zB "min" ["key","default"] 0 ⟨[],[(hZ "default",d)]⟩=aT [af,aa d] from rfl) ?_);refine qx (qB ?_);refine qx (thn h fun it t q=>?_);obtain⟨I,fp,wr,n,P,St,bt,rfl,W,st,hf,hc,q0,q1⟩:=q;have nf:t.heap.objs.size∉fp:=fun z=>fE _ (hf _ z);refine qx (j0 ?_);rw[nm];by_cases hn:n=0
 .exact qB ⟨ic lz _,J' W _ d [] t.heap.objs.size nf hn (W.frame _ _ _ st fun b _ o z=>qu _ z) (qH _ rfl) fun h' tk kp=>q0 hn h' tk fun b o hb z=>kp b o hb (qD (qv z)) (qu _ z)⟩
 .exact qB ⟨ic lz _,Oi W bt _ hc t.heap.objs.size nf .(b) (W.frame _ _ _ st fun b _ o z=>qu _ z) (qH _ rfl) fun v h' tk pv kp=>q1 .(b) v h' tk pv fun b o hb z=>kp b o hb (qD (qv z)) (qu _ z)⟩
noncomputable def w8 (ns:ac aj) (i j:ak):aN:=decide (ns.getD i 0<ns.getD j 0)
def pD (ns:ac aj):D:=if ns=[] then .non else .int (ns.getD (cO (w8 ns) (ns.length-1)) 0)
def ni (ns:ac aj):V:=if ns=[] then .non else .int (ns.getD (cO (w8 ns) (ns.length-1)) 0)
def xY:D->aq D
 |.lst l=>(fU l).map pD
 |_=>af
def N6 (t:TE):TE:=fun σ H Q=>t σ H fun v H1=>∃(a:au) (ns:ac aj),[v]=[.ref a]/\H1 a=aa (.lst .(bm))/\Q (ni ns) H1
theorem GN {t:TE} {kp:c8} (hc:X.calm=ah) (hg:Gl X "min") (hm:X.mg "min"=af) (h:PE X e t) (he:aH [e] X.env=(ar,eval e X.env)::aH [] X.env:=by rfl) (hb:bF pos (aH [e] X.env)=(ar,eval e X.env)::bF pos .(bC):=by rfl)
  (hpl:(bF pos (aH [e] X.env)).any (·.1)=ar:=by rfl) :
  PE X (.Call (.Name "min" p) [e] [⟨aa "default",.Constant .none j cp,kp⟩] pos) (N6 t):=by
 intro pins s σ H Q I q;refine nW (kN I hg hm (u:=.builtin "min") (by rfl) ?_);refine callWith_kw (thn (e7 h fD he pos pins s σ H (fun vs H1=>∃(a:au) (ns:ac aj),vs=[.ref a]/\H1 a=aa (.lst .(bm))/\Q (ni ns) H1) I q) fun us s1 ζ=>?_) hb hpl;obtain⟨vs,H1,I1,r1,q1⟩:=ζ;obtain⟨a,ns,rfl,ha,q2⟩:=q1;obtain⟨u,rfl,ru⟩:=eJ r1;cases ru;refine kws_cons (Fk (kws_nil ?_));show aC _ _ (call (.builtin "min") [.ref a] [(hZ "default",.none)]) _ _ _;obtain⟨its,rv,pl,_⟩:=I1.list (.inl (.inl ha));obtain⟨vl,vi⟩:=sH rv;refine Lf (mO pl.isList ?_);have ne:a≠s1.heap.objs.size:=by obtain⟨o,_,h1,_⟩:=pl;exact qD (qv h1)
 have hP:∀(i:ak) v,its.toArray[i]?=aa v->∃t,v=.int (ns.getD i 0) t:=fun i v hv=>vi i v (by simpa using hv);have la:a<s1.heap.objs.size:=by obtain⟨o,_,h1,_⟩:=pl;exact qv h1
 have sz:its.toArray.size=ns.length:=by simp[vl]
 refine⟨s1.heap.objs.size,_,_,_,_,_,w8 ns,rfl,om (A:=X.A.in1) (show X.A.in1.handled=af from I1.ok.hd hc) s1.heap.objs.size a ne its.toArray,⟨⟨_,qH _ rfl,rfl,rfl⟩,pl.isList.at fun o q=>qu _ q⟩,fun b hb=>?_,Ui (fun i=>ns.getD i 0) hP,fun hn h' tk hk=>?_,fun hn v h' tk pv hk=>?_⟩
 .rw[jp];simp only[qN,qL,or_false] at hb;rcases hb with z|z
  .rw[z];exact lq _
  .rw[z];exact mR la
 .have e0:ns=[]:=uU.mp .(b);refine⟨.non,H1,I1.kept fun b o z=>hk b o ?_ (qu _ z),rfl,?_⟩
  .intro z';have:b=s1.heap.objs.size:=by simpa using z'
   exact bu (qv z) (by rw[this];exact fE _)
  .unfold ni at q2;rw[qY e0] at q2;exact q2
 .have e0:ns≠[]:=fun z=>by rw[sz,z] at hn;exact bu hn .(c)
  obtain⟨t,rfl⟩:=hP _ _ pv;refine⟨ni ns,H1,I1.kept fun b o z=>hk b o ?_ (qu _ z),?_,q2⟩
  .intro z';have:b=s1.heap.objs.size:=by simpa using z'
   exact bu (qv z) (by rw[this];exact fE _)
  .unfold ni;rw[qZ e0,sz];exact⟨t,rfl⟩
theorem HG {kp:c8} (hc:X.calm=ah) (hg:Gl X "min") (hm:X.mg "min"=af) (h:DE Γ X e f) (he:aH [e] X.env=(ar,eval e X.env)::aH [] X.env:=by rfl) (hb:bF pos (aH [e] X.env)=(ar,eval e X.env)::bF pos .(bC):=by rfl)
  (hpl:(bF pos (aH [e] X.env)).any (·.1)=ar:=by rfl):DE Γ X (.Call (.Name "min" p) [e] [⟨aa "default",.Constant .none j cp,kp⟩] pos) (b1 xY f):=⟨(GN hc hg hm h.1 he hb hpl).imp fun σ H Q=>by
 rintro⟨G₀,H₀,G,ρ,z,A,hq,k⟩;unfold b1 at hq;obtain⟨d,hd,hi⟩:=oBd hq;refine⟨G₀,H₀,G,ρ,d,A,hd,fun v G1 H1 s1 r1=>?_⟩;unfold xY at hi;split at hi
 .obtain⟨ns,hn,rfl⟩:=oMd hi;obtain⟨a,us,rfl,ha,ra⟩:=r1.lst_inv;refine⟨a,ns,rfl,by rw[←px ra hn];exact s1.gh _ _ ha,k _ G1 H1 s1 ?_⟩;unfold ni pD;split
  .exact .non
  .exact .int _
 .cases hi⟩
end
section
open PyProof
section
variable {it d:au} {es:bI pX} {od:Obj}
theorem DZ (hs:(d==hG)=ar) (hod:s.heap.get? d=aa od) (hx:od.ExactDict) (hdd:od.data=.dict es ep)
  (hQ:∀h',h'=s.heap.push {cls:=.type "dict_keyiterator",data:=.fields #[.ref d,.int 0 0,.int es.size 0,.int ep 0]}->Q .(aK) {s with heap:=h'}) :
  aC .(H) A (mC (.ref d)) Q E s:=by
 have hT:s.TypeIs (.ref d) "dict":=⟨od,hod,hx.1⟩;refine wpAny_pyIter_slot hT Uj (yP Uj hT F.entry_dict_iter ?_ (F.args_dict_iter_1 _));unfold Builtin.«dict.__iter__» Vo;refine qx (qx (Uf hT ?_));show aC _ _ (aT (bP d)) _ _ s;refine qB ?_;show aC _ _ (Uk d >>= _) _ _ s;unfold Uk;rw[qZ (by rw[hs];exact qt)];exact qx (qB (qx (Ul hod hdd (qx (Um hod hdd (qx (j0 (qB
  ⟨_,rfl,"dict_keyiterator",_,⟨_,qH _ rfl,rfl⟩,Gq.lookup,hQ _ rfl⟩))))))))
theorem t6 {Q:aq av->aE->Prop} (hh:A.handled=af) (hit:s.heap.IsKeyIter it d i es.size ep) (hod:s.heap.get? d=aa od) (hdd:od.data=.dict es ep)
  (hi:∀e h',es[i]?=aa e->h'.IsKeyIter it d (i+1) es.size ep->iD it s.heap h'->Q (aa e.key) {s with heap:=h'})
  (he:es[i]?=af->∀h',Heap.ExtBut it s.heap h'->Q af {s with heap:=h'}):aC .(H) A (fK (.ref it)) Q E s:=by
 obtain⟨o,ho,hc,hd⟩:=id hit;have hT:=hit.typeIs;unfold fK;refine qx (Gn (S1 (name:=hZ "__next__") hT Gq
  (yP Gq hT F.entry_dict_keyiterator_next ?_ (F.args_dict_keyiterator_next_1 _))))
 refine qx (qB (qx (qx ?_)));refine qx (Gr hT (qB (qx (wpAny_fieldsOf ho hd ?_))));simp only[show Vp "dict_keyiterator"=ar by decide,qr,cB];show aC _ _ (if (bP d==kX)=ah then _ else _) _ _ s;rw[qZ (show ¬((bP d==kX)=ah) from qt)];refine qx (qB (qx (Ul hod hdd ?_)));rw[qZ (by simp)];refine qx (qB (qx (Um hod hdd ?_)));rw[qZ (by simp)];refine qB ?_;simp only[show ¬((i:aj)<0) from by omega,cB,ig];cases hx:es[i]? with
 |some e=>
  refine qx (qx (Gr hT (qB (qx (Uo hT ?_)))));show aC _ _ (setField (.ref it) 1 (pO ((i:aj)+1)) >>= _) _ _ s;refine qx (Up ho hd (by simp) ?_);have hit':(s.heap.update it (Uq (·.setIfInBounds 1 (pO ((i:aj)+1))))).IsKeyIter it d (i+1) es.size ep:=
   ⟨_,nZ _ ho (Obj.isFreed_of_fields (Ur hd _)),(Obj.cls_mapFields ..).trans hc,by rw[Ur hd];simp[pO]⟩
  refine qx (qV (qx (Uo (s:={s with heap:=s.heap.update it (Uq (·.setIfInBounds 1 (pO ((i:aj)+1))))}) hit'.typeIs ?_)));show aC _ _ (aT e.key) _ _ _;exact qB (qB ⟨_,rfl,qB (hi _ _ hx hit' (zv ..))⟩)
 |none=>
  refine qx (qx (Gr hT (qB ?_)));show aC _ _ (setField (.ref it) 0 .none >>= _) _ _ s;refine qx (Up ho hd (by simp) ?_);show aC _ _ (newExc (.type "StopIteration") [] >>= _) _ _ _;simp only[newExc,newTuple];refine qx (qx (j0 ?_ (by size_fits)));refine qx (m:=Us _ _) (rh (a:=kX) (by first|rfl|(simp only[Us];rfl)) ?_);refine j0 ?_ (by size_fits);simp only[raiseNew];refine qx (wpAny_handled ?_);rw[show A.in1.handled=af from hh];refine qx (qB (wpAny_throw ?_));refine qx (Go (T:="StopIteration") (b:=ah) ⟨_,qH _ rfl,rfl⟩ isSubtype_stop ?_);exact qB (he hx _ (((zv ..).extBut.push _).push _))
end
end
section
variable {a c i:Expr}
theorem Reps.strs {K:aM} {G:Hp}:∀(ns:ac ai),Reps Γ K G (ns.map V.str) (ns.map D.str)
 |[]=>.nil
 |n::r=>.cons (.str n) (Reps.strs r)
end
section
variable {a c i:Expr}
end
theorem ca.there {h:Heap} {o:HO} (x:ca P w H h a o):∃u,h.get? a=aa u:=by
 cases o with
 |lst xs=>obtain⟨_,_,_,_,e⟩:=x;exact⟨_,e⟩
 |tup xs=>obtain⟨_,_,_,p,e,_⟩:=x;exact⟨_,e⟩
 |dK kvs=>obtain⟨_,_,_,_,o,_,_,e,_⟩:=x;exact⟨_,e⟩
 |dT kvs=>obtain⟨_,_,_,_,o,_,_,e,_⟩:=x;exact⟨_,e⟩
 |set S n=>obtain⟨o,_,_,_,e,_⟩:=x;exact⟨_,e⟩
 |ins C dx fs=>obtain⟨_,_,_,e,_⟩:=x;exact⟨_,e⟩
 |own y=>obtain⟨_,e⟩:=x;exact⟨_,e⟩
 |frz ob u=>obtain⟨e,_⟩:=x;exact⟨_,e⟩
 |tbl ps=>exact⟨_,(show h.get? a=aa _ from x)⟩
 |ext φ=>obtain⟨_,⟨_,e⟩,_⟩:=x;exact⟨_,e⟩
theorem Inv.none_of (I:Inv X pins σ H s) (h:∀u,s.heap.get? a=aa u->False):H a=af:=by
 cases e:H a with
 |none=>rfl
 |some o=>
  obtain⟨u,hu⟩:=(I.hok a o e).there;exact(h u hu).elim
theorem Inv.many (I:Inv X pins σ H s) (k:∀b u,s.heap.get? b=aa u->h'.get? b=aa u) (hs:aQ H H') (new:∀b o,H b=af->H' b=aa o->(∀u,s.heap.get? b=aa u->False)/\ca X.prog X.w H' h' b o) :
  Inv X pins σ H' {s with heap:=h',toks:=t'}:=by
 refine I.un ⟨fun b ob q _ _ _=>k b ob q,fun b ob q _ _ _=>⟨ob.slots,k b ob q⟩,fun b ob q n _=>?_,fun b ob q _=>⟨ob,k b ob q⟩,fun b xs q=>hs _ _ q,fun b o u q=>hs _ _ q,fun b ps q=>⟨#[],by rw[hs _ _ q];simp⟩⟩ fun b o q=>?_
 .cases e:H' b with
  |none=>rfl
  |some o=>exact((new b o n e).1 ob q).elim
 .cases e:H b with
  |none=>exact(new b o e q).2
  |some o'=>
   have:=hs _ _ e;rw[q] at this;cases this;exact(I.hok b o e).stay (fun c v _ r=>k c v r) (fun c r=>hs _ _ r) fun c xs r=>hs _ _ r
variable {p3 p4:c8}
section
variable {a c i:Expr}
def lU (kb:ac (Key×D)):ac (Key×D)->aq aN
 |[]=>aa ah
 |(k,v)::r=>match bd kb k with
  |none=>aa ar
  |some y=>(eqX v y).bind fun e=>(lU kb r).map (e && ·)
theorem E5 {pins:ac (au×Obj)} {σ:St} {G H:Hp} {s:aE} {A:cv} (I:Inv X pins σ H s) (gh:aQ G H) (hu:A.in1.units+64<bY) {ub:ac (Key×V)} {kb:ac (Key×D)} {vb:ac (Key×av)} (eb:ub.map (·.1)=kb.map (·.1)) (rb:Reps Γ X.K G (ub.map (·.2)) (kb.map (·.2))) (qb:KV ub vb) :
  ∀{ua:ac (Key×V)} {ka:ac (Key×D)} {va:ac (Key×av)} {r:aN},ua.map (·.1)=ka.map (·.1)->Reps Γ X.K G (ua.map (·.2)) (ka.map (·.2))->KV ua va->lU kb ka=aa r->PySem.W.KeqHits A.in1 s vb va r
 |[],[],va,r,_,_,qa,h=>by cases qa;cases h;exact .nil
 |[],_::_,_,_,e,_,_,_=>by cases e
 |_::_,[],_,_,e,_,_,_=>by cases e
 |(k1,v)::ua,(k2,d)::ka,va,r,e,rr,qa,h=>by
  have e1:k1=k2:=(dB e).1;have e2:ua.map (·.1)=ka.map (·.1):=(dB e).2;subst e1;have rr:Reps Γ X.K G (v::ua.map (·.2)) (d::ka.map (·.2)):=rr;cases rr with
  |cons r1 r2=>
   cases qa with
   |cons q1 q2=>
    rename_i w va;obtain⟨kw,vw⟩:=w;obtain⟨z1,z2⟩:=q1
    replace z1:k1=kw:=z1
    subst z1;have rv:=qb.val k1;unfold lU at h;rcases mZ (k:=k1) eb rb with⟨n1,n2⟩|⟨y,u,n1,n2,n3⟩
    .rw[n1] at h;cases h;rw[n2] at rv;exact .miss (dX.none_of rv)
    .rw[n1] at h;obtain⟨e,he,h⟩:=oBd h;obtain⟨b,hb,rfl⟩:=oMd h;rw[n2] at rv;obtain⟨u',hu',ru'⟩:=dX.some_of rv;obtain⟨p,q,hp,hq,s1,s2,rfl⟩:=xV he;obtain⟨as,a1⟩:=r1.reads I gh z2 hp;obtain⟨bs,a2⟩:=n3.reads I gh ru' hq;exact .hit hu' (PySem.W.keq_at a1 a2 s1 s2 hu) (E5 I gh hu eb rb qb e2 r2 q2 hb)
def leS (x y:ai):aN:=!ltS y x
def iy (l:ac ai):ac ai:=l.mergeSort leS
theorem lE {y:ai} :leS x y=ah↔x.cps.toList<=y.cps.toList:=by unfold leS ltS;rw[Ut,Uu,List.not_lt]
theorem Dj (x y z:ai) (h1:leS x y=ah) (h2:leS y z=ah):leS x z=ah:=lE.mpr (List.le_trans (lE.mp h1) (lE.mp h2))
theorem Jt (x y:ai):(leS x y || leS y x)=ah:=by rw[F3];exact(List.le_total x.cps.toList y.cps.toList).imp lE.mpr lE.mpr
theorem QD {y:ai} (h1:leS x y=ah) (h2:leS y x=ah):x=y:=by have e:=List.le_antisymm (lE.mp h1) (lE.mp h2);cases x;cases y;simp only at e;rw[Array.toList_inj.mp e]
theorem zT:∀(l:ac ai) (p:ai),risingS p l=ah->(∀a∈l,leS p a=ah)/\l.Pairwise fun a b=>leS a b=ah:=by
 intro xs0
 induction xs0 with
 |nil=>
  intro _ _;exact⟨fun _ h=>(nomatch h),Tn⟩
 |cons x r ih=>
  intro p h;unfold risingS at h;rw[eX,ltCps_eq] at h;obtain⟨h1,h2⟩:=ih x h.2;have hp:leS p x=ah:=h.1;refine⟨fun a ha=>?_,.cons h1 h2⟩;rcases bZ.mp ha with rfl|ha
  .exact hp
  .exact Dj _ _ _ hp (h1 a ha)
theorem L' {l:ac ai} (h:sortedS l=ah):l.Pairwise fun a b=>leS a b=ah:=by
 cases l with
 |nil=>exact .nil
 |cons x r=>exact .cons (zT r x h).1 (zT r x h).2
theorem K9 {l l':ac ai} (hp:l'.Perm l) (hs:sortedS l'=ah):l'=iy l:=
 List.Perm.eq_of_pairwise (le:=fun a b=>leS a b=ah) (fun a b _ _ h1 h2=>QD h1 h2) (L' hs) (List.pairwise_mergeSort Dj Jt l) (hp.trans (zE l leS).symm)
def iR:ac (Key×D)->aq (ac ai)
 |[]=>aa []
 |(.inr x,_)::r=>(iR r).map (x::·)
 |(.inl _,_)::_=>af
theorem wt:∀{kvs:ac (Key×D)} {us:ac (Key×V)} {ss:ac ai},us.map (·.1)=kvs.map (·.1)->iR kvs=aa ss->us.map (·.1)=ss.map bX
 |[],[],ss,_,h=>by cases h;rfl
 |[],_::_,_,e,_=>by cases e
 |_::_,[],_,e,_=>by cases e
 |(k,d)::kvs,(k',v)::us,ss,e,h=>by
  have e1:k'=k:=(dB e).1;have e2:us.map (·.1)=kvs.map (·.1):=(dB e).2;subst e1;cases k' with
  |inl i=>cases h
  |inr x=>
   obtain⟨zs,hz,rfl⟩:=oMd (show(iR kvs).map (x::·)=aa ss from h);rw[qo,qo,wt e2 hz]
def l9:ac D->aq D
 |[.dk kvs]=>(iR kvs).bind fun ss=>if ss.length<64 then aa (.lst ((iy ss).map D.str)) else af
 |_=>af
theorem E7 {P:dy} {w:cA}:∀{ss:ac ai} {vs:ac av} {va:ac (Key×av)},va.map (·.1)=ss.map bX->vs.length=ss.length->(∀(j:ak) (v:av),vs[j]?=aa v->∃k x,va[j]?=aa (k,x)/\(cj P w).is k v=ah)->zc vs ss
 |[],[],_,_,_,_=>.nil
 |[],_::_,_,_,h,_=>by cases h
 |_::_,[],_,_,h,_=>by cases h
 |s::ss,v::vs,va,e,hl,h=>by
  obtain⟨k,x,h1,h2⟩:=h 0 v rfl;cases va with
  |nil=>cases e
  |cons w va=>
   cases h1;have e1:k=bX s:=(dB e).1;subst e1;obtain⟨t,rfl⟩:=SD (x:=s) (v:=v) h2;exact .cons s t (E7 (va:=va) (dB e).2 (by simpa using hl) fun j u hu=>by obtain⟨k,x,q1,q2⟩:=h (j+1) u (by simpa using hu);exact⟨k,x,by simpa using q1,q2⟩)
theorem Dz:∀{vs:ac av} {ss:ac ai},zc vs ss->aU (ss.map V.str) vs
 |_,_,.nil=>.nil
 |_,_,.cons x t r=>.cons ⟨t,rfl⟩ (Dz r)
theorem Ah (hc:X.calm=ah):dO X (.builtin "sorted") (fun xs H Q=>∃(a:au) (us:ac (Key×V)) (ss:ac ai),xs=[.ref a]/\H a=aa (.dK us)/\us.map (·.1)=ss.map bX/\ss.length<64/\∀p,H p=af->Q (.ref p) (upd H p (.lst ((iy ss).map V.str)))):=by
 intro pins s σ H xs us Q I r h;obtain⟨a,ks,ss,rfl,ha,hk,h64,q⟩:=h;obtain⟨u,rfl,ru⟩:=eJ r;cases ru;obtain⟨z,md,va,qa,da⟩:=xN I.hok ha;obtain⟨ep,hat⟩:=da.dictAt;have hva:va.map (·.1)=ss.map bX:=qa.keys.symm.trans hk;have hlen:va.length=ss.length:=by simpa using bO cI hva
 have hh:X.A.handled=af:=I.ok.hd hc;have hsl:=eV;refine Calls.call_function_entry kind_sorted plain_sorted entry_sorted (args_sorted1 _) ?_;unfold Builtin.«sorted»;refine qx (m:=checkCount "sorted" 1 1 _) (qB ?_);refine qx (PySem.W.kdu_collect (A:=X.A.in1) (Uv (knd:=cj X.prog X.w) (kvs:=va) (ep:=ep) md) hh hat .(b) fun h' tk acc hkp hacc=>?_);have hl:acc.toList.length=va.length:=by rw[iE];exact hacc.1
 refine qx (wpAny_newList ?_ (by rw[hl];omega));have hS:zc acc.toList ss:=E7 (P:=X.prog) (w:=X.w) hva (by rw[hl,hlen]) fun j v e=>hacc.2 j v (by rw[←qJ];exact e);have hoL:(h'.push (seqObj "list" acc.toList.toArray 0)).get? h'.objs.size=aa (seqObj "list" acc.toList.toArray 0):=qH _ rfl;refine qx (qV (yP slot_list_sort ⟨_,hoL,rfl⟩ entry_list_sort (list_sort_treeK strKind_oneLt hoL hS.keysOf (fun v₁ v₂ bL e=>keyKind_strs (by rw[←e];exact hS)) (by rw[hl];omega) fun st' a1 a2=>⟨_,rfl,?_⟩) (args_list_sort _)));obtain⟨ss',h1,h2,h3⟩:=sorted_out_str hS a1 a2;have es:=K9 h2 h3;subst es;refine qB ⟨_,rfl,?_⟩;obtain⟨ee,he⟩:=sortedHeap_at (h:=h'.push (seqObj "list" acc.toList.toArray 0)) (out:=(arrOf st').map (·.2)) hoL;have hls:(iy ss).length=ss.length:=(zE ss leS).length_eq;have hno:∀u,s.heap.get? h'.objs.size=aa u->False:=fun u e=>fE _ (qv (hkp _ _ e));have hn:=I.none_of hno;refine⟨.ref h'.objs.size,upd H h'.objs.size (.lst ((iy ss).map V.str)),I.many (t':=tk) .(am) (fun b o e=>by rw[ay (bi e hn)];exact e) (fun b o e1 e2=>?_),rfl,q _ hn⟩
 .have hb:b<h'.objs.size:=qv (hkp b o e);rw[sortedHeap_old (qD hb) (by rw[size_push'];exact mR hb)];exact qu _ (hkp b o e)
 .by_cases hb:b=h'.objs.size
  .subst hb;rw[aV] at e2;cases e2;exact⟨hno,by rw[qg,hls];omega,_,ee,Dz h1,by rw[Gs];exact he⟩
  .rw[ay hb,e1] at e2;cases e2
theorem vX (hc:X.calm=ah):BltD Γ X "sorted" l9:=⟨_,Ah hc,fun {G H vs ds z} gh r h Q k=>by
 unfold l9 at h;split at h
 .obtain⟨ss,hs,h⟩:=oBd h;split at h
  .rename_i h64;cases h;obtain⟨v,rfl,r1⟩:=r.one;cases r1 with
   |dk h1 h2 h3=>exact⟨_,_,ss,rfl,gh _ _ h1,wt h2 hs,h64,gO gh (Reps.strs _) k⟩
  .cases h
 .cases h⟩
end
section
variable {a c i:Expr}
theorem Eu {k:Key} (h:(cj P w).is k u=ah):bp (kV k) u:=by
 rcases ik (k:=k) (v:=u) h with⟨i,t,rfl,rfl⟩|⟨x,t,rfl,rfl⟩
 .exact⟨t,rfl⟩
 .exact⟨t,rfl⟩
theorem Dg (k:Key):Rep Γ K G (kV k) (eA k):=by
 cases k with
 |inl i=>exact .int i
 |inr x=>exact .str x
noncomputable def xK:D->aq D
 |.int i=>aa (.int (-i))
 |_=>af
noncomputable def wb:D->aq D
 |.lst l=>aa (.lst l.reverse)
 |_=>af
theorem Reps.reverse {K:aM} {G:Hp}:∀{vs:ac V} {ds:ac D},Reps Γ K G vs ds->Reps Γ K G vs.reverse ds.reverse
 |_,[],r=>by cases r;exact .nil
 |_,_::_,r=>by obtain _|⟨h,r⟩:=r;rw[yV,yV];exact r.reverse.append (.cons h .nil)
theorem Py {j} (he:DE Γ X e f):DE Γ X (.Subscript e (.Slice af af (aa (.UnaryOp .USub (.Constant (.int 1) j p3) p4)) p2) pos) (b1 wb f):=⟨fun pins s σ H Q I=>by
 rintro⟨G₀,H₀,G,ρ,d,A,h,k⟩;unfold b1 at h;obtain⟨x,hx,h⟩:=oBd h;unfold wb at h;split at h
 .rename_i l;cases h;refine yS (thn (he.1 pins s σ H (fun v H'=>∃G',Step G H G' H'/\Rep Γ X.K G' v (.lst l)) I ⟨G₀,H₀,G,ρ,_,A,hx,fun v G' H' st r=>⟨G',st,r⟩⟩) fun v s1 ζ=>?_);obtain⟨v',H1,I1,r1,G1,st,rp⟩:=ζ;obtain⟨a,vs,rfl,ha,rv⟩:=rp.lst_inv;cases r1;refine wpAny_Slice (qB (qB ?_));refine thn ((Lk Sb nG) pins s1 σ H1 (fun v H'=>v=.int (-1)/\H'=H1) I1 ⟨_,rfl,rfl,rfl⟩) fun vk s3 ⟨vv,H3,I3,r3,e1,e2⟩=>?_;subst e1 e2;obtain⟨t,rfl⟩:=r3;have I4:Inv X pins σ H3 {s3 with heap:=s3.heap.push {cls:=.type "slice",data:=.fields #[.none,.none,.int (-1) t]} }:=I3.kept (t':=s3.toks) fun b ob q=>qu _ q;obtain⟨its,rr,hti,hz⟩:=I4.list (.inl (.inl (st.gh _ _ ha)));show aC .(n) X.A (yT e (.Slice af af (aa (.UnaryOp .USub (.Constant (.int 1) j p3) p4)) p2) (.ref a) (.ref s3.heap.objs.size)) .(bp) X.xe {s3 with heap:=s3.heap.push {cls:=.type "slice",data:=.fields #[.none,.none,.int (-1) t]} };refine FH (ops:=[.ref a,.ref s3.heap.objs.size]) hti.isList.typeIs FK.lookup ?_ (by with_unfolding_all rfl);refine S7 hti.isList (S2 ..) .none .none (.int _ _) .(c) ?_ (by rw[qC];have:=rr.length;omega);rw[PySem.W.krv_pick];have hn:=I4.fresh;exact⟨.ref _,_,I4.lnew (ys:=vs.reverse) (its:=its.reverse) (t':=s3.toks) (aU.reverse rr) (by rw[List.length_reverse];exact hz),rfl,gO st.gh rv.reverse (fun w G2 H2 s2 r2=>k w G2 H2 (st.trans s2) r2) _ hn⟩
 .cases h⟩
end
section
variable {c:Expr}
theorem JE:MtR X "dict.clear" (fun v vs H Q=>∃(d:au) (us:ac (Key×V)),v=.ref d/\vs=[]/\H d=aa (.dK us)/\Q .non (upd H d (.dK []))):=by intro pins s σ H x xs v us Q I rx rs h;obtain⟨d,us,rfl,rfl,hd,q⟩:=h;cases rx;cases rs;exact Q9 I hd fun s' I'=>⟨.non,_,I',rfl,q⟩
end
theorem Inv.frz {a:au} {us:ac (Key×V)} {o:Obj} (I:Inv X pins σ H s) (e:H a=aa (.dK us)) (ho:s.heap.get? a=aa o):Inv X pins σ (upd H a .(Y)) s:=by
 have ne:∀b u,H b=aa u->u≠.dK us->b≠a:=fun b u q n z=>by rw[z,e] at q;cases q;exact n rfl
 have st:∀{b:au} {u:HO},ca X.prog X.w H s.heap b u->ca X.prog X.w (upd H a .(Y)) s.heap b u:=fun x=>
  x.stay (fun c v _ r=>r) (fun c r=>by rw[ay .(aI)];exact r) fun c xs r=>by rw[ay .(aI)];exact r
 refine I.un (t':=s.toks) (h':=s.heap) ⟨fun b ob q _ _ _=>q,fun b ob q _ _ _=>⟨ob.slots,q⟩,fun b ob q n _=>?_,fun b ob q _=>⟨ob,q⟩,fun b xs q=>?_,fun b o u q=>?_,fun b ps q=>⟨#[],?_⟩⟩ fun b u q=>?_
 .rw[ay (fun z=>by rw[z,e] at n;cases n)];exact n
 .rw[ay .(bH)];exact q
 .rw[ay .(bH)];exact q
 .rw[ay .(bH),q];simp
 .by_cases hb:b=a
  .subst hb;rw[aV] at q;cases q;exact⟨ho,st (I.hok b _ e)⟩
  .rw[ay hb] at q;exact st (I.hok b u q)
theorem Inv.unfrz {us:ac (Key×V)} {o:Obj} (I:Inv X pins σ H s) (e:H a=aa .(Y)) (hnf:∀o u,X.H₀ a≠aa (.frz o u)):Inv X pins σ (upd H a (.dK us)) s:=by
 have ne:∀b u,H b=aa u->u≠.frz o (.dK us)->b≠a:=fun b u q n z=>by rw[z,e] at q;cases q;exact n rfl
 have nn:∀b,H b=af->upd H a (.dK us) b=af:=fun b n=>by rw[ay (fun z=>by rw[z,e] at n;cases n)];exact n
 have st:∀{b:au} {u:HO},ca X.prog X.w H s.heap b u->ca X.prog X.w (upd H a (.dK us)) s.heap b u:=fun x=>
  x.stay (fun c v _ r=>r) (fun c r=>by rw[ay .(aI)];exact r) fun c xs r=>by rw[ay .(aI)];exact r
 refine⟨I.ok,I.os,I.bare,⟨I.base.keep,I.base.slot,fun b ob q n hx=>nn b (I.base.free b ob q n hx),I.base.there,fun b xs q=>?_,fun b ob u q=>?_,fun b ps q=>?_⟩,I.loc,I.cell,nn _ I.free,fun x c q=>nn _ (I.freeC x c q),fun p hp=>?_,fun b u q=>?_,I.len⟩
 .have:=I.base.tups b xs q;rw[ay (ne b _ this (by intro z;cases z))];exact this
 .have:=I.base.frzs b ob u q;rw[ay (fun z=>hnf ob u (by rw[←z];exact q))];exact this
 .obtain⟨more,hm⟩:=I.base.tbls b ps q;exact⟨more,by rw[ay (ne b _ hm (by intro z;cases z))];exact hm⟩
 .obtain⟨p1,p2,p3⟩:=I.pin p hp;exact⟨p1,nn _ p2,p3⟩
 .by_cases hb:b=a
  .subst hb;rw[aV] at q;cases q;exact st (I.hok b _ e).2
  .rw[ay hb] at q;exact st (I.hok b u q)
theorem Inv.nofrz {us:ac (Key×V)} (I:Inv X pins σ H s) (e:H a=aa (.dK us)):∀o u,X.H₀ a≠aa (.frz o u):=fun o u q=>by have:=I.base.frzs a o u q;rw[e] at this;cases this
namespace Law
noncomputable abbrev oS (d:D):aq Slot:=aa (.sh d)
end Law
noncomputable abbrev FQ:=ac D->aq D
namespace Law
theorem dC {k:ak} {F:FQ} (C:Cal Γ X.prog X.w X.K X.mg X.base x n k F) (hr:Room j X.A) (ha:DA Γ X (e::es) fr) (hn:∀ρ ds,fr ρ=aa ds->ds.length=n) (hk:k<=j:=by decide) (hg:Gl X x:=by exact rfl) (hdb:.(o)=ar:=by decide) (he:aH (e::es) X.env=(ar,eval e X.env)::aH es X.env:=by rfl) (hpl:.(af).any (·.1)=ar:=by rfl):DE Γ X .(ap) (cF F fr):=tI C hr hk hg ha hn hdb he hpl
theorem aZ {P:ac ai} (a:sc.kind=.function:=by rfl) (b:sc.isCoroutine=ar:=by rfl) (c:sc.isGenerator=ar:=by rfl) (d:N.Nodup:=by decide +kernel) (e:N.take P.length=P:=by rfl) (f:∀x∈P,sc.names.lookup x=aa .local∨sc.names.lookup x=aa .cell:=by decide +kernel) (g:∀y∈sc.names,y.2≠.free:=by decide +kernel):FnScope N P sc:=⟨a,b,c,d,e,f,g⟩
end Law
variable {s₀:aE}
section
variable {f:au} {E:XK}
 {pins:ac (au×Obj)} {σ:St} {H:Hp} {s:aE} {h1:Heap} {e:au} {cls:av} {vs:ac av}
end
section
variable {f:au} {E:XK}
 {R:Hp->Prop} {n:cE} {x:ai} {np cpos pos:c8} {e₀:Expr} {bL:ac Expr} {fr:FA} {Bn newId initId:cE} {bmB:ac av}
end
section
open PySem.W Builtin Builtin.ObjectAttr Builtin.Getset_descriptor
end
section
variable {a c i:Expr}
end
section
variable {a:Expr}
theorem He (h:DE Γ X a fa):DE Γ X (.UnaryOp .USub a pos) (b1 xK fa):=⟨fun pins s σ H Q I=>by
 rintro⟨G₀,H₀,G,ρ,d,A,hq,k⟩;unfold b1 at hq;obtain⟨x,hx,hq⟩:=oBd hq;refine Fm (thn (h.1 pins s σ H (fun v H'=>∃G',Step G H G' H'/\Rep Γ X.K G' v x) I ⟨G₀,H₀,G,ρ,x,A,hx,fun v G' H' st r=>⟨G',st,r⟩⟩) fun v s1 ζ=>?_);obtain⟨v',H1,I1,r1,G1,st,rp⟩:=ζ;unfold xK at hq;split at hq
 .cases hq;cases rp.int_inv;obtain⟨t,rfl⟩:=r1;exact Vq ⟨.int _,H1,I1.tok _,⟨_,rfl⟩,k _ G1 H1 st (.int _)⟩
 .cases hq⟩
end
noncomputable def del (G:Hp) (a:au):Hp:=fun b=>if b=a then af else G b
theorem pI {b:au} (h:b≠a):del G a b=G b:=by unfold del;rw[qZ h]
theorem Mb :del G a a=af:=by unfold del;rw[qY rfl]
section
open PyProof
theorem Inv.frzT {us:ac .(ax)} {o:Obj} (I:Inv X pins σ H s) (e:H a=aa (.dT us)) (ho:s.heap.get? a=aa o):Inv X pins σ (upd H a (.frz o (.dT us))) s:=by
 have ne:∀b u,H b=aa u->u≠.dT us->b≠a:=fun b u q n z=>by rw[z,e] at q;cases q;exact n rfl
 have st:∀{b:au} {u:HO},ca X.prog X.w H s.heap b u->ca X.prog X.w (upd H a (.frz o (.dT us))) s.heap b u:=fun x=>
  x.stay (fun c v _ r=>r) (fun c r=>by rw[ay .(aI)];exact r) fun c xs r=>by rw[ay .(aI)];exact r
 refine I.un (t':=s.toks) (h':=s.heap) ⟨fun b ob q _ _ _=>q,fun b ob q _ _ _=>⟨ob.slots,q⟩,fun b ob q n _=>?_,fun b ob q _=>⟨ob,q⟩,fun b xs q=>?_,fun b o u q=>?_,fun b ps q=>⟨#[],?_⟩⟩ fun b u q=>?_
 .rw[ay (fun z=>by rw[z,e] at n;cases n)];exact n
 .rw[ay .(bH)];exact q
 .rw[ay .(bH)];exact q
 .rw[ay .(bH),q];simp
 .by_cases hb:b=a
  .subst hb;rw[aV] at q;cases q;exact⟨ho,st (I.hok b _ e)⟩
  .rw[ay hb] at q;exact st (I.hok b u q)
theorem Inv.unfrzT {us:ac .(ax)} {o:Obj} (I:Inv X pins σ H s) (e:H a=aa (.frz o (.dT us))) (hnf:∀o u,X.H₀ a≠aa (.frz o u)):Inv X pins σ (upd H a (.dT us)) s:=by
 have ne:∀b u,H b=aa u->u≠.frz o (.dT us)->b≠a:=fun b u q n z=>by rw[z,e] at q;cases q;exact n rfl
 have nn:∀b,H b=af->upd H a (.dT us) b=af:=fun b n=>by rw[ay (fun z=>by rw[z,e] at n;cases n)];exact n
 have st:∀{b:au} {u:HO},ca X.prog X.w H s.heap b u->ca X.prog X.w (upd H a (.dT us)) s.heap b u:=fun x=>
  x.stay (fun c v _ r=>r) (fun c r=>by rw[ay .(aI)];exact r) fun c xs r=>by rw[ay .(aI)];exact r
 refine⟨I.ok,I.os,I.bare,⟨I.base.keep,I.base.slot,fun b ob q n hx=>nn b (I.base.free b ob q n hx),I.base.there,fun b xs q=>?_,fun b ob u q=>?_,fun b ps q=>?_⟩,I.loc,I.cell,nn _ I.free,fun x c q=>nn _ (I.freeC x c q),fun p hp=>?_,fun b u q=>?_,I.len⟩
 .have:=I.base.tups b xs q;rw[ay (ne b _ this (by intro z;cases z))];exact this
 .have:=I.base.frzs b ob u q;rw[ay (fun z=>hnf ob u (by rw[←z];exact q))];exact this
 .obtain⟨more,hm⟩:=I.base.tbls b ps q;exact⟨more,by rw[ay (ne b _ hm (by intro z;cases z))];exact hm⟩
 .obtain⟨p1,p2,p3⟩:=I.pin p hp;exact⟨p1,nn _ p2,p3⟩
 .by_cases hb:b=a
  .subst hb;rw[aV] at q;cases q;exact st (I.hok b _ e).2
  .rw[ay hb] at q;exact st (I.hok b u q)
theorem Inv.nofrzT {us:ac .(ax)} (I:Inv X pins σ H s) (e:H a=aa (.dT us)):∀o u,X.H₀ a≠aa (.frz o u):=fun o u q=>by have:=I.base.frzs a o u q;rw[e] at this;cases this
theorem zV {α β:Type} {F:α->β->Prop}:∀{l:ac α} {m:ac β} {i:ak} {y:β},Paired F l m->m[i]?=aa y->∃x,l[i]?=aa x/\F x y
 |_,_,_,_,.nil,e=>by simp at e
 |_,_,0,_,.cons h _,e=>by simp at e;subst e;exact⟨_,rfl,h⟩
 |_,_,i+1,_,.cons _ t,e=>by obtain⟨x,h1,h2⟩:=zV (i:=i) t (by simpa using e);exact⟨x,by simpa using h1,h2⟩
def Db (a:au) (o:Obj) (us:ac .(ax)):It:=
 ⟨fun i H=>H a=aa (.frz o (.dT us))/\i<us.length,fun i H v H'=>H'=H/\∃kv T,us[i]?=aa kv/\v=.ref T/\H T=aa (.tup (kv.1.map kV)),fun i H=>H a=aa (.frz o (.dT us))/\i=us.length⟩
theorem Bo {h:Heap} {o:Obj} {us:ac .(ax)} {es:bI pX} (ok:HOk P w H h) (e:H a=aa (.frz o (.dT us))) (hd:o.data=.dict es ep) :
  h.get? a=aa o/\es.size=us.length/\∀(i:ak) (en:pX),es[i]?=aa en->∃kv T,us[i]?=aa kv/\en.key=.ref T/\H T=aa (.tup (kv.1.map kV)):=by
 have ho:h.get? a=aa o:=(ok a _ e).1;obtain⟨z,md,xs,kt,o',es',ep',h1,h2,h3,h4,h5,h6⟩:=iW ok (.inr ⟨o,e⟩);rw[ho] at h1;cases h1;rw[hd] at h3;cases h3;refine⟨ho,by rw[Uw h4];exact(Paired.length kt).symm,fun i en q=>?_⟩;rw[entry_at h4] at q;obtain⟨x,hx,rfl⟩:=oMd q;obtain⟨kv,k1,k2,k3,k4⟩:=zV kt hx;exact⟨kv,x.2.1,k1,rfl,k3⟩
theorem Ri (a it:au) (o:Obj) (us:ac .(ax)) (es:bI pX) (ep:ak) (hne:a≠it) (hd:o.data=.dict es ep) :
  Turn P w K tg (Db a o us) [it] it (fun i h=>h.IsKeyIter it a i es.size ep) where
 mem:=by simp
 obj:=fun i h st b hb=>by
  have e:b=it:=by simpa using hb
  subst e;obtain⟨o,e,c,d⟩:=st;exact⟨o,e,fun v z=>by rw[d] at z;cases z⟩
 keep:=fun i h h' st k=>by obtain⟨o,e,r⟩:=st;exact⟨o,k it (by simp) o e,r⟩
 item:=by
  intro X hP hw hK hc i pins s σ H E I hf st hg;subst hP hw hK;obtain⟨hfr,hi⟩:=hg;obtain⟨f0,f1,f2,f3,f4,f5⟩:=hf it (by simp);obtain⟨ho,hsz,hat⟩:=Bo I.hok hfr hd;refine t6 .(bz) st ho hd (fun en h' hen st' hs=>?_) fun hx=>?_
  .obtain⟨kv,T,k1,k2,k3⟩:=hat i en hen;have I1:Inv X pins σ H {s with heap:=h',toks:=s.toks}:=I.turned (fun b o hb e=>hs.extBut b o (by simpa using hb) e) f0 f1 f3 f4 f5;obtain⟨oi,e,c,d⟩:=id st';exact⟨_,rfl,ph (s:={s with heap:=h',toks:=s.toks}) e c d .(c) ⟨.ref T,H,I1,by rw[k2];rfl,⟨rfl,kv,T,k1,rfl,k3⟩,st',fun b hb=>(hf b hb).1⟩⟩
  .rw[Ux] at hx;omega
 done:=by intro X hP hw hK hc i pins s σ H E I hf st hg;subst hP hw hK;obtain⟨hfr,hi⟩:=hg;obtain⟨f0,f1,f2,f3,f4,f5⟩:=hf it (by simp);obtain⟨ho,hsz,hat⟩:=Bo I.hok hfr hd;refine t6 .(bz) st ho hd (fun en h' hen st' hs=>?_) fun hx h' hs=>⟨rfl,I.turned (t':=s.toks) (fun b o hb e=>hs b o (by simpa using hb) e) f0 f1 f3 f4 f5⟩;have:=(ge.mp hen).1;omega
 self:=fun _ _ _ _ _ st h=>Gu st h
noncomputable def AT:D->aq (ac D)
 |.fdt kvs=>aa (kvs.map fun kv=>.tup (kv.1.map eA))
 |_=>af
def kL (f:FE):FA:=fun ρ=>(f ρ).bind AT
section
variable {c:Expr}
theorem RD (he:PE X iter te):PI X tg iter (fun σ H R=>te σ H fun x H1=>∃(a:au) (o:Obj) (us:ac .(ax)),x=.ref a/\H1 a=aa (.frz o (.dT us))/\R (Db a o us) H1):=by
 intro pins s σ H R I h;refine thn .(aN) fun v s1 ζ=>?_;obtain⟨x,H1,I1,r1,a,o,us,e,ha,q⟩:=ζ;subst e;cases r1;have ho:s1.heap.get? a=aa o:=(I1.hok a _ ha).1;obtain⟨z,md,xs,kt,o',es,ep,h1,h2,h3,h4,h5,h6⟩:=iW I1.hok (.inr ⟨o,ha⟩);rw[ho] at h1;cases h1;refine DZ md ho h2 h3 fun h' e'=>?_;subst e';refine⟨s1.heap.objs.size,[s1.heap.objs.size],_,_,H1,rfl,I1.kept (t':=s1.toks) fun b u e=>qu _ e,Ri a s1.heap.objs.size o us es ep (qD (qv ho)) h3,⟨_,qH _ rfl,rfl,rfl⟩,fun b hb=>?_,q⟩;have e:b=s1.heap.objs.size:=by simpa using hb
 subst e;exact I1.fpOk (qw _) (I1.hok.fresh (qw _))
theorem BV :∀ks:ac Key,Reps Γ K G (ks.map kV) (ks.map eA):=by
 intro xs0
 induction xs0 with
 |nil=>
  exact .nil
 |cons k ks ih=>
  exact .cons (by cases k;exact .int _;exact .str _) (ih)
theorem MC (ks:ac Key):kyT (.tup (ks.map kV))=ah:=by show(ks.map kV).all kyV=ah;rw[ia];intro v hv;obtain⟨k,_,rfl⟩:=bz.mp hv;cases k<;>rfl
theorem Step.key {T:au} {ks:ac Key} (gh:aQ G H) (hT:H T=aa (.tup (ks.map kV))):Step G H (upd G T (.tup (ks.map kV))) H:=by
 refine⟨.refl _,fun b u e=>?_,fun b u e=>?_,fun b u e k=>?_⟩
 .by_cases hb:b=T
  .subst hb;rw[gh _ _ e] at hT;rw[aV,hT]
  .rw[ay hb];exact e
 .by_cases hb:b=T
  .subst hb;rw[aV] at e;rw[hT,e]
  .rw[ay hb] at e;exact gh _ _ e
 .rw[ay];intro z;subst z;rw[hT] at e;cases e;rw[MC] at k;cases k
theorem EG (h:DE Γ X iter f):DI Γ X tg iter (kL f):=⟨(RD h.1).imp fun σ H R=>by
 rintro⟨G₀,H₀,G,ρ,ds,A,h,k⟩;unfold kL at h;obtain⟨d,hd,h⟩:=oBd h;refine⟨G₀,H₀,G,ρ,d,A,hd,fun v G' H' s r=>?_⟩;unfold AT at h;split at h
 .cases h;cases r with
  |fdt h1 h2 h3=>
   rename_i kvs a o us;have hln:us.length=kvs.length:=by simpa using bO cI h2
   refine⟨_,_,_,rfl,s.gh _ _ h1,k _ G' H' s ⟨fun i d G2 H2 hd g1 g2=>?_,fun G2 H2 g1 g2=>⟨g2 _ _ (g1 _ _ h1),by rw[qg,hln]⟩⟩⟩;rw[ql] at hd;obtain⟨kd,hkd,rfl⟩:=oMd hd;have hi:i<us.length:=by rw[hln];exact(fJ.mp hkd).1
   refine⟨⟨g2 _ _ (g1 _ _ h1),hi⟩,fun x H3 ⟨e1,kv,T,hkv,ev,hT⟩=>?_⟩;subst e1 ev;have ek:kv.1=kd.1:=by have:=bO (fun l=>l[i]?) h2;simp only[ql,hkv,hkd,qf,zF] at this;exact this
   exact⟨_,.key g2 hT,.tup aV (by rw[ek];exact BV _)⟩
 .cases h⟩
end
end
section
open PyProof
def tfD:D->aN
 |.tup t=>t.all fW
 |_=>ar
def ltf:D->aN
 |.lst l=>l.all tfD
 |_=>ar
section
variable {c:Expr}
theorem oR:∀{vs:ac V} {ds:ac D},Reps Γ K G vs ds->ds.all fW=ah->Reps Γ K G' vs ds
 |_,[],r,_=>by cases r;exact .nil
 |_,_::_,r,h=>by obtain _|⟨r,t⟩:=r;rw[zG,eX] at h;exact .cons (r.flat h.1) (oR t h.2)
theorem DV {a:au} {o:Obj} {u:HO} (ha:G a=aa (.frz o u)):∀{vs:ac V} {ds:ac D},Reps Γ K G vs ds->ds.all tfD=ah->Reps Γ K (del G a) vs ds
 |_,[],r,_=>by cases r;exact .nil
 |_,_::_,r,h=>by
  obtain _|⟨r,t⟩:=r;rw[zG,eX] at h;refine .cons ?_ (DV ha t h.2);cases r with
  |tup hb rs=>exact .tup (by rw[pI (fun z=>by rw[z,ha] at hb;cases hb)];exact hb) (oR rs h.1)
  |_=>cases h.1
theorem P5 {o:Obj} {u:HO} (ha:G a=aa (.frz o u)) (r:Rep Γ K G v d) (h:ltf d=ah):Rep Γ K (del G a) v d:=by
 cases r with
 |lst hb rs=>exact .lst (by rw[pI (fun z=>by rw[z,ha] at hb;cases hb)];exact hb) (DV ha rs h)
 |_=>cases h
def kx:aq Slot->aq Slot
 |some (.sh d)=>if fW d=ah then aa (.sh d) else af
 |_=>af
def nJ (i:ak) (f:FE):FE:=fun ρ=>match ρ[i]? with
 |some (aa (.sh (.dt kvs)))=>if (kvs.map (·.2)).all fW=ah then (f ((ρ.map kx).set i (aa (.sh (.fdt kvs))))).bind fun d=>if ltf d=ah then aa d else af else af
 |_=>af
theorem D8 (i:ak) (h:DE Γ X c f):DE Γ X c (nJ i f):=⟨fun pins s σ H Q I q=>by
 obtain⟨G₀,H₀,G,ρ,d,A,hq,k⟩:=q;unfold nJ at hq;split at hq
 .rename_i kvs hi;split at hq
  .rename_i hfl;obtain⟨d',hd',hq⟩:=oBd hq;split at hq
   .rename_i hlt;cases hq;obtain⟨v,h1,h2⟩:=A.env.sh i _ hi;cases h2 with
    |dt g3 q4 q5=>
     rename_i a us;have q3:=A.gh _ _ g3;have hnf:=I.nofrzT q3;obtain⟨ob,hob⟩:=(I.hok a _ q3).there;have I1:=I.frzT q3 hob;have gh1:aQ (upd (fun _=>af) a (.frz ob (.dT us))) (upd H a (.frz ob (.dT us))):=fun b u e=>by
      by_cases hb:b=a
      .subst hb;rw[aV] at e ⊢;exact e
      .rw[ay hb] at e;cases e
     have A1:At Γ X.K (upd (fun _=>af) a (.frz ob (.dT us))) (upd H a (.frz ob (.dT us))) (upd (fun _=>af) a (.frz ob (.dT us))) (upd H a (.frz ob (.dT us))) ((ρ.map kx).set i (aa (.sh (.fdt kvs)))) σ:=by
      have key:∀(j:ak) s,((ρ.map kx).set i (aa (.sh (.fdt kvs))))[j]?=aa (aa s)->(j=i/\s=.sh (.fdt kvs))\/∃d,s=.sh d/\fW d=ah/\ρ[j]?=aa (aa (.sh d)):=fun j s e=>by
       by_cases hj:j=i
       .subst hj;have hlt:j<(ρ.map kx).length:=by rw[qg];exact(fJ.mp hi).1
        rw[nR hlt] at e;cases e;exact .inl ⟨rfl,rfl⟩
       .rw[qz (cH hj),ql] at e;obtain⟨o,ho,e⟩:=oMd e;unfold kx at e;split at e
        .split at e
         .rename_i hf;cases e;exact .inr ⟨_,rfl,hf,ho⟩
         .cases e
        .cases e
      refine⟨.refl gh1,.ofSh (by rw[S4,qg];exact A.env.len) (fun j s e=>?_) fun j d e=>?_⟩
      .rcases key j s e with⟨_,z⟩|⟨d,z,_⟩<;>exact⟨_,z⟩
      .rcases key j _ e with⟨z1,z2⟩|⟨d,z,z2,z3⟩
       .subst z1;cases z2;exact⟨_,h1,.fdt aV q4 (oR q5 hfl)⟩
       .cases z;obtain⟨v,y1,y2⟩:=A.env.sh j _ z3;exact⟨v,y1,y2.flat z2⟩
     refine thn (h.1 pins s σ _ (fun x H'=>H' a=aa (.frz ob (.dT us))/\Q x (upd H' a (.dT us))) I1 ⟨_,_,_,_,_,A1,hd',fun v G' H' s' r=>⟨s'.hh _ _ aV,?_⟩⟩) fun r s1 q=>?_
     .have hH:∀b u,b≠a->H b=aa u->H' b=aa u:=fun b u hb e=>s'.hh b u (by rw[ay hb];exact e);have sm:aQ (del G' a) (fun b=>match G b with|some u=>aa u|none=>del G' a b):=fun b u e=>by
       show(match G b with|some u=>aa u|none=>del G' a b)=aa u;split
       .rename_i u' hu;have hb:b≠a:=fun z=>by rw[z,Mb] at e;cases e
        rw[pI hb] at e;have:=hH b u' hb (A.gh _ _ hu);rw[s'.gh _ _ e] at this;exact this.symm
       .exact e
      refine k v (fun b=>match G b with|some u=>aa u|none=>del G' a b) _ ⟨fun x u e=>?_,fun x u e=>?_,fun x u e=>?_,fun x u e ek=>?_⟩ ((P5 (s'.gg _ _ aV) r hlt).mono sm)
      .by_cases hx:x=a
       .subst hx;rw[aV,←e,q3]
       .rw[ay hx];exact hH x u hx e
      .show(match G x with|some u=>aa u|none=>del G' a x)=aa u;rw[e]
      .replace e:(match G x with|some u=>aa u|none=>del G' a x)=aa u:=e
       by_cases hx:x=a
       .subst hx;rw[g3] at e;rw[aV];exact e
       .rw[ay hx];split at e
        .rename_i u' hu;cases e;exact hH x _ hx (A.gh _ _ hu)
        .rw[pI hx] at e;exact s'.gh x u e
      .show(match G x with|some u=>aa u|none=>del G' a x)=G x;by_cases hx:x=a
       .subst hx;rw[g3]
       .cases hg:G x with
        |some u'=>rfl
        |none=>
         show del G' a x=af;rw[pI hx,s'.out x u (by rw[ay hx];exact e) ek,ay hx]
     .obtain⟨x,H',I',rv,hx,q⟩:=q;exact⟨x,_,I'.unfrzT hx hnf,rv,q⟩
   .cases hq
  .cases hq
 .cases hq⟩
end
end
section
open PyProof
section
variable {d:au} {es:bI pX} {od:Obj}
theorem Kh (hh:A.handled=af) (I:au) (hne:d≠I) (hdd:od.data=.dict es ep):j6 prog w A I [I,d] [I] es.size (fun i v=>∃en,es[i]?=aa en/\v=en.key) (fun i h=>h.IsKeyIter I d i es.size ep/\h.get? d=aa od) where
 sub:=fun b hb=>by simp at hb;simp[hb]
 frame:=fun _ _ _ st hk=>⟨st.1.at fun o e=>hk I (by simp) o e,hk d (by simp) _ st.2⟩
 item:=fun i s Q E hi st hQ=>t6 hh st.1 st.2 hdd (fun en h' hen st' hs=>hQ _ h' s.toks ⟨en,hen,rfl⟩ ⟨st',hs.extBut d _ hne st.2⟩ fun b o hb e=>hs.extBut b o (fun z=>hb (by simp[z])) e) fun hx=>by rw[Ux] at hx;omega
 done:=fun s Q E st hQ=>t6 hh st.1 st.2 hdd (fun en h' hen st' hs=>by have:=(ge.mp hen).1;omega) fun hx h' hs=>hQ h' s.toks fun b o hb e=>hs b o (fun z=>hb (by simp[z])) e
 self:=fun _ _ _ _ st hQ=>Gu st.1 hQ
theorem N3 (lo:(d==hG)=ar) (hx:od.ExactDict) (hdd:od.data=.dict es ep):PySem.W.KdlSrc prog w "dict" d d es.size (fun i v=>∃en,es[i]?=aa en/\v=en.key) (fun h=>h.get? d=aa od) where
 type:=fun _ hm=>⟨od,hm,hx.1⟩
 there:=fun _ hm=>⟨qv hm,qv hm⟩
 keep:=fun _ _ hm hk=>hk d (.inl rfl) _ hm
 notList:=by decide
 notTuple:=by decide
 hint:=fun _ _ _ _ hm hq=>PySem.W.kdl_hint_dict ⟨od,hm,hx.1⟩ hq
 iter:=fun _ _ hh hm=>⟨_,_,(fun _ _ hq=>DZ lo hm hx hdd fun h' e=>by subst e;exact hq),Kh hh _ (qD (qv hm)) hdd,⟨⟨_,qH _ rfl,rfl,rfl⟩,qu _ hm⟩⟩
end
theorem wN:∀{xs:ac V} {us:ac av},xs.length=us.length->(∀(j:ak) x u,xs[j]?=aa x->us[j]?=aa u->bp x u)->aU xs us
 |[],[],_,_=>.nil
 |[],_::_,e,_=>by cases e
 |_::_,[],e,_=>by cases e
 |x::xs,u::us,e,h=>.cons (h 0 x u rfl rfl) (wN (by simpa using e) fun j y v h1 h2=>h (j+1) y v h1 h2)
noncomputable abbrev KTs (H:Hp):ac .(ax)->ac au->Prop:=Paired fun kv T=>H T=aa (.tup (kv.1.map kV))
theorem KT.adr {H:Hp}:∀{us:ac .(ax)} {xs:ac (ac Key×au×av)},KT H us xs->KTs H us (xs.map (·.2.1))
 |_,[],h=>by cases h;exact .nil
 |_,_::_,h=>by obtain _|⟨h,t⟩:=h;exact .cons h.2.1 (KT.adr t)
theorem Dx (hc:X.calm=ah):dO X (.type "list") (fun xs H Q=>∃(a:au) (us:ac .(ax)),xs=[.ref a]/\Rd H a (.dT us)/\∀p Ts,H p=af->KTs H us Ts->Q (.ref p) (upd H p (.lst (Ts.map V.ref)))):=by
 intro pins s σ H xs vs Q I r h;obtain⟨a,us,rfl,ha,q⟩:=h;obtain⟨u,rfl,ru⟩:=eJ r;cases ru;obtain⟨z,md,ys,kt,od,es,ep,h1,h2,h3,h4,h5,h6⟩:=iW I.hok ha;have hlen:us.length=ys.length:=Paired.length kt;have hsz:es.size=ys.length:=Uw h4;refine Uy (N3 md h2 h3) .(bz) h1 .(b) fun h' tk acc c hk hL hacc=>?_;have hl2:acc.toList.length=es.size:=by rw[iE];exact hacc.1
 have hno:∀u,s.heap.get? s.heap.objs.size=aa u->False:=fun u e=>fE _ (qv e);have hn:=I.none_of hno;refine⟨.ref s.heap.objs.size,upd H s.heap.objs.size (.lst ((ys.map (·.2.1)).map V.ref)),I.many (t':=tk) hk (fun b o e=>by rw[ay (bi e hn)];exact e) (fun b o e1 e2=>?_),rfl,q _ _ hn kt.adr⟩;by_cases hb:b=s.heap.objs.size
 .subst hb;rw[aV] at e2;cases e2;refine⟨hno,by rw[qg,qg];omega,acc.toList,c,wN (by rw[qg,qg,hl2,hsz]) fun j x u h1 h2=>?_,by rw[Gs];exact hL⟩;obtain⟨en,g1,g2⟩:=hacc.2 j u (by rw[←qJ];exact h2);rw[entry_at h4] at g1;obtain⟨y,g3,rfl⟩:=oMd g1;rw[ql,ql,g3] at h1;cases h1;rw[g2];rfl
 .rw[ay hb,e1] at e2;cases e2
theorem Step.keys {K:aM} {H:Hp}:∀{us:ac .(ax)} {Ts:ac au} {kvs:ac .(ah)} {G:Hp},aQ G H->KTs H us Ts->us.map (·.1)=kvs.map (·.1)->∃G',Step G H G' H/\Reps Γ K G' (Ts.map V.ref) (kvs.map fun kv=>D.tup (kv.1.map eA))
 |[],_,[],G,gh,.nil,_=>⟨G,.refl gh,.nil⟩
 |[],_,_::_,_,_,_,e=>by cases e
 |_::_,_,[],_,_,_,e=>by cases e
 |u::us,_,k::kvs,G,gh,.cons (b:=T) h t,e=>by have e1:u.1=k.1:=(dB e).1;have s1:=Step.key gh h;obtain⟨G',s2,r⟩:=Step.keys s1.gh t (dB e).2;exact⟨G',s1.trans s2,.cons (.tup (s2.gg _ _ aV) (by rw[e1];exact BV _)) r⟩
def wC:FQ
 |[.dt kvs]=>aa (.lst (kvs.map fun kv=>D.tup (kv.1.map eA)))
 |[.fdt kvs]=>aa (.lst (kvs.map fun kv=>D.tup (kv.1.map eA)))
 |_=>af
theorem No (hc:X.calm=ah):TyD Γ X "list" wC:=⟨_,Dx hc,fun {G H vs ds z} gh r h Q k=>by
 have fin:∀{us:ac .(ax)} {kvs:ac .(ah)},us.map (·.1)=kvs.map (·.1)->(∀w G' H',Step G H G' H'->Rep Γ X.K G' w (.lst (kvs.map fun kv=>D.tup (kv.1.map eA)))->Q w H')->
   ∀p Ts,H p=af->KTs H us Ts->Q (.ref p) (upd H p (.lst (Ts.map V.ref))):=fun h2 k p Ts hp hT=>by
  obtain⟨G',s,r⟩:=Step.keys (Γ:=Γ) (K:=X.K) gh hT h2;exact gO s.gh r (fun w G2 H2 s2 r2=>k w G2 H2 (s.trans s2) r2) p hp
 unfold wC at h;split at h
 .cases h;obtain⟨v,rfl,r1⟩:=r.one;cases r1 with
  |dt h1 h2 h3=>exact⟨_,_,rfl,.inl (gh _ _ h1),fin h2 k⟩
 .cases h;obtain⟨v,rfl,r1⟩:=r.one;cases r1 with
  |fdt h1 h2 h3=>exact⟨_,_,rfl,.inr ⟨_,gh _ _ h1⟩,fin h2 k⟩
 .cases h⟩
end
section
open PyProof
def sZ:FQ
 |[.dk kvs]=>aa (.lst (kvs.map fun kv=>eA kv.1))
 |_=>af
theorem EW (hc:X.calm=ah):dO X (.type "list") (fun xs H Q=>∃(a:au) (us:ac (Key×V)),xs=[.ref a]/\Rd H a (.dK us)/\∀p,H p=af->Q (.ref p) (upd H p (.lst (us.map fun kv=>kV kv.1)))):=by
 intro pins s σ H xs vs Q I r h;obtain⟨a,us,rfl,ha,q⟩:=h;obtain⟨u,rfl,ru⟩:=eJ r;cases ru;obtain⟨z,md,va,qa,da⟩:=gM I.hok ha;obtain⟨ep,hat⟩:=da.dictAt;have hlen:us.length=va.length:=qa.length;refine Uy (Uv (knd:=cj X.prog X.w) (kvs:=va) (ep:=ep) md) .(bz) hat .(b) fun h' tk acc c hk hL hacc=>?_;have hl2:acc.toList.length=va.length:=by rw[iE];exact hacc.1
 have hno:∀u,s.heap.get? s.heap.objs.size=aa u->False:=fun u e=>fE _ (qv e);have hn:=I.none_of hno;refine⟨.ref s.heap.objs.size,upd H s.heap.objs.size (.lst (us.map fun kv=>kV kv.1)),I.many (t':=tk) hk (fun b o e=>by rw[ay (bi e hn)];exact e) (fun b o e1 e2=>?_),rfl,q _ hn⟩;by_cases hb:b=s.heap.objs.size
 .subst hb;rw[aV] at e2;cases e2;refine⟨hno,by rw[qg];exact z,acc.toList,c,wN (by rw[qg,hl2,hlen]) fun j x u h1 h2=>?_,by rw[Gs];exact hL⟩;obtain⟨k,y,g1,g2⟩:=hacc.2 j u (by rw[←qJ];exact h2);rw[ql] at h1;obtain⟨kv,g3,rfl⟩:=oMd h1;have g4:(us.map (·.1))[j]?=(va.map (·.1))[j]?:=by rw[qa.keys]
  rw[ql,ql,g1,g3] at g4;have g5:kv.1=k:=qI g4;rw[g5];exact Eu g2
 .rw[ay hb,e1] at e2;cases e2
theorem vO {K:aM} {G:Hp}:∀{us:ac (Key×V)} {kvs:ac (Key×D)},us.map (·.1)=kvs.map (·.1)->Reps Γ K G (us.map fun kv=>kV kv.1) (kvs.map fun kv=>eA kv.1)
 |[],[],_=>.nil
 |[],_::_,e=>by cases e
 |_::_,[],e=>by cases e
 |u::us,k::kvs,e=>by have e1:u.1=k.1:=(dB e).1;exact .cons (show Rep Γ K G (kV u.1) (eA k.1) by rw[e1];exact Dg _) (vO (dB e).2)
theorem Ep (hc:X.calm=ah):TyD Γ X "list" sZ:=⟨_,EW hc,fun {G H vs ds z} gh r h Q k=>by
 unfold sZ at h;split at h
 .cases h;obtain⟨v,rfl,r1⟩:=r.one;cases r1 with
  |dk h1 h2 h3=>exact⟨_,_,rfl,.inl (gh _ _ h1),gO gh (vO h2) k⟩
 .cases h⟩
end
section
open PyProof
section
variable {c:Expr}
noncomputable def pK (i:ak) (ft:FT):FT:=fun ρ=>match ρ[i]? with
 |some (aa (.odt kvs))=>ft (ρ.set i (aa (.sh (.dt kvs))))
 |_=>af
theorem OA (i:ak) (h:DT Γ X c ft):DT Γ X c (pK i ft):=⟨h.1.imp fun σ H Q=>by
 rintro⟨G₀,H₀,G,ρ,b,A,h,k⟩;unfold pK at h;split at h
 .rename_i kvs hi;obtain⟨G1,sm,A1⟩:=A.frzD hi (d:=.dt kvs) rfl;exact⟨G₀,H₀,G1,_,b,A1,h,fun G' H' s=>k G H' (s.back A.gh sm)⟩
 .cases h⟩
end
end
section
open PyProof
theorem M8 (hc:X.calm=ah):dO X (.builtin "min") (fun xs H Q=>∃i j k,xs=[.int i,.int j,.int k]/\Q (.int (if j<i then (if k<j then k else j) else (if k<i then k else i))) H):=by
 intro pins s σ H xs us Q I r h;obtain⟨i,j,k,rfl,q⟩:=h;cases r with
 |cons r1 r=>
  cases r with
  |cons r2 r=>
   cases r with
   |cons r3 r=>
    cases r;obtain⟨t,rfl⟩:=r1;obtain⟨t',rfl⟩:=r2;obtain⟨t'',rfl⟩:=r3;refine min_three_ints .(bz) fun h' tk hk=>⟨_,H,I.kept hk,?_,q⟩;split
    .split<;>exact⟨_,rfl⟩
    .split<;>exact⟨_,rfl⟩
def xn:FQ
 |[.int i,.int j,.int k]=>aa (.int (if j<i then (if k<j then k else j) else (if k<i then k else i)))
 |_=>af
theorem OF (hc:X.calm=ah):BltD Γ X "min" xn:=⟨_,M8 hc,fun {G H vs ds z} gh r h Q k=>by
 unfold xn at h;split at h<;>cases h;cases r with
 |cons r1 r=>
  cases r with
  |cons r2 r=>
   cases r with
   |cons r3 r=>
    cases r;cases r1.int_inv;cases r2.int_inv;cases r3.int_inv;exact⟨_,_,_,rfl,k _ G H .(aD) (.int _)⟩⟩
end
section
open PyProof
def Itk (a:au) (o:Obj) (us:ac (Key×V)):It:=
 ⟨fun i H=>H a=aa .(Y)/\i<us.length,fun i H v H'=>H'=H/\∃kv,us[i]?=aa kv/\v=kV kv.1,fun i H=>H a=aa .(Y)/\i=us.length⟩
theorem NP (a it:au) (o:Obj) (us:ac (Key×V)) (va:ac (Key×av)) (ep:ak) (hne:a≠it) (hd:∀h:Heap,h.get? a=aa o->h.DictAt (cj P w) a va ep) (kv:KV us va) :
  Turn P w K tg (Itk a o us) [it] it (fun i h=>h.IsKeyIter it a i va.length ep) where
 mem:=by simp
 obj:=fun i h st b hb=>by
  have e:b=it:=by simpa using hb
  subst e;obtain⟨o,e,c,d⟩:=st;exact⟨o,e,fun v z=>by rw[d] at z;cases z⟩
 keep:=fun i h h' st k=>by obtain⟨o,e,r⟩:=st;exact⟨o,k it (by simp) o e,r⟩
 item:=by
  intro X hP hw hK hc i pins s σ H E I hf st hg;subst hP hw hK;obtain⟨hfr,hi⟩:=hg;obtain⟨f0,f1,f2,f3,f4,f5⟩:=hf it (by simp);have ho:s.heap.get? a=aa o:=(I.hok a _ hfr).1;refine(Uz (knd:=cj X.prog X.w) .(bz) it a hne va ep).item i s _ _ (by rw[←kv.length];exact hi) ⟨st,hd _ ho⟩ fun v h' tk hv st' kk=>?_;obtain⟨k,x,hk,hr⟩:=hv;have hp:(us.map (·.1))[i]?=(va.map (·.1))[i]?:=by rw[kv.keys]
  rw[ql,ql,hk] at hp;obtain⟨p,hp1,hp2⟩:=oMd hp;have hp3:p.1=k:=hp2;have I1:Inv X pins σ H {s with heap:=h',toks:=tk}:=I.turned .(bc) f0 f1 f3 f4 f5;obtain⟨oi,e,c,d⟩:=id st'.1;exact⟨v,rfl,ph (s:={s with heap:=h',toks:=tk}) e c d .(c) ⟨kV p.1,H,I1,by rw[hp3];exact Eu hr,⟨rfl,p,hp1,rfl⟩,st'.1,fun b hb=>(hf b hb).1⟩⟩
 done:=by
  intro X hP hw hK hc i pins s σ H E I hf st hg;subst hP hw hK;obtain⟨hfr,hi⟩:=hg;obtain⟨f0,f1,f2,f3,f4,f5⟩:=hf it (by simp);have ho:s.heap.get? a=aa o:=(I.hok a _ hfr).1;have hi':i=va.length:=by rw[←kv.length];exact hi
  subst hi';exact(Uz (knd:=cj X.prog X.w) .(bz) it a hne va ep).done s _ _ ⟨st,hd _ ho⟩ fun h' tk kk=>⟨rfl,I.turned .(bc) f0 f1 f3 f4 f5⟩
 self:=fun _ _ _ _ _ st h=>Gu st h
section
variable {c:Expr} {g:FG}
theorem Kb (he:PE X iter te):PI X tg iter (fun σ H R=>te σ H fun x H1=>∃(a:au) (us:ac (Key×V)),x=.ref a/\H1 a=aa (.dK us)/\∀o,(∀o' u,X.H₀ a≠aa (.frz o' u))->R (Itk a o us) (upd H1 a .(Y))):=by
 intro pins s σ H R I h;refine thn .(aN) fun v s1 ζ=>?_;obtain⟨x,H0,I0,r1,a,us,e,ha0,q0⟩:=ζ;subst e;cases r1;obtain⟨o,hob⟩:=(I0.hok a _ ha0).there;have q:=q0 o (I0.nofrz ha0);have I1:=I0.frz ha0 hob;have ha:upd H0 a .(Y) a=aa .(Y):=aV;obtain⟨z,md,va,qa,da⟩:=gM I1.hok (.inr ⟨o,ha⟩);obtain⟨ep,hat⟩:=da.dictAt;have ho:s1.heap.get? a=aa o:=(I1.hok a _ ha).1;refine wpAny_pyIter_dict md hat ?_;refine⟨s1.heap.objs.size,[s1.heap.objs.size],_,_,_,rfl,I1.kept (t':=s1.toks) fun b u e=>qu _ e,NP a s1.heap.objs.size o us va ep (qD (qv ho)) (fun h' e=>hat.at' fun o' e'=>by rw[ho] at e';cases e';exact e) qa,⟨_,qH _ rfl,rfl,rfl⟩,fun b hb=>?_,q⟩;have e:b=s1.heap.objs.size:=by simpa using hb
 subst e;exact I1.fpOk (qw _) (I1.hok.fresh (qw _))
def lfD:D->aN
 |.lst l=>l.all fW
 |d=>fW d
def lfS:aq Slot->aq Slot
 |some (.sh d)=>if lfD d=ah then aa (.sh d) else af
 |_=>af
theorem QC (hs:∀b vs,G b=aa (.lst vs)->G1 b=aa (.lst vs)) (r:Rep Γ K G v d) (h:lfD d=ah):Rep Γ K G1 v d:=by
 by_cases hf:fW d=ah
 .exact r.flat hf
 .cases r with
  |lst hb rs=>exact .lst (hs _ _ hb) (oR rs h)
  |_=>first|exact bu rfl hf|cases h
def rV (f:FE) (g:FG) (ft:FT) (fe:FE) (fv:ac (aq ak)):FA:=fun ρ=>match f ρ with
 |some (.dk kvs)=>if kvs.length<=aJ then (cg g ft fe (kvs.map fun kv=>eA kv.1) ((eS fv ρ).map lfS)).bind fun ds=>if ds.all fW=ah then aa ds else af else af
 |_=>af
theorem Bp {s:Slot} (e:(ρ.map lfS)[j]?=aa (aa s)):∃d,s=.sh d/\lfD d=ah/\ρ[j]?=aa (aa (.sh d)):=by
 rw[ql] at e;obtain⟨o,ho,e⟩:=oMd e;unfold lfS at e;split at e
 .split at e
  .rename_i hf;cases e;exact⟨_,rfl,hf,ho⟩
  .cases e
 .cases e
theorem HB (hc:X.calm=ah) (S:CompScope X scope) (F:FvOk X N' scope fv) (hi:DE Γ X iter f) (hb:DB Γ X N' scope tg ifs elt g ft fe) (hs:∀x,lf iter X.env x=aT x:=by intro _;rfl) :
  DO Γ X .(r) (rV f g ft fe fv):=⟨fun pins s σ H Q I q=>by
 obtain⟨G₀,H₀,G,ρ,ds,A,h,k⟩:=q;unfold rV at h;split at h
 .rename_i kvs hf;split at h
  .rename_i hz;obtain⟨ds',hd,h⟩:=oBd h;split at h
   .rename_i hfl;cases h;refine thn (ES hc S F (Kb hi.1) hb.pb hs pins s σ H (fun x H2=>∃(a:au) (o:Obj) (us:ac (Key×V)),H2 a=aa .(Y)/\(∀o' u,X.H₀ a≠aa (.frz o' u))/\Q x (upd H2 a (.dK us))) I ⟨G₀,H₀,G,ρ,_,A,hf,fun v G' H' s r=>?_⟩) fun r s1 q=>?_
    .cases r with
     |dk h1 h2 h3=>
      rename_i a us;have ha:=s.gh _ _ h1;refine⟨a,us,rfl,ha,fun o hnf acc hacc=>?_⟩;have hln:us.length=kvs.length:=by simpa using bO cI h2
      have gh1:aQ (upd G' a .(Y)) (upd H' a .(Y)):=fun b u e=>by
       by_cases hb:b=a
       .subst hb;rw[aV] at e ⊢;exact e
       .rw[ay hb] at e ⊢;exact s.gh _ _ e
      obtain⟨A0,no0⟩:=CP (fv:=fv) (A.step s);have no1:eK ((eS fv ρ).map lfS):=fun j t e=>by obtain⟨d,z,_⟩:=Bp e;exact⟨d,z⟩
      have A1:At Γ X.K (upd G' a .(Y)) (upd H' a .(Y)) (upd G' a .(Y)) (upd H' a .(Y)) ((eS fv ρ).map lfS) (g8 fv σ):=by refine⟨.refl gh1,.ofSh (by rw[qg];exact A0.env.len) no1 fun j d e=>?_⟩;obtain⟨d',z,hl,e'⟩:=Bp e;cases z;obtain⟨v,y1,y2⟩:=A0.env.sh j _ e';exact⟨v,y1,QC (fun b vs eb=>by rw[ay (fun z=>by rw[z,h1] at eb;cases eb)];exact eb) y2 hl⟩
      have Y:Yd Γ X.K (Itk a o us) (upd G' a .(Y)) (kvs.map fun kv=>eA kv.1):=by
       refine⟨fun i d G2 H2 hd g1 g2=>?_,fun G2 H2 g1 g2=>⟨g2 _ _ (g1 _ _ aV),by rw[qg,hln]⟩⟩;rw[ql] at hd;obtain⟨kd,hkd,rfl⟩:=oMd hd;have hi:i<us.length:=by rw[hln];exact(fJ.mp hkd).1
       refine⟨⟨g2 _ _ (g1 _ _ aV),hi⟩,fun x H3 ⟨e1,kv,hkv,ev⟩=>?_⟩;subst e1 ev;have ek:kv.1=kd.1:=by have:=bO (fun l=>l[i]?) h2;simp only[ql,hkv,hkd,qf,zF] at this;exact this
       exact⟨G2,.refl g2,by rw[ek];exact Dg _⟩
      refine EY (hb.1 [] 0 X.s₀ X.H₀ []).1.no A1 no1 Y (by rw[qg];exact hz) hd hacc fun p vs G2 H2 s2 hp rs=>?_;have h2a:H2 a=aa .(Y):=s2.hh _ _ aV;have npa:a≠p:=bi h2a hp;refine⟨a,o,us,by rw[ay npa];exact h2a,hnf,?_⟩;have sw:upd (upd H2 p (.lst vs)) a (.dK us)=upd (upd H2 a (.dK us)) p (.lst vs):=by
       funext b
       by_cases hb:b=a
       .subst hb;rw[aV,ay npa,aV]
       .rw[ay hb];by_cases hb2:b=p
        .subst hb2;rw[aV,aV]
        .rw[ay hb2,ay hb2,ay hb]
      rw[sw];have hh:aQ H' (upd H2 a (.dK us)):=fun b u e=>by
       by_cases hb:b=a
       .subst hb;rw[aV,←e,ha]
       .rw[ay hb];exact s2.hh _ _ (by rw[ay hb];exact e)
      exact k p vs G' (upd H2 a (.dK us)) (s.trans ⟨hh,.refl _,s.gh.trans hh,fun _ _ _ _=>rfl⟩) (by rw[ay npa.symm];exact hp) (oR rs hfl)
    .obtain⟨x,H2,I2,rv,a,o,us,hx,hnf,q⟩:=q;exact⟨x,_,I2.unfrz hx hnf,rv,q⟩
   .cases h
  .cases h
 .cases h⟩
end
end
section
open PyProof
def sL:FQ
 |[.dk l]=>aa (.dk l)
 |[.fdk l]=>aa (.dk l)
 |_=>af
end
section
open PyProof
theorem wO (hc:X.calm=ah):dO X (.type "dict") (fun xs H Q=>∃(a:au) (us:ac (Key×V)),xs=[.ref a]/\Rd H a (.dK us)/\∀p,H p=af->Q (.ref p) (upd H p (.dK us))):=by
 intro pins s σ H xs vs Q I r h;obtain⟨a,us,rfl,ha,q⟩:=h;obtain⟨u,rfl,ru⟩:=eJ r;cases ru;obtain⟨z,md,va,qa,da⟩:=gM I.hok ha;have hlen:us.length=va.length:=qa.length;refine kt_call_dict (knd:=cj X.prog X.w) (more:=va) md da .(b) fun h' hd hs=>?_;refine⟨.ref s.heap.objs.size,_,I.laid (a:=s.heap.objs.size) (o:=.dK us) (fun b u e=>?_) (qw _) ⟨z,?_,va,qa,hd⟩,rfl,q _ I.fresh⟩
 .exact(hs.2 b (qD (qv e))).trans (qu _ e)
 .exact kW.mpr (cH (qD I.big))
theorem IV (hc:X.calm=ah):TyD Γ X "dict" sL:=⟨_,wO hc,fun {G H vs ds z} gh r h Q k=>by
 unfold sL at h;split at h
 .cases h;obtain⟨v,rfl,r1⟩:=r.one;cases r1 with
  |dk h1 h2 h3=>
   rename_i a us;refine⟨a,us,rfl,.inl (gh _ _ h1),fun p hp=>?_⟩;have s:=Step.new (o:=.dK us) gh hp;exact k _ _ _ s (.dk aV h2 (h3.mono s.gg))
 .cases h;obtain⟨v,rfl,r1⟩:=r.one;cases r1 with
  |fdk h1 h2 h3=>
   rename_i a o us;refine⟨a,us,rfl,.inr ⟨_,gh _ _ h1⟩,fun p hp=>?_⟩;have s:=Step.new (o:=.dK us) gh hp;exact k _ _ _ s (.dk aV h2 (h3.mono s.gg))
 .cases h⟩
end
theorem FunD.bindsd {f:au} (m:ak) (F:FunD K x qual st f fd items)
  (h:∀(T:au) (kV doc pm:av) (an:aq au) (cdv ct:av) (us:ac av),(us++items.drop m).length=ps.length->∃k,dQ (cV x qual (cW st) (bR st) (aB st) (.ref T) kV doc pm an cdv ct) ⟨us,[]⟩=fR (.ref T) >>= k/\k (aa items.toArray)=aT (ps.zip (us++items.drop m))):dU K fd ps (items.drop m):=by
 obtain⟨oc,od,T,kV,doc,pm,an,cdv,ct,osl,to,n,rfl,lk,hcd,lT,dT⟩:=F.ex;intro s us hin hl;obtain⟨k,h1,h2⟩:=h T kV doc pm an cdv ct us hl;exact .of_defaults (T:=T) rfl (hin T to lT) dT h1 h2
theorem DfnMD.calIUd {k:ak} {dd:ac D} (m:ak) (O:ClsOk Γ K mg c C) (F:DfnMD K C c "__init__" qual st dvs) (hdd:∀G,Reps Γ K G (dvs.drop m) dd) (S:FnScope N (s0::ps) (aB st))
  (hb:∀(T:au) (kV doc pm:av) (an:aq au) (cdv ct:av) (us items:ac av),us.length+(dvs.length-m)=(s0::ps).length->items.length=dvs.length->∃k,dQ .(K) ⟨us,[]⟩=fR (.ref T) >>= k/\k (aa items.toArray)=aT ((s0::ps).zip (us++items.drop m)))
  (hbody:∀(f y:au) (cdv:av) (A:cv) (outer:ac ci) (s:aE) (H:Hp) (E:XK),Room k .(j)->
   DSs (Γ.mk1 y) .(g).nox (bR st) g):CalIU Γ P w K mg base c ps.length (k+1) dd (fY .(ak) c g):=by
 obtain⟨f,fd,items,h1,hv,h2,h3⟩:=F.ex;have hl:items.length=dvs.length:=hv.length.symm;refine⟨C,f,fd,s0::ps,dvs.drop m,items.drop m,O.cn,⟨O.makes,h2,h3,O.kp⟩,O.mgC,h1.ok S (fun vs H Q E h=>se h) fun cdv A outer s H vs Q E hr h=>?_,h1.bindsd m fun T kV doc pm an cdv ct us hu=>hb T kV doc pm an cdv ct us items (by rw[qk,jq,hl] at hu;exact hu) hl,hv.drop m,hdd⟩;obtain⟨y,q⟩:=tm (N:=N) rfl O.cn h;exact⟨_,(hbody f y cdv A outer s H E hr).1,q⟩
section
variable {f:au} {E:XK}
 {pins:ac (au×Obj)} {σ:St} {H:Hp} {s:aE} {e C t dx:au}
end
section
variable {f CS fI:au} {E:XK}
 {R:ai->Hp->Prop} {x fl:ai} {np cpos pos:c8} {e₀:Expr} {fr:FA} {k j:ak}
end
section
open PyProof
mutual
def noF:D->aN
 |.tup l=>gF l
 |.lst l=>gF l
 |.dk l=>pF l
 |.dt l=>jH l
 |.ins _ l=>uz l
 |.scr _=>ar
 |.fdk _=>ar
 |.fdt _=>ar
 |.non=>ah
 |.bl _=>ah
 |.int _=>ah
 |.str _=>ah
 |.ty _=>ah
def gF:ac D->aN
 |[]=>ah
 |x::r=>noF x && gF r
def pF:ac (Key×D)->aN
 |[]=>ah
 |(_,x)::r=>noF x && pF r
def jH:ac .(ah)->aN
 |[]=>ah
 |(_,x)::r=>noF x && jH r
def uz:ac (ai×D)->aN
 |[]=>ah
 |(_,x)::r=>noF x && uz r
end
theorem xg:∀l:ac (Key×D),pF l=gF (l.map (·.2))
 |[]=>rfl
 |(_,x)::r=>by rw[pF,qo,gF,xg r]
theorem wB:∀l:ac .(ah),jH l=gF (l.map (·.2))
 |[]=>rfl
 |(_,x)::r=>by rw[jH,qo,gF,wB r]
theorem wY:∀l:ac (ai×D),uz l=gF (l.map (·.2))
 |[]=>rfl
 |(_,x)::r=>by rw[uz,qo,gF,wY r]
theorem pp (no:∀b∈fp,∃o u,G b=aa (.frz o u)) {o:HO} (h:G a=aa o) (n:∀ob u,o≠.frz ob u):e6 fp G a=aa o:=
 (jC fun z=>by obtain⟨ob,u,e⟩:=no a z;rw[h] at e;exact n _ _ (qI e)).trans h
theorem Rep.nof (no:∀b∈fp,∃o u,G b=aa (.frz o u)) (r:Rep Γ K G v d):noF d=ah->Rep Γ K (e6 fp G) v d:=by
 refine r.rec (motive_1:=fun v d _=>noF d=ah->Rep Γ K (e6 fp G) v d) (motive_2:=fun vs ds _=>gF ds=ah->Reps Γ K (e6 fp G) vs ds) (fun _=>.non) (fun _ _=>.bl _) (fun _ _=>.int _) (fun _ _=>.str _) (fun _ _=>.ty _) (fun h _ i hp=>.tup (pp no h fun _ _ z=>by cases z) (i (by rw[noF] at hp;exact hp))) (fun h _ i hp=>.lst (pp no h fun _ _ z=>by cases z) (i (by rw[noF] at hp;exact hp))) ?_ (fun h e _ i hp=>.dk (pp no h fun _ _ z=>by cases z) e (i (by rw[noF,xg] at hp;exact hp))) ?_ (fun h e _ i hp=>.dt (pp no h fun _ _ z=>by cases z) e (i (by rw[noF,wB] at hp;exact hp))) ?_ (fun h c e _ i hp=>.ins (pp no h fun _ _ z=>by cases z) c e (i (by rw[noF,wY] at hp;exact hp))) (fun _=>.nil) (fun _ _ a b hp=>?_)
 all_goals intros
 all_goals rename_i hp
 any_goals (rw[noF] at hp;cases hp;done)
 rw[gF] at hp;exact .cons (a (vc.mp hp).1) (b (vc.mp hp).2)
noncomputable def loF:Fld->D
 |.d d=>d
 |.k l=>.fdk l
 |.t l=>.fdt l
noncomputable def i8:Fld->aN
 |.t _=>ar
 |_=>ah
section
variable {fs:ac Fld}
theorem BJ (I:Inv X pins σ H s):∀ps:ac au,ps.Nodup->(∀b∈ps,∃us,H b=aa (.dK us))->∃H1,Inv X pins σ H1 s/\(∀b,b∉ps->H1 b=H b)/\∀b∈ps,∃o us,H b=aa (.dK us)/\H1 b=aa .(Y)
 |[],_,_=>⟨H,I,fun _ _=>rfl,fun b hb=>by cases hb⟩
 |p::ps,nd,h=>by
  have nd':=cU.mp nd;obtain⟨H1,I1,h1,h2⟩:=BJ I ps nd'.2 fun b hb=>h b (qi _ hb);obtain⟨us,e⟩:=h p qh;have e1:H1 p=aa (.dK us):=(h1 p nd'.1).trans e;obtain⟨ob,hob⟩:=(I1.hok p _ e1).there;refine⟨_,I1.frz e1 hob,fun b hb=>?_,fun b hb=>?_⟩
  .rw[ay .(bI)];exact h1 b fun z=>hb (qi _ z)
  .by_cases hz:b=p
   .subst hz;exact⟨ob,us,e,aV⟩
   .rw[ay hz];exact h2 b ((bZ.mp hb).resolve_left hz)
theorem yg (I:Inv X pins σ H' s):∀ps:ac au,ps.Nodup->(∀b∈ps,∃o us,H b=aa (.dK us)/\H' b=aa .(Y)/\∀o u,X.H₀ b≠aa (.frz o u))->∃H2,Inv X pins σ H2 s/\(∀b,b∉ps->H2 b=H' b)/\∀b∈ps,H2 b=H b
 |[],_,_=>⟨H',I,fun _ _=>rfl,fun b hb=>by cases hb⟩
 |p::ps,nd,h=>by
  have nd':=cU.mp nd;obtain⟨H2,I1,h1,h2⟩:=yg I ps nd'.2 fun b hb=>h b (qi _ hb);obtain⟨ob,us,e,e',hn⟩:=h p qh;refine⟨_,I1.unfrz ((h1 p nd'.1).trans e') hn,fun b hb=>?_,fun b hb=>?_⟩
  .rw[ay .(bI)];exact h1 b fun z=>hb (qi _ z)
  .by_cases hz:b=p
   .subst hz;rw[aV,e]
   .rw[ay hz];exact h2 b ((bZ.mp hb).resolve_left hz)
theorem FldsR.kOnly {K:aM}:∀{vs:ac V} {fs:ac Fld} {ps:ac au},FldsR Γ K G H vs fs ps->fs.all i8=ah->∀b∈ps,∃us,H b=aa (.dK us)
 |_,[],_,r,_,b,hb=>by cases r;cases hb
 |_,_::_,_,r,ok,b,hb=>by
  obtain _|⟨r,t⟩:=r;rw[zG,eX] at ok;rcases cT.mp hb with hb|hb
  .cases r with
   |d _=>cases hb
   |k h _ _=>rw[bD.mp hb];exact⟨_,h⟩
   |t h _ _=>cases ok.1
  .exact t.kOnly ok.2 b hb
theorem FldsR.loD {K:aM} {qs:ac au} (gg:aQ G G1) (hq:∀b∈qs,∃o us,H b=aa (.dK us)/\G1 b=aa .(Y)):∀{vs:ac V} {fs:ac Fld} {ps:ac au},FldsR Γ K G H vs fs ps->fs.all i8=ah->(∀b∈ps,b∈qs)->Reps Γ K G1 vs (fs.map loF)
 |_,[],_,r,_,_=>by cases r;exact .nil
 |_,_::_,_,r,ok,hm=>by
  obtain _|⟨r,t⟩:=r;rw[zG,eX] at ok;refine .cons ?_ (t.loD gg hq ok.2 fun b hb=>hm b (qS _ hb));cases r with
  |d h=>exact h.mono gg
  |k h a c=>
   obtain⟨o,us,e1,e2⟩:=hq _ (hm _ (mz _ qh));rw[h] at e1;cases e1;exact .fdk e2 a (c.mono gg)
  |t h _ _=>cases ok.1
inductive LoLook (X:Cx) (ps:ac au) (G H G1 H1:Hp):Prop where
 |mk:ps.Nodup->(∀b∈ps,G b=af/\∃o us,H b=aa (.dK us)/\H1 b=aa .(Y)/\G1 b=aa .(Y)/\∀o u,X.H₀ b≠aa (.frz o u))->(∀b,b∉ps->H1 b=H b/\G1 b=G b)->LoLook X ps G H G1 H1
theorem B0 (I:Inv X pins σ H s) (A:At Γ X.K G₀ H₀ G H ρ σ) (hi:ρ[i]?=aa (aa (.lo fs))) (ok:fs.all i8=ah) :
  ∃ps G1 H1,LoLook X ps G H G1 H1/\Inv X pins σ H1 s/\At Γ X.K G₀ H₀ G1 H1 (ρ.set i (aa (.own (fs.map loF)))) σ:=by
 obtain⟨v,fp,h1,h2⟩:=A.get hi;cases h2 with
 |lo g2 g3 g4 g6=>
  rename_i a vs ps;have nd:=cU.mp g3;have kk:=g6.kOnly ok;obtain⟨H1,I1,e1,e2⟩:=BJ I ps nd.2 kk;have hn:∀b∈ps,G b=af:=fun b hb=>(g2 b (qi _ hb)).2;have g1n:∀b,b∉ps->jg ps H1 G b=G b:=fun b hb=>qZ hb;have g1p:∀b∈ps,jg ps H1 G b=H1 b:=fun b hb=>qY hb;have sm:aQ G (jg ps H1 G):=lJ hn;refine⟨ps,jg ps H1 G,H1,⟨nd.2,fun b hb=>?_,fun b hb=>⟨e1 b hb,g1n b hb⟩⟩,I1,A.ch hi h1 (.lo g2 g3 g4 g6) (fun b o e hb=>?_) (.own (g2 a qh).1 ((g1n a nd.1).trans (g2 a qh).2) ((e1 a nd.1).trans g4) (g6.loD sm (fun b hb=>?_) ok fun b hb=>hb)) (fun b hb=>.inl ?_) sm .(am) (fun b o e hb _=>?_)⟩
  .obtain⟨o,us,q1,q2⟩:=e2 b hb;exact⟨hn b hb,o,us,q1,q2,(g1p b hb).trans q2,I.nofrz q1⟩
  .rw[e1 b fun z=>hb (qi _ z)];exact e
  .obtain⟨o,us,q1,q2⟩:=e2 b hb;exact⟨o,us,q1,(g1p b hb).trans q2⟩
  .rw[bD.mp hb];exact qh
  .by_cases hb:b∈ps
   .rw[g1p b hb] at e;exact e
   .rw[g1n b hb] at e;rw[e1 b hb];exact A.gh b o e
  .exact g1n b fun z=>hb (qi _ z)
theorem AQ {ps:ac au} (gh:aQ G H) (l:LoLook X ps G H G1 H1) (s:Step G1 H1 G' H') (m1:∀b,b∉ps->H2 b=H' b) (m2:∀b∈ps,H2 b=H b):Step G H (e6 ps G') H2/\∀b∈ps,∃o u,G' b=aa (.frz o u):=by
 obtain⟨nd,hp,ho⟩:=l;refine⟨⟨fun b o e=>?_,fun b o e=>?_,fun b o e=>?_,fun b o e ek=>?_⟩,fun b hb=>?_⟩
 .by_cases hb:b∈ps
  .rw[m2 b hb];exact e
  .rw[m1 b hb];exact s.hh b o ((ho b hb).1.trans e)
 .have hb:b∉ps:=fun z=>by rw[(hp b z).1] at e;cases e
  exact(jC hb).trans (s.gg b o ((ho b hb).2.trans e))
 .by_cases hb:b∈ps
  .rw[show e6 ps G' b=af from qY hb] at e;cases e
  .rw[jC hb] at e;rw[m1 b hb];exact s.gh b o e
 .by_cases hb:b∈ps
  .rw[show e6 ps G' b=af from qY hb,(hp b hb).1]
  .rw[jC hb,s.out b o ((ho b hb).1.trans e) ek,(ho b hb).2]
 .obtain⟨_,o,us,_,_,e,_⟩:=hp b hb;exact⟨o,_,s.gg b _ e⟩
end
section
variable {c:Expr}
def mw (i:ak) (f:FE):FE:=fun ρ=>match ρ[i]? with
 |some (aa (.lo fs))=>if fs.all i8=ah then (f (ρ.set i (aa (.own (fs.map loF))))).bind fun d=>if noF d=ah then aa d else af else af
 |_=>af
def lH (i:ak) (f:FT):FT:=fun ρ=>match ρ[i]? with
 |some (aa (.lo fs))=>if fs.all i8=ah then f (ρ.set i (aa (.own (fs.map loF)))) else af
 |_=>af
theorem IZ (i:ak) (h:DE Γ X c f):DE Γ X c (mw i f):=⟨fun pins s σ H Q I q=>by
 obtain⟨G₀,H₀,G,ρ,d,A,hq,k⟩:=q;unfold mw at hq;split at hq
 .rename_i fs hi;split at hq
  .rename_i ok;obtain⟨d',hd',hq⟩:=oBd hq;split at hq
   .rename_i hf;cases hq;obtain⟨ps,G1,H1,l,I1,A1⟩:=B0 I A hi ok;refine thn (h.1 pins s σ H1 (fun x H'=>(∀b∈ps,H' b=H1 b)/\∀H2,(∀b,b∉ps->H2 b=H' b)->(∀b∈ps,H2 b=H b)->Q x H2) I1 ⟨G₀,H₀,G1,_,_,A1,hd',fun v G' H' s' r=>⟨fun b hb=>?_,fun H2 m1 m2=>?_⟩⟩) fun r s1 q=>?_
    .obtain⟨_,hp,_⟩:=l;obtain⟨_,o,us,_,e,_⟩:=hp b hb;rw[e];exact s'.hh b _ e
    .obtain⟨st,no⟩:=AQ A.gh l s' m1 m2;exact k v _ H2 st (r.nof no hf)
    .obtain⟨x,H',I',rv,hx,q⟩:=q;obtain⟨nd,hp,_⟩:=l;obtain⟨H2,I2,m1,m2⟩:=yg (H:=H) I' ps nd fun b hb=>by obtain⟨_,o,us,e1,e2,_,e3⟩:=hp b hb;exact⟨o,us,e1,(hx b hb).trans e2,e3⟩
     exact⟨x,H2,I2,rv,q H2 m1 m2⟩
   .cases hq
  .cases hq
 .cases hq⟩
theorem OX (i:ak) (h:DT Γ X c ft):DT Γ X c (lH i ft):=⟨fun pins s σ H Q I q=>by
 obtain⟨G₀,H₀,G,ρ,d,A,hq,k⟩:=q;unfold lH at hq;split at hq
 .rename_i fs hi;split at hq
  .rename_i ok;obtain⟨ps,G1,H1,l,I1,A1⟩:=B0 I A hi ok;refine thn (h.1 pins s σ H1 (fun x H'=>(∀b∈ps,H' b=H1 b)/\∀H2,(∀b,b∉ps->H2 b=H' b)->(∀b∈ps,H2 b=H b)->Q x H2) I1 ⟨G₀,H₀,G1,_,_,A1,hq,fun G' H' s'=>⟨fun b hb=>?_,fun H2 m1 m2=>?_⟩⟩) fun r s1 q=>?_
   .obtain⟨_,hp,_⟩:=l;obtain⟨_,o,us,_,e,_⟩:=hp b hb;rw[e];exact s'.hh b _ e
   .exact k _ H2 (AQ A.gh l s' m1 m2).1
   .obtain⟨H',I',hx,q⟩:=q;obtain⟨nd,hp,_⟩:=l;obtain⟨H2,I2,m1,m2⟩:=yg (H:=H) I' ps nd fun b hb=>by obtain⟨_,o,us,e1,e2,_,e3⟩:=hp b hb;exact⟨o,us,e1,(hx b hb).trans e2,e3⟩
    exact⟨H2,I2,q H2 m1 m2⟩
  .cases hq
 .cases hq⟩
end
end
variable {f0 f1:Fld}
section
open PyProof
section
variable {pc pk:c8}
theorem M4 (l:ac α) (n:ak):atI l (n:aj)=l[n]?:=by
 unfold atI ixN;rw[qY .(b)];by_cases h:n<l.length
 .rw[qY .(b)];simp
 .rw[qZ .(b)];simp;omega
noncomputable def fZ (j k:ak):FE:=fun ρ=>match ρ[j]? with
 |some (aa (.own ds))=>ds[k]?
 |_=>af
theorem tJ (j k:ak) {kk} (hN:X.N[j]?=aa x:=by rfl) (hv:Vis X.env.scope x:=by ac_nf) (hd:.(o)=ar:=by decide) (hcd:.(C)=ar:=by decide)
  (hs:o6 (.Constant (.int (k:aj)) kk pc):=by intro _ _;rfl):DE Γ X (.Subscript .(x) (.Constant (.int (k:aj)) kk pc) pos) (fZ j k):=⟨(sR uq .(aB) nG hs).imp fun σ H Q=>by
 rintro⟨G₀,H₀,G,ρ,d,A,h,kk⟩;unfold fZ at h;split at h
 .rename_i ds hi;obtain⟨a,vs,h1,h2,h3,h4,h5⟩:=A.env.own j ds hi;obtain⟨v,hv,rv⟩:=h5.get h;exact⟨_,h1,.inl ⟨a,vs,_,v,rfl,rfl,.inl (.inl h4),by rw[M4];exact hv,kk v G H (.refl A.gh) rv⟩⟩
 .cases h⟩
def dkL:D->aq (ac (Key×D))
 |.dk l=>aa l
 |_=>af
def pe (i:ak) (f:FE):FS:=fun ρ=>((f ρ).bind dkL).map fun l=>(.nx,ρ.set i (aa (.lo [.k l,.d .non])))
theorem Bz {l:ac (Key×D)} (r:Rep Γ K G v d) (h:dkL d=aa l):∃a us,v=.ref a/\G a=aa (.dK us)/\us.map (·.1)=l.map (·.1)/\Reps Γ K G (us.map (·.2)) (l.map (·.2)):=by
 unfold dkL at h;split at h
 .cases h;cases r with
  |dk h1 h2 h3=>exact⟨_,_,rfl,h1,h2,h3⟩
 .cases h
theorem MY (i:ak) {pn pl:c8} {j} (hN:X.N.Nodup) (hc:X.calm=ah) (hg:Gl X "dict") (hm:X.mg "dict"=af) (h:DE Γ X e f) (he:aH [e] X.env=(ar,eval e X.env)::aH [] X.env:=by rfl) (hpl:(bF p2 .(bC)).any (·.1)=ar:=by rfl)
  (he2:aH [.Call (.Name "dict" p) [e] [] p2,.Constant .none j pn] X.env=(ar,eval (.Call (.Name "dict" p) [e] [] p2) X.env)::aH [.Constant .none j pn] X.env:=by rfl)
  (hi:X.N[i]?=aa x:=by rfl) (hx:Loc X.env.scope x:=by ac_nf) (hs:dh (.List [.Call (.Name "dict" p) [e] [] p2,.Constant .none j pn] pl) (aa (.Name x pos')) pos.line X.env=aT ar:=by rfl) (hf:X.fn x=ah\/X.env.scope.names.lookup x=aa .local:=by ac_nf) :
  DS Γ X (.Assign [.Name x pos'] (.List [.Call (.Name "dict" p) [e] [] p2,.Constant .none j pn] pl) pos) (pe i f):=⟨(pd hN hi hx (EA (e7 (lC (wO hc) hg hm (by rfl) (e7 h.1 fD he) .(c) .(c) he hpl) (e7 B1 fD) he2)) hs hf).imp fun E σ H=>by
 rintro⟨G₀,H₀,G,ρ,fl,ρ',A,h,k⟩;unfold pe at h;obtain⟨l,hl,h⟩:=oMd h;cases h;obtain⟨d,hd,hl⟩:=oBd hl;refine⟨G₀,H₀,G,ρ,d,A,hd,fun v G1 H1 s1 r1=>?_⟩;have A2:=A.step s1;obtain⟨b,us,rfl,h1,h2,h3⟩:=Bz r1 hl;refine⟨b,us,rfl,.inl (A2.gh _ _ h1),fun q hq=>⟨by simp[aJ],fun a ha=>k _ G1 _ s1.gg ?_⟩⟩;have haq:a≠q:=fun z=>by rw[z,aV] at ha;cases ha
 have ha0:H1 a=af:=by rw[ay haq] at ha;exact ha
 refine A2.put (fp:=[]) (fp':=[a,q]) (.inl rfl) (fun b o e _=>by rw[ay (bi e ha0),ay (bi e hq)];exact e) (.lo (ps:=[q]) (fun b hb=>?_) ?_ aV (.cons (p:=[q]) (ps:=[]) (.k (by rw[ay haq.symm];exact aV) h2 h3) (.cons (p:=[]) (ps:=[]) (.d .non) .nil))) (fun b hb=>?_) (.refl _) .(am) .(ad) .(aX)
 .have hb':b=a\/b=q:=by simpa using hb
  rcases hb' with rfl|rfl
  .exact⟨A2.st.hh.free ha0,A2.gh.free ha0⟩
  .exact⟨A2.st.hh.free hq,A2.gh.free hq⟩
 .simp[haq]
 .have hb':b=a\/b=q:=by simpa using hb
  rcases hb' with rfl|rfl
  .exact .inr ha0
  .exact .inr hq
 .have e':=A2.gh b o e;rw[ay (bi e' ha0),ay (bi e' hq)];exact e'⟩
theorem vT {ps:ac au} (r:FldsR Γ K G H vs [f0,f1] ps):∃v0 v1 p0 p1,vs=[v0,v1]/\ps=p0++p1/\FldR Γ K G H v0 f0 p0/\FldR Γ K G H v1 f1 p1:=by
 cases r with
 |cons r0 t=>
  cases t with
  |cons r1 t=>
   cases t;exact⟨_,_,_,_,rfl,by rw[gH],r0,r1⟩
theorem wW {v0 v1:V} {p0 p1:ac au} (r0:FldR Γ K G H v0 f0 p0) (r1:FldR Γ K G H v1 f1 p1):FldsR Γ K G H [v0,v1] [f0,f1] (p0++p1):=by
 have:=FldsR.cons r0 (.cons r1 .nil)
 rwa [gH] at this
def nq (i:ak) (f:FE):FS:=fun ρ=>match ρ[i]? with
 |some (aa (.lo [f0,.d .non]))=>((f ρ).bind dkL).map fun l=>(.nx,ρ.set i (aa (.lo [f0,.k l])))
 |_=>af
theorem Mm (i:ak) {kk} (hc:X.calm=ah) (hg:Gl X "dict") (hm:X.mg "dict"=af) (h:DE Γ X e f) (he:aH [e] X.env=(ar,eval e X.env)::aH [] X.env:=by rfl) (hpl:(bF p2 .(bC)).any (·.1)=ar:=by rfl)
  (hN:X.N[i]?=aa x:=by rfl) (hv:Vis X.env.scope x:=by ac_nf) (hd:.(o)=ar:=by decide) (hcd:.(C)=ar:=by decide)
  (hs:Fp [.Subscript .(x) (.Constant (.int 1) kk pc) pk] (.Call (.Name "dict" p) [e] [] p2) pos.line X.env=aT ar:=by rfl) (hw:Fq [.Subscript .(x) (.Constant (.int 1) kk pc) pk] (.Call (.Name "dict" p) [e] [] p2) X.env=aT af:=by rfl) :
  DS Γ X (.Assign [.Subscript .(x) (.Constant (.int 1) kk pc) pk] (.Call (.Name "dict" p) [e] [] p2) pos) (nq i f):=⟨(Cf (lC (wO hc) hg hm (by rfl) (e7 h.1 fD he) .(c) .(c) he hpl) (HY .(aB) nG Sk) hs hw).imp fun E σ H=>by
 rintro⟨G₀,H₀,G,ρ,fl,ρ',A,h,k⟩;unfold nq at h;split at h
 .rename_i f0 hi;obtain⟨l,hl,h⟩:=oMd h;cases h;obtain⟨d,hd,hl⟩:=oBd hl;refine⟨G₀,H₀,G,ρ,d,A,hd,fun v G1 H1 s1 r1=>?_⟩;have A2:=A.step s1;obtain⟨b,us,rfl,h1,h2,h3⟩:=Bz r1 hl;refine⟨b,us,rfl,.inl (A2.gh _ _ h1),fun q hq=>?_⟩;obtain⟨v,fp,e1,e2⟩:=A2.get hi;cases e2 with
  |lo g2 g3 g4 g6=>
   rename_i a vs ps;obtain⟨v0,v1,p0,p1,rfl,rfl,r0,r1⟩:=vT g6;have ev:v1=.non:=by cases r1 with|d r=>cases r;rfl
   subst ev;cases r1;rw[gH] at g2 g3 g6;have haq:a≠q:=fun z=>by rw[z,hq] at g4;cases g4
   have h0:∀b∈p0,b≠q:=fun b hb z=>by obtain⟨o,e,_⟩:=r0.mem b hb;rw[z,hq] at e;cases e
   have nd:=cU.mp g3;have hS:SR Γ X.K H₀ G1 (upd (upd H1 q (.dK us)) a (.lst [v0,.ref q])) (.lo [f0,.k l]) (.ref a) (a::(p0++[q])):=by
    refine .lo (fun b hb=>?_) ?_ aV (wW (r0.stay (.refl _) fun b hb=>?_) (.k (by rw[ay haq.symm];exact aV) h2 h3))
    .rcases bZ.mp hb with rfl|hb
     .exact g2 _ qh
     .rcases cT.mp hb with hb|hb
      .exact g2 _ (qi _ hb)
      .rw[bD.mp hb];exact⟨A2.st.hh.free hq,A2.gh.free hq⟩
    .refine cU.mpr ⟨fun hb=>?_,iJ.mpr ⟨nd.2,cU.mpr ⟨(fun z=>by cases z),jr⟩,fun x hx y hy=>?_⟩⟩
     .rcases cT.mp hb with hb|hb
      .exact nd.1 hb
      .exact haq (bD.mp hb)
     .rw[bD.mp hy];exact h0 x hx
    .rw[ay (fun z=>nd.1 (by rw[←z];exact hb)),ay (h0 b hb)]
   refine⟨.ref a,e1,a,[v0,.non],1,1,rfl,rfl,by rw[ay haq];exact g4,rfl,?_⟩;refine k σ G1 _ s1.gg (A2.ch hi e1 (.lo g2 g3 g4 g6) (fun b o e hb=>?_) hS (fun b hb=>?_) (.refl _) .(am) .(ad))
   .rw[ay .(bI),ay (bi e hq)];exact e
   .rcases bZ.mp hb with rfl|hb
    .exact .inl qh
    .rcases cT.mp hb with hb|hb
     .exact .inl (qi _ hb)
     .rw[bD.mp hb];exact .inr hq
   .have ga:G1 a=af:=(g2 _ qh).2;have e':=A2.gh b o e;rw[ay (bi e ga),ay (bi e' hq)];exact e'
 .cases h⟩
theorem At.chLo {q:au} {ps:ac au} {fs fs':ac Fld} (A:At Γ K G₀ H₀ G H ρ σ) (hi:ρ[i]?=aa (aa (.lo fs))) (e1:σ[i]?=aa (aa (.ref a)))
  (g2:∀b∈a::ps,H₀ b=af/\G b=af) (g3:(a::ps).Nodup) (g4:H a=aa (.lst vs)) (g6:FldsR Γ K G H vs fs ps) (hq:q∈ps) (g7:FldsR Γ K G (upd H q (.dK us')) vs fs' ps):At Γ K G₀ H₀ G (upd H q (.dK us')) (ρ.set i (aa (.lo fs'))) σ:=by
 have nd:=cU.mp g3;have haq:a≠q:=fun z=>nd.1 (by rw[z];exact hq);refine A.ch hi e1 (.lo g2 g3 g4 g6) (fun b o e hb=>?_) (.lo g2 g3 (by rw[ay haq];exact g4) g7) (fun b hb=>.inl hb) (.refl _) .(am) .(ad)
 .rw[ay (fun z=>hb (by rw[z];exact qi _ hq))];exact e
 .rw[ay (bi e (g2 q (qi _ hq)).2)];exact A.gh b o e
noncomputable def oN (i:ak):FS:=fun ρ=>match ρ[i]? with
 |some (aa (.lo [.k _,f1]))=>aa (.nx,ρ.set i (aa (.lo [.k [],f1])))
 |_=>af
theorem HC (i:ak) {kk} (hN:X.N[i]?=aa x:=by rfl) (hv:Vis X.env.scope x:=by ac_nf) (hd:.(o)=ar:=by decide)
  (hcd:.(C)=ar:=by decide) (hs:o6 (.Constant (.int 0) kk pc):=by intro _ _;rfl) (hbase:gG .(aR) "clear" X.env (eval .(aR) X.env)=eval .(aR) X.env:=by rfl) (hline:.(bv)=ah:=by rfl)
  (hsw:dh (.Call (.Attribute .(aR) "clear" apos) [] [] cpos) af pos.line X.env=aT ar:=by rfl) :
  DS Γ X (.Expr (.Call (.Attribute .(aR) "clear" apos) [] [] cpos) pos) (oN i):=⟨(oz (R1 Tj Td PySem.F.type_dict_clear JE (sR uq .(aB) nG hs) hbase hline) hsw).imp fun E σ H=>by
 rintro⟨G₀,H₀,G,ρ,fl,ρ',A,h,k⟩;unfold oN at h;split at h
 .rename_i l f1 hi;cases h;obtain⟨v,fp,e1,e2⟩:=A.get hi;cases e2 with
  |lo g2 g3 g4 g6=>
   rename_i a vs ps;obtain⟨v0,v1,p0,p1,rfl,rfl,r0,r1⟩:=vT g6;cases r0 with
   |k q3 q4 q5=>
    rename_i q us;have nd:=iJ.mp (cU.mp g3).2;refine⟨_,e1,.inl ⟨a,_,0,.ref q,rfl,rfl,.inl (.inl g4),rfl,.inr (.inr (.inl ⟨rfl,.inl ⟨_,q3⟩⟩)),q,us,rfl,rfl,q3,k σ G _ (.refl _) (A.chLo hi e1 g2 g3 g4 g6 (mz _ qh) ?_)⟩⟩;exact wW (.k aV rfl .nil) (r1.stay (.refl _) fun b hb=>ay fun z=>nd.2.2 q qh b hb z.symm)
 .cases h⟩
def oB (i:ak) (fk f:FE):FS:=fun ρ=>match ρ[i]? with
 |some (aa (.lo [f0,.k l]))=>(f ρ).bind fun d=>(fk ρ).bind fun kd=>(f8 kd).bind fun k=>if l.length<100000 then aa (.nx,ρ.set i (aa (.lo [f0,.k (bQ l k d)]))) else af
 |_=>af
theorem JK (i:ak) {kk} (hu:X.A.units+66<bY) (hk:DE Γ X ke fk) (h:DE Γ X e f) (hN:X.N[i]?=aa x:=by rfl) (hv:Vis X.env.scope x:=by ac_nf) (hd:.(o)=ar:=by decide)
  (hcd:.(C)=ar:=by decide) (hs:o6 (.Constant (.int 1) kk pc):=by intro _ _;rfl)
  (hsw:dh e (aa (.Subscript (.Subscript .(x) (.Constant (.int 1) kk pc) p2) ke pk)) pos.line X.env=aT ar:=by rfl) :
  DS Γ X (.Assign [.Subscript (.Subscript .(x) (.Constant (.int 1) kk pc) p2) ke pk] e pos) (oB i fk f):=⟨(rP .(b) (sR uq .(aB) nG hs) hk.1 h.1 hsw).imp fun E σ H=>by
 rintro⟨G₀,H₀,G,ρ,fl,ρ',A,h,k⟩;unfold oB at h;split at h
 .rename_i f0 l hi;obtain⟨d,hd,h⟩:=oBd h;obtain⟨kd,hkd,h⟩:=oBd h;obtain⟨kk,hkk,h⟩:=oBd h;split at h
  .rename_i hz;cases h;refine⟨G₀,H₀,G,ρ,d,A,hd,fun v G1 H1 s1 r1=>?_⟩;have A1:=A.step s1;obtain⟨w,fp,e1,e2⟩:=A1.get hi;cases e2 with
   |lo g2 g3 g4 g6=>
    rename_i a vs ps;obtain⟨v0,v1,p0,p1,rfl,rfl,r0,r2⟩:=vT g6;cases r2 with
    |k q3 q4 q5=>
     rename_i q us;refine⟨_,e1,.inl ⟨a,_,1,.ref q,rfl,rfl,.inl (.inl g4),rfl,G₀,H₀,G1,ρ,kd,A1,hkd,fun u G2 H2 s2 ru=>?_⟩⟩;have A2:=A1.step s2;have eu:=kA ru hkk;subst eu;have st:∀b∈a::(p0++[q]),G2 b=af:=fun b hb=>by
      rcases bZ.mp hb with rfl|hb'
      .exact(s2.out _ _ g4 rfl).trans (g2 _ hb).2
      .obtain⟨o,e,ek⟩:=g6.mem b hb';exact(s2.out _ _ e ek).trans (g2 _ hb).2
     have g62:=g6.stay (H':=H2) s2.gg fun b hb=>by obtain⟨o,e,ek⟩:=g6.mem b hb;rw[e];exact s2.hh _ _ e
     obtain⟨w1,w2⟩:=lN (k:=kk) (r1.mono s2.gg) q4 (q5.mono s2.gg);have hlen:us.length=l.length:=by simpa using bO cI q4
     have nd:=iJ.mp (cU.mp g3).2;refine⟨q,_,rfl,gP.k (s2.hh _ _ q3) (by have:=eV;omega),k σ G2 _ (s1.gg.trans s2.gg) (A2.chLo hi e1 (fun b hb=>⟨(g2 b hb).1,st b hb⟩) g3 (s2.hh _ _ g4) g62 (qS _ qh) ?_)⟩;have r02:=r0.stay (H':=H2) s2.gg fun b hb=>by obtain⟨o,e,ek⟩:=r0.mem b hb;rw[e];exact s2.hh _ _ e
     exact wW (r02.stay (.refl _) fun b hb=>ay fun z=>nd.2.2 b hb q qh z) (.k aV w1 w2)
  .cases h
 .cases h⟩
end
end
section
open PyProof
section
variable {a c:Expr} {fa fb:FA} {cl:ai}
def tX (f:FE):FA:=fun ρ=>(f ρ).bind fun d=>match d with
 |.dk l=>aa (l.map fun kv=>eA kv.1)
 |_=>af
theorem So (hc:X.calm=ah) (hg:Gl X "list") (hm:X.mg "list"=af) (h:DE Γ X e f) (he:aH [e] X.env=(ar,eval e X.env)::aH [] X.env:=by rfl) (hpl:(bF pos .(bC)).any (·.1)=ar:=by rfl) :
  DO Γ X (.Call (.Name "list" p) [e] [] pos) (tX f):=⟨(lC (EW hc) hg hm (by rfl) (e7 h.1 fD he) .(c) .(c) he hpl).imp fun σ H Q=>by
 rintro⟨G₀,H₀,G,ρ,ds,A,hq,k⟩;unfold tX at hq;obtain⟨d,hd,hi⟩:=oBd hq;refine⟨G₀,H₀,G,ρ,d,A,hd,fun v G1 H1 s1 r1=>?_⟩;cases r1 with
 |dk h1 h2 h3=>
  cases hi;exact⟨_,_,rfl,.inl (s1.gh _ _ h1),fun p hp=>k p _ G1 H1 s1 hp (vO h2)⟩
 |_=>cases hi⟩
def rW (f:FE):FA:=fun ρ=>(f ρ).bind fun d=>match d with
 |.dt l=>aa (l.map fun kv=>D.tup (kv.1.map eA))
 |_=>af
theorem K5 (hc:X.calm=ah) (hg:Gl X "list") (hm:X.mg "list"=af) (h:DE Γ X e f) (he:aH [e] X.env=(ar,eval e X.env)::aH [] X.env:=by rfl) (hpl:(bF pos .(bC)).any (·.1)=ar:=by rfl) :
  DO Γ X (.Call (.Name "list" p) [e] [] pos) (rW f):=⟨(lC (Dx hc) hg hm (by rfl) (e7 h.1 fD he) .(c) .(c) he hpl).imp fun σ H Q=>by
 rintro⟨G₀,H₀,G,ρ,ds,A,hq,k⟩;unfold rW at hq;obtain⟨d,hd,hi⟩:=oBd hq;refine⟨G₀,H₀,G,ρ,d,A,hd,fun v G1 H1 s1 r1=>?_⟩;cases r1 with
 |dt h1 h2 h3=>
  cases hi;refine⟨_,_,rfl,.inl (s1.gh _ _ h1),fun p Ts hp hT=>?_⟩;obtain⟨G',s,r⟩:=Step.keys (Γ:=Γ) (K:=X.K) s1.gh hT h2;exact k p _ G' H1 (s1.trans s) hp r
 |_=>cases hi⟩
def tp (f:FE):FA:=fun ρ=>(f ρ).bind fun d=>match d with
 |.dk l=>(iR l).bind fun ss=>if ss.length<64 then aa ((iy ss).map D.str) else af
 |_=>af
theorem Pw (hc:X.calm=ah) (hg:Gl X "sorted") (hm:X.mg "sorted"=af) (h:DE Γ X e f) (he:aH [e] X.env=(ar,eval e X.env)::aH [] X.env:=by rfl) (hpl:(bF pos .(bC)).any (·.1)=ar:=by rfl) :
  DO Γ X (.Call (.Name "sorted" p) [e] [] pos) (tp f):=⟨(wp (Ah hc) hg hm (by rfl) (e7 h.1 fD he) .(c) .(c) he hpl).imp fun σ H Q=>by
 rintro⟨G₀,H₀,G,ρ,ds,A,hq,k⟩;unfold tp at hq;obtain⟨d,hd,hi⟩:=oBd hq;refine⟨G₀,H₀,G,ρ,d,A,hd,fun v G1 H1 s1 r1=>?_⟩;cases r1 with
 |dk h1 h2 h3=>
  obtain⟨ss,hs,hi⟩:=oBd hi;split at hi
  .rename_i h64;cases hi;exact⟨_,_,ss,rfl,s1.gh _ _ h1,wt h2 hs,h64,fun p hp=>k p _ G1 H1 s1 hp (Reps.strs _)⟩
  .cases hi
 |_=>cases hi⟩
noncomputable def ifO (ft:FT) (fa fb:FA):FA:=fun ρ=>(ft ρ).bind fun b=>if b=ah then fa ρ else fb ρ
theorem HD (hc:DT Γ X c ft) (ha:DO Γ X a fa) (hb:DO Γ X b fb):DO Γ X (.IfExp c a b pos) (ifO ft fa fb):=⟨(Bk hc.1 ha.1 hb.1).imp fun σ H Q=>by
 rintro⟨G₀,H₀,G,ρ,d,A,h,k⟩;unfold ifO at h;obtain⟨x,hx,h⟩:=oBd h;refine⟨G₀,H₀,G,ρ,x,A,hx,fun G1 H1 s1=>?_⟩;cases x with
 |true=>exact jM ⟨G₀,H₀,G1,ρ,d,A.step s1,by simpa using h,fun p vs G' H' s hp r=>k p vs G' H' (s1.trans s) hp r⟩
 |false=>exact jy ⟨G₀,H₀,G1,ρ,d,A.step s1,by simpa using h,fun p vs G' H' s hp r=>k p vs G' H' (s1.trans s) hp r⟩⟩
theorem vM {k:ak} {F:ac D->aq (ac D)} (C:CalMO Γ X.prog X.w X.K X.mg X.base cl m 1 k F) (hr:Room j X.A) (hk:k<=j) (ho:DE Γ X o fo)
  (ht:eval .(aO) X.env=(do
   let ov ←eval o X.env
   jh apos.atName
   let (f,first) ←fm [ov] (lg ov m pl)
   nX pos f first (bF pos .(bC)) (dR pos (dS [] X.env))):=by rfl) :
  DO Γ X .(aO) (i7 cl m F fo ao):=⟨by
 obtain⟨Ca,f,fd,ps,h0,h1,h2,h3,h4⟩:=C.ex;refine(A7 ho.1 h1 h2 h3 (hr.mono hk) h4 .nil jz ht).imp fun σ H Q=>?_;rintro⟨G₀,H₀,G,ρ,rs,A,h,k⟩;unfold i7 at h;obtain⟨x,hx,hq⟩:=oBd h;clear h;refine⟨G₀,H₀,G,ρ,x,A,hx,fun v G1 H1 s1 r1=>?_⟩;split at hq
 .rename_i c' fs;split at hq
  .rename_i hz;obtain⟨rfl,hz2⟩:=hz;obtain⟨ds,hds,hF⟩:=oBd hq;have r1':=r1;cases r1 with
   |ins g1 g2 g3 g4=>
    rw[h0] at g2;cases g2;rename_i _ _ us0;have hl:cK m us0=af:=by
     rcases ii (k:=m) g3 g4 with⟨_,z2⟩|⟨d',v',z1,_,_⟩
     .exact z2
     .rw[z1] at hz2;cases hz2
    cases hds;refine⟨_,_,_,rfl,s1.gh _ _ g1,hl,?_⟩;exact⟨G1,_,rs,s1.gh,.cons r1' .nil,rfl,hF,fun p us G' H' s hp r=>k p us G' H' (s1.trans s) hp r⟩
  .cases hq
 .cases hq⟩
end
section
variable {fo:FA}
noncomputable def ku (fo:FA) (f:FE):FS:=fun ρ=>(fo ρ).bind fun ds=>(f ρ).bind fun _=>if ds.length<aJ then aa (.nx,ρ) else af
theorem uo (ho:DO Γ X o fo) (h:DE Γ X e f)
  (hbase:gG o "append" X.env (eval o X.env)=eval o X.env:=by rfl)
  (hfew:((bF cpos (aH [e] X.env)).all (fun x=>!x.1) && (dR cpos (dS [] X.env)).all (fun x=>x.1.isSome)
   && decide ([e].length+([]:ac gI).length+.(aY)<30))=ah:=by rfl)
  (hline:.(bv)=ah:=by rfl) (hs:aH [e] X.env=(ar,eval e X.env)::aH [] X.env:=by rfl) (hplain:(bF cpos .(bC)).any (·.1)=ar:=by rfl)
  (hsw:dh (.Call (.Attribute o "append" apos) [e] [] cpos) af pos.line X.env=aT ar:=by rfl) :
  DS Γ X (.Expr (.Call (.Attribute o "append" apos) [e] [] cpos) pos) (ku fo f):=⟨(oz (ui F6 FU Tv xz ho.1 (e7 h.1 fD hs) hbase hfew hline hs hplain) hsw).imp fun E σ H=>by
  rintro⟨G₀,H₀,G,ρ,fl,ρ',A,h,k⟩;unfold ku at h;obtain⟨ds,hds,h⟩:=oBd h;obtain⟨d,hd,h⟩:=oBd h;split at h
  .rename_i hz;cases h;refine⟨G₀,H₀,G,ρ,ds,A,hds,fun p vs G1 H1 s1 hp r=>?_⟩;have s2:=Step.newOwn (o:=.lst vs) s1.gh hp;have A2:=(A.step s1).step s2;refine⟨.inl ⟨rfl,vs,.inl (.inl aV)⟩,G₀,H₀,G1,ρ,d,A2,hd,fun v G3 H3 s3 r3=>?_⟩;have hp3:H3 p=aa (.lst vs):=s3.hh _ _ aV;refine⟨p,vs,v,rfl,rfl,hp3,by rw[r.length];exact hz,?_⟩;have gp:G3 p=af:=(s3.out _ _ aV rfl).trans (s1.gh.free hp);refine k σ G3 _ (s1.gg.trans s3.gg) (A.step ⟨fun b o e=>?_,s1.gg.trans s3.gg,fun b o e=>?_,fun b o e ek=>?_⟩)
   .have e1:=s1.hh b o e;rw[ay (bi e1 hp)];exact s3.hh b o (s2.hh b o e1)
   .rw[ay (bi e gp)];exact s3.gh b o e
   .exact(s3.out b o (s2.hh b o (s1.hh b o e)) ek).trans (s1.out b o e ek)
  .cases h⟩
end
end
variable {kn:ai}
section
open PyProof
def tt:D->aq (ac (Key×D))
 |.dk l=>aa l
 |.fdk l=>aa l
 |_=>af
def uc (x y:D):aq aN:=(tt x).bind fun ka=>(tt y).bind fun kb=>if ka.length=kb.length then lU kb ka else aa ar
def vQ (x y:D):aq D:=(uc x y).map fun b=>.bl (!b)
theorem BG {l:ac (Key×D)} (gh:aQ G H) (r:Rep Γ X.K G v d) (h:tt d=aa l):∃p us,v=.ref p/\Rd H p (.dK us)/\us.map (·.1)=l.map (·.1)/\Reps Γ X.K G (us.map (·.2)) (l.map (·.2)):=by
 unfold tt at h;split at h
 .cases h;cases r with
  |dk h1 h2 h3=>exact⟨_,_,rfl,.inl (gh _ _ h1),h2,h3⟩
 .cases h;cases r with
  |fdk h1 h2 h3=>exact⟨_,_,rfl,.inr ⟨_,gh _ _ h1⟩,h2,h3⟩
 .cases h
def rDf (Γ:Cn) (K:aM):R2:=fun x y H Q=>∃G d e b,aQ G H/\Rep Γ K G x d/\Rep Γ K G y e/\uc d e=aa b/\Q (.bl (!b)) H
theorem Rp (hu:X.A.units+66<bY):OpR X (di .NotEq) (rDf Γ X.K):=by
 intro pins s σ H x y v u Q I rx ry h;obtain⟨G,d,e,b,gh,r1,r2,hb,q⟩:=h;unfold uc at hb;obtain⟨ka,hka,hb⟩:=oBd hb;obtain⟨kb,hkb,hb⟩:=oBd hb;obtain⟨p,ua,rfl,h1,h2,h3⟩:=BG gh r1 hka;obtain⟨p',ub,rfl,k1,k2,k3⟩:=BG gh r2 hkb;obtain⟨_,m1,va,qa,da⟩:=gM I.hok h1;obtain⟨_,m2,vb,qb,db⟩:=gM I.hok k1;cases rx;cases ry;have la:va.length=ka.length:=by rw[←qa.length];simpa using bO cI h2
 have lb:vb.length=kb.length:=by rw[←qb.length];simpa using bO cI k2
 have hu1:X.A.in1.units+64<bY:=by have:X.A.in1.units=X.A.units+1:=rfl;omega
 split at hb
 .rename_i hl;refine UA m1 m2 da db .(b) (fun _=>E5 I gh hu1 k2 k3 qb h2 h3 qa hb) ⟨.bl _,H,I,rfl,?_⟩;rw[la,lb,hl];simpa using q
 .rename_i hl;cases hb;refine UA (r:=ar) m1 m2 da db .(b) (fun q=>bu (la.symm.trans (q.trans lb)) hl) ⟨.bl _,H,I,rfl,?_⟩;simpa using q
def il (x y:D):aq D:=match vQ x y with
 |some z=>aa z
 |none=>jc x y
theorem Aw (hu:X.A.units+66<bY):CmpD Γ X .NotEq il:=by
 obtain⟨r,hr,dr⟩:=(C7 (Γ:=Γ) (X:=X) .(b)).ex;refine⟨_,(Rp (Γ:=Γ) hu).or hr,fun {G H v u x y z} gh r1 r2 h Q k=>?_⟩;unfold il at h;split at h
 .rename_i z' hz;cases h;unfold vQ at hz;obtain⟨b,hb,rfl⟩:=oMd hz;exact .inl ⟨G,x,y,b,gh,r1,r2,hb,k _ G H .(aD) (.bl _)⟩
 .exact .inr (dr gh r1 r2 h Q k)
section
variable {k:ak} {f:au} {ks:ac ai} {E:XK} {t:TA} {g:ac av->ac av->ac av}
def QU (C:au) (sp:Sp) (gV:ac V->ac V->ac V) (E:XK) (t tk:TA):TE:=fun σ H Q=>t σ H fun vs H0=>tk σ H0 fun zs H1=>∀x dx,H1 x=af->H1 dx=af->dx≠x->
 sp (gV (.ref x::vs) zs) (upd (upd H1 dx (.own x)) x (.ins C dx [])) (fun v H2=>v=.non/\Q (.ref x) H2) E
theorem Rt {Q:VK} {us ws:ac av} (M:Mk X.K C f) (F:FnOk X.prog X.w X.K X.mg X.base CX k f fd ps sp) (hr:Room (k+1) X.A) (hb:KBinds X.K fd ps ks g gV)
  (hx:jV CX X E) (I:Inv X pins σ H s) (r:aU vs us) (rz:aU zs ws)
  (h:∀x dx,H x=af->H dx=af->dx≠x->sp (gV (.ref x::vs) zs) (upd (upd H dx (.own x)) x (.ins C dx [])) (fun v H2=>v=.non/\Q (.ref x) H2) E) :
  aC .(n) X.A (call (.ref C) us (ks.zip ws)) .(bp) X.xe s:=by
 have hq:=h .(E) s.heap.objs.size (I.hok.fresh (nY _)) (I.hok.fresh (qw _)) (qD (lq _));have I2:=Inv.made (C:=C) I;have r1:aU (V.ref .(E)::vs) (bP .(E)::us):=.cons rfl r;have r2:=hb.rel r1 rz;have hl:(g (bP .(E)::us) ws).length=ps.length:=by rw[←r2.length];exact F.len _ _ _ _ hq
 refine uM (EZ (f:=f) I.kIn M.makes M.init (jX.mp M.fn) (nV (F.run _ X.stack _ _ ⟨bP .(E)::us,ks.zip ws⟩ (g (bP .(E)::us) ws) _ _ E (hr.make C us (ks.zip ws))
  (I2.env0.make C us (ks.zip ws)) (hb.to _ (bP .(E)::us) ws I2.kIn hl) r2 hq) fun r s' hq'=>?_))
 cases r with
 |error e=>exact hx pins σ _ _ e s' I2 hq'
 |ok fl=>
  cases fl with
  |ret u=>
   obtain⟨v,H',I3,rv,ev,q3⟩:=I2.after hq';subst ev;exact⟨rv,⟨V.ref .(E),H',I3,rfl,q3⟩⟩
  |next=>exact fP hq'
  |brk=>exact fP hq'
  |cont=>exact fP hq'
theorem Mq (M:Mk X.K C f) (F:FnOk X.prog X.w X.K X.mg X.base CX k f fd ps sp) (hr:Room (k+1) X.A) (hg:Gl X x) (hm:X.mg x=aa (.ref C)) (hb:KBinds X.K fd ps ks g gV) (hx:jV CX X E)
  (ha:PA X (e::es) t) (hkw:PK X kws tk) (hall:(dR pos (dS kws X.env)).all (·.1.isSome)=ah:=by rfl) (hks:(dR pos (dS kws X.env)).filterMap (·.1)=ks:=by rfl)
  (hdb:.(o)=ar:=by decide) (he:aH (e::es) X.env=(ar,eval e X.env)::aH es X.env:=by rfl)
  (hpl:((bF pos (aH (e::es) X.env)).any (·.1) || (dR pos (dS kws X.env)).any (·.1.isNone))=ar:=by rfl) :
  PE X (.Call (.Name x p) (e::es) kws pos) (QU C sp gV E t tk):=by
 intro pins s σ H Q I h;refine nW (t9 I hg hm ?_ hdb);refine PySem.W.callWith_KW (h₀:=X.base) I.ok.mod.kin M.kp hall (thn .(bl) fun us s1 ζ=>?_) hpl he;obtain⟨vs,H1,I1,r,q⟩:=ζ;refine thn (hkw pos pins s1 σ H1 _ I1 q) fun ws s2 ⟨zs,H2,I2,rz,q2⟩=>⟨I2.kIn,?_⟩;rw[hks];exact Rt M F hr hb hx I2 r rz q2
end
noncomputable def rY (l:ac α) (vs zs:ac α):ac α:=match zs with
 |[z]=>vs++(l++[z])
 |_=>[]
def cFK (F:FQ) (dd:ac D) (fr:FA) (f:FE):FE:=fun ρ=>(fr ρ).bind fun ds=>(f ρ).bind fun z=>F (ds++(dd++[z]))
structure CalIK (Γ:Cn) (P:dy) (w:cA) (K:aM) (mg:ai->aq av) (base:Heap) (c kn:ai) (n k:ak) (dd:ac D) (F:ac D->aq Fo):Prop where
 ex:∃C f fd ps dvs g,Γ.cls c=aa C/\Mk K C f/\mg c=aa (.ref C)/\FnOk P w K mg base CX0 k f fd ps (spIU Γ K C c n F)/\KBinds K fd ps [kn] g (rY dvs)/\∀G,Reps Γ K G dvs dd
section
variable {e':Expr} {dd:ac D}
theorem MQ {m k l:ak} {F:ac D->aq Fo} (C:CalIK Γ X.prog X.w X.K X.mg X.base c kn n k dd F) (hr:Room l X.A) (hk:k+1<=l) (hg:Gl X c) (ha:DA Γ X (e::es) fr) (hn:∀ρ ds,fr ρ=aa ds->ds.length=m) (hm:m+(dd.length+1)=n) (hv:DE Γ X e' f)
  (hdb:(c==("__debug__":ai))=ar:=by decide) (he:aH (e::es) X.env=(ar,eval e X.env)::aH es X.env:=by rfl)
  (hall:(dR pos (dS [⟨aa kn,e',kpos⟩] X.env)).all (·.1.isSome)=ah:=by rfl) (hks:(dR pos (dS [⟨aa kn,e',kpos⟩] X.env)).filterMap (·.1)=[kn]:=by rfl)
  (hpl:((bF pos (aH (e::es) X.env)).any (·.1) || (dR pos (dS [⟨aa kn,e',kpos⟩] X.env)).any (·.1.isNone))=ar:=by rfl) :
  DE Γ X (.Call (.Name c p) (e::es) [⟨aa kn,e',kpos⟩] pos) (cFK (fun ds=>(F ds).map (foD c)) dd fr f):=⟨by
 obtain⟨Ca,fa,fd,ps,dvs,g,h0,h1,h2,h3,h4,h6⟩:=C.ex;refine(Mq h1 h3 (hr.mono hk) hg h2 h4 jz ha.1 (Rv hv.1 IG) hall hks hdb he hpl).imp fun σ H Q=>?_;rintro⟨G₀,H₀,G,ρ,d,A,h,k⟩;unfold cFK at h;obtain⟨ds,hds,h⟩:=oBd h;obtain⟨z,hz,h⟩:=oBd h;obtain⟨fs,hF,rfl⟩:=oMd h;refine⟨G₀,H₀,G,ρ,ds,A,hds,fun ws G0 H0 s0 r0=>⟨G₀,H₀,G0,ρ,z,A.step s0,hz,fun v G1 H1 s1 r1 x dx hx hdx ne=>?_⟩⟩;refine⟨x,dx,H1,G1,ds++(dd++[z]),fs,ws++(dvs++[v]),rfl,rfl,hx,hdx,ne,s1.gh,(r0.mono s1.gg).append ((h6 G1).append (.cons r1 .nil)),by rw[qk,qk,hn ρ ds hds,←hm];rfl,hF,fun G' H' u=>⟨rfl,?_⟩⟩;obtain⟨G2,s2,r2⟩:=Bb s1.gh u;exact k _ G2 H' ((s0.trans s1).trans s2) r2⟩
end
theorem DfnMD.calIK {k:ak} {dd:ac D} (m:ak) (O:ClsOk Γ K mg c C) (F:DfnMD K C c "__init__" qual st dvs) (hdd:∀G,Reps Γ K G (dvs.take m) dd) (S:FnScope N (s0::ps) (aB st))
  (hb:∀(T:au) (kV doc pm:av) (an:aq au) (cdv ct:av) (us items:ac av) (z:av),(us++(items.take m++[z])).length=(s0::ps).length->items.length=dvs.length->∃k,dQ .(K) ⟨us,[(kn,z)]⟩=fR (.ref T) >>= k/\k (aa items.toArray)=aT ((s0::ps).zip (us++(items.take m++[z]))))
  (hbody:∀(f y:au) (cdv:av) (A:cv) (outer:ac ci) (s:aE) (H:Hp) (E:XK),Room k .(j)->
   DSs (Γ.mk1 y) .(g).nox (bR st) g):CalIK Γ P w K mg base c kn ps.length (k+1) dd (fY .(ak) c g):=by
 obtain⟨f,fd,items,h1,hv,h2,h3⟩:=F.ex;have hl:items.length=dvs.length:=hv.length.symm;refine⟨C,f,fd,s0::ps,dvs.take m,rY (items.take m),O.cn,⟨O.makes,h2,h3,O.kp⟩,O.mgC,h1.ok S (fun vs H Q E h=>se h) fun cdv A outer s H vs Q E hr h=>?_,⟨fun s us ws hin hlen=>?_,fun {vs us zs ws} r rz=>?_⟩,hdd⟩
 .obtain⟨y,q⟩:=tm (N:=N) rfl O.cn h;exact⟨_,(hbody f y cdv A outer s H E hr).1,q⟩
 .obtain⟨oc,od,T,kV,doc,pm,an,cdv,ct,osl,to,n,rfl,lk,hcd,lT,dT⟩:=h1.ex;unfold rY at hlen ⊢;split at hlen
  .rename_i z;obtain⟨k,q1,q2⟩:=hb T kV doc pm an cdv ct us items z hlen hl;exact .of_defaults (T:=T) rfl (hin T to lT) dT q1 q2
  .cases hlen
 .unfold rY;cases rz with
  |nil=>exact .nil
  |cons a t=>
   cases t with
   |nil=>exact r.append ((hv.take m).append (.cons a .nil))
   |cons _ _=>exact .nil
end
section
open PyProof
noncomputable def btL (ns:ac aj) (i j:ak):aN:=decide (ns.getD i 0<ns.getD j 0)
def mnI (ns:ac aj):aj:=ns.getD (cO (btL ns) (ns.length-1)) 0
def nj:FQ
 |[.lst l]=>(fU l).bind fun ns=>if ns=[] then af else aa (.int (mnI ns))
 |_=>af
theorem Mn (hc:X.calm=ah):dO X (.builtin "min") (fun xs H Q=>∃(a:au) (ns:ac aj),xs=[.ref a]/\H a=aa (.lst .(bm))/\ns≠[]/\Q (.int (mnI ns)) H):=by
 intro pins s σ H xs us Q I r h;obtain⟨a,ns,rfl,ha,e0,q2⟩:=h;obtain⟨u,rfl,ru⟩:=eJ r;cases ru;obtain⟨its,rv,pl,_⟩:=I.list (.inl (.inl ha));obtain⟨vl,vi⟩:=sH rv;refine call_min_walk (mO pl.isList ?_);have ne:a≠s.heap.objs.size:=by obtain⟨o,_,h1,_⟩:=pl;exact qD (qv h1)
 have hP:∀(i:ak) v,its.toArray[i]?=aa v->∃t,v=.int (ns.getD i 0) t:=fun i v hv=>vi i v (by simpa using hv);have la:a<s.heap.objs.size:=by obtain⟨o,_,h1,_⟩:=pl;exact qv h1
 have sz:its.toArray.size=ns.length:=by simp[vl]
 refine⟨s.heap.objs.size,_,_,_,_,_,btL ns,rfl,om (A:=X.A.in1) (show X.A.in1.handled=af from I.ok.hd hc) s.heap.objs.size a ne its.toArray,⟨⟨_,qH _ rfl,rfl,rfl⟩,pl.isList.at fun o q=>qu _ q⟩,fun b hb=>?_,?_,Ui (fun i=>ns.getD i 0) hP,fun v h' tk pv hk=>?_⟩
 .rw[jp];simp only[qN,qL,or_false] at hb;rcases hb with z|z
  .rw[z];exact lq _
  .rw[z];exact mR la
 .rw[sz];exact Gv.mpr e0
 .obtain⟨t,rfl⟩:=hP _ _ pv;refine⟨.int (mnI ns),H,I.kept fun b o z=>hk b o ?_ (qu _ z),?_,q2⟩
  .intro z';have:b=s.heap.objs.size:=by simpa using z'
   exact bu (qv z) (by rw[this];exact fE _)
  .unfold mnI;rw[sz];exact⟨t,rfl⟩
theorem Aj (hc:X.calm=ah):BltD Γ X "min" nj:=⟨_,Mn hc,fun {G H vs ds z} gh r h Q k=>by
 unfold nj at h;split at h
 .obtain⟨ns,hn,h⟩:=oBd h;split at h
  .cases h
  .rename_i hne;cases h;obtain⟨v,rfl,r1⟩:=r.one;obtain⟨a,us,rfl,ha,ra⟩:=r1.lst_inv;exact⟨a,ns,rfl,by rw[←px ra hn];exact gh _ _ ha,hne,k _ G H .(aD) (.int _)⟩
 .cases h⟩
end
section
open PyProof
noncomputable def btM (ns:ac aj) (i j:ak):aN:=decide (ns.getD i 0 > ns.getD j 0)
def mxJ (ns:ac aj):aj:=ns.getD (cO (btM ns) (ns.length-1)) 0
def ur:FQ
 |[.lst l]=>(fU l).bind fun ns=>if ns=[] then af else aa (.int (mxJ ns))
 |_=>af
theorem GV (hc:X.calm=ah):dO X (.builtin "max") (fun xs H Q=>∃(a:au) (ns:ac aj),xs=[.ref a]/\H a=aa (.lst .(bm))/\ns≠[]/\Q (.int (mxJ ns)) H):=by
 intro pins s σ H xs us Q I r h;obtain⟨a,ns,rfl,ha,e0,q2⟩:=h;obtain⟨u,rfl,ru⟩:=eJ r;cases ru;obtain⟨its,rv,pl,_⟩:=I.list (.inl (.inl ha));obtain⟨vl,vi⟩:=sH rv;refine call_max_walk (mO pl.isList ?_);have ne:a≠s.heap.objs.size:=by obtain⟨o,_,h1,_⟩:=pl;exact qD (qv h1)
 have hP:∀(i:ak) v,its.toArray[i]?=aa v->∃t,v=.int (ns.getD i 0) t:=fun i v hv=>vi i v (by simpa using hv);have la:a<s.heap.objs.size:=by obtain⟨o,_,h1,_⟩:=pl;exact qv h1
 have sz:its.toArray.size=ns.length:=by simp[vl]
 refine⟨s.heap.objs.size,_,_,_,_,_,btM ns,rfl,om (A:=X.A.in1) (show X.A.in1.handled=af from I.ok.hd hc) s.heap.objs.size a ne its.toArray,⟨⟨_,qH _ rfl,rfl,rfl⟩,pl.isList.at fun o q=>qu _ q⟩,fun b hb=>?_,?_,Uh (fun i=>ns.getD i 0) hP,fun v h' tk pv hk=>?_⟩
 .rw[jp];simp only[qN,qL,or_false] at hb;rcases hb with z|z
  .rw[z];exact lq _
  .rw[z];exact mR la
 .rw[sz];exact Gv.mpr e0
 .obtain⟨t,rfl⟩:=hP _ _ pv;refine⟨.int (mxJ ns),H,I.kept fun b o z=>hk b o ?_ (qu _ z),?_,q2⟩
  .intro z';have:b=s.heap.objs.size:=by simpa using z'
   exact bu (qv z) (by rw[this];exact fE _)
  .unfold mxJ;rw[sz];exact⟨t,rfl⟩
theorem MO (hc:X.calm=ah):BltD Γ X "max" ur:=⟨_,GV hc,fun {G H vs ds z} gh r h Q k=>by
 unfold ur at h;split at h
 .obtain⟨ns,hn,h⟩:=oBd h;split at h
  .cases h
  .rename_i hne;cases h;obtain⟨v,rfl,r1⟩:=r.one;obtain⟨a,us,rfl,ha,ra⟩:=r1.lst_inv;exact⟨a,ns,rfl,by rw[←px ra hn];exact gh _ _ ha,hne,k _ G H .(aD) (.int _)⟩
 .cases h⟩
theorem DfnMD.cal3 {k:ak} {dd d3:ac D} (m:ak) (O:ClsOk Γ K mg c C) (F:DfnMD K C c "__init__" qual st dvs) (hdd:∀G,Reps Γ K G dvs dd) (hd3:∀G,Reps Γ K G (dvs.take m) d3) (S:FnScope N (s0::ps) (aB st))
  (hb:∀(T:au) (kV doc pm:av) (an:aq au) (cdv ct:av) (us items:ac av),us.length+dvs.length=(s0::ps).length->items.length=dvs.length->∃k,dQ .(K) ⟨us,[]⟩=fR (.ref T) >>= k/\k (aa items.toArray)=aT ((s0::ps).zip (us++items)))
  (hb0:∀(T:au) (kV doc pm:av) (an:aq au) (cdv ct:av) (us items:ac av),us.length+(dvs.length-dvs.length)=(s0::ps).length->items.length=dvs.length->∃k,dQ .(K) ⟨us,[]⟩=fR (.ref T) >>= k/\k (aa items.toArray)=aT ((s0::ps).zip (us++items.drop dvs.length)))
  (hbK:∀(T:au) (kV doc pm:av) (an:aq au) (cdv ct:av) (us items:ac av) (z:av),(us++(items.take m++[z])).length=(s0::ps).length->items.length=dvs.length->∃k,dQ .(K) ⟨us,[(kn,z)]⟩=fR (.ref T) >>= k/\k (aa items.toArray)=aT ((s0::ps).zip (us++(items.take m++[z]))))
  (hbody:∀(f y:au) (cdv:av) (A:cv) (outer:ac ci) (s:aE) (H:Hp) (E:XK),Room k .(j)->
   DSs (Γ.mk1 y) .(g).nox (bR st) g):CalIU Γ P w K mg base c ps.length (k+1) dd (fY .(ak) c g)/\CalIU Γ P w K mg base c ps.length (k+1) [] (fY .(ak) c g)/\CalIK Γ P w K mg base c kn ps.length (k+1) d3 (fY .(ak) c g):=
 ⟨F.calIU O hdd S hb hbody,F.calIUd dvs.length O (fun G=>by rw[uV];exact .nil) S hb0 hbody,F.calIK m O hd3 S hbK hbody⟩
end
section
open PyProof
end
section
open PyProof
end
section
variable {a:Expr}
end
noncomputable def jU:D->D->aq D
 |.tup x,.tup y=>if x≠[]/\y≠[]/\x.length+y.length<=aJ then aa (.tup (x++y)) else af
 |_,_=>af
section
variable {a:Expr}
theorem Sh :fB Γ K jU (AA K):=by
 intro G H v u x y z gh r1 r2 h Q k;unfold jU at h;split at h
 .split at h
  .rename_i hz;cases h;obtain⟨a,vs,rfl,ha,ra⟩:=r1.tup_inv;obtain⟨b,us,rfl,hb,rb⟩:=r2.tup_inv;refine⟨a,b,vs,us,rfl,rfl,.inl .(bd),.inl (.inl (gh _ _ hb)),?_,by rw[ra.length,rb.length];exact hz.2.2,?_⟩
   .intro z;subst z;have:=ra.length;exact hz.1 (uU.mp this.symm)
   .refine⟨fun z=>?_,fun _ p hp=>sK gh (ra.append rb) k p hp⟩;subst z;have:=rb.length;exact bu (uU.mp this.symm) hz.2.1
  .cases h
 .cases h
theorem yu (ha:DE Γ X a fa) (hb:DE Γ X b fb):DE Γ X (.BinOp a .Add b pos) (b2 jU fa fb):=lW Oe Sh ha hb
end
namespace Law
noncomputable def top (i:ak):Stmt:=Vr.main.body.getD i (.Pass ⟨0,0,0,0⟩)
noncomputable def cw:ac ai:=["grounds","open_benches","firsts","lasts","put_pairs","notes"]
noncomputable def yD:ac ai:=["told_shop","kept_plan","kept_most","lengths","job_names","early_moments","end_marks","breaks","known_gaps"]
noncomputable def CB:ac ai:=["benches","steps","jobs","setups","links","stocks","horizon","bench_by_name","step_by_name","setup_by_names","job_by_step"]
noncomputable def Gam (C_Facts C_Grounds C_Shop:au):Cn:=⟨fun c=>if c="Facts" then aa C_Facts else if c="Grounds" then aa C_Grounds else if c="Shop" then aa C_Shop else af,af⟩
def gX:FQ:=aP 0
  (aw (sIf (toB (b2 ltD (vSh 1) (cF b9 .(ac)))) (aG (b2 ixD (vSh 0) (vSh 1))) aY) (aG .(f)))
def bq:FQ:=aP 3
  (aw (sIf (toB (b2 geD (vSh 0) (b2 jW (vC (.int 10)) (vC (.int 18))))) (aw (aR 3 (vSh 0)) (aw (bW (itR dM .(J)) (aA 4) (aR 3 (b2 jN (vSh 3) (b2 jW (vC (.int 10)) (vC (.int 7)))))) (sIf (toB (b2 gtD (vSh 3) .(f))) (aG (b2 er (b2 er (vSh 3) (b2 jW (vC (.int 10)) (vC (.int 7)))) (vSh 2))) aY))) aY) (aw (aR 5 (b2 er (b2 cR (b2 aW (b2 aW (b2 aW (b2 er (vSh 0) (vC (.int 2147483647))) (b2 cR (b2 cR (vC (.int 7919)) (vSh 1)) (vSh 1))) (b2 cR (vC (.int 31)) (vSh 1))) .(i)) (vC (.int 48271))) (vC (.int 2147483647)))) (aw (aR 5 (b2 er (b2 aW (b2 aW (b2 cR (vSh 5) (vSh 5)) (b2 cR (vC (.int 69621)) (vSh 1))) (vC (.int 7))) (vC (.int 2147483629)))) (aG (b2 er (b2 er (b2 cR (vSh 5) (vSh 5)) (vC (.int 2147483587))) (vSh 2))))))
def sI:FQ:=aP 1
  (aw (aR 1 (cF gX (ag (vSh 0) (ag .(f) ao)))) (aG (b2 ixD (aS (szF (ag (b2 aW .(u) (cF bq (ag (vSh 1) (ag (vC (.int 80)) (ag (vC (.int 21)) ao))))) (ag (b2 aW .(i) (cF bq (ag (vSh 1) (ag (vC (.int 81)) (ag (b2 jW (vC (.int 10)) (vC (.int 6))) ao))))) ao)))) (b2 jN (cF bq (ag (vSh 1) (ag (vC (.int 82)) (ag .(u) ao)))) .(M)))))
def kO:FQ:=aP 0
  (aw (sIf (toB (b2 eqD (cF bq (ag (vSh 0) (ag (vSh 1) (ag .(u) ao)))) .(f))) (aG (cF bq (ag (vSh 0) (ag (b2 aW (vSh 1) .(i)) (ag (b2 aW (vSh 2) .(i)) ao))))) aY) (aG (cF bq (ag (vSh 0) (ag (b2 aW (vSh 1) .(i)) (ag (b2 aW (cF jQ (ag (vSh 2) (ag (vC (.int 12)) ao))) .(i)) ao))))))
def sS:FQ:=aP 5
  (aw (eQ 3 (szF ao)) (aw (aR 4 .(f)) (aw (bW (itR dM (ag (cF bq (ag (vSh 0) (ag (vSh 1) (ag .(u) ao)))) ao)) (aA 5) (aw (aR 6 (b2 aW (vSh 4) (cF kO (ag (vSh 0) (ag (b2 aW (b2 aW (vSh 1) .(i)) (b2 cR .(u) (vSh 5))) .(I)))))) (aw (aR 7 (b2 aW (b2 aW (vSh 6) .(i)) (cF bq (ag (vSh 0) (ag (b2 aW (b2 aW (vSh 1) .(M)) (b2 cR .(u) (vSh 5))) (ag .(u) ao)))))) (sIf (toB (b2 leD (vSh 7) (vSh 2))) (aw (gb 3 (bo (szF (ag (vSh 6) (ag (vSh 7) ao))))) (aR 4 (b2 aW (vSh 7) .(i)))) aY)))) (ff 3 (aG (vSh 3))))))
def tN:FQ:=aP 5
  (aw (aR 2 (vC (.str "abcdefghijklmnopqrstuvwxyz"))) (aw (aR 3 (mF o9 (vC (.str "")) (ag (aS (ba (itR dM (ag (cF bq (ag (vSh 0) (ag .(f) (ag (vC (.int 7)) ao)))) ao)) (aA 0) tT (b2 ixD (vSh 1) (cF bq (ag (vSh 2) (ag (b2 aW .(M) (vSh 0)) (ag (vC (.int 26)) ao))))) [af,aa 2,aa 0])) ao))) (aw (aR 4 (cF bq (ag (vSh 0) (ag .(i) (ag (b2 aW (cF b9 (ag (vSh 3) ao)) .(i)) ao))))) (aw (eQ 5 (szF ao)) (aw (bW (itR dM .(J)) (aA 6) (gb 5 (b2 aW (b2 aW (b2 aW (slF (vSh 3) pN (pS (vSh 4))) (b2 ixD (vSh 2) (b2 er (b2 cR (vSh 6) (vC (.int 7))) (vC (.int 26))))) (b2 ixD (aS (szF (ag (vC (.str "")) (ag (vC (.str "q")) ao)))) (b2 jN (vSh 6) (vC (.int 26))))) (slF (vSh 3) (pS (vSh 4)) pN)))) (ff 5 (aG (vSh 5))))))))
abbrev X7:=bo (szF (ag (b2 ixD (vSh 9) .(f)) (ag (cF iL (ag .(i) (ag (cF kO (ag (vSh 0) (ag (b2 aW .(u) (b2 cR .(Q) (vSh 8))) (ag (vSh 10) ao)))) ao))) ao)))
def t4:FQ:=aP 7
  (aw (aR 4 (b2 ixD (aS (szF (ag (vC (.str "cut")) (ag (vC (.str "glue")) (ag (vC (.str "paint")) ao))))) (cF bq (ag (vSh 0) (ag .(f) (ag .(M) ao)))))) (aw (aR 5 (cF bq (ag (vSh 0) (ag .(i) (ag (cF b9 .(I)) ao))))) (aw (aR 6 (slF (b2 aW (slF (vSh 2) (pS (vSh 5)) pN) (slF (vSh 2) pN (pS (vSh 5)))) pN (pS (b2 aW .(i) (b2 cR (cF bq (ag (vSh 0) (ag .(Q) (ag .(Q) ao)))) (cF bq (ag (vSh 0) (ag .(M) (ag .(u) ao))))))))) (aw (eQ 7 (szF ao)) (aw (bW (itE (vSh 6)) (cN 2 (bx (aA 8) (bx (aA 9) cM))) (aw (aR 10 (b2 ixD (aS (szF (ag (vSh 3) (ag (cF jQ (ag (vC (.int 5)) (ag (vSh 3) ao))) ao)))) (cF bq (ag (vSh 0) (ag (vC (.int 13)) (ag .(Q) ao)))))) (gb 7 X7))) (ff 7 (aG (bo (szF (ag (vSh 1) (ag (vSh 4) (ag (vSh 7) ao))))))))))))
def sr:FQ:=aP 4
  (aw (tz 3) (aw (bW (itR dM (ag (cF bq (ag (vSh 0) (ag (vSh 1) (ag (vC (.int 6)) ao)))) ao)) (aA 4) (aw (aR 5 (b2 ixD (b2 ixD (vSh 2) (cF bq (ag (vSh 0) (ag (b2 aW (b2 aW (vSh 1) .(i)) (b2 cR .(M) (vSh 4))) (ag (cF b9 .(I)) ao))))) .(f))) (aw (aR 6 (b2 ixD (b2 ixD (vSh 2) (cF bq (ag (vSh 0) (ag (b2 aW (b2 aW (vSh 1) .(Q)) (b2 cR .(M) (vSh 4))) (ag (cF b9 .(I)) ao))))) .(f))) (sIf (pK 3 (lD (toB (b2 neA (vSh 5) (vSh 6))) (toB (b2 yo (bo (szF (ag (vSh 5) (ag (vSh 6) ao)))) (vSh 3))))) (dZ 3 (bo (szF (ag (vSh 5) (ag (vSh 6) ao)))) (cF bq (ag (vSh 0) (ag (b2 aW (b2 aW (vSh 1) .(M)) (b2 cR .(M) (vSh 4))) (ag (vC (.int 5)) ao))))) aY)))) (jS 3 (aG (vSh 3)))))
def tW:FQ:=aP 4
  (aw (aR 3 (aS (szF (ag (vC (.str "cut")) (ag (vC (.str "glue")) (ag (vC (.str "paint")) (ag (vC (.str "rest")) ao))))))) (aw (tz 4) (aw (bW (itR dM (ag (cF bq (ag (vSh 0) (ag .(f) (ag (vC (.int 12)) ao)))) ao)) (aA 5) (aw (aR 6 (bo (szF (ag (b2 ixD (b2 ixD (vSh 1) (cF bq (ag (vSh 0) (ag (b2 aW .(i) (b2 cR .(u) (vSh 5))) (ag (cF b9 .(J)) ao))))) .(f)) (ag (b2 ixD (vSh 3) (cF bq (ag (vSh 0) (ag (b2 aW .(Q) (b2 cR .(u) (vSh 5))) (ag .(u) ao))))) ao))))) (aw (aR 6 (b2 jU (vSh 6) (bo (szF (ag (b2 ixD (vSh 3) (cF bq (ag (vSh 0) (ag (b2 aW .(M) (b2 cR .(u) (vSh 5))) (ag .(u) ao))))) ao))))) (dZ 4 (vSh 6) (b2 aW .(i) (cF bq (ag (vSh 0) (ag (b2 aW .(u) (b2 cR .(u) (vSh 5))) (ag (cF jQ (ag (vSh 2) (ag .(u) ao))) ao))))))))) (jS 4 (aG (nJ 4 (aS (ba (kL (vSh 4)) (aA 0) tT (b2 jU (vSh 0) (bo (szF (ag (b2 cm (vSh 1) (vSh 0)) ao)))) [af,aa 4]))))))))
def ue:FQ:=aP 5
  (aw (eQ 2 (szF ao)) (aw (bW (itR dM (ag (cF bq (ag (vSh 0) (ag .(f) (ag .(M) ao)))) ao)) (aA 3) (aw (aR 4 (cF bq (ag (vSh 0) (ag (b2 aW .(i) (vSh 3)) (ag (vC (.int 9)) ao))))) (aw (aR 5 (aS (ba (itE (vSh 1)) .(P) (toB (b2 eqD (cF bq (ag (vSh 2) (ag (b2 aW .(u) (vSh 3)) (ag (vC (.int 7)) ao)))) (b2 er (vSh 0) (vC (.int 7))))) (bo (szF (ag (b2 ixD (vSh 1) .(f)) (ag (b2 aW .(i) (b2 er (vSh 0) .(M))) ao)))) [af,af,aa 0,aa 3]))) (aw (aR 6 (aS (ba (itE (vSh 1)) .(P) (toB (b2 eqD (cF bq (ag (vSh 2) (ag (b2 aW (vC (.int 8)) (vSh 3)) (ag (vC (.int 7)) ao)))) (b2 er (vSh 0) (vC (.int 7))))) (bo (szF (ag (b2 ixD (vSh 1) .(f)) (ag (b2 aW .(i) (b2 er (vSh 0) .(Q))) ao)))) [af,af,aa 0,aa 3]))) (gb 2 (bo (szF (ag (b2 aW (vC (.str "s")) (b2 ixD (vC (.str "ab")) (vSh 3))) (ag (cF bq (ag (vSh 0) (ag (b2 aW (vC (.int 12)) (vSh 3)) (ag (b2 aW (vSh 4) .(i)) ao)))) (ag (vSh 4) (ag (vSh 5) (ag (vSh 6) ao)))))))))))) (ff 2 (aG (vSh 2)))))
abbrev X2:=sIf (toB (b2 neA (vSh 6) (aS (szF ao)))) (gb 4 (bo (szF (ag (b2 aW (vC (.str "j")) (b2 ixD (vC (.str "abc")) (vSh 5))) (ag (vSh 7) (ag (vSh 8) (ag (b2 eqD (cF bq (ag (vSh 0) (ag (b2 aW (vC (.int 44)) (vSh 5)) (ag .(Q) ao)))) .(f)) (ag (vSh 6) ao)))))))) aY
abbrev X3:=b2 eqA (cF bq (ag (b2 ixD (vSh 3) (b2 er (vSh 0) (cF b9 (ag (vSh 3) ao)))) (ag (vC (.int 12)) (ag .(u) ao)))) (vSh 2)
def oU:FQ:=aP 5
  (aw (eQ 4 (szF ao)) (aw (bW (itR dM (ag .(M) ao)) (aA 5) (aw (aR 6 (aS (ba (itR dM (ag (cF b9 .(I)) ao)) (aA 0) (toB X3) (b2 ixD (b2 ixD (vSh 1) (vSh 0)) .(f)) [af,aa 2,aa 5,aa 1]))) (aw (sIf (toB (b2 eqD (cF bq (ag (vSh 0) (ag (b2 aW (vC (.int 20)) (vSh 5)) (ag .(M) ao)))) .(i))) (aR 6 (b1 wb (vSh 6))) aY) (aw (aR 7 (cF kO (ag (vSh 0) (ag (b2 aW (vC (.int 24)) (b2 cR .(u) (vSh 5))) (ag (b2 jN (vSh 3) .(Q)) ao))))) (aw (aR 8 (b2 ixD (aS (szF (ag (vSh 3) (ag (cF bq (ag (vSh 0) (ag (b2 aW (vC (.int 37)) (vSh 5)) (ag (b2 aW (vSh 3) .(i)) ao)))) ao)))) (b2 jN (cF bq (ag (vSh 0) (ag (b2 aW (vC (.int 40)) (vSh 5)) (ag .(M) ao)))) .(Q)))) X2))))) (ff 4 (aG (vSh 4)))))
abbrev X8:=aG (bo (szF (ag (vSh 6) (ag (vSh 9) (ag (cF oU (ag (vSh 3) (ag (vSh 4) (ag (vSh 9) .(I))))) (ag (vSh 11) (ag (vSh 10) (ag (vSh 12) .(I)))))))))
abbrev X9:=cF bq (ag (vSh 3) (ag .(f) (ag (b2 ixD (aS (szF (ag .(Q) (ag .(M) (ag (vC (.int 8)) ao))))) (cF bq (ag (vSh 3) (ag .(i) (ag .(M) ao))))) ao)))
def sO:FQ:=aP 10
  (aw (aR 3 (cF gX (ag (vSh 0) (ag .(f) ao)))) (aw (aR 4 (b2 aW (slF (vSh 0) (pS .(u)) (pS (b2 aW .(u) (vSh 1)))) (aS (szF (ag (cF gX (ag (vSh 0) (ag .(M) ao))) ao))))) (aw (aR 5 (cF jQ (ag (cF iL (ag .(i) (ag (b2 kP (cF b9 .(ac)) .(u)) ao))) .(J)))) (aw (eQ 6 (szF ao)) (aw (bW (itR dM (ag (b2 aW .(i) X9) ao)) (aA 7) (gb 6 (bo (szF (ag (b2 aW (vC (.str "be")) (b2 ixD (vC (.str "abcdefgh")) (vSh 7))) (ag (cF sS (ag (b2 aW (cF gX (ag (vSh 0) (ag .(i) ao))) (b2 cR .(Q) (vSh 7))) (ag .(f) .(I)))) ao)))))) (aw (aR 8 (cF tN (ag (cF gX (ag (vSh 0) (ag .(Q) ao))) (ag (vSh 5) ao)))) (ff 6 (aw (aR 9 (aS (ba (itR dM (ag (vSh 5) ao)) (aA 0) tT (cF t4 (ag (b2 ixD (vSh 3) (vSh 0)) (ag (b2 ixD (vSh 4) (vSh 0)) (ag (vSh 1) .(I))))) [af,aa 6,aa 2,aa 4,aa 8]))) (aw (aR 10 (cF sr (ag (vSh 3) (ag (vC (.int 50)) (ag (vSh 9) ao))))) (aw (aR 11 (cF tW (ag (cF gX (ag (vSh 0) (ag .(M) ao))) (ag (vSh 6) .(I))))) (aw (aR 10 (nJ 10 (aS (ba (kL (vSh 10)) (aA 0) tT (b2 jU (vSh 0) (bo (szF (ag (cF jQ (ag (b2 cm (vSh 2) (vSh 0)) .(J))) ao)))) [af,aa 2,aa 10])))) (aw (aR 12 (aS (szF ao))) (aw (sIf (toB (b2 eqD (cF bq (ag (vSh 3) (ag (vC (.int 70)) (ag .(M) ao)))) .(i))) (aR 12 (cF ue (ag (cF gX (ag (vSh 0) (ag .(i) ao))) (ag (vSh 9) ao)))) aY) X8)))))))))))))
def oM:FQ:=aP 0
  (aG (aS (ba (itF (bM "Shop" "steps" (vSh 0))) (aA 0) tT .(p) [af])))
def iK (dJ:FQ):FQ:=aP 0
  (aw (sIf (toB (cF dv (ag (vSh 0) (ag (vC (.ty "list")) ao)))) (aG (aS (ba (itF (vSh 0)) (aA 0) tT (cF dJ .(ac)) [af]))) aY) (aw (sIf (toB (cF dv (ag (vSh 0) (ag (vC (.ty "tuple")) ao)))) (aG (cF xx (ag (aS (ba (itF (vSh 0)) (aA 0) tT (cF dJ .(ac)) [af])) ao))) aY) (aG (vSh 0))))
def i6:ak->FQ
 |0=>fun _=>af
 |n+1=>iK (i6 n)
def dJ:FQ:=i6 8
def xO:FQ:=aP 0
  (aG (cF dJ (ag (b2 ixD (b2 cm (bM "Shop" "step_by_name" (vSh 0)) (vSh 1)) .(Q)) ao)))
def vR:FQ:=aP 0
  (aG (cF dJ (ag (b2 pE (bM "Shop" "job_by_step" (vSh 0)) (vSh 1)) ao)))
def ny:FQ:=aP 0
  (aG (bM "Shop" "horizon" (vSh 0)))
def tG:FQ:=aP 0
  (aG (cF dJ (ag (bM "Shop" "benches" (vSh 0)) ao)))
def rC:FQ:=aP 0
  (aG (cF dJ (ag (bM "Shop" "jobs" (vSh 0)) ao)))
abbrev X4:=ba (itF (slF (vSh 0) (pS (b2 aW (vSh 2) .(i))) pN)) (aA 0) tT (bo (szF (ag (vSh 1) .(ac)))) [af,aa 3]
def mU:FQ:=aP 3
  (aw (eQ 1 (szF ao)) (aw (bW (itE (vSh 0)) (cN 2 (bx (aA 2) (bx (aA 3) cM))) (gR 1 (aS X4))) (ff 1 (aG (vSh 1)))))
def rG:FQ:=aP 0
  (aG (cF dJ (ag (bM "Shop" "links" (vSh 0)) ao)))
def xJ:FQ:=aP 6
  (aw (tz 1) (aw (bW (itF (bT "Shop" "job_rows" rC (vSh 0) ao)) (aA 2) (sIf (toB (b2 ixD (vSh 2) .(M))) (bW (itF (cF mU (ag (b2 ixD (vSh 2) .(u)) ao))) (aA 3) (dZ 1 (vSh 3) .(f))) aY)) (aw (bW (itF (bT "Shop" "link_rows" rG (vSh 0) ao)) (cN 3 (bx (aA 4) (bx (aA 5) (bx (aA 6) cM)))) (dZ 1 (bo (szF (ag (vSh 4) (ag (vSh 5) ao)))) (vSh 6))) (jS 1 (aG (vSh 1))))))
abbrev X0:=ba (itF (vSh 1)) (aA 0) (toB (b2 jI (bo (szF (ag (vSh 1) .(ac)))) (vSh 2))) (bo (szF (ag (vSh 1) (ag (vSh 0) (ag (b2 cm (vSh 2) (bo (szF (ag (vSh 1) .(ac))))) ao))))) [af,aa 4,aa 2]
def vV:FQ:=aP 4
  (aw (aR 1 (bT "Shop" "step_names" oM (vSh 0) ao)) (aw (aR 2 (cF xJ .(ac))) (aw (eQ 3 (szF ao)) (aw (bW (itF (vSh 1)) (aA 4) (gR 3 (aS X0))) (ff 3 (aG (vSh 3)))))))
def pC:ac D->aq Fo:=fY 3 "Grounds"
  (aw (ja "Grounds" "told_shop" 0 (vSh 1)) (aw (ja "Grounds" "kept_plan" 0 (ifD (toB (b2 isD (vSh 3) (vC .non))) (vC .non) (cF sL (ag (vSh 3) ao)))) (aw (ja "Grounds" "kept_most" 0 (vSh 4)) (aw (fM "Grounds" "lengths" 0 (.k [])) (aw (fM "Grounds" "job_names" 0 (.k [])) (aw (fM "Grounds" "early_moments" 0 (.k [])) (aw (fM "Grounds" "end_marks" 0 (.k [])) (aw (bW (itF (bT "Shop" "step_names" oM (vSh 1) ao)) (aA 5) (aw (io "Grounds" "lengths" 0 (vSh 5) (cF kR (ag (bT "Shop" "ways_of" xO (vSh 1) (ag (vSh 5) ao)) ao))) (aw (aR 6 (bT "Shop" "job_of" vR (vSh 1) (ag (vSh 5) ao))) (aw (io "Grounds" "job_names" 0 (vSh 5) (ifD (toB (b2 isD (vSh 6) (vC .non))) (vC .non) (b2 ixD (vSh 6) .(f)))) (aw (io "Grounds" "early_moments" 0 (vSh 5) (ifD (toB (b2 isD (vSh 6) (vC .non))) .(f) (b2 ixD (vSh 6) .(i)))) (aw (aR 7 (ifD (toB (b2 isD (vSh 6) (vC .non))) (bT "Shop" "last_moment" ny (vSh 1) ao) (b2 ixD (vSh 6) .(Q)))) (io "Grounds" "end_marks" 0 (vSh 5) (cF xn (ag (vSh 2) (ag (bT "Shop" "last_moment" ny (vSh 1) ao) (ag (vSh 7) ao))))))))))) (aw (ja "Grounds" "breaks" 0 (cF kR (ag (bT "Shop" "bench_rows" tG (vSh 1) ao) ao))) (ja "Grounds" "known_gaps" 0 (cF nF (ag (aS (ba (itF (cF vV .(J))) (cN 3 (bx (aA 0) (bx (aA 1) (bx (aA 2) cM)))) tT .(bG) [af,af,af])) ao))))))))))))
def oQ:(Fo->ac D->aq (D×Fo)):=lF 0 "Facts"
  (io "Facts" "open_benches" 0 (vSh 1) (bwF 0 (aS (rV (b2 cm (bM "Grounds" "lengths" .(aj)) (vSh 1)) (aA 0) (toB (b2 gJ (vSh 0) (vSh 1))) (vSh 0) [af,aa 2]))))
def pz:(Fo->ac D->aq (D×Fo)):=lF 0 "Facts"
  (aw (io "Facts" "firsts" 0 (vSh 1) (vSh 2)) (io "Facts" "lasts" 0 (vSh 1) (vSh 3)))
def sy:FQ:=aP 0
  (aG (b2 cm (bM "Grounds" "end_marks" .(aj)) (vSh 1)))
def sP:FQ:=aP 1
  (aw (aR 2 (b2 cm (bM "Grounds" "lengths" .(aj)) (vSh 1))) (aG (aS (ba (itF (b2 cm (bM "Facts" "open_benches" (vSh 0)) (vSh 1))) (aA 0) tT (b2 cm (vSh 1) (vSh 0)) [af,aa 2]))))
def pH:FQ:=aP 0
  (aG (b1 xY (bT "Facts" "open_lengths" sP (vSh 0) .(J))))
def iA:ac D->aq Fo:=fY 3 "Facts"
  (aw (ja "Facts" "grounds" 0 (cF (fun ds=>(pC (ds++[])).map (foD "Grounds")) (ag (vSh 1) (ag (vSh 2) (ag (vSh 4) (ag (vSh 5) ao)))))) (aw (fM "Facts" "open_benches" 0 (.k [])) (aw (fM "Facts" "firsts" 0 (.k [])) (aw (fM "Facts" "lasts" 0 (.k [])) (aw (fM "Facts" "put_pairs" 0 (.t [])) (aw (fM "Facts" "notes" 0 (.k [])) (bW (itF (bT "Shop" "step_names" oM (vSh 1) ao)) (aA 7) (aw (aR 8 (bwF 0 (b2 cm (bM "Grounds" "early_moments" .(aj)) (vSh 7)))) (sIf (lD (toB (b2 dI (vSh 3) (vC .non))) (toB (b2 jI (vSh 7) (vSh 3)))) (aw (aR 9 (b2 ixD (b2 cm (vSh 3) (vSh 7)) .(i))) (aw (kz "Facts" "set_open" 0 oQ (ag (vSh 7) (ag (aS (szF (ag (b2 ixD (b2 cm (vSh 3) (vSh 7)) .(f)) ao))) ao))) (kz "Facts" "set_window" 0 pz (ag (vSh 7) (ag (cF iL (ag (vSh 9) (ag (vSh 8) ao))) (ag (vSh 9) ao)))))) (aw (kz "Facts" "set_open" 0 oQ (kM 0 (ag (vSh 7) (ag (cF sZ (ag (b2 cm (bM "Grounds" "lengths" .(aj)) (vSh 7)) ao)) ao)))) (kz "Facts" "set_window" 0 pz (kM 0 (ag (vSh 7) (ag (cF iL (ag (vSh 6) (ag (vSh 8) ao))) (ag (b2 kP (bT "Facts" "end_mark" sy (vSh 0) (ag (vSh 7) ao)) (bT "Facts" "least_of" pH (vSh 0) (ag (vSh 7) ao))) ao)))))))))))))))
def tU:FQ:=aP 0
  (aG (cc (cF dv (ag (vSh 0) (ag (vC (.ty "int")) ao))) (oH (cF dv (ag (vSh 0) (ag (vC (.ty "bool")) ao))))))
def f':FQ:=aP 0
  (aG (cc (cF tU .(ac)) (chD leD leD (vSh 1) (vSh 0) (vSh 2))))
def fz:FQ:=aP 0
  (aG (cc (cF dv (ag (vSh 0) (ag (vC (.ty "tuple")) ao))) (b2 eqD (cF b9 .(ac)) (vSh 1))))
def uk:FQ:=aP 0
  (aw (sIf (orT (bh (toB (cF fz (ag (vSh 0) (ag .(Q) ao))))) (orT (bh (toB (cF f' (ag .(p) (ag .(f) .(J)))))) (bh (toB (cF f' (ag .(aC) (ag .(f) .(J)))))))) .(F) aY) (aG (b2 ltD .(p) .(aC))))
def gr:FQ:=aP 0
  (aG (cc (cF dv (ag (vSh 0) (ag (vC (.ty "list")) ao))) (chD leD leD (vSh 1) (cF b9 .(ac)) (vSh 2))))
abbrev X5:=ag (aS (ba (itR mq (ag .(i) (ag (cF b9 .(ac)) ao))) (aA 0) tT (b2 ltD (b2 ixD (b2 ixD (vSh 1) (b2 kP (vSh 0) .(i))) .(i)) (b2 ixD (b2 ixD (vSh 1) (vSh 0)) .(f))) [af,aa 0])) ao
def wF:FQ:=aP 0
  (aw (sIf (orT (bh (toB (cF gr (ag (vSh 0) (ag .(f) (ag (vC (.int 10)) ao)))))) (bh (toB (cF fj (ag (aS (ba (itF (vSh 0)) (aA 0) tT (cF uk (ag (vSh 0) .(J))) [af,aa 1])) ao))))) .(F) aY) (aG (cF fj X5)))
def jd:FQ:=aP 0
  (aw (sIf (orT (bh (toB (cF dv (ag (vSh 0) (ag (vC (.ty "str")) ao))))) (bh (toB (chD leD leD .(i) (cF b9 .(ac)) (vC (.int 8)))))) .(F) aY) (aG (cF fj (ag (aS (ba (itS (vSh 0)) (aA 0) tT (chD leD leD (vC (.str "a")) (vSh 0) (vC (.str "z"))) [af])) ao))))
def sN:FQ:=aP 0
  (aG (cc (cF fz (ag (vSh 0) (ag .(Q) ao))) (cc (cF jd (ag .(p) ao)) (cF wF (ag .(aC) .(J))))))
def e9:FQ:=aP 0
  (aG (b2 eqD (b1 nP (vSh 0)) (cF b9 .(ac))))
abbrev X1:=ag (aS (ba (itF (vSh 0)) (aA 0) tT .(p) [af])) ao
def yE:FQ:=aP 0
  (aw (sIf (orT (bh (toB (cF gr (ag (vSh 0) (ag .(i) (ag (vC (.int 8)) ao)))))) (bh (toB (cF fj (ag (aS (ba (itF (vSh 0)) (aA 0) tT (cF sN (ag (vSh 0) .(J))) [af,aa 1])) ao))))) .(F) aY) (aG (cF e9 X1)))
def jK:FQ:=aP 0
  (aG (cc (cF jd .(ac)) (b2 gJ (vSh 0) (vSh 1))))
def uw:FQ:=aP 0
  (aG (cc (cF fz (ag (vSh 0) (ag .(Q) ao))) (cc (cF jK (ag .(p) .(J))) (cF f' (ag .(aC) (ag .(i) .(I)))))))
def xI:FQ:=aP 0
  (aw (sIf (orT (bh (toB (cF gr (ag (vSh 0) (ag .(i) (ag .(u) ao)))))) (bh (toB (cF fj (ag (aS (ba (itF (vSh 0)) (aA 0) tT (cF uw (ag (vSh 0) (ag (vSh 1) .(I)))) [af,aa 1,aa 2])) ao))))) .(F) aY) (aG (cF e9 X1)))
def tK:FQ:=aP 0
  (aw (sIf (orT (bh (toB (cF fz (ag (vSh 0) (ag .(M) ao))))) (orT (bh (toB (cF jd (ag .(p) ao)))) (bh (toB (cF jd (ag .(aC) ao)))))) .(F) aY) (aG (cF xI (ag (b2 ixD (vSh 0) .(Q)) (ag (vSh 1) .(I))))))
def wv:FQ:=aP 0
  (aw (sIf (orT (bh (toB (cF gr (ag (vSh 0) (ag .(i) (ag (vC (.int 40)) ao)))))) (bh (toB (cF fj (ag (aS (ba (itF (vSh 0)) (aA 0) tT (cF tK (ag (vSh 0) (ag (vSh 1) .(I)))) [af,aa 1,aa 2])) ao))))) .(F) aY) (aG (cF e9 X1)))
def wE:FQ:=aP 0
  (aw (sIf (orT (bh (toB (cF fz (ag (vSh 0) (ag (vC (.int 5)) ao))))) (orT (bh (toB (cF jd (ag .(p) ao)))) (bh (toB (cF dv (ag (b2 ixD (vSh 0) .(M)) (ag (vC (.ty "bool")) ao))))))) .(F) aY) (aw (sIf (orT (bh (toB (cF f' (ag .(aC) (ag .(f) .(I)))))) (bh (toB (cF f' (ag (b2 ixD (vSh 0) .(Q)) (ag .(f) .(I))))))) .(F) aY) (aG (cc (cF gr (ag (b2 ixD (vSh 0) .(u)) (ag .(i) (ag (cF b9 .(J)) ao)))) (cF fj (ag (aS (ba (itF (b2 ixD (vSh 0) .(u))) (aA 0) tT (cF jK (ag (vSh 0) .(J))) [af,aa 1])) ao))))))
def xW:FQ:=aP 2
  (aw (sIf (orT (bh (toB (cF gr (ag (vSh 0) (ag .(f) (ag (vC (.int 40)) ao)))))) (bh (toB (cF fj (ag (aS (ba (itF (vSh 0)) (aA 0) tT (cF wE (ag (vSh 0) (ag (vSh 1) .(I)))) [af,aa 1,aa 2])) ao))))) .(F) aY) (aw (eQ 3 (szF ao)) (aw (bW (itF (vSh 0)) (aA 4) (gR 3 (b2 ixD (vSh 4) .(u)))) (ff 3 (aG (cc (cF e9 X1) (cF e9 (ag (vSh 3) ao))))))))
def tj:FQ:=aP 0
  (aw (sIf (orT (bh (toB (cF fz (ag (vSh 0) (ag .(u) ao))))) (bh (toB (cF jK (ag .(p) .(J)))))) .(F) aY) (aG (cc (cF jd (ag .(aC) ao)) (cc (cF jd (ag (b2 ixD (vSh 0) .(Q)) ao)) (cF f' (ag (b2 ixD (vSh 0) .(M)) (ag .(i) .(I))))))))
def yd:FQ:=aP 0
  (aw (sIf (orT (bh (toB (cF gr (ag (vSh 0) (ag .(f) (ag (vC (.int 100)) ao)))))) (bh (toB (cF fj (ag (aS (ba (itF (vSh 0)) (aA 0) tT (cF tj (ag (vSh 0) (ag (vSh 1) .(I)))) [af,aa 1,aa 2])) ao))))) .(F) aY) (aG (cF e9 (ag (aS (ba (itF (vSh 0)) (aA 0) tT (slF (vSh 0) pN (pS .(M))) [af])) ao))))
def sC:FQ:=aP 0
  (aw (sIf (orT (bh (toB (cF fz (ag (vSh 0) (ag .(M) ao))))) (orT (bh (toB (cF jK (ag .(p) .(J))))) (bh (toB (cF jK (ag .(aC) .(J))))))) .(F) aY) (aG (cc (b2 neA .(p) .(aC)) (cF f' (ag (b2 ixD (vSh 0) .(Q)) (ag .(f) .(I)))))))
def xF:FQ:=aP 0
  (aw (sIf (orT (bh (toB (cF gr (ag (vSh 0) (ag .(f) (ag (vC (.int 100)) ao)))))) (bh (toB (cF fj (ag (aS (ba (itF (vSh 0)) (aA 0) tT (cF sC (ag (vSh 0) (ag (vSh 1) .(I)))) [af,aa 1,aa 2])) ao))))) .(F) aY) (aG (cF e9 (ag (aS (ba (itF (vSh 0)) (aA 0) tT (slF (vSh 0) pN (pS .(Q))) [af])) ao))))
def sJ:FQ:=aP 0
  (aG (cc (cF fz (ag (vSh 0) (ag .(Q) ao))) (cc (cF jK (ag .(p) .(J))) (cF f' (ag .(aC) (ag .(i) (ag (vC (.int 1000000)) ao)))))))
def tM:FQ:=aP 0
  (aw (sIf (orT (bh (toB (cF gr (ag (vSh 0) (ag .(f) (ag (cF b9 .(J)) ao)))))) (bh (toB (cF fj (ag (aS (ba (itF (vSh 0)) (aA 0) tT (cF sJ (ag (vSh 0) .(J))) [af,aa 1])) ao))))) .(F) aY) (aG (cF e9 X1)))
def t8:FQ:=aP 0
  (aw (sIf (orT (bh (toB (cF fz (ag (vSh 0) (ag (vC (.int 5)) ao))))) (bh (toB (cF jd (ag .(p) ao))))) .(F) aY) (aw (sIf (orT (bh (toB (cF f' (ag (b2 ixD (vSh 0) .(Q)) (ag .(f) (ag (vC (.int 1000000)) ao)))))) (bh (toB (cF f' (ag .(aC) (ag .(f) (ag (b2 ixD (vSh 0) .(Q)) ao))))))) .(F) aY) (aG (cc (cF tM (ag (b2 ixD (vSh 0) .(M)) .(J))) (cF tM (ag (b2 ixD (vSh 0) .(u)) .(J)))))))
def xh:FQ:=aP 0
  (aw (sIf (orT (bh (toB (cF gr (ag (vSh 0) (ag .(f) (ag (vC (.int 6)) ao)))))) (bh (toB (cF fj (ag (aS (ba (itF (vSh 0)) (aA 0) tT (cF t8 (ag (vSh 0) .(J))) [af,aa 1])) ao))))) .(F) aY) (aG (cF e9 X1)))
def vU:FQ:=aP 2
  (aw (sIf (bh (toB (cF f' (ag (vSh 6) (ag .(i) (ag (vC (.int 1000000)) ao)))))) (aG (vC (.str "horizon"))) aY) (aw (sIf (bh (toB (cF yE (ag (vSh 0) (ag (vSh 6) ao))))) (aG (vC (.str "benches"))) aY) (aw (aR 7 (aS (ba (itF (vSh 0)) (aA 0) tT .(p) [af]))) (aw (sIf (bh (toB (cF wv (ag (vSh 1) (ag (vSh 7) (ag (vSh 6) ao)))))) (aG (vC (.str "steps"))) aY) (aw (aR 8 (aS (ba (itF (vSh 1)) (aA 0) tT .(p) [af]))) (aw (sIf (bh (toB (cF xW (ag (vSh 2) (ag (vSh 8) (ag (vSh 6) ao)))))) (aG (vC (.str "jobs"))) aY) (aw (sIf (bh (toB (cF yd (ag (vSh 3) (ag (vSh 7) (ag (vSh 6) ao)))))) (aG (vC (.str "setups"))) aY) (aw (sIf (bh (toB (cF xF (ag (vSh 4) (ag (vSh 8) (ag (vSh 6) ao)))))) (aG (vC (.str "links"))) aY) (aw (sIf (bh (toB (cF xh (ag (vSh 5) (ag (vSh 8) ao))))) (aG (vC (.str "stocks"))) aY) (aG (vC .non)))))))))))
abbrev X6:=bW (itF (b2 ixD (vSh 9) .(u))) (aA 10) (iZ "Shop" "job_by_step" 0 (vSh 10) (vSh 9))
def yC:FQ:=mV 3 "Shop"
  (aw (aR 8 (cF vU (ag (vSh 1) (ag (vSh 2) (ag (vSh 3) (ag (vSh 4) (ag (vSh 5) (ag (vSh 6) (ag (vSh 7) ao))))))))) (aw (sIf (toB (b2 dI (vSh 8) (vC .non))) sNo aY) (aw (fS "Shop" "benches" 0 (cF dJ .(J))) (aw (fS "Shop" "steps" 0 (cF dJ .(I))) (aw (fS "Shop" "jobs" 0 (cF dJ (ag (vSh 3) ao))) (aw (fS "Shop" "setups" 0 (cF dJ (ag (vSh 4) ao))) (aw (fS "Shop" "links" 0 (cF dJ (ag (vSh 5) ao))) (aw (fS "Shop" "stocks" 0 (cF dJ (ag (vSh 6) ao))) (aw (fS "Shop" "horizon" 0 (vSh 7)) (aw (fS "Shop" "bench_by_name" 0 (cF kR (ag (aS (ba (itF (iM "Shop" "benches" 0)) (aA 0) tT (bo (szF (ag .(p) .(ac)))) [af])) ao))) (aw (fS "Shop" "step_by_name" 0 (cF kR (ag (aS (ba (itF (iM "Shop" "steps" 0)) (aA 0) tT (bo (szF (ag .(p) .(ac)))) [af])) ao))) (aw (fS "Shop" "setup_by_names" 0 (cF nF (ag (aS (ba (itF (iM "Shop" "setups" 0)) (aA 0) tT (bo (szF (ag (slF (vSh 0) pN (pS .(M))) (ag (b2 ixD (vSh 0) .(M)) ao)))) [af])) ao))) (aw (nB "Shop" "job_by_step" 0) (bW (itF (iM "Shop" "jobs" 0)) (aA 9) X6))))))))))))))
def mj:FQ:=aP 0
  (aG (cF yC (ag .(p) (ag .(aC) (ag (b2 ixD (vSh 0) .(Q)) (ag (b2 ixD (vSh 0) .(M)) (ag (b2 ixD (vSh 0) .(u)) (ag (b2 ixD (vSh 0) (vC (.int 5))) (ag (b2 ixD (vSh 0) (vC (.int 6))) ao)))))))))
def mY:FQ:=aP 5
  (aw (tV 3) (aw (bW (itR dM (ag (cF bq (ag (vSh 0) (ag (vC (.int 90)) (ag .(u) ao)))) ao)) (aA 4) (aw (mf (cN 3 (bx (aA 5) (bx (aA 6) (bx (aA 7) cM)))) (b2 ixD (vSh 1) (cF bq (ag (vSh 0) (ag (b2 aW (vC (.int 91)) (vSh 4)) (ag (cF b9 .(J)) ao)))))) (dZ 3 (vSh 5) (bo (szF (ag (b2 ixD (b2 ixD (vSh 7) (cF bq (ag (vSh 0) (ag (b2 aW (vC (.int 95)) (vSh 4)) (ag (cF b9 (ag (vSh 7) ao)) ao))))) .(f)) (ag (cF bq (ag (vSh 0) (ag (b2 aW (vC (.int 99)) (vSh 4)) (ag (b2 aW (vSh 2) .(i)) ao)))) ao))))))) (jS 3 (aG (vSh 3)))))
def nv:FQ:=aP 6
  (aw (tV 3) (aw (bW (itR dM (ag (cF bq (ag (vSh 0) (ag (vC (.int 103)) (ag (vC (.int 6)) ao)))) ao)) (aA 4) (aw (mf (cN 3 (bx (aA 5) (bx (aA 6) (bx (aA 7) cM)))) (b2 ixD (vSh 1) (cF bq (ag (vSh 0) (ag (b2 aW (vC (.int 104)) (vSh 4)) (ag (cF b9 .(J)) ao)))))) (aw (aR 8 (b2 ixD (aS (szF (ag (b2 ixD (b2 ixD (vSh 7) (b1 xK .(i))) .(f)) (ag (vC (.str "elder")) ao)))) (b2 jN (cF bq (ag (vSh 0) (ag (b2 aW (vC (.int 110)) (vSh 4)) (ag (vC (.int 5)) ao)))) .(u)))) (dZ 3 (vSh 5) (bo (szF (ag (vSh 8) (ag (cF bq (ag (vSh 0) (ag (b2 aW (vC (.int 116)) (vSh 4)) (ag (b2 aW (vSh 2) .(i)) ao)))) ao)))))))) (jS 3 (aG (vSh 3)))))
def tS:FQ:=aP 1
  (aw (bW (itF (b2 ixD (vSh 0) .(Q))) (aA 2) (sIf (toB (b2 gJ (vSh 1) (b2 ixD (vSh 2) .(u)))) (aG (vSh 2)) aY)) (aG (vC .non)))
def oZ:FQ:=aP 2
  (aw (aR 3 (cF jQ (ag (vSh 1) (ag (b2 ixD (vSh 0) (vC (.int 6))) ao)))) (aw (aR 4 (cF tS (ag (vSh 0) .(I)))) (aw (sIf (toB (b2 dI (vSh 4) (vC .non))) (aR 3 (cF jQ (ag (vSh 3) (ag (b2 ixD (vSh 4) .(Q)) ao)))) aY) (aG (vSh 3)))))
def pi:FQ:=aP 8
  (aw (tV 4) (aw (bW (itF .(aC)) (cN 3 (bx (aA 5) (bx (aA 6) (bx (aA 7) cM)))) (aw (aR 8 (cF tS (ag (vSh 0) (ag (vSh 5) ao)))) (aw (aR 9 .(f)) (aw (sIf (toB (b2 dI (vSh 8) (vC .non))) (aR 9 (b2 ixD (vSh 8) .(i))) aY) (aw (aR 10 (b2 kP (cF oZ (ag (vSh 0) (ag (vSh 1) (ag (vSh 5) ao)))) (cF nj (ag (aS (ba (itF (vSh 7)) .(P) tT (vSh 1) [af,af])) ao)))) (aw (dZ 4 (vSh 5) (bo (szF (ag (cF iL (ag (vSh 3) (ag (vSh 9) ao))) (ag (vSh 10) (ag (vSh 7) ao)))))) (sIf (toB (b2 jI (vSh 5) (vSh 2))) (aw (aR 11 (aS (ba (itF (vSh 7)) (aA 0) (toB (b2 eqA .(p) (b2 ixD (b2 cm (vSh 1) (vSh 2)) .(f)))) (vSh 0) [af,aa 2,aa 5]))) (dZ 4 (vSh 5) (bo (szF (ag (cF iL (ag (b2 ixD (b2 cm (vSh 2) (vSh 5)) .(i)) (ag (vSh 9) ao))) (ag (b2 ixD (b2 cm (vSh 2) (vSh 5)) .(i)) (ag (vSh 11) ao))))))) aY))))))) (jS 4 (aG (vSh 4)))))
def gQ:FQ:=aP 0
  (aG (b2 dI (bM "Grounds" "kept_plan" .(aj)) (vC .non)))
def wa:FQ:=aP 0
  (aG (bM "Grounds" "kept_most" .(aj)))
def jG:FQ:=aP 0
  (aG (cc (cF dv (ag (vSh 0) (ag (vC (.ty "int")) ao))) (cc (oH (cF dv (ag (vSh 0) (ag (vC (.ty "bool")) ao)))) (b2 eqA (vSh 0) (vSh 1)))))
def sk:FQ:=aP 0
  (aG (ifD (toB (bT "Facts" "has_kept" gQ (vSh 0) ao)) (cF l9 (ag (bM "Grounds" "kept_plan" .(aj)) ao)) (aS (szF ao))))
def ut:ac D->aq (ac D):=jA 0
  (kD (ifO (toB (bT "Facts" "has_kept" gQ (vSh 0) ao)) (tp (bM "Grounds" "kept_plan" .(aj))) (szF ao)))
def vZ:FQ:=aP 0
  (aG (ifD (toB (bT "Facts" "has_kept" gQ (vSh 0) ao)) (b2 pE (bM "Grounds" "kept_plan" .(aj)) (vSh 1)) (vC .non)))
def lK:FQ:=aP 1
  (aw (sIf (orT (bh (toB (cF dv (ag (bT "Facts" "has_kept" gQ (vSh 0) ao) (ag (vC (.ty "bool")) ao))))) (toB (b2 neA (bT "Facts" "has_kept" gQ (vSh 0) ao) (b2 dI (vSh 2) (vC .non))))) .(F) aY) (aw (sIf (bh (toB (cF jG (ag (bT "Facts" "most_moved" wa (vSh 0) ao) (ag (vSh 3) ao))))) .(F) aY) (aw (sIf (toB (b2 isD (vSh 2) (vC .non))) (aG (vC (.bl ah))) aY) (aw (sIf (toB (b2 neA (bT "Facts" "kept_names" sk (vSh 0) ao) (cF l9 .(I)))) .(F) aY) (aw (ku (i7 "Facts" "kept_names" ut (vSh 0) ao) (vC (.str "zz"))) (aw (bW (itF (b2 ixD (vSh 1) .(i))) (aA 4) (sIf (toB (b2 neA (bT "Facts" "kept_place" vZ (vSh 0) (ag (b2 ixD (vSh 4) .(f)) ao)) (b2 pE (vSh 2) (b2 ixD (vSh 4) .(f))))) .(F) aY)) (aG (b2 eqA (bT "Facts" "kept_names" sk (vSh 0) ao) (cF l9 .(I))))))))))
def wk:FQ:=aP 0
  (aG (b2 cm (bM "Facts" "lasts" (vSh 0)) (vSh 1)))
def wo:FQ:=aP 0
  (aG (b2 cm (bM "Facts" "firsts" (vSh 0)) (vSh 1)))
def wj:FQ:=aP 0
  (aG (cF wD (ag (b2 cm (bM "Facts" "open_benches" (vSh 0)) (vSh 1)) ao)))
def yk:FQ:=aP 0
  (aG (b1 ym (bT "Facts" "open_lengths" sP (vSh 0) .(J))))
def tZ:ac D->aq (ac D):=jA 0
  (kD (vY (b2 cm (bM "Facts" "open_benches" (vSh 0)) (vSh 1))))
def rM:ac D->aq (ac D):=jA 0
  (kD (rW (bM "Facts" "put_pairs" (vSh 0))))
def uj:ac D->aq (ac D):=jA 0
  (kD (tX (bM "Facts" "notes" (vSh 0))))
def xq:FQ:=aP 0
  (aG (cF sZ (ag (bM "Facts" "notes" (vSh 0)) ao)))
def xm:FQ:=aP 0
  (aG (cF wC (ag (bM "Facts" "put_pairs" (vSh 0)) ao)))
def o7:FQ:=aP 8
  (aw (bW (itF (b2 ixD (vSh 1) .(i))) (cN 3 (bx (aA 4) (bx (aA 5) (bx (aA 6) cM)))) (aw (mf (cN 3 (bx (aA 7) (bx (aA 8) (bx (aA 9) cM)))) (b2 cm (vSh 3) (vSh 4))) (aw (aR 10 (cF oZ (ag (vSh 1) (ag (vSh 2) (ag (vSh 4) ao))))) (aw (sIf (orT (bh (toB (cF jG (ag (bT "Facts" "first_of" wo (vSh 0) (ag (vSh 4) ao)) (ag (vSh 7) ao))))) (bh (toB (cF jG (ag (bT "Facts" "last_of" wk (vSh 0) (ag (vSh 4) ao)) (ag (vSh 8) ao)))))) .(F) aY) (aw (sIf (orT (bh (toB (cF jG (ag (bT "Facts" "end_mark" sy (vSh 0) (ag (vSh 4) ao)) (ag (vSh 10) ao))))) (toB (b2 neA (bT "Facts" "open_to" wj (vSh 0) (ag (vSh 4) ao)) (aS (ba (itF (vSh 9)) .(P) tT (vSh 0) [af,af]))))) .(F) aY) (aw (aR 11 (aS (ba (itF (vSh 9)) .(P) tT (vSh 1) [af,af]))) (aw (sIf (orT (bh (toB (cF jG (ag (bT "Facts" "least_of" pH (vSh 0) (ag (vSh 4) ao)) (ag (cF nj (ag (vSh 11) ao)) ao))))) (bh (toB (cF jG (ag (bT "Facts" "greatest_of" yk (vSh 0) (ag (vSh 4) ao)) (ag (cF ur (ag (vSh 11) ao)) ao)))))) .(F) aY) (ku (i7 "Facts" "open_to" tZ (vSh 0) (ag (vSh 4) ao)) (vC (.str "zz")))))))))) (aw (ku (i7 "Facts" "orders" rM (vSh 0) ao) (bo (szF (ag (vC (.str "zz")) (ag (vC (.str "zz")) ao))))) (aw (ku (i7 "Facts" "noted" uj (vSh 0) ao) (vC (.str "zz"))) (aG (cc (b2 eqA (bT "Facts" "orders" xm (vSh 0) ao) (aS (szF ao))) (b2 eqA (bT "Facts" "noted" xq (vSh 0) ao) (aS (szF ao))))))))
def vm:FQ:=aP 0
  (aG (bM "Grounds" "told_shop" .(aj)))
def yt:FQ:=aP 0
  (aG (cF dJ (ag (bM "Shop" "steps" (vSh 0)) ao)))
abbrev Xa:=aw (aR 8 (cF bq (ag (vSh 3) (ag (vC (.int 88)) (ag (b2 aW (vSh 1) .(i)) ao))))) (aw (pe 10 (vSh 5)) (aw (sIf (toB (b2 dI (vSh 6) (vC .non))) (nq 10 (vSh 6)) aY) (aw (aR 9 (mw 10 (cF (fun ds=>(iA (ds++[])).map (foD "Facts")) (ag (cF mj .(I)) (ag (vSh 4) (ag (fZ 10 0) (ag (fZ 10 1) (ag (vSh 7) (ag (vSh 8) ao))))))))) (aw (sIf (lH 10 (orT (toB (b2 il (fZ 10 0) (vSh 5))) (toB (b2 il (fZ 10 1) (vSh 6))))) .(F) aY) (aw (oN 10) (sIf (toB (b2 dI (vSh 6) (vC .non))) (oB 10 (vC (.str "zz")) (bo (szF (ag (vC (.str "zz")) (ag .(i) ao))))) aY))))))
abbrev Xb:=aw (aR 5 (cF mY (ag (vSh 3) (ag (b2 ixD (vSh 2) .(i)) .(J))))) (aw (aR 6 (b2 ixD (aS (szF (ag (vC .non) (ag (cF nv (ag (vSh 3) (ag (b2 ixD (vSh 2) .(i)) .(J)))) ao)))) (cF bq (ag (vSh 3) (ag (vC (.int 86)) (ag .(Q) ao)))))) (aw (aR 7 (cF bq (ag (vSh 3) (ag (vC (.int 87)) (ag (vC (.int 5)) ao))))) Xa))
abbrev xB:FS:=
  (aw (aR 1 (cF sI .(ac))) (aw (aR 2 (cF sO (ag (vSh 0) (ag (vC (.int 40)) .(J))))) (aw (aR 3 (cF gX (ag (vSh 0) (ag .(f) ao)))) (aw (aR 4 (cF bq (ag (vSh 3) (ag (vC (.int 84)) (ag (b2 aW (vSh 1) .(i)) ao))))) (aw (aR 5 (vC (.dk []))) (aw (aR 6 (vC .non)) (aw (aR 7 .(f)) (aw (aR 8 .(f)) (aw (aR 9 (cF (fun ds=>(iA (ds++[.non,.non,.int 0,.int 0])).map (foD "Facts")) (ag (cF mj .(I)) (ag (vSh 4) ao)))) (aw (sIf (toB (b2 eqD (cF bq (ag (vSh 3) (ag (vC (.int 85)) (ag .(Q) ao)))) .(i))) Xb aY) (aw (aR 11 (cF pi (ag (vSh 2) (ag (vSh 4) (ag (vSh 5) (ag (vSh 8) ao)))))) (aw (bW (itR dM (ag .(Q) ao)) (aA 12) (sIf (orT (bh (toB (cF o7 (ag (vSh 9) (ag (vSh 2) (ag (vSh 4) (ag (vSh 11) ao))))))) (bh (toB (cF lK (ag (vSh 9) (ag (vSh 2) (ag (vSh 6) (ag (vSh 7) ao)))))))) .(F) aY)) (aw (aR 13 (cFK (fun ds=>(iA ds).map (foD "Facts")) [.non,.non,.int 0] (ag (cF mj .(I)) (ag (vSh 4) ao)) (vSh 8))) (aw (sIf (bh (toB (cF o7 (ag (vSh 13) (ag (vSh 2) (ag (vSh 4) (ag (cF pi (ag (vSh 2) (ag (vSh 4) (ag (vC (.dk [])) (ag (vSh 8) ao))))) ao))))))) .(F) aY) (aw (aR 14 (bT "Facts" "shop" vm (vSh 9) ao)) (aG (cc (b2 eqA (bT "Shop" "step_rows" yt (vSh 14) ao) (b2 ixD (vSh 2) .(i))) (cc (b2 eqA (bT "Shop" "bench_rows" tG (vSh 14) ao) (b2 ixD (vSh 2) .(f))) (b2 eqA (bT "Shop" "last_moment" ny (vSh 14) ao) (vSh 1))))))))))))))))))))
def sB:FQ:=aP 14 xB
end Law
set_option maxHeartbeats 4000000
variable {C_Facts C_Grounds C_Shop:au} {r ρ':bA} {B:FE} {sn:ac ai} {br:ac (aj×aj)} {S x2 x4 x5 x6:aq Slot} {R:Fl×bA->Prop} {cs:ac aj} {lm nw:aj} {kp:D×aj} {kd hd:D} {O kl:ac (Key×D)}
namespace Law
theorem l34 {us:ac α} {its:ac β} {P:ac α->ac β->Prop} (k:∀a b c f g h i,P [a,b,c] [f,g,h,i]) (h1:us.length+4=7) (h2:its.length=4):P us its:=match us,its,h1,h2 with|[_,_,_],[_,_,_,_],_,_=>k ..
theorem l74 {us:ac α} {its:ac β} {P:ac α->ac β->Prop} (k:∀a b c d e f g h i j l,P [a,b,c,d,e,f,g] [h,i,j,l]) (h1:us.length+(4-4)=7) (h2:its.length=4):P us its:=match us,its,h1,h2 with|[_,_,_,_,_,_,_],[_,_,_,_],_,_=>k ..
theorem l3K {us its:ac α} {z:α} {P:ac α->ac α->Prop} (k:∀a b c f g h i,P [a,b,c] [f,g,h,i]) (h1:(us++(its.take 3++[z])).length=7) (h2:its.length=4):P us its:=l34 k (by rw[qk,qk,qF,h2] at h1;exact h1) h2
theorem Kl:FS1 ["_law_script","_law_k"] 2 (aB (top 56)):=aZ
theorem GO:FS1 ["_law_cell","_law_k","_law_many","_law_left","_law_j","_law_number"] 3 (aB (top 57)):=aZ
theorem P6:FS1 ["_law_script","_law_cell"] 1 (aB (top 67)):=aZ
theorem Js:FS1 ["_law_cell","_law_k","_law_most"] 3 (aB (top 59)):=aZ
theorem Le:FS1 ["_law_cell","_law_k","_law_horizon_here","_law_breaks_here","_law_at","_law_j","_law_begin","_law_end"] 3 (aB (top 60)):=aZ
theorem E8:FS1 ["_law_cell","_law_many","_law_letters","_law_stem","_law_at","_law_found","_law_k"] 2 (aB (top 58)):=aZ
theorem LB:FS1 ["_law_cell","_law_name","_law_benches","_law_horizon_here","_law_kind","_law_at","_law_some","_law_ways","_law_k","_law_bench","_law_most"] 4 (aB (top 61)):=aZ
theorem BB:FS1 ["_law_cell","_law_k","_law_steps","_law_found","_law_j","_law_one","_law_other"] 3 (aB (top 63)):=aZ
theorem v9:FS1 ["_law_cell","_law_benches","_law_horizon_here","_law_kinds","_law_found","_law_j","_law_key"] 3 (aB (top 64)):=aZ
theorem RV:FS1 ["_law_cell","_law_steps","_law_stocks_here","_law_j","_law_room","_law_takes","_law_puts"] 2 (aB (top 65)):=aZ
theorem K7:FS1 ["_law_cell","_law_cells","_law_steps","_law_horizon_here","_law_jobs_here","_law_k","_law_some","_law_early","_law_due"] 4 (aB (top 62)):=aZ
theorem AV:FS1 ["_law_script","_law_most","_law_horizon_here","_law_cell","_law_cells","_law_many","_law_benches","_law_k","_law_names_here","_law_steps","_law_links","_law_setups_here","_law_stocks_here"] 3 (aB (top 66)):=aZ
theorem N5:FS1 ["self"] 1 (aB (bE (top 54) 9)):=aZ
theorem Ap:FS1 ["thing"] 1 (aB (top 53)):=aZ
theorem NO:FS1 ["self","step"] 2 (aB (bE (top 54) 10)):=aZ
theorem Kz:FS1 ["self","step"] 2 (aB (bE (top 54) 12)):=aZ
theorem OM:FS1 ["self"] 1 (aB (bE (top 54) 7)):=aZ
theorem RH:FS1 ["self"] 1 (aB (bE (top 54) 1)):=aZ
theorem M3:FS1 ["self"] 1 (aB (bE (top 54) 3)):=aZ
theorem Rl:FS1 ["things","pairs","place","one"] 1 (aB (top 2)):=aZ
theorem RK:FS1 ["self"] 1 (aB (bE (top 54) 5)):=aZ
theorem Cv:FS1 ["shop","gaps","job","pair","one","other","gap"] 1 (aB (top 3)):=aZ
theorem HH:FS1 ["shop","names","gaps","orders","one"] 1 (aB (top 4)):=aZ
theorem Dc:FS1 ["self","shop","limit","kept","most","step","job","due"] 5 (aB (bE (top 6) 0)):=aZ
theorem CH:FS1 ["self","step","benches"] 3 (aB (bE (top 8) 32)):=aZ
theorem BH:FS1 ["self","step","first","last"] 4 (aB (bE (top 8) 31)):=aZ
theorem Qd:FS1 ["self","step"] 2 (aB (bE (top 8) 5)):=aZ
theorem Kr:FS1 ["self","step","lengths"] 2 (aB (bE (top 8) 13)):=aZ
theorem II:FS1 ["self","step"] 2 (aB (bE (top 8) 14)):=aZ
theorem wx:FS1 ["self","shop","limit","holds","kept","most","now","step","early","start"] 7 (aB (bE (top 8) 0)):=aZ
theorem JT:FS1 ["thing"] 1 (aB (top 14)):=aZ
theorem RF:FS1 ["thing","least","most"] 3 (aB (top 17)):=aZ
theorem QV:FS1 ["thing","many"] 2 (aB (top 19)):=aZ
theorem OU:FS1 ["row","horizon"] 2 (aB (top 33)):=aZ
theorem KU:FS1 ["thing","least","most"] 3 (aB (top 18)):=aZ
theorem Mt:FS1 ["breaks","horizon"] 2 (aB (top 34)):=aZ
theorem HW:FS1 ["thing"] 1 (aB (top 15)):=aZ
theorem IS:FS1 ["row","horizon"] 2 (aB (top 35)):=aZ
theorem GY:FS1 ["things"] 1 (aB (top 21)):=aZ
theorem LM:FS1 ["benches","horizon"] 2 (aB (top 36)):=aZ
theorem Qh:FS1 ["thing","names"] 2 (aB (top 20)):=aZ
theorem O5:FS1 ["row","bench_names","horizon"] 3 (aB (top 37)):=aZ
theorem Me:FS1 ["ways","bench_names","horizon"] 3 (aB (top 38)):=aZ
theorem IW:FS1 ["row","bench_names","horizon"] 3 (aB (top 39)):=aZ
theorem QG:FS1 ["steps","bench_names","horizon"] 3 (aB (top 40)):=aZ
theorem Jd:FS1 ["row","step_names","horizon"] 3 (aB (top 41)):=aZ
theorem Sj:FS1 ["jobs","step_names","horizon","members","row"] 3 (aB (top 42)):=aZ
theorem QK:FS1 ["row","bench_names","horizon"] 3 (aB (top 43)):=aZ
theorem RE:FS1 ["setups","bench_names","horizon"] 3 (aB (top 44)):=aZ
theorem Ni:FS1 ["row","step_names","horizon"] 3 (aB (top 45)):=aZ
theorem Su:FS1 ["links","step_names","horizon"] 3 (aB (top 46)):=aZ
theorem MP:FS1 ["row","step_names"] 2 (aB (top 47)):=aZ
theorem Pe:FS1 ["rows","step_names"] 2 (aB (top 48)):=aZ
theorem PU:FS1 ["row","step_names"] 2 (aB (top 49)):=aZ
theorem Oh:FS1 ["stocks","step_names"] 2 (aB (top 50)):=aZ
theorem Kt:FS1 ["benches","steps","jobs","setups","links","stocks","horizon","bench_names","step_names"] 7 (aB (top 51)):=aZ
theorem D9:FS1 ["self","benches","steps","jobs","setups","links","stocks","horizon","part","row","step"] 8 (aB (bE (top 54) 0)):=aZ
theorem Ih:FS1 ["_law_lists_here"] 1 (aB (top 68)):=aZ
theorem CY:FS1 ["_law_cell","_law_steps","_law_horizon_here","_law_found","_law_j","_law_name","_law_kind","_law_ways"] 3 (aB (top 72)):=aZ
theorem vq:FS1 ["_law_cell","_law_steps","_law_horizon_here","_law_found","_law_j","_law_name","_law_kind","_law_ways","_law_bench"] 3 (aB (top 73)):=aZ
theorem Im:FS1 ["_law_lists_here","_law_step_here","_law_job_here"] 2 (aB (top 69)):=aZ
theorem K6:FS1 ["_law_lists_here","_law_limit","_law_step_here","_law_found","_law_job_here"] 3 (aB (top 70)):=aZ
theorem vo:FS1 ["_law_lists_here","_law_limit","_law_holds_here","_law_clock","_law_found","_law_name","_law_kind","_law_ways","_law_job_here","_law_early","_law_last","_law_own"] 4 (aB (top 74)):=aZ
theorem Ka:FS1 ["self"] 1 (aB (bE (top 8) 9)):=aZ
theorem Ry:FS1 ["self"] 1 (aB (bE (top 8) 12)):=aZ
theorem N8:FS1 ["_law_found","_law_due"] 2 (aB (top 71)):=aZ
theorem IT:FS1 ["self"] 1 (aB (bE (top 8) 10)):=aZ
theorem BO:FS1 ["self"] 1 (aB (bE (top 8) 10)):=aZ
theorem Ie:FS1 ["self","step"] 2 (aB (bE (top 8) 11)):=aZ
theorem Nt:FS1 ["_law_facts","_law_lists_here","_law_kept_here","_law_most","_law_row"] 4 (aB (top 76)):=aZ
theorem Qz:FS1 ["self","step"] 2 (aB (bE (top 8) 4)):=aZ
theorem Hc:FS1 ["self","step"] 2 (aB (bE (top 8) 3)):=aZ
theorem MW:FS1 ["self","step"] 2 (aB (bE (top 8) 6)):=aZ
theorem GR:FS1 ["self","step"] 2 (aB (bE (top 8) 15)):=aZ
theorem DF:FS1 ["self","step"] 2 (aB (bE (top 8) 6)):=aZ
theorem Dl:FS1 ["self"] 1 (aB (bE (top 8) 7)):=aZ
theorem BK:FS1 ["self"] 1 (aB (bE (top 8) 8)):=aZ
theorem HP:FS1 ["self"] 1 (aB (bE (top 8) 8)):=aZ
theorem P0:FS1 ["self"] 1 (aB (bE (top 8) 7)):=aZ
theorem Px:FS1 ["_law_facts","_law_lists_here","_law_limit","_law_windows_here","_law_name","_law_kind","_law_ways","_law_first","_law_last","_law_own","_law_mark_here","_law_lengths"] 4 (aB (top 75)):=aZ
theorem MD:FS1 ["self"] 1 (aB (bE (top 8) 1)):=aZ
theorem Hi:FS1 ["self"] 1 (aB (bE (top 54) 2)):=aZ
theorem l0:FS1 ["_law_script","_law_horizon_here","_law_lists_here","_law_cell","_law_limit","_law_holds_here","_law_kept_here","_law_most","_law_clock","_law_facts","_law_handed","_law_windows_here","_law_turn","_law_late","_law_told"] 1 (aB (top 77)):=aZ
noncomputable def tkI (mg:ai->aq av) (x:ai):Tok:=match mg x with|some (.int _ t)=>t|_=>0
theorem tkI_of {h:Heap} {n:aj} {t:Tok} (X:K.In h) (G:h.Ns eU mg) (a:p6 K eU x=aa (aa (.int n t))):mg x=aa (.int n (tkI mg x)):=by have q:=p8 X G a;rw[q];unfold tkI;rw[q]
structure Vd (K:aM) (mg:ai->aq av) (C_Facts C_Grounds C_Shop:au):Prop where
 z_all:mg "all"=af
 z_bool:mg "bool"=af
 z_dict:mg "dict"=af
 z_enumerate:mg "enumerate"=af
 z_int:mg "int"=af
 z_isinstance:mg "isinstance"=af
 z_len:mg "len"=af
 z_list:mg "list"=af
 z_max:mg "max"=af
 z_min:mg "min"=af
 z_range:mg "range"=af
 z_set:mg "set"=af
 z_sorted:mg "sorted"=af
 z_str:mg "str"=af
 z_tuple:mg "tuple"=af
 k_LONGEST_NAME:mg "LONGEST_NAME"=aa (.int 8 (tkI mg "LONGEST_NAME"))
 k_MOST_AMOUNT:mg "MOST_AMOUNT"=aa (.int 1000000 (tkI mg "MOST_AMOUNT"))
 k_MOST_BENCHES:mg "MOST_BENCHES"=aa (.int 8 (tkI mg "MOST_BENCHES"))
 k_MOST_BREAKS:mg "MOST_BREAKS"=aa (.int 10 (tkI mg "MOST_BREAKS"))
 k_MOST_HORIZON:mg "MOST_HORIZON"=aa (.int 1000000 (tkI mg "MOST_HORIZON"))
 k_MOST_JOBS:mg "MOST_JOBS"=aa (.int 40 (tkI mg "MOST_JOBS"))
 k_MOST_LINKS:mg "MOST_LINKS"=aa (.int 100 (tkI mg "MOST_LINKS"))
 k_MOST_SETUPS:mg "MOST_SETUPS"=aa (.int 100 (tkI mg "MOST_SETUPS"))
 k_MOST_STEPS:mg "MOST_STEPS"=aa (.int 40 (tkI mg "MOST_STEPS"))
 k_MOST_STOCKS:mg "MOST_STOCKS"=aa (.int 6 (tkI mg "MOST_STOCKS"))
 k_MOST_WAYS:mg "MOST_WAYS"=aa (.int 4 (tkI mg "MOST_WAYS"))
 d0:Dfn K mg "_law_cell_at" (top 56)
 d1:Dfn K mg "_law_draw" (top 57)
 d2:Dfn K mg "_law_horizon" (top 67)
 d3:Dfn K mg "_law_moment" (top 59)
 d4:Dfn K mg "_law_breaks" (top 60)
 d5:Dfn K mg "_law_names" (top 58)
 d6:Dfn K mg "_law_step" (top 61)
 d7:Dfn K mg "_law_pairs" (top 63)
 d8:Dfn K mg "_law_setups" (top 64)
 d9:Dfn K mg "_law_stocks" (top 65)
 d10:Dfn K mg "_law_jobs" (top 62)
 d11:Dfn K mg "_law_lists" (top 66)
 d12:DfnM K C_Shop "Shop" "step_names" "Shop.step_names" (bE (top 54) 9)
 d13:Dfn K mg "fresh" (top 53)
 d14:DfnM K C_Shop "Shop" "ways_of" "Shop.ways_of" (bE (top 54) 10)
 d15:DfnM K C_Shop "Shop" "job_of" "Shop.job_of" (bE (top 54) 12)
 d16:DfnM K C_Shop "Shop" "last_moment" "Shop.last_moment" (bE (top 54) 7)
 d17:DfnM K C_Shop "Shop" "bench_rows" "Shop.bench_rows" (bE (top 54) 1)
 d18:DfnM K C_Shop "Shop" "job_rows" "Shop.job_rows" (bE (top 54) 3)
 d19:Dfn K mg "pairs_of" (top 2)
 d20:DfnM K C_Shop "Shop" "link_rows" "Shop.link_rows" (bE (top 54) 5)
 d21:Dfn K mg "greatest_gaps" (top 3)
 d22:Dfn K mg "known_orders" (top 4)
 d23:DfnM K C_Grounds "Grounds" "__init__" "Grounds.__init__" (bE (top 6) 0)
 d24:DfnM K C_Facts "Facts" "set_open" "Facts.set_open" (bE (top 8) 32)
 d25:DfnM K C_Facts "Facts" "set_window" "Facts.set_window" (bE (top 8) 31)
 d26:DfnM K C_Facts "Facts" "end_mark" "Facts.end_mark" (bE (top 8) 5)
 d27:DfnM K C_Facts "Facts" "open_lengths" "Facts.open_lengths" (bE (top 8) 13)
 d28:DfnM K C_Facts "Facts" "least_of" "Facts.least_of" (bE (top 8) 14)
 d29:DfnMD K C_Facts "Facts" "__init__" "Facts.__init__" (bE (top 8) 0) [.non,.non,.int 0,.int 0]
 d30:Dfn K mg "is_whole" (top 14)
 d31:Dfn K mg "is_within" (top 17)
 d32:Dfn K mg "is_tuple" (top 19)
 d33:Dfn K mg "is_break" (top 33)
 d34:Dfn K mg "is_list" (top 18)
 d35:Dfn K mg "are_breaks" (top 34)
 d36:Dfn K mg "is_name" (top 15)
 d37:Dfn K mg "is_bench" (top 35)
 d38:Dfn K mg "are_unlike" (top 21)
 d39:Dfn K mg "are_benches" (top 36)
 d40:Dfn K mg "is_one_of" (top 20)
 d41:Dfn K mg "is_way" (top 37)
 d42:Dfn K mg "are_ways" (top 38)
 d43:Dfn K mg "is_step" (top 39)
 d44:Dfn K mg "are_steps" (top 40)
 d45:Dfn K mg "is_job" (top 41)
 d46:Dfn K mg "are_jobs" (top 42)
 d47:Dfn K mg "is_setup" (top 43)
 d48:Dfn K mg "are_setups" (top 44)
 d49:Dfn K mg "is_link" (top 45)
 d50:Dfn K mg "are_links" (top 46)
 d51:Dfn K mg "is_amount" (top 47)
 d52:Dfn K mg "are_amounts" (top 48)
 d53:Dfn K mg "is_stock" (top 49)
 d54:Dfn K mg "are_stocks" (top 50)
 d55:Dfn K mg "first_bad_part" (top 51)
 d56:DfnM K C_Shop "Shop" "__init__" "Shop.__init__" (bE (top 54) 0)
 d57:Dfn K mg "_law_shop" (top 68)
 d58:Dfn K mg "_law_holds" (top 72)
 d59:Dfn K mg "_law_kept" (top 73)
 d60:Dfn K mg "_law_job" (top 69)
 d61:Dfn K mg "_law_mark" (top 70)
 d62:Dfn K mg "_law_windows" (top 74)
 d63:DfnM K C_Facts "Facts" "has_kept" "Facts.has_kept" (bE (top 8) 9)
 d64:DfnM K C_Facts "Facts" "most_moved" "Facts.most_moved" (bE (top 8) 12)
 d65:Dfn K mg "_law_whole" (top 71)
 d66:DfnM K C_Facts "Facts" "kept_names" "Facts.kept_names" (bE (top 8) 10)
 d68:DfnM K C_Facts "Facts" "kept_place" "Facts.kept_place" (bE (top 8) 11)
 d69:Dfn K mg "_law_keeps" (top 76)
 d70:DfnM K C_Facts "Facts" "last_of" "Facts.last_of" (bE (top 8) 4)
 d71:DfnM K C_Facts "Facts" "first_of" "Facts.first_of" (bE (top 8) 3)
 d72:DfnM K C_Facts "Facts" "open_to" "Facts.open_to" (bE (top 8) 6)
 d73:DfnM K C_Facts "Facts" "greatest_of" "Facts.greatest_of" (bE (top 8) 15)
 d75:DfnM K C_Facts "Facts" "orders" "Facts.orders" (bE (top 8) 7)
 d76:DfnM K C_Facts "Facts" "noted" "Facts.noted" (bE (top 8) 8)
 d79:Dfn K mg "_law_right" (top 75)
 d80:DfnM K C_Facts "Facts" "shop" "Facts.shop" (bE (top 8) 1)
 d81:DfnM K C_Shop "Shop" "step_rows" "Shop.step_rows" (bE (top 54) 2)
structure Vw (K:aM) (mg:ai->aq av) (C_Facts C_Grounds C_Shop:au):Prop extends Vd K mg C_Facts C_Grounds C_Shop where
 O_Facts:ClsOk .(a) K mg "Facts" C_Facts
 cf_Facts:CF .(a) K "Facts" cw
 O_Grounds:ClsOk .(a) K mg "Grounds" C_Grounds
 cf_Grounds:CF .(a) K "Grounds" yD
 O_Shop:ClsOk .(a) K mg "Shop" C_Shop
 cf_Shop:CF .(a) K "Shop" CB
section
variable (V:Vw K mg C_Facts C_Grounds C_Shop)
include V
set_option hygiene false
local macro_rules | `(tactic| ac_rfl)=>`(tactic| first
 |exact bG _
 |exact sA
 |(refine tI (by assumption) hr .(c) rfl ?_ (by first|exact ln3|exact ln2|exact ln1|exact ln4|exact ln5|exact ln6|exact ln7);(and_intros))
 |(refine rK ?_ ?_;(ac_rfl);(ac_rfl))
 |(refine JB ?_ ?_;(ac_rfl);(ac_rfl))
 |(refine DO.de (tF ?_);(and_intros))
 |exact mW
 |(refine NX ?_;(and_intros))
 |(refine dn ME rfl V.z_len O9 ?_;(and_intros))
 |(refine KC (by first|assumption|exact V.cf_Facts|exact V.cf_Grounds|exact V.cf_Shop) .(z) ?_;(ac_rfl))
 |(refine NI (ce hr) ?_ ?_;(ac_rfl);(ac_rfl))
 |(refine Nj (by assumption) hr .(c) ?_ ?_ (by first|exact ln3|exact ln2|exact ln1|exact ln4|exact ln5|exact ln6|exact ln7);(ac_rfl);(and_intros))
 |(refine yv ?_ ?_;(ac_rfl);(ac_rfl))
 |(refine Jv ?_ ?_;(ac_rfl);(ac_rfl))
 |(refine vF (by first|exact sV|exact Dq|exact vn (ki hr)|exact oG (ki hr)|exact A9|exact EL|exact EN|exact nD|exact Ad|exact xp|exact AR (ce hr)|exact E9 (ce hr)) ?_ ?_ (by first|exact jx _|rfl);(ac_rfl);(ac_rfl))
 |(refine B5 ?_ ?_;(ac_rfl);(ac_rfl))
 |(refine EE ?_;(ac_rfl))
 |exact vI
 |exact L6
 |(refine L9 ?_ ?_ ?_;(ac_rfl);(first|exact Ey|(refine EF ?_;ac_rfl));(first|exact Ey|(refine EF ?_;ac_rfl)))
 |(refine dn (gm rfl) rfl V.z_all gw ?_;(and_intros))
 |(refine dn Ot rfl V.z_isinstance Ju ?_;(and_intros))
 |(refine dn (Jw rfl) rfl V.z_min sU ?_;(and_intros))
 |(refine dn (Lh rfl) rfl V.z_max Ea ?_;(and_intros))
 |(refine Iu ?_ ?_;(ac_rfl);(ac_rfl))
 |exact L3 rfl (by first|exact V.k_LONGEST_NAME|exact V.k_MOST_AMOUNT|exact V.k_MOST_BENCHES|exact V.k_MOST_BREAKS|exact V.k_MOST_HORIZON|exact V.k_MOST_JOBS|exact V.k_MOST_LINKS|exact V.k_MOST_SETUPS|exact V.k_MOST_STEPS|exact V.k_MOST_STOCKS|exact V.k_MOST_WAYS)
 |exact lO rfl V.z_bool KQ
 |exact lO rfl V.z_int Qe
 |exact lO rfl V.z_list o5
 |exact lO rfl V.z_tuple CK
 |exact lO rfl V.z_str GW
 |exact lO rfl V.z_dict km
 |exact lO rfl V.z_set KI
 |(refine Ms (by assumption) hr .(c) ?_;(ac_rfl))
 |(refine O3 ?_ ?_;(ac_rfl);(ac_rfl))
 |(refine QS ?_ ?_;(ac_rfl);(ac_rfl))
 |(refine KS ?_ ?_;(ac_rfl);(ac_rfl))
 |(refine Py ?_;(ac_rfl))
 |(refine Ox ?_;(ac_rfl))
 |(refine tf ?_ ?_ ?_;(exfalso);(ac_rfl);(ac_rfl))
 |(refine ON nD nD ?_ ?_ ?_;(ac_rfl);(ac_rfl);(ac_rfl)))
local macro_rules | `(tactic| split)=>`(tactic| first
 |(intro nd f cdv A outer s H E hr;infer_instance))
local macro_rules | `(tactic| and_intros)=>`(tactic| first
 |exact cu
 |(refine bS ?_ ?_;(ac_rfl);(and_intros)))
local macro_rules | `(tactic| exfalso)=>`(tactic| first
 |(refine iQ (by first|exact sV|exact Dq|exact vn (ki hr)|exact oG (ki hr)|exact A9|exact EL|exact EN|exact nD|exact Ad|exact xp|exact AR (ce hr)|exact E9 (ce hr)) ?_ ?_ (by first|exact jx _|rfl);(ac_rfl);(ac_rfl))
 |(refine gk ?_;(exfalso))
 |(refine DW.dt ?_;(symm))
 |(refine Sl nD nD ?_ ?_ ?_;(ac_rfl);(ac_rfl);(ac_rfl))
 |(refine gB ?_;(ac_rfl)))
local macro_rules | `(tactic| symm)=>`(tactic| first
 |(refine gC ?_;(exfalso))
 |(refine gq ?_ ?_;(exfalso);(symm))
 |(refine xM ?_;(exfalso))
 |(refine yh ?_ ?_;(exfalso);(symm)))
local macro_rules | `(tactic| infer_instance)=>`(tactic| first
 |(refine wJ _ ?_;(infer_instance))
 |(refine bC ?_;(nofun))
 |(refine aF ?_ ?_;(nofun);(infer_instance))
 |exact df)
local macro_rules | `(tactic| nofun)=>`(tactic| first
 |(refine cQ ?_;(ac_rfl))
 |(refine iu _ nd ?_;(ac_rfl))
 |(refine c7 ?_ ?_ ?_;(exfalso);(infer_instance);(infer_instance))
 |(refine dN eF rfl ?_ ?_ ?_;(left);(right);(infer_instance))
 |(refine Ix _ ?_;(ac_rfl))
 |(refine K4 _ nd (tF ?_);(and_intros)))
local macro_rules | `(tactic| left)=>`(tactic| first
 |(refine pf ?_;(ac_rfl))
 |(refine Qa rfl V.z_range ?_;(and_intros))
 |(refine MA rfl V.z_enumerate ?_;(ac_rfl)))
local macro_rules | `(tactic| right)=>`(tactic| first
 |exact lY _ nd
 |exact BC rfl (oV (lY _ nd) (oV (lY _ nd) Ci))
 |exact BC rfl (oV (lY _ nd) (oV (lY _ nd) (oV (lY _ nd) Ci))))
theorem xo:.(e) "_law_cell_at" 2 1 gX:=
 V.d0.cl Kl (by split)
theorem gE:.(e) "_law_draw" 3 1 bq:=
 V.d1.cl GO (by split)
theorem Qt:.(e) "_law_horizon" 1 2 sI:=
 V.d2.cl P6 (have:=xo V;have:=gE V;by split)
theorem vx:.(e) "_law_moment" 3 2 kO:=
 V.d3.cl Js (have:=gE V;by split)
theorem RX:.(e) "_law_breaks" 3 3 sS:=
 V.d4.cl Le (have:=gE V;have:=vx V;by split)
theorem PN:.(e) "_law_names" 2 2 tN:=
 V.d5.cl E8 fun nd f cdv A outer s H E hr=>
  have:=gE V;(aF .(S) (aF (iu 3 E8.nd (Mz PySem.F.plainAttrs_str PySem.F.slot_str_join PySem.F.type_str_join Ml mW (bS (DO.de (lcN ["_law_k","_law_letters","_law_cell"] (by left))) cu))) .(t)))
theorem ND:.(e) "_law_step" 4 3 t4:=
 V.d6.cl LB (have:=gE V;have:=vx V;by split)
theorem Mr:.(e) "_law_pairs" 3 2 sr:=
 V.d7.cl BB fun nd f cdv A outer s H E hr=>
  have:=gE V;(aF (xu 3 BB.nd) (aF (dN eF rfl (by left) .(bK) (aF .(S) (aF .(S) (bC (c7 (OA 3 (DW.dt (yh (by exfalso) (xM (iQ (MF (ce hr)) .(G) (bG 3) (by rfl)))))) (bC (kJ 3 (ce hr) .(G) .(G))) df))))) (ng 3 .(t))))
theorem KL:.(e) "_law_setups" 3 2 tW:=
 V.d8.cl v9 fun nd f cdv A outer s H E hr=>
  have:=gE V;(aF .(S) (aF (xu 4 v9.nd) (aF (dN eF rfl (by left) .(bK) (aF .(S) (aF (iu 6 v9.nd (yu (bG 6) .(G))) (bC (kJ 4 (ce hr) (bG 6) .(G)))))) (ng 4 (bC (cQ (D8 4 (DO.de (lcN ["_law_key","_law_found"] (EG (bG 4)) fun nd=>⟨fun _ _ _ _ _=>⟨.(bK),nC,(yu (bG 0) .(G))⟩⟩)))))))))
theorem R5:.(e) "_law_stocks" 2 2 ue:=
 V.d9.cl RV fun nd f cdv A outer s H E hr=>
  have:=gE V;(aF .(S) (aF (dN eF rfl (by left) .(bK) (aF .(S) (aF (ko 5 nd ["_law_k","_law_step_here","_law_cell","_law_j"] (by left)) (aF (ko 6 nd ["_law_k","_law_step_here","_law_cell","_law_j"] (by left)) .(t))))) .(t)))
theorem Qw:.(e) "_law_jobs" 4 3 oU:=
 V.d10.cl K7 fun nd f cdv A outer s H E hr=>
  have:=gE V;have:=vx V;(aF .(S) (aF (dN eF rfl (by left) .(bK) (aF (ko 6 nd ["_law_j","_law_steps","_law_k","_law_cells"] (by left)) .(t))) .(t)))
theorem Qb:.(e) "_law_lists" 3 4 sO:=
 V.d11.cl AV fun nd f cdv A outer s H E hr=>
  have:=RX V;have:=xo V;have:=gE V;have:=Qw V;have:=PN V;have:=Mr V;have:=KL V;have:=ND V;have:=R5 V;(aF .(S) (aF .(S) (aF .(S) (aF .(S) (aF .(S) (aF .(S) (wJ 6 (aF (ko 9 nd ["_law_k","_law_benches","_law_horizon_here","_law_cells","_law_names_here"] (by left)) (aF .(S) (aF .(S) (aF (iu 10 AV.nd (D8 10 (DO.de (lcN ["_law_pair","_law_horizon_here","_law_links"] (EG (bG 10)) fun nd=>⟨fun _ _ _ _ _=>⟨.(bK),nC,(yu (bG 0) .(G))⟩⟩)))) .(t))))))))))))
theorem vj:.(aE) "step_names" 1 1 oM:=
 DfnM.cl V.O_Shop V.d12 N5 fun nd f cdv A outer s H E hr=>
  (bC (cQ (DO.de (lcN ["row"] (by left)))))
theorem QP {k:ak} {dJ:FQ} (je:Cal .(a) P w K mg base "fresh" 1 k dJ):Cal .(a) P w K mg base "fresh" 1 (k+1) (iK dJ):=
 V.d13.cal (k:=k) Ap .(ay) fun f cdv A outer s H E hr=>
  have nd:=Ap.nd;(aF (c7 (by exfalso) (bC (cQ (DO.de (lcN ["part"] (by left) fun nd=>⟨fun _ _ _ _ _=>⟨.(bK),nC,(tI je hr (qw _) rfl .(X) ln1)⟩⟩)))) df) (aF (c7 (by exfalso) (bC (cQ (gY Ir rfl V.z_tuple CK (bS (DO.de (lcN ["part"] (by left) fun nd=>⟨fun _ _ _ _ _=>⟨.(bK),nC,(tI je hr (qw _) rfl .(X) ln1)⟩⟩)) cu)))) df) .(t)))
theorem je:.(e) "fresh" 1 8 dJ:=by
 have h:∀n,Cal .(a) P w K mg base "fresh" 1 n (i6 n):=fun n=>by
  induction n with
  |zero=>exact Dfn.none (ps:=["thing"]) V.d13 .(ay)
  |succ n ih=>exact QP V ih
 exact h 8
theorem J0:.(aE) "ways_of" 2 9 xO:=
 DfnM.cl V.O_Shop V.d14 NO (have:=je V;by split)
theorem K2:.(aE) "job_of" 2 9 vR:=
 DfnM.cl V.O_Shop V.d15 Kz fun nd f cdv A outer s H E hr=>
  (bC (cQ (dC (je V) hr (bS (xD (ce hr) .(G) (bG 1)) cu) ln1)))
theorem Dk:.(aE) "last_moment" 1 1 ny:=
 DfnM.cl V.O_Shop V.d16 OM (by split)
theorem zZ:.(aE) "bench_rows" 1 9 tG:=
 DfnM.cl V.O_Shop V.d17 RH (have:=je V;by split)
theorem Hg:.(aE) "job_rows" 1 9 rC:=
 DfnM.cl V.O_Shop V.d18 M3 (have:=je V;by split)
theorem LN:.(e) "pairs_of" 1 1 mU:=
 V.d19.cl Rl fun nd f cdv A outer s H E hr=>
  (aF .(S) (aF (dN eF rfl (by left) .(bK) (bC (wZ 1 (DO.de (lcN ["other","one"] (by left)))))) .(t)))
theorem Nd:.(aE) "link_rows" 1 9 rG:=
 DfnM.cl V.O_Shop V.d20 RK (have:=je V;by split)
theorem MT:.(e) "greatest_gaps" 1 10 xJ:=
 V.d21.cl Cv fun nd f cdv A outer s H E hr=>
  have:=Hg V;have:=Nd V;have:=LN V;(aF (xu 1 Cv.nd) (aF (dN eF rfl (by left) .(bK) (bC (c7 (by exfalso) (bC (dN eF rfl (by left) .(bK) (bC (kJ 1 (ce hr) (bG 3) sA)))) df))) (aF (dN eF rfl (by left) .(bK) (bC (kJ 1 (ce hr) .(G) (bG 6)))) (ng 1 .(t)))))
theorem HI:.(e) "known_orders" 1 11 vV:=
 V.d22.cl HH fun nd f cdv A outer s H E hr=>
  have:=vj V;have:=MT V;(aF .(S) (aF .(S) (aF .(S) (aF (dN eF rfl (by left) .(bK) (bC (wZ 3 (DO.de (lcN ["other","one","gaps"] (by left) fun nd=>⟨fun _ _ _ _ _=>⟨.(bK),(sG (iQ (v5 (ce hr)) .(G) (bG 2) (by rfl))),.(G)⟩⟩))))) .(t)))))
theorem J8:CalIU .(a) P w K mg base "Grounds" 4 12 [] pC:=
 DfnM.calIU (k:=11) V.O_Grounds V.d23 Dc .(ay) fun f y cdv A outer s H E hr=>
  have nd:=Dc.nd;have:=((zZ V).re y);have:=((K2 V).re y);have:=((Dk V).re y);have:=((vj V).re y);have:=((J0 V).re y);have:=((HI V).re y);(aF (na 0 .(aQ) (.head _) (bG 1)) (aF (na 0 .(aQ) (.tail _ (.head _)) (tf (by exfalso) vI (gY (IV rfl) rfl V.z_dict km .(X)))) (aF (na 0 .(aQ) (.tail _ (.tail _ (.head _))) (bG 4)) (aF (kQ 0 .(aQ) .(h)) (aF (kQ 0 .(aQ) (.tail _ .(h))) (aF (kQ 0 .(aQ) (.tail _ (.tail _ .(h)))) (aF (kQ 0 .(aQ) .(ag)) (aF (dN eF rfl (by left) .(bK) (aF (mm 0 (ce hr) .(aQ) .(h) (bG 5) (gY (uB rfl (ce hr)) rfl V.z_dict km .(X))) (aF .(S) (aF (mm 0 (ce hr) .(aQ) (.tail _ .(h)) (bG 5) .(G)) (aF (mm 0 (ce hr) .(aQ) (.tail _ (.tail _ .(h))) (bG 5) .(G)) (aF .(S) (bC (mm 0 (ce hr) .(aQ) .(ag) (bG 5) (dn (OF rfl) rfl V.z_min sU .(X)))))))))) (aF (na 0 .(aQ) (.tail _ .(ag)) (gY (uB rfl (ce hr)) rfl V.z_dict km .(X))) (bC (na 0 .(aQ) (.tail _ (.tail _ .(ag))) (gY (Ac rfl (ce hr)) rfl V.z_dict km (bS (DO.de (lcN ["one","other","gap"] (by left))) cu)))))))))))))
theorem Eh:CalMU .(a) P w K mg base "Facts" "set_open" 2 1 oQ:=
 DfnM.calU (k:=0) V.O_Facts V.d24 CH .(ay) fun f y cdv A outer s H E hr=>
  have nd:=CH.nd;have:=V.cf_Facts.re y;have:=V.cf_Grounds.re y;(bC (mm 0 (ce hr) (V.cf_Facts.re y) (.tail _ (.head _)) (bG 1) (By 0 (DO.de (HB rfl (CompScope.of rfl rfl) (FvOk.of (N':=["bench","benches"]) (fv:=[af,aa 2]) rfl) .(G) ⟨fun _ _ _ _ _=>⟨(lY 0 (show(["bench","benches"]:ac ai).Nodup by decide +kernel)),(sG (by exfalso)),(bG 0)⟩⟩)))))
theorem EI:CalMU .(a) P w K mg base "Facts" "set_window" 3 1 pz:=
 DfnM.calU (k:=0) V.O_Facts V.d25 BH .(ay) fun f y cdv A outer s H E hr=>
  have nd:=BH.nd;(aF (mm 0 (ce hr) (V.cf_Facts.re y) (.tail _ (.tail _ (.head _))) (bG 1) (bG 2)) (bC (mm 0 (ce hr) (V.cf_Facts.re y) .(h) (bG 1) (bG 3))))
theorem Af:.(D) "end_mark" 2 1 sy:=
 DfnM.cl V.O_Facts V.d26 Qd (by split)
theorem Am:.(D) "open_lengths" 2 1 sP:=
 DfnM.cl V.O_Facts V.d27 Kr fun nd f cdv A outer s H E hr=>
  (aF .(S) (bC (cQ (DO.de (lcN ["bench","lengths"] (by left))))))
theorem C4:.(D) "least_of" 2 2 pH:=
 DfnM.cl V.O_Facts V.d28 II fun nd f cdv A outer s H E hr=>
  have:=Am V;(bC (cQ (HG rfl rfl V.z_min .(G))))
theorem yc:CalIU .(a) P w K mg base "Facts" 6 14 [.non,.non,.int 0,.int 0] iA/\CalIU .(a) P w K mg base "Facts" 6 14 [] iA/\CalIK .(a) P w K mg base "Facts" "now" 6 14 [.non,.non,.int 0] iA:=
 DfnMD.cal3 (k:=13) 3 V.O_Facts V.d29 (fun _=>by repeat constructor) (fun _=>by repeat constructor) wx (fun _ _ _ _ _ _ _ us its h1 h2=>by apply l34 _ h1 h2;exact fun _ _ _ _ _ _ _=>⟨_,rfl,rfl⟩) (fun _ _ _ _ _ _ _ us its h1 h2=>by apply l74 _ h1 h2;exact fun _ _ _ _ _ _ _ _ _ _ _=>⟨_,rfl,rfl⟩) (fun _ _ _ _ _ _ _ us its z h1 h2=>by apply l3K _ h1 h2;exact fun _ _ _ _ _ _ _=>⟨_,rfl,rfl⟩) fun f y cdv A outer s H E hr=>
  have nd:=wx.nd;have:=((Af V).re y);have:=((C4 V).re y);have:=((vj V).re y);have:=V.cf_Facts.re y;have:=V.cf_Grounds.re y;(aF (na 0 (V.cf_Facts.re y) (.head _) (yx ((J8 V).re y) hr .(c) rfl .(X) ln4 rfl)) (aF (kQ 0 (V.cf_Facts.re y) (.tail _ (.head _))) (aF (kQ 0 (V.cf_Facts.re y) (.tail _ (.tail _ (.head _)))) (aF (kQ 0 (V.cf_Facts.re y) .(h)) (aF (Ja 0 (V.cf_Facts.re y) (.tail _ .(h))) (aF (kQ 0 (V.cf_Facts.re y) (.tail _ (.tail _ .(h)))) (bC (dN eF rfl (by left) .(bK) (aF (iu 8 wx.nd (By 0 .(G))) (bC (c7 (DW.dt (yh (by exfalso) (xM (iQ (v5 (ce hr)) (bG 7) (bG 3) (by rfl))))) (aF .(S) (aF (sE 0 ((Eh V).re y) hr .(c) .(X) ln2) (bC (sE 0 ((EI V).re y) hr .(c) .(X) ln3)))) (aF (sE 0 ((Eh V).re y) hr .(c) (BE 0 (bS (bG 7) (bS (gY (Ep rfl) rfl V.z_list o5 .(X)) cu))) (Ay ln2)) (bC (sE 0 ((EI V).re y) hr .(c) (BE 0 .(X)) (Ay ln3)))))))))))))))
theorem RC:.(e) "is_whole" 1 1 tU:=
 V.d30.cl JT (by split)
theorem kr:.(e) "is_within" 3 2 f':=
 V.d31.cl RF (have:=RC V;by split)
theorem jR:.(e) "is_tuple" 2 1 fz:=
 V.d32.cl QV (by split)
theorem J4:.(e) "is_break" 2 3 uk:=
 V.d33.cl OU (have:=jR V;have:=kr V;by split)
theorem jb:.(e) "is_list" 3 1 gr:=
 V.d34.cl KU (by split)
theorem Pm:.(e) "are_breaks" 2 4 wF:=
 V.d35.cl Mt fun nd f cdv A outer s H E hr=>
  have:=J4 V;have:=jb V;(aF (c7 (DW.dt (gq (by exfalso) (gC (gk (gB (dn (gm rfl) rfl V.z_all gw (bS (DO.de (lcN ["row","horizon"] (by left))) cu))))))) .(t) df) (bC (cQ (dn (gm rfl) rfl V.z_all gw (bS (DO.de (lcN ["place","breaks"] (Mw rfl V.z_range .(X)))) cu)))))
theorem nO:.(e) "is_name" 1 1 jd:=
 V.d36.cl HW fun nd f cdv A outer s H E hr=>
  (aF .(S) (bC (cQ (dn (gm rfl) rfl V.z_all gw (bS (DO.de (lcN ["sign"] (OY (bG 0)))) cu)))))
theorem J7:.(e) "is_bench" 2 5 sN:=
 V.d37.cl IS (have:=Pm V;have:=nO V;have:=jR V;by split)
theorem jJ:.(e) "are_unlike" 1 1 e9:=
 V.d38.cl GY fun nd f cdv A outer s H E hr=>
  (bC (cQ (vF sV (Ro rfl (ce hr) rfl V.z_len rfl V.z_set (bG 0)) .(G) (jx _))))
theorem R7:.(e) "are_benches" 2 6 yE:=
 V.d39.cl LM fun nd f cdv A outer s H E hr=>
  have:=J7 V;have:=jb V;(aF (c7 (DW.dt (gq (by exfalso) (gC (gk (gB (dn (gm rfl) rfl V.z_all gw (bS (DO.de (lcN ["row","horizon"] (by left))) cu))))))) .(t) df) .(B))
theorem oC:.(e) "is_one_of" 2 2 jK:=
 V.d40.cl Qh (have:=nO V;by split)
theorem GS:.(e) "is_way" 3 3 uw:=
 V.d41.cl O5 (have:=oC V;have:=jR V;have:=kr V;by split)
theorem K1:.(e) "are_ways" 3 4 xI:=
 V.d42.cl Me fun nd f cdv A outer s H E hr=>
  have:=jb V;have:=GS V;.(T)
theorem IP:.(e) "is_step" 3 5 tK:=
 V.d43.cl IW (have:=K1 V;have:=nO V;have:=jR V;by split)
theorem L8:.(e) "are_steps" 3 6 wv:=
 V.d44.cl QG fun nd f cdv A outer s H E hr=>
  have:=jb V;have:=IP V;.(T)
theorem R9:.(e) "is_job" 3 3 wE:=
 V.d45.cl Jd fun nd f cdv A outer s H E hr=>
  have:=jb V;have:=nO V;have:=oC V;have:=jR V;have:=kr V;(aF .(S) (aF .(S) (bC (cQ (yv .(G) (EE (dn (gm rfl) rfl V.z_all gw (bS (DO.de (lcN ["name","step_names"] (by left))) cu))))))))
theorem Ru:.(e) "are_jobs" 3 4 xW:=
 V.d46.cl Sj fun nd f cdv A outer s H E hr=>
  have:=jJ V;have:=R9 V;have:=jb V;(aF (c7 (DW.dt (gq (by exfalso) (gC (gk (gB (dn (gm rfl) rfl V.z_all gw (bS (DO.de (lcN ["row","step_names","horizon"] (by left))) cu))))))) .(t) df) (aF .(S) (aF (dN eF rfl (by left) .(bK) (bC (wZ 3 .(G)))) (wJ 3 (bC (cQ (yv (dC (jJ V) hr (bS (DO.de (lcN ["row"] (by left))) cu) ln1) .(G))))))))
theorem Op:.(e) "is_setup" 3 3 tj:=
 V.d47.cl QK (have:=nO V;have:=oC V;have:=jR V;have:=kr V;by split)
theorem LR:.(e) "are_setups" 3 4 yd:=
 V.d48.cl RE fun nd f cdv A outer s H E hr=>
  have:=jb V;have:=Op V;.(T)
theorem JM:.(e) "is_link" 3 3 sC:=
 V.d49.cl Ni (have:=oC V;have:=jR V;have:=kr V;by split)
theorem NH:.(e) "are_links" 3 4 xF:=
 V.d50.cl Su fun nd f cdv A outer s H E hr=>
  have:=JM V;have:=jb V;(aF (c7 (DW.dt (gq (by exfalso) (gC (gk (gB (dn (gm rfl) rfl V.z_all gw (bS (DO.de (lcN ["row","step_names","horizon"] (by left))) cu))))))) .(t) df) .(B))
theorem OW:.(e) "is_amount" 2 3 sJ:=
 V.d51.cl MP (have:=oC V;have:=jR V;have:=kr V;by split)
theorem NM:.(e) "are_amounts" 2 4 tM:=
 V.d52.cl Pe fun nd f cdv A outer s H E hr=>
  have:=OW V;have:=jb V;(aF (c7 (DW.dt (gq (by exfalso) (gC (gk (gB (dn (gm rfl) rfl V.z_all gw (bS (DO.de (lcN ["row","step_names"] (by left))) cu))))))) .(t) df) .(B))
theorem Ht:.(e) "is_stock" 2 5 t8:=
 V.d53.cl PU (have:=NM V;have:=nO V;have:=jR V;have:=kr V;by split)
theorem HS:.(e) "are_stocks" 2 6 xh:=
 V.d54.cl Oh fun nd f cdv A outer s H E hr=>
  have:=jb V;have:=Ht V;(aF (c7 (DW.dt (gq (by exfalso) (gC (gk (gB (dn (gm rfl) rfl V.z_all gw (bS (DO.de (lcN ["row","step_names"] (by left))) cu))))))) .(t) df) .(B))
theorem Hu:.(e) "first_bad_part" 7 7 vU:=
 V.d55.cl Kt fun nd f cdv A outer s H E hr=>
  have:=R7 V;have:=Ru V;have:=NH V;have:=LR V;have:=L8 V;have:=HS V;have:=kr V;(aF .(S) (aF .(S) (aF (ko 7 nd ["row"] (by left)) (aF .(S) (aF (ko 8 nd ["row"] (by left)) .(t))))))
theorem QY:CalI .(a) P w K mg base "Shop" 7 9 yC:=
 DfnM.calI (k:=8) V.O_Shop V.d56 D9 .(ay) fun f y cdv A outer s H E hr=>
  have nd:=D9.nd;have:=((Hu V).re y);have:=((je V).re y);(aF .(S) (aF (c7 (by exfalso) (bC Ip) df) (aF (iO 0 .(aU) (.head _) .(G)) (aF (iO 0 .(aU) (.tail _ (.head _)) .(G)) (aF (iO 0 .(aU) (.tail _ (.tail _ (.head _))) .(G)) (aF (iO 0 .(aU) .(h) .(G)) (aF (iO 0 .(aU) (.tail _ .(h)) .(G)) (aF (iO 0 .(aU) (.tail _ (.tail _ .(h))) .(G)) (aF (iO 0 .(aU) .(ag) (bG 7)) (aF (iO 0 .(aU) (.tail _ .(ag)) (gY (uB rfl (ce hr)) rfl V.z_dict km (bS (DO.de (lcN ["row"] (pf (rQ 0 .(aU) (.head _))))) cu))) (aF (iO 0 .(aU) (.tail _ (.tail _ .(ag))) (gY (uB rfl (ce hr)) rfl V.z_dict km (bS (DO.de (lcN ["row"] (pf (rQ 0 .(aU) (.tail _ (.head _)))))) cu))) (aF (iO 0 .(aU) (.tail _ (.tail _ (.tail _ .(ag)))) (gY (Ac rfl (ce hr)) rfl V.z_dict km (bS (DO.de (lcN ["row"] (pf (rQ 0 .(aU) .(h))))) cu))) (aF (IM 0 .(aU) (.tail _ (.tail _ (.tail _ (.tail _ .(ag)))))) (bC (dN eF rfl (pf (rQ 0 .(aU) (.tail _ (.tail _ (.head _))))) .(bK) (bC (dN eF rfl (by left) .(bK) (bC (MN 0 (ce hr) .(aU) (.tail _ (.tail _ (.tail _ (.tail _ .(ag))))) (bG 10) (bG 9))))))))))))))))))))
theorem OV:.(e) "_law_shop" 1 11 mj:=
 V.d57.cl Ih fun nd f cdv A outer s H E hr=>
  (bC (cQ (Hh (QY V) hr .(c) rfl .(X) ln7)))
theorem GP:.(e) "_law_holds" 3 2 mY:=
 V.d58.cl CY fun nd f cdv A outer s H E hr=>
  have:=gE V;(aF (xy 3 CY.nd) (aF (dN eF rfl (by left) .(bK) (aF (wH .(G) .(bK)) (bC (kJ 3 (ce hr) (bG 5) .(G))))) (ng 3 .(t))))
theorem LW:.(e) "_law_kept" 3 2 nv:=
 V.d59.cl vq fun nd f cdv A outer s H E hr=>
  have:=gE V;(aF (xy 3 vq.nd) (aF (dN eF rfl (by left) .(bK) (aF (wH .(G) .(bK)) (aF (iu 8 vq.nd (rK (DO.de (tF (bS (rK (rK (bG 7) (He sA)) sA) .(X)))) .(G))) (bC (kJ 3 (ce hr) (bG 5) .(G)))))) (ng 3 .(t))))
theorem Cq:.(e) "_law_job" 2 1 tS:=
 V.d60.cl Im (by split)
theorem CW:.(e) "_law_mark" 3 2 oZ:=
 V.d61.cl K6 (have:=Cq V;by split)
theorem Ar:.(e) "_law_windows" 4 3 pi:=
 V.d62.cl vo fun nd f cdv A outer s H E hr=>
  have:=Cq V;have:=CW V;(aF (xy 4 vo.nd) (aF (dN eF rfl (by left) .(bK) (aF .(S) (aF .(S) (aF .(S) (aF (iu 10 vo.nd (B5 .(G) (dn (Aj rfl) rfl V.z_min sU (bS (DO.de (lcN ["_law_bench","_law_length"] (by left))) cu)))) (aF (kJ 4 (ce hr) (bG 5) .(G)) (bC (c7 (iQ (v5 (ce hr)) (bG 5) (bG 2) (by rfl)) (aF (ko 11 nd ["_law_way","_law_holds_here","_law_name"] (by left)) (bC (kJ 4 (ce hr) (bG 5) .(G)))) df)))))))) (ng 4 .(t))))
theorem rN:.(D) "has_kept" 1 1 gQ:=
 DfnM.cl V.O_Facts V.d63 Ka (by split)
theorem Om:.(D) "most_moved" 1 1 wa:=
 DfnM.cl V.O_Facts V.d64 Ry (by split)
theorem tD:.(e) "_law_whole" 2 1 jG:=
 V.d65.cl N8 (by split)
theorem IQ:.(D) "kept_names" 1 2 sk:=
 DfnM.cl V.O_Facts V.d66 IT fun nd f cdv A outer s H E hr=>
  have:=rN V;(bC (cQ (tf (by exfalso) (dn (vX rfl) rfl V.z_sorted xP .(X)) .(G))))
theorem RS:CalMO .(a) P w K mg base "Facts" "kept_names" 1 2 ut:=
 DfnM.calO (k:=1) V.O_Facts V.d66 BO .(ay) fun f cdv A outer s H E hr=>
  have nd:=BO.nd;have:=rN V;(bC (sx (HD (by exfalso) (Pw rfl rfl V.z_sorted .(G)) (tF cu))))
theorem JC:.(D) "kept_place" 2 2 vZ:=
 DfnM.cl V.O_Facts V.d68 Ie fun nd f cdv A outer s H E hr=>
  have:=rN V;(bC (cQ (tf (by exfalso) (xD (ce hr) .(G) (bG 1)) vI)))
theorem HE:.(e) "_law_keeps" 4 3 lK:=
 V.d69.cl Nt fun nd f cdv A outer s H E hr=>
  have:=rN V;have:=IQ V;have:=JC V;have:=Om V;have:=tD V;(aF .(S) (aF .(S) (aF .(S) (aF (c7 (iQ (oG (ki hr)) .(G) (dn (vX rfl) rfl V.z_sorted xP .(X)) (jx _)) .(t) df) (aF (uo (vM (RS V) hr .(c) (bG 0)) mW) (aF (dN eF rfl (by left) .(bK) (bC (c7 (iQ (oG (ki hr)) .(G) (xD (ce hr) (bG 2) .(G)) (jx _)) .(t) df))) (bC (cQ (vF (vn (ki hr)) .(G) (dn (vX rfl) rfl V.z_sorted xP .(X)) (jx _))))))))))
theorem KF:.(D) "last_of" 2 1 wk:=
 DfnM.cl V.O_Facts V.d70 Qz (by split)
theorem R0:.(D) "first_of" 2 1 wo:=
 DfnM.cl V.O_Facts V.d71 Hc (by split)
theorem RB:.(D) "open_to" 2 1 wj:=
 DfnM.cl V.O_Facts V.d72 MW fun nd f cdv A outer s H E hr=>
  (bC (cQ (gY PP rfl V.z_list o5 .(X))))
theorem Lv:.(D) "greatest_of" 2 2 yk:=
 DfnM.cl V.O_Facts V.d73 GR fun nd f cdv A outer s H E hr=>
  have:=Am V;(bC (cQ (Il rfl rfl V.z_max .(G))))
theorem NY:CalMO .(a) P w K mg base "Facts" "open_to" 2 1 tZ:=
 DfnM.calO (k:=0) V.O_Facts V.d72 DF .(ay) fun f cdv A outer s H E hr=>
  have nd:=DF.nd;(bC (sx (Pd rfl V.z_list .(G))))
theorem Ho:CalMO .(a) P w K mg base "Facts" "orders" 1 1 rM:=
 DfnM.calO (k:=0) V.O_Facts V.d75 Dl .(ay) fun f cdv A outer s H E hr=>
  have nd:=Dl.nd;(bC (sx (K5 rfl rfl V.z_list .(G))))
theorem MM:CalMO .(a) P w K mg base "Facts" "noted" 1 1 uj:=
 DfnM.calO (k:=0) V.O_Facts V.d76 BK .(ay) fun f cdv A outer s H E hr=>
  have nd:=BK.nd;(bC (sx (So rfl rfl V.z_list .(G))))
theorem KA:.(D) "noted" 1 1 xq:=
 DfnM.cl V.O_Facts V.d76 HP fun nd f cdv A outer s H E hr=>
  (bC (cQ (gY (Ep rfl) rfl V.z_list o5 .(X))))
theorem Hz:.(D) "orders" 1 1 xm:=
 DfnM.cl V.O_Facts V.d75 P0 fun nd f cdv A outer s H E hr=>
  (bC (cQ (gY (No rfl) rfl V.z_list o5 .(X))))
theorem C2:.(e) "_law_right" 4 3 o7:=
 V.d79.cl Px fun nd f cdv A outer s H E hr=>
  have:=Af V;have:=R0 V;have:=Lv V;have:=KF V;have:=C4 V;have:=KA V;have:=RB V;have:=Hz V;have:=CW V;have:=tD V;(aF (dN eF rfl (by left) .(bK) (aF (wH .(G) .(bK)) (aF .(S) (aF .(S) (aF (c7 (DW.dt (gq (by exfalso) (gC (iQ (oG (ki hr)) .(G) (DO.de (lcN ["_law_bench","_law_length"] (by left))) (jx _))))) .(t) df) (aF (ko 11 nd ["_law_bench","_law_length"] (by left)) (aF (c7 (DW.dt (gq (gk (gB (dC (tD V) hr (bS .(G) (bS (dn (Aj rfl) rfl V.z_min sU .(X)) cu)) ln2))) (gC (gk (gB (dC (tD V) hr (bS .(G) (bS (dn (MO rfl) rfl V.z_max Ea .(X)) cu)) ln2)))))) .(t) df) (bC (uo (Mj (NY V) hr .(c) (bG 0) .(X) ln1) mW))))))))) (aF (uo (vM (Ho V) hr .(c) (bG 0)) .(G)) (aF (uo (vM (MM V) hr .(c) (bG 0)) mW) .(t))))
theorem Pp:.(D) "shop" 1 1 vm:=
 DfnM.cl V.O_Facts V.d80 MD (by split)
theorem Hd:.(aE) "step_rows" 1 9 yt:=
 DfnM.cl V.O_Shop V.d81 Hi (have:=je V;by split)
theorem Oy  (f:au) (cdv:av) (A:cv) (outer:ac ci) (s:aE) (H:Hp) (E:XK) (hr:Room 15 (A.deeper (cY "law" (aB (top 77)) s.heap.objs.size f cdv))):DSs .(a) (c9 CX0 P w K mg base ["_law_script","_law_horizon_here","_law_lists_here","_law_cell","_law_limit","_law_holds_here","_law_kept_here","_law_most","_law_clock","_law_facts","_law_handed","_law_windows_here","_law_turn","_law_late","_law_told"] "law" (aB (top 77)) f cdv A outer s H E).nox (bR (top 77)) xB:=
  have nd:=l0.nd;have:=Pp V;have:=zZ V;have:=Dk V;have:=Hd V;have:=xo V;have:=gE V;have:=GP V;have:=Qt V;have:=HE V;have:=LW V;have:=Qb V;have:=C2 V;have:=OV V;have:=Ar V;(aF .(S) (aF .(S) (aF .(S) (aF .(S) (aF (iu 5 l0.nd Bf) (aF .(S) (aF .(S) (aF .(S) (aF (iu 9 l0.nd (yx (yc V).1 hr .(c) rfl .(X) ln2 rfl)) (aF (c7 (by exfalso) (aF .(S) (aF .(S) (aF .(S) (aF .(S) (aF (MY 10 l0.nd rfl rfl V.z_dict (bG 5)) (aF (c7 (by exfalso) (bC (Mm 10 rfl rfl V.z_dict (bG 6))) df) (aF (iu 9 l0.nd (IZ 10 (yx (yc V).2.1 hr .(c) rfl (bS .(G) (bS (bG 4) (bS (tJ 10 0) (bS (tJ 10 1) .(X))))) ln6 rfl))) (aF (c7 (OX 10 (DW.dt (gq (iQ (Aw (ce hr)) (tJ 10 0) (bG 5) (jx _)) (gC (iQ (Aw (ce hr)) (tJ 10 1) (bG 6) (jx _)))))) .(t) df) (aF (HC 10) (bC (c7 (by exfalso) (bC (JK 10 (ce hr) mW .(G))) df))))))))))) df) (aF .(S) (aF .(S) (aF (iu 13 l0.nd (MQ (yc V).2.2 hr .(c) rfl .(X) ln2 rfl (bG 8))) (aF (c7 (gk (gB (dC (C2 V) hr (bS (bG 13) (bS (bG 2) (bS (bG 4) (bS (dC (Ar V) hr (bS (bG 2) (bS (bG 4) (bS Bf .(X)))) ln4) cu)))) ln4))) .(t) df) .(t)))))))))))))))
end
theorem i2:fC "int" "int"=aa ah:=rfl
theorem i3:fC "int" "bool"=aa ar:=rfl
theorem i5:fC "bool" "bool"=aa ah:=rfl
theorem j1:fC "str" "str"=aa ah:=rfl
theorem k1:fC "list" "list"=aa ah:=rfl
theorem k2:fC "tuple" "list"=aa ar:=rfl
theorem k3:fC "tuple" "tuple"=aa ah:=rfl
theorem k4:fC "str" "list"=aa ar:=rfl
theorem k5:fC "str" "tuple"=aa ar:=rfl
theorem k6:fC "int" "list"=aa ar:=rfl
theorem k7:fC "int" "tuple"=aa ar:=rfl
theorem k8:fC "bool" "list"=aa ar:=rfl
theorem k9:fC "bool" "tuple"=aa ar:=rfl
theorem k10:fC "NoneType" "list"=aa ar:=rfl
theorem k11:fC "NoneType" "tuple"=aa ar:=rfl
theorem sz2:(1+1<=aJ)=True:=by simp[aJ]
theorem sz3:(1+1+1<=aJ)=True:=by simp[aJ]
section
variable {x0 x1 x2 x3 x4:D} {r:ac D}
theorem iP (l:ac α) (n:ak):atI l (n:aj)=l[n]?:=by
 unfold atI ixN;rw[qY .(b)];by_cases h:n<l.length
 .rw[qY .(b)];simp
 .rw[qZ .(b)];simp;omega
theorem dc:ixD (.tup (x0::r)) (.int 0)=aa x0:=iP _ 0
theorem fN:ixD (.tup (x0::x1::r)) (.int 1)=aa x1:=iP _ 1
theorem kC:ixD (.tup (x0::x1::x2::r)) (.int 2)=aa x2:=iP _ 2
theorem rS:ixD (.tup (x0::x1::x2::x3::r)) (.int 3)=aa x3:=iP _ 3
theorem mi:ixD (.tup (x0::x1::x2::x3::x4::r)) (.int 4)=aa x4:=iP _ 4
end
theorem xT {fe:FE} {r:bA} {f:D->D}:∀{xs:ac D} {a:aq Slot},(∀x∈xs,fe (oS x::r)=aa (f x))->cg (aA 0) tT fe xs (a::r)=aa (xs.map f)
 |[],_,_=>rfl
 |x::xs,a,h=>by have h1:=h x qh;have ih:=xT (xs:=xs) (a:=oS x) fun y hy=>h y (qi _ hy);simp only[cg,aA,mT,qc,tT,cq,h1,ih,qf,qo]
theorem Ew {fe:FE} {ft:FT} {r:bA} {f:D->D} {p:D->aN}:∀{xs:ac D} {a:aq Slot},(∀x∈xs,ft (oS x::r)=aa (p x)/\(p x=ah->fe (oS x::r)=aa (f x)))->cg (aA 0) ft fe xs (a::r)=aa ((xs.filter p).map f)
 |[],_,_=>rfl
 |x::xs,a,h=>by
  have h1:=h x qh;have ih:=Ew (xs:=xs) (a:=oS x) fun y hy=>h y (qi _ hy);simp only[cg,aA,mT,qc,h1.1,ih,vd];cases e:p x
  .simp
  .simp[h1.2 e]
theorem B8:∀{l:ac D},(∀x∈l,x=.bl ah)->∃bs:ac aN,nE l=aa bs/\bs.all id=ah
 |[],_=>⟨[],rfl,rfl⟩
 |x::r,h=>by obtain⟨bs,h1,h2⟩:=B8 (l:=r) fun y hy=>h y (qi _ hy);have hx:=h x qh;subst hx;exact⟨ah::bs,by simp[nE,h1],by simpa using h2⟩
theorem gT {a:aq Slot} {xs:ac D} (h1:fi ρ=aa xs) (h2:xs.length<=aJ) (h3:eS fv ρ=a::r) (h:∀x∈xs,fe (oS x::r)=aa (.bl ah)) :
  cF fj (ag (aS (ba fi (aA 0) tT fe fv)) ao) ρ=aa (.bl ah):=by
 have c:=xT (a:=a) (f:=fun _=>.bl ah) h;obtain⟨bs,e1,e2⟩:=B8 (l:=xs.map fun _=>D.bl ah) (by simp);simp only[cF,ag,ao,aS,ba,h1,qc,qY h2,h3,c,qf,fj,e1];simpa using e2
theorem jF {a:aq Slot} {xs:ac D} {f:D->D} (h1:fi ρ=aa xs) (h2:xs.length<=aJ) (h3:eS fv ρ=a::r) (h:∀x∈xs,fe (oS x::r)=aa (f x)) :
  aS (ba fi (aA 0) tT fe fv) ρ=aa (.lst (xs.map f)):=by
 simp only[aS,ba,h1,qc,qY h2,h3,xT (a:=a) h,qf]
theorem pj {body:FS} {xs:ac D} (I:ak->bA->Prop) (h0:I 0 ρ) (hs:∀i x ρ,xs[i]?=aa x->I i ρ->∃ρ1 ρ2,gg x ρ=aa ρ1/\body ρ1=aa (.nx,ρ2)/\I (i+1) ρ2) :
  ∃ρ',dD gg body xs ρ=aa (.nx,ρ')/\I xs.length ρ':=by
 have key:∀(ys:ac D) (k:ak) (ρ:bA),xs.drop k=ys->I k ρ->∃ρ',dD gg body ys ρ=aa (.nx,ρ')/\I (k+ys.length) ρ':=by
  intro ys
  induction ys with
  |nil=>intro k ρ _ hk;exact⟨ρ,rfl,hk⟩
  |cons y r ih=>
   intro k ρ hd hk;have hy:xs[k]?=aa y:=by
    have:(xs.drop k)[0]?=aa y:=by rw[hd];rfl
    simpa using this
   obtain⟨ρ1,ρ2,h1,h2,h3⟩:=hs k y ρ hy hk;have hd':xs.drop (k+1)=r:=by rw[←List.drop_drop,hd];rfl
   obtain⟨ρ',h4,h5⟩:=ih (k+1) ρ2 hd' h3;refine⟨ρ',?_,by rw[qj];rwa [show k+1+r.length=k+(r.length+1) by omega] at h5⟩;simp only[dD,h1,qc,h2,h4]
 obtain⟨ρ',h1,h2⟩:=key xs 0 ρ rfl h0;exact⟨ρ',h1,by rwa [ly] at h2⟩
theorem AH:(2:aj) ^ 62=4611686018427387904:=by decide +kernel
theorem Ou {i j:aj} (h:0<=i/\i<=1000000/\0<=j/\j<=1000000):mq [.int i,.int j]=aa ((ck (j-i).toNat).map fun k:ak=>D.int (i+k)):=by unfold mq;rw[AH];exact qY ⟨by omega,by omega,by omega,by omega⟩
theorem vW {j:aj} (h:0<=j/\j<=1000000):dM [.int j]=aa ((ck j.toNat).map fun i:ak=>D.int (0+i)):=by unfold dM;rw[AH];exact qY ⟨by omega,by omega⟩
theorem vy {g:ac D->aq (ac D)} {r:ac D} (h1:fr ρ=aa ds) (h2:g ds=aa r):itR g fr ρ=aa r:=by unfold itR;rw[h1];exact h2
theorem aD {g:D->D->aq D} {x y:D} (h1:fa ρ=aa x) (h2:fb ρ=aa y) (h3:g x y=aa z):b2 g fa fb ρ=aa z:=by unfold b2;rw[h1,qc,h2,qc];exact h3
theorem aO {g:FQ} (h1:fr ρ=aa ds) (h2:g ds=aa z):cF g fr ρ=aa z:=by unfold cF;rw[h1];exact h2
theorem ax (h1:f ρ=aa d) (h2:fr ρ=aa ds):ag f fr ρ=aa (d::ds):=by unfold ag;rw[h1,qc,h2];rfl
theorem aI :ao ρ=aa []:=rfl
theorem Cs (h:g (ds.map .(N)++bJ n af)=aa (.rt d,ρ')):aP n g ds=aa d:=by unfold aP;rw[h];rfl
theorem bV (ρ:bA) (e:ds.map .(N)++bJ n af=ρ) (h:g ρ=aa (.rt d,ρ')):aP n g ds=aa d:=by subst e;exact Cs h
theorem bU (h:f ρ=aa d):aG f ρ=aa (.rt d,ρ):=by unfold aG;rw[h];rfl
theorem bN {b:aN} (h:f ρ=aa (.bl b)):toB f ρ=aa b:=by unfold toB;rw[h];rfl
theorem lX {A:FE} {X E:FS} (hA:A ρ=aa (.bl ah)):aw (sIf (bh (toB A)) X aY) E ρ=E ρ:=by simp only[aw,sIf,bh,bN hA,qf,qc,ie,qr,cB,aY]
theorem ij {A:FE} {X E:FS} (hA:A ρ=aa (.bl ah)) (hB:B ρ=aa (.bl ah)):aw (sIf (orT (bh (toB A)) (bh (toB B))) X aY) E ρ=E ρ:=by simp only[aw,sIf,orT,bh,bN hA,bN hB,qf,qc,ie,qr,cB,aY]
theorem Lp {A C:FE} {X E:FS} (hA:A ρ=aa (.bl ah)) (hB:B ρ=aa (.bl ah)) (hC:C ρ=aa (.bl ah)):aw (sIf (orT (bh (toB A)) (orT (bh (toB B)) (bh (toB C)))) X aY) E ρ=E ρ:=by simp only[aw,sIf,orT,bh,bN hA,bN hB,bN hC,qf,qc,ie,qr,cB,aY]
theorem ER {A:FE} (hA:A ρ=aa (.bl ah)) (hB:B ρ=aa (.bl ah)):cc A B ρ=aa (.bl ah):=by simp only[cc,hA,hB,qc]
theorem nz (h:f ρ=aa d):aw (aR i f) g ρ=g (ρ.set i (oS d)):=by simp only[aw,aR,h,qf,qc]
theorem LX (i:aj):tU [.int i]=aa (.bl ah):=by simp only[tU,aP,aG,cc,oH,cF,ag,ao,vSh,vC,dv,tyD,qo,qQ,qq,qT,bJ,qd,qc,qf,ot,i2,i3]
theorem im (i a b:aj) (h:a<=i/\i<=b):f' [.int i,.int a,.int b]=aa (.bl ah):=by simp only[f',LX,aP,aG,cc,cF,ag,ao,vSh,chD,leD,qo,qQ,qq,qT,bJ,qd,qe,qc,qf,qU h.1,qU h.2]
theorem iV (l:ac D) (a b:aj) (h:a<=l.length/\(l.length:aj)<=b):gr [.lst l,.int a,.int b]=aa (.bl ah):=by simp only[gr,aP,aG,cc,cF,ag,ao,vSh,vC,chD,dv,tyD,b9,leD,qo,qQ,qq,qT,bJ,qd,qe,qc,qf,k1,qU h.1,qU h.2]
theorem rJ (l:ac D) (n:aj) (h:(l.length:aj)=n):fz [.tup l,.int n]=aa (.bl ah):=by simp only[fz,aP,aG,cc,cF,ag,ao,vSh,vC,b2,dv,tyD,b9,eqD,eqS,qo,qQ,qq,qT,bJ,qd,qe,qc,qf,k3,qU h]
section
variable {a b c e:D}
theorem tP:fz [.tup [a,b],.int 2]=aa (.bl ah):=rJ _ _ rfl
theorem BI:fz [.tup [a,b,c],.int 3]=aa (.bl ah):=rJ _ _ rfl
theorem QX:fz [.tup [a,b,c,d],.int 4]=aa (.bl ah):=rJ _ _ rfl
theorem Co:fz [.tup [a,b,c,d,e],.int 5]=aa (.bl ah):=rJ _ _ rfl
end
noncomputable def dIv (p:aj×aj):D:=.tup [.int p.1,.int p.2]
theorem Pb (p:aj×aj) (h:aj) (h1:0<=p.1) (h2:p.1<p.2) (h3:p.2<=h):uk [dIv p,.int h]=aa (.bl ah):=by simp only[uk,dIv,aP,aw,sIf,aG,aY,orT,bh,toB,cF,ag,ao,vSh,vC,b2,ltD,dc,fN,qo,qQ,qq,qT,bJ,qd,qe,qc,qf,cB,ie,qr,tP,im p.1 0 h ⟨h1,by omega⟩,im p.2 0 h ⟨by omega,h3⟩,qU h2]
def az (c:ak):aN:=!ltS ⟨#[c]⟩ "a" && !ltS "z" ⟨#[c]⟩
theorem Jc {c:ak} (h:az c=ah):c<=122:=by
 have z:("z":ai)=⟨#[122]⟩:=by decide +kernel
 unfold az ltS at h;rw[z] at h;simp only[eX,Ut,Uu] at h;have h2:=h.2;rcases mM 122 c with q|q
 .exact bu (show([122]:ac ak) < [c] from List.Lex.rel q) h2
 .exact q
theorem Qq (c:ak) (r:bA):chD leD leD (vC (.str "a")) (vSh 0) (vC (.str "z")) (oS (.str ⟨#[c]⟩)::r)=aa (.bl (az c)):=by simp only[chD,vC,vSh,qd,qc,leD,az];cases ltS ⟨#[c]⟩ "a"<;>simp
def bf (x:ai):aN:=decide (1<=x.length) && decide (x.length<=8) && x.cps.toList.all az
theorem Qf (h:bf x=ah):1<=x.length/\x.length<=8:=by unfold bf at h;simp only[eX,Gc] at h;exact h.1
theorem DX (h:bf x=ah):∀c∈x.cps.toList,az c=ah:=by unfold bf at h;simp only[eX,ia] at h;exact h.2
theorem kS (h:bf x=ah):jd [.str x]=aa (.bl ah):=by
 obtain⟨h1,h2⟩:=Qf h;have hz:x.length<=aJ:=by unfold aJ;omega
 have hl:(x.cps.toList.map fun c=>D.str ⟨#[c]⟩).length<=aJ:=by simpa[pU] using hz
 have e1:decide ((1:aj)<=(x.length:ak))=ah:=qU .(b);have e2:decide (((x.length:ak):aj)<=8)=ah:=qU .(b);have ha:=gT (fi:=itS (vSh 0)) (fe:=chD leD leD (vC (.str "a")) (vSh 0) (vC (.str "z"))) (fv:=[af]) (ρ:=[oS (.str x)]) (r:=[]) (a:=af) (xs:=x.cps.toList.map fun c=>D.str ⟨#[c]⟩)
  (by simp[itS,vSh,wm]) hl rfl (fun y hy=>by obtain⟨c,hc,rfl⟩:=bz.mp hy;rw[Qq,DX h c hc])
 refine Cs (ρ':=[oS (.str x)]) ((ij ?_ ?_).trans (bU ha))
 .rfl
 .show chD leD leD .(i) (cF b9 .(ac)) (vC (.int 8)) [oS (.str x)]=_;simp only[cF,ag,ao,vSh,vC,chD,b9,leD,qd,qc,qf,qY hz,e1,e2]
theorem pq (h:bf x=ah):Gw x=ah:=by unfold Gw;rw[Array.all_eq_true'];intro c hc;have:=Jc (DX h c (by simpa using hc));exact qU .(b)
theorem AF:∀(ns:ac ai),eZ (ns.map D.str)=aa (ns.map ou):=by
 intro xs0
 induction xs0 with
 |nil=>
  simp[eZ]
 |cons x r ih=>
  simp[eZ,pdD,ih]
theorem Az:∀{ns:ac ai},(∀x∈ns,bf x=ah)->j7 (ns.map ou)=ah:=by
 intro xs0
 induction xs0 with
 |nil=>
  intro _;simp[j7]
 |cons x r ih=>
  intro h;simp only[qo,j7,jw,pq (h x qh),zu];exact ih fun y hy=>h y (qi _ hy)
theorem N2 (x:ai):∀(ns:ac ai),((ns.map ou).any fun z=>gf z (.str x))=decide (x∈ns):=by
 intro xs0
 induction xs0 with
 |nil=>
  simp
 |cons y r ih=>
  have ih:=ih;rw[qo,j5,ih];simp only[gf];by_cases e:y=x
  .subst e;simp
  .have:x≠y:=fun z=>e z.symm;simp[e,this]
theorem wu (hx:bf x=ah) (hn:∀y∈ns,bf y=ah):gJ (.str x) (.lst (ns.map D.str))=aa (.bl (decide (x∈ns))):=by
 have sh:eY (.str x)=ah:=by simp[eY,jw,pq hx,kc]
 simp only[gJ,inX,pdD,AF,qf,qc,sh,Az hn,zH,cq,N2]
theorem m4 (hx:x∈ns) (hn:∀y∈ns,bf y=ah):jK [.str x,.lst (ns.map D.str)]=aa (.bl ah):=by simp only[jK,aP,aG,cc,cF,ag,ao,vSh,b2,qo,qQ,qq,qT,bJ,qd,qe,qc,qf,kS (hn x hx),wu (hn x hx) hn,qU hx]
theorem AI [dz κ] {l:ac κ} (h:l.Nodup):ST.dd l=l:=by
 have key:∀(l a:ac κ),(a++l).Nodup->l.foldl (fun a k=>if k∈a then a else a++[k]) a=a++l:=by
  intro l
  induction l with
  |nil=>intro a _;simp
  |cons x r ih=>
   intro a hn;have hx:x∉a:=by intro z;rw[iJ] at hn;exact hn.2.2 x z x qh rfl
   rw[fL,qZ hx,ih (a++[x]) (by simpa using hn)];simp
 simpa[ST.dd] using key l [] (by simpa using h)
theorem m6:∀(ns:ac ai),eC (ns.map D.str)=aa (ns.map bX):=by
 intro xs0
 induction xs0 with
 |nil=>
  simp[eC]
 |cons x r ih=>
  simp[eC,f8,ih]
theorem lZ (h:ns.Nodup) (hl:ns.length<=300):e9 [.lst (ns.map D.str)]=aa (.bl ah):=by have hd:(ns.map (bX:ai->Key)).Nodup:=ve _ (fun a b hab z=>hab (g9 z)) h;simp only[e9,aP,aG,cF,ag,ao,vSh,b1,b2,b9,eqD,eqS,qo,qQ,qq,qT,bJ,qd,qc,qf,nP,qg,qY hl,m6,AI hd];simp
theorem RU:∀(ts:ac (ac ai)),me (ts.map fun t=>.tup (t.map D.str))=aa (ts.map fun t=>t.map bX):=by
 intro xs0
 induction xs0 with
 |nil=>
  simp[me]
 |cons t r ih=>
  simp[me,m6,ih]
theorem BM {ts:ac (ac ai)} (h:ts.Nodup) (hl:ts.length<=300):e9 [.lst (ts.map fun t=>.tup (t.map D.str))]=aa (.bl ah):=by
 have inj:∀a b:ac ai,a.map (bX:ai->Key)=b.map bX->a=b:=fun a b z=>(Gx (fun x y q=>g9 q)).mp z;have hd:(ts.map fun t=>t.map (bX:ai->Key)).Nodup:=ve _ (fun a b hab z=>hab (inj a b z)) h;cases ts with
 |nil=>simp only[e9,aP,aG,cF,ag,ao,vSh,b1,b2,b9,eqD,eqS,qo,qQ,qq,qT,bJ,qd,qc,qf,qm,nP,eC,ST.dd];simp
 |cons t r=>
  have e:eC ((t::r).map fun t=>D.tup (t.map D.str))=af:=by simp[eC,f8]
  simp only[e9,aP,aG,b2,b1,vSh,qo,qQ,qq,qT,bJ,qd,qc,nP,cF,ag,ao,b9,qf];rw[qY (by simpa using hl)];have e':=e;rw[qo] at e';rw[e'];have t':=RU (t::r);rw[qo] at t';rw[t'];rw[qf,AI hd];simp[eqD,eqS]
structure BenchT where
 nm:ai
 br:ac (aj×aj)
structure StepT where
 nm:ai
 kd:ai
 ws:ac (ai×aj)
structure JobT where
 nm:ai
 ea:aj
 du:aj
 od:aN
 ms:ac ai
structure SetT where
 b:ai
 p:ai
 q:ai
 n:aj
structure LinkT where
 a:ai
 b:ai
 g:aj
structure StockT where
 nm:ai
 lo:aj
 hi:aj
 tk:ac (ai×aj)
 pt:ac (ai×aj)
noncomputable def dW (w:ai×aj):D:=.tup [.str w.1,.int w.2]
def bK (b:BenchT):D:=.tup [.str b.nm,.lst (b.br.map dIv)]
def bm (s:StepT):D:=.tup [.str s.nm,.str s.kd,.lst (s.ws.map dW)]
noncomputable def aX (j:JobT):D:=.tup [.str j.nm,.int j.ea,.int j.du,.bl j.od,.lst (j.ms.map D.str)]
noncomputable def cP (u:SetT):D:=.tup [.str u.b,.str u.p,.str u.q,.int u.n]
noncomputable def cS (l:LinkT):D:=.tup [.str l.a,.str l.b,.int l.g]
def cX (k:StockT):D:=.tup [.str k.nm,.int k.lo,.int k.hi,.lst (k.tk.map dW),.lst (k.pt.map dW)]
structure GoodB (h:aj) (b:BenchT):Prop where
 nm:bf b.nm=ah
 len:b.br.length<=10
 iv:∀p∈b.br,0<=p.1/\p.1<p.2/\p.2<=h
 gap:∀(i:ak) p q,b.br[i]?=aa p->b.br[i+1]?=aa q->p.2<q.1
structure GoodS (bn:ac ai) (h:aj) (s:StepT):Prop where
 nm:bf s.nm=ah
 kd:bf s.kd=ah
 l1:1<=s.ws.length
 l4:s.ws.length<=4
 ws:∀w∈s.ws,w.1∈bn/\1<=w.2/\w.2<=h
 nd:(s.ws.map (·.1)).Nodup
structure GoodJ (sn:ac ai) (h:aj) (j:JobT):Prop where
 nm:bf j.nm=ah
 ea:0<=j.ea/\j.ea<=h
 du:0<=j.du/\j.du<=h
 l1:1<=j.ms.length
 ln:j.ms.length<=sn.length
 ms:∀m∈j.ms,m∈sn
structure GoodU (bn:ac ai) (h:aj) (u:SetT):Prop where
 b:u.b∈bn
 p:bf u.p=ah
 q:bf u.q=ah
 n:1<=u.n/\u.n<=h
structure GoodL (sn:ac ai) (h:aj) (l:LinkT):Prop where
 a:l.a∈sn
 b:l.b∈sn
 ne:l.a≠l.b
 g:0<=l.g/\l.g<=h
structure GoodA (sn:ac ai) (am:ac (ai×aj)):Prop where
 ln:am.length<=sn.length
 ws:∀w∈am,w.1∈sn/\1<=w.2/\w.2<=1000000
 nd:(am.map (·.1)).Nodup
structure GoodK (sn:ac ai) (k:StockT):Prop where
 nm:bf k.nm=ah
 lo:0<=k.lo/\k.lo<=k.hi
 hi:0<=k.hi/\k.hi<=1000000
 tk:GoodA sn k.tk
 pt:GoodA sn k.pt
structure Good (bs:ac BenchT) (ss:ac StepT) (js:ac JobT) (us:ac SetT) (ls:ac LinkT) (ks:ac StockT) (hz:aj):Prop where
 hh:1<=hz/\hz<=1000000
 bl:1<=bs.length/\bs.length<=8
 b:∀x∈bs,GoodB hz x
 bn:(bs.map (·.nm)).Nodup
 sl:1<=ss.length/\ss.length<=40
 s:∀x∈ss,GoodS (bs.map (·.nm)) hz x
 sn:(ss.map (·.nm)).Nodup
 jl:js.length<=40
 j:∀x∈js,GoodJ (ss.map (·.nm)) hz x
 jn:(js.map (·.nm)).Nodup
 jm:(js.flatMap (·.ms)).Nodup
 ul:us.length<=100
 u:∀x∈us,GoodU (bs.map (·.nm)) hz x
 un:(us.map fun u=>[u.b,u.p,u.q]).Nodup
 ll:ls.length<=100
 l:∀x∈ls,GoodL (ss.map (·.nm)) hz x
 ln:(ls.map fun l=>[l.a,l.b]).Nodup
 kl:ks.length<=6
 k:∀x∈ks,GoodK (ss.map (·.nm)) x
 kn:(ks.map (·.nm)).Nodup
theorem ixL (l:ac D) (n:ak):ixD (.lst l) (.int (n:aj))=l[n]?:=iP l n
theorem szN {k:ak} (h:n<=k) (hk:k<=1000):n<=aJ:=by unfold aJ;omega
variable {ss:ac StepT}
section
variable {bn:ac ai}
theorem Ik (len:br.length<=10) (gap:∀(i:ak) p q,br[i]?=aa p->br[i+1]?=aa q->p.2<q.1) :
  cF fj X5 [oS (.lst (br.map dIv)),oS (.int h)]=aa (.bl ah):=by
 have e0:itR mq (ag .(i) (ag (cF b9 .(ac)) ao)) [oS (.lst (br.map dIv)),oS (.int h)]=aa ((ck (((br.map dIv).length:aj)-1).toNat).map fun k:ak=>D.int (1+k)):=by exact vy rfl (Ou (i:=1) (j:=((br.map dIv).length:ak)) (by rw[qg];omega))
 refine gT (r:=[oS (.lst (br.map dIv))]) (a:=af) e0 ?_ rfl fun x hx=>?_
 .simp only[qg,qW];exact szN (k:=10) .(b) .(c)
 .obtain⟨k,hk,rfl⟩:=bz.mp hx;rw[fH,qg] at hk;have hk1:k<br.length:=by omega
  have hk2:k+1<br.length:=by omega
  have e1:br[k]?=aa br[k]:=by simp[hk1]
  have e2:br[k+1]?=aa br[k+1]:=by simp[hk2]
  have g:=gap k _ _ e1 e2;have a1:ixD (.lst (br.map dIv)) (.int (1+(k:aj)-1))=aa (dIv br[k]):=by
   have:(1+(k:aj)-1)=((k:ak):aj):=by omega
   rw[this,ixL,ql,e1];rfl
  have a2:ixD (.lst (br.map dIv)) (.int (1+(k:aj)))=aa (dIv br[k+1]):=by
   have:(1+(k:aj))=((k+1:ak):aj):=by omega
   rw[this,ixL,ql,e2];rfl
  simp only[vSh,vC,b2,ltD,kP,qd,qe,qc,a1,a2];simp only[dIv,dc,fN,qc,qU g]
theorem RN (len:br.length<=10) (iv:∀p∈br,0<=p.1/\p.1<p.2/\p.2<=h) (gap:∀(i:ak) p q,br[i]?=aa p->br[i+1]?=aa q->p.2<q.1) :
  wF [.lst (br.map dIv),.int h]=aa (.bl ah):=by
 refine bV [oS (.lst (br.map dIv)),oS (.int h)] rfl ((ij ?_ (gT (r:=[oS (.int h)]) (a:=af) (xs:=br.map dIv) rfl (by rw[qg];exact szN len .(c)) rfl fun x hx=>?_)).trans (bU (Ik len gap)))
 .exact iV _ 0 10 ⟨by omega,by rw[qg];omega⟩
 .obtain⟨p,hp,rfl⟩:=bz.mp hx;obtain⟨h1,h2,h3⟩:=iv p hp;exact Pb p h h1 h2 h3
theorem MB {b:BenchT} (g:GoodB h b):sN [bK b,.int h]=aa (.bl ah):=by simp only[sN,bK,aP,aG,cc,cF,ag,ao,vSh,vC,b2,dc,fN,qo,qQ,qq,qT,bJ,qd,qe,qc,qf,tP,kS g.nm,RN g.len g.iv g.gap]
theorem kI {f:α->D} {nm:α->ai} {xs:ac α} (hf:∀x,∃r,f x=.tup (.str (nm x)::r)) (h1:vSh i ρ=aa (.lst (xs.map f))) (h2:xs.length<=aJ) (h3:eS fv ρ=[af]) :
  aS (ba (itF (vSh i)) (aA 0) tT .(p) fv) ρ=aa (.lst ((xs.map nm).map D.str)):=by
 have hc:=jF (fi:=itF (vSh i)) (fe:=b2 ixD (vSh 0) .(f)) (fv:=fv) (ρ:=ρ) (r:=[]) (a:=af) (xs:=xs.map f) (f:=fun d=>match d with|.tup (x::_)=>x|_=>.non) (by unfold itF;rw[h1];rfl) (by rw[qg];exact h2) h3 (fun x hx=>by obtain⟨y,_,rfl⟩:=bz.mp hx;obtain⟨r,e⟩:=hf y;simp only[b2,vSh,vC,qd,qc,e,dc])
 rw[hc]
 congr 2
 rw[qp,qp];refine gj fun x _=>?_;obtain⟨r,e⟩:=hf x;simp[e]
theorem OZ {bs:ac BenchT} (l1:1<=bs.length) (l8:bs.length<=8) (g:∀x∈bs,GoodB h x) (nd:(bs.map (·.nm)).Nodup):yE [.lst (bs.map bK),.int h]=aa (.bl ah):=by
 refine bV [oS .(av),oS (.int h)] rfl ((ij ?_ (gT (r:=[oS (.int h)]) (a:=af) (xs:=bs.map bK) rfl (by rw[qg];exact szN l8 .(c)) rfl fun x hx=>?_)).trans (bU ?_))
 .exact iV _ 1 8 ⟨by rw[qg];omega,by rw[qg];omega⟩
 .obtain⟨p,hp,rfl⟩:=bz.mp hx;exact MB (g p hp)
 .have:=kI (i:=0) (fv:=[af]) (ρ:=[oS .(av),oS (.int h)]) (f:=bK) (nm:=(·.nm)) (xs:=bs) .(aS) rfl (szN l8 .(c)) rfl;simp only[cF,ag,ao,this,qc,qf];exact lZ nd (by rw[qg];omega)
theorem Qr {w:ai×aj} (hb:∀y∈bn,bf y=ah) (g:w.1∈bn/\1<=w.2/\w.2<=h):uw [dW w,.lst (bn.map D.str),.int h]=aa (.bl ah):=by simp only[uw,dW,aP,aG,cc,cF,ag,ao,vSh,vC,b2,dc,fN,qo,qQ,qq,qT,bJ,qd,qe,qc,qf,tP,m4 g.1 hb,im w.2 1 h g.2]
theorem Ia {ws:ac (ai×aj)} (hb:∀y∈bn,bf y=ah) (l1:1<=ws.length) (l4:ws.length<=4) (g:∀w∈ws,w.1∈bn/\1<=w.2/\w.2<=h) (nd:(ws.map (·.1)).Nodup):xI [.lst (ws.map dW),.lst (bn.map D.str),.int h]=aa (.bl ah):=by
 refine bV [oS (.lst (ws.map dW)),oS .(aw),oS (.int h)] rfl ((ij ?_ (gT (r:=[oS .(aw),oS (.int h)]) (a:=af) (xs:=ws.map dW) rfl (by rw[qg];exact szN l4 .(c)) rfl fun x hx=>?_)).trans (bU ?_))
 .exact iV _ 1 4 ⟨by rw[qg];omega,by rw[qg];omega⟩
 .obtain⟨p,hp,rfl⟩:=bz.mp hx;exact Qr hb (g p hp)
 .have:=kI (i:=0) (fv:=[af]) (ρ:=[oS (.lst (ws.map dW)),oS .(aw),oS (.int h)]) (f:=dW) (nm:=(·.1)) (xs:=ws) .(aS) rfl (szN l4 .(c)) rfl;simp only[cF,ag,ao,this,qc,qf];exact lZ nd (by rw[qg];omega)
theorem IR {s:StepT} (hb:∀y∈bn,bf y=ah) (g:GoodS bn h s):tK [bm s,.lst (bn.map D.str),.int h]=aa (.bl ah):=by simp only[tK,bm,aP,aw,sIf,aG,aY,orT,bh,toB,cF,ag,ao,vSh,vC,b2,dc,fN,kC,qo,qQ,qq,qT,bJ,qd,qe,qc,qf,cB,ie,qr,BI,kS g.nm,kS g.kd,Ia hb g.l1 g.l4 g.ws g.nd]
theorem Lq (hb:∀y∈bn,bf y=ah) (l1:1<=ss.length) (l4:ss.length<=40) (g:∀s∈ss,GoodS bn h s) (nd:(ss.map (·.nm)).Nodup):wv [.lst (ss.map bm),.lst (bn.map D.str),.int h]=aa (.bl ah):=by
 refine bV [oS .(V),oS .(aw),oS (.int h)] rfl ((ij ?_ (gT (r:=[oS .(aw),oS (.int h)]) (a:=af) (xs:=ss.map bm) rfl (by rw[qg];exact szN l4 .(c)) rfl fun x hx=>?_)).trans (bU ?_))
 .exact iV _ 1 40 ⟨by rw[qg];omega,by rw[qg];omega⟩
 .obtain⟨p,hp,rfl⟩:=bz.mp hx;exact IR hb (g p hp)
 .have:=kI (i:=0) (fv:=[af]) (ρ:=[oS .(V),oS .(aw),oS (.int h)]) (f:=bm) (nm:=(·.nm)) (xs:=ss) .(aS) rfl (szN l4 .(c)) rfl;simp only[cF,ag,ao,this,qc,qf];exact lZ nd (by rw[qg];omega)
end
theorem Fd (a b:ai):neA (.str a) (.str b)=aa (.bl (!decide (a=b))):=rfl
theorem NC (a b:ai):eqA (.str a) (.str b)=aa (.bl (decide (a=b))):=rfl
theorem B2 {a b c:D} :kU af (aa 3) (.tup [a,b,c,d])=aa (.tup [a,b,c]):=rfl
theorem Q6 {a b c:D} :kU af (aa 2) (.tup [a,b,c])=aa (.tup [a,b]):=rfl
theorem x8 {α β:Type} {f:α->ac β} {m:ak}:∀{l:ac α},(∀x∈l,(f x).length<=m)->(l.flatMap f).length<=l.length*m
 |[],_=>by simp
 |x::r,h=>by have h1:=h x qh;have h2:=x8 (l:=r) fun y hy=>h y (qi _ hy);rw[rA,qk,qj,oa];omega
variable {js:ac JobT} {us:ac SetT} {ls:ac LinkT} {ks:ac StockT}
section
variable {bn:ac ai}
theorem Od {j:JobT} (hs:∀y∈sn,bf y=ah) (hl:sn.length<=40) (g:GoodJ sn h j):wE [aX j,.lst (sn.map D.str),.int h]=aa (.bl ah):=by
 refine bV [oS (aX j),oS .(O),oS (.int h)] rfl ((Lp ?_ ?_ ?_).trans ((ij ?_ ?_).trans (bU (ER ?_ (gT (r:=[oS .(O)]) (a:=af) (xs:=j.ms.map D.str) ?_ ?_ rfl fun x hx=>?_)))))
 .exact Co
 .simp only[aX,cF,ag,ao,vSh,vC,b2,dc,qd,qc,qf,kS g.nm]
 .simp only[aX,cF,ag,ao,vSh,vC,b2,dv,tyD,rS,qd,qc,qf,i5]
 .simp only[aX,cF,ag,ao,vSh,vC,b2,fN,qd,qe,qc,qf,im _ 0 h g.ea]
 .simp only[aX,cF,ag,ao,vSh,vC,b2,kC,qd,qe,qc,qf,im _ 0 h g.du]
 .simp only[aX,cF,ag,ao,vSh,vC,b2,b9,mi,qd,qe,qc,qf];exact iV _ _ _ ⟨by rw[qg];have:=g.l1;omega,by rw[qg,qg];have:=g.ln;omega⟩
 .simp only[aX,vSh,vC,b2,itF,kT,mi,qd,qc]
 .rw[qg];exact szN (qO g.ln hl) .(c)
 .obtain⟨m,hm,rfl⟩:=bz.mp hx;simp only[cF,ag,ao,vSh,qd,qe,qc,qf,m4 (g.ms m hm) hs]
theorem RZ {H:aq Slot} (hl:js.length<=40) (g:∀j∈js,j.ms.length<=40) :
  ∃z,dD (aA 4) (gR 3 (b2 ixD (vSh 4) .(u))) (js.map aX) [oS .(aa),S,H,aa (.own []),af]=aa (.nx,[oS .(aa),S,H,aa (.own ((js.flatMap (·.ms)).map D.str)),z]):=by
 obtain⟨ρ',h1,z,h2⟩:=pj (gg:=aA 4) (body:=gR 3 (b2 ixD (vSh 4) .(u))) (xs:=js.map aX) (ρ:=[oS .(aa),S,H,aa (.own []),af])
  (fun i ρ=>∃z,ρ=[oS .(aa),S,H,aa (.own (((js.take i).flatMap (·.ms)).map D.str)),z]) ⟨af,by simp⟩ (fun i x ρ hx hI=>by
   obtain⟨z,rfl⟩:=hI;rw[ql] at hx;obtain⟨j,hj,rfl⟩:=oMd hx;have hm:j∈js:=qR hj;have t1:((js.take i).flatMap (·.ms)).length<=(js.take i).length*40:=x8 fun y hy=>g y (p9 hy);have t2:(js.take i).length<=40:=by rw[qF];omega
   have t3:=g j hm;have tk:js.take (i+1)=js.take i++[j]:=by rw[zI,hj];rfl
   have sz:(((js.take i).flatMap (·.ms)).map D.str).length+(j.ms.map D.str).length<=aJ:=by rw[qg,qg];unfold aJ;omega
   refine⟨_,[oS .(aa),S,H,aa (.own (((js.take (i+1)).flatMap (·.ms)).map D.str)),oS (aX j)],rfl,?_,_,rfl⟩;have e:b2 ixD (vSh 4) .(u) [oS .(aa),S,H,aa (.own (((js.take i).flatMap (·.ms)).map D.str)),oS (aX j)]=aa (.lst (j.ms.map D.str)):=by simp only[aX,vSh,vC,b2,mi,qd,qe,qc]
   simp only[gR,mT,Gy,qd,qe,e,qc,qY sz,tk];simp)
 refine⟨z,?_⟩;rw[h1,h2,qg,iH]
theorem N4 (hs:∀y∈sn,bf y=ah) (hl:sn.length<=40) (l4:js.length<=40) (g:∀j∈js,GoodJ sn h j) (nd:(js.map (·.nm)).Nodup) (nm:(js.flatMap (·.ms)).Nodup) (ml:(js.flatMap (·.ms)).length<=300):xW [.lst (js.map aX),.lst (sn.map D.str),.int h]=aa (.bl ah):=by
 obtain⟨z,hz⟩:=RZ (js:=js) (S:=oS .(O)) (H:=oS (.int h)) l4 fun j hj=>qO (g j hj).ln hl;refine bV [oS .(aa),oS .(O),oS (.int h),af,af] (ρ':=[oS .(aa),oS .(O),oS (.int h),oS (.lst ((js.flatMap (·.ms)).map D.str)),z]) rfl ((ij ?_ (gT (r:=[oS .(O),oS (.int h)]) (a:=af) (xs:=js.map aX) rfl (by rw[qg];exact szN l4 .(c)) rfl fun x hx=>?_)).trans ?_)
 .exact iV _ 0 40 ⟨by omega,by rw[qg];omega⟩
 .obtain⟨p,hp,rfl⟩:=bz.mp hx;simp only[cF,ag,ao,vSh,qd,qe,qc,qf,Od hs hl (g p hp)]
 .have nn:=kI (i:=0) (fv:=[af]) (ρ:=[oS .(aa),oS .(O),oS (.int h),oS (.lst ((js.flatMap (·.ms)).map D.str)),z]) (f:=aX) (nm:=(·.nm)) (xs:=js) .(aS) rfl (szN l4 .(c)) rfl;have u1:cF e9 X1 [oS .(aa),oS .(O),oS (.int h),oS (.lst ((js.flatMap (·.ms)).map D.str)),z]=aa (.bl ah):=
   aO (ax nn aI) (lZ nd (by rw[qg];omega))
  have u2:cF e9 (ag (vSh 3) ao) [oS .(aa),oS .(O),oS (.int h),oS (.lst ((js.flatMap (·.ms)).map D.str)),z]=aa (.bl ah):=
   aO .(v) (lZ nm ml)
  have r:=bU (ER u1 u2);have z0:(0<=aJ)=True:=by simp
  simp only[aw,eQ,szF,ao,qc,qf,qm,z0,cq,mT,Gy,bW,itF,vSh,qd,kT];rw[hz];simp only[qc,ff,qd,qe,mT,Gy];exact r
theorem KY {u:SetT} (hb:∀y∈bn,bf y=ah) (g:GoodU bn h u):tj [cP u,.lst (bn.map D.str),.int h]=aa (.bl ah):=by simp only[tj,cP,aP,aw,sIf,aG,aY,cc,orT,bh,toB,cF,ag,ao,vSh,vC,b2,dc,fN,kC,rS,qo,qQ,qq,qT,bJ,qd,qe,qc,qf,cB,ie,qr,QX,m4 g.b hb,kS g.p,kS g.q,im _ 1 h g.n]
theorem Jm (hb:∀y∈bn,bf y=ah) (l4:us.length<=100) (g:∀u∈us,GoodU bn h u) (nd:(us.map fun u=>[u.b,u.p,u.q]).Nodup):yd [.lst (us.map cP),.lst (bn.map D.str),.int h]=aa (.bl ah):=by
 refine bV [oS (.lst (us.map cP)),oS .(aw),oS (.int h)] rfl ((ij ?_ (gT (r:=[oS .(aw),oS (.int h)]) (a:=af) (xs:=us.map cP) rfl (by rw[qg];exact szN l4 .(c)) rfl fun x hx=>?_)).trans (bU (aO (ax (jF (r:=[]) (a:=af) (xs:=us.map cP) (f:=fun d=>match d with|.tup [a,b,c,d]=>.tup [a,b,c]|_=>.non) rfl (by rw[qg];exact szN l4 .(c)) rfl fun x hx=>?_) aI) ?_)))
 .exact iV _ 0 100 ⟨by omega,by rw[qg];omega⟩
 .obtain⟨p,hp,rfl⟩:=bz.mp hx;simp only[cF,ag,ao,vSh,qd,qe,qc,qf,KY hb (g p hp)]
 .obtain⟨p,hp,rfl⟩:=bz.mp hx;simp only[vSh,vC,slF,pN,pS,qd,qc,cP,B2]
 .have:=BM nd (by rw[qg];omega);rw[qp] at this ⊢;exact this
theorem GK {l:LinkT} (hs:∀y∈sn,bf y=ah) (g:GoodL sn h l):sC [cS l,.lst (sn.map D.str),.int h]=aa (.bl ah):=by have:=g.ne;simp only[sC,cS,aP,aw,sIf,aG,aY,cc,orT,bh,toB,cF,ag,ao,vSh,vC,b2,dc,fN,kC,qo,qQ,qq,qT,bJ,qd,qe,qc,qf,cB,ie,ot,qr,BI,m4 g.a hs,m4 g.b hs,Fd,qP g.ne,im _ 0 h g.g]
theorem IE (hs:∀y∈sn,bf y=ah) (l4:ls.length<=100) (g:∀l∈ls,GoodL sn h l) (nd:(ls.map fun l=>[l.a,l.b]).Nodup):xF [.lst (ls.map cS),.lst (sn.map D.str),.int h]=aa (.bl ah):=by
 refine bV [oS (.lst (ls.map cS)),oS .(O),oS (.int h)] rfl ((ij ?_ (gT (r:=[oS .(O),oS (.int h)]) (a:=af) (xs:=ls.map cS) rfl (by rw[qg];exact szN l4 .(c)) rfl fun x hx=>?_)).trans (bU (aO (ax (jF (r:=[]) (a:=af) (xs:=ls.map cS) (f:=fun d=>match d with|.tup [a,b,c]=>.tup [a,b]|_=>.non) rfl (by rw[qg];exact szN l4 .(c)) rfl fun x hx=>?_) aI) ?_)))
 .exact iV _ 0 100 ⟨by omega,by rw[qg];omega⟩
 .obtain⟨p,hp,rfl⟩:=bz.mp hx;simp only[cF,ag,ao,vSh,qd,qe,qc,qf,GK hs (g p hp)]
 .obtain⟨p,hp,rfl⟩:=bz.mp hx;simp only[vSh,vC,slF,pN,pS,qd,qc,cS,Q6]
 .have:=BM nd (by rw[qg];omega);rw[qp] at this ⊢;exact this
theorem QT {w:ai×aj} (hs:∀y∈sn,bf y=ah) (g:w.1∈sn/\1<=w.2/\w.2<=1000000):sJ [dW w,.lst (sn.map D.str)]=aa (.bl ah):=by simp only[sJ,dW,aP,aG,cc,cF,ag,ao,vSh,vC,b2,dc,fN,qo,qQ,qq,qT,bJ,qd,qe,qc,qf,tP,m4 g.1 hs,im w.2 1 1000000 g.2]
theorem Er {ws:ac (ai×aj)} (hs:∀y∈sn,bf y=ah) (hl:sn.length<=40) (g:GoodA sn ws):tM [.lst (ws.map dW),.lst (sn.map D.str)]=aa (.bl ah):=by
 have l4:ws.length<=40:=qO g.ln hl;refine bV [oS (.lst (ws.map dW)),oS .(O)] rfl ((ij ?_ (gT (r:=[oS .(O)]) (a:=af) (xs:=ws.map dW) rfl (by rw[qg];exact szN l4 .(c)) rfl fun x hx=>?_)).trans (bU ?_))
 .have e:=iV (ws.map dW) 0 ((sn.map D.str).length:ak) ⟨by omega,by rw[qg,qg];have:=g.ln;omega⟩;simp only[cF,ag,ao,vSh,vC,b9,qd,qe,qc,qf];exact e
 .obtain⟨p,hp,rfl⟩:=bz.mp hx;simp only[cF,ag,ao,vSh,qd,qe,qc,qf,QT hs (g.ws p hp)]
 .have:=kI (i:=0) (fv:=[af]) (ρ:=[oS (.lst (ws.map dW)),oS .(O)]) (f:=dW) (nm:=(·.1)) (xs:=ws) .(aS) rfl (szN l4 .(c)) rfl;exact aO (ax this aI) (lZ g.nd (by rw[qg];omega))
theorem Mf {k:StockT} (hs:∀y∈sn,bf y=ah) (hl:sn.length<=40) (g:GoodK sn k):t8 [cX k,.lst (sn.map D.str)]=aa (.bl ah):=by simp only[t8,cX,aP,aw,sIf,aG,aY,cc,orT,bh,toB,cF,ag,ao,vSh,vC,b2,dc,fN,kC,rS,mi,qo,qQ,qq,qT,bJ,qd,qe,qc,qf,cB,ie,qr,Co,kS g.nm,im _ 0 1000000 g.hi,im _ 0 _ g.lo,Er hs hl g.tk,Er hs hl g.pt]
theorem Sx (hs:∀y∈sn,bf y=ah) (hl:sn.length<=40) (l4:ks.length<=6) (g:∀k∈ks,GoodK sn k) (nd:(ks.map (·.nm)).Nodup):xh [.lst (ks.map cX),.lst (sn.map D.str)]=aa (.bl ah):=by
 refine bV [oS (.lst (ks.map cX)),oS .(O)] rfl ((ij ?_ (gT (r:=[oS .(O)]) (a:=af) (xs:=ks.map cX) rfl (by rw[qg];exact szN l4 .(c)) rfl fun x hx=>?_)).trans (bU ?_))
 .exact iV _ 0 6 ⟨by omega,by rw[qg];omega⟩
 .obtain⟨p,hp,rfl⟩:=bz.mp hx;simp only[cF,ag,ao,vSh,qd,qe,qc,qf,Mf hs hl (g p hp)]
 .have:=kI (i:=0) (fv:=[af]) (ρ:=[oS (.lst (ks.map cX)),oS .(O)]) (f:=cX) (nm:=(·.nm)) (xs:=ks) .(aS) rfl (szN l4 .(c)) rfl;exact aO (ax this aI) (lZ nd (by rw[qg];omega))
end
section
variable {bs:ac BenchT}
theorem Good.bnn (g:Good bs ss js us ls ks h):∀y∈bs.map (·.nm),bf y=ah:=fun y hy=>by obtain⟨b,hb,rfl⟩:=bz.mp hy;exact(g.b b hb).nm
theorem Good.snn (g:Good bs ss js us ls ks h):∀y∈ss.map (·.nm),bf y=ah:=fun y hy=>by obtain⟨b,hb,rfl⟩:=bz.mp hy;exact(g.s b hb).nm
theorem Jo (g:Good bs ss js us ls ks h) (ml:(js.flatMap (·.ms)).length<=300):vU [.lst (bs.map bK),.lst (ss.map bm),.lst (js.map aX),.lst (us.map cP),.lst (ls.map cS),.lst (ks.map cX),.int h]=aa .non:=by
 have hb:=g.bnn;have hs:=g.snn;have hl:(ss.map (·.nm)).length<=40:=by rw[qg];exact g.sl.2
 have n1:∀z:aq Slot,aS (ba (itF (vSh 0)) (aA 0) tT .(p) [af]) [oS .(av),oS .(V),oS .(aa),oS (.lst (us.map cP)),oS (.lst (ls.map cS)),oS (.lst (ks.map cX)),oS (.int h),af,af]=aa (.lst ((bs.map (·.nm)).map D.str)):=fun z=>
  kI (f:=bK) (nm:=(·.nm)) (xs:=bs) .(aS) rfl (szN g.bl.2 .(c)) rfl
 have n2:aS (ba (itF (vSh 1)) (aA 0) tT .(p) [af]) [oS .(av),oS .(V),oS .(aa),oS (.lst (us.map cP)),oS (.lst (ls.map cS)),oS (.lst (ks.map cX)),oS (.int h),oS (.lst ((bs.map (·.nm)).map D.str)),af]=aa (.lst ((ss.map (·.nm)).map D.str)):=
  kI (f:=bm) (nm:=(·.nm)) (xs:=ss) .(aS) rfl (szN g.sl.2 .(c)) rfl
 refine bV [oS .(av),oS .(V),oS .(aa),oS (.lst (us.map cP)),oS (.lst (ls.map cS)),oS (.lst (ks.map cX)),oS (.int h),af,af] rfl ((lX ?_).trans ((lX ?_).trans ((nz (n1 af)).trans ((lX ?_).trans ((nz n2).trans ((lX ?_).trans ((lX ?_).trans ((lX ?_).trans ((lX ?_).trans (bU rfl))))))))))
 .exact im h 1 1000000 g.hh
 .exact OZ g.bl.1 g.bl.2 g.b g.bn
 .exact Lq hb g.sl.1 g.sl.2 g.s g.sn
 .exact N4 hs hl g.jl g.j g.jn g.jm ml
 .exact Jm hb g.ul g.u g.un
 .exact IE hs g.ll g.l g.ln
 .exact Sx hs hl g.kl g.k g.kn
end
noncomputable def Pl:ak->D->Prop
 |0,_=>False
 |n+1,.lst l=>l.length<=aJ/\∀x∈l,Pl n x
 |n+1,.tup l=>l.length<=aJ/\∀x∈l,Pl n x
 |_+1,.non=>True
 |_+1,.bl _=>True
 |_+1,.int _=>True
 |_+1,.str _=>True
 |_+1,_=>False
theorem jf {X E:FS} (h:ft ρ=aa ar):aw (sIf ft X aY) E ρ=E ρ:=by simp only[aw,sIf,h,qc,qr,cB,aY]
theorem BX {A B E:FS} (h:ft ρ=aa ah) (h2:A ρ=aa (.rt d,ρ')):aw (sIf ft A B) E ρ=aa (.rt d,ρ'):=by simp only[aw,sIf,h,qc,cq,h2]
theorem xC:∀(n:ak) (d:D),Pl n d->i6 n [d]=aa d
 |0,_,h=>h.elim
 |n+1,.lst l,h=>by
  refine bV [oS (.lst l)] rfl (BX (bN (b:=ah) ?_) (bU ?_))
  .simp only[cF,ag,ao,vSh,vC,dv,tyD,qd,qc,qf,k1]
  .have:=jF (fi:=itF (vSh 0)) (fe:=cF (i6 n) .(ac)) (fv:=[af]) (ρ:=[oS (.lst l)]) (r:=[]) (a:=af) (xs:=l) (f:=fun x=>x) rfl h.1 rfl (fun x hx=>by simp only[cF,ag,ao,vSh,qd,qc,qf,xC n x (h.2 x hx)]);rw[UB] at this;exact this
 |n+1,.tup l,h=>by
  refine bV [oS (.tup l)] rfl ((jf (bN (b:=ar) ?_)).trans (BX (bN (b:=ah) ?_) (bU (aO (ax (d:=.lst l) ?_ aI) rfl))))
  .simp only[cF,ag,ao,vSh,vC,dv,tyD,qd,qc,qf,k2]
  .simp only[cF,ag,ao,vSh,vC,dv,tyD,qd,qc,qf,k3]
  .have:=jF (fi:=itF (vSh 0)) (fe:=cF (i6 n) .(ac)) (fv:=[af]) (ρ:=[oS (.tup l)]) (r:=[]) (a:=af) (xs:=l) (f:=fun x=>x) rfl h.1 rfl (fun x hx=>by simp only[cF,ag,ao,vSh,qd,qc,qf,xC n x (h.2 x hx)]);rw[UB] at this;exact this
 |n+1,.non,h=>by
  show iK (i6 n) [.non]=aa .non;unfold iK;refine bV [oS .non] rfl .(au)<;>simp only[cF,ag,ao,vSh,vC,dv,tyD,qd,qc,qf,k10,k11]
 |n+1,.bl b,h=>by
  show iK (i6 n) [.bl b]=aa (.bl b);unfold iK;refine bV [oS (.bl b)] rfl .(au)<;>simp only[cF,ag,ao,vSh,vC,dv,tyD,qd,qc,qf,k8,k9]
 |n+1,.int b,h=>by
  show iK (i6 n) [.int b]=aa (.int b);unfold iK;refine bV [oS (.int b)] rfl .(au)<;>simp only[cF,ag,ao,vSh,vC,dv,tyD,qd,qc,qf,k6,k7]
 |n+1,.str b,h=>by show iK (i6 n) [.str b]=aa (.str b);unfold iK;refine bV [oS (.str b)] rfl .(au)<;>simp only[cF,ag,ao,vSh,vC,dv,tyD,qd,qc,qf,k4,k4,k5]
theorem gL (h:Pl 8 d):dJ [d]=aa d:=xC 8 d h
theorem gu {f:α->D} {xs:ac α} (hl:xs.length<=1000) (h:∀x∈xs,Pl n (f x)):Pl (n+1) (.lst (xs.map f)):=
 ⟨by rw[qg];exact szN hl .(c),fun x hx=>by obtain⟨y,hy,rfl⟩:=bz.mp hx;exact h y hy⟩
theorem JD {xs:ac ai} (hl:xs.length<=1000):Pl (n+2) (.lst (xs.map D.str)):=gu hl fun x _=>(trivial:Pl (n+1) (.str x))
theorem sM {xs:ac (ai×aj)} (hl:xs.length<=1000):Pl (n+3) (.lst (xs.map dW)):=gu hl fun x _=>⟨by simp[aJ],by intro y hy;simp only[qN,qL,or_false] at hy;rcases hy with rfl|rfl<;>trivial⟩
theorem Bj {b:BenchT} (g:GoodB h b):Pl (n+4) (bK b):=⟨by simp[aJ],by
 intro y hy;simp only[qN,qL,or_false] at hy;rcases hy with rfl|rfl
 .trivial
 .exact gu (by have:=g.len;omega) fun x _=>⟨by simp[aJ],by intro y hy;simp only[qN,qL,or_false] at hy;rcases hy with rfl|rfl<;>trivial⟩⟩
theorem A8 {bn:ac ai} {s:StepT} (g:GoodS bn h s):Pl (n+4) (bm s):=⟨by simp[aJ],by
 intro y hy;simp only[qN,qL,or_false] at hy;rcases hy with rfl|rfl|rfl
 .trivial
 .trivial
 .exact sM (by have:=g.l4;omega)⟩
theorem wQ {j:JobT} (hl:sn.length<=40) (g:GoodJ sn h j):Pl (n+3) (aX j):=⟨by simp[aJ],by
 intro y hy;simp only[qN,qL,or_false] at hy;rcases hy with rfl|rfl|rfl|rfl|rfl
 .trivial
 .trivial
 .trivial
 .trivial
 .exact JD (by have:=g.ln;omega)⟩
theorem My {u:SetT} :Pl (n+2) (cP u):=⟨by simp[aJ],by intro y hy;simp only[qN,qL,or_false] at hy;rcases hy with rfl|rfl|rfl|rfl<;>trivial⟩
theorem CV {u:LinkT} :Pl (n+2) (cS u):=⟨by simp[aJ],by intro y hy;simp only[qN,qL,or_false] at hy;rcases hy with rfl|rfl|rfl<;>trivial⟩
theorem OC {k:StockT} (hl:sn.length<=40) (g:GoodK sn k):Pl (n+4) (cX k):=⟨by simp[aJ],by
 intro y hy;simp only[qN,qL,or_false] at hy;rcases hy with rfl|rfl|rfl|rfl|rfl
 .trivial
 .trivial
 .trivial
 .exact sM (by have:=g.tk.ln;omega)
 .exact sM (by have:=g.pt.ln;omega)⟩
theorem CG {nm:α->ai} {f:α->D} :∀(xs:ac α),nA (xs.map fun x=>.tup [.str (nm x),f x])=aa (xs.map fun x=>(.inr (nm x),f x)):=by
 intro xs0
 induction xs0 with
 |nil=>
  exact rfl
 |cons x r ih=>
  simp only[qo,nA,f8,qc,ih,qf]
theorem Ck {t:α->ac ai} {f:α->D} :∀(xs:ac α),lI (xs.map fun x=>.tup [.tup ((t x).map D.str),f x])=aa (xs.map fun x=>((t x).map bX,f x)):=by
 intro xs0
 induction xs0 with
 |nil=>
  exact rfl
 |cons x r ih=>
  simp only[qo,lI,m6,qc,ih,qf]
theorem vz [dz κ] {ps:ac (κ×D)} (h:(ps.map (·.1)).Nodup):pJ ps=ps:=by
 have key:∀(l a:ac (κ×D)),((a++l).map (·.1)).Nodup->l.foldl (fun acc kv=>bQ acc kv.1 kv.2) a=a++l:=by
  intro l
  induction l with
  |nil=>intro a _;simp
  |cons x r ih=>
   intro a hn;have hx:(a.any fun kv=>decide (kv.1=x.1))=ar:=by rw[SI];intro y hy z;rw[dF,iJ] at hn;exact hn.2.2 y.1 (qX hy) x.1 (by simp) (jt z)
   rw[fL];have e:bQ a x.1 x.2=a++[x]:=by unfold bQ;rw[hx];rfl
   rw[e,ih (a++[x]) (by simpa using hn)];simp
 simpa[pJ] using key ps [] (by simpa using h)
theorem nL {β:Type}:∀{fs:ac (ai×β)} {i:ak} {k:ai} {d:β},(fs.map (·.1)).Nodup->fs[i]?=aa (k,d)->fs.lookup k=aa d
 |[],i,k,d,_,h=>by simp at h
 |(a,b)::r,0,k,d,_,h=>by
  simp only[qd,zF,UC] at h;obtain⟨rfl,rfl⟩:=h;simp[cK]
 |(a,b)::r,i+1,k,d,nd,h=>by
  rw[qe] at h;rw[qo,cU] at nd;have ne:k≠a:=by intro z;subst z;exact nd.1 (qX (f:=(·.1)) (qR h))
  have hb:(k==a)=ar:=by simpa using ne
  simp only[cK,hb];exact nL nd.2 h
theorem kh :∀{fs:ac (ai×β)} {k:ai},k∉fs.map (·.1)->fs.lookup k=af:=by
 intro xs0
 induction xs0 with
 |nil=>
  intro _ _;exact rfl
 |cons x0 r ih=>
  obtain⟨a,b⟩:=x0;intro k h;rw[qo,qN,rg] at h;have hb:(k==a)=ar:=by simpa using h.1
  simp only[cK,hb];exact ih h.2
def fO (j:JobT) (acc:ac (Key×D)) (m:ai):ac (Key×D):=bQ acc (.inr m) (aX j)
def jkv (js:ac JobT):ac (Key×D):=js.foldl (fun acc j=>j.ms.foldl (fO j) acc) []
theorem oE [dz κ] (kvs:ac (κ×D)) (k:κ) (v:D):(bQ kvs k v).length<=kvs.length+1:=by
 unfold bQ;split
 .rw[qg];omega
 .rw[qk];simp
theorem DY (j:JobT):∀(ms:ac ai) (acc:ac (Key×D)),(ms.foldl (fO j) acc).length<=acc.length+ms.length:=by
 intro xs0
 induction xs0 with
 |nil=>
  intro acc;simp
 |cons m r ih=>
  intro acc;rw[fL];have h1:=ih (fO j acc m);have h2:(fO j acc m).length<=acc.length+1:=oE _ _ _;rw[qj];omega
theorem AK {m:ak}:∀{js:ac JobT} (acc:ac (Key×D)),(∀j∈js,j.ms.length<=m)->(js.foldl (fun acc j=>j.ms.foldl (fO j) acc) acc).length<=acc.length+js.length*m
 |[],acc,_=>by simp
 |j::r,acc,h=>by rw[fL];have h1:=AK (js:=r) (j.ms.foldl (fO j) acc) fun y hy=>h y (qi _ hy);have h2:=DY j j.ms acc;have h3:=h j qh;rw[qj,oa];omega
def iz (bs:ac BenchT) (ss:ac StepT) (js:ac JobT) (us:ac SetT) (ls:ac LinkT) (ks:ac StockT) (h:aj):ac (ai×D):=
 [("benches",.lst (bs.map bK)),("steps",.lst (ss.map bm)),("jobs",.lst (js.map aX)),("setups",.lst (us.map cP)),("links",.lst (ls.map cS)),("stocks",.lst (ks.map cX)),("horizon",.int h),
 ("bench_by_name",.dk (bs.map fun b=>(.inr b.nm,bK b))),("step_by_name",.dk (ss.map fun s=>(.inr s.nm,bm s))),("setup_by_names",.dt (us.map fun u=>([u.b,u.p,u.q].map bX,.int u.n)))]
def nh (bs:ac BenchT) (ss:ac StepT) (js:ac JobT) (us:ac SetT) (ls:ac LinkT) (ks:ac StockT) (h:aj):ac (ai×D):=iz bs ss js us ls ks h++[(("job_by_step":ai),D.dk (jkv js))]
def bH (bs:ac BenchT) (ss:ac StepT) (js:ac JobT) (us:ac SetT) (ls:ac LinkT) (ks:ac StockT) (h:aj):D:=.ins "Shop" (nh bs ss js us ls ks h)
noncomputable def kH:ac ai:=["benches","steps","jobs","setups","links","stocks","horizon","bench_by_name","step_by_name","setup_by_names","job_by_step"]
theorem rZ:kH.Nodup:=by decide +kernel
theorem vt {l:ac α} (h:l.Nodup) (n:ak):(l.take n).Nodup:=rB (mH n l) h
section
variable {fs:ac (ai×D)} {f:ai} {fv:FE}
theorem i9 (n:ak) (hk:kH[n]?=aa f) (hf:fs.map (·.1)=kH.take n) (h:fv (aa (.obj "Shop" fs)::r)=aa d):aw (fS "Shop" f 0 fv) g (aa (.obj "Shop" fs)::r)=g (aa (.obj "Shop" (fs++[(f,d)]))::r):=by
 have hno:fs.lookup f=af:=kh (by
  rw[hf];intro z;obtain⟨i,hi⟩:=Gz z;have hin:i<n:=by
   rcases mM i n with q|q
   .exact q
   .rw[y9 (by rw[qF];omega)] at hi;cases hi
  rw[yM hin] at hi;have:=(List.getElem?_inj (fJ.mp hi).1 rZ).mp (hi.trans hk.symm);omega)
 have hlen:fs.length<100:=by have:=bO cI hf;rw[qg,qF] at this;have k:kH.length=11:=rfl;omega
 simp only[aw,fS,h,qc,qd,hno,hlen,zH,cq,mT]
theorem xX (n i:ak) (hf:fs.map (·.1)=kH.take n) (h:fs[i]?=aa (f,d)):iM "Shop" f 0 (aa (.obj "Shop" fs)::r)=aa d:=by have e:fs.lookup f=aa d:=nL (by rw[hf];exact vt rZ n) h;show(if aa ("Shop":ai)=aa ("Shop":ai) then fs.lookup f else af)=aa d;rw[qY rfl,e]
end
theorem AN {f:α->D} {nm:α->ai} {xs:ac α} (hf:∀x,∃r,f x=.tup (.str (nm x)::r)) (h1:fo ρ=aa (.lst (xs.map f))) (h2:xs.length<=1000) (nd:(xs.map nm).Nodup) :
  cF kR (ag (aS (ba (itF fo) (aA 0) tT (bo (szF (ag .(p) .(ac)))) [af])) ao) ρ=aa (.dk (xs.map fun x=>(.inr (nm x),f x))):=by
 have hc:=jF (fi:=itF fo) (fe:=bo (szF (ag .(p) .(ac)))) (fv:=[af]) (ρ:=ρ) (r:=[]) (a:=af) (xs:=xs.map f) (f:=fun d=>.tup [match d with|.tup (x::_)=>x|_=>.non,d]) (by unfold itF;rw[h1];rfl) (by rw[qg];exact szN h2 .(c)) rfl (fun x hx=>by obtain⟨y,_,rfl⟩:=bz.mp hx;obtain⟨r,e⟩:=hf y;simp only[ag,ao,vSh,vC,b2,bo,szF,dc,qd,qc,qf,cq,qj,qm,ly,sz2,e])
 have e:(xs.map f).map (fun d=>D.tup [match d with|.tup (x::_)=>x|_=>.non,d])=xs.map fun x=>.tup [.str (nm x),f x]:=by rw[qp];refine gj fun x _=>?_;obtain⟨r,e⟩:=hf x;simp[e]
 rw[e] at hc;have kn:((xs.map fun x=>((.inr (nm x):Key),f x)).map (·.1)).Nodup:=by rw[qp];have:=ve (S:=fun a b:Key=>a≠b) (bX:ai->Key) (fun a b hab z=>hab (g9 z)) nd;rw[qp] at this;exact this
 refine aO (ax hc aI) ?_;show(if _ then _ else _)=_;rw[qY (by rw[qg];exact h2),CG,qf,vz kn]
theorem NB (h1:fo ρ=aa (.lst (us.map cP))) (h2:us.length<=1000) (nd:(us.map fun u=>[u.b,u.p,u.q]).Nodup) :
  cF nF (ag (aS (ba (itF fo) (aA 0) tT (bo (szF (ag (slF (vSh 0) pN (pS .(M))) (ag (b2 ixD (vSh 0) .(M)) ao)))) [af])) ao) ρ=aa (.dt (us.map fun u=>([u.b,u.p,u.q].map bX,.int u.n))):=by
 have hc:=jF (fi:=itF fo) (fe:=bo (szF (ag (slF (vSh 0) pN (pS .(M))) (ag (b2 ixD (vSh 0) .(M)) ao)))) (fv:=[af]) (ρ:=ρ) (r:=[]) (a:=af) (xs:=us.map cP) (f:=fun d=>match d with|.tup [a,b,c,d]=>.tup [.tup [a,b,c],d]|_=>.non) (by unfold itF;rw[h1];rfl) (by rw[qg];exact szN h2 .(c)) rfl (fun x hx=>by obtain⟨y,_,rfl⟩:=bz.mp hx;simp only[ag,ao,vSh,vC,b2,bo,szF,slF,pN,pS,rS,qd,qc,qf,cq,qj,qm,ly,sz2,cP,B2])
 rw[qp] at hc;have kn:((us.map fun u=>([u.b,u.p,u.q].map (bX:ai->Key),D.int u.n)).map (·.1)).Nodup:=by rw[qp];have inj:∀a b:ac ai,a.map (bX:ai->Key)=b.map bX->a=b:=fun a b z=>(Gx (fun x y q=>g9 q)).mp z;have:=ve (S:=fun a b:ac Key=>a≠b) (List.map (bX:ai->Key)) (fun a b hab z=>hab (inj a b z)) nd;rw[qp] at this;exact this
 refine aO (ax hc aI) ?_;show(if _ then _ else _)=_;have e:=Ck (t:=fun u:SetT=>[u.b,u.p,u.q]) (f:=fun u=>.int u.n) us;rw[qY (by rw[qg];omega)];have e2:lI (us.map ((fun d=>match d with|.tup [a,b,c,d]=>D.tup [.tup [a,b,c],d]|_=>.non) ∘ cP))=aa (us.map fun u=>([u.b,u.p,u.q].map bX,.int u.n)):=e;rw[e2,qf,vz kn]
section
variable {bs:ac BenchT}
theorem wK:.(bg).map (·.1)=kH.take 10:=rfl
theorem Bg:(nh bs ss js us ls ks h).map (·.1)=kH:=rfl
abbrev r9 (bs:ac BenchT) (ss:ac StepT) (js:ac JobT) (us:ac SetT) (ls:ac LinkT) (ks:ac StockT) (h:aj) (a b:aq Slot):bA:=[oS .(av),oS .(V),oS .(aa),oS (.lst (us.map cP)),oS (.lst (ls.map cS)),oS (.lst (ks.map cX)),oS (.int h),oS .non,a,b]
noncomputable abbrev ob (bs:ac BenchT) (ss:ac StepT) (js:ac JobT) (us:ac SetT) (ls:ac LinkT) (ks:ac StockT) (h:aj) (kvs:ac (Key×D)):aq Slot:=aa (.objd "Shop" .(bg) "job_by_step" kvs)
theorem L1 {j:JobT} {kvs:ac (Key×D)} (hl:kvs.length<100000):iZ "Shop" "job_by_step" 0 (vSh 10) (vSh 9) (ob bs ss js us ls ks h kvs::r9 bs ss js us ls ks h (oS (aX j)) (oS (.str m)))=aa (.nx,ob bs ss js us ls ks h (fO j kvs m)::r9 bs ss js us ls ks h (oS (aX j)) (oS (.str m))):=by have hno:.(bg).lookup ("job_by_step":ai)=af:=kh (by rw[wK];decide +kernel);simp only[iZ,vSh,qd,qe,qc,f8,hno,hl,zH,cq,mT,fO]
theorem Ld {j:JobT} {acc:ac (Key×D)} {z:aq Slot} (hl:acc.length+j.ms.length<100000):∃z',bW (itF (b2 ixD (vSh 9) .(u))) (aA 10) (iZ "Shop" "job_by_step" 0 (vSh 10) (vSh 9)) (ob bs ss js us ls ks h acc::r9 bs ss js us ls ks h (oS (aX j)) z)=aa (.nx,ob bs ss js us ls ks h (j.ms.foldl (fO j) acc)::r9 bs ss js us ls ks h (oS (aX j)) z'):=by
 obtain⟨ρ',h1,z',h2⟩:=pj (gg:=aA 10) (body:=iZ "Shop" "job_by_step" 0 (vSh 10) (vSh 9)) (xs:=j.ms.map D.str) (ρ:=ob bs ss js us ls ks h acc::r9 bs ss js us ls ks h (oS (aX j)) z)
  (fun i ρ=>∃z,ρ=ob bs ss js us ls ks h ((j.ms.take i).foldl (fO j) acc)::r9 bs ss js us ls ks h (oS (aX j)) z) ⟨z,by simp⟩ (fun i x ρ hx hI=>by
   obtain⟨z,rfl⟩:=hI;rw[ql] at hx;obtain⟨m,hm,rfl⟩:=oMd hx;have tk:j.ms.take (i+1)=j.ms.take i++[m]:=by rw[zI,hm];rfl
   have hlen:=DY j (j.ms.take i) acc;rw[qF] at hlen;refine⟨_,_,rfl,L1 .(b),oS (.str m),?_⟩;rw[tk,zr];rfl)
 refine⟨z',?_⟩;have e:itF (b2 ixD (vSh 9) .(u)) (ob bs ss js us ls ks h acc::r9 bs ss js us ls ks h (oS (aX j)) z)=aa (j.ms.map D.str):=by simp only[vSh,vC,b2,itF,kT,mi,qd,qe,qc,aX]
 unfold bW;rw[e,qc,h1,h2,qg,iH]
theorem Nu (hj:js.length<=40) (hm:∀j∈js,j.ms.length<=40):∃z z',dD (aA 9) X6 (js.map aX) (ob bs ss js us ls ks h []::r9 bs ss js us ls ks h af af)=aa (.nx,ob bs ss js us ls ks h (jkv js)::r9 bs ss js us ls ks h z z'):=by
 obtain⟨ρ',h1,z,z',h2⟩:=pj (gg:=aA 9) (body:=bW (itF (b2 ixD (vSh 9) .(u))) (aA 10) (iZ "Shop" "job_by_step" 0 (vSh 10) (vSh 9))) (xs:=js.map aX) (ρ:=ob bs ss js us ls ks h []::r9 bs ss js us ls ks h af af)
  (fun i ρ=>∃z z',ρ=ob bs ss js us ls ks h (jkv (js.take i))::r9 bs ss js us ls ks h z z') ⟨af,af,by simp[jkv]⟩ (fun i x ρ hx hI=>by
   obtain⟨z,z',rfl⟩:=hI;rw[ql] at hx;obtain⟨j,hjm,rfl⟩:=oMd hx;have tk:js.take (i+1)=js.take i++[j]:=by rw[zI,hjm];rfl
   have hlen:=AK (m:=40) (js:=js.take i) [] fun y hy=>hm y (p9 hy);rw[qF,qm] at hlen;have h4:=hm j (qR hjm);obtain⟨w,hw⟩:=Ld (bs:=bs) (ss:=ss) (js:=js) (us:=us) (ls:=ls) (ks:=ks) (h:=h) (j:=j) (acc:=jkv (js.take i)) (z:=z') (by unfold jkv;omega);refine⟨_,_,rfl,hw,oS (aX j),w,?_⟩;rw[tk];unfold jkv;rw[zr];rfl)
 refine⟨z,z',?_⟩;rw[h1,h2,qg,iH]
theorem Qc (g:Good bs ss js us ls ks h) (ml:(js.flatMap (·.ms)).length<=300):yC [.lst (bs.map bK),.lst (ss.map bm),.lst (js.map aX),.lst (us.map cP),.lst (ls.map cS),.lst (ks.map cX),.int h]=aa .(k):=by
 have hl:(ss.map (·.nm)).length<=40:=by rw[qg];exact g.sl.2
 have f1:=gL (d:=.lst (bs.map bK)) (gu (by have:=g.bl.2;omega) fun x hx=>Bj (g.b x hx));have f2:=gL (d:=.lst (ss.map bm)) (gu (by have:=g.sl.2;omega) fun x hx=>A8 (g.s x hx));have f3:=gL (d:=.lst (js.map aX)) (gu (by have:=g.jl;omega) fun x hx=>wQ hl (g.j x hx));have f4:=gL (d:=.lst (us.map cP)) (gu (by have:=g.ul;omega) fun x hx=>My);have f5:=gL (d:=.lst (ls.map cS)) (gu (by have:=g.ll;omega) fun x hx=>CV);have f6:=gL (d:=.lst (ks.map cX)) (gu (by have:=g.kl;omega) fun x hx=>OC hl (g.k x hx));obtain⟨z,z',ho⟩:=Nu (bs:=bs) (ss:=ss) (us:=us) (ls:=ls) (ks:=ks) (h:=h) g.jl fun j hj=>qO (g.j j hj).ln hl;have key:∀(G:FS) (ρ':bA),G (aa (.obj "Shop" [])::[oS .(av),oS .(V),oS .(aa),oS (.lst (us.map cP)),oS (.lst (ls.map cS)),oS (.lst (ks.map cX)),oS (.int h),af,af,af])=aa (.nx,ob bs ss js us ls ks h (jkv js)::ρ')->
   mV 3 "Shop" G [.lst (bs.map bK),.lst (ss.map bm),.lst (js.map aX),.lst (us.map cP),.lst (ls.map cS),.lst (ks.map cX),.int h]=aa .(k):=fun G ρ' e=>by
  unfold mV;show(G (aa (.obj "Shop" [])::[oS .(av),oS .(V),oS .(aa),oS (.lst (us.map cP)),oS (.lst (ls.map cS)),oS (.lst (ks.map cX)),oS (.int h),af,af,af])).bind _=_;rw[e];rfl
 refine key _ (r9 bs ss js us ls ks h z z') ((nz (aO rfl (Jo g ml))).trans ?_);show aw _ _ (aa (.obj "Shop" [])::r9 bs ss js us ls ks h af af)=_;refine(jf (bN (b:=ar) rfl)).trans ?_;refine(i9 0 rfl rfl (aO rfl f1)).trans ?_;refine(i9 1 rfl rfl (aO rfl f2)).trans ?_;refine(i9 2 rfl rfl (aO rfl f3)).trans ?_;refine(i9 3 rfl rfl (aO rfl f4)).trans ?_;refine(i9 4 rfl rfl (aO rfl f5)).trans ?_;refine(i9 5 rfl rfl (aO rfl f6)).trans ?_;refine(i9 6 rfl rfl (d:=.int h) rfl).trans ?_;refine(i9 7 rfl rfl (AN (f:=bK) (nm:=(·.nm)) (xs:=bs) .(aS) (xX 7 0 rfl rfl) (by have:=g.bl.2;omega) g.bn)).trans ?_;refine(i9 8 rfl rfl (AN (f:=bm) (nm:=(·.nm)) (xs:=ss) .(aS) (xX 8 1 rfl rfl) (by have:=g.sl.2;omega) g.sn)).trans ?_;refine(i9 9 rfl rfl (NB (us:=us) (xX 9 3 rfl rfl) (by have:=g.ul;omega) g.un)).trans ?_;have hno:.(bg).lookup ("job_by_step":ai)=af:=kh (by rw[wK];decide +kernel);have hle:.(bg).length<100:=by simp[iz]
 have e1:nB "Shop" "job_by_step" 0 (aa (.obj "Shop" .(bg))::r9 bs ss js us ls ks h af af)=aa (.nx,ob bs ss js us ls ks h []::r9 bs ss js us ls ks h af af):=by simp only[nB,qd,hno,hle,zH,cq,mT]
 have e2:itF (iM "Shop" "jobs" 0) (ob bs ss js us ls ks h []::r9 bs ss js us ls ks h af af)=aa (js.map aX):=by
  have lk:.(bg).lookup ("jobs":ai)=aa .(aa):=nL (i:=2) (by rw[wK];exact vt rZ 10) rfl;have n1:("jobs":ai)≠"job_by_step":=by decide +kernel
  have e:iM "Shop" "jobs" 0 (ob bs ss js us ls ks h []::r9 bs ss js us ls ks h af af)=aa .(aa):=by show(if aa ("Shop":ai)=aa ("Shop":ai) then (if ("jobs":ai)="job_by_step" then af else .(bg).lookup ("jobs":ai)) else af)=_;rw[qY rfl,qZ n1,lk]
  unfold itF;rw[e];rfl
 show aw (nB "Shop" "job_by_step" 0) (bW (itF (iM "Shop" "jobs" 0)) (aA 9) X6) (aa (.obj "Shop" .(bg))::r9 bs ss js us ls ks h af af)=_;unfold aw;rw[e1,qc];show bW _ _ _ _=_;unfold bW;rw[e2,qc];exact ho
end
noncomputable def Wp (o:aq α) (P:α->Prop):Prop:=∃a,o=aa a/\P a
section
variable {o:aq α} {P Q:α->Prop}
theorem Wp.imp (h:Wp o P) (k:∀a,P a->Q a):Wp o Q:=let ⟨a,e,p⟩:=h;⟨a,e,k a p⟩
theorem dA {f:α->aq β} {P:β->Prop} (h:Wp o fun a=>Wp (f a) P):Wp (o.bind f) P:=by obtain⟨a,rfl,b,e,p⟩:=h;exact⟨b,e,p⟩
theorem m5 {f:α->β} {P:β->Prop} (h:Wp o fun a=>P (f a)):Wp (o.map f) P:=by obtain⟨a,rfl,p⟩:=h;exact⟨_,rfl,p⟩
theorem aK {a:α} (e:o=aa a) (p:P a):Wp o P:=⟨a,e,p⟩
theorem w_2 {G:D->D->aq D} {P:D->Prop} (h:Wp (fa ρ) fun x=>Wp (fb ρ) fun y=>Wp (G x y) P):Wp (b2 G fa fb ρ) P:=dA (h.imp fun _ k=>dA k)
theorem w_1 {G:D->aq D} {P:D->Prop} (h:Wp (fa ρ) fun x=>Wp (G x) P):Wp (b1 G fa ρ) P:=dA h
theorem w_c {P:D->Prop} (p:P d):Wp (vC d ρ) P:=⟨d,rfl,p⟩
theorem bj {P:D->Prop} (h:ρ[i]?=aa (oS d)) (p:P d):Wp (vSh i ρ) P:=⟨d,by unfold vSh;rw[h],p⟩
theorem bc {P:ac D->Prop} (h:Wp (fa ρ) fun x=>Wp (fr ρ) fun l=>P (x::l)):Wp (ag fa fr ρ) P:=dA (h.imp fun _ k=>m5 k)
theorem cb {P:ac D->Prop} (p:P []):Wp (ao ρ) P:=⟨_,rfl,p⟩
theorem CM {P:ac D->Prop} (h:Wp (fr ρ) fun l=>l.length<=1000/\P l):Wp (szF fr ρ) P:=dA (h.imp fun l k=>⟨l,qY (by unfold aJ;omega),k.2⟩)
theorem jL {P:D->Prop} (h:Wp (fr ρ) fun l=>l.length<=1000/\P (.tup l)):Wp (bo (szF fr) ρ) P:=m5 (CM h)
theorem wX {P:D->Prop} (h:Wp (fr ρ) fun l=>l.length<=1000/\P (.lst l)):Wp (aS (szF fr) ρ) P:=m5 (CM h)
theorem gA {F:FQ} {P:D->Prop} (h:Wp (fr ρ) fun l=>Wp (F l) P):Wp (cF F fr ρ) P:=dA h
theorem fA {a b:aj} {P:D->Prop} (p:P (.int (a+b))):Wp (aW (.int a) (.int b)) P:=⟨_,rfl,p⟩
theorem l5 {a b:aj} {P:D->Prop} (h:0<b) (p:∀n,0<=n->n<b->n=a%b->P (.int n)):Wp (er (.int a) (.int b)) P:=⟨_,qY h,p _ (Tz _ .(b)) (TC _ h) rfl⟩
theorem uA {a b:aj} {P:D->Prop} (h:0<b/\b<1073741824) (p:P (.int (a / b))):Wp (jN (.int a) (.int b)) P:=⟨_,qY h,p⟩
theorem iT {P:aN->Prop} (h:Wp (f ρ) fun d=>∃b,d=.bl b/\P b):Wp (toB f ρ) P:=dA (h.imp fun d ⟨b,e,p⟩=>by subst e;exact⟨b,rfl,p⟩)
theorem Qp {a b:aj} {P:D->Prop} (p:P (.bl (decide (a<=b)))):Wp (leD (.int a) (.int b)) P:=⟨_,rfl,p⟩
theorem N9 {a b:aj} {P:D->Prop} (p:P (.bl (decide (a<b)))):Wp (ltD (.int a) (.int b)) P:=⟨_,rfl,p⟩
theorem LU {a b:aj} {P:D->Prop} (p:P (.bl (decide (b<a)))):Wp (gtD (.int a) (.int b)) P:=⟨_,rfl,p⟩
theorem Rj {a b:aj} {P:D->Prop} (p:P (.bl (decide (b<=a)))):Wp (geD (.int a) (.int b)) P:=⟨_,rfl,p⟩
theorem sj {a b:aj} {P:D->Prop} (p:∀c:aN,(c=ah↔a=b)->P (.bl c)):Wp (eqD (.int a) (.int b)) P:=⟨_,rfl,p _ (by simp)⟩
theorem JN {P:aN->Prop} (h:Wp (ft ρ) fun b=>if b=ah then Wp (gt ρ) P else P ar):Wp (lD ft gt ρ) P:=dA (h.imp fun b k=>by
 cases b with
 |true=>exact k
 |false=>exact⟨_,rfl,k⟩)
theorem cL (h:Wp (g ρ) fun r=>r.1=.nx/\Wp (g' r.2) R):Wp (aw g g' ρ) R:=dA (h.imp fun⟨fl,ρ'⟩ ⟨e,k⟩=>by have e:fl=.nx:=e;subst e;exact k)
theorem lR (h:Wp (f ρ) fun d=>R (.nx,ρ.set j (oS d))):Wp (aR j f ρ) R:=m5 h
theorem bB (h:Wp (f ρ) fun d=>Wp (g (ρ.set j (oS d))) R):Wp (aw (aR j f) g ρ) R:=cL (lR (h.imp fun _ k=>⟨rfl,k⟩))
theorem Kj (h:Wp (fr ρ) fun d=>R (.nx,ρ.set j (aa (.own d)))):Wp (eQ j fr ρ) R:=m5 h
theorem IH (h:Wp (fr ρ) fun d=>Wp (g (ρ.set j (aa (.own d)))) R):Wp (aw (eQ j fr) g ρ) R:=cL (Kj (h.imp fun _ k=>⟨rfl,k⟩))
theorem nM (h:Wp (g (ρ.set j (aa (.own [])))) R):Wp (aw (eQ j (szF ao)) g ρ) R:=IH ⟨[],rfl,h⟩
theorem Dn (hs:ρ[j]?=aa (aa (.own ds))) (hl:ds.length<=1000) (h:Wp (f ρ) fun d=>R (.nx,ρ.set j (aa (.own (ds++[d]))))):Wp (gb j f ρ) R:=by unfold gb;rw[hs];exact dA (h.imp fun d k=>⟨_,qY (by unfold aJ;omega),k⟩)
theorem nu (hs:ρ[j]?=aa (aa (.own ds))) (h:Wp (g (ρ.set j (oS (.lst ds)))) R):Wp (ff j g ρ) R:=by unfold ff;rw[hs];exact h
theorem eR (h:Wp (f ρ) fun d=>R (.rt d,ρ)):Wp (aG f ρ) R:=m5 h
theorem fX (h:R (.nx,ρ)):Wp (aY ρ) R:=⟨_,rfl,h⟩
theorem fg (I:ak->bA->Prop) (h:Wp (fi ρ) fun xs=>I 0 ρ/\(∀i x ρ,xs[i]?=aa x->I i ρ->Wp (gg x ρ) fun ρ1=>Wp (g ρ1) fun r=>r.1=.nx/\I (i+1) r.2)/\∀ρ,I xs.length ρ->R (.nx,ρ)):Wp (bW fi gg g ρ) R:=dA (h.imp fun xs ⟨h0,hs,he⟩=>by
 have key:∀(n i:ak) (ρ:bA),i+n=xs.length->I i ρ->Wp (dD gg g (xs.drop i) ρ) fun r=>r.1=.nx/\I xs.length r.2:=by
  intro n
  induction n with
  |zero=>
   intro i ρ hi hI;have e:i=xs.length:=by omega
   subst e;rw[uV];exact⟨_,rfl,rfl,hI⟩
  |succ n ih=>
   intro i ρ hi hI;have hlt:i<xs.length:=by omega
   rw[zg hlt];unfold dD;refine dA ((hs i xs[i] ρ (by simp[hlt]) hI).imp fun ρ1 k=>dA (k.imp fun⟨fl,ρ2⟩ ⟨e,hI2⟩=>?_));have e:fl=.nx:=e;subst e;exact ih (i+1) ρ2 .(b) hI2
 have:=key xs.length 0 ρ .(b) h0;rw[p5] at this;exact this.imp fun⟨fl,ρ'⟩ ⟨e,k⟩=>by have e:fl=.nx:=e;subst e;exact he ρ' k)
theorem dL {P:D->Prop} (h:Wp (g (ds.map .(N)++bJ n af)) fun r=>∃d,r.1=.rt d/\P d):Wp (aP n g ds) P:=dA (h.imp fun⟨fl,ρ'⟩ ⟨d,e,p⟩=>by have e:fl=.rt d:=e;subst e;exact⟨d,rfl,p⟩)
theorem iw {P:ac D->Prop} (h:Wp (fr ρ) fun l=>∃n:aj,l=[.int n]/\0<=n/\n<=1000/\P ((ck n.toNat).map fun i:ak=>D.int (0+i))):Wp (itR dM fr ρ) P:=by unfold itR;exact dA (h.imp fun l ⟨n,e,h0,h1,k⟩=>⟨_,by rw[e];exact vW ⟨h0,by omega⟩,k⟩)
theorem iC {x:D} (h:((ck n).map fun i:ak=>D.int (0+(i:aj)))[i]?=aa x):i<n/\x=.int i:=by rw[ql] at h;obtain⟨k,hk,rfl⟩:=oMd h;obtain⟨hlt,e⟩:=fJ.mp hk;rw[List.getElem_range] at e;rw[qW] at hlt;subst e;exact⟨hlt,by rw[zJ]⟩
end
theorem uv (h:Wp (ft ρ) fun b=>if b=ah then Wp (f ρ) fun d=>R (.rt d,ρ) else Wp (g' ρ) R):Wp (aw (sIf ft (aG f) aY) g' ρ) R:=by
 obtain⟨b,e,k⟩:=h;unfold aw sIf;rw[e];cases b with
 |true=>
  obtain⟨d,e2,k⟩:=k;refine⟨(.rt d,ρ),?_,k⟩;show((aG f ρ).bind _)=_;unfold aG;rw[e2];rfl
 |false=>exact k
theorem lB {a b:aj} {P:D->Prop} (h:(-(2 ^ 64)<a/\a<2 ^ 64)\/(-(2 ^ 64)<b/\b<2 ^ 64)) (p:P (.int (a*b))):Wp (cR (.int a) (.int b)) P:=⟨_,qY h,p⟩
theorem Iv {ns:ac aj} {P:D->Prop} (p:P (.int ns.length)):Wp (b9 [.scr ns]) P:=⟨_,rfl,p⟩
theorem kB:(2:aj) ^ 64=18446744073709551616:=by decide +kernel
theorem Lj {ns:ac aj} {n:aj} {P:D->Prop} (h0:0<=n) (h1:n<ns.length) (p:∀m,P (.int m)):Wp (ixD (.scr ns) (.int n)) P:=by
 obtain⟨k,rfl⟩:=ox h0;refine⟨.int (ns.getD k 0),?_,p _⟩;show(atI ns (k:aj)).map D.int=_;rw[iP];have:k<ns.length:=by omega
 simp[ze,this]
theorem zW {a:aj} {P:D->Prop} (h:n<=1000000) (h2:a.natAbs<2 ^ 64) (p:P (.int (a ^ n))):Wp (jW (.int a) (.int n)) P:=⟨_,by show(if 0<=(n:aj)/\(n:aj)<=1000000/\a.natAbs<2 ^ 64 then aa (D.int (a ^ (n:aj).toNat)) else af)=_;rw[qY ⟨by omega,by omega,h2⟩,ig],p⟩
theorem eP (h:Wp (ft ρ) fun b=>(b=ah->Wp (g ρ) R)/\(b=ar->Wp (g' ρ) R)):Wp (sIf ft g g' ρ) R:=dA (h.imp fun b k=>by
 cases b with
 |true=>exact k.1 rfl
 |false=>exact k.2 rfl)
theorem Ff {m:α->D} {xs:ac α} (x:α) (hs:ρ[j]?=aa (aa (.own (xs.map m)))) (hl:xs.length<=1000) (h:Wp (f ρ) fun d=>d=m x/\R (.nx,ρ.set j (aa (.own ((xs++[x]).map m))))):Wp (gb j f ρ) R:=
 Dn hs (by rw[qg];exact hl) (h.imp fun d ⟨e,k⟩=>by subst e;rw[dF] at k;exact k)
structure GoodI (h f:aj) (br:ac (aj×aj)):Prop where
 iv:∀p∈br,0<=p.1/\p.1<p.2/\p.2<=h/\p.2<f
 gap:∀(i:ak) p q,br[i]?=aa p->br[i+1]?=aa q->p.2<q.1
theorem GoodI.snoc {f b e:aj} (g:GoodI h f br) (h0:0<=f) (h1:f<=b) (h2:b<e) (h3:e<=h):GoodI h (e+1) (br++[(b,e)]):=by
 refine⟨fun p hp=>?_,fun i p q hp hq=>?_⟩
 .rcases cT.mp hp with hp|hp
  .have:=g.iv p hp;exact⟨this.1,this.2.1,this.2.2.1,by omega⟩
  .rw[bD.mp hp];exact⟨by show 0<=b;omega,h2,h3,by show e<e+1;omega⟩
 .by_cases hi:i+1<br.length
  .rw[qA .(b)] at hp;rw[qA hi] at hq;exact g.gap i p q hp hq
  .by_cases hi2:i+1=br.length
   .rw[qA .(b)] at hp;rw[qM .(b),show i+1-br.length=0 by omega] at hq;cases hq;have:=(g.iv p (qR hp)).2.2.2;show p.2<b;omega
   .rw[y9 (by simp;omega)] at hq;cases hq
noncomputable def bnm (bs:ac BenchT) (i:ak):ai:=(bs.map (·.nm)).getD i ⟨#[]⟩
theorem Nk {bs:ac BenchT} (h:i<bs.length):bnm bs i∈bs.map (·.nm):=by unfold bnm;rw[oo,ql,qE h];exact qX (oj h)
theorem Ce {m:α->D} {nm:α->ai} (hm:∀x,∃r,m x=.tup (.str (nm x)::r)) {xs:ac α} {g:FE} {P:D->Prop} (hf:f ρ=aa (.lst (xs.map m))) (hg:Wp (g ρ) fun d=>∃n:aj,d=.int n/\0<=n/\n<xs.length/\P (.str ((xs.map nm).getD n.toNat ⟨#[]⟩))):Wp (b2 ixD (b2 ixD f g) .(f) ρ) P:=by
 obtain⟨_,e0,n,rfl,h0,h1,p⟩:=hg;obtain⟨k,rfl⟩:=ox h0;have hk:k<xs.length:=by omega
 obtain⟨r,e⟩:=hm xs[k];refine⟨.str (nm xs[k]),?_,?_⟩
 .unfold b2;rw[hf,e0];show(((ixD (.lst (xs.map m)) (.int (k:aj))).bind fun x=>(vC (.int 0) ρ).bind fun y=>ixD x y))=_;rw[ixL,ql,qE hk];show ixD (m xs[k]) (.int 0)=_;rw[e];exact dc
 .rw[ig,oo,ql,qE hk] at p;exact p
theorem Ky {bs:ac BenchT} {g:FE} {P:D->Prop} (hf:f ρ=aa .(av)) (hg:Wp (g ρ) fun d=>∃n:aj,d=.int n/\0<=n/\n<bs.length/\P (.str (bnm bs n.toNat))):Wp (b2 ixD (b2 ixD f g) .(f) ρ) P:=Ce (m:=bK) (nm:=fun b=>b.nm) (fun x=>⟨[.lst (x.br.map dIv)],rfl⟩) hf hg
theorem wL {l:ac α} {x:α} (f:α->β) (h:l[i]?=aa x):(l.take (i+1)).map f=(l.take i).map f++[f x]:=by rw[lw,h,dF];rfl
noncomputable def snm (ss:ac StepT) (i:ak):ai:=(ss.map (·.nm)).getD i ⟨#[]⟩
theorem wy {g:FE} {P:D->Prop} (hf:f ρ=aa .(V)) (hg:Wp (g ρ) fun d=>∃n:aj,d=.int n/\0<=n/\n<ss.length/\P (.str (snm ss n.toNat))):Wp (b2 ixD (b2 ixD f g) .(f) ρ) P:=Ce (m:=bm) (nm:=fun b=>b.nm) .(aS) hf hg
theorem IU:∀(ns:ac ai),j8 (ns.map ou)=0:=by
 intro xs0
 induction xs0 with
 |nil=>
  simp[j8]
 |cons x r ih=>
  simp[j8,kc,ih]
theorem Nh (h:∀x∈ns,bf x=ah):eY (.list (ns.map ou))=ah:=by simp[eY,jw,Az h,kc,IU]
theorem Oz (h:∀x∈ns,bf x=ah):neA (.lst (ns.map D.str)) (.lst [])=aa (.bl (!ns.isEmpty)):=by
 have e0:neA (.lst (ns.map D.str)) (.lst [])=jc (.lst (ns.map D.str)) (.lst []):=rfl;have s1:=Nh h;have s2:eY (.list [])=ah:=by simp[eY,jw,j7,kc,j8]
 have p1:pdD (.lst (ns.map D.str))=aa (.list (ns.map ou)):=by simp[pdD,AF]
 have p2:pdD (.lst [])=aa (.list []):=by simp[pdD,eZ]
 have q:gf (.list (ns.map ou)) (.list [])=ns.isEmpty:=by cases ns<;>simp[gf,vf]
 rw[e0];unfold jc eqX;rw[p1,p2,qc,qc,qY ⟨s1,s2⟩,q];rfl
theorem D2 (h:i<ss.length):snm ss i∈ss.map (·.nm):=by unfold snm;rw[oo,ql,qE h];exact qX (oj h)
theorem mr {l:ac D} {n:aj} {P:D->Prop} (h0:0<=n) (h1:n<l.length) (p:∀d∈l,P d):Wp (ixD (.lst l) (.int n)) P:=by
 obtain⟨k,rfl⟩:=ox h0;have hk:k<l.length:=by omega
 exact⟨l[k],by rw[ixL,qE hk],p _ (oj hk)⟩
theorem oY {a b:D} {P:D->Prop} (h1:P a) (h2:P b):∀d∈[a,b],P d:=by
 intro d hd;simp only[qN,qL,or_false] at hd;rcases hd with rfl|rfl
 .exact h1
 .exact h2
theorem IF {a b c:D} {P:D->Prop} (h1:P a) (h2:P b) (h3:P c):∀d∈[a,b,c],P d:=by
 intro d hd;simp only[qN,qL,or_false] at hd;rcases hd with rfl|rfl|rfl
 .exact h1
 .exact h2
 .exact h3
theorem tu {m:α->D} {xs:ac α} (hs:ρ[j]?=aa (aa (.own (xs.map m)))) (hl:xs.length<=1000) (h:Wp (f ρ) fun d=>∃x,d=m x/\R (.nx,ρ.set j (aa (.own ((xs++[x]).map m))))):Wp (gb j f ρ) R:=
 Dn hs (by rw[qg];exact hl) (h.imp fun d ⟨x,e,k⟩=>by subst e;rw[dF] at k;exact k)
theorem AE (Q:bA->Prop) (h2:∀ρ,Q ρ->Wp (g' ρ) R) (h:Wp (g ρ) fun r=>(r.1=.nx/\Q r.2)\/(∃d,r.1=.rt d)/\R r):Wp (aw g g' ρ) R:=by
 obtain⟨⟨fl,ρ'⟩,e,k⟩:=h;unfold aw;rw[e];rcases k with⟨e2,k⟩|⟨⟨d,e2⟩,k⟩
 .have e2:fl=.nx:=e2;subst e2;exact h2 _ k
 .have e2:fl=.rt d:=e2;subst e2;exact⟨_,rfl,k⟩
theorem p18 {P:D->Prop} (p:P (.int (10 ^ 18))):Wp (b2 jW (vC (.int 10)) (vC (.int 18)) ρ) P:=w_2 (w_c (w_c (zW (n:=18) .(c) .(c) p)))
theorem p7 {P:D->Prop} (p:P (.int 10000000)):Wp (b2 jW (vC (.int 10)) (vC (.int 7)) ρ) P:=w_2 (w_c (w_c (zW (n:=7) .(c) .(c) p)))
abbrev drE (c k m:aj) (a b e:aq Slot):bA:=[oS (.int c),oS (.int k),oS (.int m),a,b,e]
theorem MX (c:aj) {k m:aj} (h0:0<=k) (h1:k<=1000) (hm:0<m):Wp (bq [.int c,.int k,.int m]) fun d=>∃n,d=.int n/\0<=n/\n<m:=by
 unfold bq;refine dL (AE (fun ρ=>∃a b,ρ=drE c k m a b af) ?_ ?_)
 .rintro _ ⟨a,b,rfl⟩;refine bB (w_2 (w_2 (w_2 (w_2 (w_2 (w_2 (bj rfl (w_c (l5 .(c) fun r _ _ _=>w_2 (w_2 (w_c (bj rfl (lB (.inl (by rw[kB];omega)) (bj rfl (lB (.inr (by rw[kB];omega)) (fA (w_2 (w_c (bj rfl (lB (.inl (by rw[kB];omega)) (fA (w_c (fA (w_c (lB (.inr (by rw[kB];omega)) (w_c (l5 .(c) fun x x0 x1 _=>?_)))))))))))))))))))))))))));refine bB (w_2 (w_2 (w_2 (w_2 (bj rfl (bj rfl (lB (.inl (by rw[kB];omega)) (w_2 (w_c (bj rfl (lB (.inl (by rw[kB];omega)) (fA (w_c (fA (w_c (l5 .(c) fun y y0 y1 _=>?_))))))))))))))));exact eR (w_2 (w_2 (w_2 (bj rfl (bj rfl (lB (.inl (by rw[kB];omega)) (w_c (l5 .(c) fun z _ _ _=>bj rfl (l5 hm fun n n0 n1 _=>⟨_,rfl,n,rfl,n0,n1⟩)))))))))
 .refine eP (iT (w_2 (bj rfl (p18 (Rj ⟨_,rfl,fun _=>?_,fun _=>?_⟩)))))
  .refine bB (bj rfl (cL (fg (fun _ ρ=>∃x b,ρ=drE c k m (oS (.int x)) b af) (iw (bc (bj rfl (cb ⟨k,rfl,h0,h1,⟨c,af,rfl⟩,?_,?_⟩)))))))
   .rintro i x ρ hx ⟨x,b,rfl⟩;obtain⟨_,rfl⟩:=iC hx;exact aK rfl (lR (w_2 (bj rfl (p7 (uA .(c) ⟨rfl,_,_,rfl⟩)))))
   .rintro ρ ⟨x,b,rfl⟩;refine⟨rfl,eP (iT (w_2 (bj rfl (w_c (LU ⟨_,rfl,fun _=>?_,fun _=>?_⟩))))) ⟩
    .exact eR (w_2 (w_2 (bj rfl (p7 (l5 .(c) fun z _ _ _=>bj rfl (l5 hm fun n n0 n1 _=>.inr ⟨⟨_,rfl⟩,_,rfl,n,rfl,n0,n1⟩))))))
    .exact fX (.inl ⟨rfl,_,_,rfl⟩)
  .exact fX (.inl ⟨rfl,_,_,rfl⟩)
def drw (c k m:aj):aj:=match bq [.int c,.int k,.int m] with
 |some (.int n)=>n
 |_=>0
theorem dG (c:aj) {k m:aj} (h0:0<=k) (h1:k<=1000) (hm:0<m):bq [.int c,.int k,.int m]=aa (.int (drw c k m))/\0<=drw c k m/\drw c k m<m:=by obtain⟨_,e,n,rfl,h⟩:=MX c h0 h1 hm;unfold drw;rw[e];exact⟨rfl,h⟩
theorem gZ {a b:aj} (h : -(2 ^ 64)<a/\a<2 ^ 64:=by decide):cR (.int a) (.int b)=aa (.int (a*b)):=qY (.inl h)
theorem NQ {a b:aj} (h : -(2 ^ 64)<b/\b<2 ^ 64:=by decide):cR (.int a) (.int b)=aa (.int (a*b)):=qY (.inr h)
theorem cx {c k m:aj} {P:D->Prop} (ha:fa ρ=aa (.int c)) (eb:fb ρ=aa (.int k)) (ec:fc ρ=aa (.int m)) (h0:0<=k) (h1:k<=1000) (hm:0<m) (p:0<=drw c k m->drw c k m<m->P (.int (drw c k m))):Wp (cF bq (ag fa (ag fb (ag fc ao))) ρ) P:=by obtain⟨e,q0,q1⟩:=dG c h0 h1 hm;exact gA (bc (aK ha (bc (aK eb (bc (aK ec (cb (aK e (p q0 q1)))))))))
theorem BP (ns:ac aj) (k:ak):Wp (gX [.scr ns,.int k]) fun d=>∃n,d=.int n:=by
 unfold gX;refine dL (uv (iT (w_2 (bj rfl (gA (bc (bj rfl (cb (Iv (N9 ⟨_,rfl,?_⟩))))))))));by_cases hk:(k:aj)<ns.length
 .rw[qY (qU hk)];exact w_2 (bj rfl (bj rfl (Lj .(b) hk fun m=>⟨_,rfl,m,rfl⟩)))
 .rw[qZ (by rw[qP hk];exact qt)];exact eR (w_c ⟨_,rfl,_,rfl⟩)
theorem lP {ns:ac aj} {k:ak} {P:D->Prop} (hf:f ρ=aa (.scr ns)) (p:∀n,P (.int n)):Wp (cF gX (ag f (ag (vC (.int k)) ao)) ρ) P:=
 gA (bc (aK hf (bc (w_c (cb ((BP ns k).imp fun d ⟨n,e⟩=>by subst e;exact p n))))))
theorem yi {a b:aj} :(if b<a then b else a)<=a/\(if b<a then b else a)<=b/\((if b<a then b else a)=a\/(if b<a then b else a)=b):=by split<;>omega
theorem Lr (c:aj) {k m:aj} (h0:0<=k) (h1:k<=900) (hm:0<=m):Wp (kO [.int c,.int k,.int m]) fun d=>∃n,d=.int n/\0<=n/\n<=m:=by
 unfold kO;refine dL (uv (iT (w_2 (cx (k:=k) (m:=4) rfl rfl rfl h0 .(b) .(c) fun _ _=>w_c (sj fun b _=>⟨b,rfl,?_⟩)))));cases b with
 |true=>exact cx (k:=k+1) (m:=m+1) rfl rfl rfl .(b) .(b) .(b) fun q0 q1=>⟨_,rfl,_,rfl,q0,by omega⟩
 |false=>
  have e:=yi (a:=m) (b:=12);exact eR (cx (k:=k+1) (m:=(if 12<m then 12 else m)+1) rfl rfl rfl .(b) .(b) .(b) fun q0 q1=>⟨_,rfl,_,rfl,q0,by omega⟩)
theorem ya {c k m:aj} {P:D->Prop} (ha:fa ρ=aa (.int c)) (eb:fb ρ=aa (.int k)) (ec:fc ρ=aa (.int m)) (h0:0<=k) (h1:k<=900) (hm:0<=m) (p:∀n,0<=n->n<=m->P (.int n)):Wp (cF kO (ag fa (ag fb (ag fc ao))) ρ) P:=by exact gA (bc (aK ha (bc (aK eb (bc (aK ec (cb ((Lr c h0 h1 hm).imp fun d ⟨n,e,q0,q1⟩=>by subst e;exact p n q0 q1))))))))
theorem Rm (ns:ac aj):Wp (sI [.scr ns]) fun d=>∃h,d=.int h/\1<=h/\h<=1000000:=by unfold sI;refine dL (bB (lP (k:=0) rfl fun c=>eR (w_2 (wX (bc (w_2 (w_c (cx (k:=80) (m:=21) rfl rfl rfl .(c) .(c) .(c) fun a0 a1=>fA (bc (w_2 (w_c (cx (k:=81) (m:=1000000) rfl rfl rfl .(c) .(c) .(c) fun b0 b1=>fA (cb ⟨by simp,?_⟩)))))))))))));exact w_2 (cx (k:=82) (m:=4) rfl rfl rfl .(c) .(c) .(c) fun q0 q1=>w_c (uA .(c) (mr .(b) (by simp;omega) (oY ⟨_,rfl,_,rfl,by omega,by omega⟩ ⟨_,rfl,_,rfl,by omega,by omega⟩))))
abbrev kE (n k h:aj) (br:ac (aj×aj)) (f:aj) (a b c:aq Slot):bA:=[oS (.int n),oS (.int k),oS (.int h),aa (.own (br.map dIv)),oS (.int f),a,b,c]
theorem Ks (n:aj) (hh:0<=h):Wp (sS [.int n,.int 0,.int h]) fun d=>∃br:ac (aj×aj),d=.lst (br.map dIv)/\br.length<=3/\∃f,GoodI h f br:=by
 unfold sS;refine dL (nM (bB (w_c (cL (fg (fun i ρ=>∃(br:ac (aj×aj)) (f:aj) (a b c:aq Slot),ρ=kE n 0 h br f a b c/\br.length<=i/\0<=f/\GoodI h f br) (iw (bc (cx (k:=0) (m:=4) rfl rfl rfl .(c) .(c) .(c) fun q0 q1=>cb ⟨_,rfl,q0,by omega,?_,?_,?_⟩))))))))
 .exact⟨[],0,af,af,af,rfl,qw _,GA _,⟨(fun _ z=>nomatch z),fun _ _ _ z=>by simp at z⟩⟩
 .rintro i x ρ hx ⟨br,f,a,b,c,rfl,hl,f0,g⟩;obtain⟨hi,rfl⟩:=iC hx;refine aK rfl (bB (w_2 (bj rfl (ya (k:=0+1+4*(i:aj)) (m:=h) rfl .(aq) rfl .(b) .(b) hh fun x x0 x1=>fA (bB (w_2 (w_2 (bj rfl (w_c (fA (cx (k:=0+3+4*(i:aj)) (m:=4) rfl .(aq) rfl .(b) .(b) .(c) fun y0 y1=>fA (eP (iT (w_2 (bj rfl (bj rfl (Qp ⟨_,rfl,fun hc=>?_,fun hc=>?_⟩)))))))))))))))))
  .have hc:=jt hc;refine cL (Ff (m:=dIv) (xs:=br) (f+x,f+x+1+drw n (0+3+4*(i:aj)) 4) rfl .(b) (jL (bc (bj rfl (bc (bj rfl (cb ⟨by simp,rfl,rfl,?_⟩)))))));exact lR (w_2 (bj rfl (w_c (fA ⟨rfl,br++[(f+x,f+x+1+drw n (0+3+4*(i:aj)) 4)],_,_,_,_,rfl,by rw[qk];simp;omega,by omega,g.snoc f0 .(b) .(b) hc⟩))))
  .exact fX ⟨rfl,br,_,_,_,_,rfl,by omega,f0,g⟩
 .rintro ρ ⟨br,f,a,b,c,rfl,hl,f0,g⟩;exact⟨rfl,nu (ds:=br.map dIv) rfl (eR (bj rfl ⟨_,rfl,br,rfl,by simp at hl;omega,f,g⟩))⟩
theorem lL (h:g ρ=aa (.nx,ρ1)):aw g g' ρ=g' ρ1:=by unfold aw;rw[h];rfl
theorem zO :aw (eQ i (szF ao)) g ρ=g (ρ.set i (aa (.own []))):=by
 have z0:(0<=aJ)=True:=by simp
 simp only[aw,eQ,szF,ao,qc,qf,qm,z0,cq]
theorem Fb (h1:ρ[i]?=aa (aa (.own ds))):ff i g ρ=g (ρ.set i (oS (.lst ds))):=by unfold ff;rw[h1]
theorem mX {body:FS} {xs:ac D} (h:fi ρ=aa xs):bW fi gg body ρ=dD gg body xs ρ:=by unfold bW;rw[h];rfl
theorem Cc {xs:ac D} (h:(xs.mapIdx fun i d=>D.tup [.int i,d])[i]?=aa d):∃x,xs[i]?=aa x/\d=.tup [.int i,x]:=by rw[Tu] at h;obtain⟨x,hx,rfl⟩:=oMd h;exact⟨x,hx,rfl⟩
theorem iX {g:FE} {x y:D} (h1:f ρ=aa x) (h2:g ρ=aa y):bo (szF (ag f (ag g ao))) ρ=aa (.tup [x,y]):=by simp only[bo,szF,ag,ao,h1,h2,qc,qf,qj,qm,ly,sz2,cq]
theorem xL {g e:FE} {x y:D} (h1:f ρ=aa x) (h2:g ρ=aa y) (h3:e ρ=aa z):bo (szF (ag f (ag g (ag e ao)))) ρ=aa (.tup [x,y,z]):=by simp only[bo,szF,ag,ao,h1,h2,h3,qc,qf,qj,qm,ly,sz3,cq]
theorem GH {xs:ac D} {d:aj} (h:0<=d):kU af (aa d) (.lst xs)=aa (.lst (xs.take d.toNat)):=by
 show aa (D.lst (dq xs af (aa d)))=_;unfold dq HT.sIx;simp only;rw[qZ .(b),p5,UD]
 congr 2
 rw[zK];split
 .rfl
 .rw[mN (qw _),mN .(b)]
theorem Mv {xs:ac D} {d:aj} (h:0<=d):kU (aa d) af (.lst xs)=aa (.lst (xs.drop d.toNat)):=by
 show aa (D.lst (dq xs (aa d) af))=_;unfold dq HT.sIx;simp only;rw[qZ .(b)]
 congr 2
 rw[zK];split
 .rw[mN (by rw[jq];omega)]
 .rw[zL (qw _),zL .(b)];simp
theorem z9 {g:FE} {xs:ac D} {d:aj} (h1:f ρ=aa (.lst xs)) (h2:g ρ=aa (.int d)) (h:0<=d):slF f pN (pS g) ρ=aa (.lst (xs.take d.toNat)):=by unfold slF pN pS;rw[h1,h2];exact GH h
theorem CZ {g:FE} {xs:ac D} {d:aj} (h1:f ρ=aa (.lst xs)) (h2:g ρ=aa (.int d)) (h:0<=d):slF f (pS g) pN ρ=aa (.lst (xs.drop d.toNat)):=by unfold slF pN pS;rw[h1,h2];exact Mv h
section
variable {bs:ac BenchT}
def cy (bs:ac BenchT) (ss:ac StepT) (js:ac JobT) (us:ac SetT) (ls:ac LinkT) (ks:ac StockT) (h:aj):D:=.tup [.lst (bs.map bK),.lst (ss.map bm),.lst (js.map aX),.lst (us.map cP),.lst (ls.map cS),.lst (ks.map cX),.int h]
theorem ixT (l:ac D) (n:ak):ixD (.tup l) (.int (n:aj))=l[n]?:=iP l n
theorem yA (g:Good bs ss js us ls ks h) (ml:(js.flatMap (·.ms)).length<=300):mj [cy bs ss js us ls ks h]=aa .(k):=
 bV [oS .(w)] rfl (bU (aO (ax (aD rfl rfl (ixT _ 0)) (ax (aD rfl rfl (ixT _ 1)) (ax (aD rfl rfl (ixT _ 2)) (ax (aD rfl rfl (ixT _ 3)) (ax (aD rfl rfl (ixT _ 4)) (ax (aD rfl rfl (ixT _ 5)) (ax (aD rfl rfl (ixT _ 6)) aI))))))) (Qc g ml)))
theorem kK {f:ai} (i:ak) (h1:fo ρ=aa .(k)) (h2:(nh bs ss js us ls ks h)[i]?=aa (f,d)):bM "Shop" f fo ρ=aa d:=by unfold bM;rw[h1];show(if ("Shop":ai)="Shop" then (nh bs ss js us ls ks h).lookup f else af)=aa d;rw[qY rfl];exact nL (by rw[Bg];exact rZ) h2
theorem gn {F:FQ} (hm:m∉kH) (h1:fo ρ=aa .(k)) (h2:fr ρ=aa ds) (h3:F (bH bs ss js us ls ks h::ds)=aa d):bT "Shop" m F fo fr ρ=aa d:=by have hno:(nh bs ss js us ls ks h).lookup m=af:=kh (by rw[Bg];exact hm);unfold bT;rw[h1];show(if ("Shop":ai)="Shop"/\(nh bs ss js us ls ks h).lookup m=af then (fr ρ).bind fun ds=>F (bH bs ss js us ls ks h::ds) else af)=_;rw[qY ⟨rfl,hno⟩,h2];exact h3
theorem IL {f:α->D} {nm:α->ai} {xs:ac α} (hf:∀x,∃r,f x=.tup (.str (nm x)::r)) (h1:fo ρ=aa (.lst (xs.map f))) (h2:xs.length<=aJ) (h3:eS fv ρ=[af]) :
  aS (ba (itF fo) (aA 0) tT .(p) fv) ρ=aa (.lst ((xs.map nm).map D.str)):=by
 have hc:=jF (fi:=itF fo) (fe:=b2 ixD (vSh 0) .(f)) (fv:=fv) (ρ:=ρ) (r:=[]) (a:=af) (xs:=xs.map f) (f:=fun d=>match d with|.tup (x::_)=>x|_=>.non) (by unfold itF;rw[h1];rfl) (by rw[qg];exact h2) h3 (fun x hx=>by obtain⟨y,_,rfl⟩:=bz.mp hx;obtain⟨r,e⟩:=hf y;simp only[b2,vSh,vC,qd,qc,e,dc])
 rw[hc]
 congr 2
 rw[qp,qp];refine gj fun x _=>?_;obtain⟨r,e⟩:=hf x;simp[e]
theorem vD (hl:ss.length<=40):oM [bH bs ss js us ls ks h]=aa (.lst ((ss.map (·.nm)).map D.str)):=
 bV [oS .(k)] rfl (bU (IL (f:=bm) (nm:=(·.nm)) (xs:=ss) .(aS) (kK 1 rfl rfl) (szN hl .(c)) rfl))
theorem o0 [dz κ] (kvs:ac (κ×D)) (k k':κ) (v:D):bd (bQ kvs k v) k'=if k'=k then aa v else bd kvs k':=by
 unfold bQ;split
 .rename_i hany;by_cases e:k'=k
  .subst e;rw[qY rfl];unfold bd
   induction kvs with
   |nil=>simp at hany
   |cons x r ih=>
    rw[qo,eE];by_cases ex:x.1=k'
    .simp[ex]
    .simp only[qZ ex,qP ex];rw[j5,qP ex,FV] at hany;exact ih hany
  .rw[qZ e];unfold bd
   induction kvs with
   |nil=>rfl
   |cons x r ih=>
    rw[qo,eE,eE];by_cases ex:x.1=k
    .have:¬x.1=k':=fun z=>e (z.symm.trans ex);simp only[qY ex,qP this];by_cases ha:(r.any fun kv=>decide (kv.1=k))=ah
     .exact ih ha
     .have hmap:r.map (fun kv=>if kv.1=k then (kv.1,v) else kv)=r:=by
       conv=>rhs;rw[←GB r]
       refine gj fun y hy=>?_;have:¬y.1=k:=fun z=>ha (vg.mpr ⟨y,hy,qU z⟩);simp[this]
      rw[hmap]
    .simp only[qZ ex];by_cases ex':x.1=k'
     .simp[ex']
     .simp only[qP ex'];rw[j5,qP ex,FV] at hany;exact ih hany
 .rename_i hany;have hno:∀x∈kvs,¬x.1=k:=fun x hx z=>hany (vg.mpr ⟨x,hx,qU z⟩);unfold bd;rw[UE];by_cases e:k'=k
  .subst e;rw[qY rfl];have:kvs.find? (fun kv=>decide (kv.1=k'))=af:=by rw[zo];intro x hx z;exact hno x hx (jt z)
   rw[this];simp
  .rw[qZ e];have:¬k=k':=fun z=>e z.symm;simp[this]
noncomputable def prS:ac StepT->ac (StepT×StepT)
 |[]=>[]
 |s::r=>r.map (fun t=>(s,t))++prS r
noncomputable def dP (p:StepT×StepT):D:=.tup [.str p.1.nm,.str p.2.nm]
theorem wd:∀{ss:ac StepT} {n:ak},ss.length<=n->(prS ss).length<=ss.length*n
 |[],_,_=>by simp[prS]
 |s::r,n,h=>by rw[qj] at h;have:=wd (ss:=r) (n:=n) .(b);show(r.map (fun t=>(s,t))++prS r).length<=_;rw[qk,qg,qj,oa];omega
theorem B7 {g:α->D} {xs ys:ac α} (h1:ρ[i]?=aa (aa (.own (xs.map g)))) (h2:f ρ=aa (.lst (ys.map g))) (h3:xs.length+ys.length<=10000):gR i f ρ=aa (.nx,ρ.set i (aa (.own ((xs++ys).map g)))):=by unfold gR;rw[h1];show(f ρ).bind _=_;rw[h2,qc];show(if _ then _ else _)=_;rw[qY (by rw[qg,qg];unfold aJ;omega),dF]
theorem M5 {l:ac α} {x:α} (h:l[i]?=aa x):l.drop i=x::l.drop (i+1):=by obtain⟨h1,h2⟩:=fJ.mp h;rw[zg h1,h2]
abbrev prE (ss:ac StepT) (ps:ac (StepT×StepT)) (a b:aq Slot):bA:=[oS (.lst ((ss.map (·.nm)).map D.str)),aa (.own (ps.map dP)),a,b]
theorem Ib (ss:ac StepT) (hl:ss.length<=40):mU [.lst ((ss.map (·.nm)).map D.str)]=aa (.lst ((prS ss).map dP)):=by
 have hpl:=wd (ss:=ss) (n:=40) hl;obtain⟨ρ',h1,ps,a,b,h2,h3⟩:=pj (gg:=cN 2 (bx (aA 2) (bx (aA 3) cM))) (body:=(gR 1 (aS X4))) (xs:=((ss.map (·.nm)).map D.str).mapIdx fun i d=>D.tup [.int i,d]) (ρ:=prE ss [] af af)
  (fun i ρ=>∃ps a b,ρ=prE ss ps a b/\ps++prS (ss.drop i)=prS ss) ⟨[],af,af,rfl,rfl⟩ (fun i x ρ hx hI=>by
   obtain⟨ps,a,b,rfl,hps⟩:=hI;obtain⟨y,hy,rfl⟩:=Cc hx;rw[qp,ql] at hy;obtain⟨s,hsi,rfl⟩:=oMd hy;have hi:i<ss.length:=(fJ.mp hsi).1;have hdr:=M5 hsi;have hlen:ps.length+(ss.drop (i+1)).length<=10000:=by have:=bO cI hps;rw[qk] at this;rw[jq];omega
   have e:aS X4 (prE ss ps (oS (.int i)) (oS .(aL)))=aa (.lst (((ss.drop (i+1)).map fun t=>(s,t)).map dP)):=by
    have e0:itF (slF (vSh 0) (pS (b2 aW (vSh 2) .(i))) pN) (prE ss ps (oS (.int i)) (oS .(aL)))=aa ((ss.drop (i+1)).map fun t=>D.str t.nm):=by have:=CZ (f:=vSh 0) (g:=b2 aW (vSh 2) .(i)) (ρ:=prE ss ps (oS (.int i)) (oS .(aL))) (d:=(i:aj)+1) rfl .(be) .(b);unfold itF;rw[this];show aa _=_;rw[show((i:aj)+1).toNat=i+1 by omega,qp,UF];rfl
    refine(jF (r:=[oS .(aL)]) (a:=af) (f:=fun d=>.tup [.str s.nm,d]) e0 (by rw[qg,jq];exact szN (k:=40) .(b) .(c)) rfl fun x hx=>iX rfl rfl).trans ?_;rw[qp,qp];rfl
   refine⟨_,_,rfl,B7 rfl e (by rw[qg];exact hlen),ps++(ss.drop (i+1)).map (fun t=>(s,t)),_,_,rfl,?_⟩;rw[←hps,hdr,pV];rfl)
 rw[zf,qg,qg,uV] at h3;have h4:ps=prS ss:=by rw[←h3];simp[prS]
 rw[h4] at h2;exact bV [oS (.lst ((ss.map (·.nm)).map D.str)),af,af,af] rfl (zO.trans ((lL ((mX (xs:=((ss.map (·.nm)).map D.str).mapIdx fun i d=>D.tup [.int i,d]) rfl).trans (h1.trans (by rw[h2])))).trans ((Fb rfl).trans (bU (f:=vSh 1) rfl))))
end
noncomputable def si (ls:ac LinkT) (a b:ai):aq LinkT:=ls.find? fun l=>decide (l.a=a/\l.b=b)
noncomputable def wrp (m:ai):StepT:=⟨m,m,[]⟩
def uf (ms:ac ai) (a b:ai):aN:=(prS (ms.map wrp)).any fun p=>decide (p.1.nm=a/\p.2.nm=b)
def eB (js:ac JobT) (ls:ac LinkT) (a b:ai):aq aj:=match si ls a b with
 |some l=>aa l.g
 |none=>if (js.any fun j=>j.od && uf j.ms a b)=ah then aa 0 else af
theorem yf {body:FS} {x:D} {xs:ac D} {ρ2:bA} {R:aq (Fl×bA)} (h1:gg x ρ=aa ρ1) (h2:body ρ1=aa (.nx,ρ2)) (h3:dD gg body xs ρ2=R):dD gg body (x::xs) ρ=R:=by rw[←h3];unfold dD;rw[h1,qc,h2,qc];cases xs<;>rfl
noncomputable abbrev kk (a b:ai):ac Key:=[.inr a,.inr b]
theorem nr {a b d:ai} :kk a b=kk c d↔a=c/\b=d:=by simp[kk]
def iU (acc:ac .(ah)) (p:StepT×StepT):ac .(ah):=bQ acc (kk p.1.nm p.2.nm) (.int 0)
def gU (acc:ac .(ah)) (j:JobT):ac .(ah):=if j.od=ah then (prS (j.ms.map wrp)).foldl iU acc else acc
def m8 (acc:ac .(ah)) (l:LinkT):ac .(ah):=bQ acc (kk l.a l.b) (.int l.g)
theorem G9:∀(ps:ac (StepT×StepT)) (acc:ac .(ah)),(ps.foldl iU acc).length<=acc.length+ps.length:=by
 intro xs0
 induction xs0 with
 |nil=>
  intro acc;exact qw _
 |cons p r ih=>
  intro acc;have:=ih (iU acc p);have:=oE acc (kk p.1.nm p.2.nm) (.int 0);rw[fL,qj];unfold iU at *;omega
theorem vP (a b:ai):∀(ps:ac (StepT×StepT)) (acc:ac .(ah)),bd (ps.foldl iU acc) (kk a b)=if (ps.any fun p=>decide (p.1.nm=a/\p.2.nm=b))=ah then aa (.int 0) else bd acc (kk a b):=by
 intro xs0
 induction xs0 with
 |nil=>
  intro acc;exact rfl
 |cons p r ih=>
  intro acc;rw[fL,ih,j5];unfold iU;rw[o0];by_cases h:p.1.nm=a/\p.2.nm=b
  .rw[qY (nr.mpr ⟨h.1.symm,h.2.symm⟩),qU h];show(if _ then _ else _)=aa (D.int 0);split<;>rfl
  .rw[qZ (fun z=>h ⟨(nr.mp z).1.symm,(nr.mp z).2.symm⟩),qP h];rfl
theorem vJ (a b:ai):∀(js:ac JobT) (acc:ac .(ah)),bd (js.foldl gU acc) (kk a b)=if (js.any fun j=>j.od && uf j.ms a b)=ah then aa (.int 0) else bd acc (kk a b):=by
 intro xs0
 induction xs0 with
 |nil=>
  intro acc;exact rfl
 |cons j r ih=>
  intro acc;rw[fL,ih,j5];unfold gU uf;by_cases h:j.od=ah
  .rw[qY h,vP,h,zu];cases((prS (j.ms.map wrp)).any fun p=>decide (p.1.nm=a/\p.2.nm=b))
   .rfl
   .show(if _ then _ else aa (D.int 0))=aa (D.int 0);split<;>rfl
  .have h':j.od=ar:=by simpa using h
   rw[qZ h,h'];rfl
theorem vL (a b:ai):∀(ls:ac LinkT) (acc:ac .(ah)),(ls.map fun l=>[l.a,l.b]).Nodup->bd (ls.foldl m8 acc) (kk a b)=match si ls a b with|some l=>aa (.int l.g)|none=>bd acc (kk a b):=by
 intro xs0
 induction xs0 with
 |nil=>
  intro acc _;exact rfl
 |cons l r ih=>
  intro acc nd;rw[qo,cU] at nd;rw[fL,ih _ nd.2];unfold m8 si;rw[o0,eE];by_cases h:l.a=a/\l.b=b
  .rw[qY (nr.mpr ⟨h.1.symm,h.2.symm⟩),qU h];have:r.find? (fun l=>decide (l.a=a/\l.b=b))=af:=by rw[zo];intro x hx z;have z:=jt z;exact nd.1 (bz.mpr ⟨x,hx,by rw[z.1,z.2,h.1,h.2]⟩)
   rw[this]
  .rw[qZ (fun z=>h ⟨(nr.mp z).1.symm,(nr.mp z).2.symm⟩),qP h]
section
variable {bs:ac BenchT}
theorem Mu (g:Good bs ss js us ls ks h):rC [bH bs ss js us ls ks h]=aa .(aa):=by
 have hl:(ss.map (·.nm)).length<=40:=by rw[qg];exact g.sl.2
 have hp:Pl 8 .(aa):=gu (by have:=g.jl;omega) fun x hx=>wQ (n:=4) hl (g.j x hx);exact bV [oS .(k)] rfl (bU (aO (ax (kK 2 rfl rfl) aI) (gL hp)))
theorem Rh (g:Good bs ss js us ls ks h):rG [bH bs ss js us ls ks h]=aa (.lst (ls.map cS)):=by have hp:Pl 8 (.lst (ls.map cS)):=gu (by have:=g.ll;omega) fun x hx=>CV (n:=5);exact bV [oS .(k)] rfl (bU (aO (ax (kK 4 rfl rfl) aI) (gL hp)))
theorem Ra (ms:ac ai):(ms.map wrp).map (·.nm)=ms:=by rw[qp];exact GB _
theorem IA (ms:ac ai) (hl:ms.length<=40):mU [.lst (ms.map D.str)]=aa (.lst ((prS (ms.map wrp)).map dP)):=by have:=Ib (ms.map wrp) (by rw[qg];exact hl);rw[Ra] at this;exact this
theorem Hl {acc:ac .(ah)} {p:StepT×StepT} (hl:acc.length<100000):dZ 1 (vSh 3) .(f) [S,aa (.odt acc),x2,oS (dP p),x4,x5,x6]=aa (.nx,[S,aa (.odt (iU acc p)),x2,oS (dP p),x4,x5,x6]):=qY hl
theorem CO {S x2 x4 x5 x6:aq Slot}:∀(ps:ac (StepT×StepT)) (acc:ac .(ah)) (z:aq Slot),acc.length+ps.length<100000->∃z',dD (aA 3) (dZ 1 (vSh 3) .(f)) (ps.map dP) [S,aa (.odt acc),x2,z,x4,x5,x6]=aa (.nx,[S,aa (.odt (ps.foldl iU acc)),x2,z',x4,x5,x6])
 |[],acc,z,_=>⟨z,rfl⟩
 |p::r,acc,z,hl=>by rw[qj] at hl;have h1:=oE acc (kk p.1.nm p.2.nm) (.int 0);obtain⟨z',hz⟩:=CO (S:=S) (x2:=x2) (x4:=x4) (x5:=x5) (x6:=x6) r (iU acc p) (oS (dP p)) (by unfold iU;omega);exact⟨z',yf rfl (Hl .(b)) hz⟩
def gjB:FS:=sIf (toB (b2 ixD (vSh 2) .(M))) (bW (itF (cF mU (ag (b2 ixD (vSh 2) .(u)) ao))) (aA 3) (dZ 1 (vSh 3) .(f))) aY
theorem BS {A B:FS} (h:ft ρ=aa ar):sIf ft A B ρ=B ρ:=by unfold sIf;rw[h,qc,qZ qt]
theorem Eo {A B:FS} (h:ft ρ=aa ah):sIf ft A B ρ=A ρ:=by unfold sIf;rw[h,qc,qY rfl]
theorem LO {a b c e:D} :ixD (.tup [a,b,c,d,e]) (.int 3)=aa d:=rfl
theorem El {S x4 x5 x6:aq Slot}:∀(js:ac JobT) (acc:ac .(ah)) (y z:aq Slot),(∀j∈js,j.ms.length<=40)->acc.length+js.length*1600<90000->∃y' z',dD (aA 2) gjB (js.map aX) [S,aa (.odt acc),y,z,x4,x5,x6]=aa (.nx,[S,aa (.odt (js.foldl gU acc)),y',z',x4,x5,x6])/\(js.foldl gU acc).length<=acc.length+js.length*1600
 |[],acc,y,z,_,_=>⟨y,z,rfl,zj _ _⟩
 |j::r,acc,y,z,hm,hl=>by
  rw[qj,oa] at hl;have hj:=hm j qh;have hpl:=wd (ss:=j.ms.map wrp) (n:=40) (by rw[qg];exact hj);rw[qg] at hpl;have h40:j.ms.length*40<=1600:=by omega
  have eT:toB (b2 ixD (vSh 2) .(M)) [S,aa (.odt acc),oS (aX j),z,x4,x5,x6]=aa j.od:=bN (aD rfl rfl LO);have key:∃z1,gjB [S,aa (.odt acc),oS (aX j),z,x4,x5,x6]=aa (.nx,[S,aa (.odt (gU acc j)),oS (aX j),z1,x4,x5,x6])/\(gU acc j).length<=acc.length+1600:=by
   by_cases ho:j.od=ah
   .rw[ho] at eT;obtain⟨z1,hz⟩:=CO (S:=S) (x2:=oS (aX j)) (x4:=x4) (x5:=x5) (x6:=x6) (prS (j.ms.map wrp)) acc z .(b);have eI:itF (cF mU (ag (b2 ixD (vSh 2) .(u)) ao)) [S,aa (.odt acc),oS (aX j),z,x4,x5,x6]=aa ((prS (j.ms.map wrp)).map dP):=by unfold itF;rw[aO (ax (aD rfl rfl mi) aI) (IA j.ms hj)];rfl
    have hP:=G9 (prS (j.ms.map wrp)) acc;unfold gU;rw[qY ho];exact⟨z1,(Eo eT).trans ((mX eI).trans hz),by omega⟩
   .have ho':j.od=ar:=by simpa using ho
    rw[ho'] at eT;unfold gU;rw[qZ ho];exact⟨z,BS eT,by omega⟩
  obtain⟨z1,hk,hkl⟩:=key;obtain⟨y',z',hr,hrl⟩:=El (S:=S) (x4:=x4) (x5:=x5) (x6:=x6) r (gU acc j) (oS (aX j)) z1 (fun x hx=>hm x (qi _ hx)) .(b);exact⟨y',z',yf rfl hk hr,by rw[fL,qj,oa];omega⟩
theorem Et {S x2 x3:aq Slot}:∀(ls:ac LinkT) (acc:ac .(ah)) (a b c:aq Slot),acc.length+ls.length<100000->∃a' b' c',dD (cN 3 (bx (aA 4) (bx (aA 5) (bx (aA 6) cM)))) (dZ 1 (bo (szF (ag (vSh 4) (ag (vSh 5) ao)))) (vSh 6)) (ls.map cS) [S,aa (.odt acc),x2,x3,a,b,c]=aa (.nx,[S,aa (.odt (ls.foldl m8 acc)),x2,x3,a',b',c'])
 |[],acc,a,b,c,_=>⟨a,b,c,rfl⟩
 |l::r,acc,a,b,c,hl=>by rw[qj] at hl;have h1:=oE acc (kk l.a l.b) (.int l.g);obtain⟨a',b',c',hz⟩:=Et (S:=S) (x2:=x2) (x3:=x3) r (m8 acc l) (oS (.str l.a)) (oS (.str l.b)) (oS (.int l.g)) (by unfold m8;omega);refine⟨a',b',c',yf (ρ1:=[S,aa (.odt acc),x2,x3,oS (.str l.a),oS (.str l.b),oS (.int l.g)]) rfl ?_ hz⟩;have e1:bo (szF (ag (vSh 4) (ag (vSh 5) ao))) [S,aa (.odt acc),x2,x3,oS (.str l.a),oS (.str l.b),oS (.int l.g)]=aa (.tup [.str l.a,.str l.b]):=iX rfl rfl;unfold dZ;rw[e1];exact qY .(b)
theorem Qi (g:Good bs ss js us ls ks h):∃kvs,xJ [bH bs ss js us ls ks h]=aa (.dt kvs)/\∀a b,bd kvs (kk a b)=(eB js ls a b).map D.int:=by
 have hm:∀j∈js,j.ms.length<=40:=fun j hj=>by have:=(g.j j hj).ln;rw[qg] at this;have:=g.sl.2;omega
 have hjl:=g.jl;have hll:=g.ll;obtain⟨y',z',h1,hl1⟩:=El (S:=oS .(k)) (x4:=af) (x5:=af) (x6:=af) js [] af af hm (by rw[qm];omega);rw[qm] at hl1;obtain⟨a',b',c',h2⟩:=Et (S:=oS .(k)) (x2:=y') (x3:=z') ls (js.foldl gU []) af af af .(b);refine⟨ls.foldl m8 (js.foldl gU []),?_,fun a b=>?_⟩
 .have e1:itF (bT "Shop" "job_rows" rC (vSh 0) ao) [oS .(k),aa (.odt []),af,af,af,af,af]=aa (js.map aX):=by unfold itF;rw[gn .(z) rfl aI (Mu g)];rfl
  have e2:itF (bT "Shop" "link_rows" rG (vSh 0) ao) [oS .(k),aa (.odt (js.foldl gU [])),y',z',af,af,af]=aa (ls.map cS):=by unfold itF;rw[gn .(z) rfl aI (Rh g)];rfl
  exact bV [oS .(k),af,af,af,af,af,af] rfl ((lL (ρ1:=[oS .(k),aa (.odt []),af,af,af,af,af]) rfl).trans ((lL ((mX e1).trans h1)).trans ((lL ((mX e2).trans h2)).trans (bU (f:=vSh 1) rfl))))
 .rw[vL a b ls _ g.ln,vJ];unfold eB;cases si ls a b with
  |some l=>rfl
  |none=>
   show(if _ then _ else _)=_;cases(js.any fun j=>j.od && uf j.ms a b)<;>rfl
end
noncomputable abbrev GT:=ai×ai×aj
noncomputable def dGp (t:GT):D:=.tup [.str t.1,.str t.2.1,.int t.2.2]
def gN (js:ac JobT) (ls:ac LinkT) (nms:ac ai) (a:ai):ac GT:=nms.filterMap fun b=>(eB js ls a b).map fun g=>(a,b,g)
theorem Ei (js:ac JobT) (ls:ac LinkT) (nms:ac ai) (a:ai):(gN js ls nms a).length<=nms.length:=List.length_filterMap_le _ _
theorem ye (js:ac JobT) (ls:ac LinkT) (nms:ac ai):∀xs:ac ai,(xs.flatMap (gN js ls nms)).length<=xs.length*nms.length:=by
 intro xs0
 induction xs0 with
 |nil=>
  simp
 |cons x r ih=>
  have:=ih;have:=Ei js ls nms x;rw[rA,qk,qj,oa];omega
def pG (js:ac JobT) (ls:ac LinkT) (a:ai):D->aN
 |.str b=>(eB js ls a b).isSome
 |_=>ar
def fG (js:ac JobT) (ls:ac LinkT) (a:ai):D->D
 |.str b=>.tup [.str a,.str b,.int ((eB js ls a b).getD 0)]
 |_=>.non
theorem Lc (js:ac JobT) (ls:ac LinkT) (a:ai):∀nms:ac ai,((nms.map D.str).filter (pG js ls a)).map (fG js ls a)=(gN js ls nms a).map dGp:=by
 intro xs0
 induction xs0 with
 |nil=>
  exact rfl
 |cons b r ih=>
  have ih:=ih;unfold gN at ih ⊢;rw[qo,vd,yF];cases e:eB js ls a b with
  |none=>
   have e1:pG js ls a (.str b)=ar:=by show(eB js ls a b).isSome=ar;rw[e];rfl
   rw[e1];exact ih
  |some q=>
   have e1:pG js ls a (.str b)=ah:=by show(eB js ls a b).isSome=ah;rw[e];rfl
   have e2:fG js ls a (.str b)=dGp (a,b,q):=by show D.tup [.str a,.str b,.int ((eB js ls a b).getD 0)]=_;rw[e];rfl
   rw[e1];show fG js ls a (.str b)::_=dGp (a,b,q)::_;rw[e2];exact bO _ ih
section
variable {bs:ac BenchT}
theorem Oj {a:aq Slot} {xs:ac D} {f:D->D} {p:D->aN} (h1:fi ρ=aa xs) (h2:xs.length<=aJ) (h3:eS fv ρ=a::r) (h:∀x∈xs,ft (oS x::r)=aa (p x)/\(p x=ah->fe (oS x::r)=aa (f x))) :
  ba fi (aA 0) ft fe fv ρ=aa ((xs.filter p).map f):=by
 simp only[ba,h1,qc,qY h2,h3,Ew (a:=a) h]
theorem ix {ys:ac D} (h:fr ρ=aa ys):aS fr ρ=aa (.lst ys):=by unfold aS;rw[h];rfl
theorem koT (hv:∀a b,bd kvs (kk a b)=(eB js ls a b).map D.int) {a:ai} {nms:ac ai} {o:aq Slot} (hl:nms.length<=40) :
  aS X0 [S,oS (.lst (nms.map D.str)),oS (.dt kvs),o,oS (.str a)]=aa (.lst ((gN js ls nms a).map dGp)):=by
 rw[←Lc];refine ix (Oj (r:=[oS (.str a),oS (.dt kvs)]) (a:=af) rfl (by rw[qg];exact szN hl .(c)) rfl fun x hx=>?_);obtain⟨b,_,rfl⟩:=bz.mp hx;have e1:bo (szF (ag (vSh 1) .(ac))) [oS (.str b),oS (.str a),oS (.dt kvs)]=aa (.tup [.str a,.str b]):=iX rfl rfl;refine⟨bN (aD e1 rfl ?_),fun hp=>?_⟩
 .show aa (D.bl (bd kvs (kk a b)).isSome)=aa (.bl (eB js ls a b).isSome);rw[hv,yY]
 .have hp':(eB js ls a b).isSome=ah:=hp;obtain⟨q,hq⟩:=uN.mp hp';refine xL rfl rfl (aD rfl e1 ?_);show(aa (bd kvs (kk a b))).bind id=aa (.int ((eB js ls a b).getD 0));rw[hv,hq];rfl
theorem RI (g:Good bs ss js us ls ks h):vV [bH bs ss js us ls ks h]=aa (.lst (((ss.map (·.nm)).flatMap (gN js ls (ss.map (·.nm)))).map dGp)):=by
 obtain⟨kvs,hk,hv⟩:=Qi g;have hl:(ss.map (·.nm)).length<=40:=by rw[qg];exact g.sl.2
 have hN:=vD (bs:=bs) (ss:=ss) (js:=js) (us:=us) (ls:=ls) (ks:=ks) (h:=h) g.sl.2;obtain⟨ρ',h1,z,h2⟩:=pj (gg:=aA 4) (body:=(gR 3 (aS X0))) (xs:=(ss.map (·.nm)).map D.str) (ρ:=[oS .(k),oS (.lst ((ss.map (·.nm)).map D.str)),oS (.dt kvs),aa (.own []),af])
  (fun i ρ=>∃z,ρ=[oS .(k),oS (.lst ((ss.map (·.nm)).map D.str)),oS (.dt kvs),aa (.own ((((ss.map (·.nm)).take i).flatMap (gN js ls (ss.map (·.nm)))).map dGp)),z]) ⟨af,rfl⟩ (fun i x ρ hx hI=>by
   obtain⟨z,rfl⟩:=hI;rw[ql] at hx;obtain⟨a,hp,rfl⟩:=oMd hx;have tk:((ss.map (·.nm)).take (i+1)).flatMap (gN js ls (ss.map (·.nm)))=((ss.map (·.nm)).take i).flatMap (gN js ls (ss.map (·.nm)))++gN js ls (ss.map (·.nm)) a:=by rw[zI,hp,GC];simp
   have r1:=ye js ls (ss.map (·.nm)) ((ss.map (·.nm)).take i);have r2:=Ei js ls (ss.map (·.nm)) a;have r3:((ss.map (·.nm)).take i).length<=40:=qO (List.length_take_le' _ _) hl;have r4:((ss.map (·.nm)).take i).length*(ss.map (·.nm)).length<=40*40:=za r3 hl;refine⟨_,_,rfl,B7 rfl (koT hv hl) .(b),oS (.str a),?_⟩;rw[tk];rfl)
 rw[qg,iH] at h2;subst h2;exact bV [oS .(k),af,af,af,af] rfl ((nz (gn .(z) rfl aI hN)).trans ((nz (aO .(v) hk)).trans (zO.trans ((lL ((mX rfl).trans h1)).trans ((Fb rfl).trans (bU rfl))))))
end
section
variable {bs:ac BenchT}
theorem iY {nm:α->ai} {f:α->D} :∀{xs:ac α} {s:α},(xs.map nm).Nodup->s∈xs->bd (xs.map fun x=>((.inr (nm x):Key),f x)) (.inr (nm s))=aa (f s):=by
 intro xs0
 induction xs0 with
 |nil=>
  intro s _ hs;cases hs
 |cons x r ih=>
  intro s nd hs;rw[qo,cU] at nd;unfold bd;rw[qo,eE];by_cases e:nm x=nm s
  .have hxs:s=x:=by
    rcases bZ.mp hs with q|q
    .exact q
    .exact bu (qX (f:=nm) q) (by rw[←e];exact nd.1)
   subst hxs;simp
  .have hs':s∈r:=by
    rcases bZ.mp hs with q|q
    .subst q;exact bu rfl e
    .exact q
   have hne:¬((.inr (nm x):Key)=.inr (nm s)):=fun z=>e (g9 z);simp only[qP hne];exact ih nd.2 hs'
theorem HK {s:StepT} (g:Good bs ss js us ls ks h) (hs:s∈ss):xO [bH bs ss js us ls ks h,.str s.nm]=aa (.lst (s.ws.map dW)):=by have gs:=g.s s hs;refine bV [oS .(k),oS .(aL)] rfl (bU (aO (ax (aD (aD (x:=.dk (ss.map fun s=>(.inr s.nm,bm s))) (z:=bm s) (kK 8 rfl rfl) rfl ?_) rfl kC) aI) (gL (sM (by have:=gs.l4;omega)))));show bd (ss.map fun s=>((.inr s.nm:Key),bm s)) .(aH)=_;exact iY g.sn hs
theorem NV (j:JobT) (m:ai):∀(ms:ac ai) (acc:ac (Key×D)),bd (ms.foldl (fO j) acc) (.inr m)=if m∈ms then aa (aX j) else bd acc (.inr m):=by
 intro xs0
 induction xs0 with
 |nil=>
  intro acc;simp
 |cons x r ih=>
  intro acc;rw[fL,ih];by_cases h1:m∈r
  .rw[qY h1,qY (qi _ h1)]
  .rw[qZ h1];unfold fO;rw[o0];by_cases h2:m=x
   .subst h2;rw[qY rfl,qY qh]
   .have:¬((.inr m:Key)=.inr x):=fun z=>h2 (g9 z);rw[qZ this,qZ];intro z;rcases bZ.mp z with q|q
    .exact h2 q
    .exact h1 q
noncomputable def cC (js:ac JobT) (m:ai):aq JobT:=js.find? fun j=>decide (m∈j.ms)
theorem L5 (m:ai):∀(js:ac JobT) (acc:ac (Key×D)),(js.flatMap (·.ms)).Nodup->bd (js.foldl (fun acc j=>j.ms.foldl (fO j) acc) acc) (.inr m)=match cC js m with|some j=>aa (aX j)|none=>bd acc (.inr m):=by
 intro xs0
 induction xs0 with
 |nil=>
  intro acc _;exact rfl
 |cons j r ih=>
  intro acc nd;rw[rA,iJ] at nd;rw[fL,ih _ nd.2.1,NV];unfold cC;rw[eE];by_cases h1:m∈j.ms
  .have:r.find? (fun j=>decide (m∈j.ms))=af:=by rw[zo];intro x hx z;exact nd.2.2 m h1 m (GD.mpr ⟨x,hx,jt z⟩) rfl
   simp only[qU h1,this,qY h1]
  .simp only[qP h1,qZ h1]
def i4:aq JobT->D
 |some j=>aX j
 |none=>.non
theorem Ss {j:JobT} (h:cC js m=aa j):j∈js/\m∈j.ms:=⟨TN h,by have:=TQ h;exact jt this⟩
theorem Kw (g:Good bs ss js us ls ks h) (m:ai):vR [bH bs ss js us ls ks h,.str m]=aa (i4 (cC js m)):=by
 have hl:(ss.map (·.nm)).length<=40:=by rw[qg];exact g.sl.2
 have hp:Pl 8 (i4 (cC js m)):=by
  cases e:cC js m with
  |none=>trivial
  |some j=>exact wQ hl (g.j j (Ss e).1)
 refine bV [oS .(k),oS (.str m)] rfl (bU (aO (ax (aD (x:=.dk (jkv js)) (kK 10 rfl rfl) rfl ?_) aI) (gL hp)));show aa ((bd (jkv js) (.inr m)).getD .non)=_;unfold jkv;rw[L5 m js [] g.jm];cases cC js m<;>rfl
theorem wP:ny [bH bs ss js us ls ks h]=aa (.int h):=by unfold ny;exact bV [oS .(k)] rfl (bU (kK (bs:=bs) (ss:=ss) (js:=js) (us:=us) (ls:=ls) (ks:=ks) (h:=h) (fo:=vSh 0) 6 rfl rfl))
end
noncomputable def tx (l:ac ak):ai:=⟨l.toArray⟩
theorem we (a b:ac ak):tx a++tx b=tx (a++b):=by show(⟨a.toArray++b.toArray⟩:ai)=⟨(a++b).toArray⟩;rw[List.append_toArray]
theorem o4 (l:ac ak):(tx l).length=l.length:=by show l.toArray.size=_;simp
theorem P4:∀n:ak,n<26->("abcdefghijklmnopqrstuvwxyz":ai).cps.toList[n]?=aa (97+n):=by decide +kernel
theorem Ej:∀n:ak,n<26->az (97+n)=ah:=by decide +kernel
theorem Fa {i:aj} (h0:0<=i) (h:i<26):ixD (.str "abcdefghijklmnopqrstuvwxyz") (.int i)=aa (.str (tx [97+i.toNat])):=by obtain⟨n,rfl⟩:=ox h0;show(if ("abcdefghijklmnopqrstuvwxyz":ai).length<=aJ then (atI ("abcdefghijklmnopqrstuvwxyz":ai).cps.toList (n:aj)).map _ else af)=_;rw[qY .(z),iP,P4 n .(b)];rfl
theorem AY:∀cs:ac ak,Str.join "" (cs.map fun c=>tx [c])=tx cs
 |[]=>rfl
 |[c]=>rfl
 |c::d::r=>by show tx [c]++tx []++Str.join "" ((d::r).map fun c=>tx [c])=_;rw[AY (d::r),we,we];rfl
theorem NA:∀cs:ac ak,lA (cs.map fun c=>.str (tx [c]))=aa (cs.map fun c=>tx [c]):=by
 intro xs0
 induction xs0 with
 |nil=>
  exact rfl
 |cons c r ih=>
  show(lA (r.map fun c=>.str (tx [c]))).map (tx [c]::·)=_;rw[ih];rfl
theorem QR {cs:ac ak} (h:cs.length<=100):o9 (.str "") [.lst (cs.map fun c=>.str (tx [c]))]=aa (.str (tx cs)):=by
 show((lA (cs.map fun c=>.str (tx [c]))).bind fun ys=>if (ys.map (·.length)).sum+ys.length*("":ai).length<=16777216 then aa (D.str (F5 "" ys)) else af)=_;have h1:=StrLaws.sumLen_le (B:=1) (cs.map fun c=>tx [c]) (fun y hy=>by obtain⟨c,_,rfl⟩:=bz.mp hy;exact qw _);rw[NA,qc,qY (by rw[qg] at h1 ⊢;show _+cs.length*0<=_;omega)]
 show aa (D.str (Vs "" _))=_;rw[StrLaws.glued_eq_join,AY]
theorem K8 {xs:ac α} {d:aj} (h:0<=d):dq xs af (aa d)=xs.take d.toNat:=by
 unfold dq HT.sIx;simp only;rw[qZ .(b),p5,UD,zK];split
 .rfl
 .rw[mN (qw _),mN .(b)]
theorem Lo {xs:ac α} {d:aj} (h:0<=d):dq xs (aa d) af=xs.drop d.toNat:=by
 unfold dq HT.sIx;simp only;rw[qZ .(b),zK];split
 .rw[mN (by rw[jq];omega)]
 .rw[zL (qw _),zL .(b)];simp
theorem EH {l:ac ak} (hl:l.length<=100) (lo hi:aq aj):kU lo hi (.str (tx l))=aa (.str (tx (dq l lo hi))):=by show(if (tx l).length<=aJ then aa (D.str (kG (tx l) lo hi)) else af)=_;rw[qY (by rw[o4];unfold aJ;omega)];unfold kG tx;rfl
theorem wf {fl:bA->aq (aq aj)} {l h:aq aj} (h1:f ρ=aa d) (h2:fl ρ=aa l) (h3:fh ρ=aa h) (h4:kU l h d=aa z):slF f fl fh ρ=aa z:=by unfold slF;rw[h1,h2,h3];exact h4
theorem x9 {a b:ac ak} (h:a.length+b.length<=100):aW (.str (tx a)) (.str (tx b))=aa (.str (tx (a++b))):=by show(if (tx a).length+(tx b).length<=aJ then _ else _)=_;rw[qY (by rw[o4,o4];unfold aJ;omega),we]
noncomputable def qK (k:ak):ac ak:=if k<26 then [] else [113]
theorem wT (k:ak):(qK k).length<=1:=by unfold qK;split<;>simp
theorem Nc (k:ak):∀c∈qK k,az c=ah:=by
 unfold qK;split
 .intro c hc;cases hc
 .intro c hc;rw[bD.mp hc];decide
def nmK (l:ac ak) (a k:ak):ai:=tx (l.take a++[97+k*7%26]++qK k++l.drop a)
theorem MR {l:ac ak} {a:ak} (hl:l.length<=6) (hz:∀c∈l,az c=ah) (k:ak):bf (nmK l a k)=ah:=by
 have h0:(l.take a).length+(l.drop a).length=l.length:=by rw[←qk,zn]
 have hq:=wT k;unfold bf nmK;rw[o4];simp only[eX,Gc];refine⟨⟨by simp only[qk,qj,qm];omega,by simp only[qk,qj,qm];omega⟩,?_⟩;show(l.take a++[97+k*7%26]++qK k++l.drop a).all az=ah;rw[ia];intro c hc;rcases cT.mp hc with hc|hc
 .rcases cT.mp hc with hc|hc
  .rcases cT.mp hc with hc|hc
   .exact hz c (p9 hc)
   .rw[bD.mp hc];exact Ej _ .(b)
  .exact Nc k c hc
 .exact hz c (TM hc)
theorem NU {l:ac ak} {a:ak} (ha:a<=l.length) (h:nmK l a i=nmK l a j):i*7%26=j*7%26/\(i<26↔j<26):=by
 unfold nmK tx at h;have h:=bO (fun s:ai=>s.cps.toList) h;simp only[pV] at h;have h:=List.append_cancel_left h;have hl:=bO cI h;simp only[qk,qj,qm] at hl;simp at h;refine⟨by omega,?_⟩;unfold qK at hl;constructor
 .intro h1;rw[qY h1] at hl;by_cases h2:j<26
  .exact h2
  .rw[qZ h2] at hl;simp at hl
 .intro h1;rw[qY h1] at hl;by_cases h2:i<26
  .exact h2
  .rw[qZ h2] at hl;simp at hl
theorem Ha {l:ac ak} {a m:ak} (ha:a<=l.length) (hm:m<=52):((ck m).map (nmK l a)).Nodup:=by refine u5.mpr (Gg ?_ (TZ (n:=m)));intro i j hi hj hlt e;have:=NU ha e;have:=fH.mp hj;omega
theorem BN {α:Type} {fe:FE} {r:bA} {m:α->D} {Q:ak->α->Prop}:∀(n s:ak) (a:aq Slot),(∀i,s<=i->i<s+n->Wp (fe (oS (.int (0+(i:aj)))::r)) fun d=>∃x,d=m x/\Q i x)->Wp (cg (aA 0) tT fe ((zM s n).map fun i:ak=>D.int (0+(i:aj))) (a::r)) fun l=>∃xs:ac α,l=xs.map m/\xs.length=n/\∀i x,xs[i]?=aa x->Q (s+i) x
 |0,s,a,_=>⟨[],rfl,[],rfl,rfl,fun i x h=>by simp at h⟩
 |n+1,s,a,h=>by
  obtain⟨_,e,x,rfl,q⟩:=h s (qw _) .(b);obtain⟨_,e2,xs,rfl,hl,hq⟩:=BN (m:=m) (Q:=Q) n (s+1) (oS (.int (0+(s:aj)))) fun i h1 h2=>h i .(b) .(b);refine⟨(x::xs).map m,?_,x::xs,rfl,by rw[qj,hl],fun i y hy=>?_⟩
  .rw[GE,qo];show((fe (oS (.int (0+(s:aj)))::r)).bind fun d=>(cg (aA 0) tT fe _ (oS (.int (0+(s:aj)))::r)).map (d::·))=_;rw[e,qc,e2];rfl
  .cases i with
   |zero=>simp at hy;subst hy;exact q
   |succ i=>
    have:=hq i y (by simpa using hy);rw[show s+1+i=s+(i+1) by omega] at this;exact this
theorem CT {m:α->D} (Q:ak->α->Prop) {P:D->Prop} (hf:Wp (fr ρ) fun l=>l=[.int (n:aj)]) (hn:n<=1000) (hv:eS fv ρ=af::r) (h:∀i,i<n->Wp (fe (oS (.int (i:aj))::r)) fun d=>∃x,d=m x/\Q i x) (p:∀xs:ac α,xs.length=n->(∀i x,xs[i]?=aa x->Q i x)->P (.lst (xs.map m))):Wp (aS (ba (itR dM fr) (aA 0) tT fe fv) ρ) P:=by
 obtain⟨_,e,rfl⟩:=hf;obtain⟨_,e2,xs,rfl,hl,hq⟩:=BN (fe:=fe) (r:=r) (m:=m) (Q:=Q) n 0 af fun i _ h2=>by rw[zJ];exact h i .(b)
 refine⟨.lst (xs.map m),?_,p xs hl fun i x hx=>by have:=hq i x hx;rw[ly] at this;exact this⟩;unfold aS ba;rw[vy e (vW ⟨by omega,by omega⟩),qc,qY (by rw[qg,qW];unfold aJ;omega),hv,ig,UG,e2];rfl
abbrev nmE (c m:aj) (l:ac ak) (a:aj) (ns:ac ai) (k:aq Slot):bA:=[oS (.int c),oS (.int m),oS (.str "abcdefghijklmnopqrstuvwxyz"),oS (.str (tx l)),oS (.int a),aa (.own (ns.map D.str)),k]
theorem OK (c:aj) {m:ak} (hm:m<=40):Wp (tN [.int c,.int m]) fun d=>∃ns:ac ai,d=.lst (ns.map D.str)/\ns.length=m/\ns.Nodup/\∀x∈ns,bf x=ah:=by
 obtain⟨e0,a0,a1⟩:=dG c (k:=0) (m:=7) .(c) .(c) .(c);unfold tN;refine dL (bB (w_c (bB (dA (w_c (dA (bc (CT (m:=fun c:ak=>.str (tx [c])) (n:=(drw c 0 7).toNat) (fun _ c=>az c=ah) ⟨_,ax (aO rfl e0) aI,by rw[Int.toNat_of_nonneg a0]⟩ .(b) rfl ?_ fun cs cl cz=>cb ?_))))))))
 .intro i hi;refine w_2 (bj rfl (cx (k:=3+(i:aj)) (m:=26) rfl rfl rfl .(b) .(b) .(c) fun q0 q1=>aK (Fa q0 q1) ⟨_,rfl,Ej _ .(b)⟩))
 refine aK (QR .(b)) ?_;have cz:∀c∈cs,az c=ah:=fun c hc=>by obtain⟨i,hi⟩:=Gz hc;exact cz i c hi
 have l6:cs.length<=6:=by omega
 refine bB (cx (k:=1) (m:=(cs.length:aj)+1) rfl rfl (aD (x:=.int cs.length) (aO .(v) ?_) rfl rfl) .(c) .(c) .(b) fun q0 q1=>nM ?_)
 .show(if (tx cs).length<=aJ then aa (D.int ((tx cs).length:ak)) else af)=_;rw[o4,qY (by unfold aJ;omega)]
 obtain⟨a,ha⟩:=ox q0;rw[ha] at q1;rw[ha];refine cL (fg (fun i ρ=>∃k,ρ=nmE c m cs a ((ck i).map (nmK cs a)) k/\i<=m) (iw (bc (bj rfl (cb ⟨m,rfl,by omega,by omega,⟨af,rfl,eW _⟩,?_,?_⟩)))))
 .rintro k x ρ hx ⟨z,rfl,_⟩;obtain⟨hk,rfl⟩:=iC hx;rw[ig] at hk;have t0:(cs.take a).length+(cs.drop a).length=cs.length:=by rw[←qk,zn]
  refine aK rfl (Ff (m:=D.str) (xs:=(ck k).map (nmK cs a)) (nmK cs a k) rfl (by rw[qg,qW];omega) (aK (aD (z:=.str (nmK cs a k)) (aD (z:=.str (tx (cs.take a++[97+k*7%26]++qK k))) (aD (z:=.str (tx (cs.take a++[97+k*7%26]))) (wf rfl rfl rfl (EH .(b) _ _)) (aD rfl (aD (x:=.int ((k:aj)*7)) (aD rfl rfl NQ) rfl rfl) (Fa .(b) .(b))) ?_) (aD (x:=.lst [.str "",.str "q"]) (y:=.int ((k:aj) / 26)) (z:=.str (tx (qK k))) rfl .(be) ?_) ?_) (wf rfl rfl rfl (EH .(b) _ _)) ?_) ⟨rfl,rfl,oS (.int k),?_,by omega⟩))
  .rw[K8 .(b),ig,show((k:aj)*7%26).toNat=k*7%26 by omega];exact x9 (by simp only[qj,qm];omega)
  .unfold qK;by_cases hk2:k<26
   .rw[qY hk2,show(k:aj) / 26=0 by omega];rfl
   .rw[qZ hk2,show(k:aj) / 26=1 by omega];rfl
  .exact x9 (by have:=wT k;simp only[qk,qj,qm];omega)
  .rw[Lo .(b),ig];exact x9 (by have:=wT k;simp only[qk,qj,qm];omega)
  .rw[show ck (k+1)=ck k++[k] from List.range_succ,dF (f:=nmK cs a)];rfl
 .rintro ρ ⟨k,rfl,hl⟩;refine⟨rfl,nu (ds:=((ck _).map (nmK cs a)).map D.str) rfl (eR (bj rfl ⟨_,rfl,_,rfl,by simp,Ha .(b) (by simp;omega),fun x hx=>?_⟩))⟩;obtain⟨k,_,rfl⟩:=bz.mp hx;exact MR l6 cz k
theorem xG {l:ac ai} {n:aj} {P:D->Prop} (h0:0<=n) (h1:n<l.length) (p:∀s∈l,P (.str s)):Wp (ixD (.lst (l.map D.str)) (.int n)) P:=
 mr h0 (by rw[qg];exact h1) fun d hd=>by obtain⟨s,hs,rfl⟩:=bz.mp hd;exact p s hs
theorem La {a b:aj} {P:D->Prop} (p:P (.int (if b > a then b else a))):Wp (iL [.int a,.int b]) P:=⟨_,rfl,p⟩
noncomputable def kd3:ac ai:=["cut","glue","paint"]
theorem Kf:∀s∈kd3,bf s=ah:=by decide +kernel
abbrev seE (c:aj) (nm:ai) (bs:ac BenchT) (h:aj) (kd:ai) (a:aj) (rt:ac BenchT) (ws:ac (ai×aj)) (x y z:aq Slot):bA:=[oS (.int c),oS (.str nm),oS .(av),oS (.int h),oS (.str kd),oS (.int a),oS (.lst (rt.map bK)),aa (.own (ws.map dW)),x,y,z]
theorem CA {m:α->D} {x y:ac α} (h:x.length+y.length<=1000):aW (.lst (x.map m)) (.lst (y.map m))=aa (.lst ((x++y).map m)):=by rw[dF];exact qY (by rw[qg,qg];unfold aJ;omega)
theorem AD {a b:aj} (a0:0<=a) (a1:a<2) (b0:0<=b) (b1:b<4):0<=a*b/\a*b<=3:=by rcases(show a=0\/a=1 by omega) with rfl|rfl<;>omega
theorem Jn (c:aj) {nm:ai} {bs:ac BenchT} (hn:bf nm=ah) (hb:1<=bs.length/\bs.length<=8) (nd:(bs.map (·.nm)).Nodup) (hh:1<=h):Wp (t4 [.int c,.str nm,.lst (bs.map bK),.int h]) fun d=>∃s:StepT,d=bm s/\s.nm=nm/\GoodS (bs.map (·.nm)) h s:=by
 have bl:b9 [.lst (bs.map bK)]=aa (.int bs.length):=by show aa (D.int (bs.map bK).length)=_;rw[qg]
 unfold t4;refine dL (bB (w_2 (aK (a:=.lst (kd3.map D.str)) rfl (cx (k:=0) (m:=3) rfl rfl rfl .(c) .(c) .(c) fun q0 q1=>xG q0 q1 fun kd hk=>?_))));refine bB (cx (k:=1) (m:=bs.length) rfl rfl (aO rfl bl) .(c) .(c) .(b) fun q2 q3=>?_);obtain⟨a,ha⟩:=ox q2;rw[ha] at q3 ⊢;obtain⟨e4,a0,a1⟩:=dG c (k:=2) (m:=2) .(c) .(c) .(c);obtain⟨e5,b0,b1⟩:=dG c (k:=3) (m:=4) .(c) .(c) .(c);obtain⟨n,hn4⟩:∃n:ak,1+drw c 2 2*drw c 3 4=n:=⟨(1+drw c 2 2*drw c 3 4).toNat,by have:=AD a0 a1 b0 b1;omega⟩;have n4:1<=n/\n<=4:=by have:=AD a0 a1 b0 b1;omega
 have len:.(bB).length=bs.length:=by rw[qk,jq,qF];omega
 have pm:.(bB).Perm bs:=by have:=List.perm_append_comm (l₁:=bs.drop a) (l₂:=bs.take a);rw[zn] at this;exact this
 refine bB ⟨.lst ((.(bB).take n).map bK),?_,nM ?_⟩
 .refine(z9 (xs:=.(bB).map bK) (d:=n) (aD (x:=.lst ((bs.drop a).map bK)) (y:=.lst ((bs.take a).map bK)) ?_ ?_ (CA (by rw[←qk,len];omega))) (aD rfl (aD (aO rfl e4) (aO rfl e5) (qY (.inl (by rw[kB];omega)))) (bO (fun x=>aa (D.int x)) hn4)) .(b)).trans ?_
  .refine(CZ (xs:=bs.map bK) (d:=a) rfl rfl .(b)).trans ?_;rw[ig,UF]
  .refine(z9 (xs:=bs.map bK) (d:=a) rfl rfl .(b)).trans ?_;rw[ig,zN]
  .rw[ig,zN]
 have rl:(.(bB).take n).length<=4/\1<=(.(bB).take n).length:=by rw[qF,len];omega
 have rn:((.(bB).take n).map (·.nm)).Nodup:=by refine rB ((mH _ _).map _) ?_;exact((pm.map (·.nm)).nodup_iff).mpr nd
 have rm:∀b∈.(bB).take n,b∈bs:=fun b hb=>pm.subset (p9 hb);generalize .(bB).take n=rt at rl rn rm ⊢;refine cL (fg (fun i ρ=>∃(ws:ac (ai×aj)) (x y z:aq Slot),ρ=seE c nm bs h kd a rt ws x y z/\ws.map (·.1)=(rt.take i).map (·.nm)/\∀w∈ws,1<=w.2/\w.2<=h) (aK (a:=(rt.map bK).mapIdx fun i d=>D.tup [.int i,d]) rfl ⟨⟨[],af,af,af,rfl,by simp,fun _ z=>nomatch z⟩,?_,?_⟩))
 .rintro i x ρ hx ⟨ws,x',y,z,rfl,hw,hg⟩;obtain⟨_,hy,rfl⟩:=Cc hx;rw[ql] at hy;obtain⟨b,hb',rfl⟩:=oMd hy;have hi:i<rt.length:=(fJ.mp hb').1;have wl:ws.length<=4:=by have:=bO cI hw;rw[qg,qg,qF] at this;omega
  have mn:=yi (a:=5) (b:=h);have fin:∀m:aj,1<=m->m<=h->Wp (gb 7 X7 (seE c nm bs h kd a rt ws (oS (.int i)) (oS (bK b)) (oS (.int m)))) fun r=>r.1=.nx/\∃(ws:ac (ai×aj)) (x y z:aq Slot),r.2=seE c nm bs h kd a rt ws x y z/\ws.map (·.1)=(rt.take (i+1)).map (·.nm)/\∀w∈ws,1<=w.2/\w.2<=h:=by
   intro m m1 mh;refine tu (m:=dW) (xs:=ws) rfl .(b) (jL (bc (aK (aD rfl rfl dc) (bc (gA (bc (w_c (bc (ya (k:=4+2*(i:aj)) (m:=m) rfl .(aq) rfl .(b) .(b) .(b) fun v v0 v1=>cb (La (cb ⟨by simp,(b.nm,if v > 1 then v else 1),rfl,rfl,ws++[(b.nm,if v > 1 then v else 1)],_,_,_,rfl,?_,fun w hw=>?_⟩)))))))))))
   .rw[dF,hw,wL _ hb'];rfl
   .rcases cT.mp hw with hw|hw
    .exact hg w hw
    .rw[bD.mp hw];show 1<=(if v > 1 then v else 1)/\(if v > 1 then v else 1)<=h;split<;>omega
  exact aK rfl (bB (w_2 (aK (a:=.lst [.int h,.int (if h<5 then h else 5)]) rfl (cx (k:=13) (m:=2) rfl rfl rfl .(c) .(c) .(c) fun q0 q1=>mr q0 q1 (oY (fin _ hh (GA _)) (fin _ .(b) .(b)))))))
 .rintro ρ ⟨ws,x,y,z,rfl,hw,hg⟩;rw[zf,qg,iH] at hw;have wl:ws.length=rt.length:=by have:=bO cI hw;simpa using this
  refine⟨rfl,nu (ds:=ws.map dW) rfl (eR (jL (bc (bj rfl (bc (bj rfl (bc (bj rfl (cb ⟨by simp,_,rfl,⟨nm,kd,ws⟩,rfl,rfl,hn,Kf kd hk,by show 1<=ws.length;omega,by show ws.length<=4;omega,fun w hw'=>⟨?_,hg w hw'⟩,by rw[hw];exact rn⟩))))))))) ⟩;have:w.1∈ws.map (·.1):=qX hw';rw[hw] at this;obtain⟨b,hb2,e⟩:=bz.mp this;rw[←e];exact qX (rm b hb2)
noncomputable abbrev Es:=ac (ac ai×aj)
noncomputable def dKV (es:Es):ac .(ah):=es.map fun e=>(e.1.map bX,.int e.2)
theorem tq {a b:ac ai} :a.map (bX:ai->Key)=b.map bX↔a=b:=Gx fun _ _=>g9
theorem DQ {es:Es} {t:ac ai} {n:aj} {A:ac ai->Prop} {B:aj->Prop} (nd:(es.map (·.1)).Nodup) (al:∀e∈es,A e.1/\B e.2) (pt:A t) (pn:B n):∃es':Es,bQ (dKV es) (t.map bX) (.int n)=dKV es'/\(es'.map (·.1)).Nodup/\(∀e∈es',A e.1/\B e.2)/\es'.length<=es.length+1:=by
 unfold bQ;split
 .refine⟨es.map fun e=>if e.1=t then (e.1,n) else e,?_,?_,fun e he=>?_,by rw[qg];omega⟩
  .unfold dKV;rw[qp,qp];refine gj fun e _=>?_;show(if e.1.map bX=t.map bX then _ else _)=_;by_cases h:e.1=t
   .rw[qY (tq.mpr h)];simp[h]
   .rw[qZ (fun z=>h (tq.mp z))];simp[h]
  .rw[qp];have:es.map ((·.1) ∘ fun e=>if e.1=t then (e.1,n) else e)=es.map (·.1):=gj fun e _=>by show(if e.1=t then (e.1,n) else e).1=e.1;split<;>rfl
   rw[this];exact nd
  .obtain⟨e0,h0,rfl⟩:=bz.mp he;split
   .exact⟨(al e0 h0).1,pn⟩
   .exact al e0 h0
 .rename_i hno;refine⟨es++[(t,n)],by unfold dKV;rw[dF];rfl,?_,fun e he=>?_,by rw[qk];exact qw _⟩
  .rw[dF];refine iJ.mpr ⟨nd,by simp,fun x hx y hy e=>hno ?_⟩;obtain⟨z,hz,rfl⟩:=bz.mp hx;have hy:y=t:=by simpa using hy
   exact vg.mpr ⟨_,qX hz,qU (tq.mpr (e.trans hy))⟩
  .rcases cT.mp he with he|he
   .exact al e he
   .rw[bD.mp he];exact⟨pt,pn⟩
theorem Du:∀{es:Es} {e:ac ai×aj},(es.map (·.1)).Nodup->e∈es->bd (dKV es) (e.1.map bX)=aa (.int e.2):=by
 intro xs0
 induction xs0 with
 |nil=>
  intro _ _ h;exact nomatch h
 |cons x r ih=>
  intro e nd he;rw[qo,cU] at nd;unfold bd dKV;rw[qo,eE];rcases bZ.mp he with rfl|he
  .simp
  .have hne:¬(x.1.map (bX:ai->Key)=e.1.map bX):=fun z=>nd.1 (by rw[tq.mp z];exact qX he);simp only[qP hne];exact ih nd.2 he
theorem JX {k m:α->D} :∀{xs:ac α} {a:aq Slot},(∀x∈xs,fe (oS (k x)::r)=aa (m x))->cg (aA 0) tT fe (xs.map k) (a::r)=aa (xs.map m):=by
 intro xs0
 induction xs0 with
 |nil=>
  intro _ _;exact rfl
 |cons x xs ih=>
  intro a h;show((fe (oS (k x)::r)).bind fun d=>(cg (aA 0) tT fe (xs.map k) (oS (k x)::r)).map (d::·))=_;rw[h x qh,qc,ih fun y hy=>h y (qi _ hy)];rfl
theorem Bx {es:Es} (v:aj->aj) (h:ρ[i]?=aa (oS (.dt (dKV es)))) (hl:es.length<=1000) (hs:∀e∈es,0<e.1.length/\e.1.length<=10) (hv:eS fv ((ρ.map kx).set i (oS (.fdt (dKV es))))=af::r)
  (he:∀e∈es,fe (oS (.tup (e.1.map D.str))::r)=aa (.int (v e.2))):nJ i (aS (ba (kL (vSh i)) (aA 0) tT (b2 jU (vSh 0) (bo (szF (ag fe ao)))) fv)) ρ=aa (.lst (es.map fun e=>.tup (e.1.map D.str++[.int (v e.2)]))):=by
 have hi:i < ρ.length:=(fJ.mp h).1;have e1:kL (vSh i) ((ρ.map kx).set i (oS (.fdt (dKV es))))=aa (es.map fun e=>.tup (e.1.map D.str)):=by unfold kL vSh;rw[nR (by rw[qg];exact hi)];show aa ((dKV es).map fun kv=>D.tup (kv.1.map eA))=_;unfold dKV;rw[qp];refine bO aa (gj fun e _=>?_);show D.tup ((e.1.map bX).map eA)=_;rw[qp];rfl
 unfold nJ;rw[h];show(if ((dKV es).map (·.2)).all fW=ah then _ else _)=_;rw[qY (by unfold dKV;rw[qp,vh,ia];intro x _;rfl)]
 have e2:aS (ba (kL (vSh i)) (aA 0) tT (b2 jU (vSh 0) (bo (szF (ag fe ao)))) fv) ((ρ.map kx).set i (oS (.fdt (dKV es))))=aa (.lst (es.map fun e=>.tup (e.1.map D.str++[.int (v e.2)]))):=by
  unfold aS ba;rw[e1,qc,qY (by rw[qg];unfold aJ;omega),hv];rw[JX (k:=fun e:ac ai×aj=>D.tup (e.1.map D.str)) (m:=fun e=>.tup (e.1.map D.str++[.int (v e.2)]))]
  .rfl
  .intro e hm;show b2 jU (vSh 0) (bo (szF (ag fe ao))) (oS (.tup (e.1.map D.str))::r)=aa (.tup (e.1.map D.str++[.int (v e.2)]));refine aD (y:=.tup [.int (v e.2)]) rfl ?_ ?_
   .unfold bo szF;rw[ax (he e hm) aI];rfl
   .refine qY ⟨?_,by simp,by rw[qg];have:=hs e hm;simp only[qj,qm];unfold aJ;omega⟩;intro z;have:=hs e hm;rw[UH] at z;rw[z] at this;simp at this
 rw[e2,qc,qY];show(es.map fun e=>D.tup (e.1.map D.str++[.int (v e.2)])).all tfD=ah;rw[vh,ia];intro e _;show(e.1.map D.str++[D.int (v e.2)]).all fW=ah;rw[List.all_append,vh];simp only[eX,ia];exact⟨fun _ _=>rfl,fun x hx=>by rw[bD.mp hx];rfl⟩
theorem CJ {es:Es} {t:ac ai} {fv:FE} (hs:ρ[i]?=aa (aa (.odt (dKV es)))) (hl:es.length<=1000) (hk:fk ρ=aa (.tup (t.map D.str))) (hv:Wp (fv ρ) fun d=>∃n,d=.int n/\R (.nx,ρ.set i (aa (.odt (bQ (dKV es) (t.map bX) (.int n)))))):Wp (dZ i fk fv ρ) R:=by obtain⟨_,e,n,rfl,k⟩:=hv;refine⟨_,?_,k⟩;unfold dZ;rw[e,hk,hs];show((eC (t.map D.str)).bind _)=_;rw[m6];exact qY (by unfold dKV;rw[qg];omega)
theorem Sd {P:aN->Prop} (h:ρ[i]?=aa (aa (.odt kvs))) (k:Wp (ft (ρ.set i (oS (.dt kvs)))) P):Wp (pK i ft ρ) P:=by unfold pK;rw[h];exact k
noncomputable def LkA (ss:ac StepT) (t:ac ai):Prop:=∃a b,t=[a,b]/\a∈ss.map (·.nm)/\b∈ss.map (·.nm)/\a≠b
abbrev prW (c:aj) (ss:ac StepT) (es:Es) (x y z:aq Slot):bA:=[oS (.int c),oS (.int 50),oS .(V),aa (.odt (dKV es)),x,y,z]
theorem Ow (c:aj) (hs:1<=ss.length/\ss.length<=40):Wp (sr [.int c,.int 50,.lst (ss.map bm)]) fun d=>∃es:Es,d=.dt (dKV es)/\es.length<=5/\(es.map (·.1)).Nodup/\∀e∈es,LkA ss e.1/\0<=e.2/\e.2<5:=by
 have sl:b9 [.lst (ss.map bm)]=aa (.int ss.length):=by show aa (D.int (ss.map bm).length)=_;rw[qg]
 unfold sr;refine dL (cL (aK (a:=(.nx,prW c ss [] af af af)) rfl ⟨rfl,cL (fg (fun i ρ=>∃(es:Es) (x y z:aq Slot),ρ=prW c ss es x y z/\es.length<=i/\(es.map (·.1)).Nodup/\∀e∈es,LkA ss e.1/\0<=e.2/\e.2<5) (iw (bc (cx (k:=50) (m:=6) rfl rfl rfl .(c) .(c) .(c) fun q0 q1=>cb ⟨_,rfl,q0,by omega,⟨[],af,af,af,rfl,qw _,jr,fun _ z=>nomatch z⟩,?_,?_⟩))))⟩))
 .rintro i x ρ hx ⟨es,x',y,z,rfl,hl,nd,al⟩;obtain⟨hi,rfl⟩:=iC hx;refine aK rfl (bB (wy rfl (cx (k:=50+1+3*(i:aj)) (m:=ss.length) rfl .(aq) (aO rfl sl) .(b) .(b) .(b) fun a0 a1=>⟨_,rfl,a0,a1,?_⟩)));refine bB (wy rfl (cx (k:=50+2+3*(i:aj)) (m:=ss.length) rfl .(aq) (aO rfl sl) .(b) .(b) .(b) fun b0 b1=>⟨_,rfl,b0,b1,?_⟩));have m1:=D2 (ss:=ss) (i:=(drw c (50+1+3*(i:aj)) ss.length).toNat) .(b);have m2:=D2 (ss:=ss) (i:=(drw c (50+2+3*(i:aj)) ss.length).toNat) .(b);generalize snm ss (drw c (50+1+3*(i:aj)) ss.length).toNat=o1 at m1 ⊢;generalize snm ss (drw c (50+2+3*(i:aj)) ss.length).toNat=o2 at m2 ⊢;refine eP (Sd (kvs:=dKV es) rfl (JN (iT (w_2 (bj rfl (bj rfl (aK (Fd _ _) ⟨_,rfl,?_⟩)))))));by_cases e:o1=o2
  .rw[qU e];exact⟨.(L),fun _=>fX ⟨rfl,es,_,_,_,rfl,by omega,nd,al⟩⟩
  .rw[qP e];refine iT (w_2 (aK (iX rfl rfl) (bj rfl (aK (a:=.bl (!(bd (dKV es) (kk o1 o2)).isSome)) rfl ⟨_,rfl,fun _=>?_,fun _=>fX ⟨rfl,es,_,_,_,rfl,by omega,nd,al⟩⟩))));refine CJ (t:=[o1,o2]) rfl .(b) (iX rfl rfl) (cx (k:=50+3+3*(i:aj)) (m:=5) rfl .(aq) rfl .(b) .(b) .(c) fun g0 g1=>⟨_,rfl,rfl,?_⟩);obtain⟨es',e1,e2,e3,e4⟩:=DQ (A:=LkA ss) (B:=fun n=>0<=n/\n<5) nd al ⟨o1,o2,rfl,m1,m2,e⟩ ⟨g0,g1⟩;rw[e1];exact⟨es',_,_,_,rfl,by omega,e2,e3⟩
 .rintro ρ ⟨es,x,y,z,rfl,hl,nd,al⟩;exact⟨rfl,eR (ρ:=[oS (.int c),oS (.int 50),oS .(V),oS (.dt (dKV es)),x,y,z]) (bj rfl ⟨_,rfl,es,rfl,by simp at hl;omega,nd,al⟩)⟩
noncomputable def kd4:ac ai:=["cut","glue","paint","rest"]
theorem EB:∀s∈kd4,bf s=ah:=by decide +kernel
noncomputable def yj (bs:ac BenchT) (t:ac ai):Prop:=∃b p q,t=[b,p,q]/\b∈bs.map (·.nm)/\bf p=ah/\bf q=ah
abbrev sxE (c:aj) (bs:ac BenchT) (h:aj) (es:Es) (x y:aq Slot):bA:=[oS (.int c),oS .(av),oS (.int h),oS (.lst (kd4.map D.str)),aa (.odt (dKV es)),x,y]
theorem PL (c:aj) {bs:ac BenchT} (hh:1<=h) (hb:1<=bs.length/\bs.length<=8):Wp (tW [.int c,.lst (bs.map bK),.int h]) fun d=>∃es:Es,d=.lst (es.map fun e=>.tup (e.1.map D.str++[.int e.2]))/\es.length<=11/\(es.map (·.1)).Nodup/\∀e∈es,yj bs e.1/\1<=e.2/\e.2<=h:=by
 have bl:b9 [.lst (bs.map bK)]=aa (.int bs.length):=by show aa (D.int (bs.map bK).length)=_;rw[qg]
 have mn:=yi (a:=h) (b:=4);unfold tW;refine dL (bB (aK (a:=.lst (kd4.map D.str)) rfl (cL (aK (a:=(.nx,sxE c bs h [] af af)) rfl ⟨rfl,cL (fg (fun i ρ=>∃(es:Es) (x y:aq Slot),ρ=sxE c bs h es x y/\es.length<=i/\(es.map (·.1)).Nodup/\∀e∈es,yj bs e.1/\1<=e.2/\e.2<=h) (iw (bc (cx (k:=0) (m:=12) rfl rfl rfl .(c) .(c) .(c) fun q0 q1=>cb ⟨_,rfl,q0,by omega,⟨[],af,af,rfl,qw _,jr,fun _ z=>nomatch z⟩,?_,?_⟩))))⟩))))
 .rintro i x ρ hx ⟨es,x',y,rfl,hl,nd,al⟩;obtain⟨hi,rfl⟩:=iC hx;refine aK rfl (bB (jL (bc (Ky rfl (cx (k:=1+4*(i:aj)) (m:=bs.length) rfl .(aq) (aO rfl bl) .(b) .(b) .(b) fun a0 a1=>⟨_,rfl,a0,a1,bc (w_2 (bj rfl (cx (k:=2+4*(i:aj)) (m:=4) rfl .(aq) rfl .(b) .(b) .(c) fun b0 b1=>xG b0 b1 fun p hp=>cb ⟨by simp,?_⟩)))⟩)))));have m1:=Nk (bs:=bs) (i:=(drw c (1+4*(i:aj)) bs.length).toNat) .(b);generalize bnm bs (drw c (1+4*(i:aj)) bs.length).toNat=b at m1 ⊢;refine bB (w_2 (bj rfl (jL (bc (w_2 (bj rfl (cx (k:=3+4*(i:aj)) (m:=4) rfl .(aq) rfl .(b) .(b) .(c) fun b0 b1=>xG b0 b1 fun q hq=>cb ⟨by simp,aK (a:=.tup ([b,p,q].map D.str)) rfl ?_⟩)))))));refine CJ (es:=es) (t:=[b,p,q]) rfl .(b) rfl (w_2 (w_c (cx (k:=4+4*(i:aj)) (m:=if 4<h then 4 else h) rfl .(aq) rfl .(b) .(b) .(b) fun g0 g1=>fA ⟨_,rfl,rfl,?_⟩)));obtain⟨es',e1,e2,e3,e4⟩:=DQ (A:=yj bs) (B:=fun n=>1<=n/\n<=h) nd al ⟨b,p,q,rfl,m1,EB p hp,EB q hq⟩ (show 1<=1+drw c (4+4*(i:aj)) (if 4<h then 4 else h)/\_<=h from⟨by omega,by omega⟩);rw[e1];exact⟨es',_,_,rfl,by omega,e2,e3⟩
 .rintro ρ ⟨es,x,y,rfl,hl,nd,al⟩;have hl2:es.length<=11:=by simp at hl;omega
  refine⟨rfl,eR (ρ:=[oS (.int c),oS .(av),oS (.int h),oS (.lst (kd4.map D.str)),oS (.dt (dKV es)),x,y]) (aK (Bx (fun n=>n) rfl .(b) (fun e he=>?_) rfl fun e he=>?_) ⟨_,rfl,es,rfl,hl2,nd,al⟩)⟩
  .obtain⟨⟨b,p,q,e0,_⟩,_⟩:=al e he;rw[e0];exact⟨by simp,by simp⟩
  .refine aD rfl rfl ?_;show((eC (e.1.map D.str)).map (bd (dKV es))).bind id=_;rw[m6,qf,Du nd he];rfl
noncomputable def en:ak->ac D->ac D
 |_,[]=>[]
 |s,x::r=>.tup [.int s,x]::en (s+1) r
theorem RQ:∀(xs:ac D) (s:ak),xs.mapIdx (fun i d=>D.tup [.int ((s+i:ak):aj),d])=en s xs:=by
 intro xs0
 induction xs0 with
 |nil=>
  intro _;exact rfl
 |cons x r ih=>
  intro s;rw[List.mapIdx_cons];show _::_=_::en (s+1) r;rw[←ih (s+1)]
  congr 1
  congr 1
  funext i d
  rw[show s+(i+1)=s+1+i by omega]
theorem en0 (xs:ac D):(xs.mapIdx fun i d=>D.tup [.int (i:aj),d])=en 0 xs:=by
 rw[←RQ xs 0]
 congr 1
 funext i d
 rw[ly]
theorem zY {fe:FE} {ft:FT} {r:bA} {v:ak->aj} (hv:∀i,1<=v i/\v i<=3) (h1:∀(i:ak) s,∃b,ft (oS (.int i)::oS (bm s)::r)=aa b) (h2:∀(i:ak) s,fe (oS (.int i)::oS (bm s)::r)=aa (dW (s.nm,v i))):∀(ss:ac StepT) (k:ak) (a b:aq Slot),∃am:ac (ai×aj),cg .(P) ft fe (en k (ss.map bm)) (a::b::r)=aa (am.map dW)/\(am.map (·.1)).Sublist (ss.map (·.nm))/\∀w∈am,1<=w.2/\w.2<=3
 |[],k,a,b=>⟨[],rfl,UI _,fun _ z=>nomatch z⟩
 |s::ss,k,a,b=>by
  obtain⟨am,e,sb,g⟩:=zY hv h1 h2 ss (k+1) (oS (.int k)) (oS (bm s));obtain⟨t,ht⟩:=h1 k s;have e1:cg .(P) ft fe (en k ((s::ss).map bm)) (a::b::r)=(ft (oS (.int k)::oS (bm s)::r)).bind fun t=>if t=ah then (fe (oS (.int k)::oS (bm s)::r)).bind fun d=>(cg .(P) ft fe (en (k+1) (ss.map bm)) (oS (.int k)::oS (bm s)::r)).map (d::·) else cg .(P) ft fe (en (k+1) (ss.map bm)) (oS (.int k)::oS (bm s)::r):=rfl
  rw[e1,ht,qc,e,h2,qc];cases t with
  |false=>exact⟨am,rfl,Vt _ sb,g⟩
  |true=>exact⟨(s.nm,v k)::am,rfl,Vu _ sb,fun w hw=>(bZ.mp hw).elim (fun e=>by rw[e];exact hv k) (g w)⟩
theorem Bh {n:aj} {fi:FE} {P:D->Prop} (v:ak->aj) (hf:fi ρ=aa .(V)) (hs:ss.length<=40) (nd:(ss.map (·.nm)).Nodup) (hr:eS fv ρ=af::af::r) (hv:∀i,1<=v i/\v i<=3) (h1:∀(i:ak) s,∃b,ft (oS (.int i)::oS (bm s)::r)=aa b) (h2:∀(i:ak) s,fe (oS (.int i)::oS (bm s)::r)=aa (dW (s.nm,v i))) (p:∀am,GoodA (ss.map (·.nm)) am->P (.lst (am.map dW))):Wp (aS (ba (itE fi) .(P) ft fe fv) ρ) P:=by
 obtain⟨am,e,sb,g⟩:=zY hv h1 h2 ss 0 af af;refine⟨.lst (am.map dW),?_,p am ⟨by have:=sb.length_le;simpa using this,fun w hw=>⟨sb.subset (qX hw),(g w hw).1,by have:=(g w hw).2;omega⟩,sb.nodup nd⟩⟩;have i0:itE fi ρ=aa (en 0 (ss.map bm)):=by unfold itE;rw[hf,←en0];rfl
 have el:(en 0 (ss.map bm)).length<=aJ:=by rw[←en0,zf,qg];unfold aJ;omega
 unfold aS ba;rw[i0,qc,qY el,hr,e];rfl
noncomputable def sN2:ac ai:=["sa","sb"]
theorem Df:(∀x∈sN2,bf x=ah)/\sN2.Nodup:=by decide +kernel
theorem Nr:∀{k:ak},k<2->∃x:ai,sN2[k]?=aa x/\(ixD (.str "ab") (.int (k:aj))).bind (fun y=>aW (.str "s") y)=aa (.str x)
 |0,_=>⟨"sa",rfl,rfl⟩
 |1,_=>⟨"sb",rfl,rfl⟩
 |n+2,h=>by omega
abbrev skE (c:aj) (ss:ac StepT) (ks:ac StockT) (a b x y:aq Slot):bA:=[oS (.int c),oS .(V),aa (.own (ks.map cX)),a,b,x,y]
theorem M0 (c:aj) (hs:ss.length<=40) (nd:(ss.map (·.nm)).Nodup):Wp (ue [.int c,.lst (ss.map bm)]) fun d=>∃ks:ac StockT,d=.lst (ks.map cX)/\ks.length<=2/\(ks.map (·.nm)).Nodup/\∀k∈ks,GoodK (ss.map (·.nm)) k:=by
 unfold ue;refine dL (nM (cL (fg (fun i ρ=>i<=2/\∃(ks:ac StockT) (a b x y:aq Slot),ρ=skE c ss ks a b x y/\ks.map (·.nm)=sN2.take i/\∀k∈ks,GoodK (ss.map (·.nm)) k) (iw (bc (cx (k:=0) (m:=3) rfl rfl rfl .(c) .(c) .(c) fun q0 q1=>cb ⟨_,rfl,q0,by omega,⟨by decide,[],af,af,af,af,rfl,rfl,fun _ z=>nomatch z⟩,?_,?_⟩))))))
 .rintro i x ρ hx ⟨_,ks,a,b,x',y,rfl,hn,hg⟩;obtain⟨hi,rfl⟩:=iC hx;have kl:ks.length<=2:=by have:=bO cI hn;rw[qg,qF] at this;have:sN2.length=2:=rfl;omega
  obtain⟨nm,e1,e2⟩:=Nr (k:=i) .(b);refine aK rfl (bB (cx (k:=1+(i:aj)) (m:=9) rfl rfl rfl .(b) .(b) .(c) fun r0 r1=>?_));refine bB (Bh (n:=0) (fun i=>1+(i:aj)%3) rfl hs nd rfl (fun i=>by omega) (fun j s=>?_) (fun j s=>?_) fun tk gt=>?_)
  .obtain⟨e,_⟩:=dG c (k:=4+(i:aj)) (m:=7) .(b) .(b) .(c);exact⟨_,bN (aD (aO .(as) e) rfl rfl)⟩
  .exact iX (aD rfl rfl dc) rfl
  refine bB (Bh (n:=0) (fun i=>1+(i:aj)%2) rfl hs nd rfl (fun i=>by omega) (fun j s=>?_) (fun j s=>?_) fun pt gp=>?_)
  .obtain⟨e,_⟩:=dG c (k:=8+(i:aj)) (m:=7) .(b) .(b) .(c);exact⟨_,bN (aD (aO .(as) e) rfl rfl)⟩
  .exact iX (aD rfl rfl dc) rfl
  refine tu (m:=cX) (xs:=ks) rfl .(b) (jL (bc (aK (aD (y:=(ixD (.str "ab") (.int (i:aj))).getD .non) (z:=.str nm) rfl ?_ ?_) (bc (cx (k:=12+(i:aj)) (m:=drw c (1+(i:aj)) 9+1) rfl rfl rfl .(b) .(b) .(b) fun f0 f1=>bc (bj rfl (bc (bj rfl (bc (bj rfl (cb ⟨by simp,⟨nm,drw c (12+(i:aj)) (drw c (1+(i:aj)) 9+1),drw c (1+(i:aj)) 9,tk,pt⟩,rfl,rfl,by omega,_,_,_,_,_,rfl,?_,fun k hk=>?_⟩)))))))))))
  .rcases(show i=0\/i=1 by omega) with rfl|rfl<;>rfl
  .rw[←e2];rcases(show i=0\/i=1 by omega) with rfl|rfl<;>rfl
  .rw[dF,hn,lw,e1];rfl
  .rcases cT.mp hk with hk|hk
   .exact hg k hk
   .rw[bD.mp hk];exact⟨Df.1 nm (qR e1),⟨f0,Int.le_of_lt_add_one f1⟩,⟨r0,by show drw c (1+(i:aj)) 9<=_;omega⟩,gt,gp⟩
 .rintro ρ ⟨_,ks,a,b,x,y,rfl,hn,hg⟩;refine⟨rfl,nu (ds:=ks.map cX) rfl (eR (bj rfl ⟨_,rfl,ks,rfl,?_,?_,hg⟩))⟩
  .have:=bO cI hn;rw[qg,qF] at this;have:sN2.length=2:=rfl;omega
  .rw[hn];exact rB (mH _ _) Df.2
def jN3:ac ai:=["ja","jb","jc"]
theorem A4:(∀x∈jN3,bf x=ah)/\jN3.Nodup:=by decide +kernel
theorem Kx:∀{k:ak},k<3->∃x:ai,jN3[k]?=aa x/\(ixD (.str "abc") (.int (k:aj))).bind (fun y=>aW (.str "j") y)=aa (.str x)
 |0,_=>⟨"ja",rfl,rfl⟩
 |1,_=>⟨"jb",rfl,rfl⟩
 |2,_=>⟨"jc",rfl,rfl⟩
 |n+3,h=>by omega
def grp (cs:ac aj) (j:ak):aj:=drw (cs.getD (j%cs.length) 0) 12 4
def mem (cs:ac aj) (ss:ac StepT) (k n s:ak):ac ai:=((zM s n).filter fun j=>decide (grp cs j=k)).map (snm ss)
theorem LI (h:j<ss.length) {g:FE} (hf:f ρ=aa .(V)) (hg:g ρ=aa (.int (j:aj))):b2 ixD (b2 ixD f g) .(f) ρ=aa (.str (snm ss j)):=by obtain⟨_,e,rfl⟩:=wy (P:=fun d=>d=.str (snm ss j)) hf (aK hg ⟨j,rfl,by omega,by omega,by rw[ig]⟩);exact e
theorem IC (hc:0<cs.length) (j:ak) {g:FE} (hf:f ρ=aa (.lst (cs.map D.int))) (hg:g ρ=aa (.int (j:aj))):b2 ixD f (b2 er g (cF b9 (ag f ao))) ρ=aa (.int (cs.getD (j%cs.length) 0)):=by
 have hj:j%cs.length<cs.length:=zi _ hc;refine aD (y:=.int ((j%cs.length:ak):aj)) hf (aD (y:=.int cs.length) hg (aO (ax hf aI) ?_) ?_) ?_
 .show aa (D.int (cs.map D.int).length)=_;rw[qg]
 .show(if (0:aj)<cs.length then aa (D.int ((j:aj)%cs.length)) else af)=_;rw[qY .(b)];rfl
 .rw[ixL,ql,oo,qE hj];rfl
theorem sW {x:D} {xs:ac D} {a:aq Slot} {b:aN} (ht:ft (oS x::r)=aa b):cg (aA 0) ft fe (x::xs) (a::r)=if b=ah then (fe (oS x::r)).bind fun d=>(cg (aA 0) ft fe xs (oS x::r)).map (d::·) else cg (aA 0) ft fe xs (oS x::r):=by show((ft (oS x::r)).bind fun t=>if t=ah then (fe (oS x::r)).bind fun d=>(cg (aA 0) ft fe xs (oS x::r)).map (d::·) else cg (aA 0) ft fe xs (oS x::r))=_;rw[ht,qc]
theorem ET {cs:ac aj} {ss:ac StepT} {k:ak} (hc:0<cs.length):∀(n s:ak) (a:aq Slot),s+n<=ss.length->cg (aA 0) (toB X3) (b2 ixD (b2 ixD (vSh 1) (vSh 0)) .(f)) ((zM s n).map fun i:ak=>D.int (0+(i:aj))) [a,oS .(V),oS (.int k),oS (.lst (cs.map D.int))]=aa ((mem cs ss k n s).map D.str)
 |0,_,_,_=>rfl
 |n+1,s,a,h=>by
  obtain⟨e,_⟩:=dG (cs.getD (s%cs.length) 0) (k:=12) (m:=4) .(c) .(c) .(c);have ih:=ET (k:=k) hc n (s+1) (oS (.int (0+(s:aj)))) (ss:=ss) .(b);have t:toB X3 [oS (.int (0+(s:aj))),oS .(V),oS (.int k),oS (.lst (cs.map D.int))]=aa (decide (grp cs s=k)):=
   bN (aD (aO (ax (IC hc s rfl (by rw[zJ];rfl)) (ax rfl .(v))) e) rfl rfl)
  have v:b2 ixD (b2 ixD (vSh 1) (vSh 0)) .(f) [oS (.int (0+(s:aj))),oS .(V),oS (.int k),oS (.lst (cs.map D.int))]=aa (.str (snm ss s)):=LI .(b) rfl (by rw[zJ];rfl);rw[GE,qo,sW t,v,ih];unfold mem;rw[GE,vd];cases decide (grp cs s=k)<;>rfl
theorem D3 (cs:ac aj) (ss:ac StepT) (k:ak):(mem cs ss k ss.length 0).Sublist (ss.map (·.nm)):=by
 have e:ss.map (·.nm)=(zM 0 ss.length).map (snm ss):=by refine Tx (by simp) fun i h1 h2=>?_;unfold snm;simp at h1;simp[h1]
 unfold mem;rw[e];exact List.filter_sublist.map _
theorem ED {k:ak} (h:x∈mem cs ss k ss.length 0):∃j,j<ss.length/\x=snm ss j/\grp cs j=k:=by obtain⟨j,hj,rfl⟩:=bz.mp h;obtain⟨h1,h2⟩:=uF.mp hj;have:=List.mem_range'_1.mp h1;exact⟨j,by omega,rfl,jt h2⟩
structure StJ (cs:ac aj) (ss:ac StepT) (h:aj) (i:ak) (js:ac JobT):Prop where
 nm:(js.map (·.nm)).Sublist (jN3.take i)
 nd:(js.flatMap (·.ms)).Nodup
 ms:∀x∈js.flatMap (·.ms),∃j,j<ss.length/\x=snm ss j/\grp cs j<i
 gd:∀j∈js,GoodJ (ss.map (·.nm)) h j
 ln:js.length<=i
theorem Nq (nd:(ss.map (·.nm)).Nodup) {a b:ak} (ha:a<ss.length) (hb:b<ss.length) (h:snm ss a=snm ss b):a=b:=by unfold snm at h;rw[oo,oo,qE (by simpa using ha),qE (by simpa using hb)] at h;exact(Fi nd).mp h
theorem StJ.add (st:StJ cs ss h i js) (nd:(ss.map (·.nm)).Nodup) {j:JobT} (hn:jN3[i]?=aa j.nm) (pm:j.ms.Perm (mem cs ss i ss.length 0)) (he:0<=j.ea/\j.ea<=h) (hd:0<=j.du/\j.du<=h) (h1:j.ms≠[]):StJ cs ss h (i+1) (js++[j]):=by
 have sb:=D3 cs ss i;refine⟨?_,?_,fun x hx=>?_,fun y hy=>?_,by have:=st.ln;rw[qk];exact Nat.succ_le_succ this⟩
 .rw[dF,lw,hn];exact st.nm.append (UI _)
 .rw[GC];refine iJ.mpr ⟨st.nd,?_,fun x hx y hy e=>?_⟩
  .simp only[rA,GF,gH];exact pm.nodup_iff.mpr (sb.nodup nd)
  .obtain⟨a,ha,e1,g1⟩:=st.ms x hx;simp only[rA,GF,gH] at hy;obtain⟨b,hb,e2,g2⟩:=ED (pm.subset hy);have:=Nq nd ha hb (by rw[←e1,←e2,e]);subst this;omega
 .rw[GC] at hx;rcases cT.mp hx with hx|hx
  .obtain⟨a,ha,e1,g1⟩:=st.ms x hx;exact⟨a,ha,e1,by omega⟩
  .simp only[rA,GF,gH] at hx;obtain⟨b,hb,e2,g2⟩:=ED (pm.subset hx);exact⟨b,hb,e2,by omega⟩
 .rcases cT.mp hy with hy|hy
  .exact st.gd y hy
  .rw[bD.mp hy];exact⟨A4.1 _ (qR hn),he,hd,Gv.mpr h1,by rw[pm.length_eq];exact sb.length_le,fun m hm=>sb.subset (pm.subset hm)⟩
theorem StJ.skip (st:StJ cs ss h i js):StJ cs ss h (i+1) js:=
 ⟨st.nm.trans (List.take_sublist_take_left .(b)),st.nd,fun x hx=>by obtain⟨a,ha,e1,g1⟩:=st.ms x hx;exact⟨a,ha,e1,by omega⟩,st.gd,by have:=st.ln;omega⟩
abbrev jbE (c:aj) (cs:ac aj) (ss:ac StepT) (h:aj) (js:ac JobT) (a b x y:aq Slot):bA:=[oS (.int c),oS (.lst (cs.map D.int)),oS .(V),oS (.int h),aa (.own (js.map aX)),a,b,x,y]
theorem Kd (c:aj) (hc:0<cs.length) (hh:1<=h/\h<=1000000) (hs:ss.length<=40) (nd:(ss.map (·.nm)).Nodup) (nb:∀x∈ss.map (·.nm),bf x=ah):Wp (oU [.int c,.lst (cs.map D.int),.lst (ss.map bm),.int h]) fun d=>∃js:ac JobT,d=.lst (js.map aX)/\js.length<=3/\(js.map (·.nm)).Nodup/\(js.flatMap (·.ms)).Nodup/\∀j∈js,GoodJ (ss.map (·.nm)) h j:=by
 unfold oU;refine dL (nM (cL (fg (fun i ρ=>∃(js:ac JobT) (a b x y:aq Slot),ρ=jbE c cs ss h js a b x y/\StJ cs ss h i js) (iw (bc (w_c (cb ⟨3,rfl,by decide,by decide,⟨[],af,af,af,af,rfl,List.nil_sublist _,jr,(fun _ z=>nomatch z),(fun _ z=>nomatch z),qw _⟩,?_,?_⟩)))))))
 .rintro i x ρ hx ⟨js,a,b,x',y,rfl,st⟩;obtain⟨hi,rfl⟩:=iC hx;have hi:i<3:=hi;obtain⟨nm,e1,e2⟩:=Kx hi;refine aK rfl (bB (aK (a:=.lst ((mem cs ss i ss.length 0).map D.str)) ?_ ?_))
  .unfold aS ba;rw[vy (ax (aO (z:=.int ss.length) .(v) (by show aa (D.int (ss.map bm).length)=_;rw[qg])) aI) (vW ⟨by omega,by omega⟩),qc,qY (by rw[qg,qW];unfold aJ;omega),ig,UG];exact bO (pZ D.lst) (ET hc ss.length 0 af .(b))
  refine AE (fun ρ=>∃ms:ac ai,ρ=jbE c cs ss h js (oS (.int i)) (oS (.lst (ms.map D.str))) x' y/\ms.Perm (mem cs ss i ss.length 0)) ?_ (eP (iT (w_2 (cx (k:=20+(i:aj)) (m:=3) rfl rfl rfl .(b) .(b) .(c) fun _ _=>w_c (sj fun b _=>⟨b,rfl,fun _=>?_,fun _=>?_⟩)))))
  rotate_left
  .exact lR (w_1 (bj rfl (aK (a:=.lst ((mem cs ss i ss.length 0).reverse.map D.str)) (by rw[List.map_reverse];rfl) (.inl ⟨rfl,_,rfl,List.reverse_perm _⟩))))
  .exact fX (.inl ⟨rfl,_,rfl,List.Perm.refl _⟩)
  .rintro _ ⟨ms,rfl,pm⟩;have mb:∀x∈ms,bf x=ah:=fun x hx=>nb x ((D3 cs ss i).subset (pm.subset hx));refine bB (ya (k:=24+4*(i:aj)) (m:=h / 2) rfl .(aq) .(be) .(b) .(b) .(b) fun ea ea0 ea1=>?_);have fin:∀du:aj,0<=du->du<=h->Wp (X2 (jbE c cs ss h js (oS (.int i)) (oS (.lst (ms.map D.str))) (oS (.int ea)) (oS (.int du)))) fun r=>r.1=.nx/\∃(js:ac JobT) (a b x y:aq Slot),r.2=jbE c cs ss h js a b x y/\StJ cs ss h (i+1) js:=by
    intro du d0 d1;refine eP (iT (w_2 (bj rfl (aK (a:=.lst []) rfl (aK (Oz mb) ⟨_,rfl,fun hm=>?_,fun _=>fX ⟨rfl,js,_,_,_,_,rfl,st.skip⟩⟩)))));have hm:ms≠[]:=by intro z;rw[z] at hm;simp at hm
    have jl:=st.ln;refine tu (m:=aX) (xs:=js) rfl .(b) (jL (bc (aK (aD (y:=(ixD (.str "abc") (.int (i:aj))).getD .non) (z:=.str nm) rfl ?_ ?_) (bc (bj rfl (bc (bj rfl (bc (w_2 (cx (k:=44+(i:aj)) (m:=2) rfl rfl rfl .(b) .(b) .(c) fun _ _=>w_c (sj fun od _=>bc (bj rfl (cb ⟨by simp,⟨nm,ea,du,od,ms⟩,rfl,rfl,_,_,_,_,_,rfl,st.add nd e1 pm ⟨ea0,by show ea<=h;omega⟩ ⟨d0,d1⟩ hm⟩)))))))))))))
    .rcases(show i=0\/i=1\/i=2 by omega) with rfl|rfl|rfl<;>rfl
    .rw[←e2];rcases(show i=0\/i=1\/i=2 by omega) with rfl|rfl|rfl<;>rfl
   refine bB (w_2 (wX (bc (bj rfl (bc (cx (k:=37+(i:aj)) (m:=h+1) rfl rfl rfl .(b) .(b) .(b) fun d0 d1=>cb ⟨by simp,?_⟩))))));exact w_2 (cx (k:=40+(i:aj)) (m:=3) rfl rfl rfl .(b) .(b) .(c) fun q0 q1=>w_c (uA .(c) (mr .(b) (by simp;omega) (oY (fin h .(b) (GA _)) (fin _ d0 .(b))))))
 .rintro ρ ⟨js,a,b,x,y,rfl,st⟩;have st:StJ cs ss h 3 js:=st;exact⟨rfl,nu (ds:=js.map aX) rfl (eR (bj rfl ⟨_,rfl,js,rfl,st.ln,rB (st.nm.trans (mH _ _)) A4.2,st.nd,st.gd⟩))⟩
noncomputable def bN8:ac ai:=["bea","beb","bec","bed","bee","bef","beg","beh"]
theorem E4:(∀x∈bN8,bf x=ah)/\bN8.Nodup:=by decide +kernel
theorem P7:("none":ai)∉bN8:=by decide +kernel
theorem Lx:∀{k:ak},k<8->∃x:ai,bN8[k]?=aa x/\∃y,ixD (.str "abcdefgh") (.int (k:aj))=aa y/\aW (.str "be") y=aa (.str x)
 |0,_=>⟨_,rfl,_,rfl,rfl⟩
 |1,_=>⟨_,rfl,_,rfl,rfl⟩
 |2,_=>⟨_,rfl,_,rfl,rfl⟩
 |3,_=>⟨_,rfl,_,rfl,rfl⟩
 |4,_=>⟨_,rfl,_,rfl,rfl⟩
 |5,_=>⟨_,rfl,_,rfl,rfl⟩
 |6,_=>⟨_,rfl,_,rfl,rfl⟩
 |7,_=>⟨_,rfl,_,rfl,rfl⟩
 |n+8,h=>by omega
theorem Au (ns:ac aj):(dq ns (aa 4) (aa 44)).length=min (ns.length-4) 40:=by
 show(uZ (min 44 ns.length-min 4 ns.length) (List.drop (min 4 ns.length) ns)).length=_;rw[qF,jq];generalize ns.length=n;rcases UJ n 4 with h|h
 .rw[UK h,Nat.sub_self,Nat.min_zero,Nat.sub_eq_zero_of_le h,Nat.zero_min]
 .rw[uY h];rcases UJ n 44 with k|k
  .rw[UK k,Nat.min_self,uY (Nat.sub_le_sub_right k 4)]
  .rw[uY k,Nat.min_comm]
abbrev liE (ns:ac aj) (h c:aj) (cs:ac aj) (m:ak) (b:aq Slot) (r:bA):bA:=oS (.scr ns)::oS (.int 40)::oS (.int h)::oS (.int c)::oS (.lst (cs.map D.int))::oS (.int m)::b::r
theorem Ic {nm:α->ai} {xs:ac α} (hl:xs.length=ns.length) (h:∀(i:ak) x,xs[i]?=aa x->ns[i]?=aa (nm x)):xs.map nm=ns:=by
 refine Tt fun i=>?_;rw[ql];cases e:xs[i]? with
 |none=>
  have:=List.getElem?_eq_none_iff.mp e;rw[y9 .(b)];rfl
 |some x=>rw[h i x e];rfl
theorem TNq {x:aj} (a:0<=x) (b:x<8):∃n:ak,D.int (1+x)=.int n/\1<=n/\n<=8:=⟨(1+x).toNat,by congr 1;omega,by omega,by omega⟩
theorem Mi (ns:ac aj) (hns:ns.length<=63) (hh:1<=h/\h<=1000000):Wp (sO [.scr ns,.int 40,.int h]) fun d=>∃(bs:ac BenchT) (ss:ac StepT) (js:ac JobT) (us:ac SetT) (ls:ac LinkT) (ks:ac StockT),d=cy bs ss js us ls ks h/\Good bs ss js us ls ks h/\ss.length<=40/\js.length<=3/\("none":ai)∉bs.map (·.nm):=by
 unfold sO;refine dL (bB (lP (k:=0) rfl fun c=>?_));refine bB (w_2 (aK (wf (z:=.lst ((dq ns (aa 4) (aa 44)).map D.int)) rfl rfl rfl rfl) (wX (bc (lP (k:=3) rfl fun c3=>cb ⟨by simp,aK (CA (y:=[c3]) (by rw[Au];simp;exact Nat.le_trans (Nat.min_le_right ..) (by decide))) ?_⟩)))));obtain⟨cs,hcs⟩:∃cs,cs=dq ns (aa 4) (aa 44)++[c3]:=⟨_,rfl⟩;have csl:cs.length=min (ns.length-4) 40+1:=by rw[hcs,qk,Au];rfl
 rw[←hcs];clear hcs;obtain⟨m,hm⟩:∃m:ak,m=min (max 1 (ns.length-4)) 40:=⟨_,rfl⟩;refine bB (aK (a:=.int m) (aO (ax (aO (z:=.int (max 1 (ns.length-4):ak)) (ax rfl (ax (aD (aO rfl rfl) rfl rfl) aI)) ?_) .(v)) ?_) ?_)
 .show aa (D.int (if (ns.length:aj)-4 > 1 then (ns.length:aj)-4 else 1))=_
  congr 2
  split<;>omega
 .show aa (D.int (if (40:aj)<(max 1 (ns.length-4):ak) then 40 else (max 1 (ns.length-4):ak)))=_
  congr 2
  split<;>omega
 have m12:1<=m/\m<=40:=hm▸⟨Nat.le_min.mpr ⟨Nat.le_max_left ..,by decide⟩,Nat.min_le_right ..⟩
 have mc:m<=cs.length:=by rw[csl,hm];generalize ns.length-4=x;omega
 clear hm csl;have e2:=dG c (k:=0) (m:=2) .(c) .(c) .(c);have e3:=dG c (k:=0) (m:=3) .(c) .(c) .(c);have e8:=dG c (k:=0) (m:=8) .(c) .(c) .(c);have many:Wp (b2 aW .(i) X9 (liE ns h c cs m (aa (.own [])) [af,af,af,af,af,af])) fun d=>∃n:ak,d=.int n/\1<=n/\n<=8:=by
  refine w_2 (w_c (gA (bc (bj rfl (bc (w_c (bc (w_2 (aK (a:=.lst [.int 2,.int 3,.int 8]) rfl (cx (k:=1) (m:=3) rfl rfl rfl .(c) .(c) .(c) fun q0 q1=>mr q0 q1 (IF ?_ ?_ ?_)))))))))))
  .exact cb (aK e2.1 (fA (TNq e2.2.1 (Int.lt_trans e2.2.2 (by decide)))))
  .exact cb (aK e3.1 (fA (TNq e3.2.1 (Int.lt_trans e3.2.2 (by decide)))))
  .exact cb (aK e8.1 (fA (TNq e8.2.1 e8.2.2)))
 obtain⟨_,enb,nb,rfl,n1,n8⟩:=many;clear e2 e3 e8;refine nM (cL (fg (fun i ρ=>i<=8/\∃(bs:ac BenchT) (k:aq Slot),ρ=liE ns h c cs m (aa (.own (bs.map bK))) [k,af,af,af,af,af]/\bs.map (·.nm)=bN8.take i/\∀b∈bs,GoodB h b) (iw (bc (aK enb (cb ⟨nb,rfl,by omega,by omega,⟨by decide,[],af,rfl,rfl,fun _ z=>nomatch z⟩,?_,?_⟩))))))
 .rintro i x ρ hx ⟨_,bs,k,rfl,hn,hg⟩;obtain⟨hi,rfl⟩:=iC hx;have hi:i<8:=by omega
  have bl:bs.length=i:=by have:=bO cI hn;rw[qg,qF] at this;have:bN8.length=8:=rfl;omega
  obtain⟨nm,e1,y,e2,e3⟩:=Lx hi;refine aK rfl (tu (m:=bK) (xs:=bs) rfl .(b) (jL (bc (aK (aD rfl (aD rfl rfl e2) e3) (bc (gA (bc (w_2 (lP (k:=1) rfl fun c1=>aK (aD rfl rfl gZ) (fA (bc (w_c (bc (bj rfl (cb ((Ks (c1+2*(i:aj)) (h:=h) .(b)).imp fun d ζ=>?_))))))))))))))));obtain⟨br,e,bl2,f,gi⟩:=ζ;subst e;refine cb ⟨by simp,⟨nm,br⟩,rfl,rfl,by omega,_,_,rfl,?_,fun b hb=>?_⟩
  .rw[dF,hn,lw,e1];rfl
  .rcases cT.mp hb with hb|hb
   .exact hg b hb
   .rw[bD.mp hb];exact⟨E4.1 nm (qR e1),by show br.length<=10;omega,fun p hp=>by have:=gi.iv p hp;exact⟨this.1,this.2.1,this.2.2.1⟩,gi.gap⟩
 .rintro ρ ⟨_,bs,k,rfl,hn,hg⟩;rw[qg,qW,ig] at hn;have bl:bs.length=nb:=by have:=bO cI hn;rw[qg,qF] at this;have:bN8.length=8:=rfl;omega
  have bdn:(bs.map (·.nm)).Nodup:=by rw[hn];exact rB (mH _ _) E4.2
  have bno:("none":ai)∉bs.map (·.nm):=by rw[hn];exact fun z=>P7 (p9 z)
  clear hn;refine⟨rfl,bB (gA (bc (lP (k:=2) rfl fun c2=>bc (bj rfl (cb ((OK c2 m12.2).imp fun d ⟨sn,e,sl,snd,snb⟩=>?_)))))) ⟩;subst e;refine nu (ds:=bs.map bK) rfl ?_;refine bB (CT (m:=bm) (n:=m) (fun i s=>sn[i]?=aa s.nm/\GoodS (bs.map (·.nm)) h s) ⟨_,ax rfl aI,rfl⟩ .(b) rfl (fun i hi=>?_) fun ss ssl ssq=>?_)
  .have e1:b2 ixD (vSh 3) (vSh 0) [oS (.int (i:aj)),oS .(av),oS (.int h),oS (.lst (cs.map D.int)),oS .(O)]=aa (.int (cs[i]'.(b))):=aD rfl rfl (by rw[ixL,ql,qE .(b)];rfl);have e2:b2 ixD (vSh 4) (vSh 0) [oS (.int (i:aj)),oS .(av),oS (.int h),oS (.lst (cs.map D.int)),oS .(O)]=aa (.str (sn[i]'.(b))):=aD rfl rfl (by rw[ixL,ql,qE .(b)];rfl);exact gA (bc (aK e1 (bc (aK e2 (bc (bj rfl (bc (bj rfl (cb ((Jn _ (snb _ (oj _)) .(b) bdn hh.1).imp fun d ⟨s,e,en,gs⟩=>⟨s,e,by rw[en,qE .(b)],gs⟩))))))))))
  have hsn:ss.map (·.nm)=sn:=Ic .(b) fun i x hx=>(ssq i x hx).1;have gss:∀s∈ss,GoodS (bs.map (·.nm)) h s:=fun s hs=>by obtain⟨i,hi⟩:=Gz hs;exact(ssq i s hi).2
  have sdn:(ss.map (·.nm)).Nodup:=by rw[hsn];exact snd
  have snb':∀x∈ss.map (·.nm),bf x=ah:=by rw[hsn];exact snb
  refine bB (gA (bc (bj rfl (bc (w_c (bc (bj rfl (cb ((Ow c (ss:=ss) .(b)).imp fun d ζ=>?_)))))))));obtain⟨es,e,el,end',eg⟩:=ζ;subst e;refine bB (gA (bc (lP (k:=3) rfl fun c3=>bc (bj rfl (bc (bj rfl (cb ((PL c3 (bs:=bs) hh.1 .(b)).imp fun d ⟨eu,e,ul,und,ug⟩=>?_))))))));subst e;refine bB (aK (Bx (es:=es) (fun n=>if h<n then h else n) rfl .(b) (fun e he=>?_) rfl fun e he=>?_) ?_)
  .obtain⟨⟨a,b,e0,_⟩,_⟩:=eg e he;rw[e0];exact⟨by simp,by simp⟩
  .refine aO (ax (aD (z:=.int e.2) rfl rfl ?_) .(v)) rfl;show((eC (e.1.map D.str)).map (bd (dKV es))).bind id=_;rw[m6,qf,Du end' he];rfl
  obtain⟨ls,els⟩:∃ls:ac LinkT,ls=es.map fun e=>⟨e.1.getD 0 "",e.1.getD 1 "",if h<e.2 then h else e.2⟩:=⟨_,rfl⟩;obtain⟨us,eus⟩:∃us:ac SetT,us=eu.map fun e=>⟨e.1.getD 0 "",e.1.getD 1 "",e.1.getD 2 "",e.2⟩:=⟨_,rfl⟩;have l1:(es.map fun e=>D.tup (e.1.map D.str++[.int (if h<e.2 then h else e.2)]))=ls.map cS:=by rw[els,qp];refine gj fun e he=>?_;obtain⟨⟨a,b,e0,_⟩,_⟩:=eg e he;rw[e0];show _=cS ⟨e.1.getD 0 "",e.1.getD 1 "",_⟩;rw[e0];rfl
  have u1:(eu.map fun e=>D.tup (e.1.map D.str++[.int e.2]))=us.map cP:=by rw[eus,qp];refine gj fun e he=>?_;obtain⟨⟨a,b,q,e0,_⟩,_⟩:=ug e he;rw[e0];show _=cP ⟨e.1.getD 0 "",e.1.getD 1 "",e.1.getD 2 "",_⟩;rw[e0];rfl
  have l2:(ls.map fun l=>[l.a,l.b])=es.map (·.1):=by rw[els,qp];refine gj fun e he=>?_;obtain⟨⟨a,b,e0,_⟩,_⟩:=eg e he;show[e.1.getD 0 "",e.1.getD 1 ""]=e.1;rw[e0];rfl
  have u2:(us.map fun u=>[u.b,u.p,u.q])=eu.map (·.1):=by rw[eus,qp];refine gj fun e he=>?_;obtain⟨⟨a,b,q,e0,_⟩,_⟩:=ug e he;show[e.1.getD 0 "",e.1.getD 1 "",e.1.getD 2 ""]=e.1;rw[e0];rfl
  have l3:∀l∈ls,GoodL (ss.map (·.nm)) h l:=fun l hl=>by rw[els] at hl;obtain⟨e,he,rfl⟩:=bz.mp hl;obtain⟨⟨a,b,e0,h1,h2,h3⟩,h4,h5⟩:=eg e he;rw[e0];refine⟨h1,h2,h3,?_⟩;show 0<=(if h<e.2 then h else e.2)/\(if h<e.2 then h else e.2)<=h;split<;>omega
  have u3:∀u∈us,GoodU (bs.map (·.nm)) h u:=fun u hu=>by rw[eus] at hu;obtain⟨e,he,rfl⟩:=bz.mp hu;obtain⟨⟨a,b,q,e0,h1,h2,h3⟩,h4⟩:=ug e he;rw[e0];exact⟨h1,h2,h3,h4⟩
  have l4:ls.length<=5:=by rw[els,qg];exact el
  have u4:us.length<=11:=by rw[eus,qg];exact ul
  rw[l1,u1];rw[←l2] at end';rw[←u2] at und;clear l1 u1 els eus l2 u2 eg ug;have gok:∀js ks,js.length<=3->(js.map (·.nm)).Nodup->(js.flatMap (·.ms)).Nodup->(∀j∈js,GoodJ (ss.map (·.nm)) h j)->ks.length<=2->(ks.map (·.nm)).Nodup->(∀k∈ks,GoodK (ss.map (·.nm)) k)->Good bs ss js us ls ks h:=fun js ks h1 h2 h3 h4 h5 h6 h7=>
   ⟨hh,by omega,hg,bdn,by omega,gss,sdn,by omega,h4,h2,h3,by omega,u3,und,by omega,l3,end',by omega,h7,h6⟩
  have fin:∀ks:ac StockT,ks.length<=2->(ks.map (·.nm)).Nodup->(∀k∈ks,GoodK (ss.map (·.nm)) k)->Wp (X8 (liE ns h c cs m (oS .(av)) [k,oS .(O),oS .(V),oS (.lst (ls.map cS)),oS (.lst (us.map cP)),oS (.lst (ks.map cX))])) fun r=>∃d,r.1=.rt d/\∃(bs:ac BenchT) (ss:ac StepT) (js:ac JobT) (us:ac SetT) (ls:ac LinkT) (ks:ac StockT),d=cy bs ss js us ls ks h/\Good bs ss js us ls ks h/\ss.length<=40/\js.length<=3/\("none":ai)∉bs.map (·.nm):=by intro ks k1 k2 k3;refine eR (jL (bc (bj rfl (bc (bj rfl (bc (gA (bc (bj rfl (bc (bj rfl (bc (bj rfl (bc (bj rfl (cb ((Kd c (cs:=cs) (ss:=ss) .(b) hh .(b) sdn snb').imp fun d ζ=>?_)))))))))))))))));obtain⟨js,e,j1,j2,j3,j4⟩:=ζ;subst e;exact bc (bj rfl (bc (bj rfl (bc (bj rfl (bc (bj rfl (cb ⟨by simp,_,rfl,bs,ss,js,us,ls,ks,rfl,gok js ks j1 j2 j3 j4 k1 k2 k3,by omega,j1,bno⟩))))))))
  refine bB (aK (a:=.lst (([]:ac StockT).map cX)) rfl (cL (eP (iT (w_2 (cx (k:=70) (m:=3) rfl rfl rfl .(c) .(c) .(c) fun _ _=>w_c (sj fun b _=>⟨b,rfl,fun _=>?_,fun _=>fX ⟨rfl,fin [] (by simp) jr fun _ z=>nomatch z⟩⟩)))))));refine lR (gA (bc (lP (k:=1) rfl fun c1=>bc (bj rfl (cb ((M0 c1 (ss:=ss) .(b) sdn).imp fun d ζ=>?_))))));obtain⟨ks,e,k1,k2,k3⟩:=ζ;subst e;exact⟨rfl,fin ks k1 k2 k3⟩
theorem wU {l:ac α} (nd:l.Nodup) {x:α} (h:l[i]?=aa x):x∉l.take i:=fun hm=>by obtain⟨j,hj,e⟩:=zd.mp hm;rw[qF] at hj;obtain⟨hi,e2⟩:=fJ.mp h;rw[List.getElem_take] at e;have:=(Fi nd).mp (e.trans e2.symm);omega
theorem AC:∀{fs:Fo} {j:ak} {f:ai} {x y:Fld},(fs.map (·.1)).Nodup->fs[j]?=aa (f,y)->f9 f x fs=fs.set j (f,x)
 |[],j,f,x,y,_,h=>by simp at h
 |(g,z)::r,0,f,x,y,_,h=>by
  simp only[qd,zF,UC] at h;obtain⟨rfl,rfl⟩:=h;unfold f9;rw[qY rfl];rfl
 |(g,z)::r,j+1,f,x,y,nd,h=>by rw[qo,cU] at nd;rw[qe] at h;have hne:¬f=g:=fun e=>nd.1 (by rw[←e];exact qX (f:=(·.1)) (qR h));unfold f9;rw[qZ hne,AC nd.2 h];rfl
section
variable {f k:ai} {fs:Fo} {b:aN} {fv:FE} {kvs:ac (Key×D)} {kts:ac .(ah)} {y:Fld}
theorem lS (j:ak) (hs:ρ[i]?=aa (aa (.fo b c fs))) (nd:(fs.map (·.1)).Nodup) (hj:fs[j]?=aa (f,.k kvs)) (hk:fk ρ=aa (.str k)) (hv:fv ρ=aa d) (hl:kvs.length<100000):io c f i fk fv ρ=aa (.nx,ρ.set i (aa (.fo b c (fs.set j (f,.k (bQ kvs (.inr k) d)))))):=by unfold io;rw[hv,hk,hs];show(if c=c then match fs.lookup f with|some (.k kvs)=>_|some (.t kvs)=>_|_=>_ else af)=_;rw[qY rfl,nL nd hj,←AC nd hj];exact qY hl
theorem DU {ks:ac ai} (nd:ks.Nodup) (n:ak) (hk:ks[n]?=aa f) (hf:fs.map (·.1)=ks.take n) (hn:n<100):fs.lookup f=af/\fs.length<100:=by refine⟨kh (by rw[hf];exact wU nd hk),?_⟩;have:=bO cI hf;rw[qg,qF] at this;omega
theorem m9 {ks:ac ai} (nd:ks.Nodup) (n:ak) (hs:ρ[i]?=aa (aa (.fo b c fs))) (hk:ks[n]?=aa f) (hf:fs.map (·.1)=ks.take n) (hv:fv ρ=aa d) (hn:n<100:=by decide):ja c f i fv ρ=aa (.nx,ρ.set i (aa (.fo b c (fs++[(f,.d d)])))):=by unfold ja;rw[hv,hs];exact qY ⟨rfl,DU nd n hk hf hn⟩
theorem jD {ks:ac ai} (nd:ks.Nodup) (n:ak) (hs:ρ[i]?=aa (aa (.fo b c fs))) (hk:ks[n]?=aa f) (hf:fs.map (·.1)=ks.take n) (hn:n<100:=by decide):fM c f i y ρ=aa (.nx,ρ.set i (aa (.fo b c (fs++[(f,y)])))):=by unfold fM;rw[hs];exact qY ⟨rfl,DU nd n hk hf hn⟩
theorem Dd (j:ak) (nd:(fs.map (·.1)).Nodup) (hj:fs[j]?=aa (f,y)) (h1:fo ρ=aa (foD c fs)):bM c f fo ρ=aa (foF y):=by unfold bM;rw[h1];show(if c=c then (fs.map fun z=>(z.1,foF z.2)).lookup f else af)=_;rw[qY rfl];refine nL (i:=j) (by rw[qp];exact nd) ?_;rw[ql,hj];rfl
theorem rL {F:FQ} (hm:m∉fs.map (·.1)) (h1:fo ρ=aa (foD c fs)) (h2:fr ρ=aa ds) (h3:F (foD c fs::ds)=aa d):bT c m F fo fr ρ=aa d:=by have hno:(fs.map fun z=>(z.1,foF z.2)).lookup m=af:=kh (by rw[qp];exact hm);unfold bT;rw[h1];show(if c=c/\(fs.map fun z=>(z.1,foF z.2)).lookup m=af then (fr ρ).bind fun ds=>F (foD c fs::ds) else af)=_;rw[qY ⟨rfl,hno⟩,h2];exact h3
theorem Ai {P:Fo->Prop} (h:Wp (g (aa (.fo ah c [])::(ds.map .(N)++bJ n af))) fun r=>r.1=.nx/\∃fs,r.2[0]?=aa (aa (.fo ah c fs))/\P fs):Wp (fY n c g ds) P:=by obtain⟨⟨fl,ρ'⟩,e,e1,fs,e2,p⟩:=h;have e1:fl=.nx:=e1;subst e1;refine⟨fs,?_,p⟩;unfold fY;rw[e,qc];show(match ρ'[0]? with|some (aa (Slot.fo ah c' fs))=>if c'=c then aa fs else af|_=>af)=_;rw[e2];exact qY rfl
theorem cG (e:g ρ=aa (.nx,ρ1)) (h:Wp (g' ρ1) R):Wp (aw g g' ρ) R:=cL (aK e ⟨rfl,h⟩)
end
section
variable {bs:ac BenchT}
noncomputable abbrev kvS (f:StepT->D) (xs:ac StepT):ac (Key×D):=xs.map fun s=>(.inr s.nm,f s)
theorem xr [dz κ] {kvs:ac (κ×D)} {k:κ} {v:D} (h:k∉kvs.map (·.1)):bQ kvs k v=kvs++[(k,v)]:=by unfold bQ;rw[qZ];intro z;obtain⟨x,hx,e⟩:=vg.mp z;exact h (jt e▸qX hx)
theorem lQ (nd:(ss.map (·.nm)).Nodup) {s:StepT} (hs:ss[i]?=aa s) (f:StepT->D):bQ (kvS f .(bi)) .(aH) (f s)=kvS f (ss.take (i+1)):=by have e:kvS f (ss.take (i+1))=kvS f .(bi)++[(.inr s.nm,f s)]:=wL _ hs;rw[xr,e];intro z;obtain⟨p,hp,e⟩:=bz.mp z;obtain⟨t,ht,rfl⟩:=bz.mp hp;have e:t.nm=s.nm:=g9 e;refine wU nd (i:=i) (x:=s.nm) (by rw[ql,hs];rfl) ?_;rw[←e,←zN];exact qX ht
theorem ip (f:StepT->D) (hl:ss.length<=40) (i:ak):(kvS f .(bi)).length<100000:=by rw[qg,qF];omega
noncomputable def lwD (s:StepT):D:=.dk (s.ws.map fun w=>(.inr w.1,.int w.2))
def jnD (js:ac JobT) (m:ai):D:=match cC js m with
 |some j=>.str j.nm
 |none=>.non
def eaI (js:ac JobT) (m:ai):aj:=match cC js m with
 |some j=>j.ea
 |none=>0
def duI (js:ac JobT) (h:aj) (m:ai):aj:=match cC js m with
 |some j=>j.du
 |none=>h
def mkI (js:ac JobT) (lm h:aj) (m:ai):aj:=if h<lm then (if duI js h m<h then duI js h m else h) else (if duI js h m<lm then duI js h m else lm)
abbrev gF4 (S:D) (js:ac JobT) (h lm:aj) (kp:D×aj) (l j e m:ac StepT):Fo:=[("told_shop",.d S),("kept_plan",.d kp.1),("kept_most",.d (.int kp.2)),("lengths",.k (kvS lwD l)),("job_names",.k (kvS (fun s=>jnD js s.nm) j)),("early_moments",.k (kvS (fun s=>.int (eaI js s.nm)) e)),("end_marks",.k (kvS (fun s=>.int (mkI js lm h s.nm)) m))]
theorem ir:yD.Nodup:=by decide +kernel
abbrev grE (fs:Fo) (S:D) (lm:aj) (kd:D) (mo:aj) (a b c:aq Slot):bA:=[aa (.fo ah "Grounds" fs),oS S,oS (.int lm),oS kd,oS (.int mo),a,b,c]
theorem De {nm:α->ai} {f:α->D} {xs:ac α} (hl:xs.length<=1000) (nd:(xs.map nm).Nodup):kR [.lst (xs.map fun x=>.tup [.str (nm x),f x])]=aa (.dk (xs.map fun x=>(.inr (nm x),f x))):=by
 have kn:((xs.map fun x=>((.inr (nm x):Key),f x)).map (·.1)).Nodup:=by rw[qp];have:=ve (S:=fun a b:Key=>a≠b) (bX:ai->Key) (fun a b hab z=>hab (g9 z)) nd;rw[qp] at this;exact this
 show(if _ then _ else _)=_;rw[qY (by rw[qg];exact hl),CG,qf,vz kn]
theorem CD {κ:Type} [dz κ] {F:κ->aq D} {k:κ}:∀{ps:ac (κ×D)} {acc:ac (κ×D)},(∀p∈ps,F p.1=aa p.2)->(F k≠af->k∈ps.map (·.1)\/bd acc k=F k)->(F k=af->bd acc k=af)->bd (ps.foldl (fun acc kv=>bQ acc kv.1 kv.2) acc) k=F k
 |[],acc,_,h2,h3=>by
  cases e:F k with
  |none=>exact h3 e
  |some d=>
   rcases h2 (by rw[e];exact fun z=>nomatch z) with h|h
   .cases h
   .exact h.trans e
 |p::r,acc,h1,h2,h3=>by
  rw[fL];have hp:=h1 p qh;refine CD (fun q hq=>h1 q (qi _ hq)) (fun hk=>?_) fun hk=>?_
  .rw[o0];by_cases e:k=p.1
   .rw[qY e,e,hp];exact .inr rfl
   .rw[qZ e];rcases h2 hk with h|h
    .exact .inl ((bZ.mp h).resolve_left e)
    .exact .inr h
  .rw[o0,qZ (fun e=>by rw[e,hp] at hk;cases hk)];exact h3 hk
def Hy (js:ac JobT) (ls:ac LinkT):ac Key->aq D
 |[.inr a,.inr b]=>(eB js ls a b).map D.int
 |_=>af
theorem Ch [dz κ] {l:ac (κ×D)} {k:κ} {v:D} (hl:∀q∈l,noF q.2=ah) (hv:noF v=ah):∀q∈bQ l k v,noF q.2=ah:=fun q hq=>by
 unfold bQ at hq;split at hq
 .obtain⟨p,hp,rfl⟩:=bz.mp hq;by_cases e:p.1=k
  .rw[qY e];exact hv
  .rw[qZ e];exact hl p hp
 .rcases cT.mp hq with hq|hq
  .exact hl q hq
  .rw[bD.mp hq];exact hv
theorem EV {κ:Type} [dz κ]:∀{ps acc:ac (κ×D)},(∀q∈ps,noF q.2=ah)->(∀q∈acc,noF q.2=ah)->∀q∈ps.foldl (fun acc kv=>bQ acc kv.1 kv.2) acc,noF q.2=ah
 |[],_,_,h=>h
 |p::r,acc,h1,h=>by rw[fL];exact EV (fun q hq=>h1 q (qi _ hq)) (Ch h (h1 p qh))
theorem nk:∀{l:ac D},(∀x∈l,noF x=ah)->gF l=ah
 |[],_=>rfl
 |x::r,h=>by rw[gF,h x qh,nk fun y hy=>h y (qi _ hy)];rfl
theorem JF {l:ac (Key×D)} (h:∀q∈l,noF q.2=ah):pF l=ah:=by rw[xg];exact nk fun x hx=>by obtain⟨q,hq,rfl⟩:=bz.mp hx;exact h q hq
theorem DJ {l:ac .(ah)} (h:∀q∈l,noF q.2=ah):jH l=ah:=by rw[wB];exact nk fun x hx=>by obtain⟨q,hq,rfl⟩:=bz.mp hx;exact h q hq
theorem OG (g:Good bs ss js us ls ks h):∃kvs,nF [.lst ((((ss.map (·.nm)).flatMap (gN js ls (ss.map (·.nm)))).map fun t=>.tup [.tup ([t.1,t.2.1].map D.str),.int t.2.2]))]=aa (.dt kvs)/\(∀a∈ss.map (·.nm),∀b∈ss.map (·.nm),bd kvs (kk a b)=(eB js ls a b).map D.int)/\jH kvs=ah:=by
 have hl:=ye js ls (ss.map (·.nm)) (ss.map (·.nm));rw[qg] at hl;have h2:ss.length*ss.length<=40*40:=za g.sl.2 g.sl.2;refine⟨pJ ((((ss.map (·.nm)).flatMap (gN js ls (ss.map (·.nm)))).map fun t=>([t.1,t.2.1].map bX,.int t.2.2))),?_,fun a ha b hb=>?_,DJ (EV (fun q hq=>by obtain⟨t,_,rfl⟩:=bz.mp hq;rfl) fun q hq=>nomatch hq)⟩
 .show(if _ then _ else _)=_;rw[qY (by rw[qg];omega),Ck (t:=fun t:GT=>[t.1,t.2.1]) (f:=fun t=>.int t.2.2)];rfl
 .refine CD (F:=Hy js ls) (fun p hp=>?_) (fun hk=>.inl ?_) fun _=>rfl
  .obtain⟨t,ht,rfl⟩:=bz.mp hp;obtain⟨x,_,hx⟩:=GD.mp ht;obtain⟨y,_,hy⟩:=pP.mp hx;obtain⟨q,hq,rfl⟩:=oMd hy;show(eB js ls x y).map D.int=_;rw[hq];rfl
  .have hk:(eB js ls a b).map D.int≠af:=hk;cases e:eB js ls a b with
   |none=>rw[e] at hk;exact bu rfl hk
   |some q=>exact bz.mpr ⟨_,bz.mpr ⟨(a,b,q),GD.mpr ⟨a,ha,pP.mpr ⟨b,hb,by rw[e];rfl⟩⟩,rfl⟩,rfl⟩
theorem DD:∀(os:ac GT) (a b c:aq Slot),cg (cN 3 (bx (aA 0) (bx (aA 1) (bx (aA 2) cM)))) tT .(bG) (os.map dGp) [a,b,c]=aa (os.map fun t=>.tup [.tup ([t.1,t.2.1].map D.str),.int t.2.2])
 |[],_,_,_=>rfl
 |t::r,a,b,c=>by have e:cg (cN 3 (bx (aA 0) (bx (aA 1) (bx (aA 2) cM)))) tT .(bG) ((t::r).map dGp) [a,b,c]=(cg (cN 3 (bx (aA 0) (bx (aA 1) (bx (aA 2) cM)))) tT .(bG) (r.map dGp) [oS (.str t.1),oS (.str t.2.1),oS (.int t.2.2)]).map (D.tup [.tup ([t.1,t.2.1].map D.str),.int t.2.2]::·):=rfl;rw[e,DD r];rfl
theorem Ae (g:Good bs ss js us ls ks h):tG [bH bs ss js us ls ks h]=aa .(av):=by have hp:Pl 8 .(av):=gu (by have:=g.bl;omega) fun x hx=>Bj (n:=3) (g.b x hx);exact bV [oS .(k)] rfl (bU (aO (ax (kK 0 rfl rfl) aI) (gL hp)))
abbrev gFo (bs:ac BenchT) (ss:ac StepT) (js:ac JobT) (us:ac SetT) (ls:ac LinkT) (ks:ac StockT) (h lm:aj) (kp:D×aj) (kvs:ac .(ah)):Fo:=gF4 .(k) js h lm kp ss ss ss ss++([("breaks",.d (.dk (bs.map fun b=>(.inr b.nm,.lst (b.br.map dIv))))),("known_gaps",.d (.dt kvs))]:Fo)
structure Gaps (ss:ac StepT) (js:ac JobT) (ls:ac LinkT) (kvs:ac .(ah)):Prop where
 at':∀a∈ss.map (·.nm),∀b∈ss.map (·.nm),bd kvs (kk a b)=(eB js ls a b).map D.int
 no:jH kvs=ah
theorem vK (js:ac JobT) (m:ai) {x:D} {F:JobT->D} (hs:ρ[i]?=aa (oS (i4 (cC js m)))) (ha:fa ρ=aa x) (hb:∀j,ρ[i]?=aa (oS (aX j))->fb ρ=aa (F j)):ifD (toB (b2 isD (vSh i) (vC .non))) fa fb ρ=aa (match cC js m with|some j=>F j|none=>x):=by
 unfold ifD;cases e:cC js m with
 |none=>
  rw[e] at hs;have:toB (b2 isD (vSh i) (vC .non)) ρ=aa ah:=bN (aD (x:=.non) (by unfold vSh;rw[hs];rfl) rfl rfl);rw[this,qc,qY rfl,ha]
 |some j=>
  rw[e] at hs;have:toB (b2 isD (vSh i) (vC .non)) ρ=aa ar:=bN (aD (x:=aX j) (by unfold vSh;rw[hs];rfl) rfl rfl);rw[this,qc,qZ qt];exact hb j hs
inductive KdOk:D->D->Prop where
 |non:KdOk .non .non
 |dk (l:ac (Key×D)):KdOk (.fdk l) (.dk l)
theorem PV {k:D} (h:KdOk kd k) (hs:ρ[3]?=aa (oS kd)):ifD (toB (b2 isD (vSh 3) (vC .non))) (vC .non) (cF sL (ag (vSh 3) ao)) ρ=aa k:=by
 have hv:vSh 3 ρ=aa kd:=by unfold vSh;rw[hs]
 unfold ifD;cases h with
 |non=>
  rw[show toB (b2 isD (vSh 3) (vC .non)) ρ=aa ah from bN (aD hv rfl rfl)];rfl
 |dk l=>
  rw[show toB (b2 isD (vSh 3) (vC .non)) ρ=aa ar from bN (aD hv rfl rfl),qc,qZ qt];exact aO (ax hv aI) rfl
theorem Hw (g:Good bs ss js us ls ks h) (hkd:KdOk kd kp.1):Wp (pC [bH bs ss js us ls ks h,.int lm,kd,.int kp.2]) fun fs=>∃kvs,fs=gFo bs ss js us ls ks h lm kp kvs/\Gaps ss js ls kvs:=by
 have hN:=vD (bs:=bs) (ss:=ss) (js:=js) (us:=us) (ls:=ls) (ks:=ks) (h:=h) g.sl.2;obtain⟨kvs,hk,hv,hnf⟩:=OG g;unfold pC;refine Ai (cG (m9 ir 0 rfl rfl rfl rfl) (cG (m9 ir 1 rfl rfl rfl (PV hkd rfl)) (cG (m9 ir 2 rfl rfl rfl rfl) (cG (jD ir 3 rfl rfl rfl) (cG (jD ir 4 rfl rfl rfl) (cG (jD ir 5 rfl rfl rfl) (cG (jD ir 6 rfl rfl rfl) ?_)))))));show Wp (aw _ _ (grE (gF4 .(k) js h lm kp (ss.take 0) (ss.take 0) (ss.take 0) (ss.take 0)) .(k) lm kd kp.2 af af af)) _;refine cL (fg (fun i ρ=>∃a b c,ρ=grE (gF4 .(k) js h lm kp .(bi) .(bi) .(bi) .(bi)) .(k) lm kd kp.2 a b c) (dA (aK (gn .(z) rfl aI hN) (aK rfl ⟨⟨af,af,af,rfl⟩,?_,?_⟩))))
 .rintro i x ρ hx ⟨a,b,c,rfl⟩;rw[qp,ql] at hx;obtain⟨s,hs,rfl⟩:=oMd hx;have hm:=qR hs;have gs:=g.s s hm;have nd:∀l j e m:ac StepT,((gF4 .(k) js h lm kp l j e m).map (·.1)).Nodup:=fun l j e m=>vt ir 7;refine aK rfl (cG (lS (fs:=gF4 .(k) js h lm kp .(bi) .(bi) .(bi) .(bi)) (k:=s.nm) (d:=lwD s) 3 rfl (nd _ _ _ _) rfl rfl (aO (ax (gn .(z) rfl .(v) (HK g hm)) aI) (De (by have:=gs.l4;omega) gs.nd)) (ip _ g.sl.2 _)) ?_);rw[lQ g.sn hs lwD];refine bB (aK (gn .(z) rfl .(v) (Kw g s.nm)) ?_);refine cG (lS (fs:=gF4 .(k) js h lm kp (ss.take (i+1)) .(bi) .(bi) .(bi)) (k:=s.nm) (d:=jnD js s.nm) 4 rfl (nd _ _ _ _) rfl rfl (vK js s.nm (F:=fun j=>.str j.nm) rfl rfl fun j hj=>aD (x:=aX j) (by unfold vSh;rw[hj]) rfl dc) (ip _ g.sl.2 _)) ?_;rw[lQ g.sn hs fun s=>jnD js s.nm];have e5:∀fs:Fo,ifD (toB (b2 isD (vSh 6) (vC .non))) .(f) (b2 ixD (vSh 6) .(i)) (grE fs .(k) lm kd kp.2 (oS .(aL)) (oS (i4 (cC js s.nm))) c)=aa (.int (eaI js s.nm)):=fun fs=>by refine(vK js s.nm (F:=fun j=>.int j.ea) rfl rfl fun j hj=>aD (x:=aX j) (by unfold vSh;rw[hj]) rfl fN).trans ?_;unfold eaI;cases cC js s.nm<;>rfl
  refine cG (lS (fs:=gF4 .(k) js h lm kp (ss.take (i+1)) (ss.take (i+1)) .(bi) .(bi)) (k:=s.nm) (d:=.int (eaI js s.nm)) 5 rfl (nd _ _ _ _) rfl rfl (e5 _) (ip _ g.sl.2 _)) ?_;rw[lQ g.sn hs fun s=>.int (eaI js s.nm)];refine bB (aK (a:=.int (duI js h s.nm)) ?_ ?_)
  .refine(vK js s.nm (x:=.int h) (F:=fun j=>.int j.du) rfl (gn .(z) rfl aI wP) fun j hj=>aD (x:=aX j) (by unfold vSh;rw[hj]) rfl kC).trans ?_;unfold duI;cases cC js s.nm<;>rfl
  refine aK (lS (fs:=gF4 .(k) js h lm kp (ss.take (i+1)) (ss.take (i+1)) (ss.take (i+1)) .(bi)) (k:=s.nm) (d:=.int (mkI js lm h s.nm)) 6 rfl (nd _ _ _ _) rfl rfl (aO (ax rfl (ax (gn .(z) rfl aI wP) .(v))) rfl) (ip _ g.sl.2 _)) ⟨rfl,?_⟩;rw[lQ g.sn hs fun s=>.int (mkI js lm h s.nm)];exact⟨_,_,_,rfl⟩
 .rintro ρ ⟨a,b,c,rfl⟩;rw[qg,qg,iH];refine⟨rfl,cG (m9 (fs:=gF4 .(k) js h lm kp ss ss ss ss) ir 7 rfl rfl rfl (aO (ax (gn .(z) rfl aI (Ae g)) aI) (De (nm:=fun b:BenchT=>b.nm) (f:=fun b=>.lst (b.br.map dIv)) (by have:=g.bl;omega) g.bn))) (aK (m9 ir 8 rfl rfl rfl (aO (ax ?_ aI) hk)) ⟨rfl,_,rfl,kvs,rfl,⟨hv,hnf⟩⟩)⟩
  .have hl:=ye js ls (ss.map (·.nm)) (ss.map (·.nm));rw[qg] at hl;have h2:ss.length*ss.length<=40*40:=za g.sl.2 g.sl.2;refine ix ?_;unfold ba itF;rw[aO .(v) (RI g)];show(if _ then _ else _)=_;rw[qY (by rw[qg];unfold aJ;omega)];exact DD _ _ _ _
end
theorem wg:∀l:ac ai,gS (l.map D.str)=ah
 |[]=>rfl
 |x::r=>by show(plD (.str x) && gS (r.map D.str))=ah;rw[wg r];rfl
section
variable {bs:ac BenchT} {A B P:ac (Key×D)} {s:StepT}
noncomputable abbrev fF (G:D) (O A B P:ac (Key×D)):Fo:=[("grounds",.d G),("open_benches",.k O),("firsts",.k A),("lasts",.k B),("put_pairs",.t []),("notes",.k P)]
theorem mv:cw.Nodup:=by decide +kernel
theorem tw (G:D) (O A B P:ac (Key×D)):((fF G O A B P).map (·.1)).Nodup:=mv
abbrev gD (bs:ac BenchT) (ss:ac StepT) (js:ac JobT) (us:ac SetT) (ls:ac LinkT) (ks:ac StockT) (h lm:aj) (kp:D×aj) (kvs:ac .(ah)):D:=foD "Grounds" (gFo bs ss js us ls ks h lm kp kvs)
abbrev fcD (bs:ac BenchT) (ss:ac StepT) (js:ac JobT) (us:ac SetT) (ls:ac LinkT) (ks:ac StockT) (h lm:aj) (kp:D×aj) (kvs:ac .(ah)) (O A B P:ac (Key×D)):D:=foD "Facts" (fF .(ae) O A B P)
theorem iS {f:ai} {y:Fld} (j:ak) (h1:fo ρ=aa .(l)) (hj:(fF .(ae) O A B P)[j]?=aa (f,y)):bM "Facts" f fo ρ=aa (foF y):=Dd j (tw _ _ _ _ _) hj h1
theorem jP {f:ai} {y:Fld} (j:ak) (h1:fo ρ=aa .(l)) (hj:(gFo bs ss js us ls ks h lm kp kvs)[j]?=aa (f,y)):bM "Grounds" f (bM "Facts" "grounds" fo) ρ=aa (foF y):=Dd (c:="Grounds") (fs:=gFo bs ss js us ls ks h lm kp kvs) j ir hj (iS 0 h1 rfl)
noncomputable def wn (s:StepT):ac ai:=s.ws.map (·.1)
theorem Cp {fs:Fo} (h:g (aa (.fo ah c fs)::(ds.map .(N)++bJ n af))=aa (.nx,aa (.fo ah c fs')::ρ')):lF n c g fs ds=aa (.non,fs'):=by unfold lF;rw[h,qc];exact qY rfl
theorem AJ {b:aN} {fs:Fo} (h1:ρ[i]?=aa (aa (.fo b c fs))) (h2:f (ρ.set i (oS (foD c fs)))=aa d) (h3:plD d=ah):bwF i f ρ=aa d:=by unfold bwF;rw[h1];show(f _).bind _=_;rw[h2];exact qY h3
theorem As {f:FA} {b:aN} {fs:Fo} (h1:ρ[i]?=aa (aa (.fo b c fs))) (h2:f (ρ.set i (oS (foD c fs)))=aa ds) (h3:gS ds=ah):kM i f ρ=aa ds:=by unfold kM;rw[h1];show(f _).bind _=_;rw[h2];exact qY h3
theorem Eb {bn:ac ai} (hb:∀x∈bn,bf x=ah):∀(ws:ac ai) (a:aq Slot),(∀x∈ws,bf x=ah)->cg (aA 0) (toB (b2 gJ (vSh 0) (vSh 1))) (vSh 0) (ws.map D.str) [a,oS .(aw)]=aa ((ws.filter fun x=>decide (x∈bn)).map D.str)
 |[],_,_=>rfl
 |x::r,a,hw=>by have ih:=Eb hb r (oS (.str x)) fun y hy=>hw y (qi _ hy);have t:toB (b2 gJ (vSh 0) (vSh 1)) [oS (.str x),oS .(aw)]=aa (decide (x∈bn)):=bN (aD rfl rfl (wu (hw x qh) hb));rw[qo,sW t,ih,vd];cases decide (x∈bn)<;>rfl
theorem sX (g:Good bs ss js us ls ks h) (hs:s∈ss):∀x∈wn s,bf x=ah:=fun x hx=>by obtain⟨w,hw,rfl⟩:=bz.mp hx;exact g.bnn _ ((g.s s hs).ws w hw).1
theorem vN (g:Good bs ss js us ls ks h) (hs:s∈ss) (h1:fo ρ=aa .(l)) (hk:fk ρ=aa .(aL)):b2 cm (bM "Grounds" "lengths" (bM "Facts" "grounds" fo)) fk ρ=aa (lwD s):=
 aD (jP 3 h1 rfl) hk (show((aa (bd (kvS lwD ss) .(aH))).bind id)=_ by rw[iY (nm:=fun s:StepT=>s.nm) g.sn hs];rfl)
theorem Dp:.(ao).map (fun kv=>eA kv.1)=(wn s).map D.str:=by unfold wn;rw[qp,qp];rfl
theorem C8 (g:Good bs ss js us ls ks h) (hs:s∈ss) {bn:ac ai} (hb:∀x∈bn,bf x=ah) (hl:O.length<100000):oQ (fF .(ae) O A B P) [.str s.nm,.lst (bn.map D.str)]=aa (.non,fF .(ae) (bQ O .(aH) (.lst (((wn s).filter fun x=>decide (x∈bn)).map D.str))) A B P):=by
 unfold oQ;refine Cp (ρ':=[oS .(aL),oS .(aw)]) (lS 1 rfl (tw _ _ _ _ _) rfl rfl (AJ rfl (ix ?_) (wg _)) hl);unfold rV;rw[vN g hs (kvs:=kvs) (O:=O) (A:=A) (B:=B) (P:=P) rfl rfl];have hfl:lfS (oS .(aw))=oS .(aw):=qY (by show(bn.map D.str).all fW=ah;rw[vh,ia];exact fun _ _=>rfl)
 show(if .(ao).length<=aJ then (cg _ _ _ (.(ao).map fun kv=>eA kv.1) [af,lfS (oS .(aw))]).bind _ else af)=_;rw[qY (by rw[qg];have:=(g.s s hs).l4;unfold aJ;omega),hfl,Dp,Eb hb (wn s) af (sX g hs),qc,qY];rw[vh,ia];exact fun _ _=>rfl
theorem Bl {k:ai} {x y:D} {G:D} (ha:A.length<100000) (hb:B.length<100000):pz (fF G O A B P) [.str k,x,y]=aa (.non,fF G O (bQ A (.inr k) x) (bQ B (.inr k) y) P):=by unfold pz;exact Cp (ρ':=[oS (.str k),oS x,oS y]) ((lL (lS 2 rfl (tw _ _ _ _ _) rfl rfl rfl ha)).trans (lS 3 rfl (tw _ _ _ _ _) rfl rfl rfl hb))
theorem AM (g:Good bs ss js us ls ks h) (hs:s∈ss):sy [fcD bs ss js us ls ks h lm kp kvs O A B P,.str s.nm]=aa (.int (mkI js lm h s.nm)):=
 bV [oS .(l),oS .(aL)] rfl (bU (aD (jP 6 rfl rfl) rfl (show((aa (bd (kvS (fun s=>.int (mkI js lm h s.nm)) ss) .(aH))).bind id)=_ by rw[iY (nm:=fun s:StepT=>s.nm) g.sn hs];rfl)))
def lnO (s:StepT) (b:ai):aj:=match bd .(ao) (.inr b) with
 |some (.int n)=>n
 |_=>0
theorem zU (nd:(s.ws.map (·.1)).Nodup) {w:ai×aj} (hw:w∈s.ws):bd .(ao) (.inr w.1)=aa (.int w.2):=iY (nm:=fun w:ai×aj=>w.1) (f:=fun w=>.int w.2) nd hw
theorem zQ (nd:(s.ws.map (·.1)).Nodup) {w:ai×aj} (hw:w∈s.ws):lnO s w.1=w.2:=by unfold lnO;rw[zU nd hw]
theorem Ii (nd:(s.ws.map (·.1)).Nodup) {b:ai} (hb:b∈wn s):cm (lwD s) (.str b)=aa (.int (lnO s b)):=by obtain⟨w,hw,rfl⟩:=bz.mp hb;rw[zQ nd hw];show(aa (bd .(ao) (.inr w.1))).bind id=_;rw[zU nd hw];rfl
theorem D1 (nd:(s.ws.map (·.1)).Nodup):∀(l:ac ai) (a:aq Slot),(∀b∈l,b∈wn s)->cg (aA 0) tT (b2 cm (vSh 1) (vSh 0)) (l.map D.str) [a,oS (lwD s)]=aa ((l.map (lnO s)).map D.int)
 |[],_,_=>rfl
 |x::r,a,hl=>by have e:=D1 nd r (oS (.str x)) fun b hb=>hl b (qi _ hb);rw[qo,sW (b:=ah) rfl,qY rfl,e];have:b2 cm (vSh 1) (vSh 0) [oS (.str x),oS (lwD s)]=aa (.int (lnO s x)):=aD rfl rfl (Ii nd (hl x qh));rw[this];rfl
theorem nt:∀l:ac aj,fU (l.map D.int)=aa l
 |[]=>rfl
 |x::r=>by show(fU (r.map D.int)).map _=_;rw[nt r];rfl
theorem BW (g:Good bs ss js us ls ks h) (hs:s∈ss) {o:ac ai} (ho:bd O .(aH)=aa (.lst (o.map D.str))) (hw:∀b∈o,b∈wn s) (hl:o.length<=1000):sP [fcD bs ss js us ls ks h lm kp kvs O A B P,.str s.nm]=aa (.lst ((o.map (lnO s)).map D.int)):=by refine bV [oS .(l),oS .(aL),af] rfl ((nz (vN g hs rfl rfl)).trans (bU (ix ?_)));unfold ba itF;rw[aD (iS 1 rfl rfl) rfl (show((aa (bd O .(aH))).bind id)=_ by rw[ho];rfl)];show(if (o.map D.str).length<=aJ then _ else _)=_;rw[qY (by rw[qg];unfold aJ;omega)];exact D1 (g.s s hs).nd o af hw
theorem least_of (g:Good bs ss js us ls ks h) (hs:s∈ss) {o:ac ai} (ho:bd O .(aH)=aa (.lst (o.map D.str))) (hw:∀b∈o,b∈wn s) (hl:o.length<=1000):pH [fcD bs ss js us ls ks h lm kp kvs O A B P,.str s.nm]=aa (pD (o.map (lnO s))):=by refine bV [oS .(l),oS .(aL)] rfl (bU ?_);unfold b1;rw[rL (c:="Facts") (show("open_lengths":ai)∉cw by decide +kernel) rfl .(v) (BW g hs ho hw hl)];show(fU ((o.map (lnO s)).map D.int)).map pD=_;rw[nt];rfl
theorem tY {F:Fo->ac D->aq (D×Fo)} {b:aN} {fs:Fo} (h1:ρ[i]?=aa (aa (.fo b c fs))) (hm:m∉fs.map (·.1)) (h2:fr ρ=aa ds) (h3:F fs ds=aa (d,fs')):kz c m i F fr ρ=aa (.nx,ρ.set i (aa (.fo b c fs'))):=by unfold kz;rw[h1];show(if c=c/\fs.lookup m=af then _ else af)=_;rw[qY ⟨rfl,kh hm⟩,h2,qc,h3];rfl
theorem LG (l:ac ai):l.filter (fun x=>decide (x∈l))=l:=List.filter_eq_self.mpr fun x hx=>qU hx
noncomputable abbrev plP (q:ai×aj):D:=.tup [.str q.1,.int q.2]
noncomputable def owH (Q:ai->aq (ai×aj)) (s:StepT):ac (ai×aj):=match Q s.nm with
 |some p=>s.ws.filter fun w=>decide (w.1=p.1)
 |none=>s.ws
noncomputable def mxZ (i j:aj):aj:=if j > i then j else i
def fiH (Q:ai->aq (ai×aj)) (js:ac JobT) (nw:aj) (m:ai):aj:=match Q m with
 |some p=>mxZ p.2 (eaI js m)
 |none=>mxZ nw (eaI js m)
def lsW (s:StepT):aj:=mnI (s.ws.map (·.2))
def laH (Q:ai->aq (ai×aj)) (js:ac JobT) (lm h:aj) (s:StepT):aj:=match Q s.nm with
 |some p=>p.2
 |none=>mkI js lm h s.nm-lsW s
abbrev opH (Q:ai->aq (ai×aj)) (s:StepT):D:=.lst (((owH Q s).map (·.1)).map D.str)
structure HdOk (ss:ac StepT) (hd:D) (Q:ai->aq (ai×aj)):Prop where
 no:hd=.non->∀s∈ss,Q s.nm=af
 yes:hd≠.non->∃l,hd=.fdk l/\∀s∈ss,bd l .(aH)=(Q s.nm).map plP
 way:∀s∈ss,∀p,Q s.nm=aa p->p.1∈wn s
theorem DL (nd:(s.ws.map (·.1)).Nodup) {l:ac (ai×aj)} (hl:∀w∈l,w∈s.ws):(l.map (·.1)).map (lnO s)=l.map (·.2):=by rw[qp];exact gj fun w hw=>zQ nd (hl w hw)
theorem Bq {Q:ai->aq (ai×aj)} :∀w∈owH Q s,w∈s.ws:=fun w hw=>by
 unfold owH at hw;split at hw
 .exact(uF.mp hw).1
 .exact hw
theorem A6 {ns:ac aj} (h:ns≠[]):pD ns=.int (mnI ns):=qZ h
theorem QM (g:Good bs ss js us ls ks h) (hs:s∈ss) (ho:bd O .(aH)=aa (.lst ((wn s).map D.str))):pH [fcD bs ss js us ls ks h lm kp kvs O A B P,.str s.nm]=aa (.int (lsW s)):=by
 rw[least_of g hs ho (fun _ h=>h) (by unfold wn;rw[qg];have:=(g.s s hs).l4;omega)];rw[show(wn s).map (lnO s)=s.ws.map (·.2) from DL (g.s s hs).nd fun _ h=>h,A6]
 .rfl
 intro z;have h1:=bO cI z;rw[qg] at h1;have h3:=(g.s s hs).l1;simp only[qm] at h1;omega
abbrev fiE (fs:Fo) (S:D) (lm:aj) (hd kd:D) (mo nw:aj) (a b c:aq Slot):bA:=[aa (.fo ah "Facts" fs),oS S,oS (.int lm),oS hd,oS kd,oS (.int mo),oS (.int nw),a,b,c]
theorem Pi {Q:ai->aq (ai×aj)} (H:HdOk ss hd Q) (hs:s∈ss) (h3:ρ[3]?=aa (oS hd)) (h7:ρ[7]?=aa (oS .(aL))):lD (toB (b2 dI (vSh 3) (vC .non))) (toB (b2 jI (vSh 7) (vSh 3))) ρ=aa (Q s.nm).isSome:=by
 have v3:vSh 3 ρ=aa hd:=by unfold vSh;rw[h3]
 have v7:vSh 7 ρ=aa .(aL):=by unfold vSh;rw[h7]
 unfold lD;by_cases hn:hd=.non
 .have:=H.no hn s hs;subst hn;rw[this,show toB (b2 dI (vSh 3) (vC .non)) ρ=aa ar from bN (aD v3 rfl rfl)];rfl
 .obtain⟨l,e,hl⟩:=H.yes hn;subst e;rw[show toB (b2 dI (vSh 3) (vC .non)) ρ=aa ah from bN (aD v3 rfl rfl)];show toB _ ρ=_;refine bN (aD v7 v3 ?_);show(aa (bd l .(aH))).map _=_;rw[hl s hs];cases Q s.nm<;>rfl
theorem Jq {Q:ai->aq (ai×aj)} (H:HdOk ss hd Q) (hs:s∈ss) {p:ai×aj} (hp:Q s.nm=aa p):cm hd .(aL)=aa (plP p):=by
 by_cases hn:hd=.non
 .rw[H.no hn s hs] at hp;cases hp
 .obtain⟨l,e,hl⟩:=H.yes hn;subst e;show(aa (bd l .(aH))).bind id=_;rw[hl s hs,hp];rfl
theorem ww (h:fr ρ=aa ds) (hl:ds.length<=1000):szF fr ρ=aa ds:=by unfold szF;rw[h];exact qY (by unfold aJ;omega)
theorem O7 (l:ac (ai×aj)) (b:ai):(l.map (·.1)).filter (fun x=>decide (x∈[b]))=(l.filter fun w=>decide (w.1=b)).map (·.1):=by
 rw[List.filter_map]
 congr 1
 refine List.filter_congr fun w _=>?_;exact decide_eq_decide.mpr bD
abbrev pr (G:D) (Q:ai->aq (ai×aj)) (js:ac JobT) (lm h nw:aj) (l:ac StepT):Fo:=fF G (kvS (opH Q) l) (kvS .(bE) l) (kvS .(bJ) l) []
theorem HA {Q:ai->aq (ai×aj)} (g:Good bs ss js us ls ks h) (hkd:KdOk kd kp.1) (H:HdOk ss hd Q):Wp (iA [bH bs ss js us ls ks h,.int lm,hd,kd,.int kp.2,.int nw]) fun fs=>∃kvs,fs=pr .(ae) Q js lm h nw ss/\Gaps ss js ls kvs:=by
 have hN:=vD (bs:=bs) (ss:=ss) (js:=js) (us:=us) (ls:=ls) (ks:=ks) (h:=h) g.sl.2;obtain⟨_,hg,kvs,rfl,hk⟩:=Hw (lm:=lm) (kp:=kp) g hkd;have nm:∀{m:ai},m∉cw->∀{G:D} {O A B P:ac (Key×D)},m∉(fF G O A B P).map (·.1):=fun hm=>hm;unfold iA;refine Ai (cG (m9 (d:=gD bs ss js us ls ks h lm kp kvs) mv 0 rfl rfl rfl (aO (ax rfl .(as)) (show(pC _).map _=_ by rw[show([bH bs ss js us ls ks h,D.int lm,kd,.int kp.2]++[]:ac D)=[bH bs ss js us ls ks h,.int lm,kd,.int kp.2] from rfl,hg];rfl))) (cG (jD mv 1 rfl rfl rfl) (cG (jD mv 2 rfl rfl rfl) (cG (jD mv 3 rfl rfl rfl) (cG (jD mv 4 rfl rfl rfl) (cG (jD mv 5 rfl rfl rfl) ?_))))));show Wp (bW _ _ _ (fiE (pr .(ae) Q js lm h nw (ss.take 0)) .(k) lm hd kd kp.2 nw af af af)) _;refine fg (fun i ρ=>∃a b c,ρ=fiE (pr .(ae) Q js lm h nw .(bi)) .(k) lm hd kd kp.2 nw a b c) (dA (aK (gn .(z) rfl aI hN) (aK rfl ⟨⟨af,af,af,rfl⟩,?_,?_⟩)))
 .rintro i x ρ hx ⟨a,b,c,rfl⟩;rw[qp,ql] at hx;obtain⟨s,hs,rfl⟩:=oMd hx;have hm:=qR hs;refine aK rfl (bB (aK (AJ (d:=.int (eaI js s.nm)) rfl (aD (jP 5 rfl rfl) rfl (show((aa (bd (kvS (fun s=>.int (eaI js s.nm)) ss) .(aH))).bind id)=_ by rw[iY (nm:=fun s:StepT=>s.nm) g.sn hm];rfl)) rfl) ?_));have e1:=lQ g.sn hs (opH Q);have e2:=lQ g.sn hs fun s=>.int (fiH Q js nw s.nm);have e3:=lQ g.sn hs fun s=>.int (laH Q js lm h s);refine eP (aK (Pi H hm rfl rfl) ⟨fun hq=>?_,fun hq=>?_⟩)
  .obtain⟨p,hp⟩:=uN.mp hq;have gt:=Jq H hm hp;have eo:(wn s).filter (fun x=>decide (x∈[p.1]))=(owH Q s).map (·.1):=by unfold owH wn;rw[hp];exact O7 _ _
   refine bB (aK (aD (aD rfl rfl gt) rfl fN) ?_);refine cG (tY rfl (nm .(z)) (ax rfl (ax (d:=.lst ([p.1].map D.str)) (ix (ww (ax (aD (aD rfl rfl gt) rfl dc) aI) (show(1:ak)<=1000 by decide))) aI)) (C8 g hm (fun x hx=>by rw[bD.mp hx];exact sX g hm _ (H.way s hm p hp)) (ip _ g.sl.2 _))) ?_;rw[eo,e1];refine aK (tY rfl (nm .(z)) (ax rfl (ax (aO (ax rfl .(v)) rfl) .(v))) (Bl (ip _ g.sl.2 _) (ip _ g.sl.2 _))) ⟨rfl,?_⟩;refine⟨oS .(aL),oS (.int (eaI js s.nm)),oS (.int p.2),?_⟩;unfold pr;rw[←e2,←e3];unfold fiH laH;rw[hp];rfl
  .have hp:Q s.nm=af:=by
    cases e:Q s.nm with
    |none=>rfl
    |some p=>rw[e] at hq;cases hq
   have eo:wn s=(owH Q s).map (·.1):=by unfold owH wn;rw[hp]
   refine cG (tY rfl (nm .(z)) (As rfl (ax rfl (ax (aO (z:=.lst ((wn s).map D.str)) (ax (vN g hm rfl rfl) aI) ?_) aI)) ?_) (C8 g hm (sX g hm) (ip _ g.sl.2 _))) ?_
   .show aa (D.lst (.(ao).map fun kv=>eA kv.1))=_;rw[Dp]
   .show(plD .(aL) && (gS ((wn s).map D.str) && ah))=ah;rw[wg];rfl
   rw[LG,eo,e1];have hn:=QM (lm:=lm) (kp:=kp) (kvs:=kvs) (O:=kvS (opH Q) (ss.take (i+1))) (A:=kvS .(bE) .(bi)) (B:=kvS .(bJ) .(bi)) (P:=[]) g hm (by rw[eo];refine iY (nm:=fun s:StepT=>s.nm) (f:=opH Q) (rB ((mH _ _).map _) g.sn) ?_;rw[lw,hs];simp)
   refine aK (tY rfl (nm .(z)) (As rfl (ax rfl (ax (aO (ax rfl .(v)) rfl) (ax (aD (rL (c:="Facts") (nm .(z)) rfl .(v) (AM g hm)) (rL (c:="Facts") (nm .(z)) rfl .(v) hn) rfl) aI))) rfl) (Bl (ip _ g.sl.2 _) (ip _ g.sl.2 _))) ⟨rfl,?_⟩;refine⟨oS .(aL),oS (.int (eaI js s.nm)),c,?_⟩;unfold pr;rw[←e2,←e3];unfold fiH laH;rw[hp];rfl
 .rintro ρ ⟨a,b,c,rfl⟩;rw[qg,qg,iH];exact⟨rfl,_,rfl,kvs,rfl,hk⟩
end
theorem lG {o:aq α} {a:α} (h:Wp o fun d=>d=a):o=aa a:=by obtain⟨d,e,rfl⟩:=h;exact e
theorem nN {b:aN} (h:ft ρ=aa b):bh ft ρ=aa (!b):=by unfold bh;rw[h];rfl
theorem L7 {a b:aN} (h1:ft ρ=aa a) (h2:a=ar->gt ρ=aa b):orT ft gt ρ=aa (a || b):=by
 unfold orT;rw[h1];cases a with
 |true=>rfl
 |false=>exact h2 rfl
theorem oT {a b:aN} (h1:fa ρ=aa (.bl a)) (h2:a=ah->fb ρ=aa (.bl b)):cc fa fb ρ=aa (.bl (a && b)):=by
 unfold cc;rw[h1];cases a
 .rfl
 .exact h2 rfl
theorem N7 (n:aj):jG [.int n,.int n]=aa (.bl ah):=by refine bV [oS (.int n),oS (.int n)] rfl (bU ?_);refine(oT (a:=ah) (b:=ah) rfl fun _=>oT (a:=ah) (b:=ah) rfl fun _=>aD rfl rfl ?_).trans rfl;show aa (D.bl (decide (n=n)))=_;rw[qU rfl]
noncomputable def Sm:ak->D->Prop
 |0,_=>False
 |n+1,.lst l=>∀x∈l,Sm n x
 |n+1,.tup l=>∀x∈l,Sm n x
 |_+1,.bl _=>True
 |_+1,.int _=>True
 |_+1,.str x=>Gw x=ah
 |_+1,_=>False
noncomputable def SmP (n:ak) (d:D):Prop:=∃p,pdD d=aa p/\jw p=ah/\p.depth<=n/\gf p p=ah
theorem vB {n:ak}:∀{l:ac D},(∀x∈l,SmP n x)->∃ps,eZ l=aa ps/\j7 ps=ah/\j8 ps<=n/\vf ps ps=ah
 |[],_=>⟨[],by simp[eZ],by simp[j7],by simp[j8],by simp[vf]⟩
 |x::r,h=>by obtain⟨p,a1,a2,a3,a4⟩:=h x qh;obtain⟨ps,b1,b2,b3,b4⟩:=vB (l:=r) fun y hy=>h y (qi _ hy);refine⟨p::ps,by simp[eZ,a1,b1],by simp[j7,a2,b2],?_,by simp[vf,a4,b4]⟩;simp only[j8];omega
theorem sD:∀(n:ak) (d:D),Sm n d->SmP n d
 |0,_,h=>h.elim
 |n+1,.lst l,h=>by
  obtain⟨ps,b1,b2,b3,b4⟩:=vB (n:=n) (l:=l) fun x hx=>sD n x (h x hx);exact⟨.list ps,by simp[pdD,b1],by simp[jw,b2],by simp only[kc];omega,by simp[gf,b4]⟩
 |n+1,.tup l,h=>by
  obtain⟨ps,b1,b2,b3,b4⟩:=vB (n:=n) (l:=l) fun x hx=>sD n x (h x hx);exact⟨.tuple ps,by simp[pdD,b1],by simp[jw,b2],by simp only[kc];omega,by simp[gf,b4]⟩
 |n+1,.bl b,h=>⟨.bool b,by simp[pdD],by simp[jw],by simp[kc],by simp[gf]⟩
 |n+1,.int i,h=>⟨.int i,by simp[pdD],by simp[jw],by simp[kc],by simp[gf]⟩
 |n+1,.str x,h=>⟨.str x,by simp[pdD],by simp only[jw];exact h,by simp[kc],by simp[gf]⟩
theorem AX {l:ac D} (h:Sm 64 (.lst l)):neA (.lst l) (.lst l)=aa (.bl ar):=by
 obtain⟨p,a1,a2,a3,a4⟩:=sD 64 _ h;have hs:eY p=ah:=by unfold eY;rw[a2,qU a3];rfl
 have e0:neA (.lst l) (.lst l)=jc (.lst l) (.lst l):=rfl;rw[e0];unfold jc eqX;rw[a1,qc,qc,qY ⟨hs,hs⟩,a4];rfl
theorem oW {f:α->D} {xs:ac α} (h:∀x∈xs,Sm n (f x)):Sm (n+1) (.lst (xs.map f)):=fun x hx=>by obtain⟨y,hy,rfl⟩:=bz.mp hx;exact h y hy
theorem yn {xs:ac ai} (h:∀x∈xs,bf x=ah):Sm (n+2) (.lst (xs.map D.str)):=oW fun x hx=>(pq (h x hx):Sm (n+1) (.str x))
theorem sY {l:ac D} (h:∀x∈l,Sm n x):Sm (n+1) (.tup l):=h
section
variable {bn:ac ai}
theorem su (hx:bf x=ah):Sm (n+1) (.str x):=pq hx
theorem G6 (br:ac (aj×aj)):Sm (n+3) (.lst (br.map dIv)):=oW fun p _=>sY fun y hy=>by simp only[qN,qL,or_false] at hy;rcases hy with rfl|rfl<;>trivial
theorem NS {ws:ac (ai×aj)} (hw:∀w∈ws,bf w.1=ah):Sm (n+3) (.lst (ws.map dW)):=oW fun p hp=>sY fun y hy=>by
 simp only[qN,qL,or_false] at hy;rcases hy with rfl|rfl
 .exact su (hw p hp)
 .trivial
theorem LZ {b:BenchT} (g:GoodB h b):Sm (n+4) (bK b):=sY fun y hy=>by
 simp only[qN,qL,or_false] at hy;rcases hy with rfl|rfl
 .exact su g.nm
 .exact G6 _
theorem Rk {s:StepT} (hb:∀y∈bn,bf y=ah) (g:GoodS bn h s):Sm (n+4) (bm s):=sY fun y hy=>by
 simp only[qN,qL,or_false] at hy;rcases hy with rfl|rfl|rfl
 .exact su g.nm
 .exact su g.kd
 .exact NS fun w hw=>hb _ (g.ws w hw).1
end
theorem xU {l:ac D} (h:Sm 64 (.lst l)):eqA (.lst l) (.lst l)=aa (.bl ah):=by
 obtain⟨p,a1,a2,a3,a4⟩:=sD 64 _ h;have hs:eY p=ah:=by unfold eY;rw[a2,qU a3];rfl
 have e0:eqA (.lst l) (.lst l)=oO (.lst l) (.lst l):=rfl;rw[e0];unfold oO eqX;rw[a1,qc,qc,qY ⟨hs,hs⟩,a4];rfl
section
variable {bs:ac BenchT} {A B P:ac (Key×D)} {s:StepT} {o:ac ai} {f l:aj}
theorem dE {F:FQ} (hm:m∉cw) (h1:fo ρ=aa .(l)) (h2:fr ρ=aa ds) (h3:F (fcD bs ss js us ls ks h lm kp kvs O A B P::ds)=aa d):bT "Facts" m F fo fr ρ=aa d:=rL (c:="Facts") (fs:=fF .(ae) O A B P) hm h1 h2 h3
theorem EC {m:ai} {JL:D} (hm:bf m=ah):∀(js:ac JobT) (a:aq Slot),(∀j∈js,∀x∈j.ms,bf x=ah)->∃a',dD (aA 2) (sIf (toB (b2 gJ (vSh 1) (b2 ixD (vSh 2) .(u)))) (aG (vSh 2)) aY) (js.map aX) [oS JL,oS (.str m),a]=aa ((match cC js m with|some j=>Fl.rt (aX j)|none=>Fl.nx),[oS JL,oS (.str m),a'])
 |[],a,_=>⟨a,rfl⟩
 |j::r,a,hn=>by
  have hT:toB (b2 gJ (vSh 1) (b2 ixD (vSh 2) .(u))) [oS JL,oS (.str m),oS (aX j)]=aa (decide (m∈j.ms)):=
   bN (aD rfl (aD rfl rfl mi) (wu hm (hn j qh)))
  have hg:aA 2 (aX j) [oS JL,oS (.str m),a]=aa [oS JL,oS (.str m),oS (aX j)]:=rfl;by_cases hj:m∈j.ms
  .refine⟨oS (aX j),?_⟩;have e:cC (j::r) m=aa j:=by unfold cC;rw[eE,qU hj]
   rw[qU hj] at hT;rw[e,qo];unfold dD;rw[hg,qc,Eo hT];rfl
  .have e:cC (j::r) m=cC r m:=by unfold cC;rw[eE,qP hj]
   rw[qP hj] at hT;obtain⟨a',ha⟩:=EC hm r (oS (aX j)) (fun x hx=>hn x (qi _ hx));refine⟨a',?_⟩;rw[e,qo];unfold dD;rw[hg,qc,BS hT];exact ha
theorem Ef (hm:bf m=ah) (hn:∀j∈js,∀x∈j.ms,bf x=ah):tS [cy bs ss js us ls ks h,.str m]=aa (i4 (cC js m)):=by
 obtain⟨a',e⟩:=EC (JL:=cy bs ss js us ls ks h) hm js af hn;have e2:bW (itF (b2 ixD (vSh 0) .(Q))) (aA 2) (sIf (toB (b2 gJ (vSh 1) (b2 ixD (vSh 2) .(u)))) (aG (vSh 2)) aY) [oS .(w),oS (.str m),af]=_:=(mX (xs:=js.map aX) (show itF _ _=_ by unfold itF;rw[aD rfl rfl (ixT _ 2)];rfl)).trans e;cases hj:cC js m with
 |none=>
  rw[hj] at e2;exact bV [oS .(w),oS (.str m),af] rfl ((lL e2).trans (bU rfl))
 |some j=>
  rw[hj] at e2;refine bV [oS .(w),oS (.str m),af] (ρ':=[oS .(w),oS (.str m),a']) rfl ?_;unfold aw;rw[e2];rfl
theorem Dw (g:Good bs ss js us ls ks h):∀j∈js,∀x∈j.ms,bf x=ah:=fun j hj x hx=>by obtain⟨s,hs,rfl⟩:=bz.mp ((g.j j hj).ms x hx);exact(g.s s hs).nm
theorem Fe (g:Good bs ss js us ls ks h) (hm:bf m=ah):oZ [cy bs ss js us ls ks h,.int lm,.str m]=aa (.int (mkI js lm h m)):=by
 refine lG ?_;unfold oZ;refine dL (bB (aK (aO (ax rfl (ax (aD rfl rfl (ixT _ 6)) aI)) rfl) (bB (aK (aO (ax rfl .(v)) (Ef hm (Dw g))) ?_))));unfold mkI duI;cases e:cC js m with
 |none=>
  refine cL (eP (aK (a:=ar) rfl ⟨.(L),fun _=>fX ⟨rfl,eR (bj rfl ⟨_,rfl,?_⟩)⟩⟩))
  congr 1
  show(if h<lm then h else lm)=if h<lm then (if h<h then h else h) else (if h<lm then h else lm)
  split<;>simp[*]
 |some j=>
  refine cL (eP (aK (a:=ah) rfl ⟨fun _=>lR (aK (aO (ax rfl (ax (aD rfl rfl kC) aI)) rfl) ⟨rfl,eR (bj rfl ⟨_,rfl,?_⟩)⟩),.(L)⟩))
  congr 1
  show(if j.du<(if h<lm then h else lm) then j.du else (if h<lm then h else lm))=if h<lm then (if j.du<h then j.du else h) else (if j.du<lm then j.du else lm)
  split<;>simp[*]
end
theorem KP {g:D->aq D} {x:D} (h1:fa ρ=aa x) (h2:g x=aa z):b1 g fa ρ=aa z:=by unfold b1;rw[h1];exact h2
theorem sq (h:fr ρ=aa ds):kD fr ρ=aa (.ow ds,ρ):=by unfold kD;rw[h];rfl
theorem rT {as:ac D} (h:g (as.map .(N)++bJ n af)=aa (.ow ds,ρ')):jA n g as=aa ds:=by unfold jA;rw[h];rfl
theorem sg {fo:FA} (h1:fo ρ=aa ds) (h2:f ρ=aa d) (hl:ds.length<=1000):ku fo f ρ=aa (.nx,ρ):=by unfold ku;rw[h1,qc,h2,qc];exact qY (by unfold aJ;omega)
section
variable {bs:ac BenchT} {A B P:ac (Key×D)} {s:StepT} {o:ac ai} {f l:aj}
theorem tO {F:ac D->aq (ac D)} {rs:ac D} (hm:m∉cw) (h1:fo ρ=aa .(l)) (h2:fr ρ=aa ds) (h3:F (fcD bs ss js us ls ks h lm kp kvs O A B P::ds)=aa rs):i7 "Facts" m F fo fr ρ=aa rs:=by have hno:((fF .(ae) O A B P).map fun z=>(z.1,foF z.2)).lookup m=af:=kh (by rw[qp];exact hm);unfold i7;rw[h1];show(if ("Facts":ai)="Facts"/\((fF .(ae) O A B P).map fun z=>(z.1,foF z.2)).lookup m=af then (fr ρ).bind fun ds=>F (fcD bs ss js us ls ks h lm kp kvs O A B P::ds) else af)=_;rw[qY ⟨rfl,hno⟩,h2];exact h3
theorem NW (hA:bd A .(aH)=aa (.int f)):wo [fcD bs ss js us ls ks h lm kp kvs O A B P,.str s.nm]=aa (.int f):=
 bV [oS .(l),oS .(aL)] rfl (bU (aD (iS 2 rfl rfl) rfl (show((aa (bd A .(aH))).bind id)=_ by rw[hA];rfl)))
theorem KO (hB:bd B .(aH)=aa (.int l)):wk [fcD bs ss js us ls ks h lm kp kvs O A B P,.str s.nm]=aa (.int l):=
 bV [oS .(l),oS .(aL)] rfl (bU (aD (iS 3 rfl rfl) rfl (show((aa (bd B .(aH))).bind id)=_ by rw[hB];rfl)))
theorem Mc (hO:bd O .(aH)=aa (.lst (o.map D.str))):wj [fcD bs ss js us ls ks h lm kp kvs O A B P,.str s.nm]=aa (.lst (o.map D.str)):=
 bV [oS .(l),oS .(aL)] rfl (bU (aO (ax (aD (iS 1 rfl rfl) rfl (show((aa (bd O .(aH))).bind id)=_ by rw[hO];rfl)) aI) rfl))
theorem SA (hO:bd O .(aH)=aa (.lst (o.map D.str))):tZ [fcD bs ss js us ls ks h lm kp kvs O A B P,.str s.nm]=aa (o.map D.str):=by have e:b2 cm (bM "Facts" "open_benches" (vSh 0)) (vSh 1) [oS .(l),oS .(aL)]=aa (.lst (o.map D.str)):=aD (iS 1 rfl rfl) rfl (show((aa (bd O .(aH))).bind id)=_ by rw[hO];rfl);unfold tZ;exact rT (sq ((bO (fun x=>Option.bind x kT) e).trans rfl))
theorem P8 (g:Good bs ss js us ls ks h) (hs:s∈ss) (hO:bd O .(aH)=aa (.lst (o.map D.str))) (hw:∀b∈o,b∈wn s) (hl:o.length<=1000):yk [fcD bs ss js us ls ks h lm kp kvs O A B P,.str s.nm]=aa (mxI (o.map (lnO s))):=by refine bV [oS .(l),oS .(aL)] rfl (bU (KP (dE (show("open_lengths":ai)∉cw by decide +kernel) rfl .(v) (BW g hs hO hw hl)) ?_));show(fU _).map mxI=_;rw[nt];rfl
theorem Sr:xm [fcD bs ss js us ls ks h lm kp kvs O A B P]=aa (.lst []):=
 bV [oS .(l)] rfl (bU (aO (ax (iS 4 rfl rfl) aI) rfl))
theorem L0:xq [fcD bs ss js us ls ks h lm kp kvs O A B []]=aa (.lst []):=
 bV [oS (fcD bs ss js us ls ks h lm kp kvs O A B [])] rfl (bU (aO (ax (iS 5 rfl rfl) aI) rfl))
theorem ML:rM [fcD bs ss js us ls ks h lm kp kvs O A B P]=aa []:=by unfold rM;refine rT (sq ?_);unfold rW;rw[iS (bs:=bs) (ss:=ss) (js:=js) (us:=us) (ls:=ls) (ks:=ks) (h:=h) (lm:=lm) (kp:=kp) (kvs:=kvs) (O:=O) (A:=A) (B:=B) (P:=P) 4 rfl rfl];rfl
theorem Hm:uj [fcD bs ss js us ls ks h lm kp kvs O A B []]=aa []:=by unfold uj;refine rT (sq ?_);unfold tX;rw[iS (bs:=bs) (ss:=ss) (js:=js) (us:=us) (ls:=ls) (ks:=ks) (h:=h) (lm:=lm) (kp:=kp) (kvs:=kvs) (O:=O) (A:=A) (B:=B) (P:=[]) 5 rfl rfl];rfl
theorem Fc:wa [fcD bs ss js us ls ks h lm kp kvs O A B P]=aa (.int kp.2):=
 bV [oS .(l)] rfl (bU (jP 2 rfl rfl))
theorem oA {b:aN} (hk:dI kp.1 .non=aa (.bl b)):gQ [fcD bs ss js us ls ks h lm kp kvs O A B P]=aa (.bl b):=
 bV [oS .(l)] rfl (bU (aD (jP 1 rfl rfl) rfl hk))
theorem Pj:vm [fcD bs ss js us ls ks h lm kp kvs O A B P]=aa .(k):=
 bV [oS .(l)] rfl (bU (jP 0 rfl rfl))
theorem Qy (hk:kp.1=.dk kl):vZ [fcD bs ss js us ls ks h lm kp kvs O A B P,.str m]=aa ((bd kl (.inr m)).getD .non):=by have hh:gQ [fcD bs ss js us ls ks h lm kp kvs O A B P]=aa (.bl ah):=oA (by rw[hk];rfl);refine bV [oS .(l),oS (.str m)] rfl (bU ?_);unfold ifD;rw[bN .(ab),qc,qY rfl];refine aD (x:=kp.1) (jP 1 rfl rfl) rfl ?_;rw[hk];rfl
theorem CI (hk:kp.1=.dk kl) (hz:l9 [.dk kl]=aa z):sk [fcD bs ss js us ls ks h lm kp kvs O A B P]=aa z:=by have hh:gQ [fcD bs ss js us ls ks h lm kp kvs O A B P]=aa (.bl ah):=oA (by rw[hk];rfl);refine bV [oS .(l)] rfl (bU ?_);unfold ifD;rw[bN .(ab),qc,qY rfl];exact aO (ax (d:=kp.1) (jP 1 rfl rfl) aI) (by rw[hk];exact hz)
theorem Pt {z:ac ai} (hk:kp.1=.dk kl) (ht:iR kl=aa z) (h64:z.length<64):ut [fcD bs ss js us ls ks h lm kp kvs O A B P]=aa ((iy z).map D.str):=by have hh:gQ [fcD bs ss js us ls ks h lm kp kvs O A B P]=aa (.bl ah):=oA (by rw[hk];rfl);unfold ut;refine rT (sq ?_);unfold ifO;rw[bN (dE (bs:=bs) (ss:=ss) (js:=js) (us:=us) (ls:=ls) (ks:=ks) (h:=h) (lm:=lm) (kp:=kp) (kvs:=kvs) (O:=O) (A:=A) (B:=B) (P:=P) (show("has_kept":ai)∉cw by decide +kernel) rfl aI hh),qc,qY rfl];unfold tp;rw[jP (bs:=bs) (ss:=ss) (js:=js) (us:=us) (ls:=ls) (ks:=ks) (h:=h) (lm:=lm) (kp:=kp) (kvs:=kvs) (O:=O) (A:=A) (B:=B) (P:=P) 1 rfl rfl];show(match kp.1 with|.dk l=>_|_=>_)=_;rw[hk];show(iR kl).bind _=_;rw[ht];exact qY h64
end
section
variable {f:α->D} {l:ac (ai×α)} {k j:ai} {v:α}
noncomputable def tb (f:α->D) (l:ac (ai×α)):ac (Key×D):=l.map fun q=>(.inr q.1,f q.2)
noncomputable def lk (l:ac (ai×α)) (k:ai):aq α:=(l.find? fun q=>decide (q.1=k)).map (·.2)
noncomputable def pt (l:ac (ai×α)) (k:ai) (v:α):ac (ai×α):=if (l.any fun q=>decide (q.1=k))=ah then l.map (fun q=>if q.1=k then (q.1,v) else q) else l++[(k,v)]
theorem BA (a b:ai):decide ((bX a:Key)=bX b)=decide (a=b):=by
 by_cases h:a=b
 .rw[h];simp
 .rw[qP h,qP fun z=>h (g9 z)]
theorem lV (f:α->D) (k:ai):∀l:ac (ai×α),bd (tb f l) (.inr k)=(lk l k).map f
 |[]=>rfl
 |(a,v)::l=>by
  have ih:=lV f k l;unfold bd lk at ih ⊢;unfold tb at ih ⊢;rw[qo,eE,eE,BA];by_cases h:a=k
  .rw[qU h];rfl
  .rw[qP h];exact ih
theorem kf (a:ai) (v:α) (l:ac (ai×α)) (k:ai):lk ((a,v)::l) k=if a=k then aa v else lk l k:=by
 unfold lk;rw[eE];by_cases h:a=k
 .rw[qU h,qY h];rfl
 .rw[qP h,qZ h]
theorem yr:∀{l:ac (ai×α)},lk l k=af↔k∉l.map (·.1)
 |[]=>by simp[lk]
 |(a,v)::l=>by
  rw[kf,qo,qN];by_cases h:a=k
  .subst h;simp
  .rw[qZ h,yr];constructor
   .rintro q (z|z)
    .exact h z.symm
    .exact q z
   .exact fun q z=>q (.inr z)
theorem AG:∀{l:ac (ai×α)},lk l k=aa v->(k,v)∈l
 |[],h=>by cases h
 |(a,w)::l,h=>by
  rw[kf] at h;split at h
  .rename_i e;cases h;subst e;exact .head _
  .exact .tail _ (AG h)
theorem Dh:∀{l:ac (ai×α)},(l.map (·.1)).Nodup->(k,v)∈l->lk l k=aa v
 |(a,w)::l,nd,h=>by
  rw[qo,cU] at nd;rw[kf];rcases bZ.mp h with e|h
  .cases e;exact qY rfl
  .rw[qZ fun z=>nd.1 (bz.mpr ⟨_,h,z.symm⟩)];exact Dh nd.2 h
theorem IB (l m:ac (ai×α)) (k:ai):lk (l++m) k=(lk l k).or (lk m k):=by unfold lk;rw[UE];cases l.find? fun q=>decide (q.1=k)<;>rfl
theorem wc:(l.any fun q=>decide (q.1=k))=ah↔k∈l.map (·.1):=by
 rw[vg,bz];constructor
 .rintro⟨q,h1,h2⟩;exact⟨q,h1,jt h2⟩
 .rintro⟨q,h1,h2⟩;exact⟨q,h1,qU h2⟩
theorem Dv (k:ai) (v:α) (j:ai):∀l:ac (ai×α),lk (l.map fun q=>if q.1=k then (q.1,v) else q) j=if j=k then (lk l j).map fun _=>v else lk l j
 |[]=>by simp[lk]
 |(a,w)::l=>by
  rw[qo];have ih:=Dv k v j l;by_cases h:a=k
  .rw[qY h,kf,kf,ih];by_cases h2:a=j
   .rw[qY h2,qY h2,qY (h2.symm.trans h)];rfl
   .rw[qZ h2,qZ h2]
  .rw[qZ h,kf,kf,ih];by_cases h2:a=j
   .rw[qY h2,qY h2,qZ fun z=>h (h2.trans z)]
   .rw[qZ h2,qZ h2]
theorem Ob:lk (pt l k v) j=if j=k then aa v else lk l j:=by
 unfold pt;split
 .rename_i h;rw[Dv];by_cases e:j=k
  .subst e;rw[qY rfl,qY rfl];cases q:lk l j with
   |none=>exact bu (wc.mp h) (yr.mp q)
   |some w=>rfl
  .rw[qZ e,qZ e]
 .rename_i h;rw[IB,kf];by_cases e:j=k
  .subst e;rw[qY rfl,qY rfl,yr.mpr fun z=>h (wc.mpr z)];rfl
  .rw[qZ e,qZ (cH e)];cases lk l j<;>rfl
theorem OS (k:ai) (v:α) (l:ac (ai×α)):(l.map fun q=>if q.1=k then (q.1,v) else q).map (·.1)=l.map (·.1):=by rw[qp];refine gj fun q _=>?_;show(if q.1=k then (q.1,v) else q).1=q.1;split<;>rfl
theorem Pv (nd:(l.map (·.1)).Nodup):((pt l k v).map (·.1)).Nodup:=by
 unfold pt;split
 .rw[OS];exact nd
 .rename_i h;rw[dF,iJ];refine⟨nd,by simp,fun a ha b hb e=>h (wc.mpr ?_)⟩;have e2:b=k:=by simpa using hb
  rw[←e2,←e];exact ha
theorem DR:(pt l k v).length<=l.length+1:=by
 unfold pt;split
 .rw[qg];exact nY _
 .rw[qk];exact qw _
theorem C0 (f:α->D) (l:ac (ai×α)) (k:ai) (v:α):bQ (tb f l) (.inr k) (f v)=tb f (pt l k v):=by
 have e:((tb f l).any fun kv=>decide (kv.1=.inr k))=l.any fun q=>decide (q.1=k):=by
  unfold tb;rw[List.any_map]
  congr 1
  funext q
  exact BA _ _
 unfold bQ pt;rw[e];split
 .unfold tb;rw[qp,qp];refine gj fun q _=>?_;show(if (bX q.1:Key)=.inr k then _ else _)=((.inr (if q.1=k then (q.1,v) else q).1:Key),f (if q.1=k then (q.1,v) else q).2);by_cases h:q.1=k
  .rw[qY h,qY (bO bX h)]
  .rw[qZ h,qZ fun z=>h (g9 z)]
 .unfold tb;rw[dF];rfl
end
theorem NE {l:ac (ai×α)} {k:ai} {v:α} {q:ai×α} (h:q∈pt l k v):q=(k,v)\/q∈l:=by
 unfold pt at h;split at h
 .obtain⟨x,hx,e⟩:=bz.mp h;split at e
  .rename_i z;rw[←e,z];exact .inl rfl
  .rw[←e];exact .inr hx
 .rcases cT.mp h with z|z
  .exact .inr z
  .exact .inl (bD.mp z)
theorem ud {kvs:ac (Key×D)} {k:ai} {fv:FE} (hs:ρ[i]?=aa (aa (.odk kvs))) (hl:kvs.length<100000) (hk:fk ρ=aa (.str k)) (hv:fv ρ=aa d) (p:R (.nx,ρ.set i (aa (.odk (bQ kvs (.inr k) d))))):Wp (dZ i fk fv ρ) R:=by unfold dZ;rw[hv,qc,hk,qc,hs];show Wp (if kvs.length<100000 then _ else _) R;rw[qY hl];exact⟨_,rfl,p⟩
theorem wI {m:α->D} {xs:ac α} {n:aj} (h0:0<=n) (h1:n<xs.length):∃x∈xs,ixD (.lst (xs.map m)) (.int n)=aa (m x):=by
 obtain⟨k,rfl⟩:=ox h0;have hk:k<xs.length:=by omega
 refine⟨xs[k],oj hk,?_⟩;show ixD (.lst (xs.map m)) (.int (k:aj))=_;rw[ixL,ql,qE hk];rfl
theorem CL:∀(own:ac (ai×aj)) (a b:aq Slot),cg .(P) tT (vSh 0) (own.map dW) [a,b]=aa ((own.map (·.1)).map D.str)
 |[],_,_=>rfl
 |p::r,a,b=>(bO (pZ fun y=>D.str p.1::y) (CL r (oS (.str p.1)) (oS (.int p.2)))).trans rfl
theorem xb:∀(own:ac (ai×aj)) (a b:aq Slot),cg .(P) tT (vSh 1) (own.map dW) [a,b]=aa ((own.map (·.2)).map D.int)
 |[],_,_=>rfl
 |p::r,a,b=>(bO (pZ fun y=>D.int p.2::y) (xb r (oS (.str p.1)) (oS (.int p.2)))).trans rfl
noncomputable abbrev cJ:=ac (ai×ai×aj)
structure PlanOk (P:cJ):Prop where
 nd:(P.map (·.1)).Nodup
 nb:∀q∈P,bf q.1=ah/\bf q.2.1=ah
theorem PlanOk.nil:PlanOk []:=⟨jr,(fun _ z=>nomatch z)⟩
theorem PlanOk.pt {P:cJ} (p:PlanOk P) {k:ai} {v:ai×aj} (hk:bf k=ah) (hv:bf v.1=ah):PlanOk (pt P k v):=⟨Pv p.nd,fun q hq=>by
 rcases NE hq with rfl|hq
 .exact⟨hk,hv⟩
 .exact p.nb q hq⟩
theorem C5 {q:ai×aj} (hq:bf q.1=ah):eqX (plP q) (plP q)=aa ah:=by unfold eqX;rw[show pdD (plP q)=aa (.tuple [.str q.1,.int q.2]) by simp[plP,pdD,eZ],qc,qc,qY (by simp[eY,jw,j7,pq hq,kc,j8])];simp[gf,vf]
theorem Bd (P:cJ) (hb:∀q∈P,bf q.2.1=ah) (nd:(P.map (·.1)).Nodup):∀R:cJ,(∀q∈R,q∈P)->lU .(ai) (tb plP R)=aa ah
 |[],_=>rfl
 |q::R,hR=>by
  have ih:=Bd P hb nd R fun x hx=>hR x (.tail _ hx);have e:bd .(ai) (.inr q.1)=aa (plP q.2):=by rw[lV,Dh nd (hR q (.head _))];rfl
  show(match bd .(ai) (.inr q.1) with
   |none=>aa ar
   |some y=>(eqX (plP q.2) y).bind fun e=>(lU .(ai) (tb plP R)).map (e && ·))=aa ah
  rw[e];dsimp only;rw[C5 (hb q (hR q (.head _))),ih];rfl
theorem Ax {P:cJ} (p:PlanOk P):il (.fdk .(ai)) (.dk .(ai))=aa (.bl ar):=by
 have e:uc (.fdk .(ai)) (.dk .(ai))=aa ah:=by show(if .(ai).length=.(ai).length then lU .(ai) .(ai) else aa ar)=_;rw[qY rfl];exact Bd P (fun q hq=>(p.nb q hq).2) p.nd P fun _ h=>h
 unfold il vQ;rw[e];rfl
theorem vS {g:FG} (h1:f ρ=aa d) (h2:g d ρ=aa ρ'):mf g f ρ=aa (.nx,ρ'):=by unfold mf;rw[h1,qc,h2];rfl
theorem KB {m:α->D} {xs:ac α} (h1:1<=xs.length):∃x∈xs,ixD (.lst (xs.map m)) (.int (-1))=aa (m x):=by
 have hk:xs.length-1<xs.length:=by omega
 refine⟨xs[xs.length-1],oj hk,?_⟩;show atI (xs.map m) (-1)=_;unfold atI ixN;rw[qZ .(c),qg,qY .(b),qc,show(-1+(xs.length:aj)).toNat=xs.length-1 by omega,ql,qE hk];rfl
theorem xS (m:α->D) (xs:ac α):b9 [.lst (xs.map m)]=aa (.int xs.length):=by show aa (D.int ((xs.map m).length:ak))=_;rw[qg]
theorem v8 (f:α->D) (P:ac (ai×α)):(tb f P).length=P.length:=qg ..
section
variable {bs:ac BenchT} {s:StepT}
abbrev plE (c:aj) (ss:ac StepT) (h:aj) (P:cJ) (r:bA):bA:=oS (.int c)::oS .(V)::oS (.int h)::aa (.odk .(ai))::r
theorem NR (c:aj) (g:Good bs ss js us ls ks h):Wp (mY [.int c,.lst (ss.map bm),.int h]) fun d=>∃P:cJ,d=.dk .(ai)/\PlanOk P/\∀m p,lk P m=aa p->∃s∈ss,s.nm=m/\p.1∈wn s:=by
 unfold mY;refine dL (cG (ρ1:=plE c ss h [] [af,af,af,af]) rfl (cL (fg (fun i ρ=>∃(P:cJ) (a b e f:aq Slot),ρ=plE c ss h P [a,b,e,f]/\PlanOk P/\P.length<=i/\∀m p,lk P m=aa p->∃s∈ss,s.nm=m/\p.1∈wn s) (iw (bc (cx (k:=90) (m:=4) rfl rfl rfl .(c) .(c) .(c) fun q0 q1=>cb ⟨_,rfl,q0,by omega,⟨[],af,af,af,af,rfl,.nil,eW _,fun m p z=>by cases z⟩,?_,?_⟩))))))
 .rintro i x ρ hx ⟨P,a,b,e,f,rfl,pk,pl,pw⟩;obtain⟨hi,rfl⟩:=iC hx;have hi:i<4:=by omega
  obtain⟨d1,u0,u1⟩:=dG c (k:=91+(i:aj)) (m:=(ss.length:aj)) .(b) .(b) (by have:=g.sl.1;omega);obtain⟨s,hs,es⟩:=wI (m:=bm) u0 u1;have gs:=g.s s hs;obtain⟨d2,v0,v1⟩:=dG c (k:=95+(i:aj)) (m:=(s.ws.length:aj)) .(b) .(b) (by have:=gs.l1;omega);obtain⟨w,hw,ew⟩:=wI (m:=dW) v0 v1;obtain⟨d3,z0,z1⟩:=dG c (k:=99+(i:aj)) (m:=h+1) .(b) .(b) (by have:=g.hh.1;omega);have hb:bf w.1=ah:=g.bnn _ (gs.ws w hw).1;refine aK rfl (cG (vS (aD rfl (aO (ax rfl (ax .(be) (ax (aO .(v) (xS bm ss)) aI))) d1) es) rfl) ?_);refine ud (k:=s.nm) (d:=plP (w.1,drw c (99+(i:aj)) (h+1))) rfl (by rw[v8];omega) rfl (iX (aD (aD rfl (aO (ax rfl (ax .(be) (ax (aO .(v) (xS dW s.ws)) aI))) d2) ew) rfl dc) (aO (ax rfl (ax .(be) (ax .(be) aI))) d3)) ⟨rfl,?_⟩;refine⟨pt P s.nm (w.1,drw c (99+(i:aj)) (h+1)),oS (.int (i:aj)),oS .(aL),oS (.str s.kd),oS (.lst (s.ws.map dW)),?_,pk.pt gs.nm hb,?_,fun m p hp=>?_⟩
  .show[_,_,_,aa (Slot.odk (bQ .(ai) .(aH) (plP (w.1,drw c (99+(i:aj)) (h+1))))),_,_,_,_]=_;rw[C0]
  .have:=DR (l:=P) (k:=s.nm) (v:=(w.1,drw c (99+(i:aj)) (h+1)));omega
  .rw[Ob] at hp;split at hp
   .rename_i e;cases hp;exact⟨s,hs,e.symm,bz.mpr ⟨w,hw,rfl⟩⟩
   .exact pw m p hp
 .rintro ρ ⟨P,a,b,e,f,rfl,pk,pl,pw⟩;exact⟨rfl,_,rfl,_,rfl,P,rfl,pk,pw⟩
theorem JJ:bf ("elder":ai)=ah:=by decide +kernel
theorem Jl (c:aj) (g:Good bs ss js us ls ks h):Wp (nv [.int c,.lst (ss.map bm),.int h]) fun d=>∃P:cJ,d=.dk .(ai)/\PlanOk P/\P.length<=5:=by
 unfold nv;refine dL (cG (ρ1:=plE c ss h [] [af,af,af,af,af]) rfl (cL (fg (fun i ρ=>i<=5/\∃(P:cJ) (a b e f q:aq Slot),ρ=plE c ss h P [a,b,e,f,q]/\PlanOk P/\P.length<=i) (iw (bc (cx (k:=103) (m:=6) rfl rfl rfl .(c) .(c) .(c) fun q0 q1=>cb ⟨_,rfl,q0,by omega,⟨by decide,[],af,af,af,af,af,rfl,.nil,eW _⟩,?_,?_⟩))))))
 .rintro i x ρ hx ⟨_,P,a,b,e,f,q,rfl,pk,pl⟩;obtain⟨hi,rfl⟩:=iC hx;have hi:i<5:=by omega
  obtain⟨d1,u0,u1⟩:=dG c (k:=104+(i:aj)) (m:=(ss.length:aj)) .(b) .(b) (by have:=g.sl.1;omega);obtain⟨s,hs,es⟩:=wI (m:=bm) u0 u1;have gs:=g.s s hs;obtain⟨w,hw,ew⟩:=KB (m:=dW) gs.l1;obtain⟨d2,v0,v1⟩:=dG c (k:=110+(i:aj)) (m:=5) .(b) .(b) .(c);obtain⟨d3,z0,z1⟩:=dG c (k:=116+(i:aj)) (m:=h+1) .(b) .(b) (by have:=g.hh.1;omega);have hb:bf w.1=ah:=g.bnn _ (gs.ws w hw).1;refine aK rfl (cG (vS (aD rfl (aO (ax rfl (ax .(be) (ax (aO .(v) (xS bm ss)) aI))) d1) es) rfl) ?_);refine bB (w_2 (aK (ix (ww (ax (aD (aD rfl rfl ew) rfl dc) .(v)) (show(2:ak)<=1000 by decide))) (aK (aD (aO (ax rfl (ax .(be) .(v))) d2) rfl (lG (uA .(c) rfl))) ((mr (P:=fun d=>∃b,d=D.str b/\bf b=ah) .(b) (by show _<((2:ak):aj);omega) (oY ⟨_,rfl,hb⟩ ⟨_,rfl,JJ⟩)).imp ?_))));rintro _ ⟨b',rfl,hb'⟩;refine ud (k:=s.nm) (d:=plP (b',drw c (116+(i:aj)) (h+1))) rfl (by rw[v8];omega) rfl (iX rfl (aO (ax rfl (ax .(be) (ax .(be) aI))) d3)) ⟨rfl,by omega,?_⟩;refine⟨pt P s.nm (b',drw c (116+(i:aj)) (h+1)),oS (.int (i:aj)),oS .(aL),oS (.str s.kd),oS (.lst (s.ws.map dW)),oS (.str b'),?_,pk.pt gs.nm hb',?_⟩
  .show[_,_,_,aa (Slot.odk (bQ .(ai) .(aH) (plP (b',drw c (116+(i:aj)) (h+1))))),_,_,_,_,_]=_;rw[C0]
  .have:=DR (l:=P) (k:=s.nm) (v:=(b',drw c (116+(i:aj)) (h+1)));omega
 .rintro ρ ⟨_,P,a,b,e,f,q,rfl,pk,pl⟩;refine⟨rfl,_,rfl,_,rfl,P,rfl,pk,?_⟩;omega
end
theorem Jb [dz κ] {l:ac (κ×D)} {k:κ} {v w:D} (h:k∉l.map (·.1)):bQ (bQ l k v) k w=l++[(k,w)]:=by
 rw[xr h];unfold bQ;rw[qY (by rw[List.any_append];simp),dF]
 congr 1
 .refine(gj fun q hq=>?_).trans (GB l);show(if q.1=k then _ else _)=_;rw[qZ fun e=>h (by rw[←e];exact qX hq)];rfl
 .show[if k=k then _ else _]=_;rw[qY rfl]
section
variable {bs:ac BenchT} {s:StepT} {P:cJ}
abbrev wiD (Q:ai->aq (ai×aj)) (js:ac JobT) (lm h nw:aj) (s:StepT):D:=.tup [.int (fiH Q js nw s.nm),.int (laH Q js lm h s),.lst ((owH Q s).map dW)]
theorem z8 {P:cJ} {m:ai} {p:ai×aj} (hp:lk P m=aa p):∀(ws:ac (ai×aj)) (a:aq Slot),cg (aA 0) (toB (b2 eqA .(p) (b2 ixD (b2 cm (vSh 1) (vSh 2)) .(f)))) (vSh 0) (ws.map dW) [a,oS (.dk .(ai)),oS (.str m)]=aa ((ws.filter fun w=>decide (w.1=p.1)).map dW)
 |[],_=>rfl
 |w::r,a=>by
  have ih:=z8 hp r (oS (dW w));have t:toB (b2 eqA .(p) (b2 ixD (b2 cm (vSh 1) (vSh 2)) .(f))) [oS (dW w),oS (.dk .(ai)),oS (.str m)]=aa (decide (w.1=p.1)):=
   bN (aD (aD rfl rfl dc) (aD (aD rfl rfl (show(aa (bd .(ai) (.inr m))).bind id=aa (plP p) by rw[lV,hp];rfl)) rfl dc) (NC _ _))
  rw[qo,sW t,ih,vd];cases decide (w.1=p.1)<;>rfl
abbrev weE (L:D) (lm:aj) (P:cJ) (nw:aj) (kvs:ac (Key×D)) (r:bA):bA:=oS L::oS (.int lm)::oS (.dk .(ai))::oS (.int nw)::aa (.odk kvs)::r
theorem Q7 {L:D} {kvs:ac (Key×D)} {a5 a6 a7 a9 a10 a11:aq Slot} (hk:Wp (g' (weE L lm P nw kvs [a5,a6,a7,oS (i4 (cC js m)),oS (.int (eaI js m)),a10,a11])) R):Wp (aw (aR 9 .(f)) (aw (sIf (toB (b2 dI (vSh 8) (vC .non))) (aR 9 (b2 ixD (vSh 8) .(i))) aY) g') (weE L lm P nw kvs [a5,a6,a7,oS (i4 (cC js m)),a9,a10,a11])) R:=by
 refine bB (aK rfl ?_);unfold eaI at hk;cases e:cC js m with
 |none=>
  rw[e] at hk;exact cL (eP (aK (a:=ar) rfl ⟨.(L),fun _=>fX ⟨rfl,hk⟩⟩))
 |some j=>
  rw[e] at hk;exact cL (eP (aK (a:=ah) rfl ⟨fun _=>lR (aK (aD rfl rfl fN) ⟨rfl,hk⟩),.(L)⟩))
theorem On (gs:1<=s.ws.length):nj [.lst ((s.ws.map (·.2)).map D.int)]=aa (.int (lsW s)):=by
 show(fU _).bind _=_;rw[nt,qc,qZ]
 .rfl
 intro z;have:=bO cI z;rw[qg] at this;simp only[qm] at this;omega
theorem Bm (g:Good bs ss js us ls ks h):Wp (pi [cy bs ss js us ls ks h,.int lm,.dk .(ai),.int nw]) fun d=>d=.dk (kvS .(aV) ss):=by
 unfold pi;refine dL (cG (ρ1:=weE .(w) lm P nw (kvS .(aV) (ss.take 0)) [af,af,af,af,af,af,af]) rfl (cL (fg (fun i ρ=>∃a b c d e f q:aq Slot,ρ=weE .(w) lm P nw (kvS .(aV) .(bi)) [a,b,c,d,e,f,q]) (dA (aK (aD rfl rfl (ixT _ 1)) (aK rfl ⟨⟨_,_,_,_,_,_,_,rfl⟩,?_,?_⟩))))))
 .rintro i x ρ hx ⟨a,b,c,d,e,f,q,rfl⟩;rw[ql] at hx;obtain⟨s,hs,rfl⟩:=oMd hx;have hm:=qR hs;have gs:=g.s s hm;have hno:(.inr s.nm:Key)∉(kvS .(aV) .(bi)).map (·.1):=fun z=>by obtain⟨p,hp,e⟩:=bz.mp z;obtain⟨t,ht,rfl⟩:=bz.mp hp;have e:t.nm=s.nm:=g9 e;refine wU g.sn (i:=i) (x:=s.nm) (by rw[ql,hs];rfl) ?_;rw[←e,←zN];exact qX ht
  have et:kvS .(aV) (ss.take (i+1))=kvS .(aV) .(bi)++[(.inr s.nm,wiD (lk P) js lm h nw s)]:=wL _ hs;refine aK rfl (bB (aK (aO (ax rfl .(v)) (Ef gs.nm (Dw g))) (Q7 (bB (aK (aD (aO .(as) (Fe g gs.nm)) (aO (ax (ix ?_) aI) (On gs.l1)) rfl) ?_)))))
  .unfold ba itF;show(if (s.ws.map dW).length<=aJ then cg _ _ _ _ [af,af] else af)=_;rw[qY (by rw[qg];have:=gs.l4;unfold aJ;omega)];exact xb s.ws af af
  refine cL (ud (k:=s.nm) (d:=.tup [.int (mxZ nw (eaI js s.nm)),.int (mkI js lm h s.nm-lsW s),.lst (s.ws.map dW)]) rfl (ip _ g.sl.2 _) rfl (xL (aO (ax rfl .(v)) rfl) rfl rfl) ⟨rfl,?_⟩);have hin:toB (b2 jI (vSh 5) (vSh 2)) (weE .(w) lm P nw (bQ (kvS .(aV) .(bi)) .(aH) (.tup [.int (mxZ nw (eaI js s.nm)),.int (mkI js lm h s.nm-lsW s),.lst (s.ws.map dW)])) [oS .(aL),oS (.str s.kd),oS (.lst (s.ws.map dW)),oS (i4 (cC js s.nm)),oS (.int (eaI js s.nm)),oS (.int (mkI js lm h s.nm-lsW s)),q])=aa (lk P s.nm).isSome:=bN (aD rfl rfl (show(aa (bd .(ai) .(aH))).map _=_ by rw[lV];cases lk P s.nm<;>rfl));cases hp:lk P s.nm with
  |none=>
   rw[hp] at hin;refine eP (aK hin ⟨.(L),fun _=>fX ⟨rfl,oS .(aL),oS (.str s.kd),oS (.lst (s.ws.map dW)),oS (i4 (cC js s.nm)),oS (.int (eaI js s.nm)),oS (.int (mkI js lm h s.nm-lsW s)),q,?_⟩⟩);rw[et,xr hno,show wiD (lk P) js lm h nw s=.tup [.int (mxZ nw (eaI js s.nm)),.int (mkI js lm h s.nm-lsW s),.lst (s.ws.map dW)] by unfold wiD fiH laH owH;rw[hp]];rfl
  |some p=>
   rw[hp] at hin;have gt:cm (.dk .(ai)) .(aL)=aa (plP p):=show(aa (bd .(ai) .(aH))).bind id=_ by rw[lV,hp];rfl
   refine eP (aK hin ⟨fun _=>bB (aK (ix (ys:=(s.ws.filter fun w=>decide (w.1=p.1)).map dW) ?_) (ud (k:=s.nm) (d:=.tup [.int (mxZ p.2 (eaI js s.nm)),.int p.2,.lst ((s.ws.filter fun w=>decide (w.1=p.1)).map dW)]) rfl ?_ rfl (xL (aO (ax (aD (aD rfl rfl gt) rfl fN) .(v)) rfl) (aD (aD rfl rfl gt) rfl fN) rfl) ⟨rfl,oS .(aL),oS (.str s.kd),oS (.lst (s.ws.map dW)),oS (i4 (cC js s.nm)),oS (.int (eaI js s.nm)),oS (.int (mkI js lm h s.nm-lsW s)),aa (.sh (.lst ((s.ws.filter fun w=>decide (w.1=p.1)).map dW))),?_⟩)),.(L)⟩)
   .unfold ba itF;show(if (s.ws.map dW).length<=aJ then cg _ _ _ _ [af,oS (.dk .(ai)),oS .(aL)] else af)=_;rw[qY (by rw[qg];have:=gs.l4;unfold aJ;omega)];exact z8 hp s.ws af
   .have h1:=oE (kvS .(aV) .(bi)) .(aH) (.tup [.int (mxZ nw (eaI js s.nm)),.int (mkI js lm h s.nm-lsW s),.lst (s.ws.map dW)]);have h2:(kvS .(aV) .(bi)).length<=40:=by rw[qg,qF];have:=g.sl.2;omega
    exact Nat.lt_of_le_of_lt h1 .(b)
   .show weE _ _ _ _ (bQ (bQ _ _ _) _ _) _=_;rw[Jb hno,et,show wiD (lk P) js lm h nw s=.tup [.int (mxZ p.2 (eaI js s.nm)),.int p.2,.lst ((s.ws.filter fun w=>decide (w.1=p.1)).map dW)] by unfold wiD fiH laH owH;rw[hp]];rfl
 .rintro ρ ⟨a,b,c,d,e,f,q,rfl⟩;rw[qg,iH];exact⟨rfl,_,rfl,_,rfl,rfl⟩
end
theorem yy {α:Type} {f:α->D}:∀P:ac (ai×α),iR (tb f P)=aa (P.map (·.1))
 |[]=>rfl
 |(k,v)::r=>by show(iR (tb f r)).map (k::·)=_;rw[yy r];rfl
section
variable {bs:ac BenchT} {s:StepT} {Q:ai->aq (ai×aj)}
abbrev faD (bs:ac BenchT) (ss:ac StepT) (js:ac JobT) (us:ac SetT) (ls:ac LinkT) (ks:ac StockT) (h lm:aj) (kp:D×aj) (kvs:ac .(ah)) (Q:ai->aq (ai×aj)) (nw:aj):D:=fcD bs ss js us ls ks h lm kp kvs (kvS (opH Q) ss) (kvS .(bE) ss) (kvS .(bJ) ss) []
theorem HF (gs:1<=s.ws.length) (hw:∀p,Q s.nm=aa p->p.1∈wn s):(owH Q s).map (·.2)≠[]:=by
 intro z;rw[UH] at z;unfold owH at z;split at z
 .rename_i p hp;obtain⟨w,hw,e⟩:=bz.mp (hw p hp);have:w∈s.ws.filter (fun w=>decide (w.1=p.1)):=uF.mpr ⟨hw,qU e⟩;rw[z] at this;cases this
 .rw[z] at gs;exact bu gs .(c)
theorem LY (gs:s.ws.length<=4):(owH Q s).length<=4:=by
 unfold owH;split
 .exact qO (List.length_filter_le _ _) gs
 .exact gs
abbrev rgE (F L:D) (lm:aj) (W:D) (r:bA):bA:=oS F::oS L::oS (.int lm)::oS W::r
theorem wh (n:aj) (h1:fa ρ=aa (.int n)) (h2:fb ρ=aa (.int n)):bh (toB (cF jG (ag fa (ag fb ao)))) ρ=aa ar:=nN (b:=ah) (bN (aO (ax h1 (ax h2 aI)) (N7 n)))
theorem or2 (h1:ft ρ=aa ar) (h2:gt ρ=aa ar):orT ft gt ρ=aa ar:=L7 (b:=ar) h1 fun _=>h2
theorem iq (h1:ft ρ=aa ar) (h2:Wp (g' ρ) R):Wp (aw (sIf ft (aG f) aY) g' ρ) R:=uv (aK h1 (by rw[qZ qt];exact h2))
theorem z6 (g:Good bs ss js us ls ks h) (hw:∀s∈ss,∀p,Q s.nm=aa p->p.1∈wn s):o7 [faD bs ss js us ls ks h lm kp kvs Q nw,cy bs ss js us ls ks h,.int lm,.dk (kvS (wiD Q js lm h nw) ss)]=aa (.bl ah):=by
 refine lG ?_;unfold o7;refine dL (cL (fg (fun i ρ=>∃a b c d e f q r:aq Slot,ρ=rgE (faD bs ss js us ls ks h lm kp kvs Q nw) .(w) lm (.dk (kvS (wiD Q js lm h nw) ss)) [a,b,c,d,e,f,q,r]) (dA (aK (aD rfl rfl (ixT _ 1)) (aK rfl ⟨⟨af,af,af,af,af,af,af,af,rfl⟩,?_,?_⟩)))))
 .rintro i x ρ hx ⟨a,b,c,d,e,f,q,r,rfl⟩;rw[ql] at hx;obtain⟨s,hs,rfl⟩:=oMd hx;have hm:=qR hs;have gs:=g.s s hm;have hO:bd (kvS (opH Q) ss) .(aH)=aa (opH Q s):=iY (nm:=fun s:StepT=>s.nm) g.sn hm;have hA:bd (kvS .(bE) ss) .(aH)=aa (.int (fiH Q js nw s.nm)):=iY (nm:=fun s:StepT=>s.nm) (f:=fun s=>.int (fiH Q js nw s.nm)) g.sn hm;have hB:bd (kvS .(bJ) ss) .(aH)=aa (.int (laH Q js lm h s)):=iY (nm:=fun s:StepT=>s.nm) (f:=fun s=>.int (laH Q js lm h s)) g.sn hm;have hW:cm (.dk (kvS (wiD Q js lm h nw) ss)) .(aL)=aa (wiD Q js lm h nw s):=show(aa (bd (kvS (wiD Q js lm h nw) ss) .(aH))).bind id=_ by rw[iY (nm:=fun s:StepT=>s.nm) g.sn hm];rfl
  have ol:(owH Q s).length<=4:=LY gs.l4;have ow:∀b∈(owH Q s).map (·.1),b∈wn s:=fun b hb=>by obtain⟨w,hw,rfl⟩:=bz.mp hb;exact bz.mpr ⟨w,Bq w hw,rfl⟩
  have oll:((owH Q s).map (·.1)).length<=1000:=by rw[qg];omega
  have on:=HF gs.l1 (hw s hm);have el:((owH Q s).map (·.1)).map (lnO s)=(owH Q s).map (·.2):=DL gs.nd Bq;have nb:∀x∈(owH Q s).map (·.1),bf x=ah:=fun x hx=>sX g hm x (ow x hx);have eL:=least_of (lm:=lm) (kp:=kp) (kvs:=kvs) (A:=kvS .(bE) ss) (B:=kvS .(bJ) ss) (P:=[]) g hm hO ow oll;have eG:=P8 (lm:=lm) (kp:=kp) (kvs:=kvs) (A:=kvS .(bE) ss) (B:=kvS .(bJ) ss) (P:=[]) g hm hO ow oll;rw[el,A6 on] at eL;rw[el,show mxI ((owH Q s).map (·.2))=.int (mxJ ((owH Q s).map (·.2))) from qZ on] at eG;have mn:nj [.lst (((owH Q s).map (·.2)).map D.int)]=aa (.int (mnI ((owH Q s).map (·.2)))):=by show(fU _).bind _=_;rw[nt,qc,qZ on]
  have mx:ur [.lst (((owH Q s).map (·.2)).map D.int)]=aa (.int (mxJ ((owH Q s).map (·.2)))):=by show(fU _).bind _=_;rw[nt,qc,qZ on]
  refine aK rfl (cG (vS (aD rfl rfl hW) rfl) (bB (aK (aO .(as) (Fe g gs.nm)) ?_)));refine iq (or2 (wh _ (dE (show("first_of":ai)∉cw by decide +kernel) rfl .(v) (NW hA)) rfl) (wh _ (dE (show("last_of":ai)∉cw by decide +kernel) rfl .(v) (KO hB)) rfl)) ?_;refine iq (or2 (wh _ (dE (show("end_mark":ai)∉cw by decide +kernel) rfl .(v) (AM g hm)) rfl) (bN (aD (dE (show("open_to":ai)∉cw by decide +kernel) rfl .(v) (Mc hO)) (ix ?_) (AX (yn nb))))) ?_
  .unfold ba itF;show(if ((owH Q s).map dW).length<=aJ then cg _ _ _ _ [af,af] else af)=_;rw[qY (by rw[qg];unfold aJ;omega)];exact CL (owH Q s) af af
  refine bB (aK (ix (ys:=((owH Q s).map (·.2)).map D.int) ?_) ?_)
  .unfold ba itF;show(if ((owH Q s).map dW).length<=aJ then cg _ _ _ _ [af,af] else af)=_;rw[qY (by rw[qg];unfold aJ;omega)];exact xb (owH Q s) af af
  refine iq (or2 (wh _ (dE (show("least_of":ai)∉cw by decide +kernel) rfl .(v) eL) (aO .(v) mn)) (wh _ (dE (show("greatest_of":ai)∉cw by decide +kernel) rfl .(v) eG) (aO .(v) mx))) ?_;exact aK (sg (tO (show("open_to":ai)∉cw by decide +kernel) rfl .(v) (SA hO)) rfl (by rw[qg];exact oll)) ⟨rfl,_,_,_,_,_,_,_,_,rfl⟩
 .rintro ρ ⟨a,b,c,d,e,f,q,r,rfl⟩;refine⟨rfl,cG (sg (tO (show("orders":ai)∉cw by decide +kernel) rfl aI ML) (iX rfl rfl) (eW _)) (cG (sg (tO (show("noted":ai)∉cw by decide +kernel) rfl aI Hm) rfl (eW _)) (eR (aK (oT (a:=ah) (b:=ah) (aD (dE (show("orders":ai)∉cw by decide +kernel) rfl aI Sr) rfl rfl) fun _=>aD (dE (show("noted":ai)∉cw by decide +kernel) rfl aI L0) rfl rfl) ⟨_,rfl,rfl⟩)))⟩
theorem Nw {P:cJ} (p:PlanOk P) (m:ai):neA ((bd .(ai) (.inr m)).getD .non) ((bd .(ai) (.inr m)).getD .non)=aa (.bl ar):=by
 rw[lV];cases e:lk P m with
 |none=>rfl
 |some q=>
  have hq:bf q.1=ah:=(p.nb _ (AG e)).2;show neA (plP q) (plP q)=_;have e0:neA (plP q) (plP q)=jc (plP q) (plP q):=rfl;rw[e0];unfold jc;rw[C5 hq];rfl
theorem Ij (mo:aj):lK [faD bs ss js us ls ks h lm (.non,mo) kvs Q nw,cy bs ss js us ls ks h,.non,.int mo]=aa (.bl ah):=by have hh:gQ [faD bs ss js us ls ks h lm (.non,mo) kvs Q nw]=aa (.bl ar):=oA rfl;refine lG ?_;unfold lK;refine dL (iq (or2 (nN (b:=ah) (bN (aO (ax .(ab) .(v)) rfl))) (bN (aD .(ab) .(be) rfl))) ?_);refine iq (wh mo (dE (show("most_moved":ai)∉cw by decide +kernel) rfl aI Fc) rfl) ?_;exact uv (aK (a:=ah) rfl (by rw[qY rfl];exact aK rfl ⟨_,rfl,rfl⟩))
theorem Q4 {P:cJ} (p:PlanOk P) (h5:P.length<=5) (mo:aj):lK [faD bs ss js us ls ks h lm (.dk .(ai),mo) kvs Q nw,cy bs ss js us ls ks h,.dk .(ai),.int mo]=aa (.bl ah):=by
 have hh:gQ [faD bs ss js us ls ks h lm (.dk .(ai),mo) kvs Q nw]=aa (.bl ah):=oA rfl;have hl:(P.map (·.1)).length<64:=by rw[qg];omega
 have sm:∀x∈iy (P.map (·.1)),bf x=ah:=fun x hx=>by obtain⟨q,hq,rfl⟩:=bz.mp ((zE _ leS).mem_iff.mp hx);exact(p.nb q hq).1
 have hz:l9 [.dk .(ai)]=aa (.lst ((iy (P.map (·.1))).map D.str)):=by show(iR .(ai)).bind _=_;rw[yy,qc,qY hl]
 have sl:(iy (P.map (·.1))).length<=1000:=by have:(iy (P.map (·.1))).length=(P.map (·.1)).length:=(zE _ leS).length_eq;omega
 refine lG ?_;unfold lK;refine dL (iq (or2 (nN (b:=ah) (bN (aO (ax .(ab) .(v)) rfl))) (bN (aD .(ab) .(be) rfl))) ?_);refine iq (wh mo (dE (show("most_moved":ai)∉cw by decide +kernel) rfl aI Fc) rfl) ?_;refine iq rfl (iq (bN (aD (dE (show("kept_names":ai)∉cw by decide +kernel) rfl aI (CI rfl hz)) (aO .(v) hz) (AX (yn sm)))) ?_);refine cG (sg (tO (show("kept_names":ai)∉cw by decide +kernel) rfl aI (Pt rfl (yy P) hl)) rfl (by rw[qg];exact sl)) ?_;refine cL (fg (fun i ρ=>∃a:aq Slot,ρ=[oS (faD bs ss js us ls ks h lm (.dk .(ai),mo) kvs Q nw),oS .(w),oS (.dk .(ai)),oS (.int mo),a]) (dA (aK (aD rfl rfl (ixT _ 1)) (aK rfl ⟨⟨af,rfl⟩,?_,?_⟩))))
 .rintro i x ρ hx ⟨a,rfl⟩;rw[ql] at hx;obtain⟨s,hs,rfl⟩:=oMd hx;exact aK rfl (eP (aK (a:=ar) (bN (aD (dE (show("kept_place":ai)∉cw by decide +kernel) rfl (ax (aD rfl rfl dc) aI) (Qy rfl)) (aD rfl (aD rfl rfl dc) rfl) (Nw p s.nm))) ⟨.(L),fun _=>fX ⟨rfl,_,rfl⟩⟩))
 .rintro ρ ⟨a,rfl⟩;exact⟨rfl,eR (aK (aD (dE (show("kept_names":ai)∉cw by decide +kernel) rfl aI (CI rfl hz)) (aO .(v) hz) (xU (yn sm))) ⟨_,rfl,rfl⟩)⟩
end
theorem nfI {fs:ac (ai×D)} (h:∀x∈fs.map (·.2),noF x=ah):noF (.ins c fs)=ah:=by rw[noF,wY];exact nk h
theorem nfK {l:ac (Key×D)} (h:∀q∈l,noF q.2=ah):noF (.dk l)=ah:=by rw[noF];exact JF h
theorem gW {k:α->Key} {f:α->D} {xs:ac α} (h:∀x∈xs,noF (f x)=ah):noF (.dk (xs.map fun x=>(k x,f x)))=ah:=nfK fun q hq=>by obtain⟨x,hx,rfl⟩:=bz.mp hq;exact h x hx
theorem nfL {f:α->D} (xs:ac α) (h:∀x,noF (f x)=ah):noF (.lst (xs.map f))=ah:=by rw[noF];exact nk fun y hy=>by obtain⟨x,_,rfl⟩:=bz.mp hy;exact h x
theorem nfT {l:ac D} (h:∀x∈l,noF x=ah):noF (.tup l)=ah:=by rw[noF];exact nk h
theorem gK {P:D->Prop} :∀x∈([]:ac D),P x:=fun _ z=>nomatch z
theorem all_cons {P:D->Prop} {a:D} {l:ac D} (h1:P a) (h2:∀x∈l,P x):∀x∈a::l,P x:=fun x hx=>by
 rcases bZ.mp hx with rfl|hx
 .exact h1
 .exact h2 x hx
theorem nfW (w:ai×aj):noF (dW w)=ah:=nfT .(bF)
theorem nfV (w:aj×aj):noF (dIv w)=ah:=nfT .(bF)
theorem nfS (l:ac ai):noF (.lst (l.map D.str))=ah:=nfL l fun _=>rfl
theorem B6 (b:BenchT):noF (bK b)=ah:=nfT (all_cons rfl (all_cons (nfL _ nfV) gK))
theorem Av (b:StepT):noF (bm b)=ah:=nfT (all_cons rfl (all_cons rfl (all_cons (nfL _ nfW) gK)))
theorem Ez (b:JobT):noF (aX b)=ah:=nfT (all_cons rfl (all_cons rfl (all_cons rfl (all_cons rfl (all_cons (nfS _) gK)))))
theorem JP (b:SetT):noF (cP b)=ah:=nfT (all_cons rfl (all_cons rfl .(bF)))
theorem Jk (b:LinkT):noF (cS b)=ah:=nfT (all_cons rfl .(bF))
theorem O8 (b:StockT):noF (cX b)=ah:=nfT (all_cons rfl (all_cons rfl (all_cons rfl (all_cons (nfL _ nfW) (all_cons (nfL _ nfW) gK)))))
theorem B3 (j:JobT):∀(ms:ac ai) (acc:ac (Key×D)),(∀q∈acc,noF q.2=ah)->∀q∈ms.foldl (fO j) acc,noF q.2=ah
 |[],_,h=>h
 |m::r,acc,h=>B3 j r _ (Ch h (Ez j))
theorem BU:∀(js:ac JobT) (acc:ac (Key×D)),(∀q∈acc,noF q.2=ah)->∀q∈js.foldl (fun acc j=>j.ms.foldl (fO j) acc) acc,noF q.2=ah
 |[],_,h=>h
 |j::r,acc,h=>BU r _ (B3 j j.ms acc h)
section
variable {bs:ac BenchT} {s:StepT} {Q:ai->aq (ai×aj)}
theorem LD:noF .(k)=ah:=by refine nfI ?_;show ∀x∈[_,_,_,_,_,_,_,_,_,_,_],_;refine all_cons (nfL _ B6) (all_cons (nfL _ Av) (all_cons (nfL _ Ez) (all_cons (nfL _ JP) (all_cons (nfL _ Jk) (all_cons (nfL _ O8) (all_cons rfl (all_cons (gW fun x _=>B6 x) (all_cons (gW fun x _=>Av x) (all_cons ?_ (all_cons (nfK (BU js [] fun q hq=>nomatch hq)) gK))))))))));rw[noF];exact DJ fun q hq=>by obtain⟨x,_,rfl⟩:=bz.mp hq;rfl
theorem P' (m:ai):noF (jnD js m)=ah:=by unfold jnD;cases cC js m<;>rfl
theorem P9 (hk:noF kp.1=ah) (hg:jH kvs=ah):noF (faD bs ss js us ls ks h lm kp kvs Q nw)=ah:=by refine nfI ?_;show ∀x∈[_,_,_,_,_,_],_;refine all_cons (nfI ?_) (all_cons (gW fun x _=>nfS _) (all_cons (gW fun x _=>rfl) (all_cons (gW fun x _=>rfl) .(bF))));show ∀x∈[_,_,_,_,_,_,_,_,_],_;exact all_cons LD (all_cons hk (all_cons rfl (all_cons (gW fun x _=>gW fun y _=>rfl) (all_cons (gW fun x _=>P' _) (all_cons (gW fun x _=>rfl) (all_cons (gW fun x _=>rfl) (all_cons (gW fun x _=>nfL _ nfV) (all_cons (by show noF (.dt kvs)=ah;rw[noF];exact hg) gK))))))))
theorem GL (P:cJ):noF (.dk .(ai))=ah:=gW fun x _=>nfT .(bF)
end
theorem HZ {fs:ac Fld} (hi:ρ[i]?=aa (aa (.lo fs))) (ok:fs.all i8=ah) (h:f (ρ.set i (aa (.own (fs.map loF))))=aa d) (hn:noF d=ah):mw i f ρ=aa d:=by unfold mw;rw[hi];show(if fs.all i8=ah then (f _).bind _ else af)=_;rw[qY ok,h,qc,qY hn]
theorem LF {f:FT} {fs:ac Fld} {d:aN} (hi:ρ[i]?=aa (aa (.lo fs))) (ok:fs.all i8=ah) (h:f (ρ.set i (aa (.own (fs.map loF))))=aa d):lH i f ρ=aa d:=by unfold lH;rw[hi];show(if fs.all i8=ah then f _ else af)=_;rw[qY ok,h]
theorem M6 {F:FQ} {dd:ac D} (h1:fr ρ=aa ds) (h2:f ρ=aa z) (h3:F (ds++(dd++[z]))=aa d):cFK F dd fr f ρ=aa d:=by unfold cFK;rw[h1,qc,h2];exact h3
theorem Cu:∀{l:ac StepT},(l.map (·.nm)).Nodup->∀{s t:StepT},s∈l->t∈l->s.nm=t.nm->s=t
 |x::r,nd,s,t,hs,ht,e=>by
  rw[qo,cU] at nd;rcases bZ.mp hs with h1|h1
  .rcases bZ.mp ht with h2|h2
   .rw[h1,h2]
   .exact bu (by rw[←h1,e];exact qX h2) nd.1
  .rcases bZ.mp ht with h2|h2
   .exact bu (by rw[←h2,←e];exact qX h1) nd.1
   .exact Cu nd.2 h1 h2 e
def koD:aq cJ->D
 |some K=>.dk (tb plP K)
 |none=>.non
def koZ:aq cJ->D
 |some K=>.fdk (tb plP K)
 |none=>.non
def koF:aq cJ->Fld
 |some K=>.k (tb plP K)
 |none=>.d .non
def tR:aq cJ->Prop
 |some K=>PlanOk K/\K.length<=5
 |none=>True
section
variable {bs:ac BenchT} {s:StepT} {P:cJ}
structure WayOk (ss:ac StepT) (P:cJ):Prop where
 at':∀s∈ss,∀p,lk P s.nm=aa p->p.1∈wn s
theorem Rf (g:Good bs ss js us ls ks h) (pw:∀m p,lk P m=aa p->∃s∈ss,s.nm=m/\p.1∈wn s):WayOk ss P:=⟨fun s hs p hp=>by obtain⟨t,ht,e,hw⟩:=pw _ _ hp;rw[Cu g.sn hs ht e.symm];exact hw⟩
theorem N0 (w:WayOk ss P):HdOk ss (.fdk .(ai)) (lk P):=⟨.(L),fun _=>⟨_,rfl,fun s _=>lV plP s.nm P⟩,w.at'⟩
theorem zX:HdOk ss .non (lk ([]:cJ)):=⟨fun _ _ _=>rfl,fun z=>bu rfl z,fun _ _ p z=>nomatch z⟩
theorem Rx (o:aq cJ):KdOk (koZ o) (koD o):=by
 cases o with
 |none=>exact .non
 |some K=>exact .dk _
theorem RT (o:aq cJ):noF (koD o)=ah:=by
 cases o with
 |none=>rfl
 |some K=>exact GL K
theorem NK {o:aq cJ} (ho:tR o) (mo:aj) {Q:ai->aq (ai×aj)} :lK [faD bs ss js us ls ks h lm (koD o,mo) kvs Q nw,cy bs ss js us ls ks h,koD o,.int mo]=aa (.bl ah):=by
 cases o with
 |none=>exact Ij mo
 |some K=>exact Q4 ho.1 ho.2 mo
theorem Kp (g:Good bs ss js us ls ks h):yt [bH bs ss js us ls ks h]=aa .(V):=by have hp:Pl 8 .(V):=gu (by have:=g.sl.2;omega) fun x hx=>A8 (n:=3) (g.s x hx);exact bV [oS .(k)] rfl (bU (aO (ax (kK 1 rfl rfl) aI) (gL hp)))
abbrev laE (S:D) (h:aj) (L:D) (c lm:aj) (P:cJ) (o:aq cJ) (mo nw:aj) (F:D) (r:bA):bA:=oS S::oS (.int h)::oS L::oS (.int c)::oS (.int lm)::oS (.dk .(ai))::oS (koD o)::oS (.int mo)::oS (.int nw)::oS F::r
theorem wS (g:Good bs ss js us ls ks h) (H:HdOk ss hd (lk P)) (o:aq cJ) (lm mo nw:aj):∃kvs,jH kvs=ah/\(iA [bH bs ss js us ls ks h,.int lm,hd,koZ o,.int mo,.int nw]).map (foD "Facts")=aa .(al):=by obtain⟨_,e,kvs,rfl,hk⟩:=HA (kp:=(koD o,mo)) (lm:=lm) (nw:=nw) g (Rx o) H;exact⟨kvs,hk.no,by rw[e];rfl⟩
theorem Na (c:aj) {S:D} {F0:D} (g:Good bs ss js us ls ks h) (ml:(js.flatMap (·.ms)).length<=300):Wp (Xb (laE S h .(w) c lm [] af 0 0 F0 [af,af,af,af,af])) fun r=>r.1=.nx/\∃P o mo nw kvs x,r.2=laE S h .(w) c lm P o mo nw .(al) [x,af,af,af,af]/\WayOk ss P/\tR o:=by
 obtain⟨_,eh,P,rfl,pk,pw⟩:=NR c g;obtain⟨_,ek,K,rfl,kk,kl⟩:=Jl c g;have W:=Rf g pw;obtain⟨d86,u0,u1⟩:=dG c (k:=86) (m:=2) .(c) .(c) .(c);obtain⟨d87,_,_⟩:=dG c (k:=87) (m:=5) .(c) .(c) .(c);obtain⟨d88,_,_⟩:=dG c (k:=88) (m:=h+1) .(c) .(c) (by have:=g.hh.1;omega);refine bB (aK (aO (ax rfl (ax (aD rfl rfl (ixT _ 1)) .(v))) eh) ?_);refine bB (w_2 (aK (ix (ww (ax rfl (ax (aO (ax rfl (ax (aD rfl rfl (ixT _ 1)) .(v))) ek) aI)) (show(2:ak)<=1000 by decide))) (aK (aO .(as) d86) ((mr (P:=fun d=>∃o,d=koD o/\tR o) u0 (by show _<((2:ak):aj);omega) (oY ⟨af,rfl,trivial⟩ ⟨aa K,rfl,kk,kl⟩)).imp ?_))));rintro _ ⟨o,rfl,ho⟩;refine bB (aK (aO .(as) d87) (bB (aK (aO (ax rfl (ax rfl (ax .(be) aI))) d88) ?_)));obtain⟨mo,hmo⟩:∃mo,mo=drw c 87 5:=⟨_,rfl⟩;obtain⟨nw,hnw⟩:∃nw,nw=drw c 88 (h+1):=⟨_,rfl⟩;rw[←hmo,←hnw];obtain⟨kvs,hnf,ef⟩:=wS g (N0 W) o lm mo nw;show Wp (aw _ _ (laE S h .(w) c lm P o mo nw F0 [af,af,af,af,af])) _;refine cG (ρ1:=laE S h .(w) c lm P o mo nw F0 [aa (.lo [.k .(ai),.d .non]),af,af,af,af]) rfl ?_;have hp1:∀r,sIf (toB (b2 dI (vSh 6) (vC .non))) (nq 10 (vSh 6)) aY (laE S h .(w) c lm P o mo nw F0 (aa (.lo [.k .(ai),.d .non])::r))=aa (.nx,laE S h .(w) c lm P o mo nw F0 (aa (.lo [.k .(ai),koF o])::r)):=fun r=>by cases o<;>rfl
 refine cG (hp1 _) ?_;have ok:[Fld.k .(ai),koF o].all i8=ah:=by cases o<;>rfl
 have em:[Fld.k .(ai),koF o].map loF=[.fdk .(ai),koZ o]:=by cases o<;>rfl
 refine bB (aK (HZ (d:=faD bs ss js us ls ks h lm (koD o,mo) kvs (lk P) nw) rfl ok ?_ (P9 (RT o) hnf)) ?_)
 .rw[em];exact aO (ax (aO .(v) (yA g ml)) (ax rfl (ax rfl .(as)))) ef
 have dk:il (koZ o) (koD o)=aa (.bl ar):=by
  cases o with
  |none=>rfl
  |some K=>exact Ax ho.1
 refine iq (LF rfl ok ?_) ?_
 .rw[em];exact or2 (bN (aD (x:=.fdk .(ai)) rfl rfl (Ax pk))) (bN (aD (x:=koZ o) rfl rfl dk))
 refine cG (ρ1:=laE S h .(w) c lm P o mo nw .(al) [aa (.lo [.k [],koF o]),af,af,af,af]) rfl ?_;cases o with
 |none=>exact aK rfl ⟨rfl,P,af,mo,nw,kvs,_,rfl,W,ho⟩
 |some K=>
  refine eP (aK (a:=ah) rfl ⟨fun _=>aK (a:=(.nx,laE S h .(w) c lm P (aa K) mo nw (faD bs ss js us ls ks h lm (koD (aa K),mo) kvs (lk P) nw) [aa (.lo [.k [],.k (bQ (tb plP K) (.inr "zz") (.tup [.str "zz",.int 1]))]),af,af,af,af])) ?_ ⟨rfl,P,aa K,mo,nw,kvs,aa (.lo [.k [],.k (bQ (tb plP K) (.inr "zz") (.tup [.str "zz",.int 1]))]),rfl,W,ho⟩,.(L)⟩);show(if (tb plP K).length<100000 then aa _ else af)=_;rw[qY (by rw[v8];have:=ho.2;omega)];rfl
theorem IY (ns:ac aj) (hns:ns.length<=63):sB [.scr ns]=aa (.bl ah):=by
 obtain⟨_,e,rfl⟩:Wp (sB [.scr ns]) fun d=>d=.bl ah:=by
  unfold sB xB;obtain⟨_,eh,h,rfl,hh⟩:=Rm ns;obtain⟨_,el,bs,ss,js,us,ls,ks,rfl,g,s40,j3,hno⟩:=Mi ns hns hh;obtain⟨_,ec,c,rfl⟩:=BP ns 0;obtain⟨d84,_,_⟩:=dG c (k:=84) (m:=h+1) .(c) .(c) .(b);obtain⟨d85,_,_⟩:=dG c (k:=85) (m:=2) .(c) .(c) .(c);have ml:(js.flatMap (·.ms)).length<=300:=by
   have:=x8 (f:=fun j:JobT=>j.ms) (m:=40) (l:=js) fun j hj=>by have:=(g.j j hj).ln;rw[qg] at this;omega
   omega
  refine dL (bB (aK (aO .(v) eh) (bB (aK (aO .(as) el) (bB (aK (aO (ax rfl .(v)) ec) (bB (aK (aO (ax rfl (ax rfl (ax .(be) aI))) d84) ?_))))))));obtain⟨lm,hlm⟩:∃lm,lm=drw c 84 (h+1):=⟨_,rfl⟩;rw[←hlm];obtain⟨kv0,_,e0⟩:=wS (P:=[]) g zX af lm 0 0;refine bB (aK rfl (bB (aK rfl (bB (aK rfl (bB (aK rfl (bB (aK (aO (ax (aO .(v) (yA g ml)) .(v)) e0) ?_)))))))));have mid:Wp ((sIf (toB (b2 eqD (cF bq (ag (vSh 3) (ag (vC (.int 85)) (ag .(Q) ao)))) .(i))) Xb aY) (laE (.scr ns) h .(w) c lm [] af 0 0 (faD bs ss js us ls ks h lm (koD af,0) kv0 (lk []) 0) [af,af,af,af,af])) fun r=>r.1=.nx/\∃P o mo nw kvs x,r.2=laE (.scr ns) h .(w) c lm P o mo nw .(al) [x,af,af,af,af]/\WayOk ss P/\tR o:=by refine eP (aK (bN (aD (aO .(as) d85) rfl rfl)) ⟨fun _=>Na c g ml,fun _=>fX ⟨rfl,[],af,0,0,kv0,af,rfl,⟨fun _ _ p z=>nomatch z⟩,trivial⟩⟩)
  refine cL (mid.imp ?_);rintro⟨fl,ρ⟩ ⟨rfl,P,o,mo,nw,kvs,x,e1,W,ho⟩;have e1:ρ=laE (.scr ns) h .(w) c lm P o mo nw .(al) [x,af,af,af,af]:=e1;subst e1;refine⟨rfl,bB (aK (aO (ax rfl .(as)) (lG (Bm g))) ?_)⟩;have hr:=z6 (lm:=lm) (kp:=(koD o,mo)) (kvs:=kvs) (nw:=nw) g W.at';refine cL (fg (fun i ρ=>∃a:aq Slot,ρ=laE (.scr ns) h .(w) c lm P o mo nw .(al) [x,oS (.dk (kvS .(aV) ss)),a,af,af]) (iw (bc (aK rfl (cb ⟨2,rfl,by decide,by decide,⟨af,rfl⟩,?_,?_⟩)))))
  .rintro i y ρ hy ⟨a,rfl⟩;obtain⟨_,rfl⟩:=iC hy;exact aK rfl (eP (aK (a:=ar) (or2 (nN (b:=ah) (bN (aO (ax rfl .(as)) hr))) (nN (b:=ah) (bN (aO (ax rfl .(as)) (NK ho mo))))) ⟨.(L),fun _=>fX ⟨rfl,_,rfl⟩⟩))
  rintro ρ ⟨a,rfl⟩;obtain⟨kv1,_,e2⟩:=wS (P:=[]) g zX af lm 0 nw;have hw0:∀s∈ss,∀p,lk ([]:cJ) s.nm=aa p->p.1∈wn s:=fun _ _ p z=>nomatch z
  have hr2:=z6 (lm:=lm) (kp:=(koD af,0)) (kvs:=kv1) (nw:=nw) g hw0;refine⟨rfl,bB (aK (M6 (ax (aO .(v) (yA g ml)) .(v)) rfl e2) ?_)⟩;refine iq (nN (b:=ah) (bN (aO (ax rfl (ax rfl (ax rfl (ax (aO (ax rfl .(as)) (lG (Bm (P:=[]) g))) aI)))) hr2))) ?_;refine bB (aK (dE (show("shop":ai)∉cw by decide +kernel) rfl aI Pj) ?_);refine eR (aK (oT (a:=ah) (b:=ah) (aD (gn .(z) rfl aI (Kp g)) (aD rfl rfl (ixT _ 1)) (xU (oW fun s hs=>Rk (n:=59) g.bnn (g.s s hs)))) fun _=>oT (a:=ah) (b:=ah) (aD (gn .(z) rfl aI (Ae g)) (aD rfl rfl (ixT _ 0)) (xU (oW fun b hb=>LZ (n:=59) (g.b b hb)))) fun _=>aD (gn .(z) rfl aI wP) rfl ?_) ⟨_,rfl,rfl⟩);show aa (D.bl (decide (h=h)))=_;rw[qU rfl]
 exact e
end
def wR (K:aM):Sp:=fun vs H Q _=>∃(a:au) (ns:ac aj),vs=[.ref a]/\SqL K H a .(bm)/\ns.length<=63/\∀H',Q (.bl ah) H'
theorem all_mk {l:FZ} {h:Heap} {fa:au} (X:K.In h) (G:h.Ns eU mg) (hfa:mg "law"=aa (.ref fa))
  (aC_Facts:p6 K eU "Facts"=aa (aa (.ref C_Facts)))
  (aC_Grounds:p6 K eU "Grounds"=aa (aa (.ref C_Grounds)))
  (aC_Shop:p6 K eU "Shop"=aa (aa (.ref C_Shop)))
  (pg_Facts:nS K C_Facts uL=ah) (hd_Facts:pR K C_Facts=ah) (po_Facts:uK K C_Facts=ah) (sa_Facts:b8 K (.ref C_Facts) "__setattr__"=aa (aa (.builtin "object.__setattr__"))) (mk_Facts:pT K C_Facts=ah) (kc_Facts:fQ K (.ref C_Facts)=ah)
  (n0_Facts:b8 K (.ref C_Facts) "grounds"=aa af)
  (n1_Facts:b8 K (.ref C_Facts) "open_benches"=aa af)
  (n2_Facts:b8 K (.ref C_Facts) "firsts"=aa af)
  (n3_Facts:b8 K (.ref C_Facts) "lasts"=aa af)
  (n4_Facts:b8 K (.ref C_Facts) "put_pairs"=aa af)
  (n5_Facts:b8 K (.ref C_Facts) "notes"=aa af)
  (pg_Grounds:nS K C_Grounds uL=ah) (hd_Grounds:pR K C_Grounds=ah) (po_Grounds:uK K C_Grounds=ah) (sa_Grounds:b8 K (.ref C_Grounds) "__setattr__"=aa (aa (.builtin "object.__setattr__"))) (mk_Grounds:pT K C_Grounds=ah) (kc_Grounds:fQ K (.ref C_Grounds)=ah)
  (n0_Grounds:b8 K (.ref C_Grounds) "told_shop"=aa af)
  (n1_Grounds:b8 K (.ref C_Grounds) "kept_plan"=aa af)
  (n2_Grounds:b8 K (.ref C_Grounds) "kept_most"=aa af)
  (n3_Grounds:b8 K (.ref C_Grounds) "lengths"=aa af)
  (n4_Grounds:b8 K (.ref C_Grounds) "job_names"=aa af)
  (n5_Grounds:b8 K (.ref C_Grounds) "early_moments"=aa af)
  (n6_Grounds:b8 K (.ref C_Grounds) "end_marks"=aa af)
  (n7_Grounds:b8 K (.ref C_Grounds) "breaks"=aa af)
  (n8_Grounds:b8 K (.ref C_Grounds) "known_gaps"=aa af)
  (pg_Shop:nS K C_Shop uL=ah) (hd_Shop:pR K C_Shop=ah) (po_Shop:uK K C_Shop=ah) (sa_Shop:b8 K (.ref C_Shop) "__setattr__"=aa (aa (.builtin "object.__setattr__"))) (mk_Shop:pT K C_Shop=ah) (kc_Shop:fQ K (.ref C_Shop)=ah)
  (n0_Shop:b8 K (.ref C_Shop) "benches"=aa af)
  (n1_Shop:b8 K (.ref C_Shop) "steps"=aa af)
  (n2_Shop:b8 K (.ref C_Shop) "jobs"=aa af)
  (n3_Shop:b8 K (.ref C_Shop) "setups"=aa af)
  (n4_Shop:b8 K (.ref C_Shop) "links"=aa af)
  (n5_Shop:b8 K (.ref C_Shop) "stocks"=aa af)
  (n6_Shop:b8 K (.ref C_Shop) "horizon"=aa af)
  (n7_Shop:b8 K (.ref C_Shop) "bench_by_name"=aa af)
  (n8_Shop:b8 K (.ref C_Shop) "step_by_name"=aa af)
  (n9_Shop:b8 K (.ref C_Shop) "setup_by_names"=aa af)
  (n10_Shop:b8 K (.ref C_Shop) "job_by_step"=aa af)
  (a82:p6 K eU "law"=aa (aa (.ref f82))) (l82:K.lookup f82=aa ⟨oc82,od82,.func (cV "law" "law" (cW (top 77)) (bR (top 77)) (aB (top 77)) .none kV82 dc82 pm82 an82 cd82 ct82),sl82⟩) (c82:mI K cd82 "law"=ah) (k82:fQ K (.ref f82)=ah)
  (V:Vd K mg C_Facts C_Grounds C_Shop)
 : ∃fd:jZ,(∀(s:aE) (v:av),nU s fd ⟨[v],[]⟩ [("_law_script",v)])/\∀base:Heap,K.In base->base.Ns eU mg->FnOk l.prog w K mg base CX0 16 fa fd ["_law_script"] (wR K):=by
 have e:=hfa.symm.trans (p8 X G a82);have e2:=Value.ref.inj (qI e);subst e2;have O_Facts:ClsOk .(a) K mg "Facts" C_Facts:=⟨by unfold Gam;rfl,⟨pg_Facts,hd_Facts,po_Facts,sa_Facts⟩,p8 X G aC_Facts,mk_Facts,kc_Facts⟩;have cf_Facts:CF .(a) K "Facts" cw:=O_Facts.cf (dj.mpr ⟨n0_Facts,(dj.mpr ⟨n1_Facts,(dj.mpr ⟨n2_Facts,(dj.mpr ⟨n3_Facts,(dj.mpr ⟨n4_Facts,(dj.mpr ⟨n5_Facts,(GG _)⟩)⟩)⟩)⟩)⟩)⟩);have O_Grounds:ClsOk .(a) K mg "Grounds" C_Grounds:=⟨by unfold Gam;rfl,⟨pg_Grounds,hd_Grounds,po_Grounds,sa_Grounds⟩,p8 X G aC_Grounds,mk_Grounds,kc_Grounds⟩;have cf_Grounds:CF .(a) K "Grounds" yD:=O_Grounds.cf (dj.mpr ⟨n0_Grounds,(dj.mpr ⟨n1_Grounds,(dj.mpr ⟨n2_Grounds,(dj.mpr ⟨n3_Grounds,(dj.mpr ⟨n4_Grounds,(dj.mpr ⟨n5_Grounds,(dj.mpr ⟨n6_Grounds,(dj.mpr ⟨n7_Grounds,(dj.mpr ⟨n8_Grounds,(GG _)⟩)⟩)⟩)⟩)⟩)⟩)⟩)⟩)⟩);have O_Shop:ClsOk .(a) K mg "Shop" C_Shop:=⟨by unfold Gam;rfl,⟨pg_Shop,hd_Shop,po_Shop,sa_Shop⟩,p8 X G aC_Shop,mk_Shop,kc_Shop⟩;have cf_Shop:CF .(a) K "Shop" CB:=O_Shop.cf (dj.mpr ⟨n0_Shop,(dj.mpr ⟨n1_Shop,(dj.mpr ⟨n2_Shop,(dj.mpr ⟨n3_Shop,(dj.mpr ⟨n4_Shop,(dj.mpr ⟨n5_Shop,(dj.mpr ⟨n6_Shop,(dj.mpr ⟨n7_Shop,(dj.mpr ⟨n8_Shop,(dj.mpr ⟨n9_Shop,(dj.mpr ⟨n10_Shop,(GG _)⟩)⟩)⟩)⟩)⟩)⟩)⟩)⟩)⟩)⟩)⟩);have V:Vw K mg C_Facts C_Grounds C_Shop:={V with O_Facts,cf_Facts,O_Grounds,cf_Grounds,O_Shop,cf_Shop};refine⟨cV "law" "law" (cW (top 77)) (bR (top 77)) (aB (top 77)) .none kV82 dc82 pm82 an82 cd82 ct82,fun s v=>.of_eq rfl,fun base _ _=>?_⟩;have FL:=xH (st:=top 77) l82 c82 k82;have ok:FnOk l.prog w K mg base CX0 16 fa _ ["_law_script"] (spF .(a) K 1 sB):=FL.okD (k:=15) l0 (Oy V fa);refine ok.imp fun vs H Q E hq=>?_;obtain⟨a,ns,rfl,hS,hlen,k⟩:=hq;exact⟨H,[.scr ns],.bl ah,aQ.refl H,.cons (.scr hS) .nil,rfl,IY ns hlen,fun v G' H' _ r=>by rw[r.bl_inv];exact k H'⟩
theorem walk {l:FZ} {d:DefRec} {K:yZ->aM} (hn:l.most=aa 63) (hdf:d.params.defaults=[])
  (hY:∀(w:cA) (h:Heap),YP w h->(K w.params).In h)
  (F:∀(w:cA) (mg:ai->aq av) (fa:au) (h:Heap),(K w.params).In h->h.Ns eU mg->mg d.name=aa (.ref fa)->
   ∃fd:jZ,(∀(s:aE) (u:av),nU s fd ⟨[u],[]⟩ [("_law_script",u)])/\∀base:Heap,(K w.params).In base->base.Ns eU mg->FnOk l.prog w (K w.params) mg base CX0 16 fa fd ["_law_script"] (wR (K w.params))) :
  To q loose XP YP l.row.toRowW d [] (fun f vs=>FY f vs):=
 L2.walk_of (n:=63) (k:=16) (x:="_law_script") (CX:=fun _=>CX0) (sp:=fun w=>wR (K w.params)) hn .(c) hdf ⟨rfl,by decide,by decide⟩ hY F (fun _ _ a ns hl _ hS=>⟨a,ns,rfl,hS,hl,fun _=>rfl⟩) fun _ _ _ _ _ z=>z
end Law
end L2
noncomputable def Zq:=()
namespace PySem.W.Fast
def tw9339967479259871188:=Zq
def tw4981590547491209733:=Zq
def tw3504729317731680016:=Zq
def tw2025019334571317365:=Zq
def tw17015033125788185092:=Zq
def tw9354852068208354879:=Zq
def tw14433912483860261760:=Zq
def tw14279395305743682138:=Zq
def tw10861159843334680615:=Zq
def tw18219480357565692025:=Zq
def tw16577345460211665556:=Zq
def tw10043795101390033809:=Zq
def tw12566315220688243832:=Zq
def tw7353520158248655003:=Zq
def tw12508927237376973936:=Zq
def tw10170435923268567992:=Zq
def tw17027013494032534492:=Zq
def tw12075137076316906977:=Zq
def tw16197890794480622254:=Zq
def tw5733621119624645827:=Zq
def tw15049793388799493870:=Zq
def tw11099610502983876548:=Zq
def tw12636521325340491980:=Zq
def tw4817019952417094145:=Zq
def tw13310831036521819014:=Zq
def tw16107361239974829837:=Zq
def tw6936126856185283325:=Zq
def tw15890074977398664927:=Zq
def tw15978779360215505028:=Zq
def tw9977942699365233796:=Zq
def tw6823204631725641417:=Zq
def tw10348285708612366091:=Zq
def tw14753871857820353817:=Zq
def tw13086196112616927703:=Zq
def tw13625149490392938093:=Zq
def tw2975266418298650697:=Zq
def tw11058946595881939008:=Zq
def tw4351623917033328777:=Zq
def tw518308379176669169:=Zq
def tw17748793918642315232:=Zq
def tw1408000600556128761:=Zq
def tw16690011679461654572:=Zq
def tw13025326468913909104:=Zq
def tw379656416073145606:=Zq
def tw18408344022631207248:=Zq
def tw8931997386528593403:=Zq
def tw15850005532147716906:=Zq
def tw5040945355990952057:=Zq
def tw17725803787165518641:=Zq
def tw2225455086260233175:=Zq
def tw8181810026278616968:=Zq
def tw11564477385078009619:=Zq
def tw15044441257724359263:=Zq
def tw5709745081303138442:=Zq
def tw11830831839100826582:=Zq
def tw2576667581730623094:=Zq
def tw15339059906004933024:=Zq
def tw9522141094635125957:=Zq
def tw3094665682816424559:=Zq
def tw9701923627376200014:=Zq
def tw7761945860940643868:=Zq
def tw14007984983231029196:=Zq
def tw5751753019085359031:=Zq
def tw4058254548208819116:=Zq
def tw13830658063540950619:=Zq
def tw12950476235961189977:=Zq
def tw16438461309975748146:=Zq
def tw17814287705652835494:=Zq
def tw14620692523241875249:=Zq
def tw5131094718016620575:=Zq
def tw18043244589861881726:=Zq
def tw14332267781482191694:=Zq
def tw761542577218706730:=Zq
def tw9315868541324550563:=Zq
def tw8946352654488530982:=Zq
def tw12057032288845946066:=Zq
def tw7130125924070910429:=Zq
def tw15904316341719206524:=Zq
def tw8006734333817884255:=Zq
def tw17632843674341984544:=Zq
def tw2296093567084540341:=Zq
def tw13411018395804779804:=Zq
def tw3574769652746095048:=Zq
def tw14137731024487731002:=Zq
def tw5832447850109143912:=Zq
def tw4816184706939272284:=Zq
def tw14040800273828268956:=Zq
def tw557879909951618710:=Zq
def tw18244795781773673042:=Zq
def tw11311297147440182296:=Zq
def tw5277524585755395189:=Zq
def tw1390142150973113616:=Zq
def tw8025233608619492962:=Zq
def tw11086118268202784410:=Zq
def tw3228359769620322914:=Zq
def tw7787087982006693010:=Zq
def tw11268248966714796775:=Zq
def tw6201328883955863428:=Zq
def tw17001172159566236955:=Zq
def tw1553885146195186769:=Zq
def tw7083788984579863624:=Zq
def tw3652875111809922230:=Zq
def tw12168329870034356588:=Zq
def tw16647468712133940343:=Zq
def tw6837231523346133978:=Zq
def tw12943780246535353721:=Zq
def tw14783037889073650584:=Zq
def tw2709401236885882084:=Zq
def tw11909612539034886073:=Zq
def tw6590630437753438965:=Zq
def tw9547670835457193518:=Zq
def tw14214057082647586404:=Zq
def tw4420193958901470342:=Zq
def tw2546612068216255653:=Zq
def tw1011865905389165961:=Zq
def tw13935937615127135968:=Zq
def tw3987737377070250061:=Zq
def tw5883219412006352390:=Zq
def tw4843840834150429480:=Zq
def tw5125141717541041363:=Zq
def tw16176027880874150034:=Zq
def tw6897674953817491184:=Zq
def tw14909193966645088811:=Zq
def tw14058028320513117144:=Zq
def tw15489458314884131055:=Zq
def tw2687310675199119325:=Zq
def tw575400712876563813:=Zq
def tw14558632560064868888:=Zq
def tw9727474831508632508:=Zq
def tw2139383178419003009:=Zq
def tw2828220408818968769:=Zq
def tw2007473582350708980:=Zq
def tw3602681343432112696:=Zq
def tw10574661686870904760:=Zq
def tw8281887000992805711:=Zq
def tw9988309414811861919:=Zq
def tw6761763686076261754:=Zq
def tw14786097020780253305:=Zq
def tw17808937112040993478:=Zq
def tw1512530454202032143:=Zq
def tw8193442353016399620:=Zq
def tw12213155302747630889:=Zq
def tw7578787602672292985:=Zq
def tw440336002242672162:=Zq
def tw11877555988329199378:=Zq
def tw17226675454252473300:=Zq
def tw8549420460464278690:=Zq
def tw7507426955053383197:=Zq
def tw8328594992710664683:=Zq
def tw2242090324328030734:=Zq
def tw12499561463994098153:=Zq
def tw15387486805080711847:=Zq
def tw7141515091750884724:=Zq
def tw10073729943663386775:=Zq
def tw6083768654897597669:=Zq
def tw14393842696936254810:=Zq
def tw3553184258927222910:=Zq
def tw11424096116421779930:=Zq
def tw4438340511068727995:=Zq
def tw10558146296375326481:=Zq
def tw12769414782827142982:=Zq
def tw17695532033304926390:=Zq
def tw15893886583173333002:=Zq
def tw6007807609736126646:=Zq
def tw906205318427647859:=Zq
def tw12871594295289403147:=Zq
def tw1818693899534445874:=Zq
def tw17209485945788685843:=Zq
def tw5369298497112335747:=Zq
def tw12492311979621505483:=Zq
def tw14365147573377998501:=Zq
def tw11792261017507057153:=Zq
def tw6614252994679617039:=Zq
def tw1465775571561582946:=Zq
def tw1523921762030380963:=Zq
def tw2989130462766836027:=Zq
def tw11128494390451157060:=Zq
def tw7544513553903647480:=Zq
def tw5876871232831302704:=Zq
def tw5893458325891092253:=Zq
def tw7515445088460601453:=Zq
def tw15962476573479556361:=Zq
def tw11006677302358104420:=Zq
def tw18288635840064359093:=Zq
def tw4828532751849771877:=Zq
def tw8599372378225778754:=Zq
def tw15665476337928302048:=Zq
def tw1701479596911045158:=Zq
def tw3165664136711007390:=Zq
def tw8703681666612294558:=Zq
def tw1456782050067015289:=Zq
def tw272184908242246608:=Zq
def tw9079296685205475221:=Zq
def tw10945538990804410039:=Zq
def tw17589679722834269104:=Zq
def tw8774061526025622498:=Zq
def tw17926938729944571556:=Zq
def tw4607441757213312066:=Zq
def tw14559007557768155874:=Zq
def tw1719251900268915056:=Zq
def tw7770706111153626131:=Zq
def tw4855131180875682120:=Zq
def tw233539741535978620:=Zq
def tw4386425343268486823:=Zq
def tw16203785461979349023:=Zq
def tw13256308447155322757:=Zq
def tw15172284423803907290:=Zq
def tw5253758958659084671:=Zq
def tw1071345767768769551:=Zq
def tw5221513987554404821:=Zq
def tw9549095403246149494:=Zq
def tw5605647480934594624:=Zq
def tw9437008385916842224:=Zq
def tw3237210354398476750:=Zq
def tw15105851073603089189:=Zq
def tw14185577381319157641:=Zq
def tw2603340658550923698:=Zq
def tw3070792394406722350:=Zq
def tw18121501114005456834:=Zq
def tw7588582790112876720:=Zq
def tw8307910109614934797:=Zq
def tw348391269552995978:=Zq
def tw3933893509054168546:=Zq
def tw14723102238101387429:=Zq
def tw1989297284191874798:=Zq
def tw3077643418680608016:=Zq
def tw7022276177121332081:=Zq
def tw9563043586141876869:=Zq
def tw18136170444886716742:=Zq
def tw2664661555371413243:=Zq
def tw5600910916108925555:=Zq
def tw5466455834058467451:=Zq
def tw16088113406707179111:=Zq
def tw6324155985698309252:=Zq
def tw9764934035436962104:=Zq
def tw14396562586049894033:=Zq
def tw8667567038616208315:=Zq
def tw4663608617300997749:=Zq
def tw5458967388629927034:=Zq
def tw11615844604341140269:=Zq
def tw8498303401936088178:=Zq
def tw561925158505293202:=Zq
def tw7759823638166419504:=Zq
def tw17739367648203277544:=Zq
def tw13066022038026053022:=Zq
def tw5139242375607674005:=Zq
def tw15990383797877244899:=Zq
def tw18327845572427951156:=Zq
def tw14408650741192560718:=Zq
def tw11018187298152304248:=Zq
def tw16464122662681022272:=Zq
def tw15926786332614902983:=Zq
def tw11847217315348213478:=Zq
def tw6674033595062134581:=Zq
def tw15493251292641092985:=Zq
def tw14093124200725410216:=Zq
def tw6399017259198670975:=Zq
def tw7773031986817544810:=Zq
def tw4592038933325786437:=Zq
def tw12981513948318552677:=Zq
def tw12367308973487463615:=Zq
def tw2448310250536095811:=Zq
def tw6945838651237601845:=Zq
def tw17210391568140432284:=Zq
def tw11158466961330253317:=Zq
def tw3936949277951865756:=Zq
def tw14082413619079268612:=Zq
def tw14470894794688618674:=Zq
def tw3709043283675553099:=Zq
def tw16461509448646050265:=Zq
def tw11974415507002820480:=Zq
def tw16355149944541941281:=Zq
def tw9067049178825960537:=Zq
def tw12178252565100305946:=Zq
def tw16508233337862221408:=Zq
def tw10721276054908589881:=Zq
def tw8197828522771877971:=Zq
def tw7466333228891601952:=Zq
def tw13357165996901601778:=Zq
def tw192469102617821655:=Zq
def tw14631685440069838267:=Zq
def tw16180539033258897581:=Zq
def tw10536311533585289928:=Zq
def tw4164085492789247194:=Zq
def tw4865742924511374895:=Zq
def tw6449505857824306583:=Zq
def tw18374642612182860617:=Zq
def tw9409973782756831580:=Zq
def tw11836704157067899758:=Zq
def tw18356056233623734413:=Zq
def tw16468888846581669443:=Zq
def tw17001013159750177172:=Zq
def tw11212604586395857774:=Zq
def tw14571673281423791984:=Zq
def tw12857899525213453840:=Zq
def tw6987914960599198719:=Zq
def tw18142820320467347994:=Zq
def tw8257239771920543630:=Zq
def tw4685751249962454084:=Zq
def tw13213659681917142451:=Zq
def tw2263607448486846427:=Zq
def tw15765283475785781055:=Zq
def tw6995310169979050696:=Zq
def tw3495459293042026604:=Zq
def tw68233015479663257:=Zq
def tw12943282564569258713:=Zq
def tw4177449807480338439:=Zq
def tw219547806295962002:=Zq
def tw9328992010407931679:=Zq
def tw5527952070710032272:=Zq
def tw6036171995750102168:=Zq
def tw9768483224831903788:=Zq
def tw9475541181526141936:=Zq
def tw15928829376973260867:=Zq
def tw4988353632753905783:=Zq
def tw16487450834851301059:=Zq
def tw11269245148370083853:=Zq
def tw16059612716789313221:=Zq
def tw12084116313930238779:=Zq
def tw17269738138631008822:=Zq
def tw14551764658961855248:=Zq
def tw10899427893626925074:=Zq
def tw5823509566943725543:=Zq
def tw3847871604633544723:=Zq
def tw14447317291222966165:=Zq
def tw3886292338375730577:=Zq
def tw15950473217682385116:=Zq
def tw14567679321702198985:=Zq
def tw1509620853174068785:=Zq
def tw4174201653002889541:=Zq
def tw17752537099844342012:=Zq
def tw18162271106256322561:=Zq
def tw1067911503669085555:=Zq
def tw9392097417969195997:=Zq
def tw9599157423673918249:=Zq
def tw12866847030801323704:=Zq
def tw16883001056973934225:=Zq
def tw15406665099619865722:=Zq
def tw12295285976293587761:=Zq
def tw10423393240959501544:=Zq
def tw14111357524834149713:=Zq
def tw14200355073382121650:=Zq
def tw12300678993678069384:=Zq
def tw1499190801120442992:=Zq
def tw5531142324185600250:=Zq
def tw7689317731676907408:=Zq
def tw10319034547540553860:=Zq
def tw13069386409651468880:=Zq
def tw9476975054985420002:=Zq
def tw13935599082331816964:=Zq
def tw17264604731118130076:=Zq
def tw1595189659842246805:=Zq
def tw10655531519186086384:=Zq
def tw5490126085932515869:=Zq
def tw3339113745952269342:=Zq
def tw5490546348405655391:=Zq
def tw17582591211739436220:=Zq
def tw14672223458181831428:=Zq
def tw377231785719849168:=Zq
def tw7740528902694186795:=Zq
def tw3073898851971052974:=Zq
def tw9020938935563897905:=Zq
def tw16680970588441958656:=Zq
def tw9422911769053886527:=Zq
def tw7165245401968499025:=Zq
def tw10973852497709690986:=Zq
def tw14239876532104725080:=Zq
def tw14179107713839520214:=Zq
def tw4608351863737562339:=Zq
def tw8033455432837530125:=Zq
def tw8845641245513977302:=Zq
def tw9582252439434633555:=Zq
def tw288907258377273221:=Zq
def tw5876726478617450567:=Zq
def tw3174902662447230866:=Zq
def tw2389636843410319982:=Zq
def tw5978760872021133048:=Zq
def tw6240168021976272458:=Zq
def tw9903436079505808631:=Zq
def tw5444047953812101673:=Zq
def tw9227911755785486662:=Zq
def tw15760206812666289444:=Zq
def tw5610527445883503216:=Zq
def tw9458117477574431568:=Zq
def tw12108445751060521120:=Zq
def tw8543118550512875103:=Zq
def tw4649721504898584792:=Zq
def tw3791159929506879692:=Zq
def tw635900298331253035:=Zq
def tw5606106505948278780:=Zq
def tw5569972774863888058:=Zq
def tw5878940883080078023:=Zq
def tw4585845697854818931:=Zq
def tw14538367015094842815:=Zq
def tw16582655355255471395:=Zq
def tw14050464594063434991:=Zq
def tw7234147587205794960:=Zq
def tw8447439924094561154:=Zq
def tw12193641892794249123:=Zq
def tw13151048475139459057:=Zq
def tw9409671737561226850:=Zq
def tw6218902004971026492:=Zq
def tw15220847188845698857:=Zq
def tw3775270868058037770:=Zq
def tw17006051285813254600:=Zq
def tw8513896530842073919:=Zq
def tw3512693341990383623:=Zq
def tw1658878260473816948:=Zq
def tw8273608252750818160:=Zq
def tw3052943601106448136:=Zq
def tw1474391454585536737:=Zq
def tw17422053968325929446:=Zq
def tw7006403873552218279:=Zq
def tw3688028056535533440:=Zq
def tw14946270259508675251:=Zq
def tw9331195237878173701:=Zq
def tw3468042892612902083:=Zq
def tw6982061750981202041:=Zq
def tw15724969131415928102:=Zq
def tw13987322485445350894:=Zq
def tw7563123961302400498:=Zq
def tw12963639755136271909:=Zq
def tw13269936194171198661:=Zq
def tw841635413625746151:=Zq
def tw5925852191239416821:=Zq
def tw8431932923603683836:=Zq
def tw17464320285384362894:=Zq
def tw8691757185561925816:=Zq
def tw5926111755161255442:=Zq
def tw14049042758014251378:=Zq
def tw2778374150211083012:=Zq
def tw2285710790746894683:=Zq
def tw4567380899557662050:=Zq
def tw14443898639051936791:=Zq
def tw13767875484900694443:=Zq
def tw17146034170722132898:=Zq
def tw17962720964689883628:=Zq
def tw12532064840353294042:=Zq
def tw1069765621426303222:=Zq
def tw17114592653399459063:=Zq
def tw7290027286049351765:=Zq
def tw12127478450974781847:=Zq
def tw11372705644646709632:=Zq
def tw10329383024870490874:=Zq
def tw4554237172264309463:=Zq
def tw4650176822236560179:=Zq
def tw16781496428843884702:=Zq
def tw16195357209812356057:=Zq
def tw16980946363769003335:=Zq
def tw10477213893510978161:=Zq
def tw1146454008170251273:=Zq
def tw16045957810026375237:=Zq
def tw11983186913741045031:=Zq
def tw7439591683846723840:=Zq
def tw5787255922621436424:=Zq
def tw17184988968868191461:=Zq
def tw2411724148358550255:=Zq
def tw619498464561074892:=Zq
def tw8289396664882245530:=Zq
def tw13228735680535779556:=Zq
def tw15025463109241124827:=Zq
def tw1405281361658621111:=Zq
def tw14347468027739783366:=Zq
def tw12642837054266580647:=Zq
def tw7609526029887593415:=Zq
def tw9238173334328529304:=Zq
def tw12166189039959320363:=Zq
def tw7483718383744900156:=Zq
def tw14732529665436562885:=Zq
def tw222906162036001004:=Zq
def tw1546715716340803779:=Zq
def tw9627090794293372048:=Zq
def tw10750493258171066839:=Zq
def tw15198930374907129791:=Zq
def tw13476339475415501242:=Zq
def tw3368231548368355511:=Zq
def tw3462735810750043850:=Zq
def tw15834714741717267680:=Zq
def tw17909071732917587199:=Zq
def tw2802075886402332825:=Zq
def tw3294282323840854158:=Zq
def tw16714878776149847882:=Zq
def tw7732897012339147231:=Zq
def tw15147785009582077407:=Zq
def tw6342249664400552431:=Zq
def tw8495191795787334296:=Zq
def tw9311952705090245525:=Zq
def tw9265181395835445265:=Zq
def tw7734010518259308494:=Zq
def tw4447970028478121450:=Zq
def tw11528763639907159765:=Zq
def tw14606013351620452818:=Zq
def tw3150578667509909886:=Zq
def tw12765431094287137473:=Zq
def tw1389162308019783385:=Zq
def tw759912518247599570:=Zq
def tw657590892741272069:=Zq
def tw3363913676702803417:=Zq
def tw15598098200545392534:=Zq
def tw10879913718848779923:=Zq
def tw5510844909356806647:=Zq
def tw9391808328040484176:=Zq
def tw15097885052375053163:=Zq
def tw7902199030550032926:=Zq
def tw8232696839522309252:=Zq
def tw3301563190398897758:=Zq
def tw5806277848517667644:=Zq
def tw17871982715122447509:=Zq
def tw11637725302437784182:=Zq
def tw344339876032543472:=Zq
def tw6791387393957389690:=Zq
def tw1066863927616487661:=Zq
def tw9084593048479722663:=Zq
def tw13931707271025300819:=Zq
def tw3412896399080465209:=Zq
def tw17859652841046453818:=Zq
def tw9718757423152265873:=Zq
def tw14943544079060292891:=Zq
def tw11051777233814032249:=Zq
def tw17078575259893667585:=Zq
def tw18058447724225266238:=Zq
def tw2475002091226581314:=Zq
def tw9810365138682214255:=Zq
def tw17285583964734102685:=Zq
def tw18160947074345689138:=Zq
def tw1526042508210011246:=Zq
def tw2142513681386425427:=Zq
def tw10431176741739949461:=Zq
def tw4575040590759982209:=Zq
def tw13993269121003800263:=Zq
def tw5276611669028573746:=Zq
def tw3936499284226758876:=Zq
def tw10739292074080337129:=Zq
def tw6949007394212392731:=Zq
def tw620506402151299041:=Zq
def tw12870348379533427292:=Zq
def tw17928278120000475150:=Zq
def tw3414633963086339217:=Zq
def tw4113909157338853555:=Zq
def tw950210728430625627:=Zq
end PySem.W.Fast
open PySem PySem.W PyProof.Rows L2
set_option maxRecDepth 100000 in
set_option maxHeartbeats 0 in
theorem PySem.Challenge.cw_shopbound_k31_facts_at_first_holds : PySem.Challenge.rw_shopbound_k31_facts_at_first.Holds := by
 w_on;o_law;k_head;(case hw=>w_witness2)
 k_fill
 refine Law.walk (l:=Vv) rfl rfl (fun w h Y=>PySem.W.kIn_of Y) ?F
 case F=>
  intro w mg fa h KX G hmg
  refine' Law.all_mk KX G hmg ?aC_Facts ?aC_Grounds ?aC_Shop ?pg_Facts ?hd_Facts ?po_Facts ?sa_Facts ?mk_Facts ?kc_Facts ?n0_Facts ?n1_Facts ?n2_Facts ?n3_Facts ?n4_Facts ?n5_Facts ?pg_Grounds ?hd_Grounds ?po_Grounds ?sa_Grounds ?mk_Grounds ?kc_Grounds ?n0_Grounds ?n1_Grounds ?n2_Grounds ?n3_Grounds ?n4_Grounds ?n5_Grounds ?n6_Grounds ?n7_Grounds ?n8_Grounds ?pg_Shop ?hd_Shop ?po_Shop ?sa_Shop ?mk_Shop ?kc_Shop ?n0_Shop ?n1_Shop ?n2_Shop ?n3_Shop ?n4_Shop ?n5_Shop ?n6_Shop ?n7_Shop ?n8_Shop ?n9_Shop ?n10_Shop ?a82 ?l82 ?c82 ?k82 ?V
  (case aC_Facts=>k_is)
  (case aC_Grounds=>k_is)
  (case aC_Shop=>k_is)
  (case pg_Facts=>k_is)
  (case hd_Facts=>k_is)
  (case po_Facts=>k_is)
  (case sa_Facts=>k_is)
  (case mk_Facts=>k_is)
  (case kc_Facts=>k_is)
  (case n0_Facts=>k_is)
  (case n1_Facts=>k_is)
  (case n2_Facts=>k_is)
  (case n3_Facts=>k_is)
  (case n4_Facts=>k_is)
  (case n5_Facts=>k_is)
  (case pg_Grounds=>k_is)
  (case hd_Grounds=>k_is)
  (case po_Grounds=>k_is)
  (case sa_Grounds=>k_is)
  (case mk_Grounds=>k_is)
  (case kc_Grounds=>k_is)
  (case n0_Grounds=>k_is)
  (case n1_Grounds=>k_is)
  (case n2_Grounds=>k_is)
  (case n3_Grounds=>k_is)
  (case n4_Grounds=>k_is)
  (case n5_Grounds=>k_is)
  (case n6_Grounds=>k_is)
  (case n7_Grounds=>k_is)
  (case n8_Grounds=>k_is)
  (case pg_Shop=>k_is)
  (case hd_Shop=>k_is)
  (case po_Shop=>k_is)
  (case sa_Shop=>k_is)
  (case mk_Shop=>k_is)
  (case kc_Shop=>k_is)
  (case n0_Shop=>k_is)
  (case n1_Shop=>k_is)
  (case n2_Shop=>k_is)
  (case n3_Shop=>k_is)
  (case n4_Shop=>k_is)
  (case n5_Shop=>k_is)
  (case n6_Shop=>k_is)
  (case n7_Shop=>k_is)
  (case n8_Shop=>k_is)
  (case n9_Shop=>k_is)
  (case n10_Shop=>k_is)
  (case a82=>k_is)
  (case l82=>k_is)
  (case c82=>k_is)
  (case k82=>k_is)
  (case V=>constructor;(case d29=>refine' DfnMD.mk' ?xa ?xi ?xl ?xc ?xk ?xt ?xd ?xv;(case xa=>k_is);(case xi=>k_is);(case xl=>k_is);(case xc=>k_is);(case xk=>k_is);(case xt=>k_is);(case xd=>rfl);(case xv=>exact .cons rfl (.cons rfl (.cons ⟨_,rfl⟩ (.cons ⟨_,rfl⟩ .nil)))));all_goals first|(refine' Dfn.mk' KX G ?a ?l ?c ?k;(case a=>k_is);(case l=>k_is);(case c=>k_is);(case k=>k_is))|(refine' DfnM.mk' ?a ?i ?l ?c ?k;(case a=>k_is);(case i=>k_is);(case l=>k_is);(case c=>k_is);(case k=>k_is))|(refine' PySem.W.mg_none_of KX G ?a;(case a=>k_is))|(refine' Law.tkI_of KX G ?a;(case a=>k_is)))
end
end
end
