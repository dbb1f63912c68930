import PyProof.Rows.All
import Wide.All
import OpenK.AllK
import Wide.FinOn
import Lean
import PyProof.EqAt
import PyProof.EqKinds
import PyProof.TupleCall
import PySem.SetOps
import KE.KDictOf
import PyProof.AttrMiss
import PyProof.IsiH_list
import PyProof.WalkInts
import KE.KMinBuiltin
import PyProof.Rows.CallKwBuiltin
import KE.KEqDict
import KE.KItemsList
import KE.KDictSum
import KE.KRevSl
import PyProof.Rows.SortStr
import PyProof.Rows.SortWalk
import PyProof.DictWalks
import KE.KTryMore
import PyProof.NsDelKeeps
import PyProof.ExcAttrAll.ValueError
import PyProof.StrReplace2
import PyProof.ReprStr
import PyProof.Rows.RuleU_int
import PyProof.InstStoreFacts
import PyProof.ExcInit
import KE.KDictList
import PyProof.MaxThree
import KE.KRevIter
import PyProof.Rows.SortShell
import PyProof.MinMaxWalk
import PyProof.Rows.SumAny
import PyProof.ZipIter
import PySem.Challenge.RW_shopbound_k32_possible_starts
set_option Elab.async false
set_option linter.all false
set_option maxRecDepth 100000
open Option renaming some->aa,none->af,map->lu,isSome_iff_exists->yw,isSome_map->yG,getD_none->SF,join_some->Tn,getD_some->To
open _root_ renaming List->ac,Int->ah,Nat->ao,Option->aq,Bool->aP,absurd->bA,Array->bO,congrArg->bU,if_true->cy,if_false->cH,String->cK,of_decide_eq_true->dh,DecidableEq->dG,beq_eq_false_iff_ne->kS,beq_iff_eq->k0,Unit->mz,of_decide_eq_false->oG,not_or->rR,decide_eq_true_eq->u9,instBEqOfDecidableEq->TJ
open PySem renaming Str->ai,Addr->au,Value->av,wpAny->aD,sizeLine->aH,Shared->aI,starEach->aO,model->aQ,tupleKeyHash->bx,backTo->bV,cLine->cg,argBest->ck,Env->cG,World->cL,Around->cR,Pos->dq,compareOp->dB,Program->dF,swapsWith->dH,bootBuiltins->dR,mainGlobals->eX,sizeLine_eq->eY,codeAny->fz,pyNext->fO,binaryOp->gu,bindArgs->gw,wpAny_mono->hV,holding->hW,NameKind->ia,codeAny_builtin->ie,plainId_quiet->ig,sysModules->iB,wpAny_truthy_bool->jb,assignEach->jc,wpAny_newObj_type->jd,attributeBase->je,wpAny_seqItems->jh,wpAny_tryCatch->ji,assign->jT,backToKw->jW,keywordEach->jX,Keyword->jY,seqItems?->j6,tupleKind->kX,foldedSetIterable->kZ,Result->lb,FuncData->lg,atKey->lj,Walks->lr,SetTable->lx,pyIter->mB,bindL->mD,bindC->mE,mem_of_lookup->mG,IsPart->mJ,getItem->mK,wpAny_letGo->mR,standAt->om,getMethod->ot,sliceBounds->ou,valueAt->oA,callerA->oB,GenState->rg,rawInt->rj,behindInMarks->rq,BindsTo->rC,codeAny_mono->rD,wpAny_Call_Name_kw->rE,wpAny_pyIter_list->rK,wpAny_of_eq->rT,CmpOf->rV,wpAny_updateSeq->rW,Model->uL,letOwnedTupleGo->uM,wpAny_passesOwn->uO,callWith->uS,wpAny_typeOf->uV,tupleKind_room_in1->uX,DictEntry->uY,setAdd->vg,wpAny_setState_of->vj,swapsWithSole->yk,swappedStores->ym,bindName->yn,wpAny_rule->yo,lastMarks->yr,wpAny_call->yv,pick_run->yy,typeLookup->yA,subscripted->yD,call_meets->yF,Params->yH,relabel->yJ,setSearchFrom->y6,updateSeq->zc,argsOk->zd,Within->EG,builtinsNs->EI,wpAny_Name->EK,wpAny_execs_nil->EM,assignInOrder->EN,wpAny_standAt->EQ,cellsFrom->EY,wpAny_field->E2,wpAny_call_entry->E4,slot_list_getitem->E6,typeIs_str->E7,typeIs_int->E8,call->Fc,compEnvC->Fe,ReadsAll->Fj,wpAny_forIn_list->Fy,ofAClassStatement->Fz,scanBound->FC,wpAny_attempt->FD,wpAny_isInstance->FF,wpAny_typeNameOfWhole_keyiter->FJ,wpAny_execs_cons->Se,wpAny_assign_Name->Sf,wpAny_bindName->Si,noFill_tuple_add->Sw,wpAny_callSpecial?_slot->SC,sliceRange_one->SG,wpAny_getItem_list_slice->SH,wpAny_specialOf->SS,wpAny_Dict_empty->SV,wpAny_comprehension_free->S3,wpAny_pyIter_enum->S5,codeAny_call_builtin->Tv,carriedByValue->Tx,searchCouldBeSeen->Tz,wpAny_eqIsQuiet_tuple->TC,wpAny_storeSet_of->TH,typeLookup_type->TK,builtinLookup_eq_fast->TL,getAttrByItsOwn->TM,boundAndCalled->TN,getattributeRaised->TQ,wpAny_notOrdered_dict->TR,wpAny_dictEntries->TX,wpAny_dictEpoch->TY,wpAny_isOneOf_keyiter->TZ,wpAny_setField->T0,firstArgMember->T3,wpAny_pyIter_keyiter->T4,wpAny_pyIter_revIter->T'
open Bool renaming true->aj,false->ar,and_eq_true->fU,not_true->ii,not_false->oI,eq_iff_iff->uP,true_and->vm,false_or->Fa,eq_false_iff->Fv,and_eq_true_iff->FH,or_true->FM,and_false->SM,or_eq_true->S7,and_self->Uj
open PySem.W renaming Frag->aW,findIn->ce,fnOf->dS,keepIn->fP,kia_one->jV,emptyDict->lc,instObj->my,codeIn->mI,plainGet->oo,isFn->oq,hasDictIn->rz,makesIn->rA,nsIn->rN,mg_of->rO,plainOver->uQ,lookIn->yt,plainGet_of->ES,takerIn->ET,callWith_K->EW,OpenLaw->Fd,handedIn->Sk,kitOne->Sl,kitx_list->Sn,kitx_dict->So,methodCall_KW->Su,cellsFrom_some->Sv,WalkO->S1
open Pure renaming pure->aZ
open List renaming mem_map->bJ,mem_singleton->bL,replicate->bM,mem_cons->cr,range->cx,lookup->cX,length->c8,getElem?_eq_some_iff->df,forall_mem_cons->dv,mem_append->dA,map_append->dZ,nodup_cons->eA,find?_cons->fB,mem_range->fN,foldl_cons->fQ,all_eq_true->ic,take_length->ij,map_congr_left->ik,append_nil->jf,length_drop->jg,flatMap_cons->jo,any_cons->jZ,getD_eq_getElem?_getD->j0,take_succ->j5,filter_cons->j8,replicate_succ->li,nodup_nil->lq,take_sublist->mH,take_of_length_le->mO,nodup_append->mS,set_cons_zero->mT,getElem?_set_self->oj,flatten_cons->ox,length_singleton->oy,lookup_cons->oC,drop_zero->oE,getElem_mem->oF,mem_append_left->rh,mem_filterMap->ro,append_assoc->rG,length_mapIdx->rL,drop_eq_getElem_cons->rM,mem_of_mem_take->rP,getElem?_replicate->uT,getElem?_take_of_lt->uU,reverse_cons->uW,length_eq_zero_iff->u0,mem_iff_getElem->u5,drop_length->u7,mem_iff_getElem?->u8,take->vd,find?_eq_none->ve,pairwise_map->vf,range'->vw,map_take->vx,all_map->vy,filterMap_cons->yj,getElem?_eq_none->yL,getD->yO,map->yP,take_append_drop->yW,foldl_append->yZ,length_tail->zf,take_add_one->zj,drop_of_length_le->zl,any_eq_true->zm,flatMap_append->zn,range'_succ->zo,map_reverse->zp,mem_filter->EH,getElem_inj->EJ,of_mem_zip->EX,foldl->E9,getElem?_mapIdx->Fh,nodup_range->Fs,pairwise_cons->Fu,length_reverse->FK,mergeSort_perm->FN,getElem?_reverse->FO,map_inj_right->FP,set_cons_succ->FR,getElem?_of_mem->FU,mem_flatMap->FV,range_eq_range'->FW,flatMap_nil->FY,length_pos_iff->FZ,mem_reverse->F1,forall_mem_nil->F2,any_eq_false->Sj,ext_getElem?->S6,ext_getElem->S9,pairwise_iff_getElem->Tc,getElem?_drop->Tg,mem_of_mem_drop->Th,mem_of_find?_eq_some->Ti,find?_some->Tj,nodup_iff_pairwise_ne->Tl,filterMap_cons_some->Tq,pairwise_lt_range->Tr,all_cons->T5,pairwise_mergeSort->T8,map_id'->Ub,map_id->Ue,map_drop->Uf,nil_sublist->Ug,flatMap_map->Uk
open PySem.Value renaming ref->bY,none->kT,bool->kU,type->kW,int->qZ,str->uJ,isInt->Sa,isStrOf->Sb
open PySem.SetTable renaming below->cA,runEnd->c9,insertAt->db,bits->fC,leap->iD,turns->mP,sizeAbove->oH,tooFull->vn,fresh->vo,Probe->yV,grown->yX,has->Fp,fits->Fq,slot->Te,fill->Tf,layClean->Tp
open Sum renaming inr->cD,inl->oh
open Ne renaming symm->cM
open PyProof.Rows renaming envOfC->dI,AllBare->kY,IntsAre->mL,IsTup->uK,callWith_type1->uN,Subscript_->yB,subscriptTail->yC,Constant_none->EL,assignInOrder_cons->EO,slot_tuple_getitem->E3,tail_any->E5,assignInOrder_nil->Sg,slicePart_none->SA,subscriptTail_builtinR->SE,callWith_builtin1->UN,boot_enumerate->UT
open PySem.PassesOwn renaming never->dJ
open PySem.PyData renaming eqv->eZ,canLay0->jj,depth->jk,canLayAll0->lv,depthAll->lw,str->oJ,eqvAll->oN,int->Fi,strOk->Ua
open Nat renaming zero_le->fA,lt_irrefl->hU,zero_add->lz,le_succ->mC,lt_or_ge->mN,succ_mul->oz,le_of_lt->rf,lt_succ_self->rB,lt_trans->rH,min_eq_left->vc,lt_succ_of_lt->vh,ne_of_gt->yq,le_of_eq->yu,not_lt->yK,mul_le_mul->yM,succ_pos->yQ,mod_lt->yR,le_add_right->yS,min_def->zk,min_le_right->EZ,add_assoc->Fk,lt_succ_iff->Fm,not_lt_zero->Fn,mul_comm->SQ,lt_trichotomy->Td,sub_zero->Ud,le_total->Uh,min_eq_right->Ui
open PySem.SeqAt renaming shaped->fV
open List.cons renaming inj->fW
open Array renaming getElem?_eq_some_iff->gN,length_toList->jS,getD_eq_getD_getElem?->yU,mem_toList_iff->ER,toList->Sd,replicate->Tk,filterMap->Ts,forIn_toList->Tw,toArray_toList->T6
open Int renaming toNat_natCast->gO,le_refl->lD,eq_ofNat_of_zero_le->oM,zero_add->vt,le_trans->zi,emod_nonneg->S',emod_lt_of_pos->Ta,le_total->T9
open Sum.inr renaming inj->hG
open False renaming elim->hZ
open PySem.Str renaming ofString->ib,length->rF,empty->uR
open PySem.Heap renaming SameBut->iC,size_push->lf,get?_update_self->rS,dictOf_iff->za
open PySem.Around renaming under_plainId->iE,under->EU
open ToString renaming toString->iF
open True renaming intro->jU
open MonadExcept renaming tryCatch->j7
open PySem.F renaming plain_max_loop->ly,plain_min_loop->lC,called_set->mQ,slot_list_getattribute->y9,entry_max_loop->zb,entry_min_loop->zg,slot_dict_get->Fb,slot_dict_keyiterator_next->FI,slot_tuple_add->Sx,entry_tuple_add->Sy,args_tuple_add_2->Sz,slot_list_append->SL,slot_list_extend->SN,slot_int_rmul->SO,entry_dict_get->SW,args_dict_get_2->SX,plainAttrs_list->S8,slot_dict_iter->TV
open PySem.NameKind renaming free->mM,cell->yI
open List.Sublist renaming nodup->oK,refl->FX,cons->U4,cons₂->U5
open ForInStep renaming yield->rJ
open PySem.SetTable.layClean renaming free->rQ
open ForIn renaming forIn->uZ
open PySem.Walks renaming list->u6,dictKeys->T7
open List.Pairwise renaming map->vq,imp_of_mem->Fw,nil->US,filterMap->UV
open PyProof.Rows.IsTup renaming new->yp
open PySem.Builtin.Slice renaming slicePlaces->yx,sliceAdjust->E1,sliceApplied->SB,slicePartIndex->UO,sliceFields->UP
open PySem.Builtin.Tuple renaming tupleExact->yz,tupleItemsOf->UQ
open PySem.Builtin.List renaming listTooLong->yE,listFitsIndex->UR
open PySem.Builtin.Str renaming strSliceIndices->yN,tooLong->UU,glued->U3
open PySem.SetTable.below renaming go->yT
open PySem.Shared renaming TypeIs->yY
open PySem.Heap.SameBut renaming update->y7,refl->S4
open PySem.Builtin.Builtins renaming bindParams->ze
open Option.some renaming injEq->zh,inj->Um
open PySem.Code renaming isFrame->EV,frames->Sq
open PySem.Txt renaming slice->Ff,join->Fg
open PySem.SetTable.probe renaming go->Ft
open PyProof.Rows.F renaming plain_set_update_loop->Fx,entry_set_update_loop->Tt
open PySem.Obj renaming putSet->FB,mapSeq->SK,mapFields->T1,data_mapFields->T2
open PySem.Calls renaming Name_function_global->Sc,spliced_nil->Sr,spliced_cons->Ss,callWith_builtin->SI,evalArgs_plain->SJ
open PySem.Flow renaming next->Sh
open PySem.Heap.IsSliceOf renaming new->SD
open PySem.Heap.DictOf renaming new->SU
open PySem.W.WData renaming int->SY
open PySem.W.WShape renaming has->SZ
open PySem.Moved renaming trans->Tu
open Prod.mk renaming inj->TF,injEq->Uc
open PySem.Builtin.Dict renaming updateFrom->TU,showsAll->TW,addKeywords->UX,pairItems->UY,selfAndRest->UZ,dictSlotNone->U0
open PySem.Builtin.Range renaming rangeSize->Uo
open PySem.EqNone renaming eq_none_none->Up,eq_none_bool->Uq,eq_none_int->Ur,eq_none_str->Us,eq_bool_none->Ut,eq_int_none->Uv,eq_str_none->Ux,ne_none_none->UA,ne_none_bool->UB,ne_none_int->UC,ne_none_str->UD,ne_bool_none->UE,ne_int_none->UG,ne_str_none->UI
open PySem.EqMixed renaming eq_bool_str->Uu,eq_int_str->Uw,eq_str_bool->Uy,eq_str_int->Uz,ne_bool_str->UF,ne_int_str->UH,ne_str_bool->UJ,ne_str_int->UK
open PySem.W.Looks renaming here->UL
open PySem.Within renaming cons->UM
open PySem.Builtin.Frozenset renaming updateFrom->UW
open PySem.Builtin.Dict_items renaming ownsTuple->U1
open PySem.Challenge renaming pw_shopbound_k32_possible_starts->U2,rw_shopbound_k32_possible_starts->U6
set_option hygiene false
set_option compiler.extract_closed false
local macro_rules
|`(.(a))=>`(Gam C_Facts C_Grounds C_Shop)
|`(.(b))=>`(by omega)
|`(.(d))=>`(fcD bs ss js us ls ks h lm kp kvs O A B P)
|`(.(e))=>`(vC (.int 0))
|`(.(f))=>`(by decide)
|`(.(g))=>`(Cal .(a) P w K mg base)
|`(.(h))=>`(vC (.int 1))
|`(.(i))=>`(.tail _ (.tail _ (.tail _ (.head _))))
|`(.(k))=>`(gD bs ss js us ls ks h lm kp kvs)
|`(.(l))=>`(bQ bs ss js us ls ks h)
|`(.(m))=>`(b2 ixD (vSh 10) .(e))
|`(.(n))=>`(dX CX0 P w K mg base N qual (aG st) f cdv A outer s H E)
|`(.(p))=>`(b2 ixD (vSh 0) .(e))
|`(.(q))=>`(aQ X.prog X.w)
|`(.(r))=>`(mkI js lm h s.nm)
|`(.(s))=>`(x==("__debug__":ai))
|`(.(t))=>`(cw bs ss js us ls ks h)
|`(.(u))=>`(by infer_instance)
|`(.(v))=>`(J t.mask (bx knd k) n0)
|`(.(w))=>`(A.deeper (dI qual (aG st) s.heap.objs.size f cdv))
|`(.(x))=>`(.ListComp elt [⟨tg,iter,ifs,0⟩] scope pos)
|`(.(y))=>`(s.heap.push {cls:=.type "set",dict:=af,data:=.set #[] 0 (.fresh 0 0 led)})
local macro_rules
|`(.(z))=>`(aC (vC (.bl ar)))
|`(.(C))=>`(vC (.int 4))
|`(.(D))=>`(ax rfl aJ)
|`(.(E))=>`(CalM .(a) P w K mg base "Facts")
|`(.(F))=>`(fun z=>nomatch z)
|`(.(H))=>`(ag (vSh 1) ak)
|`(.(J))=>`(vC (.int 2))
|`(.(K))=>`(cA t.place .(bi))
|`(.(L))=>`(vC (.int 3))
|`(.(M))=>`(x==("__classdict__":ai))
|`(.(N))=>`(aQ prog w)
|`(.(O))=>`(by ac_rfl)
|`(.(P))=>`(by decide +kernel)
|`(.(Q))=>`(.Name x vp)
|`(.(R))=>`(bC "Facts" "grounds" (vSh 0))
|`(.(T))=>`(ag (vSh 2) ak)
|`(.(U))=>`(by nofun)
|`(.(V))=>`(.lst (sn.map D.str))
|`(.(W))=>`(lp M h r)
|`(.(X))=>`(fun d=>aa (Slot.sh d))
local macro_rules
|`(.(Z))=>`(cI I q (by simp))
|`(.(aa))=>`(k==mM && env.scope.kind==.function && env.kindOf n==aa .cell)
|`(.(ac))=>`(ag (vSh 0) ak)
|`(.(ae))=>`(bV pos (aO es X.env))
|`(.(af))=>`(s.heap.objs.size+1)
|`(.(ag))=>`(.tail _ (.tail _ .(i)))
|`(.(ah))=>`(by and_intros)
|`(.(aj))=>`(.lst (js.map bf))
|`(.(ak))=>`(ax rfl (ax rfl .(D)))
|`(.(am))=>`(aA rfl rfl cb)
|`(.(an))=>`(.inr s.nm)
|`(.(ao))=>`(b2 ixD (vSh 0) .(h))
|`(.(ar))=>`(s.ws.map fun w=>((.inr w.1:Key),D.int w.2))
|`(.(as))=>`(.lst (ss.map bw))
|`(.(au))=>`(.Call (.Name x p) (e::es) [] pos)
|`(.(av))=>`(aA rfl (aA rfl rfl gU) rfl)
local macro_rules
|`(.(az))=>`(dC (jw V) hr (ci (DO.de (lcN ["row"] (by left))) cB) ln1)
|`(.(aA))=>`(fun _ _ _ _ _=>rfl)
|`(.(aB))=>`(.lst (bs.map bK))
|`(.(aC))=>`(.lst (bn.map D.str))
|`(.(aD))=>`(b2 bN (bC "Grounds" "lengths" .(R)) (vSh 1))
|`(.(aG))=>`(ac Key×D)
|`(.(aH))=>`(.frz o (.dK us))
|`(.(aI))=>`(ag (vSh 3) ak)
|`(.(aK))=>`(thn (ha pos pins s σ H _ I h) fun us s1 ⟨vs,H1,I1,r1,q1⟩=>?_)
|`(.(aL))=>`(.refl gh)
|`(.(aM))=>`(b2 bN (bC "Facts" "open_benches" (vSh 0)) (vSh 1))
|`(.(aN))=>`(ne c _ r (by intro z;cases z))
|`(.(aO))=>`(br.map dIv)
|`(.(aP))=>`(eM hN hv hd hcd)
|`(.(aQ))=>`(.ref s.heap.objs.size)
|`(.(aR))=>`(ac Key×V)
|`(.(aT))=>`(N.length-(ps.length+1))
|`(.(aU))=>`(plO nt q)
|`(.(aV))=>`(he pins s σ H _ I h)
|`(.(aW))=>`(ha pins s σ H _ I h)
local macro_rules
|`(.(aX))=>`(fun b o e=>?_)
|`(.(aY))=>`(V.cf_Grounds.re y)
|`(.(aZ))=>`(fun x=>⟨_,rfl⟩)
|`(.(ba))=>`(db es (t.put .(v)).2 (bx knd k,bY a))
|`(.(bc))=>`(V.cf_Shop.re y)
|`(.(be))=>`(fun b hb=>by cases hb)
|`(.(bf))=>`(CalM .(a) P w K mg base "Shop")
|`(.(bg))=>`(.str s.nm)
|`(.(bi))=>`(J t.mask h n0)
|`(.(bj))=>`(dS x x (dU st) (cv st) (aG st) .none kV doc pm an cdv ct)
|`(.(bl))=>`(fun b o hb e=>kk b o (by simpa using hb) e)
|`(.(bm))=>`(fF .(k) O A B P)
|`(.(bn))=>`(.inl (gh _ _ ha))
|`(.(bo))=>`(bn fun _ _ _ _ _ _ _=>rfl)
|`(.(bp))=>`(A.under (.builtin "type.__call__" ⟨.ref C::us,kw⟩))
|`(.(bq))=>`(ir bs ss js us ls ks h)
local macro_rules|`(tactic|omega)=>`(tactic|lia)
local macro_rules|`(tactic|ac_nf)=>`(tactic|first|exact Or.inl rfl|exact Or.inr rfl|exact Or.inr (Or.inl rfl)|exact Or.inr (Or.inr rfl)|assumption)
set_option bootstrap.genMatcherCode false
set_option genSizeOf false
set_option genSizeOfSpec false
noncomputable section
theorem oBd {α:Type u} {β:Type v} {o:aq α} {f:α->aq β} {b:β} (h:o.bind f=aa b):∃a,o=aa a/\f a=aa b:=Option.bind_eq_some_iff.mp h
theorem oMd {α:Type u} {β:Type v} {o:aq α} {f:α->β} {b:β} (h:o.map f=aa b):∃a,o=aa a/\f a=b:=Option.map_eq_some_iff.mp h
noncomputable section
section
open PySem PySem.Spec PyProof.Rows
noncomputable def qb:=@Option.bind_some
noncomputable def qc:=@List.getElem?_cons_zero
noncomputable def qd:=@List.getElem?_cons_succ
noncomputable def qe:=@Option.map_some
noncomputable def qf:=@List.length_map
noncomputable def qg:=@List.mem_cons_self
noncomputable def qh:=@List.mem_cons_of_mem
noncomputable def qi:=@List.length_cons
noncomputable def qj:=@List.length_append
noncomputable def qk:=@List.getElem?_map
noncomputable def ql:=@List.length_nil
noncomputable def qm:=@List.map_cons
noncomputable def qo:=@List.map_map
noncomputable def qp:=@List.cons_append
noncomputable def qq:=@Bool.false_eq_true
noncomputable def qr:=@Bool.false_ne_true
noncomputable def qt:=@Heap.get?_push_of_some
noncomputable def qu:=@Heap.lt_size
noncomputable def qv:=@Nat.le_refl
noncomputable def qw:=@wpAny_bind
noncomputable def qx:=@Heap.get?_update_other
noncomputable def qy:=@List.getElem?_set_ne
noncomputable def qz:=@List.getElem?_append_left
noncomputable def qA:=@wpAny_pure
noncomputable def qB:=@List.size_toArray
noncomputable def qC:=@Nat.ne_of_lt
noncomputable def qD:=@List.getElem?_eq_getElem
noncomputable def qE:=@List.length_take
noncomputable def qF:=@Nat.lt_of_lt_of_le
noncomputable def qG:=@Heap.get?_push_size
noncomputable def qH:=@Um
noncomputable def qI:=@Array.getElem?_toList
noncomputable def qJ:=@List.not_mem_nil
noncomputable def qL:=@List.getElem?_append_right
noncomputable def qM:=@cr
noncomputable def qN:=@Nat.le_trans
noncomputable def qO:=@decide_eq_false
noncomputable def qP:=@List.map_nil
noncomputable def qQ:=@List.mem_of_getElem?
noncomputable def qR:=@List.mem_append_right
noncomputable def qS:=@List.nil_append
noncomputable def qT:=@decide_eq_true
noncomputable def qU:=@wpAny_holding
noncomputable def qV:=@List.length_range
noncomputable def qW:=@List.mem_map_of_mem
noncomputable def qX:=@if_pos
noncomputable def qY:=@if_neg
end
section
namespace L2
open PySem PySem.Spec PyProof.Rows
noncomputable abbrev Key:=Sum ah ai
def nD:Key->av->aP
 |.inl k,v=>Sa k v
 |.inr x,v=>Sb x v
def GM (w:cL):Key->ah
 |.inl k=>hashInt k
 |.inr x=>hashStr w x
theorem iu:∀{k:Key} {v:av},nD k v=aj->(∃i t,k=oh i/\v=qZ i t)\/(∃x t,k=cD x/\v=uJ x t)
 |.inl i,v,h=>by
  obtain⟨t,e⟩:=Value.isInt_shape (k:=i) (v:=v) h;exact .inl ⟨i,t,rfl,e⟩
 |.inr x,v,h=>by obtain⟨t,e⟩:=Value.isStrOf_shape (x:=x) (v:=v) h;exact .inr ⟨x,t,rfl,e⟩
theorem M3 (i:ah) (t:Tok):nD (.inl i) (.int i t)=aj:=by simp[nD,Sa]
theorem Qv (x:ai) (t:Tok):nD (.inr x) (.str x t)=aj:=by simp[nD,Sb]
theorem Oz (a b:ah):decide ((oh a:Key)=oh b)=(a==b):=by
 by_cases e:a=b
 .subst e;simp
 .have h:¬(oh a:Key)=oh b:=fun q=>e (Sum.inl.inj q);rw[qO h];exact(kS.mpr e).symm
theorem OG (a b:ai):decide ((cD a:Key)=cD b)=decide (a=b):=by
 by_cases e:a=b
 .subst e;simp
 .have h:¬(cD a:Key)=cD b:=fun q=>e (hG q);rw[qO h,qO e]
theorem LM (a:ah) (b:ai):decide ((oh a:Key)=cD b)=ar:=qO (fun q=>nomatch q)
theorem Ot (a:ai) (b:ah):decide ((cD a:Key)=oh b)=ar:=qO (fun q=>nomatch q)
def cE (prog:dF) (w:cL):PySem.KeyKind prog w Key where
 is:=nD
 hash:=GM w
 inj:=fun v a b ha hb=>by
  rcases iu ha with⟨i,t,rfl,rfl⟩|⟨x,t,rfl,rfl⟩
  .rcases iu hb with⟨j,u,rfl,e⟩|⟨y,u,rfl,e⟩
   .injection e with e1 _;rw[e1]
   .exact nomatch e
  .rcases iu hb with⟨j,u,rfl,e⟩|⟨y,u,rfl,e⟩
   .exact nomatch e
   .injection e with e1 _;rw[e1]
 byValue:=fun k v h=>by rcases iu h with⟨i,t,rfl,rfl⟩|⟨x,t,rfl,rfl⟩<;>rfl
 pyHash:=fun hv h=>by
  rcases iu hv with⟨i,t,rfl,rfl⟩|⟨x,t,rfl,rfl⟩
  .exact wpAny_pyHash_int h
  .exact wpAny_pyHash_str h
 eqBool:=fun hu hv h=>by
  rcases iu hu with⟨i,t,rfl,rfl⟩|⟨x,t,rfl,rfl⟩
  .rcases iu hv with⟨j,u,rfl,rfl⟩|⟨y,u,rfl,rfl⟩
   .rw[Oz] at h;exact wpAny_eqBool_int h
   .rw[LM] at h;exact SeqAt.EqAt.int_str i t y u _ _ _ _ h
  .rcases iu hv with⟨j,u,rfl,rfl⟩|⟨y,u,rfl,rfl⟩
   .rw[Ot] at h;exact SeqAt.EqAt.str_int x t j u _ _ _ _ h
   .rw[OG] at h;exact wpAny_eqBool_str h
 «strs»:=fun k x t v h=>by
  rcases iu h with⟨i,u,rfl,e⟩|⟨y,u,rfl,e⟩
  .exact nomatch e
  .injection e with e1 _;subst e1;cases v<;>rfl
theorem KP (prog:dF) (w:cL) (i:ah) (t:Tok):(cE prog w).is (.inl i) (.int i t)=aj:=M3 i t
theorem Rs (prog:dF) (w:cL) (x:ai) (t:Tok):(cE prog w).is (.inr x) (.str x t)=aj:=Qv x t
inductive V where
 |non|bl (b:aP)|int (i:ah)|str (x:ai)|ref (a:au)|ty (n:cK)
 deriving dG
noncomputable def bu:V->av->Prop
 |.non,u=>u=kT
 |.bl b,u=>u=kU b
 |.int i,u=>∃t,u=qZ i t
 |.str x,u=>∃t,u=uJ x t
 |.ref a,u=>u=bY a
 |.ty n,u=>u=kW n
noncomputable abbrev bi:ac V->ac av->Prop:=Paired bu
theorem bi.length {xs:ac V} {us:ac av} (r:bi xs us):xs.length=us.length:=Paired.length r
theorem bi.get:∀{xs:ac V} {us:ac av} {i:ao} {x:V},bi xs us->xs[i]?=aa x->∃u,us[i]?=aa u/\bu x u
 |_,_,_,_,.nil,e=>by simp at e
 |_,_,0,_,.cons r _,e=>by simp at e;subst e;exact⟨_,rfl,r⟩
 |_,_,i+1,x,.cons _ t,e=>by obtain⟨u,h1,h2⟩:=bi.get (i:=i) (x:=x) t (by simpa using e);exact⟨u,by simpa using h1,h2⟩
theorem bi.append:∀{xs ys:ac V} {us ws:ac av},bi xs us->bi ys ws->bi (xs++ys) (us++ws)
 |_,_,_,_,.nil,s=>s
 |_,_,_,_,.cons r t,s=>.cons r (bi.append t s)
theorem bi.take:∀{xs:ac V} {us:ac av} (n:ao),bi xs us->bi (xs.take n) (us.take n)
 |_,_,0,_=>.nil
 |_,_,_+1,.nil=>.nil
 |_,_,n+1,.cons r t=>.cons r (bi.take n t)
theorem bi.drop:∀{xs:ac V} {us:ac av} (n:ao),bi xs us->bi (xs.drop n) (us.drop n)
 |_,_,0,r=>r
 |_,_,_+1,.nil=>.nil
 |_,_,n+1,.cons _ t=>bi.drop n t
def fy:aq V->aq av->Prop
 |some v,aa u=>bu v u
 |none,af=>True
 |_,_=>False
variable {κ:Type}
noncomputable def KV :ac (κ×V)->ac (κ×av)->Prop:=Paired fun(p:κ×V) (q:κ×av)=>p.1=q.1/\bu p.2 q.2
noncomputable def kV:Key->V
 |.inl i=>.int i
 |.inr x=>.str x
inductive HO where
 |lst (xs:ac V)
 |tup (xs:ac V)
 |dK (kvs:ac (Key×V))|dT (kvs:ac .(aR))
 |set (S:ah->aP) (n:ao)
 |ins (C dx:au) (fs:ac (ai×V))
 |own (x:au)
 |frz (o:Obj) (u:HO)
 |tbl (ps:bO av)
 |ext (φ:Heap->Prop)
noncomputable abbrev Hp:=au->aq HO
noncomputable def upd (H:Hp) (a:au) (o:HO):Hp:=fun b=>if b=a then aa o else H b
variable {H:Hp} {a:au}
theorem bj {o:HO} :upd H a o a=aa o:=by unfold upd;rw[qX rfl]
theorem aF {b:au} {o:HO} (h:b≠a):upd H a o b=H b:=by unfold upd;rw[qY h]
theorem wx {b:au} {o u:HO} (h:H a=aa o) (h':H b=aa u) (d:o≠u):a≠b:=by intro e;subst e;rw[h] at h';exact d (qH h')
theorem bD {b:au} {o:HO} (h:H a=aa o) (h':H b=af):a≠b:=by intro e;subst e;rw[h] at h';cases h'
section
variable (P:dF) (w:cL)
def cm (H:Hp) (h:Heap) (a:au):HO->Prop
 |.lst xs=>xs.length<=aH/\∃(its:ac av) (n:ao),bi xs its/\h.get? a=aa {cls:=.type "list",data:=.seq its.toArray n}
 |.tup xs=>xs.length<=aH/\∃its:ac av,bi xs its/\uK h a its.toArray
 |.dK kvs=>kvs.length<=aH/\(a==iB)=ar/\∃vs,KV kvs vs/\h.DictOf (cE P w) a vs
 |.dT kvs=>kvs.length<=aH/\(a==iB)=ar/\∃xs:ac (ac Key×au×av),
   Paired (fun(p:ac Key×V) (q:ac Key×au×av)=>p.1=q.1/\H q.2.1=aa (.tup (p.1.map kV))/\bu p.2 q.2.2) kvs xs /\
   ∃o es ep,h.get? a=aa o/\o.ExactDict/\o.data=.dict es ep/\es.toList=xs.map (entryOfKey (kX (cE P w)))/\(xs.map (·.1)).Nodup
 |.set S n=>h.SetOf (intKind P w) a S n
 |.ins C dx fs=>H dx=aa (.own a)/\fs.length<=1000/\dx≠a/\h.get? a=aa (my C dx) /\
   ∃mA,h.Ns1 dx mA/\(∀f,fy (fs.lookup f) (mA f))/\EG mA (fs.map (·.1))
 |.own _=>∃o,h.get? a=aa o
 |.frz o u=>h.get? a=aa o/\cm H h a u
 |.tbl ps=>h.get? a=aa {cls:=.none,data:=.fields ps}
 |.ext φ=>φ h/\(∃o,h.get? a=aa o)/\∀h1 h2:Heap,φ h1->(∀o,h1.get? a=aa o->h2.get? a=aa o)->φ h2
noncomputable def HOk (H:Hp) (h:Heap):Prop:=∀a o,H a=aa o->cm P w H h a o
end
variable {P:dF} {w:cL} {H':Hp} {h':Heap}
section
variable {h:Heap} {o:HO}
theorem cm.lt (x:cm P w H h a o):a<h.objs.size:=by
 cases o with
 |lst xs=>obtain⟨_,_,_,_,e⟩:=x;exact qu e
 |tup xs=>obtain⟨_,_,_,p⟩:=x;exact p.lt
 |dK kvs=>obtain⟨_,_,_,_,o,_,_,e,_⟩:=x;exact qu e
 |dT kvs=>obtain⟨_,_,_,_,o,_,_,e,_⟩:=x;exact qu e
 |set S n=>obtain⟨o,_,_,_,e,_⟩:=x;exact qu e
 |ins C dx fs=>obtain⟨_,_,_,e,_⟩:=x;exact qu e
 |own y=>obtain⟨_,e⟩:=x;exact qu e
 |frz ob u=>obtain⟨e,_⟩:=x;exact qu e
 |tbl ps=>exact qu (show h.get? a=aa _ from x)
 |ext φ=>obtain⟨_,⟨_,e⟩,_⟩:=x;exact qu e
theorem Paired.mapP {α β:Type} {F G:α->β->Prop}:∀{l₁:ac α} {l₂:ac β},Paired F l₁ l₂->(∀a b,F a b->G a b)->Paired G l₁ l₂
 |_,_,.nil,_=>.nil
 |_,_,.cons r t,f=>.cons (f _ _ r) (Paired.mapP t f)
theorem cm.stay (x:cm P w H h a o) (k:∀b u,(b=a\/H b=aa (.own a))->h.get? b=aa u->h'.get? b=aa u)
  (ho:∀b,H b=aa (.own a)->H' b=aa (.own a)) (ht:∀b xs,H b=aa (.tup xs)->H' b=aa (.tup xs)):cm P w H' h' a o:=by
 induction o with
 |lst xs=>obtain⟨z,its,n,r,e⟩:=x;exact⟨z,its,n,r,k _ _ (.inl rfl) e⟩
 |tup xs=>obtain⟨z,its,r,ob,e,c⟩:=x;exact⟨z,its,r,ob,k _ _ (.inl rfl) e,c⟩
 |dK kvs=>obtain⟨z,y,vs,r,ob,es,ep,e,c⟩:=x;exact⟨z,y,vs,r,ob,es,ep,k _ _ (.inl rfl) e,c⟩
 |dT kvs=>
  obtain⟨z,y,xs,r,ob,es,ep,e,c⟩:=x;exact⟨z,y,xs,Paired.mapP r fun p q z=>⟨z.1,ht _ _ z.2.1,z.2.2⟩,ob,es,ep,k _ _ (.inl rfl) e,c⟩
 |set S n=>obtain⟨ob,es,ep,t,e,c⟩:=x;exact⟨ob,es,ep,t,k _ _ (.inl rfl) e,c⟩
 |ins C dx fs=>
  obtain⟨d,z,ne,e,mA,⟨od,es,ep,e2,c⟩,r⟩:=x;exact⟨ho _ d,z,ne,k _ _ (.inl rfl) e,mA,⟨od,es,ep,k _ _ (.inr d) e2,c⟩,r⟩
 |own y=>obtain⟨ob,e⟩:=x;exact⟨ob,k _ _ (.inl rfl) e⟩
 |frz ob u ih=>obtain⟨e,q⟩:=x;exact⟨k _ _ (.inl rfl) e,ih q⟩
 |tbl ps=>
  have e:h.get? a=aa {cls:=.none,data:=.fields ps}:=x;show h'.get? a=aa {cls:=.none,data:=.fields ps};exact k a _ (.inl rfl) e
 |ext φ=>obtain⟨p,⟨o,e⟩,st⟩:=x;exact⟨st _ _ p fun o q=>k _ _ (.inl rfl) q,⟨o,k _ _ (.inl rfl) e⟩,st⟩
theorem HOk.lt (x:HOk P w H h) (e:H a=aa o):a<h.objs.size:=(x a o e).lt
theorem HOk.fresh (x:HOk P w H h) (e:h.objs.size<=a):H a=af:=by
 cases q:H a with
 |none=>rfl
 |some u=>exact bA (qF (x.lt q) e) (hU _)
theorem HOk.kept (x:HOk P w H h) (k:∀b u,h.get? b=aa u->h'.get? b=aa u):HOk P w H h':=fun a o e=>
 (x a o e).stay (fun b u _ q=>k b u q) (fun _ q=>q) fun _ _ q=>q
theorem HOk.laid (x:HOk P w H h) (k:∀b u,h.get? b=aa u->h'.get? b=aa u) (hp:h.objs.size<=a) (new:cm P w (upd H a o) h' a o):HOk P w (upd H a o) h':=fun b u e=>by
 have hn:=x.fresh hp;by_cases hb:b=a
 .subst hb;rw[bj] at e;cases e;exact new
 .rw[aF hb] at e;exact(x b u e).stay (fun c v _ q=>k c v q) (fun c q=>by rw[aF (bD q hn)];exact q) fun c xs q=>by rw[aF (bD q hn)];exact q
end
noncomputable def Rd (H:Hp) (a:au) (u:HO):Prop:=H a=aa u\/∃o,H a=aa (.frz o u)
theorem Rd.ok {h:Heap} {u:HO} (r:Rd H a u) (x:HOk P w H h):cm P w H h a u:=by
 rcases r with r|⟨o,r⟩
 .exact x a u r
 .obtain⟨_,q⟩:=x a _ r;exact q
noncomputable def Mut:aq HO->Prop
 |some (.lst _)=>True
 |some (.dK _)=>True
 |some (.dT _)=>True
 |some (.set _ _)=>True
 |some (.ins _ _ _)=>True
 |some (.ext _)=>True
 |_=>False
section
variable {h:Heap} {x e:au} {o':HO}
theorem HOk.write (ok:HOk P w H h) (mu:Mut (H x)) (he:e=x\/H e=aa (.own x)) (k:∀b u,b≠e->h.get? b=aa u->h'.get? b=aa u) (heo:∃u,h'.get? e=aa u)
  (new:cm P w (upd H x o') h' x o'):HOk P w (upd H x o') h':=fun b u q=>by
 have nown:∀c y,H c=aa (.own y)->c≠x:=fun c y r z=>by subst z;rw[r] at mu;exact mu
 have ntup:∀c xs,H c=aa (.tup xs)->c≠x:=fun c xs r z=>by subst z;rw[r] at mu;exact mu
 by_cases hb:b=x
 .subst hb;rw[bj] at q;cases q;exact new
 .rw[aF hb] at q;by_cases hbe:b=e
  .have q':H b=aa (.own x):=by
    rcases he with z|z
    .exact bA (hbe.trans z) hb
    .rw[hbe];exact z
   rw[q] at q';cases q';obtain⟨v,hv⟩:=heo;exact⟨v,by rw[hbe];exact hv⟩
  .refine(ok b u q).stay (fun c v hc r=>k c v ?_ r) (fun c r=>by rw[aF (nown c b r)];exact r) fun c xs r=>by rw[aF (ntup c xs r)];exact r
   rcases hc with rfl|hc
   .exact hbe
   .rintro rfl;rcases he with z|z
    .exact nown c b hc z
    .rw[hc] at z;cases z;exact hb rfl
end
structure Un (fs ex:ac au) (H H':Hp) (h h':Heap):Prop where
 keep:∀b o,h.get? b=aa o->H b=af->b∉fs->b∉ex->h'.get? b=aa o
 slot:∀b o,h.get? b=aa o->H b=af->b∈fs->b∉ex->∃sl,h'.get? b=aa {o with slots:=sl}
 free:∀b o,h.get? b=aa o->H b=af->b∉ex->H' b=af
 there:∀b o,h.get? b=aa o->b∉ex->∃o',h'.get? b=aa o'
 tups:∀b xs,H b=aa (.tup xs)->H' b=aa (.tup xs)
 frzs:∀b o u,H b=aa (.frz o u)->H' b=aa (.frz o u)
 tbls:∀b ps,H b=aa (.tbl ps)->∃more,H' b=aa (.tbl (ps++more))
variable {H1 H2:Hp}
section
variable {fs fs' ex ex':ac au} {h h1 h2:Heap} {x e:au} {o:HO}
theorem Un.any (u:Un fs ex H H1 h h1) {b:au} {ob:Obj} (q:h.get? b=aa ob) (n:H b=af) (hx:b∉ex):∃sl,h1.get? b=aa {ob with slots:=sl}:=by
 by_cases hb:b∈fs
 .exact u.slot b ob q n hb hx
 .exact⟨ob.slots,u.keep b ob q n hb hx⟩
theorem Un.kept (k:∀b u,h.get? b=aa u->h'.get? b=aa u):Un fs ex H H h h':=
 ⟨fun b ob q _ _ _=>k b ob q,fun b ob q _ _ _=>⟨ob.slots,k b ob q⟩,fun _ _ _ n _=>n,fun b ob q _=>⟨ob,k b ob q⟩,fun _ _ q=>q,fun _ _ _ q=>q,fun _ ps q=>⟨#[],by rw[q];simp⟩⟩
theorem Un.refl:Un fs ex H H h h:=Un.kept fun _ _ q=>q
theorem Un.laid (k:∀b u,h.get? b=aa u->h'.get? b=aa u) (hp:h.objs.size<=a) (hn:H a=af):Un fs ex H (upd H a o) h h' where
 keep:=fun b u q _ _ _=>k b u q
 slot:=fun b u q _ _ _=>⟨u.slots,k b u q⟩
 free:=fun b u q n _=>by rw[aF (qC (qF (qu q) hp))];exact n
 there:=fun b u q _=>⟨u,k b u q⟩
 tups:=fun b xs q=>by rw[aF (bD q hn)];exact q
 frzs:=fun b u xs q=>by rw[aF (bD q hn)];exact q
 tbls:=fun b ps q=>⟨#[],by rw[aF (bD q hn),q];simp⟩
theorem Un.write (mu:Mut (H x)) (he:e=x\/H e=aa (.own x)) (k:∀b u,b≠e->h.get? b=aa u->h'.get? b=aa u) (heo:∃u,h'.get? e=aa u):Un fs ex H (upd H x o) h h':=by
 have hx:∀b,H b=af->b≠x:=fun b n z=>by subst z;rw[n] at mu;exact mu
 have hb:∀b,H b=af->b≠e:=fun b n z=>by
  subst z;rcases he with r|r
  .exact hx b n r
  .rw[n] at r;cases r
 have hm:∀b u,H b=aa u->¬Mut (aa u)->b≠x:=fun b u q nm z=>by subst z;rw[q] at mu;exact nm mu
 refine⟨fun b u q n _ _=>k b u (hb b n) q,fun b u q n _ _=>⟨u.slots,k b u (hb b n) q⟩,fun b u q n _=>by rw[aF (hx b n)];exact n,fun b u q _=>?_,
  fun b xs q=>by rw[aF (hm b _ q fun z=>z)];exact q,fun b u xs q=>by rw[aF (hm b _ q fun z=>z)];exact q,fun b ps q=>⟨#[],by rw[aF (hm b _ q fun z=>z),q];simp⟩⟩
 by_cases hbe:b=e
 .subst hbe;exact heo
 .exact⟨u,k b u hbe q⟩
end
noncomputable def trk (h:Heap) (H:Hp):ac au:=(cx h.objs.size).filter fun a=>(H a).isSome
def jI (h:Heap) (H:Hp):Heap:=PySem.W.hideAll h (trk h H)
theorem Jn (h:Heap) (H:Hp):(jI h H).objs.size=h.objs.size:=PySem.W.hideAll_size _ _
variable {o:Obj}
theorem RC {h:Heap} {b:au} (e:h.get? b=aa o) (n:H b=af):(jI h H).get? b=aa o:=
 PySem.W.hideAll_get _ e fun hm=>by have q:(H b).isSome=aj:=(EH.mp hm).2;rw[n] at q;simp at q
theorem LD {h:Heap} {b:au} (e:(jI h H).get? b=aa o):h.get? b=aa o/\H b=af:=by
 have e':h.get? b=aa o:=PySem.W.of_hideAll (trk h H) e;refine⟨e',?_⟩;cases q:H b with
 |none=>rfl
 |some x=>
  have hm:b∈trk h H:=EH.mpr ⟨fN.mpr (qu e'),by simp[q]⟩;have z:(jI h H).get? b=af:=PySem.W.hideAll_none (trk h H) hm;rw[z] at e;cases e
noncomputable def Hh (g h:Heap) (L:au):ac (au×Obj):=(cx h.objs.size).filterMap fun a=>if a=L\/(g.get? a).isSome=aj then af else (h.get? a).map fun o=>(a,o)
def bP (g h:Heap) (L d:au):ac (au×Obj):=(Hh g h L).filter fun p=>decide (p.1≠d)
structure Mod (K:aW) (mg:ai->aq av) (base:Heap):Prop where
 kin:K.In base
 glob:base.Ns eX mg
 blt:∃mb,base.Ns EI mb/\∀x:ai,x≠"__name__"->mb x=dR x
 nolimit:base.NoLimit
structure Cx where
 prog:dF
 w:cL
 K:aW
 mg:ai->aq av
 base:Heap
 A:cR
 N:ac ai
 s₀:aI
 H₀:Hp
 env:cG
 outer:ac cG
 stack:ac cG
 ex:ac au
 fn:ai->aP
 calm:aP
 pn:ac (au×Obj)
 xe:av->aI->Prop
noncomputable def frs (l:ac cG):ac au:=l.filterMap (·.frame)
abbrev Cx.fs (X:Cx):ac au:=frs X.outer
noncomputable def Vis (sc:Scope) (x:ai):Prop:=sc.names.lookup x=aa .local\/sc.names.lookup x=aa .cell\/sc.names.lookup x=aa .free
noncomputable def Loc (sc:Scope) (x:ai):Prop:=sc.names.lookup x=aa .local\/sc.names.lookup x=aa .cell
noncomputable def OT (env:cG) (h:Heap) (m:ai->aq av) (x:ai) (u:av):Prop:=
 (env.kindOf x=aa .local/\m x=aa u)\/((env.kindOf x=aa .cell\/env.kindOf x=aa .free)/\∃c,env.cells.lookup x=aa c/\h.IsCell c (aa u))
structure Cx.Ok (X:Cx):Prop where
 mod:Mod X.K X.mg X.base
 kind:X.env.scope.kind=.function
 glob:X.env.globals=eX
 blt:X.env.builtins=EI
 above:X.s₀.heap.objs.size<=X.env.locals
 inj:∀x y c,X.env.cells.lookup x=aa c->X.env.cells.lookup y=aa c->x=y
 has:∀x,(X.env.kindOf x=aa .cell\/X.env.kindOf x=aa .free)->∃c,X.env.cells.lookup x=aa c
 cab:∀x c,X.fn x=aj->X.env.cells.lookup x=aa c->X.s₀.heap.objs.size<=c
 hd:X.calm=aj->X.A.handled=af
 frames:X.A.frames=aa X.stack
 stk:X.stack=X.outer\/(X.stack=X.env::X.outer/\X.env.frame=aa X.env.locals)
 exf:∀b∈X.ex,b≠X.env.locals/\∀x c,X.env.cells.lookup x=aa c->c≠b
 bs:∀b o,X.base.get? b=aa o->X.s₀.heap.get? b=aa o/\X.H₀ b=af
 bsz:X.base.objs.size<=X.s₀.heap.objs.size
 noex:∀b o,X.base.get? b=aa o->b∉X.ex
 exfs:∀b∈X.ex,b∉X.fs
 funs:X.s₀.heap.FunFrames X.base X.outer
 frf:∀b∈X.fs,X.H₀ b=af
structure Inv (X:Cx) (pins:ac (au×Obj)) (σ:ac (aq V)) (H:Hp) (s:aI):Prop where
 ok:X.Ok
 os:s.os=X.s₀.os
 bare:kY s.gens
 base:Un X.fs X.ex X.H₀ H X.s₀.heap s.heap
 loc:∃m,s.heap.Ns X.env.locals m/\∀(i:ao) (x:ai) (v:V),X.N[i]?=aa x->σ[i]?=aa (aa v)->Vis X.env.scope x->∃u,bu v u/\OT X.env s.heap m x u
 cell:∀x c,X.env.cells.lookup x=aa c->∃v,s.heap.IsCell c v
 free:H X.env.locals=af
 freeC:∀x c,X.env.cells.lookup x=aa c->H c=af
 pin:∀p∈X.pn++pins,s.heap.get? p.1=aa p.2/\H p.1=af/\p.1≠X.env.locals/\p.1∉X.fs/\∀v,p.2.data≠.cell v
 hok:HOk X.prog X.w H s.heap
 len:σ.length=X.N.length
variable {X:Cx} {pins:ac (au×Obj)} {s s':aI} {t' i j:ao} {d':Drawn} {N:ac ai} {x:ai} {A:cR} {E:av->aI->Prop} {v:V} {u:av}
section
variable {σ:ac (aq V)}
theorem Cx.Ok.nofr (ok:X.Ok) {b:au} (e:X.base.get? b=aa o):b∉X.fs:=fun hb=>by have:=(ok.funs.mem hb).1;rw[e] at this;cases this
theorem Inv.bs (I:Inv X pins σ H s):∀b o,X.base.get? b=aa o->s.heap.get? b=aa o/\H b=af:=fun b o e=>
 ⟨I.base.keep b o (I.ok.bs b o e).1 (I.ok.bs b o e).2 (I.ok.nofr e) (I.ok.noex b o e),I.base.free b o (I.ok.bs b o e).1 (I.ok.bs b o e).2 (I.ok.noex b o e)⟩
theorem Inv.bk (I:Inv X pins σ H s):∀b o,X.base.get? b=aa o->s.heap.get? b=aa o:=fun b o e=>(I.bs b o e).1
theorem Inv.mod (I:Inv X pins σ H s):Mod X.K X.mg X.base:=I.ok.mod
theorem Inv.kIn (I:Inv X pins σ H s):X.K.In s.heap:=I.ok.mod.kin.keeps I.bk
theorem Inv.lt (I:Inv X pins σ H s):X.env.locals<s.heap.objs.size:=let ⟨_,hn,_⟩:=I.loc;hn.lt
theorem Inv.sz (I:Inv X pins σ H s):X.s₀.heap.objs.size<=s.heap.objs.size:=qN I.ok.above (rf I.lt)
theorem Inv.nofs (I:Inv X pins σ H s) (h:s.heap.objs.size<=a):a∉X.fs:=fun hb=>by obtain⟨_,o,ho,_⟩:=I.ok.funs.mem hb;exact bA (qF (qu ho) (qN I.sz h)) (hU _)
theorem Inv.cne (I:Inv X pins σ H s):∀x c,X.env.cells.lookup x=aa c->c≠X.env.locals:=fun x c e z=>by obtain⟨v,o,ho,hd⟩:=I.cell x c e;obtain⟨m,⟨o',es,ep,ho',hd',_⟩,_⟩:=I.loc;rw[z,ho'] at ho;cases ho;rw[hd'] at hd;cases hd
theorem Inv.funs (I:Inv X pins σ H s):s.heap.FunFrames X.base X.outer:=by
 have all:∀(l:ac cG),(∀b∈frs l,b∈X.fs)->X.s₀.heap.FunFrames X.base l->s.heap.FunFrames X.base l:=by
  intro l
  induction l with
  |nil=>intro _ _;trivial
  |cons env r ih=>
   intro hs hl;obtain⟨hk,⟨L,o,hf,hn,ho,hd⟩,hr⟩:=hl;have hL:L∈X.fs:=hs L (by unfold frs;rw[yj,hf];exact qg);obtain⟨sl,e⟩:=I.base.slot L o ho (I.ok.frf L hL) hL fun z=>I.ok.exfs L z hL;exact⟨hk,⟨L,_,hf,hn,e,hd⟩,ih (fun b hb=>hs b (by unfold frs;rw[yj,hf];exact qh _ hb)) hr⟩
 exact all X.outer (fun _ hb=>hb) I.ok.funs
theorem Inv.stack (I:Inv X pins σ H s):s.heap.FunFrames X.base X.stack:=by
 rcases I.ok.stk with e|⟨e,hf⟩
 .rw[e];exact I.funs
 .rw[e];obtain⟨m,hn,_⟩:=I.loc;refine .cons (by rw[I.ok.kind];decide) hf hn ?_ I.funs;exact Heap.get?_none_of_le (qN I.ok.bsz I.ok.above)
theorem Inv.stkSub (I:Inv X pins σ H s):∀b∈frs X.stack,b∈X.env.locals::X.fs:=fun b hb=>by
 rcases I.ok.stk with e|⟨e,hf⟩
 .rw[e] at hb;exact qh _ hb
 .rw[e] at hb;unfold frs at hb;rw[yj,hf] at hb;exact hb
theorem Inv.stkFree (I:Inv X pins σ H s):∀b∈frs X.stack,H b=af:=fun b hb=>by
 rcases cr.mp (I.stkSub b hb) with e|hb
 .rw[e];exact I.free
 .obtain⟨_,o,ho,_⟩:=I.ok.funs.mem hb;exact I.base.free b o ho (I.ok.frf b hb) fun z=>I.ok.exfs b z hb
theorem Inv.step {g':bO rg} {ch:ac au} (I:Inv X pins σ H s)
  (hch:∀b∈ch,(b∈X.ex\/X.s₀.heap.objs.size<=b)/\b≠X.env.locals/\(∀x c,X.env.cells.lookup x=aa c->c≠b)/\∀p∈X.pn++pins,p.1≠b)
  (keep:∀b o,b≠X.env.locals->b∉X.fs->b∉ch->s.heap.get? b=aa o->H b=af->h'.get? b=aa o)
  (slot:∀b o,b≠X.env.locals->b∈X.fs->b∉ch->s.heap.get? b=aa o->H b=af->∃sl,h'.get? b=aa {o with slots:=sl}) (free:∀b o,b∉ch->s.heap.get? b=aa o->H b=af->H' b=af)
  (there:∀b o,b∉ch->s.heap.get? b=aa o->∃o',h'.get? b=aa o')
  (tups:∀b xs,H b=aa (.tup xs)->H' b=aa (.tup xs)) (frzs:∀b o u,H b=aa (.frz o u)->H' b=aa (.frz o u)) (tbls:∀b ps,H b=aa (.tbl ps)->∃more,H' b=aa (.tbl (ps++more)))
  (ns:∀m,s.heap.Ns X.env.locals m->h'.Ns X.env.locals m) (hok:HOk X.prog X.w H' h') (hg:kY g') :
  Inv X pins σ H' {s with heap:=h',gens:=g',drawn:=d',toks:=t'}:=by
 have neL:∀b o,X.s₀.heap.get? b=aa o->b≠X.env.locals:=fun b o e=>qC (qF (qu e) I.ok.above);have neC:∀b o,X.s₀.heap.get? b=aa o->b∉X.ex->b∉ch:=fun b o e hx hb=>by
  rcases(hch b hb).1 with z|z
  .exact hx z
  .exact bA (qF (qu e) z) (hU _)
 have cellK:∀x c,X.env.cells.lookup x=aa c->∀v,s.heap.IsCell c v->h'.IsCell c v:=fun x c e v ⟨o,ho,hd⟩=>by
  have nch:c∉ch:=fun z=>(hch c z).2.2.1 x c e rfl;by_cases hc:c∈X.fs
  .obtain⟨sl,q⟩:=slot c o (I.cne x c e) hc nch ho (I.freeC x c e);exact⟨_,q,hd⟩
  .exact⟨o,keep c o (I.cne x c e) hc nch ho (I.freeC x c e),hd⟩
 refine⟨I.ok,I.os,hg,⟨fun b o e n hb hx=>?_,fun b o e n hb hx=>?_,fun b o e n hx=>?_,fun b o e hx=>?_,fun b xs e=>tups b xs (I.base.tups b xs e),fun b o xs e=>frzs b o xs (I.base.frzs b o xs e),fun b ps e=>?_⟩,?_,fun x c e=>?_,?_,fun x c e=>?_,fun p hp=>?_,hok,I.len⟩
 .exact keep b o (neL b o e) hb (neC b o e hx) (I.base.keep b o e n hb hx) (I.base.free b o e n hx)
 .obtain⟨sl,e1⟩:=I.base.slot b o e n hb hx;obtain⟨sl',e2⟩:=slot b _ (neL b o e) hb (neC b o e hx) e1 (I.base.free b o e n hx);exact⟨sl',e2⟩
 .obtain⟨o',e1⟩:=I.base.there b o e hx;exact free b o' (neC b o e hx) e1 (I.base.free b o e n hx)
 .obtain⟨o',e1⟩:=I.base.there b o e hx;exact there b o' (neC b o e hx) e1
 .obtain⟨m1,e1⟩:=I.base.tbls b ps e;obtain⟨m2,e2⟩:=tbls b _ e1;exact⟨m1++m2,by rw[e2,Array.append_assoc]⟩
 .obtain⟨m,hn,hl⟩:=I.loc;refine⟨m,ns m hn,fun i x v e1 e2 e3=>?_⟩;obtain⟨u,r,l⟩:=hl i x v e1 e2 e3;refine⟨u,r,?_⟩;rcases l with l|⟨k,c,e,z⟩
  .exact .inl l
  .exact .inr ⟨k,c,e,cellK x c e _ z⟩
 .obtain⟨v,z⟩:=I.cell x c e;exact⟨v,cellK x c e v z⟩
 .obtain⟨m,⟨o,_,_,ho,_⟩,_⟩:=I.loc;exact free _ o (fun z=>(hch _ z).2.1 rfl) ho I.free
 .obtain⟨v,o,ho,hd⟩:=I.cell x c e;exact free c o (fun z=>(hch c z).2.2.1 x c e rfl) ho (I.freeC x c e)
 .obtain⟨e,n,ne,nf,d⟩:=I.pin p hp;have nch:p.1∉ch:=fun z=>(hch p.1 z).2.2.2 p hp rfl;exact⟨keep p.1 p.2 ne nf nch e n,free p.1 p.2 nch e n,ne,nf,d⟩
theorem Inv.un (I:Inv X pins σ H s) (u:Un X.fs [] H H' s.heap h') (hok:HOk X.prog X.w H' h'):Inv X pins σ H' {s with heap:=h',toks:=t'}:=by
 obtain⟨m,⟨o,es,ep,ho,r⟩,_⟩:=id I.loc;obtain⟨sl,hL⟩:=u.any ho I.free (by simp);exact I.step (g':=s.gens) (d':=s.drawn) (ch:=[]) (fun _ z=>nomatch z) (fun b o _ hb _ e n=>u.keep b o e n hb (by simp)) (fun b o _ hb _ e n=>u.slot b o e n hb (by simp)) (fun b o _ e n=>u.free b o e n (by simp)) (fun b o _ e=>u.there b o e (by simp)) u.tups u.frzs u.tbls (fun m' hm=>by obtain⟨o',es',ep',ho',r'⟩:=hm;rw[ho] at ho';cases ho';exact⟨_,es',ep',hL,r'⟩) hok I.bare
theorem Inv.call {g':bO rg} {ch:ac au} (I:Inv X pins σ H s) (u:Un (frs X.stack) ch H H' s.heap h') (hok:HOk X.prog X.w H' h') (hg:kY g')
  (hch:∀b∈ch,(b∈X.ex\/X.s₀.heap.objs.size<=b)/\b≠X.env.locals/\(∀x c,X.env.cells.lookup x=aa c->c≠b)/\∀p∈X.pn++pins,p.1≠b) :
  Inv X pins σ H' {s with heap:=h',gens:=g',drawn:=d',toks:=t'}:=by
 obtain⟨m,⟨o,es,ep,ho,r⟩,_⟩:=id I.loc;obtain⟨sl,hL⟩:=u.any ho I.free fun z=>(hch _ z).2.1 rfl;exact I.step (ch:=ch) hch (fun b o hL hb hc e n=>u.keep b o e n (fun z=>(cr.mp (I.stkSub b z)).elim hL hb) hc) (fun b o _ _ hc e n=>u.any e n hc) (fun b o hc e n=>u.free b o e n hc) (fun b o hc e=>u.there b o e hc) u.tups u.frzs u.tbls (fun m' hm=>by obtain⟨o',es',ep',ho',r'⟩:=hm;rw[ho] at ho';cases ho';exact⟨_,es',ep',hL,r'⟩) hok hg
theorem Inv.turned {it:au} (I:Inv X pins σ H s) (k:∀b o,b≠it->s.heap.get? b=aa o->h'.get? b=aa o) (hn:H it=af) (hL:it≠X.env.locals)
  (h1:it∈X.ex\/X.s₀.heap.objs.size<=it) (h2:∀x c,X.env.cells.lookup x=aa c->c≠it) (h3:∀p∈X.pn++pins,p.1≠it):Inv X pins σ H {s with heap:=h',toks:=t'}:=by
 have nit:∀b u,H b=aa u->b≠it:=fun b u e z=>by rw[z,hn] at e;cases e
 refine I.step (g':=s.gens) (d':=s.drawn) (ch:=[it]) (fun b hb=>?_) (fun b o _ _ hc e _=>k b o (fun z=>hc (by simp[z])) e) (fun b o _ _ hc e _=>⟨o.slots,k b o (fun z=>hc (by simp[z])) e⟩) (fun _ _ _ _ n=>n)
  (fun b o hc e=>⟨o,k b o (fun z=>hc (by simp[z])) e⟩) (fun _ _ e=>e) (fun _ _ _ e=>e) (fun b ps e=>⟨#[],by rw[e];simp⟩) (fun m hm=>?_) (fun b u e=>?_) I.bare
 .have e:b=it:=by simpa using hb
  subst e;exact⟨h1,hL,h2,h3⟩
 .obtain⟨o,es,ep,ho,r⟩:=hm;exact⟨o,es,ep,k _ o (cM hL) ho,r⟩
 .refine(I.hok b u e).stay (fun c v hc q=>k c v ?_ q) (fun _ q=>q) fun _ _ q=>q;rcases hc with z|z
  .rw[z];exact nit b u e
  .exact nit c _ z
theorem Inv.tok (I:Inv X pins σ H s) (t:ao):Inv X pins σ H {s with toks:=t}:=I.un (h':=s.heap) (t':=t) Un.refl I.hok
theorem Inv.kept {t':ao} (I:Inv X pins σ H s) (k:∀b u,s.heap.get? b=aa u->h'.get? b=aa u):Inv X pins σ H {s with heap:=h',toks:=t'}:=I.un (Un.kept k) (I.hok.kept k)
theorem Inv.laid {a:au} {o:HO} {t':ao} (I:Inv X pins σ H s) (k:∀b u,s.heap.get? b=aa u->h'.get? b=aa u) (hp:s.heap.objs.size<=a) (new:cm X.prog X.w (upd H a o) h' a o) :
  Inv X pins σ (upd H a o) {s with heap:=h',toks:=t'}:=I.un (Un.laid k hp (I.hok.fresh hp)) (I.hok.laid k hp new)
theorem Inv.write {x e:au} {o:HO} {t':ao} (I:Inv X pins σ H s) (mu:Mut (H x)) (he:e=x\/H e=aa (.own x)) (k:∀b u,b≠e->s.heap.get? b=aa u->h'.get? b=aa u) (heo:∃u,h'.get? e=aa u)
  (new:cm X.prog X.w (upd H x o) h' x o):Inv X pins σ (upd H x o) {s with heap:=h',toks:=t'}:=I.un (Un.write mu he k heo) (I.hok.write mu he k heo new)
theorem Inv.pins_of {pins':ac (au×Obj)} (I:Inv X pins σ H s) (h:∀p∈pins',s.heap.get? p.1=aa p.2/\H p.1=af/\p.1≠X.env.locals/\p.1∉X.fs/\∀v,p.2.data≠.cell v):Inv X pins' σ H s:=
 ⟨I.ok,I.os,I.bare,I.base,I.loc,I.cell,I.free,I.freeC,fun p hp=>(dA.mp hp).elim (fun z=>I.pin p (rh _ z)) (h p),I.hok,I.len⟩
theorem Aq (hN:N.Nodup) (a:N[i]?=aa x) (b:N[j]?=aa x):i=j:=by obtain⟨h1,e1⟩:=df.mp a;obtain⟨h2,e2⟩:=df.mp b;exact(EJ hN).mp (e1.trans e2.symm)
theorem Cs {M:uL} {Q:mz->aI->Prop} (I:Inv X pins σ H s) (hN:X.N.Nodup) (hi:X.N[i]?=aa x) (hx:Loc X.env.scope x) (r:bu v u)
  (h:∀s',Inv X pins (σ.set i (aa v)) H s'->(∃a,iC a s.heap s'.heap/\(a=X.env.locals\/X.env.cells.lookup x=aa a))->Q () s') (hf:X.fn x=aj\/X.env.scope.names.lookup x=aa .local:=by ac_nf):aD M A (storeName X.env x u) Q E s:=by
 obtain⟨m,hn,hl⟩:=id I.loc;have hcls:(X.env.scope.kind==.class || (X.env.scope.kind==.module && X.env.locals != X.env.globals))=ar:=by rw[I.ok.kind];rfl
 have hiσ:i < σ.length:=by rw[I.len];exact(df.mp hi).1
 have cne:=I.cne;have tracked:∀{a:au} {h':Heap},(∃o,s.heap.get? a=aa o/\H a=af)->iC a s.heap h'->HOk X.prog X.w H h':=fun {a h'} ha hs b ob e=>by
  obtain⟨_,_,hfree⟩:=ha;refine(I.hok b ob e).stay (fun c w' hc q=>(hs.2 c ?_).trans q) (fun _ q=>q) fun _ _ q=>q;rintro rfl;rcases hc with rfl|hc
  .rw[hfree] at e;cases e
  .rw[hfree] at hc;cases hc
 rcases hx with hk|hk
 .refine wpAny_storeName_local hk hn (fun h' hn' hs=>?_) hcls;obtain⟨oL,_,_,hoL,_⟩:=id hn;refine h _ ⟨I.ok,I.os,I.bare,⟨fun b o e n hb hx=>?_,fun b o e n hb hx=>?_,I.base.free,fun b o e hx=>?_,I.base.tups,I.base.frzs,I.base.tbls⟩,⟨_,hn',fun j y v' e1 e2 e3=>?_⟩,fun y c e=>?_,I.free,I.freeC,fun p hp=>?_,tracked ⟨oL,hoL,I.free⟩ hs,by simpa using I.len⟩ ⟨_,hs,.inl rfl⟩
  .exact(hs.2 b (qC (qF (qu e) I.ok.above))).trans (I.base.keep b o e n hb hx)
  .obtain⟨sl,e1⟩:=I.base.slot b o e n hb hx;exact⟨sl,(hs.2 b (qC (qF (qu e) I.ok.above))).trans e1⟩
  .obtain⟨o',e1⟩:=I.base.there b o e hx;exact⟨o',(hs.2 b (qC (qF (qu e) I.ok.above))).trans e1⟩
  .by_cases hj:j=i
   .subst hj;rw[hi] at e1;cases e1;rw[oj hiσ] at e2;cases e2;exact⟨u,r,.inl ⟨hk,by simp⟩⟩
   .rw[qy (cM hj)] at e2;obtain⟨u',r',q⟩:=hl j y v' e1 e2 e3;refine⟨u',r',?_⟩;rcases q with⟨k,e⟩|⟨k,c,e,z⟩
    .refine .inl ⟨k,?_⟩;have:y≠x:=fun e=>hj (Aq hN e1 (e▸hi));simp[this,e]
    .exact .inr ⟨k,c,e,z.sameBut hs (cne y c e)⟩
  .obtain⟨w',z⟩:=I.cell y c e;exact⟨w',z.sameBut hs (cne y c e)⟩
  .obtain⟨e,n,ne,nf,d⟩:=I.pin p hp;exact⟨(hs.2 p.1 ne).trans e,n,ne,nf,d⟩
 .have hfn:X.fn x=aj:=by
   rcases hf with z|z
   .exact z
   .rw[z] at hk;cases hk
  obtain⟨c,hc⟩:=I.ok.has x (.inl hk);obtain⟨w',z⟩:=I.cell x c hc;refine wpAny_storeName_cell I.ok.kind hk hc z (fun h' hc' hs=>?_);obtain⟨oc,hoc,hocd⟩:=id z;refine h {s with heap:=h'} ⟨I.ok,I.os,I.bare,⟨fun b o e n hb hx=>?_,fun b o e n hb hx=>?_,I.base.free,fun b o e hx=>?_,I.base.tups,I.base.frzs,I.base.tbls⟩,⟨m,hn.sameBut hs (cM (cne x c hc)),fun j y v' e1 e2 e3=>?_⟩,fun y c' e=>?_,I.free,I.freeC,fun p hp=>?_,tracked ⟨oc,hoc,I.freeC x c hc⟩ hs,by simpa using I.len⟩ ⟨c,hs,.inr hc⟩
  .exact(hs.2 b (qC (qF (qu e) (I.ok.cab x c hfn hc)))).trans (I.base.keep b o e n hb hx)
  .obtain⟨sl,e1⟩:=I.base.slot b o e n hb hx;exact⟨sl,(hs.2 b (qC (qF (qu e) (I.ok.cab x c hfn hc)))).trans e1⟩
  .obtain⟨o',e1⟩:=I.base.there b o e hx;exact⟨o',(hs.2 b (qC (qF (qu e) (I.ok.cab x c hfn hc)))).trans e1⟩
  .by_cases hj:j=i
   .subst hj;rw[hi] at e1;cases e1;rw[oj hiσ] at e2;cases e2;exact⟨u,r,.inr ⟨.inl hk,c,hc,hc'⟩⟩
   .rw[qy (cM hj)] at e2;obtain⟨u',r',q⟩:=hl j y v' e1 e2 e3;refine⟨u',r',?_⟩;rcases q with q|⟨k,c',e,z'⟩
    .exact .inl q
    .refine .inr ⟨k,c',e,z'.sameBut hs ?_⟩;rintro rfl;exact hj (Aq hN e1 (I.ok.inj _ _ _ e hc▸hi))
  .by_cases hcc:c'=c
   .subst hcc;exact⟨_,hc'⟩
   .obtain⟨w2,z2⟩:=I.cell y c' e;exact⟨w2,z2.sameBut hs hcc⟩
  .obtain⟨e,n,ne,nf,d⟩:=I.pin p hp;refine⟨(hs.2 p.1 ?_).trans e,n,ne,nf,d⟩;intro q;rw[q,hoc] at e;have q':oc=p.2:=qH e;exact d w' (by rw[←q'];exact hocd)
theorem sV {M:uL} {Q:mz->aI->Prop} (I:Inv X pins σ H s) (hN:X.N.Nodup) (hi:X.N[i]?=aa x) (hx:Loc X.env.scope x) (r:bu v u)
  (h:∀s',Inv X pins (σ.set i (aa v)) H s'->Q () s') (hf:X.fn x=aj\/X.env.scope.names.lookup x=aa .local:=by ac_nf):aD M A (storeName X.env x u) Q E s:=
 Cs I hN hi hx r (fun s' I' _=>h s' I') hf
theorem Inv.call' {ch:ac au} (I:Inv X pins σ H s) (ho:s'.os=s.os) (u:Un (frs X.stack) ch H H' s.heap s'.heap) (hok:HOk X.prog X.w H' s'.heap) (hg:kY s'.gens)
  (hch:∀b∈ch,(b∈X.ex\/X.s₀.heap.objs.size<=b)/\b≠X.env.locals/\(∀x c,X.env.cells.lookup x=aa c->c≠b)/\∀p∈X.pn++pins,p.1≠b):Inv X pins σ H' s':=by
 obtain⟨h',g',d',t',o'⟩:=s';have e:o'=s.os:=ho;subst e;exact I.call (g':=g') (t':=t') (d':=d') u hok hg hch
end
abbrev XK:=av->aq au->Hp->Prop
noncomputable abbrev St:=ac (aq V)
abbrev VK:=V->Hp->Prop
abbrev TE:=St->Hp->VK->Prop
abbrev TT:=St->Hp->(aP->Hp->Prop)->Prop
abbrev TA:=St->Hp->(ac V->Hp->Prop)->Prop
structure Ends where
 nx:St->Hp->Prop
 rt:VK
 bk:St->Hp->Prop:=fun _ _=>False
 ct:St->Hp->Prop:=fun _ _=>False
abbrev TS:=Ends->St->Hp->Prop
noncomputable def EP (X:Cx) (pins:ac (au×Obj)) (σ:St) (Q:VK) (u:av) (s':aI):Prop:=∃v H',Inv X pins σ H' s'/\bu v u/\Q v H'
noncomputable def TP (X:Cx) (pins:ac (au×Obj)) (σ:St) (Q:aP->Hp->Prop) (b:aP) (s':aI):Prop:=∃H',Inv X pins σ H' s'/\Q b H'
noncomputable def AP (X:Cx) (pins:ac (au×Obj)) (σ:St) (Q:ac V->Hp->Prop) (us:ac av) (s':aI):Prop:=∃vs H',Inv X pins σ H' s'/\bi vs us/\Q vs H'
noncomputable def SP (X:Cx) (pins:ac (au×Obj)) (D:Ends) (f:Flow) (s':aI):Prop:=
 match f with
 |.next=>∃σ' H',Inv X pins σ' H' s'/\D.nx σ' H'
 |.brk=>∃σ' H',Inv X pins σ' H' s'/\D.bk σ' H'
 |.cont=>∃σ' H',Inv X pins σ' H' s'/\D.ct σ' H'
 |.ret u=>∃v σ' H',Inv X pins σ' H' s'/\bu v u/\D.rt v H'
noncomputable def PE (X:Cx) (e:Expr) (t:TE):Prop:=
 ∀(pins:ac (au×Obj)) (s:aI) (σ:St) (H:Hp) (Q:VK),Inv X pins σ H s->t σ H Q->aD .(q) X.A (eval e X.env) (EP X pins σ Q) X.xe s
noncomputable def PT (X:Cx) (e:Expr) (t:TT):Prop:=
 ∀(pins:ac (au×Obj)) (s:aI) (σ:St) (H:Hp) (Q:aP->Hp->Prop),Inv X pins σ H s->t σ H Q->aD .(q) X.A (isTrue e X.env (eval e X.env)) (TP X pins σ Q) X.xe s
noncomputable def PW (X:Cx) (e:Expr) (t:TT):Prop:=
 ∀(whole:Sem av) (pins:ac (au×Obj)) (s:aI) (σ:St) (H:Hp) (Q:aP->Hp->Prop),Inv X pins σ H s->t σ H Q->aD .(q) X.A (isTrue e X.env whole) (TP X pins σ Q) X.xe s
variable {e:Expr}
theorem PW.pt {t:TT} (h:PW X e t):PT X e t:=h _
noncomputable def PA (X:Cx) (es:ac Expr) (t:TA):Prop:=
 ∀(pos:dq) (pins:ac (au×Obj)) (s:aI) (σ:St) (H:Hp) (Q:ac V->Hp->Prop),Inv X pins σ H s->t σ H Q->aD .(q) X.A (spliced .(ae)) (AP X pins σ Q) X.xe s
noncomputable def PS (X:Cx) (st:Stmt) (t:TS):Prop:=
 ∀(pins:ac (au×Obj)) (s:aI) (σ:St) (H:Hp) (D:Ends),Inv X pins σ H s->t D σ H->aD .(q) X.A (exec st X.env) (SP X pins D) X.xe s
noncomputable def PSs (X:Cx) (st:ac Stmt) (t:TS):Prop:=
 ∀(pins:ac (au×Obj)) (s:aI) (σ:St) (H:Hp) (D:Ends),Inv X pins σ H s->t D σ H->aD .(q) X.A (execs st X.env) (SP X pins D) X.xe s
variable {α:Type}
theorem thn {t:Sem α} {Q Q':α->aI->Prop} {M:uL} (h:aD M A t Q E s) (hQ:∀a s,Q a s->Q' a s):aD M A t Q' E s:=hV h hQ fun _ _ x=>x
variable {pos:dq} {σ:St} {Q:av->aI->Prop} {b:Expr} {ta tb:TE}
section
noncomputable def Au (i:ao):TE:=fun σ H Q=>∃v,σ[i]?=aa (aa v)/\Q v H
noncomputable def tC (v:V):TE:=fun _ H Q=>Q v H
theorem eM (hN:X.N[i]?=aa x) (hv:Vis X.env.scope x) (hd:.(s)=ar:=by decide) (hcd:.(M)=ar:=by decide):PE X (.Name x pos) (Au i):=by
 intro pins s σ H Q I h;obtain⟨v,e,h⟩:=h;obtain⟨m,hn,hl⟩:=I.loc;obtain⟨u,r,l⟩:=hl i x v hN e hv;have fin:EP X pins σ Q u s:=⟨v,H,I,r,h⟩;rcases l with⟨hk,hm⟩|⟨hk,c,hc,hcell⟩
 .exact EK (wpAny_loadName_local I.ok.kind hk hn hm fin) hd
 .rcases hk with hk|hk
  .exact EK (wpAny_loadName_cell I.ok.kind hk hc hcell fin) hd
  .exact EK (wpAny_loadName_free I.ok.kind hk hc hcell fin hcd) hd
theorem Ac {i j pos}:PE X (.Constant (.int i) j pos) (tC (.int i)):=fun _ _ _ H _ I h=>wpAny_Constant_int ⟨.int i,H,I.tok _,⟨_,rfl⟩,h⟩
theorem GE {b j pos}:PE X (.Constant (.bool b) j pos) (tC (.bl b)):=fun _ _ _ H _ I h=>Constant_bool ⟨.bl b,H,I,rfl,h⟩
theorem Qp {j pos}:PE X (.Constant .none j pos) (tC .non):=fun _ _ _ H _ I h=>EL ⟨.non,H,I,rfl,h⟩
theorem Mz {x j pos}:PE X (.Constant (.str x) j pos) (tC (.str x)):=fun _ _ _ H _ I h=>Calls.Constant_str ⟨.str x,H,I.tok _,⟨_,rfl⟩,h⟩
noncomputable def Gl (X:Cx) (x:ai):Prop:=X.env.kindOf x=aa .globalImplicit
theorem v8 (I:Inv X pins σ H s) (hg:Gl X x) (hm:X.mg x=aa u) (h:Q u s)
  (hd:.(s)=ar:=by decide):aD .(q) X.A (eval (.Name x pos) X.env) Q E s:=
 Sc I.ok.kind hg (Calls.loadGlobal_global (by rw[I.ok.glob];exact I.mod.glob.keeps I.bk) hm h) hd
theorem jF (I:Inv X pins σ H s) (hg:Gl X x) (hm:X.mg x=af) (hv:dR x=aa u) (h:Q u s)
  (hn:x≠"__name__":=by decide) (hd:.(s)=ar:=by decide):aD .(q) X.A (eval (.Name x pos) X.env) Q E s:=by
 obtain⟨mb,h1,h2⟩:=I.mod.blt;exact Sc I.ok.kind hg (Calls.loadGlobal_builtin (by rw[I.ok.glob];exact I.mod.glob.keeps I.bk) hm (by rw[I.ok.blt];exact h1.keeps I.bk) ((h2 x hn).trans hv) h) hd
theorem R3 (hg:Gl X x) (hm:X.mg x=aa u) (r:bu v u) (hd:.(s)=ar:=by decide):PE X (.Name x pos) (tC v):=
 fun _ _ _ H _ I h=>v8 I hg hm ⟨v,H,I,r,h⟩ hd
theorem Ph (hg:Gl X x) (hm:X.mg x=af) (hv:dR x=aa u) (r:bu v u) (hn:x≠"__name__":=by decide) (hd:.(s)=ar:=by decide):PE X (.Name x pos) (tC v):=
 fun _ _ _ H _ I h=>jF I hg hm hv ⟨v,H,I,r,h⟩ hn hd
variable {a:Expr}
noncomputable def tB (t:TE):TT:=fun σ H Q=>t σ H fun x H1=>∃c,x=.bl c/\Q c H1
theorem OH {t:TE} (h:PE X e t) (he:∀whole,isTrue e X.env whole=(do let v ←whole;om e.pos;hW [v] (truthy v)):=by intro _;rfl):PT X e (tB t):=by intro pins s σ H Q I hw;refine isTrue_plain (thn (h pins s σ H _ I hw) fun v s1 ⟨x,H1,I1,r1,q1⟩=>?_) (he _);obtain⟨d,rfl,q⟩:=q1;cases r1;exact jb ⟨H1,I1,q⟩
variable {tA tB':TT} {bP:ac Expr}
noncomputable def Hy (t u:TT):TT:=fun σ H Q=>t σ H fun c H1=>if c=aj then u σ H1 Q else Q ar H1
noncomputable def tOr (t u:TT):TT:=fun σ H Q=>t σ H fun c H1=>if c=aj then Q aj H1 else u σ H1 Q
noncomputable def J1 (t:TT):TT:=fun σ H Q=>t σ H fun c H1=>Q (!c) H1
theorem Md (ha:PT X a tA):PW X (.BoolOp .And [a] pos) tA:=by
 intro wh pins s σ H Q I h;refine isTrue_and (thn (ha pins s σ H Q I h) fun c s1 e=>?_);cases c with
 |true=>exact isTrue_and_nil e
 |false=>exact e
theorem M2 (ha:PT X a tA):PW X (.BoolOp .Or [a] pos) tA:=by
 intro wh pins s σ H Q I h;refine isTrue_or (thn (ha pins s σ H Q I h) fun c s1 e=>?_);cases c with
 |false=>exact isTrue_or_nil e
 |true=>exact e
theorem NP (ha:PT X a tA) (hb:PW X (.BoolOp .And (b::bP) pos) tB'):PW X (.BoolOp .And (a::b::bP) pos) (Hy tA tB'):=by
 intro wh pins s σ H Q I h;refine isTrue_and (thn .(aW) fun c s1 ⟨H1,I1,q1⟩=>?_);cases c with
 |true=>exact hb wh pins s1 σ H1 Q I1 q1
 |false=>exact⟨H1,I1,q1⟩
theorem MJ (ha:PT X a tA) (hb:PW X (.BoolOp .Or (b::bP) pos) tB'):PW X (.BoolOp .Or (a::b::bP) pos) (tOr tA tB'):=by
 intro wh pins s σ H Q I h;refine isTrue_or (thn .(aW) fun c s1 ⟨H1,I1,q1⟩=>?_);cases c with
 |true=>exact⟨H1,I1,q1⟩
 |false=>exact hb wh pins s1 σ H1 Q I1 q1
theorem Mo (ha:PT X a tA):PT X (.UnaryOp .Not a pos) (J1 tA):=by intro pins s σ H Q I h;exact isTrue_not (ha pins s σ H (fun c H1=>Q (!c) H1) I h)
noncomputable def OK (ta tb:TE):TE:=fun σ H Q=>ta σ H fun x H1=>∃c,x=.bl c/\if c=aj then tb σ H1 Q else Q (.bl ar) H1
noncomputable def OD (ta tb:TE):TE:=fun σ H Q=>ta σ H fun x H1=>∃c,x=.bl c/\if c=aj then Q (.bl aj) H1 else tb σ H1 Q
noncomputable def Lb (ta:TE):TE:=fun σ H Q=>ta σ H fun x H1=>∃c,x=.bl c/\Q (.bl (!c)) H1
theorem Lo {op} {t:TE} (h:PE X a t):PE X (.BoolOp op [a] pos) t:=fun pins s σ H Q I hw=>BoolOp_one (h pins s σ H Q I hw)
theorem Ie (ha:PE X a ta) (hb:PE X (.BoolOp .And (b::bP) pos) tb):PE X (.BoolOp .And (a::b::bP) pos) (OK ta tb):=by
 intro pins s σ H Q I h;refine BoolOp_and (thn .(aW) fun v s1 ⟨x,H1,I1,r1,q1⟩=>?_);obtain⟨c,rfl,q1⟩:=q1;cases r1;refine jb ?_;cases c with
 |true=>exact hb pins s1 σ H1 Q I1 q1
 |false=>exact⟨.bl ar,H1,I1,rfl,q1⟩
theorem LA (ha:PE X a ta) (hb:PE X (.BoolOp .Or (b::bP) pos) tb):PE X (.BoolOp .Or (a::b::bP) pos) (OD ta tb):=by
 intro pins s σ H Q I h;refine BoolOp_or (thn .(aW) fun v s1 ⟨x,H1,I1,r1,q1⟩=>?_);obtain⟨c,rfl,q1⟩:=q1;cases r1;refine jb ?_;cases c with
 |false=>exact hb pins s1 σ H1 Q I1 q1
 |true=>exact⟨.bl aj,H1,I1,rfl,q1⟩
theorem Oh (ha:PE X a ta):PE X (.UnaryOp .Not a pos) (Lb ta):=by intro pins s σ H Q I h;refine UnaryOp_ (thn .(aW) fun v s1 ⟨x,H1,I1,r1,q1⟩=>?_);obtain⟨c,rfl,q1⟩:=q1;cases r1;exact not_of (jb ⟨.bl (!c),H1,I1,rfl,q1⟩)
noncomputable def tIf (t:TT) (ta tb:TE):TE:=fun σ H Q=>t σ H fun c H1=>if c=aj then ta σ H1 Q else tb σ H1 Q
theorem LJ {c:Expr} (hc:PT X c tA) (ha:PE X a ta) (hb:PE X b tb):PE X (.IfExp c a b pos) (tIf tA ta tb):=by
 intro pins s σ H Q I h;refine wpAny_IfExp (thn (hc pins s σ H _ I h) fun d s1 ⟨H1,I1,q1⟩=>?_);cases d with
 |true=>exact ha pins s1 σ H1 Q I1 q1
 |false=>exact hb pins s1 σ H1 Q I1 q1
end
noncomputable def SqL (K:aW) (H:Hp) (a:au) (xs:ac V):Prop:=
 Rd H a (.lst xs) \/
  ∃(o:Obj) (its:bO av) (n:ao),K.lookup a=aa o/\o.cls=.type "list"/\o.dict=af/\o.data=.seq its n/\its.size<=aH/\bi xs its.toList
noncomputable def SqT (K:aW) (H:Hp) (a:au) (xs:ac V):Prop:=
 Rd H a (.tup xs) \/
  ∃(o:Obj) (its:bO av) (n:ao),K.lookup a=aa o/\o.cls=.type "tuple"/\o.data=.seq its n/\its.size<=aH/\bi xs its.toList
noncomputable def Jd:av->aq V
 |.none=>aa .non
 |.bool b=>aa (.bl b)
 |.int i _=>aa (.int i)
 |.str x _=>aa (.str x)
 |.ref a=>aa (.ref a)
 |.type n=>aa (.ty n)
 |_=>af
theorem bu.abs {x:V} (r:bu x u):Jd u=aa x:=by
 cases x with
 |non=>cases r;rfl
 |bl _=>cases r;rfl
 |int _=>obtain⟨t,rfl⟩:=r;rfl
 |str _=>obtain⟨t,rfl⟩:=r;rfl
 |ref _=>cases r;rfl
 |ty _=>cases r;rfl
variable {y:V}
theorem bu.inj {x:V} (r:bu x u) (q:bu y u):x=y:=qH (r.abs.symm.trans q.abs)
theorem bi.inj:∀{xs ys:ac V} {us:ac av},bi xs us->bi ys us->xs=ys
 |_,_,_,.nil,.nil=>rfl
 |_,_,_,.cons r t,.cons r' t'=>by rw[r.inj r',bi.inj t t']
variable {ys:ac V}
section
variable {xs:ac V}
theorem Inv.list (I:Inv X pins σ H s) (h:SqL X.K H a xs):∃its:ac av,bi xs its/\PlainL s.heap a its.toArray/\xs.length<=aH:=by
 rcases h with h|⟨o,its,n,hk,hc,hd,hs,hz,r⟩
 .obtain⟨z,its,n,r,e⟩:=h.ok I.hok;exact⟨its,r,⟨_,n,e,rfl,rfl,rfl⟩,z⟩
 .refine⟨its.toList,r,⟨o,n,I.kIn a o hk,hc,hd,by simpa using hs⟩,?_⟩;have e:=r.length;simp only[jS] at e;omega
theorem Inv.tuple (I:Inv X pins σ H s) (h:SqT X.K H a xs):∃its:ac av,bi xs its/\uK s.heap a its.toArray/\xs.length<=aH:=by
 rcases h with h|⟨o,its,n,hk,hc,hs,hz,r⟩
 .obtain⟨z,its,r,p⟩:=h.ok I.hok;exact⟨its,r,p,z⟩
 .refine⟨its.toList,r,⟨o,I.kIn a o hk,hc,n,by simpa using hs⟩,?_⟩;have e:=r.length;simp only[jS] at e;omega
theorem Inv.list_inj (I:Inv X pins σ H s) (h:SqL X.K H a xs) (h':SqL X.K H a ys):xs=ys:=by
 obtain⟨its,r,⟨o,n,e,_,_,d⟩,_⟩:=I.list h;obtain⟨its',r',⟨o',n',e',_,_,d'⟩,_⟩:=I.list h';rw[e] at e';cases e';rw[d] at d';injection d' with d1 _;have:its=its':=by simpa using bU Sd d1
 subst this;exact r.inj r'
theorem Inv.tuple_inj (I:Inv X pins σ H s) (h:SqT X.K H a xs) (h':SqT X.K H a ys):xs=ys:=by
 obtain⟨its,r,⟨o,e,_,n,d⟩,_⟩:=I.tuple h;obtain⟨its',r',⟨o',e',_,n',d'⟩,_⟩:=I.tuple h';rw[e] at e';cases e';rw[d] at d';injection d' with d1 _;have:its=its':=by simpa using bU Sd d1
 subst this;exact r.inj r'
end
noncomputable abbrev Cx.wish (X:Cx) (E:av->aI->Prop):Cx:={X with xe:=E}
noncomputable abbrev Cx.nox (X:Cx):Cx:=X.wish fun _ _=>False
theorem Cx.Ok.wish (ok:X.Ok) (E:av->aI->Prop):(X.wish E).Ok:=
 ⟨ok.mod,ok.kind,ok.glob,ok.blt,ok.above,ok.inj,ok.has,ok.cab,ok.hd,ok.frames,ok.stk,ok.exf,ok.bs,ok.bsz,ok.noex,ok.exfs,ok.funs,ok.frf⟩
theorem Cx.Ok.unwish (ok:(X.wish E).Ok):X.Ok:=
 ⟨ok.mod,ok.kind,ok.glob,ok.blt,ok.above,ok.inj,ok.has,ok.cab,ok.hd,ok.frames,ok.stk,ok.exf,ok.bs,ok.bsz,ok.noex,ok.exfs,ok.funs,ok.frf⟩
theorem Inv.wish (I:Inv X pins σ H s) (E:av->aI->Prop):Inv (X.wish E) pins σ H s:=⟨I.ok.wish E,I.os,I.bare,I.base,I.loc,I.cell,I.free,I.freeC,I.pin,I.hok,I.len⟩
theorem Inv.unwish (I:Inv (X.wish E) pins σ H s):Inv X pins σ H s:=⟨I.ok.unwish,I.os,I.bare,I.base,I.loc,I.cell,I.free,I.freeC,I.pin,I.hok,I.len⟩
theorem SP.unwish {D:Ends} {f:Flow} {s':aI} (h:SP (X.wish E) pins D f s'):SP X pins D f s':=by
 cases f with
 |next=>obtain⟨σ',H',I,q⟩:=h;exact⟨σ',H',I.unwish,q⟩
 |brk=>obtain⟨σ',H',I,q⟩:=h;exact⟨σ',H',I.unwish,q⟩
 |cont=>obtain⟨σ',H',I,q⟩:=h;exact⟨σ',H',I.unwish,q⟩
 |ret u=>obtain⟨v,σ',H',I,r,q⟩:=h;exact⟨v,σ',H',I.unwish,r,q⟩
theorem PSs.nox {st:ac Stmt} {t:TS} (h:PSs X.nox st t):PSs X st t:=fun pins s σ H D I hw=>
 hV (h pins s σ H D (I.wish _) hw) (fun _ _ q=>q.unwish) fun _ _ z=>hZ z
variable {st:Stmt} {te:TE} {tc:TT}
section
variable {bP:ac Stmt} {t u:TS}
noncomputable def Re:TS:=fun D σ H=>D.nx σ H
noncomputable def KR (t u:TS):TS:=fun D σ H=>t {D with nx:=u D} σ H
theorem L4:PSs X [] Re:=fun _ _ σ H _ I h=>EM ⟨σ,H,I,h⟩
theorem J2 (h1:PS X st t) (h2:PSs X bP u):PSs X (st::bP) (KR t u):=by
 intro pins s σ H D I h;refine Se (thn (h1 pins s σ H {D with nx:=u D} I h) fun f s1 q=>?_);cases f with
 |next=>
  obtain⟨σ',H',I',q⟩:=q;exact h2 pins s1 σ' H' D I' q
 |ret v=>exact q
 |brk=>exact q
 |cont=>exact q
theorem N2 (h1:PS X st t):PSs X [st] t:=by
 intro pins s σ H D I h;refine Se (thn (h1 pins s σ H D I h) fun f s1 q=>?_);cases f with
 |next=>exact EM q
 |ret v=>exact q
 |brk=>exact q
 |cont=>exact q
theorem Inv.quiet (I:Inv X pins σ H s):interactive X.env=ar:=by simp[interactive,I.ok.kind]
noncomputable def Lw (te:TE):TS:=fun D σ H=>te σ H fun _ H1=>D.nx σ H1
theorem yg (he:PE X e te) (hs:dH e af pos.line X.env=aZ ar:=by rfl):PS X (.Expr e pos) (Lw te):=by intro pins s σ H D I h;exact wpAny_Expr_any (thn .(aV) fun v s1 ⟨x,H1,I1,r1,q1⟩=>⟨σ,H1,I1,q1⟩) I.quiet hs
noncomputable def RG (te:TE):TS:=fun D σ H=>te σ H D.rt
theorem M9 (he:PE X e te):PS X (.Return (aa e) pos) (RG te):=by intro pins s σ H D I h;exact wpAny_Return_some (thn .(aV) fun v s1 ⟨x,H1,I1,r1,q1⟩=>⟨x,σ,H1,I1,r1,q1⟩)
noncomputable def JD (c:TT) (t u:TS):TS:=fun D σ H=>c σ H fun b H1=>if b=aj then t D σ H1 else u D σ H1
theorem HP {c:Expr} {a b:ac Stmt} (hc:PT X c tc) (ha:PSs X a t) (hb:PSs X b u):PS X (.If c a b pos) (JD tc t u):=by
 intro pins s σ H D I h;refine wpAny_If (thn (hc pins s σ H _ I h) fun d s1 ⟨H1,I1,q1⟩=>?_);cases d with
 |true=>exact ha pins s1 σ H1 D I1 q1
 |false=>exact hb pins s1 σ H1 D I1 q1
end
abbrev TG:=V->St->Hp->(St->Hp->Prop)->Prop
abbrev TGs:=ac V->St->Hp->(St->Hp->Prop)->Prop
noncomputable def PG (X:Cx) (target:Expr) (t:TG):Prop:=
 ∀(pins:ac (au×Obj)) (s:aI) (σ:St) (H:Hp) (v:V) (u:av) (Q:St->Hp->Prop),Inv X pins σ H s->bu v u->t v σ H Q->
  aD .(q) X.A (jT target X.env u) (fun _ s'=>∃σ' H',Inv X pins σ' H' s'/\Q σ' H') X.xe s
noncomputable def PGs (X:Cx) (ts:ac Expr) (t:TGs):Prop:=
 ∀(pins:ac (au×Obj)) (s:aI) (σ:St) (H:Hp) (vs:ac V) (us:ac av) (Q:St->Hp->Prop),Inv X pins σ H s->bi vs us->t vs σ H Q->
  aD .(q) X.A (EN ((jc ts X.env).map (·.2)) us) (fun _ s'=>∃σ' H',Inv X pins σ' H' s'/\Q σ' H') X.xe s
variable {es:ac Expr} {n:ao} {tg:Expr} {pos' px py:dq}
noncomputable def o8 (i:ao):TG:=fun v σ H Q=>Q (σ.set i (aa v)) H
theorem Mx (hN:X.N.Nodup) (hi:X.N[i]?=aa x) (hx:Loc X.env.scope x) (hf:X.fn x=aj\/X.env.scope.names.lookup x=aa .local:=by ac_nf):PG X (.Name x pos) (o8 i):=by intro pins s σ H v u Q I r h;exact Sf (sV I hN hi hx r (fun s' I'=>⟨_,H,I',h⟩) hf)
noncomputable def QQ:TGs:=fun vs σ H Q=>vs=[]/\Q σ H
noncomputable def RA (t:TG) (u:TGs):TGs:=fun vs σ H Q=>∃v r,vs=v::r/\t v σ H fun σ' H'=>u r σ' H' Q
theorem QI:PGs X [] QQ:=by intro pins s σ H vs us Q I r h;obtain⟨e,h⟩:=h;subst e;cases r;exact Sg ⟨σ,H,I,h⟩
theorem Nn {t:TG} {u:TGs} (h1:PG X e t) (h2:PGs X es u)
  (hs:(jc (e::es) X.env).map (·.2)=jT e X.env::(jc es X.env).map (·.2):=by rfl):PGs X (e::es) (RA t u):=by
 intro pins s σ H vs us Q I r h;obtain⟨v,vr,e1,h⟩:=h;subst e1;cases r with
 |cons r rr=>
  rw[hs];refine EO (thn (h1 pins s σ H _ _ _ I r h) fun _ s1 ⟨σ1,H1,I1,q1⟩=>?_);exact h2 pins s1 σ1 H1 _ _ Q I1 rr q1
def OE (K:aW) (n:ao) (t:TGs):TG:=fun v σ H Q=>∃a xs,v=.ref a/\SqT K H a xs/\xs.length=n/\t xs σ H Q
theorem Mi {k:ao} {t:TGs} (hc:X.calm=aj) (h:PGs X es t)
  (hn:(jc es X.env).length=n:=by rfl) (hst:(jc es X.env).findIdx? (·.1)=af:=by rfl):PG X (.Tuple es k pos) (OE X.K n t):=by
 intro pins s σ H v u Q I r hw;obtain⟨a,xs,e1,hq,hl,hw⟩:=hw;subst e1;cases r;obtain⟨its,rv,ht,hz⟩:=I.tuple hq;refine assign_Tuple_tuple (I.ok.hd hc) ht (by simp[hn,←hl,rv.length]) hst fun h' hx=>?_;have I1:Inv X pins σ H {s with heap:=h'}:=I.kept (t':=s.toks) fun b o e=>hx b o (qC (qu e)) e;exact h pins _ σ H xs _ Q I1 (by simpa using rv) hw
noncomputable def oW (te:TE) (g:TG):TS:=fun D σ H=>te σ H fun x H1=>g x σ H1 D.nx
theorem F' {g:TG} (he:PE X e te) (hg:PG X tg g) (hs:yk [tg] e pos.line X.env=aZ ar:=by rfl) (hw:ym [tg] e X.env=aZ af:=by rfl)
  (h1:(jc [tg] X.env).map (·.2)=[jT tg X.env]:=by rfl):PS X (.Assign [tg] e pos) (oW te g):=by
 intro pins s σ H D I h;refine wpAny_Assign_stores (thn .(aV) fun v s1 ⟨x,H1,I1,r1,q1⟩=>?_) hs hw;rw[h1];exact thn (hg pins s1 σ H1 x v _ I1 r1 q1) fun _ s2 q=>q
theorem pL (hN:X.N.Nodup) (hi:X.N[i]?=aa x) (hx:Loc X.env.scope x) (he:PE X e te) (hs:dH e (aa (.Name x pos')) pos.line X.env=aZ ar:=by rfl) (hf:X.fn x=aj\/X.env.scope.names.lookup x=aa .local:=by ac_nf) :
  PS X (.Assign [.Name x pos'] e pos) (oW te (o8 i)):=by
 intro pins s σ H D I h;refine wpAny_Assign_Name (thn .(aV) fun v s1 ⟨y,H1,I1,r1,q1⟩=>?_) hs;exact sV I1 hN hi hx r1 (fun s2 I2=>⟨_,H1,I2,q1⟩) hf
noncomputable def QA (i j:ao) (ta:TA):TS:=fun D σ H=>ta σ H fun vs H1=>∃v w,vs=[v,w]/\D.nx ((σ.set i (aa v)).set j (aa w)) H1
theorem GK {y:ai} {a:Expr} {ta:TA} {pt:dq} {kt k2 pt2} (hc:X.calm=aj) (hN:X.N.Nodup) (hi:X.N[i]?=aa x) (hj:X.N[j]?=aa y) (hij:i≠j)
  (hx:X.env.scope.names.lookup x=aa .local) (hy:X.env.scope.names.lookup y=aa .local) (ha:PA X [a,b] ta)
  (hw:ym [.Tuple [.Name x px,.Name y py] kt pt] (.Tuple [a,b] k2 pt2) X.env=aZ (aa [x,y]))
  (hs:yk [.Tuple [.Name x px,.Name y py] kt pt] (.Tuple [a,b] k2 pt2) pos.line X.env=aZ ar:=by rfl) :
  PS X (.Assign [.Tuple [.Name x px,.Name y py] kt pt] (.Tuple [a,b] k2 pt2) pos) (QA i j ta):=by
 intro pins s σ H D I h;rw[exec_Assign_arm];refine qw (EQ ?_);rw[hs];refine qw (qA ?_);rw[qY .(f)];refine qw (Tuple_ (thn (ha _ pins s σ H _ I h) fun us s1 ⟨vs,H1,I1,r1,q1⟩=>?_));obtain⟨v,w,e1,q1⟩:=q1;subst e1;obtain⟨u1,u2,rfl,rv,rw'⟩:∃u1 u2,us=[u1,u2]/\bu v u1/\bu w u2:=by
  cases r1 with
  |cons p q=>
   cases q with
   |cons p' q'=>
    cases q';exact⟨_,_,rfl,p,p'⟩
 refine jd ?_ (by show 2<=aH;decide);have I2:Inv X pins σ H1 {s1 with heap:=s1.heap.push {cls:=.type "tuple",data:=.seq [u1,u2].toArray} }:=I1.kept (t':=s1.toks) fun b o e=>qt _ e;rw[hw];refine qw (qA ?_);show aD .(q) X.A (do rule "assign.swapped-stores";let items ←unpackItems (.ref s1.heap.objs.size) 2 af;EN [fun v=>yn X.env y v,fun v=>yn X.env x v] items.reverse;aZ Sh) _ _ _;refine qw (yo (qw (unpackItems_tuple (items:=#[u1,u2]) (I.ok.hd hc) (yp s1.heap _) fun h' hx'=>?_)));have I3:=I2.kept (h':=h') (t':=s1.toks) fun b o e=>hx' b o (qC (qu e)) e;show aD _ _ (EN [fun v=>yn X.env y v,fun v=>yn X.env x v] [u2,u1] >>= fun _=>aZ Sh) _ _ _;refine qw (EO (Si (sV I3 hN hj (.inl hy) rw' (fun s2 I4=>?_) (.inr hy))));refine EO (Si (sV I4 hN hi (.inl hx) rv (fun s3 I5=>Sg (qA ?_)) (.inr hx)));rw[List.set_comm _ _ (cM hij)] at I5;exact⟨_,H1,I5,q1⟩
structure It where
 go:ao->Hp->Prop
 yld:ao->Hp->V->Hp->Prop
 stop:ao->Hp->Prop
noncomputable def gH (X:Cx) (pins:ac (au×Obj)) (H:Hp) (b:au):Prop:=
 H b=af/\b≠X.env.locals/\b∉X.fs/\(b∈X.ex\/X.s₀.heap.objs.size<=b)/\(∀x c,X.env.cells.lookup x=aa c->c≠b)/\∀p∈X.pn++pins,p.1≠b
theorem Inv.fpOk {b:au} (I:Inv X pins σ H s) (hb:s.heap.objs.size<=b) (hn:H' b=af):gH X pins H' b:=by
 refine⟨hn,yq (qF I.lt hb),I.nofs hb,.inr (qN I.sz hb),fun x c e z=>?_,fun p hp z=>?_⟩
 .obtain⟨v,q⟩:=I.cell x c e;exact bA (qF q.lt (by rw[z];exact hb)) (hU _)
 .exact bA (qF (qu (I.pin p hp).1) (by rw[z];exact hb)) (hU _)
structure Turn (P:dF) (w:cL) (K:aW) (tg:Expr) (J:It) (fp:ac au) (it:au) (tn:ao->Heap->Prop):Prop where
 mem:it∈fp
 obj:∀i h,tn i h->∀b∈fp,∃o,h.get? b=aa o/\∀v,o.data≠.cell v
 keep:∀i h h',tn i h->(∀b∈fp,∀o,h.get? b=aa o->h'.get? b=aa o)->tn i h'
 item:∀(X:Cx),X.prog=P->X.w=w->X.K=K->X.calm=aj->∀(i:ao) (pins:ac (au×Obj)) (s:aI) (σ:St) (H:Hp) (E:av->aI->Prop),Inv X pins σ H s->(∀b∈fp,gH X pins H b)->tn i s.heap->J.go i H->
  aD (aQ P w) X.A (fO (.ref it)) (fun r s1=>∃u,r=aa u /\
   aD (aQ P w) X.A (uM tg (.ref it) u) (fun _ s2=>∃x H',Inv X pins σ H' s2/\bu x u/\J.yld i H x H'/\tn (i+1) s2.heap/\∀b∈fp,H' b=af) E s1) E s
 done:∀(X:Cx),X.prog=P->X.w=w->X.K=K->X.calm=aj->∀(i:ao) (pins:ac (au×Obj)) (s:aI) (σ:St) (H:Hp) (E:av->aI->Prop),Inv X pins σ H s->(∀b∈fp,gH X pins H b)->tn i s.heap->J.stop i H->
  aD (aQ P w) X.A (fO (.ref it)) (fun r s1=>r=af/\Inv X pins σ H s1) E s
 self:∀(A:cR) (i:ao) (s:aI) (Q:av->aI->Prop) (E:av->aI->Prop),tn i s.heap->Q (.ref it) s->aD (aQ P w) A (mB (.ref it)) Q E s
abbrev TI:=St->Hp->(It->Hp->Prop)->Prop
noncomputable def PIE (X:Cx) (pins:ac (au×Obj)) (σ:St) (tg:Expr) (R:It->Hp->Prop) (itv:av) (s2:aI):Prop:=
 ∃(it:au) (fp:ac au) (tn:ao->Heap->Prop) (J:It) (H':Hp),itv=.ref it/\Inv X pins σ H' s2/\Turn X.prog X.w X.K tg J fp it tn/\tn 0 s2.heap/\(∀b∈fp,gH X pins H' b)/\R J H'
noncomputable def PI (X:Cx) (tg iter:Expr) (wi:TI):Prop:=
 ∀(pins:ac (au×Obj)) (s:aI) (σ:St) (H:Hp) (R:It->Hp->Prop),Inv X pins σ H s->wi σ H R->
  aD .(q) X.A (eval iter X.env) (fun v s1=>aD .(q) X.A (mB v) (PIE X pins σ tg R) X.xe s1) X.xe s
theorem nS {M:uL} {it:au} {n:cK} {vs:bO av} {Q:mz->aI->Prop} (ho:s.heap.get? it=aa o) (hc:o.cls=.type n) (hd:o.data=.fields vs)
  (hn:["enumerate","zip","dict_itemiterator","dict_reverseitemiterator","odict_iterator","itertools.zip_longest","itertools.pairwise"].contains n=ar) (hQ:Q () s):aD M A (uM tg (.ref it) u) Q E s:=by
 unfold uM;cases tg<;>first
  |exact qA hQ
  |(cases u<;>first
    |exact qA hQ
    |(refine qw (wpAny_load ho ?_);rw[hc,hd];show aD M A (if (["enumerate","zip","dict_itemiterator","dict_reverseitemiterator","odict_iterator","itertools.zip_longest","itertools.pairwise"].contains n && vs[0]?==aa (rj _))=aj then _ else _) Q E s;rw[qY (by intro h;rw[hn,Bool.false_and] at h;cases h)];exact qA hQ))
def Itl (K:aW) (a:au):It:=
 ⟨fun i H=>∃xs x,SqL K H a xs/\xs[i]?=aa x,fun i H x H'=>H'=H/\∀xs,SqL K H a xs->xs[i]?=aa x,fun i H=>∃xs,SqL K H a xs/\xs.length<=i⟩
def Itt (K:aW) (a:au):It:=
 ⟨fun i H=>∃xs x,SqT K H a xs/\xs[i]?=aa x,fun i H x H'=>H'=H/\∀xs,SqT K H a xs->xs[i]?=aa x,fun i H=>∃xs,SqT K H a xs/\xs.length<=i⟩
noncomputable def Itr (lo:ah) (n:ao):It:=⟨fun i _=>i<n,fun i H x H'=>H'=H/\x=.int (lo+i),fun i _=>n<=i⟩
variable {K:aW}
theorem No (a it:au):Turn P w K tg (Itl K a) [it] it (fun i h=>h.IsListIter it a i) where
 mem:=by simp
 obj:=fun i h st b hb=>by
  have e:b=it:=by simpa using hb
  subst e;obtain⟨o,e,c,d⟩:=st;exact⟨o,e,fun v z=>by rw[d] at z;cases z⟩
 keep:=fun i h h' st k=>st.at fun o e=>k it (by simp) o e
 item:=by intro X hP hw hK hc i pins s σ H E I hf st hg;subst hP hw hK;obtain⟨xs,x,hq,hx⟩:=hg;obtain⟨its,rv,p,hz⟩:=I.list hq;obtain⟨u,hu,ru⟩:=rv.get hx;obtain⟨f0,f1,f2,f3,f4,f5⟩:=hf it (by simp);refine wpAny_pyNext_list_item st p.isList (x:=u) (by simpa using hu) fun h' st' sb=>?_;have I1:Inv X pins σ H {s with heap:=h'}:=I.turned (t':=s.toks) (fun b o hb e=>(sb.2 b hb).trans e) f0 f1 f3 f4 f5;obtain⟨o,e,c,d⟩:=id st';exact⟨u,rfl,nS (s:={s with heap:=h'}) e c d .(f) ⟨x,H,I1,ru,⟨rfl,fun ys hy=>by rw[I.list_inj hy hq];exact hx⟩,st',fun b hb=>(hf b hb).1⟩⟩
 done:=by intro X hP hw hK hc i pins s σ H E I hf st hg;subst hP hw hK;obtain⟨xs,hq,hx⟩:=hg;obtain⟨its,rv,p,hz⟩:=I.list hq;obtain⟨f0,f1,f2,f3,f4,f5⟩:=hf it (by simp);have hl:=rv.length;exact wpAny_pyNext_list_end (I.ok.hd hc) st p.isList (by simp;omega) fun h' eb=>⟨rfl,I.turned (t':=s.toks) (fun b o hb e=>eb b o hb e) f0 f1 f3 f4 f5⟩
 self:=fun _ _ _ _ _ st h=>wpAny_pyIter_listiter st h
theorem O5 (a it:au):Turn P w K tg (Itt K a) [it] it (fun i h=>h.IsTupleIter it a i) where
 mem:=by simp
 obj:=fun i h st b hb=>by
  have e:b=it:=by simpa using hb
  subst e;obtain⟨o,e,c,d⟩:=st;exact⟨o,e,fun v z=>by rw[d] at z;cases z⟩
 keep:=fun i h h' st k=>st.at fun o e=>k it (by simp) o e
 item:=by intro X hP hw hK hc i pins s σ H E I hf st hg;subst hP hw hK;obtain⟨xs,x,hq,hx⟩:=hg;obtain⟨its,rv,p,hz⟩:=I.tuple hq;obtain⟨u,hu,ru⟩:=rv.get hx;obtain⟨f0,f1,f2,f3,f4,f5⟩:=hf it (by simp);refine wpAny_pyNext_tuple_item st (show s.heap.IsTuple a its.toArray from p) (x:=u) (by simpa using hu) fun h' st' sb=>?_;have I1:Inv X pins σ H {s with heap:=h'}:=I.turned (t':=s.toks) (fun b o hb e=>(sb.2 b hb).trans e) f0 f1 f3 f4 f5;obtain⟨o,e,c,d⟩:=id st';exact⟨u,rfl,nS (s:={s with heap:=h'}) e c d .(f) ⟨x,H,I1,ru,⟨rfl,fun ys hy=>by rw[I.tuple_inj hy hq];exact hx⟩,st',fun b hb=>(hf b hb).1⟩⟩
 done:=by intro X hP hw hK hc i pins s σ H E I hf st hg;subst hP hw hK;obtain⟨xs,hq,hx⟩:=hg;obtain⟨its,rv,p,hz⟩:=I.tuple hq;obtain⟨f0,f1,f2,f3,f4,f5⟩:=hf it (by simp);have hl:=rv.length;exact wpAny_pyNext_tuple_end (I.ok.hd hc) st (show s.heap.IsTuple a its.toArray from p) (by simp;omega) fun h' eb=>⟨rfl,I.turned (t':=s.toks) (fun b o hb e=>eb b o hb e) f0 f1 f3 f4 f5⟩
 self:=fun _ _ _ _ _ st h=>wpAny_pyIter_tupleiter st h
theorem Pe (it:au) (lo:ah) (n:ao):Turn P w K tg (Itr lo n) [it] it (fun i h=>IsRangeIter h it (lo+(i:ao)*1) ((n:ah)-(i:ao)) 1) where
 mem:=by simp
 obj:=fun i h st b hb=>by
  have e:b=it:=by simpa using hb
  subst e;exact⟨_,st,fun v z=>by have z':Data.fields _=Data.cell v:=z;cases z'⟩
 keep:=fun i h h' st k=>k it (by simp) _ st
 item:=by intro X hP hw hK hc i pins s σ H E I hf st hg;subst hP hw hK;obtain⟨f0,f1,f2,f3,f4,f5⟩:=hf it (by simp);have W:=Walks.range (prog:=X.prog) (w:=X.w) (I.ok.hd hc) it lo 1 n;refine W.item i s _ _ hg st fun v h' tk hv st' kk=>?_;obtain⟨t,rfl⟩:=hv;have I1:Inv X pins σ H {s with heap:=h',toks:=tk}:=I.turned .(bl) f0 f1 f3 f4 f5;refine⟨_,rfl,nS (s:={s with heap:=h',toks:=tk}) (n:="range_iterator") st' rfl rfl .(f) ⟨.int (lo+i),H,I1,⟨t,?_⟩,⟨rfl,rfl⟩,st',fun b hb=>(hf b hb).1⟩⟩;rw[Int.mul_one]
 done:=by intro X hP hw hK hc i pins s σ H E I hf st hg;subst hP hw hK;obtain⟨f0,f1,f2,f3,f4,f5⟩:=hf it (by simp);exact wpAny_pyNext_range_end (I.ok.hd hc) st (by have:n<=i:=hg;omega) fun h' eb=>⟨rfl,I.turned (t':=s.toks) (fun b o hb e=>eb b o hb e) f0 f1 f3 f4 f5⟩
 self:=fun _ _ _ _ _ st h=>wpAny_pyIter_rangeiter st h
variable {lo:ah} {p:dq} {fp:ac au} {iter:Expr} {body:ac Stmt} {wi:TI}
theorem Bc {R:It->Hp->Prop} {hi:ah} {t u v:Tok} {tk:ao} (I:Inv X pins σ H s) (h1 : -(2 ^ 62)<=lo) (h2:lo<2 ^ 62) (h3 : -(2 ^ 62)<=hi) (h4:hi<2 ^ 62)
  (q:R (Itr lo (hi-lo).toNat) H):aD .(q) X.A (mB .(aQ)) (PIE X pins σ tg R) E {s with heap:=s.heap.push {cls:=.type "range",data:=.fields #[.int lo t,.int hi u,.int 1 v]},toks:=tk}:=by
 refine wpAny_pyIter_range (IsRange.new ..) (small_one h1 h2 h3 h4) ?_;have I1:Inv X pins σ H {s with heap:=s.heap.push {cls:=.type "range",data:=.fields #[.int lo t,.int hi u,.int 1 v]},toks:=tk}:=I.kept fun b o e=>qt _ e;refine⟨(s.heap.push {cls:=.type "range",data:=.fields #[.int lo t,.int hi u,.int 1 v]}).objs.size,[(s.heap.push {cls:=.type "range",data:=.fields #[.int lo t,.int hi u,.int 1 v]}).objs.size],_,_,H,rfl,
  I1.kept (t':=tk) fun b o e=>qt _ e,Pe _ lo (hi-lo).toNat,?_,fun b hb=>?_,q⟩
 .have e1:lo+((0:ao):ah)*1=lo:=by simp
  have e2:(((hi-lo).toNat:ao):ah)-((0:ao):ah)=Uo lo hi 1:=by rw[rangeSize_one];split<;>omega
  show IsRangeIter _ _ (lo+((0:ao):ah)*1) ((((hi-lo).toNat:ao):ah)-((0:ao):ah)) 1;rw[e1,e2];exact qG _ rfl
 .have e:b=(s.heap.push {cls:=.type "range",data:=.fields #[.int lo t,.int hi u,.int 1 v]}).objs.size:=by simpa using hb
  subst e;exact I1.fpOk (qv _) (I1.hok.fresh (qv _))
def Ho (ta:TA):TI:=fun σ H R=>ta σ H fun vs H1=>∃j:ah,vs=[.int j] /\ -(2 ^ 62)<=j/\j<2 ^ 62/\R (Itr 0 j.toNat) H1
def GB (ta:TA):TI:=fun σ H R=>ta σ H fun vs H1=>∃i j:ah,vs=[.int i,.int j]/\(-(2 ^ 62)<=i/\i<2 ^ 62 /\ -(2 ^ 62)<=j/\j<2 ^ 62)/\R (Itr i (j-i).toNat) H1
theorem IM {a:Expr} {ta:TA} (hg:Gl X "range") (hm:X.mg "range"=af) (ha:PA X [a] ta) (hs:aO [a] X.env=[(ar,eval a X.env)]:=by rfl):PI X tg (.Call (.Name "range" p) [a] [] pos) (Ho ta):=by
 intro pins s σ H R I h;refine Call_ (jF I hg hm boot_range (uN .(aK) hs rfl));obtain⟨j,e,q1,q2,q⟩:=q1;subst e;cases r1 with
 |cons r rr=>
  cases rr;obtain⟨t,rfl⟩:=r;exact call_range_1 (Bc I1 .(b) .(b) q1 q2 (by simpa using q))
theorem Pv {a:Expr} {ta:TA} (hg:Gl X "range") (hm:X.mg "range"=af) (ha:PA X [a,b] ta) (hs:aO [a,b] X.env=[(ar,eval a X.env),(ar,eval b X.env)]:=by rfl) (hs2:aO [b] X.env=[(ar,eval b X.env)]:=by rfl) :
  PI X tg (.Call (.Name "range" p) [a,b] [] pos) (GB ta):=by
 intro pins s σ H R I h;refine Call_ (jF I hg hm boot_range (uN .(aK) (by rw[hs,hs2]) (by rw[hs2];rfl)));obtain⟨i,j,e,⟨q1,q2,q3,q4⟩,q⟩:=q1;subst e;cases r1 with
 |cons r rr=>
  cases rr with
  |cons r' rr=>
   cases rr;obtain⟨t,rfl⟩:=r;obtain⟨t',rfl⟩:=r';exact call_range_2 (Bc I1 q1 q2 q3 q4 q)
def IZ (wi:TI) (g:TG) (tb:TS):TS:=fun D σ H=>wi σ H fun J H1=>∃W:ao->ao->St->Hp->Prop,(∃m,W 0 m σ H1)/\∀i m σ H,W i m σ H->
 (J.stop i H/\D.nx σ H)\/(J.go i H/\∃N:St->Hp->Prop,(∀σ' H',N σ' H'->∃m',m'<m/\W (i+1) m' σ' H')/\∀x H',J.yld i H x H'->g x σ H' fun σ2 H2=>tb {D with nx:=N,ct:=N,bk:=D.nx} σ2 H2)
noncomputable def oT (fp:ac au) (h:Heap):ac (au×Obj):=fp.filterMap fun b=>(h.get? b).map fun o=>(b,o)
theorem sI {h:Heap} {b:au} (hb:b∈fp) (e:h.get? b=aa o):(b,o)∈oT fp h:=ro.mpr ⟨b,hb,by rw[e];rfl⟩
theorem Oj {h:Heap} {p:au×Obj} (hp:p∈oT fp h):p.1∈fp/\h.get? p.1=aa p.2:=by
 obtain⟨b,hb,e⟩:=ro.mp hp;cases q:h.get? b with
 |none=>rw[q] at e;cases e
 |some o=>
  rw[q] at e;have e':(b,o)=p:=qH e;subst e';exact⟨hb,q⟩
theorem Inv.pinned (I:Inv X pins σ H s) (hf:∀b∈fp,gH X pins H b) (ho:∀b∈fp,∃o,s.heap.get? b=aa o/\∀v,o.data≠.cell v):Inv X (pins++oT fp s.heap) σ H s:=
 I.pins_of fun p hp=>(dA.mp hp).elim (fun z=>I.pin p (qR _ z)) fun z=>by obtain⟨hb,e⟩:=Oj z;obtain⟨f0,f1,f2,_⟩:=hf p.1 hb;obtain⟨o,e',d⟩:=ho p.1 hb;rw[e] at e';cases e';exact⟨e,f0,f1,f2,d⟩
theorem Inv.unpinned {pl:ac (au×Obj)} (I:Inv X (pins++pl) σ H s):Inv X pins σ H s:=I.pins_of fun p hp=>I.pin p (qR _ (rh _ hp))
theorem LF {g:TG} {tb:TS} (hp:PassesOwn .(q) X.A X.env X.xe) (hc:X.calm=aj) (hi:PI X tg iter wi) (hg:PG X tg g) (hb:PSs X body tb)
  (hs:∀x,kZ iter X.env x=aZ x:=by intro _;rfl):PS X (.For tg iter body [] pos) (IZ wi g tb):=by
 intro pins s σ H D I h;refine wpAny_For (thn (hi pins s σ H _ I h) fun v s1 h1=>thn h1 fun itv s2 h2=>?_) hs;obtain⟨it,fp,tn,J,H2,e,I2,T,st2,f2,W,⟨m0,w0⟩,turn⟩:=h2;subst e;have stat:∀{H':Hp},(∀b∈fp,H' b=af)->∀b∈fp,gH X pins H' b:=fun hn b hb=>⟨hn b hb,(f2 b hb).2⟩;refine codeAny_forLoop_any (fun n s'=>∃i σ' H',Inv X pins σ' H' s'/\tn i s'.heap/\(∀b∈fp,H' b=af)/\W i n σ' H') ?_ m0 ⟨0,σ,H2,I2,st2,fun b hb=>(f2 b hb).1,w0⟩;rintro n s3 ⟨i,σ3,H3,I3,st3,fr3,w3⟩;rcases turn i n σ3 H3 w3 with⟨stop,qn⟩|⟨go,N,hN,step⟩
 .refine uO hp (thn (T.done X rfl rfl rfl hc i pins s3 σ3 H3 X.xe I3 (stat fr3) st3 stop) fun r s4 ⟨hr,I4⟩=>?_);subst hr;exact EM ⟨σ3,H3,I4,qn⟩
 .refine uO hp (thn (T.item X rfl rfl rfl hc i pins s3 σ3 H3 X.xe I3 (stat fr3) st3 go) fun r s4 ⟨u,hr,h4⟩=>?_);subst hr;refine uO hp (thn h4 fun _ s5 ⟨x,H5,I5,r5,y5,st5,fr5⟩=>?_);have I5':=I5.pinned (stat fr5) (T.obj _ _ st5);refine uO hp (thn (hg _ s5 σ3 H5 x u _ I5' r5 (step x H5 y5)) fun _ s6 ⟨σ6,H6,I6,q6⟩=>?_);refine uO hp (thn (hb _ s6 σ6 H6 _ I6 q6) fun f s7 q7=>?_);have again:∀{σ7:St} {H7:Hp},Inv X (pins++oT fp s5.heap) σ7 H7 s7->N σ7 H7->∃m,m<n/\∃i σ' H',Inv X pins σ' H' s7/\tn i s7.heap/\(∀b∈fp,H' b=af)/\W i m σ' H':=fun {σ7 H7} I7 n7=>by obtain⟨m',hm,w7⟩:=hN σ7 H7 n7;refine⟨m',hm,i+1,σ7,H7,I7.unpinned,T.keep _ _ _ st5 fun b hb o e=>(I7.pin (b,o) (qR _ (qR _ (sI hb e)))).1,fun b hb=>?_,w7⟩;obtain⟨o,e,d⟩:=T.obj _ _ st5 b hb;exact(I7.pin (b,o) (qR _ (qR _ (sI hb e)))).2.1
  cases f with
  |next=>obtain⟨σ7,H7,I7,n7⟩:=q7;exact again I7 n7
  |cont=>obtain⟨σ7,H7,I7,n7⟩:=q7;exact again I7 n7
  |brk=>obtain⟨σ7,H7,I7,q7⟩:=q7;exact⟨σ7,H7,I7.unpinned,q7⟩
  |ret v=>obtain⟨x7,σ7,H7,I7,r7,q7⟩:=q7;exact⟨x7,σ7,H7,I7.unpinned,r7,q7⟩
abbrev R2:=V->V->Hp->VK->Prop
noncomputable def OpR (X:Cx) (f:av->av->Sem av) (r:R2):Prop:=
 ∀(pins:ac (au×Obj)) (s:aI) (σ:St) (H:Hp) (x y:V) (v u:av) (Q:VK),Inv X pins σ H s->bu x v->bu y u->r x y H Q->
  aD .(q) X.A (f v u) (EP X pins σ Q) X.xe s
noncomputable def UnR (X:Cx) (f:av->Sem av) (r:V->Hp->VK->Prop):Prop:=
 ∀(pins:ac (au×Obj)) (s:aI) (σ:St) (H:Hp) (x:V) (v:av) (Q:VK),Inv X pins σ H s->bu x v->r x H Q->
  aD .(q) X.A (f v) (EP X pins σ Q) X.xe s
noncomputable def eU (X:Cx) (f:av) (r:ac V->Hp->VK->Prop):Prop:=
 ∀(pins:ac (au×Obj)) (s:aI) (σ:St) (H:Hp) (xs:ac V) (us:ac av) (Q:VK),Inv X pins σ H s->bi xs us->r xs H Q->
  aD .(q) X.A (call f us) (EP X pins σ Q) X.xe s
noncomputable def tOp (r:R2) (ta tb:TE):TE:=fun σ H Q=>ta σ H fun x H1=>tb σ H1 fun y H2=>r x y H2 Q
noncomputable def tUn (r:V->Hp->VK->Prop) (ta:TE):TE:=fun σ H Q=>ta σ H fun x H1=>r x H1 Q
noncomputable def rI (C:ah->ah->Prop) (g:ah->ah->V):R2:=fun x y H Q=>∃i j,x=.int i/\y=.int j/\C i j/\Q (g i j) H
noncomputable def rI0 (g:ah->ah->V):R2:=fun x y H Q=>∃i j,x=.int i/\y=.int j/\Q (g i j) H
noncomputable def rU (g:ah->V):V->Hp->VK->Prop:=fun x H Q=>∃i,x=.int i/\Q (g i) H
section
variable {a c:Expr} {tc:TE}
theorem ww (ha:PE X a ta) (hb:PE X b tb) {R:V->V->Hp->Prop} (I:Inv X pins σ H s)
  (h:ta σ H fun x H1=>tb σ H1 fun y H2=>R x y H2) {f:av->av->Sem av} 
  (hf:∀v u s2 x y H2,Inv X pins σ H2 s2->bu x v->bu y u->R x y H2->aD .(q) X.A (f v u) Q X.xe s2) :
  aD .(q) X.A (eval a X.env) (fun v s₁=>aD .(q) X.A (eval b X.env) (fun u s₂=>aD .(q) X.A (f v u) Q X.xe s₂) X.xe s₁) X.xe s:=by
 refine thn .(aW) fun v s1 ⟨x,H1,I1,r1,q1⟩=>?_;refine thn (hb pins s1 σ H1 _ I1 q1) fun u s2 ⟨y,H2,I2,r2,q2⟩=>?_;exact hf v u s2 x y H2 I2 r1 r2 q2
theorem El {op:Operator} {r:R2} (ho:OpR X (gu op) r) (ha:PE X a ta) (hb:PE X b tb):PE X (.BinOp a op b pos) (tOp r ta tb):=by intro pins s σ H Q I h;exact wpAny_BinOp (ww ha hb I h fun v u s2 x y H2 I2 rx ry q=>ho pins s2 σ H2 x y v u Q I2 rx ry q)
theorem KQ {op:UnaryOp} {r:V->Hp->VK->Prop} (ho:UnR X (unaryOp op) r) (ha:PE X a ta):PE X (.UnaryOp op a pos) (tUn r ta):=by intro pins s σ H Q I h;exact UnaryOp_ (thn .(aW) fun v s1 ⟨x,H1,I1,r1,q1⟩=>ho pins s1 σ H1 x v Q I1 r1 q1)
theorem opI {f:av->av->Sem av} {C:ah->ah->Prop} {g:ah->ah->ah} 
  (rule:∀(i j:ah) (t u:Tok) (s:aI) (Q:av->aI->Prop) (E:av->aI->Prop),C i j->Q (.int (g i j) s.toks) {s with toks:=s.toks+1}->aD .(q) X.A (f (.int i t) (.int j u)) Q E s) :
  OpR X f (rI C fun i j=>.int (g i j)):=by
 intro pins s σ H x y v u Q I rx ry h;obtain⟨i,j,rfl,rfl,hc,q⟩:=h;obtain⟨t,rfl⟩:=rx;obtain⟨t',rfl⟩:=ry;exact rule i j t t' s _ _ hc ⟨.int (g i j),H,I.tok _,⟨_,rfl⟩,q⟩
theorem BW {f:av->av->Sem av} {g:ah->ah->ah} 
  (rule:∀(i j:ah) (t u:Tok) (s:aI) (Q:av->aI->Prop) (E:av->aI->Prop),Q (.int (g i j) s.toks) {s with toks:=s.toks+1}->aD .(q) X.A (f (.int i t) (.int j u)) Q E s) :
  OpR X f (rI0 fun i j=>.int (g i j)):=by
 intro pins s σ H x y v u Q I rx ry h;obtain⟨i,j,rfl,rfl,q⟩:=h;obtain⟨t,rfl⟩:=rx;obtain⟨t',rfl⟩:=ry;exact rule i j t t' s _ _ ⟨.int (g i j),H,I.tok _,⟨_,rfl⟩,q⟩
theorem rZ {f:av->av->Sem av} {g:ah->ah->aP} 
  (rule:∀(i j:ah) (t u:Tok) (s:aI) (Q:av->aI->Prop) (E:av->aI->Prop),Q (.bool (g i j)) s->aD .(q) X.A (f (.int i t) (.int j u)) Q E s) :
  OpR X f (rI0 fun i j=>.bl (g i j)):=by
 intro pins s σ H x y v u Q I rx ry h;obtain⟨i,j,rfl,rfl,q⟩:=h;obtain⟨t,rfl⟩:=rx;obtain⟨t',rfl⟩:=ry;exact rule i j t t' s _ _ ⟨.bl (g i j),H,I,rfl,q⟩
noncomputable def Nm (i j:ah):Prop:=0<j/\j<1073741824
noncomputable def Ii (i j:ah):Prop:=0<=j/\j<=1000000/\i.natAbs<2 ^ 64
noncomputable def sU (i j:ah):Prop:=(-(2 ^ 64)<i/\i<2 ^ 64)\/(-(2 ^ 64)<j/\j<2 ^ 64)
theorem sU.ok {i j:ah} (h:sU i j):IntMulOk i j:=by
 rcases h with⟨h1,h2⟩|⟨h1,h2⟩
 .exact .of_left (intBits_le_64 h1 h2)
 .exact .of_right (intBits_le_64 h1 h2)
theorem QB:OpR X (gu .Add) (rI0 fun i j=>.int (i+j)):=BW fun _ _ _ _ _ _ _ q=>add_int q
theorem F9:OpR X (gu .Sub) (rI0 fun i j=>.int (i-j)):=BW fun _ _ _ _ _ _ _ q=>sub_int q
theorem Kn:OpR X (gu .Mult) (rI sU fun i j=>.int (i*j)):=opI fun _ _ _ _ _ _ _ hc q=>mul_int q hc.ok
theorem Qn:OpR X (gu .FloorDiv) (rI Nm fun i j=>.int (i / j)):=opI fun i j _ _ _ _ _ hc q=>by have h1:(0:ah)<j:=hc.1;have h2:j<1073741824:=hc.2;exact floordiv_int .(b) (by rw[Int.fdiv_eq_ediv_of_nonneg i .(b)];exact q) (.inl (PyProof.noPylong_small .(b)))
theorem IG:OpR X (gu .Mod) (rI (fun _ j=>0<j) fun i j=>.int (i%j)):=opI fun i j _ _ _ _ _ hc q=>by have h1:(0:ah)<j:=hc;exact mod_int' .(b) (by rw[Int.fmod_eq_emod_of_nonneg i .(b)];exact q)
theorem Kj:OpR X (gu .Pow) (rI Ii fun i j=>.int (i ^ j.toNat)):=opI fun _ _ _ _ _ _ _ hc q=>pow_int_small hc.1 hc.2.1 hc.2.2 q
theorem unI {f:av->Sem av} {g:ah->ah} 
  (rule:∀(i:ah) (t:Tok) (s:aI) (Q:av->aI->Prop) (E:av->aI->Prop),Q (.int (g i) s.toks) {s with toks:=s.toks+1}->aD .(q) X.A (f (.int i t)) Q E s) :
  UnR X f (rU fun i=>.int (g i)):=by
 intro pins s σ H x v Q I rx h;obtain⟨i,rfl,q⟩:=h;obtain⟨t,rfl⟩:=rx;exact rule i t s _ _ ⟨.int (g i),H,I.tok _,⟨_,rfl⟩,q⟩
theorem NQ:UnR X (unaryOp .USub) (rU fun i=>.int (-i)):=unI fun _ _ _ _ _ q=>neg_int q
end
noncomputable def wo:V->V->aP
 |.non,.non=>aj|.non,.int _=>aj|.int _,.non=>aj|.non,.bl _=>aj|.bl _,.non=>aj|.non,.str _=>aj|.str _,.non=>aj
 |.int _,.int _=>aj|.bl _,.bl _=>aj|.str _,.str _=>aj
 |.int _,.str _=>aj|.str _,.int _=>aj|.bl _,.str _=>aj|.str _,.bl _=>aj
 |_,_=>ar
def rEq:R2:=fun x y H Q=>wo x y=aj/\Q (.bl (decide (x=y))) H
def rNe:R2:=fun x y H Q=>wo x y=aj/\Q (.bl (!decide (x=y))) H
theorem zt {i j:ah} :decide (V.int i=V.int j)=(i==j):=by rw[uP];simp
theorem Bj {i j:aP} :decide (V.bl i=V.bl j)=(i==j):=by rw[uP];simp
theorem Ew {i j:ai} :decide (V.str i=V.str j)=(i==j):=by rw[uP];simp
variable {r':R2} {op op':CmpOp}
section
variable {a c:Expr} {tc:TE}
theorem cI {Q:VK} {k k':aP} (I:Inv X pins σ H s) (q:Q (.bl k) H) (e:k=k'):EP X pins σ Q (.bool k') s:=by subst e;exact⟨.bl k,H,I,rfl,q⟩
theorem M0:OpR X (dB .Eq) rEq:=by
 intro pins s σ H x y v u Q I rx ry h;obtain⟨hs,q⟩:=h;cases x with
 |non=>
  cases rx;cases y with
  |non=>cases ry;exact Up .(Z)
  |bl j=>cases ry;exact Uq .(Z)
  |int j=>obtain⟨t',rfl⟩:=ry;exact Ur .(Z)
  |str j=>obtain⟨t',rfl⟩:=ry;exact Us .(Z)
  |_=>exact bA (show ar=aj from hs) qr
 |bl i=>
  cases rx;cases y with
  |non=>cases ry;exact Ut .(Z)
  |bl j=>cases ry;exact eq_bool (cI I q Bj)
  |str j=>obtain⟨t',rfl⟩:=ry;exact Uu .(Z)
  |_=>exact bA (show ar=aj from hs) qr
 |int i=>
  obtain⟨t,rfl⟩:=rx;cases y with
  |non=>cases ry;exact Uv .(Z)
  |int j=>obtain⟨t',rfl⟩:=ry;exact eq_int (cI I q zt)
  |str j=>obtain⟨t',rfl⟩:=ry;exact Uw .(Z)
  |_=>exact bA (show ar=aj from hs) qr
 |str i=>
  obtain⟨t,rfl⟩:=rx;cases y with
  |non=>cases ry;exact Ux .(Z)
  |bl j=>cases ry;exact Uy .(Z)
  |int j=>obtain⟨t',rfl⟩:=ry;exact Uz .(Z)
  |str j=>obtain⟨t',rfl⟩:=ry;exact eq_str (cI I q Ew)
  |_=>exact bA (show ar=aj from hs) qr
 |_=>cases y<;>exact bA (show ar=aj from hs) qr
theorem N0:OpR X (dB .NotEq) rNe:=by
 intro pins s σ H x y v u Q I rx ry h;obtain⟨hs,q⟩:=h;cases x with
 |non=>
  cases rx;cases y with
  |non=>cases ry;exact UA .(Z)
  |bl j=>cases ry;exact UB .(Z)
  |int j=>obtain⟨t',rfl⟩:=ry;exact UC .(Z)
  |str j=>obtain⟨t',rfl⟩:=ry;exact UD .(Z)
  |_=>exact bA (show ar=aj from hs) qr
 |bl i=>
  cases rx;cases y with
  |non=>cases ry;exact UE .(Z)
  |bl j=>cases ry;exact ne_bool (cI I q (bU not Bj))
  |str j=>obtain⟨t',rfl⟩:=ry;exact UF .(Z)
  |_=>exact bA (show ar=aj from hs) qr
 |int i=>
  obtain⟨t,rfl⟩:=rx;cases y with
  |non=>cases ry;exact UG .(Z)
  |int j=>obtain⟨t',rfl⟩:=ry;exact ne_int (cI I q (bU not zt))
  |str j=>obtain⟨t',rfl⟩:=ry;exact UH .(Z)
  |_=>exact bA (show ar=aj from hs) qr
 |str i=>
  obtain⟨t,rfl⟩:=rx;cases y with
  |non=>cases ry;exact UI .(Z)
  |bl j=>cases ry;exact UJ .(Z)
  |int j=>obtain⟨t',rfl⟩:=ry;exact UK .(Z)
  |str j=>obtain⟨t',rfl⟩:=ry;exact ne_str (cI I q (bU not Ew))
  |_=>exact bA (show ar=aj from hs) qr
 |_=>cases y<;>exact bA (show ar=aj from hs) qr
theorem MP:OpR X (dB .Lt) (rI0 fun i j=>.bl (decide (i<j))):=rZ fun _ _ _ _ _ _ _ q=>lt_int q
theorem Pb:OpR X (dB .LtE) (rI0 fun i j=>.bl (decide (i<=j))):=rZ fun _ _ _ _ _ _ _ q=>le_int q
theorem P7:OpR X (dB .Gt) (rI0 fun i j=>.bl (decide (j<i))):=rZ fun _ _ _ _ _ _ _ q=>gt_int q
theorem O6:OpR X (dB .GtE) (rI0 fun i j=>.bl (decide (j<=i))):=rZ fun _ _ _ _ _ _ _ q=>ge_int q
theorem Jl:OpR X (dB .Lt) (fun x y H Q=>∃i j,x=.str i/\y=.str j/\Q (.bl (decide (i.cps.toList<j.cps.toList))) H):=by intro pins s σ H x y v u Q I rx ry h;obtain⟨i,j,rfl,rfl,q⟩:=h;obtain⟨t,rfl⟩:=rx;obtain⟨t',rfl⟩:=ry;exact lt_str (cI I q rfl)
theorem Gs:OpR X (dB .Is) (fun x y H Q=>y=.non/\Q (.bl (decide (x=.non))) H):=by
 intro pins s σ H x y v u Q I rx ry h;obtain⟨rfl,q⟩:=h;cases ry;refine is_none_gen (cI I q ?_);cases x<;>first
  |(cases rx;rfl)
  |(obtain⟨t,rfl⟩:=rx;rfl)
theorem JX:OpR X (dB .IsNot) (fun x y H Q=>y=.non/\Q (.bl (!decide (x=.non))) H):=by
 intro pins s σ H x y v u Q I rx ry h;obtain⟨rfl,q⟩:=h;cases ry;refine isnot_none_gen (cI I q ?_);cases x<;>first
  |(cases rx;rfl)
  |(obtain⟨t,rfl⟩:=rx;rfl)
theorem OpR.or {f:av->av->Sem av} {r:R2} (h:OpR X f r) (h':OpR X f r'):OpR X f (fun x y H Q=>r x y H Q\/r' x y H Q):=by
 intro pins s σ H x y v u Q I rx ry q;rcases q with q|q
 .exact h pins s σ H x y v u Q I rx ry q
 .exact h' pins s σ H x y v u Q I rx ry q
theorem ni (b:Expr) (h:op≠.In:=by decide) (h2:op≠.NotIn:=by decide):rq op b=ar:=by
 have e1:(op==CmpOp.In)=ar:=by cases op<;>first|rfl|exact bA rfl h
 have e2:(op==CmpOp.NotIn)=ar:=by cases op<;>first|rfl|exact bA rfl h2
 cases b<;>simp[rq,e1,e2]
theorem MC {r:R2} (ho:OpR X (dB op) r) (ha:PE X a ta) (hb:PE X b tb) (hm:rq op b=ar):PE X (.Compare a [op] [b] pos) (tOp r ta tb):=by intro pins s σ H Q I h;exact wpAny_Compare1 (ww ha hb I h fun v u s2 x y H2 I2 rx ry q=>ho pins s2 σ H2 x y v u Q I2 rx ry q) hm
noncomputable def A6 (t:TE):TT:=fun σ H Q=>t σ H fun x H'=>∃k,x=.bl k/\Q k H'
theorem Iy {r:R2} (ho:OpR X (dB op) r) (ha:PE X a ta) (hb:PE X b tb) (hm:rq op b=ar):PT X (.Compare a [op] [b] pos) (A6 (tOp r ta tb)):=by
 intro pins s σ H Q I h;refine wpAny_isTrue_Compare1 (thn .(aW) fun v s1 ⟨x,H1,I1,r1,q1⟩=>thn (hb pins s1 σ H1 _ I1 q1) fun u s2 ⟨y,H2,I2,r2,q2⟩=>
  thn (ho pins s2 σ H2 x y v u _ I2 r1 r2 q2) fun c s3 ⟨z,H3,I3,r3,k,e,q3⟩=>?_) hm
 subst e;cases r3;exact jb ⟨H3,I3,q3⟩
noncomputable def v5 (r r':R2) (ta tb tc:TE):TE:=fun σ H Q=>ta σ H fun x H1=>tb σ H1 fun y H2=>r x y H2 fun z H3=>∃k,z=.bl k /\
 (if k=aj then tc σ H3 fun w' H4=>r' y w' H4 Q else Q (.bl ar) H3)
theorem Qh {r:R2} (ho:OpR X (dB op) r) (ho':OpR X (dB op') r') (ha:PE X a ta) (hb:PE X b tb) (hc:PE X c tc)
  (hm:yr [op,op'] [b,c]=ar:=by with_unfolding_all rfl):PE X (.Compare a [op,op'] [b,c] pos) (v5 r r' ta tb tc):=by
 intro pins s σ H Q I h;refine Compare_chain (thn .(aW) fun v s1 ⟨x,H1,I1,r1,q1⟩=>chain_link (thn (hb pins s1 σ H1 _ I1 q1) fun u s2 ⟨y,H2,I2,r2,q2⟩=>
  thn (ho pins s2 σ H2 x y v u _ I2 r1 r2 q2) fun d s3 ⟨z,H3,I3,r3,k,e,q3⟩=>?_)) hm
 subst e;cases r3;refine jb ?_;cases k with
 |false=>exact ite_ff ⟨.bl ar,H3,I3,rfl,q3⟩
 |true=>exact ite_tt (chain_last (thn (hc pins s3 σ H3 _ I3 q3) fun w' s4 ⟨z',H4,I4,r4,q4⟩=>ho' pins s4 σ H4 y z' u w' Q I4 r2 r4 q4))
theorem F4 {r:R2} (ho:OpR X (dB op) r) (ho':OpR X (dB op') r') (ha:PE X a ta) (hb:PE X b tb) (hc:PE X c tc)
  (hm:yr [op,op'] [b,c]=ar:=by with_unfolding_all rfl):PT X (.Compare a [op,op'] [b,c] pos) (A6 (v5 r r' ta tb tc)):=by
 intro pins s σ H Q I h;refine isTrue_chain (thn .(aW) fun v s1 ⟨x,H1,I1,r1,q1⟩=>test_link (thn (hb pins s1 σ H1 _ I1 q1) fun u s2 ⟨y,H2,I2,r2,q2⟩=>
  thn (ho pins s2 σ H2 x y v u _ I2 r1 r2 q2) fun d s3 ⟨z,H3,I3,r3,k,e,q3⟩=>?_)) hm
 subst e;cases r3;refine jb ?_;cases k with
 |false=>
  obtain⟨k',e',q'⟩:=q3;cases e';exact ite_ff ⟨H3,I3,q'⟩
 |true=>
  refine ite_tt (test_last (thn (hc pins s3 σ H3 _ I3 q3) fun w' s4 ⟨z',H4,I4,r4,q4⟩=>thn (ho' pins s4 σ H4 y z' u w' _ I4 r2 r4 q4) fun d' s5 ⟨z2,H5,I5,r5,k2,e2,q5⟩=>?_));subst e2;cases r5;exact jb ⟨H5,I5,q5⟩
theorem tK:(aH:ao)<2 ^ 63:=by rw[eY];decide
theorem R0:OpR X (gu .Add) (fun x y H Q=>∃i j,x=.str i/\y=.str j/\i.length+j.length<=aH/\Q (.str (i++j)) H):=by intro pins s σ H x y v u Q I rx ry h;obtain⟨i,j,rfl,rfl,hz,q⟩:=h;obtain⟨t,rfl⟩:=rx;obtain⟨t',rfl⟩:=ry;exact add_str (fun t' tk=>⟨.str (i++j),H,I.tok _,⟨_,rfl⟩,q⟩) hz
theorem eQ {x:V} {us:ac av} (r:bi [x] us):∃u,us=[u]/\bu x u:=by
 cases r with
 |cons r1 r2=>cases r2;exact⟨_,rfl,r1⟩
theorem vW {x:V} {us:ac av} (r:bi [x,y] us):∃u w',us=[u,w']/\bu x u/\bu y w':=by
 cases r with
 |cons r1 r2=>
  cases r2 with
  |cons r3 r4=>cases r4;exact⟨_,_,rfl,r1,r3⟩
theorem F5 (hc:X.calm=aj):eU X (.builtin "max") (fun xs H Q=>∃i j,xs=[.int i,.int j]/\Q (.int (if j > i then j else i)) H):=by
 intro pins s σ H xs us Q I r h;obtain⟨i,j,rfl,q⟩:=h;obtain⟨u,w',rfl,⟨t,rfl⟩,⟨t',rfl⟩⟩:=vW r;refine max_two_ints (I.ok.hd hc) fun h' tk k=>⟨_,H,I.kept k,?_,q⟩;by_cases hj:j > i
 .rw[qX hj,qX hj];exact⟨_,rfl⟩
 .rw[qY hj,qY hj];exact⟨_,rfl⟩
theorem GC (hc:X.calm=aj):eU X (.builtin "min") (fun xs H Q=>∃i j,xs=[.int i,.int j]/\Q (.int (if j<i then j else i)) H):=by
 intro pins s σ H xs us Q I r h;obtain⟨i,j,rfl,q⟩:=h;obtain⟨u,w',rfl,⟨t,rfl⟩,⟨t',rfl⟩⟩:=vW r;refine min_two_ints (I.ok.hd hc) fun h' tk k=>⟨_,H,I.kept k,?_,q⟩;by_cases hj:j<i
 .rw[qX hj,qX hj];exact⟨_,rfl⟩
 .rw[qY hj,qY hj];exact⟨_,rfl⟩
theorem RF:eU X (.type "int") (fun xs H Q=>(∃i,xs=[.int i]/\Q (.int i) H)\/∃k,xs=[.bl k]/\Q (.int (if k then 1 else 0)) H):=by
 intro pins s σ H xs us Q I r h;rcases h with⟨i,rfl,q⟩|⟨k,rfl,q⟩
 .obtain⟨u,rfl,t,rfl⟩:=eQ r;exact call_int_int ⟨.int i,H,I,⟨_,rfl⟩,q⟩
 .obtain⟨u,rfl,r1⟩:=eQ r;cases r1;exact call_int_bool ⟨.int (if k then 1 else 0),H,I.tok _,⟨_,rfl⟩,q⟩
noncomputable def Ib (K:aW) (x:V) (H:Hp) (n:ao):Prop:=
 match x with
 |.str y=>y.length<=aH/\n=y.length
 |.ref p=>(∃xs,SqL K H p xs/\n=xs.length)\/∃xs,SqT K H p xs/\n=xs.length
 |_=>False
theorem O1:eU X (.builtin "len") (fun xs H Q=>∃x n,xs=[x]/\Ib X.K x H n/\Q (.int n) H):=by
 intro pins s σ H xs us Q I r h;obtain⟨x,n,rfl,e,q⟩:=h;obtain⟨u,rfl,rx⟩:=eQ r;have hl:=tK;have hs:aH=16777216:=eY;cases x with
 |str y=>
  obtain⟨t,rfl⟩:=rx;obtain⟨hy,e'⟩:y.length<=aH/\n=y.length:=e;subst e';exact len_str .(b) ⟨.int _,H,I.tok _,⟨_,rfl⟩,q⟩
 |ref p=>
  cases rx;have e':(∃xs,SqL X.K H p xs/\n=xs.length)\/∃xs,SqT X.K H p xs/\n=xs.length:=e;rcases e' with⟨xs,hx,e'⟩|⟨xs,hx,e'⟩
  .subst e';obtain⟨its,r',pl,hz⟩:=I.list hx;have hlen:=r'.length;exact Calls.call_len_list pl.isList (by simp only[qB];omega) ⟨.int xs.length,H,I.tok _,⟨_,by simp only[qB];rw[hlen]⟩,q⟩
  .subst e';obtain⟨its,r',pl,hz⟩:=I.tuple hx;have hlen:=r'.length;exact len_tuple pl (by simp only[qB];omega) ⟨.int xs.length,H,I.tok _,⟨_,by simp only[qB];rw[hlen]⟩,q⟩
 |_=>exact(show False from e).elim
end
structure ObjM (h:Heap) (x dx C:au) (mA:ai->aq av):Prop where
 obj:h.get? x=aa (my C dx)
 ns:h.Ns1 dx mA
 ne:dx≠x
variable {dx:au} {mA:ai->aq av}
theorem Lp {h:Heap} (n:h.Ns1 dx mA):∃od,h.get? dx=aa od/\∀name,yt name od=aa (mA name):=by
 obtain⟨o,es,ep,ho,hd,hk,_,hm⟩:=n;refine⟨o,ho,fun name=>?_⟩;have e:=hm name;unfold nsFind findBy at e;rw[←Array.find?_toList] at e;unfold yt;rw[hd];dsimp only;split
 .rename_i y q;rw[q] at e;exact bU aa e
 .rename_i q;rw[q] at e;have a:es.toList.any (·.refKey)=ar:=by rw[Sj];intro y hy;obtain⟨z,t,hkey⟩:=hk y (ER.mp hy);simp[DictEntry.refKey,hkey]
  have a':¬es.toList.any (·.refKey)=aj:=by rw[a];exact qr
  rw[qY a'];exact bU aa e
variable {C:au}
theorem ObjM.look {h:Heap} {x:au} (I:ObjM h x dx C mA):∃od,PySem.W.InstAt h x (my C dx) C (aa od)/\∀name,yt name od=aa (mA name):=
 let ⟨od,ho,hl⟩:=Lp I.ns
 ⟨od,⟨I.obj,rfl,rfl,ho⟩,hl⟩
variable {prog:dF} {name:ai} {pl:Sem aP} {kw:ac (ai×av)}
section
variable {x f:au} {v:av}
theorem JU {expr:aP} (X:K.In s.heap) (I:ObjM s.heap x dx C mA) (hg:oo K C name=aj) (hh:rz K C=aj)
  (ha:ce K (.ref C) name=aa af) (hv:mA name=aa v) (hv':Sk v=aj) (h:Q v {s with toks:=s.toks+1}) :
  aD .(N) A (getAttr (.ref x) name expr) Q E s:=by
 obtain⟨od,J,hl⟩:=I.look;exact PySem.W.get_value X J (ES hg).1 (PySem.W.findObj_own hh ha rfl (by rw[hl,hv])) hv' h
theorem OP {Q:av×ac av->aI->Prop} (X:K.In s.heap) (I:ObjM s.heap x dx C mA) (hg:oo K C name=aj)
  (hf:ce K (.ref C) name=aa (aa (.ref f))) (ht:oq K (.ref f)=aj) (hv:mA name=af) (h:Q (.ref f,[.ref x]) s) :
  aD .(N) A (ot (.ref x) name pl) Q E s:=by
 obtain⟨od,J,hl⟩:=I.look;exact PySem.W.method_fn X J (ES hg).1 (ES hg).2 hf (k0.mp ht) (by show(yt name od).map (·.isSome)=aa ar;rw[hl,hv];rfl) h
theorem GL {ns:ac ai} {Q:mz->aI->Prop} (X:K.In s.heap) (I:ObjM s.heap x dx C mA)
  (hs:ce K (.ref C) "__setattr__"=aa (aa (.builtin "object.__setattr__"))) (hp:uQ K C=aj) (ht:ET K C name=aa af) (hh:rz K C=aj)
  (hw:EG mA ns) (hsz:ns.length<=aH)
  (h:∀h',ObjM h' x dx C (fun y=>if y=name then aa v else mA y)->iC dx s.heap h'->Q () {s with heap:=h',toks:=s.toks+2}) :
  aD .(N) A (setAttr (.ref x) name v) Q E s:=by
 obtain⟨od,J,hl⟩:=I.look;refine PySem.W.set_plain X J hs (PySem.W.osa_open (s:={s with toks:=s.toks+1}) (r:=af) X J hp ht fun b=>?_);obtain⟨cd,hc,hd'⟩:=PySem.W.any_some hh;have hx:s.heap.get? x=aa ⟨.ref C,aa dx,.plain,#[]⟩:=I.obj;refine qw (qA (qw (qw (wpAny_loadPart hx (qw (UL (s:={s with toks:=s.toks+1}) (PySem.W.looks_clsIn X hc) ?_))))));rw[hd'];refine qA (a:=aa dx) (qw (qA (qw ?_)));refine wpAny_nsSet1 (s:={s with toks:=s.toks+1}) I.ns fun h' hn2 hs2=>?_;obtain⟨oD,esD,epD,hoD,hdD,hcD⟩:=hn2.count (UM name v hw);refine qw (wpAny_lookBehind hoD (by rw[hdD];exact pastItsLine_dict (qN hcD (by rw[qi];omega))) ?_);exact qA (h _ ⟨(hs2.2 _ (cM I.ne)).trans I.obj,hn2,I.ne⟩ hs2)
theorem JB {R:lb->aI->Prop} {vs:ac av} (X:K.In s.heap) (hm:rA K C=aj)
  (hi:ce K (.ref C) "__init__"=aa (aa (.ref f))) (hf:PySem.W.typeIn K (.ref f)=aa (.type "function"))
  (h:fz .(N) (A.under (.builtin "type.__call__" ⟨.ref C::vs,kw⟩)) (.call (.ref f) ⟨.ref .(af)::vs,kw⟩) (PySem.W.InitBack .(af) R)
   {s with heap:=(s.heap.push lc).push (my C s.heap.objs.size)}) :
  fz .(N) A (.call (.ref C) ⟨vs,kw⟩) R s:=by
 obtain⟨hh,g,d,t,os⟩:=s;exact PySem.W.make_core (PySem.W.makes_of X hm) (PySem.W.looks_findIn X hi) (fun self=>PySem.W.bind_fn X self hf) (.inl rfl) h
end
noncomputable def eN (f:ai) (v:V):ac (ai×V)->ac (ai×V)
 |[]=>[(f,v)]
 |(g,x)::r=>if g=f then (g,v)::r else (g,x)::eN f v r
theorem Kb (f g:ai) (v:V):∀fs:ac (ai×V),(eN f v fs).lookup g=if g=f then aa v else fs.lookup g:=by
 intro xs0
 induction xs0 with
 |nil=>
  show cX g [(f,v)]=_;by_cases h:g=f
  .have hb:(g==f)=aj:=k0.mpr h;simp only[cX,hb,qX h]
  .have hb:(g==f)=ar:=kS.mpr h;simp only[cX,hb,qY h]
 |cons x0 r ih=>
  obtain⟨k,x⟩:=x0;have ih:=ih;rw[show eN f v ((k,x)::r)=(if k=f then (k,v)::r else (k,x)::eN f v r) from rfl];by_cases hk:k=f
  .rw[qX hk];by_cases h:g=k
   .have hb:(g==k)=aj:=k0.mpr h;simp only[cX,hb,qX (h.trans hk)]
   .have hb:(g==k)=ar:=kS.mpr h;simp only[cX,hb,qY (fun e:g=f=>h (e.trans hk.symm))]
  .rw[qY hk];by_cases h:g=k
   .have hb:(g==k)=aj:=k0.mpr h;simp only[cX,hb,qY (fun e:g=f=>hk (h.symm.trans e))]
   .have hb:(g==k)=ar:=kS.mpr h;simp only[cX,hb];exact ih
theorem EA (f:ai) (v:V):∀fs:ac (ai×V),f∈(eN f v fs).map (·.1)/\∀g,g∈fs.map (·.1)->g∈(eN f v fs).map (·.1):=by
 intro xs0
 induction xs0 with
 |nil=>
  exact⟨by simp[eN],fun g h=>by simp at h⟩
 |cons x0 r ih=>
  obtain⟨k,x⟩:=x0;obtain⟨i1,i2⟩:=ih;rw[show eN f v ((k,x)::r)=(if k=f then (k,v)::r else (k,x)::eN f v r) from rfl];by_cases hk:k=f
  .rw[qX hk];subst hk;exact⟨by simp,fun g h=>by simpa using h⟩
  .rw[qY hk];refine⟨?_,fun g h=>?_⟩
   .rw[qm];exact qh _ i1
   .rw[qm] at h ⊢;rcases cr.mp h with e|e
    .exact cr.mpr (.inl e)
    .exact qh _ (i2 g e)
theorem Ge (f:ai) (v:V):∀fs:ac (ai×V),(eN f v fs).length<=fs.length+1:=by
 intro xs0
 induction xs0 with
 |nil=>
  simp[eN]
 |cons x0 r ih=>
  obtain⟨k,x⟩:=x0;have ih:=ih;rw[show eN f v ((k,x)::r)=(if k=f then (k,v)::r else (k,x)::eN f v r) from rfl];by_cases hk:k=f
  .rw[qX hk,qi,qi];omega
  .rw[qY hk,qi,qi];omega
theorem fy.some_of {o:aq av} (r:fy (aa v) o):∃u,o=aa u/\bu v u:=by
 cases o with
 |none=>exact(show False from r).elim
 |some u=>exact⟨u,rfl,r⟩
theorem fy.none_of {o:aq av} (r:fy af o):o=af:=by
 cases o with
 |none=>rfl
 |some u=>exact(show False from r).elim
theorem GH (r:bu v u):Sk u=aj:=by
 cases v with
 |non=>cases(show u=kT from r);rfl
 |bl b=>cases(show u=kU b from r);rfl
 |int i=>obtain⟨t,e⟩:=(show ∃t,u=qZ i t from r);cases e;rfl
 |str x=>obtain⟨t,e⟩:=(show ∃t,u=uJ x t from r);cases e;rfl
 |ref a=>cases(show u=bY a from r);rfl
 |ty n=>cases(show u=kW n from r);rfl
section
variable {h:Heap} {fs fs':ac (ai×V)}
theorem sM (hok:HOk P w H h) (e:H a=aa (.ins C dx fs)):∃mA,ObjM h a dx C mA/\(∀f,fy (fs.lookup f) (mA f))/\EG mA (fs.map (·.1))/\fs.length<=1000/\H dx=aa (.own a):=by obtain⟨d,z,ne,ob,mA,n,r,q⟩:=(show cm P w H h a (.ins C dx fs) from hok a _ e);exact⟨mA,⟨ob,n,ne⟩,r,q,z,d⟩
end
structure Cls (K:aW) (C:au):Prop where
 pg:oo K C uR=aj
 hd:rz K C=aj
 po:uQ K C=aj
 sa:ce K (.ref C) "__setattr__"=aa (aa (.builtin "object.__setattr__"))
theorem Cls.get (c:Cls K C) (f:ai):oo K C f=aj:=c.pg
noncomputable def km (K:aW) (C:au) (f:ai):Prop:=ce K (.ref C) f=aa af
theorem km.taker {K:aW} {C:au} {f:ai} (n:km K C f):ET K C f=aa af:=by unfold ET;rw[show ce K (.ref C) f=aa af from n];rfl
structure Meth (K:aW) (C:au) (m:ai) (f:au):Prop where
 at_:ce K (.ref C) m=aa (aa (.ref f))
 fn:oq K (.ref f)=aj
 kp:fP K (.ref f)=aj
variable {m:ai} {env:cG}
section
variable {fs:ac (ai×V)} {f:ai}
theorem NJ {b:aP} (I:Inv X pins σ H s) (e:H a=aa (.ins C dx fs)) (c:Cls X.K C) (n:km X.K C f) (l:fs.lookup f=aa v)
  (h:∀u s',Inv X pins σ H s'->bu v u->Q u s'):aD .(q) A (getAttr (.ref a) f b) Q E s:=by
 obtain⟨mA,O,r,_,_,_⟩:=sM I.hok e;obtain⟨u,hu,ru⟩:=fy.some_of (v:=v) (o:=mA f) (by rw[←l];exact r f);exact JU I.kIn O (c.get f) c.hd n hu (GH ru) (h u _ (I.tok _) ru)
theorem Bg {g:au} {Q:av×ac av->aI->Prop} (I:Inv X pins σ H s) (e:H a=aa (.ins C dx fs)) (c:Cls X.K C) (k:Meth X.K C m g) (l:fs.lookup m=af)
  (h:Q (.ref g,[.ref a]) s):aD .(q) A (ot (.ref a) m pl) Q E s:=by
 obtain⟨mA,O,r,_,_,_⟩:=sM I.hok e;have hn:mA m=af:=fy.none_of (by rw[←l];exact r m);exact OP I.kIn O (c.get m) k.at_ k.fn hn h
theorem GI {Q:mz->aI->Prop} (I:Inv X pins σ H s) (e:H a=aa (.ins C dx fs)) (c:Cls X.K C) (n:km X.K C f) (hl:fs.length<1000) (ry:bu y u)
  (h:∀s',Inv X pins σ (upd H a (.ins C dx (eN f y fs))) s'->Q () s'):aD .(q) A (setAttr (.ref a) f u) Q E s:=by
 obtain⟨mA,O,r,wi,_,ho⟩:=sM I.hok e;have hz:(fs.map (·.1)).length<=aH:=by rw[qf,eY];omega
 refine GL I.kIn O c.sa c.po n.taker c.hd wi hz fun h' O' sb=>h _ ?_;have hd:∃o,h'.get? dx=aa o:=let ⟨o,_,_,e',_⟩:=O'.ns;⟨o,e'⟩
 refine I.write (x:=a) (e:=dx) (by rw[e];exact jU) (.inr ho) (fun b q hb z=>(sb.2 b hb).trans z) hd ?_;refine⟨by rw[aF O.ne];exact ho,?_,O.ne,O'.obj,_,O'.ns,fun g=>?_,fun g hg=>?_⟩
 .have:=Ge f y fs;omega
 .show fy ((eN f y fs).lookup g) (if g=f then aa u else mA g);rw[Kb];by_cases q:g=f
  .rw[qX q,qX q];exact ry
  .rw[qY q,qY q];exact r g
 .by_cases q:g=f
  .rw[q];exact(EA f y fs).1
  .refine(EA f y fs).2 g (wi g fun z=>hg ?_);show(if g=f then aa u else mA g)=af;rw[qY q];exact z
theorem Inv.made (I:Inv X pins σ H s):Inv X pins σ (upd (upd H s.heap.objs.size (.own .(af))) .(af) (.ins C s.heap.objs.size []))
  {s with heap:=(s.heap.push lc).push (my C s.heap.objs.size)}:=by
 have e1:(s.heap.push lc).get? s.heap.objs.size=aa lc:=qG s.heap rfl;have e2:((s.heap.push lc).push (my C s.heap.objs.size)).get? .(af)=aa (my C s.heap.objs.size):=by
  have:=qG (s.heap.push lc) (o:=my C s.heap.objs.size) rfl
  rwa [lf] at this
 have e3:(s.heap.push lc).Ns s.heap.objs.size (fun _=>af):=⟨lc,#[],_,e1,rfl,(fun e he=>bA he (by simp)),fun _=>rfl⟩;have I1:=I.laid (a:=s.heap.objs.size) (o:=.own .(af)) (h':=s.heap.push lc) (t':=s.toks) (fun b u q=>qt _ q) (qv _) ⟨_,e1⟩;refine I1.laid (a:=s.heap.objs.size+1) (o:=.ins C s.heap.objs.size []) (t':=s.toks) (fun b u q=>qt _ q) (yu (lf _ _)) ?_;have ne:s.heap.objs.size≠s.heap.objs.size+1:=qC (rB _);refine⟨by rw[aF ne,bj],fA _,ne,e2,fun _=>af,(Heap.Ns1.of_empty e3).at fun o q=>qt _ q,fun _=>jU,fun y hy=>bA rfl hy⟩
theorem Rk (hb:je e f env (eval e env)=eval e env)
  (h:aD .(N) A (eval e env) (fun o s₁=>aD .(N) A (getAttr o f aj) Q E s₁) E s):aD .(N) A (eval (.Attribute e f pos) env) Q E s:=
 Attribute_any_ h (by rw[arm_eval_Attribute,hb])
end
def Ju (K:aW) (ta:TE) (f:ai):TE:=fun σ H Q=>ta σ H fun x H1=>∃a C dx fs v,x=.ref a/\H1 a=aa (.ins C dx fs)/\Cls K C/\km K C f/\fs.lookup f=aa v/\Q v H1
def HI (K:aW) (ta tv:TE) (f:ai):TS:=fun D σ H=>tv σ H fun y H1=>ta σ H1 fun x H2=>∃a C dx fs,x=.ref a/\H2 a=aa (.ins C dx fs)/\Cls K C/\km K C f/\fs.length<1000 /\
 D.nx σ (upd H2 a (.ins C dx (eN f y fs)))
variable {value:Expr} {tpos:dq} {tv:TE}
section
variable {o:Expr} {f:ai}
theorem sq (he:PE X e ta) (hb:je e f X.env (eval e X.env)=eval e X.env):PE X (.Attribute e f pos) (Ju X.K ta f):=by intro pins s σ H Q I h;refine Rk hb (thn .(aV) fun u s1 ⟨x,H1,I1,rx,a,C,dx,fs,v,ex,ea,c,n,l,q⟩=>?_);subst ex;obtain rfl:u=bY a:=rx;exact NJ I1 ea c n l fun u' s2 I2 ru=>⟨v,H1,I2,ru,q⟩
theorem pD (ha:PE X o ta) (hv:PE X value tv) (hs:dH value (aa (.Attribute o f pos')) pos.line X.env=aZ ar):PS X (.Assign [.Attribute o f pos'] value pos) (HI X.K ta tv f):=by intro pins s σ H D I h;refine plainObj_wpAny_Assign_Attribute (thn (hv pins s σ H _ I h) fun u s1 ⟨y,H1,I1,ry,q⟩=>thn (ha pins s1 σ H1 _ I1 q) fun ov s2 ⟨x,H2,I2,rx,a,C,dx,fs,ex,ea,c,n,l,q2⟩=>?_) hs;subst ex;obtain rfl:ov=bY a:=rx;exact GI I2 ea c n l ry fun s3 I3=>⟨σ,_,I3,q2⟩
end
section
variable {c:av} {b:aP}
inductive TyOf (K:aW) (H:Hp):V->av->Prop where
 |non:TyOf K H .non (.type "NoneType")
 |bl (x:aP):TyOf K H (.bl x) (.type "bool")
 |int (i:ah):TyOf K H (.int i) (.type "int")
 |str (x:ai):TyOf K H (.str x) (.type "str")
 |lst {a:au} {xs:ac V} (e:H a=aa (.lst xs)):TyOf K H (.ref a) (.type "list")
 |frz {a:au} {o:Obj} {xs:ac V} (e:H a=aa (.frz o (.lst xs))):TyOf K H (.ref a) (.type "list")
 |tup {a:au} {xs:ac V} (e:H a=aa (.tup xs)):TyOf K H (.ref a) (.type "tuple")
 |dK {a:au} {kvs:ac (Key×V)} (e:H a=aa (.dK kvs)):TyOf K H (.ref a) (.type "dict")
 |dT {a:au} {kvs:ac .(aR)} (e:H a=aa (.dT kvs)):TyOf K H (.ref a) (.type "dict")
 |ins {a C dx:au} {fs:ac (ai×V)} (e:H a=aa (.ins C dx fs)) (cl:Cls K C) (ha:ce K (.ref C) "__class__"=aa (aa (.builtin "object.__class__")))
   (hn:PySem.W.specialIn K (.builtin "object.__class__") "__get__"=aa (aa (.builtin "getset_descriptor.__get__"))) (htk:PySem.W.takesIn K (.builtin "object.__class__")=aa aj)
   (hm:PySem.W.mroIn K C (.type "object")=aa aj):TyOf K H (.ref a) (.ref C)
theorem Nu {x:V} {t:av} (I:Inv X pins σ H s) (rx:bu x u) (ty:TyOf X.K H x t) (e:Sl X.K t c=aa b) (h:∀tk,Q (.bool b) {s with toks:=tk}) :
  aD .(q) A (call (.builtin "isinstance") [u,c]) Q E s:=by
 cases ty with
 |non=>cases(show u=kT from rx);exact jV PySem.W.kitx_none I.kIn jU e .(F) h
 |bl y=>cases(show u=kU y from rx);exact jV PySem.W.kitx_bool I.kIn jU e .(F) h
 |int i=>obtain⟨t,q⟩:=(show ∃t,u=qZ i t from rx);cases q;exact jV PySem.W.kitx_int I.kIn jU e .(F) h
 |str y=>obtain⟨t,q⟩:=(show ∃t,u=uJ y t from rx);cases q;exact jV PySem.W.kitx_str I.kIn jU e .(F) h
 | @lst a xs ea=>
  cases(show u=bY a from rx);obtain⟨_,_,n,_,h1⟩:=(show cm X.prog X.w H s.heap a (.lst xs) from I.hok a _ ea);exact jV Sn I.kIn ⟨_,h1,rfl⟩ e .(F) h
 | @frz a ob xs ea=>
  cases(show u=bY a from rx);obtain⟨_,_,_,n,_,h1⟩:=(show cm X.prog X.w H s.heap a (.frz ob (.lst xs)) from I.hok a _ ea);exact jV Sn I.kIn ⟨_,h1,rfl⟩ e .(F) h
 | @tup a xs ea=>
  cases(show u=bY a from rx);obtain⟨_,_,_,p⟩:=(show cm X.prog X.w H s.heap a (.tup xs) from I.hok a _ ea);obtain⟨o,h1,h2,_⟩:=p;exact jV PySem.W.kitx_tuple I.kIn ⟨o,h1,h2⟩ e .(F) h
 | @dK a kvs ea=>
  cases(show u=bY a from rx);obtain⟨_,_,vs,_,p⟩:=(show cm X.prog X.w H s.heap a (.dK kvs) from I.hok a _ ea);obtain⟨o,es,ep,h1,h2,_⟩:=p;exact jV So I.kIn ⟨o,h1,h2.1⟩ e .(F) h
 | @dT a kvs ea=>
  cases(show u=bY a from rx);obtain⟨_,_,xs,_,o,es,ep,h1,h2,_⟩:=(show cm X.prog X.w H s.heap a (.dT kvs) from I.hok a _ ea);exact jV So I.kIn ⟨o,h1,h2.1⟩ e .(F) h
 | @ins a C dx fs ea cl ha hn htk hm=>
  cases(show u=bY a from rx);obtain⟨mA,O,_⟩:=sM I.hok ea;obtain⟨od,J,_⟩:=O.look;exact jV (PySem.W.kitx_own (cl.get _) cl.hd ha hn htk hm) I.kIn J e .(F) h
end
structure Room (k:ao) (A:cR):Prop where
 hd:A.handled=af
 dp:A.depth+3*k+5<recursionLimit
 un:A.units+16*k+200<cg
theorem Room.mono {k:ao} (r:Room k A) (h:j<=k):Room j A:=⟨r.hd,by have:=r.dp;omega,by have:=r.un;omega⟩
theorem Room.deeper {k:ao} (r:Room (k+1) A) (env:cG):Room k (A.deeper env):=
 ⟨r.hd,by have:=r.dp;show A.depth+1+3*k+5 < _;omega,by have:=r.un;show A.units+3+16*k+200 < _;omega⟩
theorem GW {us:ac av} :.(bp).depth=A.depth+1:=by
 first|rfl|simp[EU,Code.weight,Code.isCreation,Code.isGuard,Code.isCaller,Sq,EV,guardIds]
theorem LP {us:ac av} :.(bp).units=A.units+1:=by
 first|rfl|simp[EU,Code.cUnits,Sq,EV]
theorem Room.make {k:ao} (r:Room (k+1) A) (C:au) (us:ac av) (kw:ac (ai×av)):Room k .(bp):=
 ⟨r.hd,by have:=r.dp;rw[GW];omega,by have:=r.un;rw[LP];omega⟩
theorem Room.depth {k:ao} (r:Room k A):A.depth<recursionLimit:=by have:=r.dp;omega
noncomputable def zv:TA:=fun _ H Q=>Q [] H
noncomputable def PR (ta:TE) (tr:TA):TA:=fun σ H Q=>ta σ H fun x H1=>tr σ H1 fun xs H2=>Q (x::xs) H2
section
variable {t:TA}
theorem jx:PA X [] zv:=fun _ _ _ _ H Q I h=>Sr ⟨[],H,I,.nil,h⟩
theorem iH (ha:PE X e te) (hr:PA X es t) (hs:aO (e::es) X.env=(ar,eval e X.env)::aO es X.env:=by rfl):PA X (e::es) (PR te t):=by intro pos pins s σ H Q I h;rw[hs];show aD _ _ (spliced ((ar,eval e X.env)::bV pos (aO es X.env))) _ _ s;refine Ss (thn .(aW) fun u s1 ⟨x,H1,I1,r1,q1⟩=>?_);exact thn (hr pos pins s1 σ H1 _ I1 q1) fun us s2 ⟨xs,H2,I2,r2,q2⟩=>⟨x::xs,H2,I2,.cons r1 r2,q2⟩
def On (t:TA):TE:=fun σ H Q=>t σ H fun xs H1=>xs.length<=aH/\∀p,H1 p=af->Q (.ref p) (upd H1 p (.tup xs))
def P4 (t:TA):TE:=fun σ H Q=>t σ H fun xs H1=>xs.length<=aH/\∀p,H1 p=af->Q (.ref p) (upd H1 p (.lst xs))
theorem Oi {x1} (h:PA X es t):PE X (.Tuple es x1 pos) (On t):=by intro pins s σ H Q I hq;refine wpAny_Tuple_spliced (thn (h pos pins s σ H _ I hq) fun us s1 ⟨xs,H1,I1,r,z,q⟩=>⟨by rw[←r.length];exact z,?_⟩);have hf:H1 s1.heap.objs.size=af:=I1.hok.fresh (qv _);refine⟨.ref s1.heap.objs.size,upd H1 s1.heap.objs.size (.tup xs),I1.laid (t':=s1.toks) (fun b u e=>qt _ e) (qv _) ?_,rfl,q _ hf⟩;exact⟨z,us,r,⟨_,qG _ rfl,rfl,_,rfl⟩⟩
theorem Gw (h:PA X es t):PE X (.List es pos) (P4 t):=by intro pins s σ H Q I hq;refine wpAny_List_spliced (thn (h pos pins s σ H _ I hq) fun us s1 ⟨xs,H1,I1,r,z,q⟩=>⟨by rw[←r.length];exact z,?_⟩);have hf:H1 s1.heap.objs.size=af:=I1.hok.fresh (qv _);refine⟨.ref s1.heap.objs.size,upd H1 s1.heap.objs.size (.lst xs),I1.laid (t':=s1.toks) (fun b u e=>qt _ e) (qv _) ?_,rfl,q _ hf⟩;exact⟨z,us,0,r,qG _ rfl⟩
end
abbrev Sp:=ac V->Hp->VK->XK->Prop
abbrev CXT:=ac cG->Hp->aI->XK->av->aI->Prop
structure Env0 (P:dF) (w:cL) (K:aW) (mg:ai->aq av) (base:Heap) (A:cR) (outer:ac cG) (s:aI) (H:Hp):Prop where
 frames:A.frames=aa outer
 mod:Mod K mg base
 bs:∀b o,base.get? b=aa o->s.heap.get? b=aa o/\H b=af
 bsz:base.objs.size<=s.heap.objs.size
 funs:s.heap.FunFrames base outer
 frf:∀b∈frs outer,H b=af
 hok:HOk P w H s.heap
 bare:kY s.gens
noncomputable def CE (outer:ac cG) (P:dF) (w:cL) (H:Hp) (s:aI) (Q:VK) (u:av) (s':aI):Prop:=
 ∃v H',s'.os=s.os/\kY s'.gens/\Un (frs outer) [] H H' s.heap s'.heap/\HOk P w H' s'.heap/\bu v u/\Q v H'
noncomputable def CR (CX:CXT) (outer:ac cG) (P:dF) (w:cL) (H:Hp) (s:aI) (Q:VK) (E:XK) (r:lb) (s':aI):Prop:=
 match r with
 |.ok (.ret u)=>CE outer P w H s Q u s'
 |.ok _=>False
 |.error e=>CX outer H s E e s'
structure FnOk (P:dF) (w:cL) (K:aW) (mg:ai->aq av) (base:Heap) (CX:CXT) (k:ao) (f:au) (fd:lg) (ps:ac ai) (sp:Sp):Prop where
 len:∀vs H Q E,sp vs H Q E->vs.length=ps.length
 run:∀(A:cR) (outer:ac cG) (s:aI) (H:Hp) (args:Args) (us:ac av) (vs:ac V) (Q:VK) (E:XK),Room k A->Env0 P w K mg base A outer s H->rC s fd args (ps.zip us)->bi vs us->sp vs H Q E->
  fz (aQ P w) A (.call (.ref f) args) (CR CX outer P w H s Q E) s
variable {mg:ai->aq av} {base:Heap} {CX:CXT} {fd:lg} {ps:ac ai} {sp:Sp}
theorem FnOk.imp {k:ao} {f:au} {sp':Sp} (F:FnOk P w K mg base CX k f fd ps sp)
  (h:∀vs H Q E,sp' vs H Q E->sp vs H Q E):FnOk P w K mg base CX k f fd ps sp':=
 ⟨fun vs H Q E q=>F.len vs H Q E (h _ _ _ _ q),fun A outer s H args us vs Q E hr he hb hv hs=>F.run A outer s H args us vs Q E hr he hb hv (h _ _ _ _ hs)⟩
variable {outer:ac cG}
theorem Env0.make (e:Env0 P w K mg base A outer s H) (C:au) (us:ac av) (kw:ac (ai×av)) :
  Env0 P w K mg base .(bp) outer s H:=⟨by first|exact e.frames|(simpa[EU,Code.envs,EV,pushEnvs] using e.frames),e.mod,e.bs,e.bsz,e.funs,e.frf,e.hok,e.bare⟩
theorem Inv.env0 (I:Inv X pins σ H s):Env0 X.prog X.w X.K X.mg X.base X.A X.stack s H:=
 ⟨I.ok.frames,I.ok.mod,I.bs,qN I.ok.bsz I.sz,I.stack,I.stkFree,I.hok,I.bare⟩
theorem Inv.after {Q:VK} (I:Inv X pins σ H s) (h:CE X.stack X.prog X.w H s Q u s'):EP X pins σ Q u s':=by obtain⟨v,H',os,bare,un,hok,r,q⟩:=h;obtain⟨hh,g,d,t,os'⟩:=s';obtain rfl:os'=s.os:=os;exact⟨v,H',I.call (h':=hh) (g':=g) (d':=d) (t':=t) (ch:=[]) un hok bare (fun b z=>bA z (by simp)),r,q⟩
noncomputable def LY (sp:Sp) (dvs:ac V) (E:XK) (t:TA):TE:=fun σ H Q=>t σ H fun vs H1=>sp (vs++dvs) H1 Q E
noncomputable def Bb (C:au) (m:ai) (sp:Sp) (dvs:ac V) (E:XK) (ta:TE) (t:TA):TE:=fun σ H Q=>ta σ H fun x H1=>∃a dx fs,x=.ref a/\H1 a=aa (.ins C dx fs)/\fs.lookup m=af /\
 t σ H1 fun vs H2=>sp (x::(vs++dvs)) H2 Q E
def J0 (C:au) (sp:Sp) (dvs:ac V) (E:XK) (t:TA):TE:=fun σ H Q=>t σ H fun vs H1=>∀x dx,H1 x=af->H1 dx=af->dx≠x->
 sp (.ref x::(vs++dvs)) (upd (upd H1 dx (.own x)) x (.ins C dx [])) (fun v H2=>v=.non/\Q (.ref x) H2) E
noncomputable def fm (K:aW) (fd:lg) (ps:ac ai) (ds:ac av):Prop:=
 ∀(s:aI) (us:ac av),K.In s.heap->(us++ds).length=ps.length->rC s fd ⟨us,[]⟩ (ps.zip (us++ds))
theorem fm.all (h:∀us:ac av,us.length=ps.length->gw fd ⟨us,[]⟩=aZ (ps.zip us)):fm K fd ps []:=fun s us _ hl=>by rw[jf] at hl ⊢;exact .of_eq (h us hl)
noncomputable def mx (CX:CXT) (X:Cx) (E:XK):Prop:=∀(pins:ac (au×Obj)) (σ:St) (H:Hp) (s:aI) (e:av) (s':aI),Inv X pins σ H s->CX X.stack H s E e s'->X.xe e s'
variable {dvs vs:ac V} {apos:dq}
section
variable {k:ao} {f:au} {ds:ac av} {E:XK} {o:Expr} {t:TA}
theorem wj {Q:VK} {us:ac av} (F:FnOk X.prog X.w X.K X.mg X.base CX k f fd ps sp) (hr:Room k X.A) (hb:fm X.K fd ps ds) (hd:bi dvs ds) (hx:mx CX X E)
  (I:Inv X pins σ H s) (r:bi vs us) (h:sp (vs++dvs) H Q E):aD .(q) X.A (call (.ref f) us) (EP X pins σ Q) X.xe s:=by
 have r2:bi (vs++dvs) (us++ds):=r.append hd;have hl:(us++ds).length=ps.length:=by rw[←r2.length];exact F.len _ _ _ _ h
 refine yv (rD (F.run X.A X.stack s H ⟨us,[]⟩ (us++ds) (vs++dvs) Q E hr I.env0 (hb s us I.kIn hl) r2 h) fun r s' hq=>?_);cases r with
 |error e=>exact hx pins σ H s e s' I hq
 |ok fl=>
  cases fl with
  |ret u=>exact I.after hq
  |next=>exact hZ hq
  |brk=>exact hZ hq
  |cont=>exact hZ hq
theorem zT (F:FnOk X.prog X.w X.K X.mg X.base CX k f fd ps sp) (hr:Room k X.A) (hg:Gl X x) (hm:X.mg x=aa (.ref f)) (hk:fP X.K (.ref f)=aj) (hb:fm X.K fd ps ds) (hd:bi dvs ds) (hx:mx CX X E)
  (ha:PA X (e::es) t) (hdb:.(s)=ar:=by decide) (he:aO (e::es) X.env=(ar,eval e X.env)::aO es X.env:=by rfl) (hpl:.(ae).any (·.1)=ar:=by rfl) :
  PE X .(au) (LY sp dvs E t):=by
 intro pins s σ H Q I h;refine rE (v8 I hg hm ?_ hdb);refine EW (h₀:=X.base) I.ok.mod.kin hk (thn (ha pos pins s σ H _ I h) fun us s1 ⟨vs,H1,I1,r,q⟩=>⟨I1.kIn,?_⟩) he hpl;exact wj F hr hb hd hx I1 r q
theorem Bt (he:PE X o ta) (c:Cls X.K C) (hm:Meth X.K C m f) (F:FnOk X.prog X.w X.K X.mg X.base CX k f fd ps sp) (hr:Room k X.A) (hb:fm X.K fd ps ds) (hd:bi dvs ds) (hx:mx CX X E) (ha:PA X (e::es) t)
  (hst:aO (e::es) X.env=(ar,eval e X.env)::aO es X.env:=by rfl) (hpl:.(ae).any (·.1)=ar:=by rfl)
  (ht:eval (.Call (.Attribute o m apos) (e::es) [] pos) X.env=(do
   let ov ←eval o X.env
   om apos.atName
   let (f,first) ←hW [ov] (ot ov m pl)
   uS pos f first (bV pos (aO (e::es) X.env)) (jW pos (jX [] X.env))):=by rfl) :
  PE X (.Call (.Attribute o m apos) (e::es) [] pos) (Bb C m sp dvs E ta t):=by
 intro pins s σ H Q I h;refine Su (pl:=pl) (thn .(aV) fun u s1 ⟨x,H1,I1,rx,a,dx,fs,ex,ea,l,q⟩=>?_) ht;subst ex;obtain rfl:u=bY a:=rx;refine Bg I1 ea c hm l ?_;refine EW (first:=[.ref a]) (h₀:=X.base) I.ok.mod.kin hm.kp (thn (ha pos pins s1 σ H1 _ I1 q) fun us s2 ⟨vs,H2,I2,r,q2⟩=>⟨I2.kIn,?_⟩) hst hpl;exact wj (us:=.ref a::us) (vs:=.ref a::vs) F hr hb hd hx I2 (.cons rfl r) q2
theorem Pa (he:PE X o ta) (c:Cls X.K C) (hm:Meth X.K C m f) (F:FnOk X.prog X.w X.K X.mg X.base CX k f fd ps sp) (hr:Room k X.A) (hb:fm X.K fd ps ds) (hd:bi dvs ds) (hx:mx CX X E)
  (ht:eval (.Call (.Attribute o m apos) [] [] pos) X.env=(do
   let ov ←eval o X.env
   om apos.atName
   let (f,first) ←hW [ov] (ot ov m pl)
   uS pos f first (bV pos (aO [] X.env)) (jW pos (jX [] X.env))):=by rfl) :
  PE X (.Call (.Attribute o m apos) [] [] pos) (Bb C m sp dvs E ta zv):=by
 intro pins s σ H Q I h;refine Su (pl:=pl) (thn .(aV) fun u s1 ⟨x,H1,I1,rx,a,dx,fs,ex,ea,l,q⟩=>?_) ht;subst ex;obtain rfl:u=bY a:=rx;refine Bg I1 ea c hm l ?_;exact PySem.W.callWith_K0 (first:=[.ref a]) I1.kIn hm.kp (wj (us:=[.ref a]) (vs:=[.ref a]) F hr hb hd hx I1 (.cons rfl .nil) q)
structure Mk (K:aW) (C f:au):Prop where
 makes:rA K C=aj
 init:ce K (.ref C) "__init__"=aa (aa (.ref f))
 fn:oq K (.ref f)=aj
 kp:fP K (.ref C)=aj
theorem OU {Q:VK} {us:ac av} (M:Mk X.K C f) (F:FnOk X.prog X.w X.K X.mg X.base CX k f fd ps sp) (hr:Room (k+1) X.A) (hb:fm X.K fd ps ds) (hd:bi dvs ds)
  (hx:mx CX X E) (I:Inv X pins σ H s) (r:bi vs us)
  (h:∀x dx,H x=af->H dx=af->dx≠x->sp (.ref x::(vs++dvs)) (upd (upd H dx (.own x)) x (.ins C dx [])) (fun v H2=>v=.non/\Q (.ref x) H2) E) :
  aD .(q) X.A (call (.ref C) us) (EP X pins σ Q) X.xe s:=by
 have hq:=h .(af) s.heap.objs.size (I.hok.fresh (mC _)) (I.hok.fresh (qv _)) (qC (rB _));have I2:=Inv.made (C:=C) I;have r2:bi (V.ref .(af)::(vs++dvs)) (bY .(af)::(us++ds)):=.cons rfl (r.append hd);have hl:(bY .(af)::us++ds).length=ps.length:=by have e:=r2.length;rw[F.len _ _ _ _ hq] at e;exact e.symm
 refine yv (JB (f:=f) I.kIn M.makes M.init (k0.mp M.fn) (rD (F.run _ X.stack _ _ ⟨bY .(af)::us,[]⟩ (bY .(af)::(us++ds)) _ _ E (hr.make C us [])
  (I2.env0.make C us []) (hb _ (bY .(af)::us) I2.kIn hl) r2 hq) fun r s' hq'=>?_))
 cases r with
 |error e=>exact hx pins σ _ _ e s' I2 hq'
 |ok fl=>
  cases fl with
  |ret u=>
   obtain⟨v,H',I3,rv,ev,q3⟩:=I2.after hq';subst ev;exact⟨rv,⟨V.ref .(af),H',I3,rfl,q3⟩⟩
  |next=>exact hZ hq'
  |brk=>exact hZ hq'
  |cont=>exact hZ hq'
theorem wt (M:Mk X.K C f) (F:FnOk X.prog X.w X.K X.mg X.base CX k f fd ps sp) (hr:Room (k+1) X.A) (hg:Gl X x) (hm:X.mg x=aa (.ref C)) (hb:fm X.K fd ps ds) (hd:bi dvs ds) (hx:mx CX X E)
  (ha:PA X (e::es) t) (hdb:.(s)=ar:=by decide) (he:aO (e::es) X.env=(ar,eval e X.env)::aO es X.env:=by rfl) (hpl:.(ae).any (·.1)=ar:=by rfl) :
  PE X .(au) (J0 C sp dvs E t):=by
 intro pins s σ H Q I h;refine rE (v8 I hg hm ?_ hdb);refine EW (h₀:=X.base) I.ok.mod.kin M.kp (thn (ha pos pins s σ H _ I h) fun us s1 ⟨vs,H1,I1,r,q⟩=>⟨I1.kIn,?_⟩) he hpl;exact OU M F hr hb hd hx I1 r q
end
structure FnScope (N P:ac ai) (sc:Scope):Prop where
 kind:sc.kind=.function
 co:sc.isCoroutine=ar
 gen:sc.isGenerator=ar
 nd:N.Nodup
 pre:N.take P.length=P
 par:∀x∈P,sc.names.lookup x=aa .local\/sc.names.lookup x=aa .cell
 nofree:∀y∈sc.names,y.2≠.free
variable {kindOf:ai->aq ia}
theorem N5 :∀{binds:ac (ai×av)} {m:ai->aq av},(∀v,(x,v)∉binds)->mD kindOf binds m x=m x:=by
 intro xs0
 induction xs0 with
 |nil=>
  intro _ _;exact rfl
 |cons x0 r ih=>
  obtain⟨n,v⟩:=x0;intro m h;unfold mD;rw[ih fun w hw=>h w (qh _ hw)];split
  .have:x≠n:=by rintro rfl;exact h v qg
   simp[this]
  .rfl
theorem NG :∀{binds:ac (ai×av)} {m:ai->aq av},(∀v,(x,v)∉binds)->mE kindOf binds m x=m x:=by
 intro xs0
 induction xs0 with
 |nil=>
  intro _ _;exact rfl
 |cons x0 r ih=>
  obtain⟨n,v⟩:=x0;intro m h;unfold mE;rw[ih fun w hw=>h w (qh _ hw)];split
  .rfl
  .have:x≠n:=by rintro rfl;exact h v qg
   simp[this]
theorem AC {kindOf:ai->aq ia} {x:ai} {v:av}:∀{P:ac ai} {vs:ac av} {i:ao} {m:ai->aq av},P.Nodup->P[i]?=aa x->vs[i]?=aa v->kindOf x=aa .local->
  mD kindOf (P.zip vs) m x=aa v
 |[],_,_,_,_,h,_,_=>by simp at h
 |_::_,[],_,_,_,_,h,_=>by simp at h
 |p::P,w::vs,0,m,nd,h1,h2,hk=>by
  simp at h1 h2;subst h1;subst h2;show mD kindOf ((p,w)::P.zip vs) m p=_;unfold mD;rw[N5 fun v hv=>(eA.mp nd).1 (EX hv).1,qX hk];simp
 |p::P,w::vs,i+1,m,nd,h1,h2,hk=>by show mD kindOf ((p,w)::P.zip vs) m x=_;unfold mD;exact AC (i:=i) (eA.mp nd).2 (by simpa using h1) (by simpa using h2) hk
theorem Ab {kindOf:ai->aq ia} {x:ai} {v:av}:∀{P:ac ai} {vs:ac av} {i:ao} {m:ai->aq av},P.Nodup->P[i]?=aa x->vs[i]?=aa v->kindOf x≠aa .local->
  mE kindOf (P.zip vs) m x=aa v
 |[],_,_,_,_,h,_,_=>by simp at h
 |_::_,[],_,_,_,_,h,_=>by simp at h
 |p::P,w::vs,0,m,nd,h1,h2,hk=>by
  simp at h1 h2;subst h1;subst h2;show mE kindOf ((p,w)::P.zip vs) m p=_;unfold mE;rw[NG fun v hv=>(eA.mp nd).1 (EX hv).1,qY hk];simp
 |p::P,w::vs,i+1,m,nd,h1,h2,hk=>by show mE kindOf ((p,w)::P.zip vs) m x=_;unfold mE;exact Ab (i:=i) (eA.mp nd).2 (by simpa using h1) (by simpa using h2) hk
noncomputable def dw (N:ac ai) (vs:ac V):St:=vs.map aa++bM (N.length-vs.length) af
noncomputable def dX (CX:CXT) (P:dF) (w:cL) (K:aW) (mg:ai->aq av) (base:Heap) (N:ac ai) (qual:ai) (scope:Scope) (f:au) (cd:av) (A:cR) (outer:ac cG) (s:aI) (H:Hp) (E:XK):Cx where
 prog:=P
 w:=w
 K:=K
 mg:=mg
 base:=base
 A:=A.deeper (dI qual scope s.heap.objs.size f cd)
 N:=N
 s₀:=s
 H₀:=H
 env:=dI qual scope s.heap.objs.size f cd
 outer:=outer
 stack:=dI qual scope s.heap.objs.size f cd::outer
 ex:=[]
 calm:=aj
 fn:=fun _=>aj
 pn:=[]
 xe:=fun e s'=>aD (aQ P w) (A.deeper (dI qual scope s.heap.objs.size f cd)) (leaving (dI qual scope s.heap.objs.size f cd) e) (fun _ s''=>CX outer H s E e s'') (fun e' s''=>CX outer H s E e' s'') s'
variable {sc:Scope}
theorem Dy (h:sc.names.lookup x=aa .cell):∃c,(EY n sc.names []).lookup x=aa c:=by have q:=Sv sc.names n [] (.inl h);exact yw.mp q
variable {qual:ai} {scope:Scope} {cd:av}
theorem P3 {f:au} {s1:aI} {E:XK} {us:ac av} 
  (S:FnScope N ps scope) (hd:A.handled=af) (e0:Env0 P w K mg base A outer s H) (hl:vs.length=ps.length) (r:bi vs us)
  (x:InCallC s s.heap.objs.size (mD (dI qual scope s.heap.objs.size f cd).kindOf (ps.zip us) fun _=>af) (EY .(af) scope.names []) (mE (dI qual scope s.heap.objs.size f cd).kindOf (ps.zip us) fun _=>af) s1) :
  Inv (dX CX P w K mg base N qual scope f cd A outer s H E) [] (dw N vs) H s1:=by
 have hpl:ps.length<=N.length:=by have:=bU c8 S.pre;rw[qE] at this;omega
 obtain⟨h1,tk,rfl,hk⟩:=x.done;have noA:∀b:au,b∉(dX CX P w K mg base N qual scope f cd A outer s H E).ex:=fun b z=>bA (show b∈([]:ac au) from z) (by simp);refine⟨⟨e0.mod,S.kind,rfl,rfl,qv _,fun y z c h1 h2=>?_,fun y hy=>?_,fun y c _ h=>?_,fun _=>hd,Around.frames_deeper e0.frames,.inr ⟨rfl,rfl⟩,fun b z=>bA z (noA b),e0.bs,e0.bsz,fun b _ _=>noA b,fun b z=>bA z (noA b),e0.funs,e0.frf⟩,
  rfl,e0.bare,Un.kept hk,⟨_,x.toInCall.ns,fun i y v h1 h2 h3=>?_⟩,fun y c h=>⟨_,x.cell y c h⟩,e0.hok.fresh (qv _),fun y c h=>?_,fun p hp=>bA (show p∈([]:ac (au×Obj)) from hp) (by simp),e0.hok.kept hk,?_⟩
 .exact name_of_addr x.apart (mG h1) (mG h2)
 .have hy:scope.names.lookup y=aa .cell\/scope.names.lookup y=aa .free:=hy;rcases hy with hy|hy
  .exact Dy hy
  .exact bA rfl (S.nofree _ (mG hy))
 .exact rf (x.above y c (mG h))
 .have hi:i<vs.length:=by
   unfold dw at h2;by_cases hi:i<vs.length
   .exact hi
   .rw[qL (by simpa using hi)] at h2;rw[uT] at h2;split at h2<;>cases h2
  have ha:vs[i]?=aa v:=by
   unfold dw at h2;rw[qz (by simpa using hi),qk] at h2;cases e:vs[i]? with
   |none=>rw[e] at h2;cases h2
   |some a=>rw[e] at h2;cases h2;rfl
  obtain⟨u,hu,rv⟩:=r.get ha;have hp:ps[i]?=aa y:=by rw[←S.pre,uU .(b)];exact h1
  have ndP:ps.Nodup:=by rw[←S.pre];exact S.nd.sublist (mH _ _)
  refine⟨u,rv,?_⟩;rcases S.par y (qQ hp) with k|k
  .exact .inl ⟨k,AC ndP hp hu k⟩
  .obtain⟨c,e⟩:=Dy (n:=s.heap.objs.size+1) k;refine .inr ⟨.inl k,c,e,?_⟩;have q:=x.cell y c e;rw[Ab ndP hp hu (by show scope.names.lookup y≠_;rw[k];decide)] at q;exact q
 .exact e0.hok.fresh (rf (x.above y c (mG h)))
 .unfold dw;show _=N.length;rw[qj,qf,List.length_replicate];omega
variable {doc pm cdv ct oc:av} {an od:aq au} {osl:bO (aq av)}
theorem Bk {k:ao} {f:au} {params:Arguments} {dV kV:av} 
  (lk:K.lookup f=aa ⟨oc,od,.func (dS name qual params body scope dV kV doc pm an cdv ct),osl⟩) (hcd:mI K cdv qual=aj) (S:FnScope N ps scope)
  (len:∀vs H Q E,sp vs H Q E->vs.length=ps.length)
  (hbody:∀(A:cR) (outer:ac cG) (s:aI) (H:Hp) (vs:ac V) (Q:VK) (E:XK),Room k (A.deeper (dI qual scope s.heap.objs.size f cdv))->sp vs H Q E->
   ∃t,PSs (dX CX P w K mg base N qual scope f cdv A outer s H E) body t/\t {nx:=fun _ H'=>Q .non H',rt:=Q} (dw N vs) H) :
  FnOk P w K mg base CX (k+1) f (dS name qual params body scope dV kV doc pm an cdv ct) ps sp:=by
 refine⟨len,fun A outer s H args us vs Q E hr e0 hb r hsp=>?_⟩;have hl:=len _ _ _ _ hsp;have KX:K.In s.heap:=e0.mod.kin.keeps fun b o e=>(e0.bs b o e).1;have lim:s.heap.NoLimit:=e0.mod.nolimit.keeps fun b o e=>(e0.bs b o e).1;have hkind:∀y∈ps.zip us,scope.names.lookup y.1=aa .local\/(scope.names.lookup y.1=aa .cell/\((EY .(af) scope.names []).lookup y.1).isSome=aj):=fun⟨n,v⟩ hy=>by
  rcases S.par n (EX hy).1 with q|q
  .exact .inl q
  .exact .inr ⟨q,Sv _ _ _ (.inl q)⟩
 refine codeAny_call_function hr.depth (KX _ _ lk) rfl S.co S.gen rfl (PySem.W.codeRec_of KX hcd) (hb _ _ _ _ ?_);refine wpAny_newFunctionEnv_cells S.kind hkind fun env he s1 x=>?_;subst he;refine⟨lim.keeps x.toInCall.keep,codeAny_func ?_⟩;obtain⟨t,ht,hq⟩:=hbody A outer s H vs Q E (hr.deeper _) hsp;have I:Inv (dX CX P w K mg base N qual scope f cdv A outer s H E) [] (dw N vs) H s1:=P3 S hr.hd e0 hl r x;refine hV (ht [] s1 (dw N vs) H _ I hq) (fun fl s' hs=>?_) fun e s' hs=>hs;have fin:∀{σ':St} {H':Hp} {v:V} {u:av},Inv (dX CX P w K mg base N qual scope f cdv A outer s H E) [] σ' H' s'->bu v u->Q v H'->CE outer P w H s Q u s':=
  fun {σ' H' v u} J rv q=>⟨v,H',J.os,J.bare,J.base,J.hok,rv,q⟩
 cases fl with
 |ret u=>
  obtain⟨v,σ',H',J,rv,q⟩:=hs;exact fin J rv q
 |next=>
  obtain⟨σ',H',J,q⟩:=hs;exact fin (v:=V.non) (u:=kT) J rfl q
 |brk=>
  obtain⟨_,_,_,q⟩:=hs;exact hZ q
 |cont=>
  obtain⟨_,_,_,q⟩:=hs;exact hZ q
section
variable {t:TA} {id T:cK} {r:ac V->Hp->VK->Prop}
noncomputable def tCB (r:ac V->Hp->VK->Prop) (t:TA):TE:=fun σ H Q=>t σ H fun vs H1=>r vs H1 Q
theorem zB (hc:eU X (.builtin id) r) (hg:Gl X x) (hm:X.mg x=af) (hv:dR x=aa (.builtin id)) (ha:PA X (e::es) t) (hn:x≠"__name__":=by decide) (hdb:.(s)=ar:=by decide)
  (he:aO (e::es) X.env=(ar,eval e X.env)::aO es X.env:=by rfl) (hpl:.(ae).any (·.1)=ar:=by rfl):PE X .(au) (tCB r t):=by
 intro pins s σ H Q I h;refine rE (jF I hg hm hv ?_ hn hdb);exact UN (thn (ha pos pins s σ H _ I h) fun us s1 ⟨vs,H1,I1,r1,q1⟩=>hc pins s1 σ H1 vs us Q I1 r1 q1) he hpl
theorem Cj (hc:eU X (.type T) r) (hg:Gl X x) (hm:X.mg x=af) (hv:dR x=aa (.type T)) (ha:PA X (e::es) t) (hn:x≠"__name__":=by decide) (hdb:.(s)=ar:=by decide)
  (he:aO (e::es) X.env=(ar,eval e X.env)::aO es X.env:=by rfl) (hpl:.(ae).any (·.1)=ar:=by rfl):PE X .(au) (tCB r t):=by
 intro pins s σ H Q I h;refine rE (jF I hg hm hv ?_ hn hdb);exact uN (thn (ha pos pins s σ H _ I h) fun us s1 ⟨vs,H1,I1,r1,q1⟩=>hc pins s1 σ H1 vs us Q I1 r1 q1) he hpl
end
variable {sl:au} {vl vu:av} {hi:aq ah} {items:bO av}
namespace HT
theorem cat_tup {t b:au} {vs ws:ac av} (ht:uK s.heap t vs.toArray) (hb:uK s.heap b ws.toArray) (hv:vs≠[])
  (h1:ws=[]->Q (.ref t) s) (h2:ws≠[]->Q .(aQ) {s with heap:=s.heap.push {cls:=.type "tuple",data:=.seq (vs++ws).toArray} })
  (hsz:vs.length+ws.length<=aH):aD .(N) A (gu .Add (.ref t) (.ref b)) Q E s:=by
 obtain⟨⟨cls,dd,data,sl⟩,ho,hc,n,hd⟩:=id ht;obtain⟨⟨cls2,dd2,data2,sl2⟩,ho2,hc2,n2,hd2⟩:=id hb;simp only at hc hd hc2 hd2;subst hc hd hc2 hd2;have e:vs.toArray++ws.toArray=(vs++ws).toArray:=by simp
 by_cases hw:ws=[]
 .exact concat_meets ⟨_,ho,rfl⟩ ⟨_,ho2,rfl⟩ Sw seq_tuple_add Sx Sy (Sz _ _)
   (tuple_addW1 t b vs.toArray ws.toArray n n2 dd dd2 sl sl2 (by simpa using hv) (by simp[hw])) ⟨ho,ho2,h1 hw⟩
 .refine concat_meets ⟨_,ho,rfl⟩ ⟨_,ho2,rfl⟩ Sw seq_tuple_add Sx Sy (Sz _ _)
   (tuple_addW2 t b vs.toArray ws.toArray n n2 dd dd2 sl sl2 (by simpa using hv) (by simpa using hw) (by rw[qB,qB];exact hsz)) ⟨ho,ho2,?_⟩
  rw[e];exact h2 hw
noncomputable def sIx (n d:ao):aq ah->ao
 |none=>d
 |some v=>if v<0 then (v+(n:ah)).toNat else min v.toNat n
theorem HB (n d:ao) (hd:d<=n) (o:aq ah):sIx n d o<=n:=by
 cases o with
 |none=>exact hd
 |some v=>
  show(if v<0 then (v+(n:ah)).toNat else min v.toNat n)<=n;by_cases hv:v<0
  .rw[qX hv];omega
  .rw[qY hv];exact EZ _ _
theorem DZ (v:ah) (n d:ao):(if v<0 then max (v+(n:ah)) 0 else min v (n:ah))=((sIx n d (aa v):ao):ah):=by
 show(if v<0 then max (v+(n:ah)) 0 else min v (n:ah))=(((if v<0 then (v+(n:ah)).toNat else min v.toNat n):ao):ah);by_cases hv:v<0
 .simp only[qX hv];omega
 .simp only[qY hv];omega
theorem MV (lo hi:aq ah) (n:ao):E1 lo hi 1 (n:ah)=(((sIx n 0 lo:ao):ah),((sIx n n hi:ao):ah)):=by
 have h1:¬((1:ah)<0):=by omega
 unfold E1;simp only[h1,cH];refine Prod.ext ?_ ?_
 .cases lo with
  |none=>rfl
  |some v=>exact DZ v n 0
 .cases hi with
  |none=>rfl
  |some v=>exact DZ v n n
theorem Li (i j:ao):yx (i:ah) (j:ah) 1=j-i:=by
 unfold yx;have h1:(1:ah) > 0:=by omega
 simp only[h1,cy,Int.ediv_one];split<;>omega
theorem C6 {v:av} {o:aq ah} {Q:aq ah->aI->Prop} (p:mJ v o) (h:Q o s):aD .(N) A (UO v) Q E s:=by
 cases p with
 |none=>exact SA h
 |int i t=>exact slicePart_int h
theorem Ht {lo:aq ah} {Q:ah×ah×ao->aI->Prop} (hs:s.heap.IsSliceOf sl vl vu .none) (pl:mJ vl lo) (pu:mJ vu hi)
  (h:Q (((sIx n 0 lo:ao):ah),1,sIx n n hi-sIx n 0 lo) s):aD .(N) A (SB (.ref sl) (aZ (n:ah))) Q E s:=by
 obtain⟨os,hos,hcs,hds⟩:=id hs;unfold SB UP;refine qw (qw (E2 hos hds (x:=vl) rfl (qw (E2 hos hds (x:=vu) rfl (qw (E2 hos hds (x:=.none) rfl (qA ?_)))))));refine qw (SA ?_);show aD _ _ (if ((1:ah)==0)=aj then _ else _) _ _ s;rw[qY .(f)];refine qw (C6 pl (qw (C6 pu (qw (qA ?_)))));show aD _ _ (match E1 lo hi 1 (n:ah) with|(lo,hi)=>aZ (lo,(1:ah),yx lo hi 1)) _ _ s;rw[MV lo hi n];show aD _ _ (aZ (((sIx n 0 lo:ao):ah),(1:ah),yx ((sIx n 0 lo:ao):ah) ((sIx n n hi:ao):ah) 1)) _ _ s;rw[Li];exact qA h
theorem Mt (xs:bO av) (i k:ao):((cx k).filterMap fun(m:ao)=>xs[((i:ah)+(m:ah)*1).toNat]?).toArray=((xs.toList.drop i).take k).toArray:=by
 have e:(fun(m:ao)=>xs[((i:ah)+(m:ah)*1).toNat]?)=fun m=>xs[i+m]?:=by
  funext m
  have:((i:ah)+(m:ah)*1).toNat=i+m:=by omega
  rw[this]
 rw[e];have:=yy xs i k;rw[List.filterMap_map] at this;have e2:((fun x=>xs[x]?) ∘ fun x=>i+x)=fun m=>xs[i+m]?:=rfl;rw[e2] at this;rw[this]
theorem getItem_tuple_cut {t:au} {lo:aq ah} (ht:uK s.heap t items) (hs:s.heap.IsSliceOf sl vl vu .none) (pl:mJ vl lo) (pu:mJ vu hi)
  (hw:¬(sIx items.size 0 lo=0/\sIx items.size items.size hi=items.size))
  (h:Q .(aQ) {s with heap:=s.heap.push {cls:=.type "tuple",data:=.seq ((items.toList.drop (sIx items.size 0 lo)).take (sIx items.size items.size hi-sIx items.size 0 lo)).toArray} })
  (hsz:items.size<=aH):aD .(N) A (mK (.ref t) (.ref sl)) Q E s:=by
 have htake:sizeOk (.seq ((items.toList.drop (sIx items.size 0 lo)).take (sIx items.size items.size hi-sIx items.size 0 lo)).toArray):=by show ((items.toList.drop (sIx items.size 0 lo)).take (sIx items.size items.size hi-sIx items.size 0 lo)).toArray.size<=aH;rw[qB,qE,jg,jS];omega
 have hj:sIx items.size items.size hi<=items.size:=HB _ _ (qv _) hi;obtain⟨os,hos,hcs,hds⟩:=id hs;have hTs:s.TypeIs (.ref sl) "slice":=⟨os,hos,hcs⟩;unfold mK
 try with_reducible refine qU ?_
 first|refine qw (qA ?_)|skip
 refine qw (wpAny_sequenceKey ht.typeIs .(f) ?_);refine qw (SC (name:=ib "__getitem__") ht.typeIs E3
  (E4 E3 ht.typeIs entry_tuple_getitem ?_ (args_tuple_getitem _ _)))
 show aD _ _ (UQ (.ref t) >>= _) _ _ s;refine qw (tupleItemsOf_ ht ?_);refine qw (uV hTs ?_);rw[qX .(f)];refine qw (Ht hs pl pu ?_);have hno:¬((((sIx items.size 0 lo:ao):ah)==0 && (1:ah)==1 && (sIx items.size items.size hi-sIx items.size 0 lo)==items.size)=aj):=by intro q;rw[fU,fU] at q;have q1:((sIx items.size 0 lo:ao):ah)=0:=eq_of_beq q.1.1;have q2:sIx items.size items.size hi-sIx items.size 0 lo=items.size:=eq_of_beq q.2;exact hw ⟨by omega,by omega⟩
 show aD _ _ (if (((sIx items.size 0 lo:ao):ah)==0 && (1:ah)==1 && (sIx items.size items.size hi-sIx items.size 0 lo)==items.size)=aj then _ else _) _ _ s;rw[qY hno,Mt]
 first
  |exact qw (m:=yz _) (jd (qA ⟨_,rfl,qA h⟩) htake)
  |exact qw (m:=yz _) (jd (qw (qA (qA ⟨_,rfl,qA h⟩))) htake)
  |exact qw (qw (m:=yz _) (jd (qA (qA ⟨_,rfl,qA h⟩)) htake))
  |exact qw (qw (m:=yz _) (jd (qA ⟨_,rfl,qA h⟩) htake))
end HT
abbrev TO:=St->Hp->(aq ah->Hp->Prop)->Prop
noncomputable def PO (X:Cx) (e:aq Expr) (t:TO):Prop:=
 ∀(pins:ac (au×Obj)) (s:aI) (σ:St) (H:Hp) (Q:aq ah->Hp->Prop),Inv X pins σ H s->t σ H Q->
  aD .(q) X.A (evalPart e X.env) (fun u s'=>∃o H',Inv X pins σ H' s'/\mJ u o/\Q o H') X.xe s
noncomputable def IJ:TO:=fun _ H Q=>Q af H
noncomputable def JF (t:TE):TO:=fun σ H Q=>t σ H fun x H1=>∃i,x=.int i/\Q (aa i) H1
variable {p2:dq}
section
variable {lo hi:aq Expr} {tl th:TO}
theorem Ku:PO X af IJ:=by intro pins s σ H Q I h;rw[evalPart_none];exact qA ⟨af,H,I,.none,h⟩
theorem GF (h:PE X e te):PO X (aa e) (JF te):=by intro pins s σ H Q I hw;rw[evalPart_some];refine thn (h pins s σ H _ I hw) fun u s1 ⟨x,H1,I1,r1,q1⟩=>?_;obtain⟨i,rfl,q⟩:=q1;obtain⟨t,rfl⟩:=r1;exact⟨aa i,H1,I1,.int i t,q⟩
noncomputable def SlR (X:Cx) (r:V->aq ah->aq ah->Hp->VK->Prop):Prop:=
 ∀(pins:ac (au×Obj)) (s:aI) (σ:St) (H:Hp) (x:V) (v vl vu:av) (lo hi:aq ah) (sl:au) (Q:VK),Inv X pins σ H s->bu x v->s.heap.IsSliceOf sl vl vu .none->mJ vl lo->mJ vu hi->r x lo hi H Q->
  ∃T id,yA (.type T) "__getitem__"=aZ (aa (.builtin id))/\s.TypeIs v T/\aD .(q) X.A (mK v (.ref sl)) (EP X pins σ Q) X.xe s
theorem SlR.or {r r':V->aq ah->aq ah->Hp->VK->Prop} (h:SlR X r) (h':SlR X r'):SlR X (fun x lo hi H Q=>r x lo hi H Q\/r' x lo hi H Q):=by
 intro pins s σ H x v vl vu lo hi sl Q I rx hs pl pu q;rcases q with q|q
 .exact h pins s σ H x v vl vu lo hi sl Q I rx hs pl pu q
 .exact h' pins s σ H x v vl vu lo hi sl Q I rx hs pl pu q
noncomputable def tSl (r:V->aq ah->aq ah->Hp->VK->Prop) (te:TE) (tl th:TO):TE:=fun σ H Q=>te σ H fun x H1=>tl σ H1 fun l H2=>th σ H2 fun u H3=>r x l u H3 Q
theorem Gm {r:V->aq ah->aq ah->Hp->VK->Prop} (hr:SlR X r) (he:PE X e te) (hl:PO X lo tl) (hu:PO X hi th):PE X (.Subscript e (.Slice lo hi af p2) pos) (tSl r te tl th):=by intro pins s σ H Q I h;refine yB (thn .(aV) fun v s1 ⟨x,H1,I1,r1,q1⟩=>?_);refine wpAny_Slice (thn (hl pins s1 σ H1 _ I1 q1) fun vl s2 ⟨l,H2,I2,pl,q2⟩=>thn (hu pins s2 σ H2 _ I2 q2) fun vu s3 ⟨u,H3,I3,pu,q3⟩=>?_);rw[evalPart_none];refine qA ?_;have I4:Inv X pins σ H3 {s3 with heap:=s3.heap.push {cls:=.type "slice",data:=.fields #[vl,vu,.none]} }:=I3.kept (t':=s3.toks) fun b ob q=>qt _ q;obtain⟨T,id,hT,ht,hg⟩:=hr pins {s3 with heap:=s3.heap.push {cls:=.type "slice",data:=.fields #[vl,vu,.none]} } σ H3 x v vl vu l u s3.heap.objs.size Q I4 r1 (SD ..) pl pu q3;show aD .(q) X.A (yC e (.Slice lo hi af p2) v (.ref s3.heap.objs.size)) (EP X pins σ Q) X.xe {s3 with heap:=s3.heap.push {cls:=.type "slice",data:=.fields #[vl,vu,.none]} };exact E5 (ops:=[.ref s3.heap.objs.size,v]) ht hT hg (by with_unfolding_all rfl)
def kj (xs:ac V) (lo hi:aq ah):ac V:=(xs.drop (HT.sIx xs.length 0 lo)).take (HT.sIx xs.length xs.length hi-HT.sIx xs.length 0 lo)
theorem Bx (xs:ac V) (lo hi:aq ah):(kj xs lo hi).length<=xs.length:=by unfold kj;rw[qE,jg];omega
noncomputable def KH (K:aW):V->aq ah->aq ah->Hp->VK->Prop:=fun x lo hi H Q=>∃a xs,x=.ref a/\SqT K H a xs /\
 ¬(HT.sIx xs.length 0 lo=0/\HT.sIx xs.length xs.length hi=xs.length)/\∀p,H p=af->Q (.ref p) (upd H p (.tup (kj xs lo hi)))
theorem O7:SlR X (KH X.K):=by
 intro pins s σ H x v vl vu lo hi sl Q I rx hs pl pu h;obtain⟨a,xs,rfl,hx,hw,q⟩:=h;cases rx;obtain⟨its,r,ht,hz⟩:=I.tuple hx;have hlen:its.toArray.size=xs.length:=by rw[qB];exact r.length.symm
 refine⟨"tuple",_,E3.lookup,ht.typeIs,?_⟩;refine HT.getItem_tuple_cut ht hs pl pu (by rw[hlen];exact hw) ?_ (by rw[hlen];exact hz);rw[hlen];refine⟨.ref s.heap.objs.size,_,I.laid (t':=s.toks) (o:=.tup (kj xs lo hi)) (fun b ob q=>qt _ q) (qv _) ?_,rfl,q _ (I.hok.fresh (qv _))⟩;exact⟨qN (Bx xs lo hi) hz,_,(r.drop (HT.sIx xs.length 0 lo)).take (HT.sIx xs.length xs.length hi-HT.sIx xs.length 0 lo),yp _ _⟩
def CJ (K:aW):R2:=fun x y H Q=>∃a b xs ys,x=.ref a/\y=.ref b/\SqT K H a xs/\SqT K H b ys/\xs≠[]/\xs.length+ys.length<=aH /\
 (ys=[]->Q (.ref a) H)/\(ys≠[]->∀p,H p=af->Q (.ref p) (upd H p (.tup (xs++ys))))
theorem bi.nil_iff {xs:ac V} {us:ac av} (r:bi xs us):us=[]↔xs=[]:=by
 cases r with
 |nil=>simp
 |cons _ _=>simp
theorem IY:OpR X (gu .Add) (CJ X.K):=by intro pins s σ H x y v u Q I rx ry h;obtain⟨a,b,xs,ys,rfl,rfl,ha,hb,hx,hz,q1,q2⟩:=h;cases rx;cases ry;obtain⟨its,r1,p1,_⟩:=I.tuple ha;obtain⟨its2,r2,p2,_⟩:=I.tuple hb;refine HT.cat_tup p1 p2 (fun z=>hx (r1.nil_iff.mp z)) (fun z=>⟨.ref a,H,I,rfl,q1 (r2.nil_iff.mp z)⟩) (fun z=>?_) (by rw[←r1.length,←r2.length];exact hz);refine⟨.ref s.heap.objs.size,_,I.laid (t':=s.toks) (o:=.tup (xs++ys)) (fun b ob q=>qt _ q) (qv _) ?_,rfl,q2 (fun w=>z (r2.nil_iff.mpr w)) _ (I.hok.fresh (qv _))⟩;exact⟨by rw[qj];exact hz,_,r1.append r2,yp _ _⟩
end
noncomputable def ixN (n:ao) (i:ah):aq ao:=if 0<=i then (if i<n then aa i.toNat else af) else if -(n:ah)<=i then aa (i+n).toNat else af
def atI (xs:ac α) (i:ah):aq α:=(ixN xs.length i).bind fun j=>xs[j]?
theorem K0 {i:ah} (h:ixN n i=aa j):seqIndex? i n=aa j/\j<n /\ -(n:ah)<=i/\i<n:=by
 unfold ixN at h;by_cases h0:0<=i
 .rw[qX h0] at h;by_cases h1:i<n
  .rw[qX h1] at h;have e:i.toNat=j:=qH h;exact⟨by rw[seqIndex_of h0 h1,e],by omega,by omega,h1⟩
  .rw[qY h1] at h;cases h
 .rw[qY h0] at h;by_cases h1 : -(n:ah)<=i
  .rw[qX h1] at h;have e:(i+n).toNat=j:=qH h;exact⟨by rw[seqIndex_neg .(b) h1,e],by omega,h1,by omega⟩
  .rw[qY h1] at h;cases h
theorem wz {xs:ac α} {i:ah} {v:α} (h:atI xs i=aa v):∃j,seqIndex? i xs.length=aa j/\xs[j]?=aa v/\j<xs.length /\ -(xs.length:ah)<=i/\i<xs.length:=by
 unfold atI at h;cases e:ixN xs.length i with
 |none=>rw[e] at h;cases h
 |some j=>
  rw[e] at h;obtain⟨h1,h2,h3,h4⟩:=K0 e;exact⟨j,h1,h,h2,h3,h4⟩
theorem gz {xs:ac α} {v:α} (h:xs[j]?=aa v):atI xs (j:ah)=aa v:=by
 have hj:j<xs.length:=(df.mp h).1;have e:ixN xs.length (j:ah)=aa j:=by unfold ixN;rw[qX .(b),qX .(b)];simp
 unfold atI;rw[e];exact h
noncomputable def Ec (b:Expr):Prop:=∀o i,yD b ar o i=operate [o,i] (mK o i)
noncomputable def IxR (X:Cx) (r:R2):Prop:=
 ∀(value slice:Expr) (pins:ac (au×Obj)) (s:aI) (σ:St) (H:Hp) (x y:V) (v u:av) (Q:VK),Inv X pins σ H s->bu x v->bu y u->r x y H Q->
  yD slice ar v u=operate [v,u] (mK v u)->aD .(q) X.A (yC value slice v u) (EP X pins σ Q) X.xe s
noncomputable def MtR (X:Cx) (id:cK) (r:V->ac V->Hp->VK->Prop):Prop:=
 ∀(pins:ac (au×Obj)) (s:aI) (σ:St) (H:Hp) (x:V) (xs:ac V) (v:av) (us:ac av) (Q:VK),Inv X pins σ H s->bu x v->bi xs us->r x xs H Q->
  aD .(q) X.A (call (.builtin id) (v::us)) (EP X pins σ Q) X.xe s
variable {cpos:dq}
section
variable {a:Expr}
theorem IxR.or {r:R2} (h:IxR X r) (h':IxR X r'):IxR X (fun x y H Q=>r x y H Q\/r' x y H Q):=by
 intro value slice pins s σ H x y v u Q I rx ry q hs;rcases q with q|q
 .exact h value slice pins s σ H x y v u Q I rx ry q hs
 .exact h' value slice pins s σ H x y v u Q I rx ry q hs
theorem Ip {r:R2} (hr:IxR X r) (ha:PE X a ta) (hb:PE X b tb) (hs:Ec b):PE X (.Subscript a b pos) (tOp r ta tb):=by intro pins s σ H Q I h;exact yB (ww ha hb I h fun v u s2 x y H2 I2 rx ry q=>hr a b pins s2 σ H2 x y v u Q I2 rx ry q (hs _ _))
def D' (K:aW):R2:=fun x y H Q=>∃p xs i v,x=.ref p/\y=.int i/\SqL K H p xs/\atI xs i=aa v/\Q v H
def Bh (K:aW):R2:=fun x y H Q=>∃p xs i v,x=.ref p/\y=.int i/\SqT K H p xs/\atI xs i=aa v/\Q v H
def Ao:R2:=fun x y H Q=>∃z i c,x=.str z/\y=.int i/\z.length<=aH/\atI z.cps.toList i=aa c/\Q (.str ⟨#[c]⟩) H
theorem PQ:IxR X (D' X.K):=by
 intro value slice pins s σ H x y v u Q I rx ry h hs;obtain⟨p,xs,i,z,rfl,rfl,hq,he,q⟩:=h;cases rx;obtain⟨t,rfl⟩:=ry;obtain⟨its,r,pl,hz⟩:=I.list hq;obtain⟨j,h1,h2,h3,h4,h5⟩:=wz he;obtain⟨w,ew,rw'⟩:=r.get h2;have hl:=r.length;have hn:=tK;have fin:EP X pins σ Q w s:=⟨z,H,I,rw',q⟩;by_cases h0:0<=i
 .have hj:i.toNat=j:=by rw[seqIndex_of h0 h5] at h1;exact qH h1
  exact item_listR pl.isList h0 .(b) (by rw[hj];simpa using ew) fin hs
 .have hj:(i+(its.toArray.size:ah)).toNat=j:=by rw[seqIndex_neg .(b) h4] at h1;rw[qB,←hl];exact qH h1
  exact SE (x:=w) pl.isList.typeIs E6.lookup
   (wpAny_getItem_list_neg (Q:=fun r s'=>r=w/\EP X pins σ Q r s') pl.isList .(b) (by rw[qB]<;>omega) .(b) (by rw[hj];simpa using ew) ⟨rfl,fin⟩) hs
theorem Kd:IxR X (Bh X.K):=by
 intro value slice pins s σ H x y v u Q I rx ry h hs;obtain⟨p,xs,i,z,rfl,rfl,hq,he,q⟩:=h;cases rx;obtain⟨t,rfl⟩:=ry;obtain⟨its,r,pl,hz⟩:=I.tuple hq;obtain⟨j,h1,h2,h3,h4,h5⟩:=wz he;obtain⟨w,ew,rw'⟩:=r.get h2;have hl:=r.length;have hn:=tK;have fin:EP X pins σ Q w s:=⟨z,H,I,rw',q⟩;exact SE (x:=w) pl.typeIs slot_tuple_getitem.lookup
  (getItem_tuple (j:=j) (Q:=fun r s'=>r=w/\EP X pins σ Q r s') pl .(b) .(b) (by rw[qB,←hl];exact h1) (by simpa using ew) ⟨rfl,fin⟩) hs
theorem Hu:IxR X Ao:=by
 intro value slice pins s σ H x y v u Q I rx ry h hs;obtain⟨z,i,c,rfl,rfl,hz,he,q⟩:=h;obtain⟨t,rfl⟩:=rx;obtain⟨t',rfl⟩:=ry;obtain⟨j,h1,h2,h3,h4,h5⟩:=wz he;have hl:z.cps.toList.length=z.length:=by simp[rF]
 rw[hl] at h1 h4 h5;have hn:=tK;exact E5 (E7 s z t) slot_str_getitem.lookup (getItem_str (c:=c) (by have e1:decide (i < -(2 ^ 63:ah))=ar:=qO .(b);have e2:decide (i ≥ 2 ^ 63)=ar:=qO .(b);rw[e1,e2,Bool.or_false]) (by rw[h1];simpa using h2) ⟨.str ⟨#[c]⟩,H,I.tok _,⟨_,rfl⟩,q⟩) hs
def rIx (K:aW):R2:=fun x y H Q=>D' K x y H Q\/Bh K x y H Q\/Ao x y H Q
theorem Lj:IxR X (rIx X.K):=PQ.or (Kd.or Hu)
theorem Pu (lo hi:aq ah) (n:ao):(ou lo hi af n).1=((HT.sIx n 0 lo:ao):ah)/\(ou lo hi af n).2.1=((HT.sIx n n hi:ao):ah)/\(ou lo hi af n).2.2=1:=by
 refine⟨?_,?_,rfl⟩
 .cases lo with
  |none=>simp[ou,HT.sIx]
  |some i=>
   simp only[ou,HT.sIx,SF,show(1:ah) > 0 by decide,cy];by_cases h:i<0
   .simp only[h,cy]<;>omega
   .simp only[h,cH]<;>omega
 .cases hi with
  |none=>simp[ou,HT.sIx]
  |some i=>
   simp only[ou,HT.sIx,SF,show(1:ah) > 0 by decide,cy];by_cases h:i<0
   .simp only[h,cy]<;>omega
   .simp only[h,cH]<;>omega
theorem RP (its:ac av) (lo hi:aq ah):slicePick its.toArray lo hi af=((its.drop (HT.sIx its.length 0 lo)).take (HT.sIx its.length its.length hi-HT.sIx its.length 0 lo)).toArray:=by obtain⟨h1,h2,h3⟩:=Pu lo hi its.toArray.size;unfold slicePick;rw[h1,h2,h3];simp only[SG,yy,qB]<;>rfl
noncomputable def Ql (K:aW):V->aq ah->aq ah->Hp->VK->Prop:=fun x lo hi H Q=>∃a xs,x=.ref a/\SqL K H a xs/\∀p,H p=af->Q (.ref p) (upd H p (.lst (kj xs lo hi)))
theorem NZ:SlR X (Ql X.K):=by intro pins s σ H x v vl vu lo hi sl Q I rx hs pl pu h;obtain⟨a,xs,rfl,hx,q⟩:=h;cases rx;obtain⟨its,r,ht,hz⟩:=I.list hx;have hlen:=r.length;refine⟨"list",_,E6.lookup,ht.isList.typeIs,?_⟩;refine SH ht.isList hs pl pu .none (by simp) ?_ (by rw[qB]<;>omega);rw[RP,←hlen];refine⟨.ref s.heap.objs.size,_,I.laid (t':=s.toks) (o:=.lst (kj xs lo hi)) (fun b ob q=>qt _ q) (qv _) ?_,rfl,q _ (I.hok.fresh (qv _))⟩;exact⟨qN (Bx xs lo hi) hz,_,0,(r.drop (HT.sIx xs.length 0 lo)).take (HT.sIx xs.length xs.length hi-HT.sIx xs.length 0 lo),qG _ rfl⟩
theorem IX:eU X (.type "list") (fun xs H Q=>∃p ys,xs=[.ref p]/\(SqL X.K H p ys\/SqT X.K H p ys)/\∀l,H l=af->Q (.ref l) (upd H l (.lst ys))):=by
 intro pins s σ H xs us Q I r h;obtain⟨p,ys,rfl,hq,q⟩:=h;obtain⟨u,rfl,rx⟩:=eQ r;cases rx;have fin:∀(its:ac av),bi ys its->ys.length<=aH->∀(h':Heap) (c':ao),(∀b o',s.heap.get? b=aa o'->h'.get? b=aa o')->
   h'.get? s.heap.objs.size=aa {cls:=.type "list",dict:=af,data:=.seq its.toArray c',slots:=#[]}->EP X pins σ Q .(aQ) {s with heap:=h'}:=fun its r' hz h' c' kp e=>
  ⟨.ref s.heap.objs.size,_,I.laid (t':=s.toks) kp (qv _) (show cm X.prog X.w _ h' _ (.lst ys) from⟨hz,its,c',r',e⟩),rfl,q _ (I.hok.fresh (qv _))⟩
 rcases hq with hq|hq
 .obtain⟨its,r',pl,hz⟩:=I.list hq;have hlen:=r'.length;obtain⟨o,ho,hc,n,hd⟩:=pl.isList;exact call_list_seq p (.inl rfl) ho hc hd (fun h' c' kp e=>fin its r' hz h' c' kp e) (by simp only[qB]<;>omega)
 .obtain⟨its,r',pl,hz⟩:=I.tuple hq;have hlen:=r'.length;obtain⟨o,ho,hc,n,hd⟩:=pl;exact call_list_seq p (.inr rfl) ho hc hd (fun h' c' kp e=>fin its r' hz h' c' kp e) (by simp only[qB]<;>omega)
theorem Gb:eU X (.type "tuple") (fun xs H Q=>∃p ys,xs=[.ref p]/\((SqL X.K H p ys/\∀l,H l=af->Q (.ref l) (upd H l (.tup ys)))\/(SqT X.K H p ys/\Q (.ref p) H))):=by
 intro pins s σ H xs us Q I r h;obtain⟨p,ys,rfl,h⟩:=h;obtain⟨u,rfl,rx⟩:=eQ r;cases rx;rcases h with⟨hq,q⟩|⟨hq,q⟩
 .obtain⟨its,r',pl,hz⟩:=I.list hq;have hlen:=r'.length;refine call_tuple_list pl.isList (fun h' kp=>?_) (by simp only[qB]<;>omega);have I1:Inv X pins σ H {s with heap:=h'}:=I.kept (t':=s.toks) kp;have I2:Inv X pins σ (upd H h'.objs.size (.tup ys)) {s with heap:=h'.push {cls:=.type "tuple",data:=.seq its.toArray} } :=
   I1.laid (t':=s.toks) (fun b o e=>qt _ e) (qv _) (show cm X.prog X.w _ _ _ (.tup ys) from⟨hz,its,r',yp _ _⟩)
  exact⟨.ref h'.objs.size,_,I2,rfl,q _ (I1.hok.fresh (qv _))⟩
 .obtain⟨its,r',pl,hz⟩:=I.tuple hq;exact call_tuple_same pl ⟨.ref p,H,I,rfl,q⟩
noncomputable def tyV (K:aW) (T:cK) (x:V) (H:Hp):Prop:=match x with
 |.str _=>T="str"
 |.int _=>T="int"
 |.ref p=>(T="list"/\∃xs,SqL K H p xs)\/(T="tuple"/\∃o,K.lookup p=aa o/\o.cls=.type "tuple"/\o.dict=af) \/
   (T="dict"/\((∃kvs,H p=aa (.dK kvs))\/∃kvs,H p=aa (.dT kvs)))\/(T="set"/\∃S n,H p=aa (.set S n))
 |_=>False
theorem Go {T:cK} {x:V} {v:av} (I:Inv X pins σ H s) (r:bu x v) (ty:tyV X.K T x H) :
  s.TypeIs v T/\∀a,v=.ref a->∃ob,s.heap.get? a=aa ob/\ob.dict=af:=by
 cases x with
 |str z=>
  obtain⟨t,rfl⟩:=r;cases(show T="str" from ty);exact⟨E7 s z t,fun _ e=>nomatch e⟩
 |int i=>
  obtain⟨t,rfl⟩:=r;cases(show T="int" from ty);exact⟨E8 s i t,fun _ e=>nomatch e⟩
 |ref p=>
  cases r;rcases ty with⟨rfl,xs,hq⟩|⟨rfl,o,hk,hc,hd⟩|⟨rfl,hk⟩|⟨rfl,S,n,hk⟩
  .obtain⟨its,_,pl,_⟩:=I.list hq;refine⟨pl.isList.typeIs,fun a e=>?_⟩;cases e;obtain⟨o,n,e,c,hd,_⟩:=pl;exact⟨o,e,hd⟩
  .refine⟨⟨o,I.kIn p o hk,hc⟩,fun a e=>?_⟩;cases e;exact⟨o,I.kIn _ o hk,hd⟩
  .have z:∃o,s.heap.get? p=aa o/\o.ExactDict:=by
    rcases hk with⟨kvs,hk⟩|⟨kvs,hk⟩
    .obtain⟨_,_,_,_,o,_,_,e,ex,_⟩:=I.hok p _ hk;exact⟨o,e,ex⟩
    .obtain⟨_,_,_,_,o,_,_,e,ex,_⟩:=I.hok p _ hk;exact⟨o,e,ex⟩
   obtain⟨o,e,ex⟩:=z;refine⟨⟨o,e,ex.1⟩,fun a e2=>?_⟩;cases e2;exact⟨o,e,ex.2.1⟩
  .obtain⟨o,_,_,_,e,ex,_⟩:=I.hok p _ hk;refine⟨⟨o,e,ex.1⟩,fun a e2=>?_⟩;cases e2;exact⟨o,e,ex.2.1⟩
 |_=>exact hZ ty
def tBM (K:aW) (T:cK) (r:V->ac V->Hp->VK->Prop) (to:TE) (t:TA):TE:=fun σ H Q=>to σ H fun x H1=>tyV K T x H1/\t σ H1 fun xs H2=>r x xs H2 Q
variable {o:Expr} {to:TE} {t:TA} {T id:cK} {r:V->ac V->Hp->VK->Prop}
theorem vB (pa:PlainAttrs T) (slot:Slot T name id) (hty:typeOf (.builtin id)=aZ (.type "method_descriptor")) (hm:MtR X id r) (ho:PE X o to) (ha:PA X (e::es) t)
  (hbase:je o name X.env (eval o X.env)=eval o X.env:=by rfl)
  (hfew:((bV cpos (aO (e::es) X.env)).all (fun x=>!x.1) && (jW cpos (jX [] X.env)).all (fun x=>x.1.isSome)
   && decide ((e::es).length+([]:ac jY).length+(if ([]:ac jY).isEmpty then 0 else 1)<30))=aj:=by rfl)
  (hline:(apos.endLine==cpos.line)=aj:=by rfl) (hs:aO (e::es) X.env=(ar,eval e X.env)::aO es X.env:=by rfl) (hplain:(bV cpos (aO es X.env)).any (·.1)=ar:=by rfl) :
  PE X (.Call (.Attribute o name apos) (e::es) [] cpos) (tBM X.K T r to t):=by
 intro pins s σ H Q I h;refine wpAny_Call_method_late hbase hfew hline rfl (thn (ho pins s σ H _ I h) fun v s1 ⟨x,H1,I1,r1,ty,q1⟩=>?_);obtain⟨h1,h2⟩:=Go I1 r1 ty;refine⟨T,id,pa,slot,hty,h1,h2,?_⟩;have hA:=ha cpos pins s1 σ H1 _ I1 q1;rw[hs] at hA ⊢;refine SI (by show(ar || (bV cpos (aO es X.env)).any (·.1))=ar;rw[hplain]<;>rfl) (SJ ?_);exact thn hA fun us s2 ⟨vs,H2,I2,r2,q2⟩=>hm pins s2 σ H2 x vs v us Q I2 r1 r2 q2
end
noncomputable def MtM (X:Cx) (id:cK) (r:V->ac V->Hp->VK->Prop):Prop:=
 ∀(pins:ac (au×Obj)) (s:aI) (σ:St) (H:Hp) (x:V) (xs:ac V) (v:av) (us:ac av) (Q:VK),Inv X pins σ H s->bu x v->bi xs us->r x xs H Q->
  aD .(q) X.A (call (.builtin id) (v::us)) (EP X pins σ Q) X.xe s
theorem bi.one:∀{x:V} {us:ac av},bi [x] us->∃u,us=[u]/\bu x u
 |_,_,.cons r .nil=>⟨_,rfl,r⟩
theorem bi.reverse {xs:ac V} {us:ac av} (h:bi xs us):bi xs.reverse us.reverse:=by
 induction h with
 |nil=>exact .nil
 |cons r t ih=>rw[uW,uW];exact bi.append ih (.cons r .nil)
theorem bi.rep {xs:ac V} {us:ac av} (h:bi xs us):∀k:ao,bi (bM k xs).flatten (bM k us).flatten
 |0=>.nil
 |k+1=>by rw[li,li,ox,ox];exact bi.append h (bi.rep h k)
theorem DD (its:ac av):∀(k:ao) (acc:ac av),
  E9 (fun x1 x2=>x1++x2) acc.toArray (bM k its.toArray)=(acc++(bM k its).flatten).toArray
 |0,acc=>by simp
 |k+1,acc=>by
  have e:acc.toArray++its.toArray=(acc++its).toArray:=by simp
  have e2:(acc++its)++(bM k its).flatten=acc++(bM (k+1) its).flatten:=by rw[li,ox,rG]
  rw[←e2,←DD its k (acc++its),←e,li,fQ]
variable {its:ac av}
section
variable {l b:au} {xs zs:ac V}
theorem Inv.lset {its':ac av} {f:bO av->bO av} (I:Inv X pins σ H s) (hH:H l=aa (.lst xs))
  (e:s.heap.get? l=aa {cls:=.type "list",data:=.seq its.toArray n}) (hf:f its.toArray=its'.toArray) (hv:bi ys its') (hz:ys.length<=aH) :
  Inv X pins σ (upd H l (.lst ys)) {s with heap:=s.heap.update l (SK f),toks:=t'}:=by
 have q:=PySem.IsL.update e f;rw[hf] at q;refine I.write (x:=l) (e:=l) (by rw[hH];exact trivial) (.inl rfl) (fun b' u hb hu=>(qx s.heap (SK f) (cM hb)).trans hu) ⟨_,q⟩ ?_;exact⟨hz,its',_,hv,q⟩
theorem Inv.lnew (I:Inv X pins σ H s) (hv:bi ys its) (hz:ys.length<=aH) :
  Inv X pins σ (upd H s.heap.objs.size (.lst ys)) {s with heap:=s.heap.push {cls:=.type "list",data:=.seq its.toArray},toks:=t'} :=
 I.laid (fun _ _ q=>qt _ q) (qv _) ⟨hz,its,0,hv,qG _ rfl⟩
theorem Inv.fresh (I:Inv X pins σ H s):H s.heap.objs.size=af:=I.hok.fresh (qv _)
theorem Inv.lstM (I:Inv X pins σ H s) (hH:H l=aa (.lst xs)):xs.length<=aH/\∃(its:ac av) (n:ao),bi xs its/\xs.length=its.length/\s.heap.get? l=aa {cls:=.type "list",data:=.seq its.toArray n}:=by obtain⟨z,its,n,r,e⟩:=I.hok l _ hH;exact⟨z,its,n,r,r.length,e⟩
theorem CI (h:n<=aH):yE n=ar:=by unfold yE;exact qO .(b)
end
noncomputable def JI:V->ac V->Hp->VK->Prop:=fun x vs H Q=>∃l xs y,x=.ref l/\vs=[y]/\H l=aa (.lst xs)/\xs.length<aH/\Q .non (upd H l (.lst (xs++[y])))
theorem Ep:MtM X "list.append" JI:=by intro pins s σ H x vs v us Q I rx rv h;obtain⟨l,xs,y,rfl,rfl,hH,hz,q⟩:=h;cases rx;obtain⟨u,rfl,ru⟩:=rv.one;obtain⟨z,its,n,r,hl,e⟩:=I.lstM hH;refine yF SL ⟨_,e,rfl⟩ F.entry_list_append (F.args_list_append_2 _ _) (PySem.list_append l its.toArray n u (by rw[qB];omega)) ⟨e,?_⟩;refine⟨.non,_,I.lset (its':=its++[u]) hH e (by simp) (r.append (.cons ru .nil)) ?_,rfl,q⟩;rw[qj,oy];omega
noncomputable def MW:V->ac V->Hp->VK->Prop:=fun x vs H Q=>∃l b xs zs,x=.ref l/\vs=[.ref b]/\H l=aa (.lst xs)/\H b=aa (.lst zs)/\xs.length+zs.length<=aH/\Q .non (upd H l (.lst (xs++zs)))
theorem RW:MtM X "list.extend" MW:=by
 intro pins s σ H x vs v us Q I rx rv h;obtain⟨l,b,xs,zs,rfl,rfl,hH,hB,hz,q⟩:=h;cases rx;obtain⟨u,rfl,ru⟩:=rv.one;cases ru;obtain⟨z,its,n,r,hl,e⟩:=I.lstM hH;obtain⟨z2,its2,n2,r2,hl2,e2⟩:=I.lstM hB;have hsz:its.toArray.size+its2.toArray.size<=aH:=by rw[qB,qB];omega
 have hlong:¬(!its.toArray.isEmpty && yE (its.toArray.size+its2.toArray.size))=aj:=by rw[CI hsz,SM];exact qr
 refine yF SN ⟨_,e,rfl⟩ F.entry_list_extend (F.args_list_extend_2 _ _)
  (AutoSeq1.list_extend_list_list_0 l its.toArray n b its2.toArray n2 hlong (by rw[qB];omega) .(b)) ⟨e,e2,?_⟩
 refine⟨.non,_,I.lset (its':=its++its2) hH e (by simp) (r.append r2) ?_,rfl,q⟩;rw[qj];omega
def xH:R2:=fun x y H Q=>∃l b xs zs,x=.ref l/\y=.ref b/\H l=aa (.lst xs)/\H b=aa (.lst zs)/\xs.length+zs.length<=aH/\∀p,H p=af->Q (.ref p) (upd H p (.lst (xs++zs)))
theorem Cd:OpR X (gu .Add) xH:=by
 intro pins s σ H x y v u Q I rx ry h;obtain⟨l,b,xs,zs,rfl,rfl,hH,hB,hz,q⟩:=h;cases rx;cases ry;obtain⟨z,its,n,r,hl,e⟩:=I.lstM hH;obtain⟨z2,its2,n2,r2,hl2,e2⟩:=I.lstM hB;refine PySem.P.add_list e e2 ?_ (by rw[qB,qB];omega);have ea:its.toArray++its2.toArray=(its++its2).toArray:=by simp
 rw[ea];exact⟨.ref _,_,I.lnew (t':=s.toks) (r.append r2) (by rw[qj];omega),rfl,q _ I.fresh⟩
def AW:R2:=fun x y H Q=>∃l k xs,x=.ref l/\y=.int k/\H l=aa (.lst xs) /\ -(2 ^ 63)<=k/\k<2 ^ 63/\xs.length*k.toNat<=aH /\
 ∀p,H p=af->Q (.ref p) (upd H p (.lst (bM k.toNat xs).flatten))
theorem zG (xs:ac α) (k:ao):(bM k xs).flatten.length=k*xs.length:=by
 induction k with
 |zero=>simp
 |succ k ih=>rw[li,ox,qj,ih,oz,Nat.add_comm]
theorem LR:OpR X (gu .Mult) AW:=by
 intro pins s σ H x y v u Q I rx ry h;obtain⟨l,k,xs,rfl,rfl,hH,h1,h2,hz,q⟩:=h;cases rx;obtain⟨t,rfl⟩:=ry;obtain⟨z,its,n,r,hl,e⟩:=I.lstM hH;have hlen:its.toArray.size*k.toNat<=aH:=by rw[qB,←hl];exact hz
 have hcap:¬its.toArray.size*k.toNat > (2 ^ 63-1) / 8:=by
  have:(aH:ao)<=(2 ^ 63-1) / 8:=by decide
  omega
 have hfit:¬(!UR k)=aj:=by rw[fitsIndex_both h1 h2];exact qr
 have hlong:¬yE (its.toArray.size*k.toNat)=aj:=by rw[CI hlen];exact qr
 have hnew:E9 (fun x1 x2=>x1++x2) #[] (bM (if its.toArray.isEmpty=aj then 0 else k.toNat) its.toArray)=(bM k.toNat its).flatten.toArray:=by
  have f0:∀m:ao,E9 (fun x1 x2=>x1++x2) #[] (bM m its.toArray)=(bM m its).flatten.toArray:=fun m=>by have:=DD its m [];rw[qS] at this;exact this
  rw[f0];cases its with
  |nil=>simp
  |cons a r'=>rw[qY (by simp)]
 refine wpAny_binaryOp_repeat_ref (T:="list") (U:="int") .(f) ⟨_,e,rfl⟩ (fun s'=>E8 s' k t) noFill_list_mul F.fills_int_mul SO repeat_list F.slot_int_index.lookup
  (yF SO (E8 s k t) F.entry_int_rmul (F.args_int_rmul_2 _ _) (int___rmul___int_list k t l its.toArray n)
   ⟨e,rfl,⟨_,e,rfl⟩,yF F.slot_list_mul ⟨_,e,rfl⟩ F.entry_list_mul (F.args_list_mul_2 _ _) (AutoListH.list___mul___list_int_3 l its.toArray n k t hfit hcap hlong) ⟨e,?_⟩⟩)
 rw[hnew];exact⟨.ref _,_,I.lnew (t':=s.toks) (r.rep k.toNat) (by rw[zG,SQ];exact hz),rfl,q _ I.fresh⟩
section
variable [dG κ]
noncomputable def fY (kvs:ac (κ×V)) (k:κ):aq V:=(kvs.find? fun kv=>decide (kv.1=k)).map (·.2)
noncomputable def putK (kvs:ac (κ×V)) (k:κ) (v:V):ac (κ×V):=
 if (kvs.any fun kv=>decide (kv.1=k))=aj then kvs.map (fun kv=>if kv.1=k then (kv.1,v) else kv) else kvs++[(k,v)]
theorem t4 {p:κ×V} {r:ac (κ×V)} {k:κ} (e:p.1=k):fY (p::r) k=aa p.2:=by simp[fY,fB,e]
theorem ut {p:κ×V} {r:ac (κ×V)} {k:κ} (e:¬p.1=k):fY (p::r) k=fY r k:=by simp[fY,fB,e]
theorem MS (k:κ):∀kvs:ac (κ×V),(kvs.any fun kv=>decide (kv.1=k))=(fY kvs k).isSome:=by
 intro xs0
 induction xs0 with
 |nil=>
  exact rfl
 |cons p r ih=>
  rw[jZ];by_cases e:p.1=k
  .simp only[t4 e,qT e,Bool.true_or,Option.isSome_some]
  .rw[ut e,qO e,Fa];exact ih
theorem zY (kvs:ac (κ×V)) (k:κ) (v:V):(putK kvs k v).length<=kvs.length+1:=by
 unfold putK;split
 .rw[qf];omega
 .rw[qj,qi,ql];omega
theorem fy.isSome_eq {o:aq V} {u:aq av} (r:fy o u):o.isSome=u.isSome:=by
 cases o with
 |none=>cases u with
  |none=>rfl
  |some _=>exact(show False from r).elim
 |some _=>cases u with
  |none=>exact(show False from r).elim
  |some _=>rfl
theorem fy.getD {o:aq V} {u:aq av} {d:V} {d':av} (r:fy o u) (rd:bu d d'):bu (o.getD d) (u.getD d'):=by
 cases o with
 |none=>cases u with
  |none=>exact rd
  |some _=>exact(show False from r).elim
 |some _=>cases u with
  |none=>exact(show False from r).elim
  |some _=>exact r
theorem KV.val {kvs:ac (κ×V)} {vs:ac (κ×av)} (r:KV kvs vs) (k:κ):fy (fY kvs k) (oA vs k):=by
 unfold KV at r
 induction r with
 |nil=>exact jU
 | @cons p q ps qs h t ih=>
  obtain⟨h1,h2⟩:=h;by_cases e:p.1=k
  .have e':q.1=k:=h1.symm.trans e;have b:oA (q::qs) k=aa q.2:=by simp[oA,fB,e']
   rw[t4 e,b];exact h2
  .have e':¬q.1=k:=fun z=>e (h1.trans z);have b:oA (q::qs) k=oA qs k:=by simp[oA,fB,e']
   rw[ut e,b];exact ih
theorem KV.any {kvs:ac (κ×V)} {vs:ac (κ×av)} (r:KV kvs vs) (k:κ):(kvs.any fun kv=>decide (kv.1=k))=vs.any fun kv=>decide (kv.1=k):=by
 unfold KV at r
 induction r with
 |nil=>rfl
 |cons h t ih=>rw[jZ,jZ,ih,h.1]
theorem KV.repl {kvs:ac (κ×V)} {vs:ac (κ×av)} (r:KV kvs vs) (k:κ) (ry:bu y u) :
  KV (kvs.map fun kv=>if kv.1=k then (kv.1,y) else kv) (vs.map fun kv=>if kv.1=k then (kv.1,u) else kv):=by
 unfold KV at r ⊢
 induction r with
 |nil=>exact .nil
 | @cons p q ps qs h t ih=>
  rw[qm,qm];refine .cons ?_ ih;obtain⟨h1,h2⟩:=h;by_cases e:p.1=k
  .rw[qX e,qX (h1.symm.trans e)];exact⟨h1,ry⟩
  .rw[qY e,qY (fun z=>e (h1.trans z))];exact⟨h1,h2⟩
theorem KV.put {kvs:ac (κ×V)} {vs:ac (κ×av)} (r:KV kvs vs) (k:κ) (ry:bu y u):KV (putK kvs k y) (stored vs k u):=by
 unfold putK stored;rw[r.any k];by_cases e:(vs.any fun kv=>decide (kv.1=k))=aj
 .rw[qX e,qX e];exact r.repl k ry
 .rw[qY e,qY e];exact Paired.snoc r ⟨rfl,ry⟩
theorem KV.keys {kvs:ac (κ×V)} {vs:ac (κ×av)} (r:KV kvs vs):kvs.map (·.1)=vs.map (·.1):=by
 unfold KV at r
 induction r with
 |nil=>rfl
 |cons h t ih=>rw[qm,qm,ih,h.1]
theorem KV.length {kvs:ac (κ×V)} {vs:ac (κ×av)} (r:KV kvs vs):kvs.length=vs.length:=Paired.length r
end
theorem ka {k:Key} (r:bu (kV k) u):(cE P w).is k u=aj:=by
 cases k with
 |inl i=>obtain⟨t,e⟩:=(show ∃t,u=qZ i t from r);subst e;exact KP P w i t
 |inr x=>obtain⟨t,e⟩:=(show ∃t,u=uJ x t from r);subst e;exact Rs P w x t
theorem Gj :∀{ks:ac Key} {us:ac av},bi (ks.map kV) us->ItemsAre (cE P w) ks us:=by
 intro xs0
 induction xs0 with
 |nil=>
  intro _ r;rw[qP] at r;cases r;exact .nil
 |cons k ks ih=>
  intro _ r;rw[qm] at r;cases r with
  |cons h t=>exact .cons (ka h) (ih t)
noncomputable abbrev KT (H:Hp):ac .(aR)->ac (ac Key×au×av)->Prop:=Paired fun p q=>p.1=q.1/\H q.2.1=aa (.tup (p.1.map kV))/\bu p.2 q.2.2
theorem KT.val {kvs:ac .(aR)} {xs:ac (ac Key×au×av)} (r:KT H kvs xs) (k:ac Key):fy (fY kvs k) ((lj xs k).map (·.2)):=by
 induction r with
 |nil=>exact jU
 | @cons p q ps qs h t ih=>
  obtain⟨h1,_,h2⟩:=h;by_cases e:p.1=k
  .have e':q.1=k:=h1.symm.trans e;have b:lj (q::qs) k=aa q.2:=by simp[lj,fB,e']
   rw[t4 e,b];exact h2
  .have e':¬q.1=k:=fun z=>e (h1.trans z);have b:lj (q::qs) k=lj qs k:=by simp[lj,fB,e']
   rw[ut e,b];exact ih
theorem KT.repl {kvs:ac .(aR)} {xs:ac (ac Key×au×av)} (r:KT H kvs xs) (k:ac Key) (ry:bu y u) :
  KT H (kvs.map fun kv=>if kv.1=k then (kv.1,y) else kv) (xs.map (putAt k u)):=by
 induction r with
 |nil=>exact .nil
 | @cons p q ps qs h t ih=>
  rw[qm,qm];refine .cons ?_ ih;obtain⟨h1,h2,h3⟩:=h;unfold putAt;by_cases e:p.1=k
  .rw[qX e,qX (h1.symm.trans e)];exact⟨h1,h2,ry⟩
  .rw[qY e,qY (fun z=>e (h1.trans z))];exact⟨h1,h2,h3⟩
theorem KT.put {kvs:ac .(aR)} {xs:ac (ac Key×au×av)} (r:KT H kvs xs) (k:ac Key) {b:au} (hb:H b=aa (.tup (k.map kV))) (ry:bu y u) :
  KT H (putK kvs k y) (storedH xs k b u):=by
 have e:(kvs.any fun kv=>decide (kv.1=k))=(lj xs k).isSome:=by rw[MS,(r.val k).isSome_eq,yG]
 unfold putK storedH;rw[e];by_cases q:(lj xs k).isSome=aj
 .rw[qX q,qX q];exact r.repl k ry
 .rw[qY q,qY q];exact Paired.snoc r ⟨rfl,hb,ry⟩
theorem KT.keeps {kvs:ac .(aR)} {xs:ac (ac Key×au×av)} (r:KT H kvs xs) (ht:∀b ys,H b=aa (.tup ys)->H' b=aa (.tup ys)):KT H' kvs xs:=
 Paired.mapP r fun _ _ z=>⟨z.1,ht _ _ z.2.1,z.2.2⟩
section
variable {h:Heap}
theorem Dn {u:HO} (ok:HOk P w H h) (e:Rd H a u):cm P w H h a u:=e.ok ok
theorem i4 {kvs:ac (Key×V)} (ok:HOk P w H h) (e:Rd H a (.dK kvs)):kvs.length<=aH/\(a==iB)=ar/\∃vs,KV kvs vs/\h.DictOf (cE P w) a vs:=
 show cm P w H h a (.dK kvs) from Dn ok e
theorem Hd {kvs:ac (Key×V)} (ok:HOk P w H h) (e:H a=aa (.dK kvs)):kvs.length<=aH/\(a==iB)=ar/\∃vs,KV kvs vs/\h.DictOf (cE P w) a vs:=i4 ok (.inl e)
theorem kG {ks:ac Key} (ok:HOk P w H h) (e:H a=aa (.tup (ks.map kV))):(kX (cE P w)).is h ks a:=by obtain⟨_,its,r,o,h1,h2,n,h3⟩:=(show cm P w H h a (.tup (ks.map kV)) from ok a _ e);exact⟨o,its.toArray,n,h1,h2,h3,by simpa using Gj r⟩
theorem jJ {kvs:ac .(aR)} (ok:HOk P w H h) (e:Rd H a (.dT kvs)):kvs.length<=aH/\(a==iB)=ar /\
  ∃xs,KT H kvs xs/\h.DictOfH (kX (cE P w)) a xs:=by
 obtain⟨z,y,xs,r,o,es,ep,h1,h2,h3,h4,h5⟩:=(show cm P w H h a (.dT kvs) from Dn ok e);refine⟨z,y,xs,r,o,es,ep,h1,h2,h3,h4,fun x hx=>?_,h5⟩;have all:∀{l:ac .(aR)} {m:ac (ac Key×au×av)},KT H l m->∀x∈m,(kX (cE P w)).is h x.1 x.2.1:=by
  intro l m q
  induction q with
  |nil=>intro x hx;exact nomatch hx
  | @cons p q ps qs hq t ih=>
   intro x hx;rcases cr.mp hx with e|hx
   .subst e;exact kG ok (by rw[←hq.1];exact hq.2.1)
   .exact ih x hx
 exact all r x hx
theorem QM {kvs:ac .(aR)} (ok:HOk P w H h) (e:H a=aa (.dT kvs)):kvs.length<=aH/\(a==iB)=ar /\
  ∃xs,KT H kvs xs/\h.DictOfH (kX (cE P w)) a xs:=jJ ok (.inl e)
end
noncomputable def gk (H:Hp) (a:au) (y:V) (r:aq V):Prop:=
 (∃kvs k,Rd H a (.dK kvs)/\y=kV k/\r=fY kvs k)\/∃kvs k b,Rd H a (.dT kvs)/\y=.ref b/\H b=aa (.tup (k.map kV))/\r=fY kvs k
noncomputable def gZ (H:Hp) (a:au) (y v:V) (H':Hp):Prop:=
 (∃kvs k,H a=aa (.dK kvs)/\y=kV k/\kvs.length<aH/\H'=upd H a (.dK (putK kvs k v))) \/
 ∃kvs k b,H a=aa (.dT kvs)/\y=.ref b/\H b=aa (.tup (k.map kV))/\kvs.length<aH/\H'=upd H a (.dT (putK kvs k v))
theorem gk.k {kvs:ac (Key×V)} {k:Key} (e:H a=aa (.dK kvs)):gk H a (kV k) (fY kvs k):=.inl ⟨kvs,k,.inl e,rfl,rfl⟩
theorem gk.t {b:au} {kvs:ac .(aR)} {k:ac Key} (e:H a=aa (.dT kvs)) (eb:H b=aa (.tup (k.map kV))):gk H a (.ref b) (fY kvs k):=.inr ⟨kvs,k,b,.inl e,rfl,eb,rfl⟩
theorem gZ.k {kvs:ac (Key×V)} {k:Key} (e:H a=aa (.dK kvs)) (hl:kvs.length<aH):gZ H a (kV k) v (upd H a (.dK (putK kvs k v))):=.inl ⟨kvs,k,e,rfl,hl,rfl⟩
theorem gZ.t {b:au} {kvs:ac .(aR)} {k:ac Key} (e:H a=aa (.dT kvs)) (eb:H b=aa (.tup (k.map kV))) (hl:kvs.length<aH) :
  gZ H a (.ref b) v (upd H a (.dT (putK kvs k v))):=.inr ⟨kvs,k,b,e,rfl,eb,hl,rfl⟩
section
variable {r:av} {o:aq V}
theorem Inv.big (I:Inv X pins σ H s):iB<s.heap.objs.size:=by have h:eX<s.heap.objs.size:=(I.mod.glob.keeps I.bk).lt;exact rH .(f) h
theorem QF (hu:A.units+1<cg) (I:Inv X pins σ H s) (g:gk H a y (aa v)) (ry:bu y u) (h:∀w' s',Inv X pins σ H s'->bu v w'->Q w' s') :
  aD .(q) A (mK (.ref a) u) Q E s:=by
 rcases g with⟨kvs,k,e,ey,l⟩|⟨kvs,k,b,e,ey,eb,l⟩
 .subst ey;obtain⟨z,hd,vs,rel,dd⟩:=i4 I.hok e;obtain⟨w',hw,rw'⟩:=fy.some_of (v:=v) (o:=oA vs k) (by rw[l];exact rel.val k);exact wpAny_getItem_of (ka ry) dd.mapOf hw (h w' _ (I.tok _) rw')
 .subst ey;cases(show u=bY b from ry);obtain⟨z,hd,xs,rel,dd⟩:=jJ I.hok e;obtain⟨w',hw,rw'⟩:=fy.some_of (v:=v) (o:=(lj xs k).map (·.2)) (by rw[l];exact rel.val k);obtain⟨p,hp,hp2⟩:=oMd hw;refine wpAny_getItem_heap (uX hu) (kG I.hok eb) dd hp ?_;rw[hp2];exact h w' _ (I.tok _) rw'
theorem Nf (hu:A.units+1<cg) (I:Inv X pins σ H s) (g:gk H a y o) (ry:bu y u) (h:∀s',Inv X pins σ H s'->Q (.bool o.isSome) s') :
  aD .(q) A (dB .In u (.ref a)) Q E s:=by
 rcases g with⟨kvs,k,e,ey,l⟩|⟨kvs,k,b,e,ey,eb,l⟩
 .subst ey;obtain⟨z,hd,vs,rel,dd⟩:=i4 I.hok e;refine wpAny_in_of (ka ry) hd dd.mapOf ?_;rw[←(rel.val k).isSome_eq,←l];exact h _ (I.tok _)
 .subst ey;cases(show u=bY b from ry);obtain⟨z,hd,xs,rel,dd⟩:=jJ I.hok e;refine wpAny_in_heap (uX hu) (kG I.hok eb) hd dd ?_;have q:=(rel.val k).isSome_eq;rw[yG] at q;rw[←q,←l];exact h _ (I.tok _)
theorem Hq (hu:A.units+1<cg) (I:Inv X pins σ H s) (g:gk H a y o) (ry:bu y u) (h:∀s',Inv X pins σ H s'->Q (.bool (!o.isSome)) s') :
  aD .(q) A (dB .NotIn u (.ref a)) Q E s:=by
 rcases g with⟨kvs,k,e,ey,l⟩|⟨kvs,k,b,e,ey,eb,l⟩
 .subst ey;obtain⟨z,hd,vs,rel,dd⟩:=i4 I.hok e;refine wpAny_notIn_of (ka ry) hd dd.mapOf ?_;rw[←(rel.val k).isSome_eq,←l];exact h _ (I.tok _)
 .subst ey;cases(show u=bY b from ry);obtain⟨z,hd,xs,rel,dd⟩:=jJ I.hok e;refine wpAny_notIn_heap (uX hu) (kG I.hok eb) hd dd ?_;have q:=(rel.val k).isSome_eq;rw[yG] at q;rw[←q,←l];exact h _ (I.tok _)
theorem Eg {ob:HO} (I:Inv X pins σ H s) (mu:Mut (H a)) (hs:iC a s.heap h') (he:∃q,h'.get? a=aa q) (new:cm X.prog X.w (upd H a ob) h' a ob) :
  Inv X pins σ (upd H a ob) {s with heap:=h',toks:=t'} :=
 I.write (x:=a) (e:=a) mu (.inl rfl) (fun b q hb z=>(hs.2 b hb).trans z) he new
theorem K9 {kvs:ac (Key×V)} {vs:ac (Key×av)} (z:kvs.length<=aH) (hd:(a==iB)=ar) (rel:KV kvs vs) (dd:h'.DictOf (cE P w) a vs) :
  cm P w H' h' a (.dK kvs):=⟨z,hd,vs,rel,dd⟩
theorem Q5 {Q:mz->aI->Prop} (hu:A.units+1<cg) (I:Inv X pins σ H s) (g:gZ H a y v H') (ry:bu y u) (rv:bu v r) (h:∀s',Inv X pins σ H' s'->Q () s') :
  aD .(q) A (setItem (.ref a) u r) Q E s:=by
 rcases g with⟨kvs,k,e,ey,l,eH⟩|⟨kvs,k,b,e,ey,eb,l,eH⟩
 .subst ey eH;obtain⟨z,hd,vs,rel,dd⟩:=Hd I.hok e;have hz:vs.length<=aH:=by rw[←rel.length];exact z
  have hl:(putK kvs k v).length<=aH:=by have:=zY kvs k v;omega
  refine wpAny_setItem_pairs (hsz:=hz) (ka ry) dd fun h' dd' hs=>h _ ?_;have he:∃q,h'.get? a=aa q:=let ⟨q,_,_,hq,_⟩:=dd';⟨q,hq⟩
  exact Eg I (by rw[e];exact jU) hs he (K9 hl hd (rel.put k rv) dd')
 .subst ey eH;cases(show u=bY b from ry);obtain⟨z,hd,xs,rel,dd⟩:=QM I.hok e;have hz:xs.length<=aH:=by rw[←Paired.length rel];exact z
  have hl:(putK kvs k v).length<=aH:=by have:=zY kvs k v;omega
  refine wpAny_setItem_heap (hsz:=hz) (uX hu) (kG I.hok eb) dd fun h' dd' hs=>h _ ?_;obtain⟨q,es,ep,hq,h2,h3,h4,_,h5⟩:=dd';refine Eg I (by rw[e];exact jU) hs ⟨q,hq⟩ ⟨hl,hd,_,(rel.put k eb rv).keeps fun c ys ec=>?_,q,es,ep,hq,h2,h3,h4,h5⟩;rw[aF (wx ec e .(F))];exact ec
end
noncomputable def tZ (i:Expr):Prop:=∀ov iv,yD i ar ov iv=operate [ov,iv] (mK ov iv)
theorem HM {slice:Expr} {T id:cK} 
  (hl:yA (.type T) "__getitem__"=aZ (aa (.builtin id))) (hs:tZ slice)
  (h:aD .(N) A (eval value env) (fun o s₁=>aD .(N) A (eval slice env) (fun i s₂=>s₂.TypeIs o T/\aD .(N) A (mK o i) Q E s₂) E s₁) E s) :
  aD .(N) A (eval (.Subscript value slice pos) env) Q E s:=by
 refine yB (hV h (fun o s₁ h₁=>hV h₁ (fun i s₂ h₂=>?_) fun _ _ x=>x) fun _ _ x=>x);obtain⟨hT,h₂⟩:=h₂;unfold yC;refine qw ?_;rw[getitemInPython_of_ne hT.not_modules];refine qw (SS hT hl ?_);have fin:aD .(N) A (yD slice ar o i) (fun r s₃=>aD .(N) A (letTemporaryGo value o r >>= fun _=>aZ r) Q E s₃) E s₂:=by rw[hs o i];exact wpAny_operating (hV h₂ (fun r s₃ h₃=>qw (wpAny_letTemporaryGo (qA h₃))) fun _ _ x=>x)
 first
  |exact qA (qw fin)
  |exact qw (qA (qw fin))
  |exact qw fin
theorem Kt {o:aq V} (I:Inv X pins σ H s) (g:gk H a y o):s.TypeIs (.ref a) "dict":=by
 rcases g with⟨kvs,k,e,_,_⟩|⟨kvs,k,b,e,_,_,_⟩
 .obtain⟨_,_,vs,_,dd⟩:=i4 I.hok e;exact dd.typeIs
 .obtain⟨_,_,xs,_,dd⟩:=jJ I.hok e;exact dd.typeIs
def Qy (td ty:TE):TE:=fun σ H Q=>td σ H fun x H1=>ty σ H1 fun y H2=>∃a v,x=.ref a/\gk H2 a y (aa v)/\Q v H2
def OM (td ty tv:TE):TS:=fun D σ H=>tv σ H fun v H1=>td σ H1 fun x H2=>ty σ H2 fun y H3=>∃a H4,x=.ref a/\gZ H3 a y v H4/\D.nx σ H4
variable {td ty:TE}
section
variable {o i:Expr}
theorem DH (hu:X.A.units+1<cg) (ho:PE X o td) (hi:PE X i ty) (hs:tZ i):PE X (.Subscript o i pos) (Qy td ty):=by intro pins s σ H Q I h;refine HM PySem.F.slot_dict_getitem.lookup hs (thn (ho pins s σ H _ I h) fun u s1 ⟨x,H1,I1,rx,q1⟩=>thn (hi pins s1 σ H1 _ I1 q1) fun iv s2 ⟨y,H2,I2,ry,a,v,ex,g,q2⟩=>?_);subst ex;obtain rfl:u=bY a:=rx;exact⟨Kt I2 g,QF hu I2 g ry fun w' s3 I3 rw'=>⟨v,H2,I3,rw',q2⟩⟩
theorem uo (hu:X.A.units+1<cg) (ho:PE X o td) (hi:PE X i ty) (hv:PE X value tv) (hs:dH value (aa (.Subscript o i pos')) pos.line X.env=aZ ar) :
  PS X (.Assign [.Subscript o i pos'] value pos) (OM td ty tv):=by
 intro pins s σ H D I h;refine wpAny_Assign_Subscript (thn (hv pins s σ H _ I h) fun r s1 ⟨v,H1,I1,rv,q1⟩=>thn (ho pins s1 σ H1 _ I1 q1) fun u s2 ⟨x,H2,I2,rx,q2⟩=>thn (hi pins s2 σ H2 _ I2 q2) fun iv s3 ⟨y,H3,I3,ry,a,H4,ex,g,q3⟩=>?_) hs;subst ex;obtain rfl:u=bY a:=rx;exact Q5 hu I3 g ry rv fun s4 I4=>⟨σ,H4,I4,q3⟩
end
theorem PC (h:Heap) (hb:iB<h.objs.size):cm P w H (h.push {cls:=.type "dict",data:=.dict #[]}) h.objs.size (.dK []):=
 ⟨fA _,kS.mpr (cM (qC hb)),[],.nil,SU h⟩
theorem Hx (h:Heap) (hb:iB<h.objs.size):cm P w H (h.push {cls:=.type "dict",data:=.dict #[]}) h.objs.size (.dT []):=
 ⟨fA _,kS.mpr (cM (qC hb)),[],.nil,_,#[],0,qG _ rfl,⟨rfl,rfl,rfl⟩,rfl,rfl,lq⟩
def OC:TE:=fun _ H Q=>∀p,H p=af->Q (.ref p) (upd H p (.dK []))
def MD:TE:=fun _ H Q=>∀p,H p=af->Q (.ref p) (upd H p (.dT []))
theorem w9:PE X (.Dict [] [] pos) OC:=fun pins s σ H Q I h=>
 SV ⟨.ref s.heap.objs.size,_,I.laid (a:=s.heap.objs.size) (o:=.dK []) (t':=s.toks) (fun _ _ q=>qt _ q) (qv _) (PC s.heap I.big),rfl,h _ (I.hok.fresh (qv _))⟩
theorem BN:PE X (.Dict [] [] pos) MD:=fun pins s σ H Q I h=>
 SV ⟨.ref s.heap.objs.size,_,I.laid (a:=s.heap.objs.size) (o:=.dT []) (t':=s.toks) (fun _ _ q=>qt _ q) (qv _) (Hx s.heap I.big),rfl,h _ (I.hok.fresh (qv _))⟩
structure M1 (X:Cx) (o:Expr) (m:ai) (apos:dq) (e:Expr) (cpos:dq):Prop where
 base:je o m X.env (eval o X.env)=eval o X.env
 few:((bV cpos (aO [e] X.env)).all (fun x=>!x.1) && (jW cpos (jX [] X.env)).all (fun x=>x.1.isSome)
  && decide (([e]:ac Expr).length+([]:ac jY).length+(if ([]:ac jY).isEmpty then 0 else 1)<30))=aj
 line:(apos.endLine==cpos.line)=aj
 trees:bV cpos (aO [e] X.env)=[(ar,eval e X.env)]
noncomputable def IsD (H:Hp) (a:au):Prop:=(∃kvs,Rd H a (.dK kvs))\/∃kvs,Rd H a (.dT kvs)
theorem Hz (I:Inv X pins σ H s) (d:IsD H a) :
  s.TypeIs (.ref a) "dict"/\(∀b,bY a=.ref b->∃ob,s.heap.get? b=aa ob/\ob.dict=af)/\(a==iB)=ar:=by
 rcases d with⟨kvs,e⟩|⟨kvs,e⟩
 .obtain⟨_,hd,vs,_,dd⟩:=i4 I.hok e;refine⟨dd.typeIs,fun b q=>?_,hd⟩;cases q;obtain⟨ob,_,_,h1,h2,_⟩:=dd;exact⟨ob,h1,h2.2.1⟩
 .obtain⟨_,hd,xs,_,dd⟩:=jJ I.hok e;refine⟨dd.typeIs,fun b q=>?_,hd⟩;cases q;obtain⟨ob,_,_,h1,h2,_⟩:=dd;exact⟨ob,h1,h2.2.1⟩
section
variable {d:V} {r:av} {o:aq V}
theorem HU (hu:A.units+1<cg) (I:Inv X pins σ H s) (g:gk H a y o) (ry:bu y u) (h:∀w' s',Inv X pins σ H s'->bu (o.getD .non) w'->Q w' s') :
  aD .(q) A (call (.builtin "dict.get") [.ref a,u]) Q E s:=by
 rcases g with⟨kvs,k,e,ey,l⟩|⟨kvs,k,b,e,ey,eb,l⟩
 .subst ey;obtain⟨z,hd,vs,rel,dd⟩:=i4 I.hok e;refine call_meetsIn Fb dd.typeIs SW (SX _ _) (meets_dict_get (cE X.prog X.w) a (ka ry) hd) ⟨_,dd.mapOf,h _ _ (I.tok _) ?_⟩;rw[l];exact(rel.val k).getD rfl
 .subst ey;cases(show u=bY b from ry);obtain⟨z,hd,xs,rel,dd⟩:=jJ I.hok e;refine call_meetsIn Fb dd.typeIs SW (SX _ _) (meetsH_dict_get (kX (cE X.prog X.w)) a b hd) ⟨uX hu,k,xs,kG I.hok eb,dd,h _ _ (I.tok _) ?_⟩;rw[l];exact(rel.val k).getD rfl
end
def Ma (td ty:TE):TE:=fun σ H Q=>td σ H fun x H1=>∃a,x=.ref a/\IsD H1 a/\ty σ H1 fun y H2=>∃o,gk H2 a y o/\Q (o.getD .non) H2
section
variable {o f:Expr} {tx:TE}
theorem CG (hu:X.A.units+1<cg) (ho:PE X o td) (he:PE X e ty) (m:M1 X o "get" apos e cpos):PE X (.Call (.Attribute o "get" apos) [e] [] cpos) (Ma td ty):=by intro pins s σ H Q I h;refine wpAny_Call_method m.base m.few m.line PySem.F.plainAttrs_dict Fb PySem.F.type_dict_get (thn (ho pins s σ H _ I h) fun u s1 ⟨x,H1,I1,rx,a,ex,d,q1⟩=>?_);subst ex;obtain rfl:u=bY a:=rx;obtain⟨t1,t2,_⟩:=Hz I1 d;refine⟨t1,t2,?_⟩;rw[m.trees];refine SI rfl (SJ (Ss (thn (he pins s1 σ H1 _ I1 q1) fun iv s2 ⟨y,H2,I2,ry,ov,g,q2⟩=>Sr ?_)));exact HU hu I2 g ry fun w' s3 I3 rw'=>⟨_,H2,I3,rw',q2⟩
end
variable {loose:ac ai} {XP:(ai->aq av)->Heap->Prop} {YP:cL->Heap->Prop}
namespace Att
open PySem PySem.W PySem.Calls PyProof.Rows
theorem ML {P:yH} {h:Heap} :∀(ns:ac ah) (vs:ac av),WellAll P h vs (ns.map SY)->mL vs ns:=by
 intro ns
 induction ns with
 |nil=>
  intro vs w;rw[qP] at w;cases w;exact .nil
 |cons n ns ih=>
  intro vs w;rw[qm] at w;cases w with
  |cons a b=>
   cases a;exact .cons _ _ (ih _ b)
theorem JY {l:OpenLaw} (hn:l.most=aa n) {P:yH} {h:Heap} {args:ac WData} {vals:ac av} 
  (hpre:l.row.toRowW.claim.pre args=aj) (hwl:WellAll P h vals args) :
  ∃a vs ns,vals=[bY a]/\args=[WData.list (ns.map SY)]/\h.get? a=aa {cls:=.type "list",data:=.seq vs.toArray}/\mL vs ns/\ns.length<=n:=by
 have hsh:WShape.hasAll [] args [.list .int]=aj:=(pre_splitW hpre).1;have hc:l.pre.holds [] {args:=args}=aj:=(pre_splitW hpre).2;obtain⟨d,r,rfl,h1,h2⟩:=hasAllW_cons hsh;obtain rfl:=hasAllW_nil h2;obtain⟨xs,rfl,h3⟩:=hasW_list h1;obtain⟨ns,rfl⟩:=items_int h3;have hlen:ns.length<=n:=by
  unfold OpenLaw.pre at hc;have h4:(WTm.not (.lt (.lit (.int (n:ah))) (.len (.arg 0)))).holds [] {args:=[.list (ns.map .int)]}=aj:=by have h4:=(holds_andW hc).1;rw[hn] at h4;exact h4
  have h5:=condW_of h4 (w_not (w_lt w_lit (w_len_list (w_arg rfl))));rw[qf] at h5;refine Nat.le_of_not_lt fun q=>?_;have q':(n:ah)<((ns.length:ao):ah):=by omega
  first
   |(rw[qT q'] at h5;exact bA h5 .(f))
   |(simp at h5;omega)
 cases hwl with
 |cons w1 w2=>
  cases w2;cases w1 with
  |list ho hall=>exact⟨_,_,ns,rfl,rfl,ho,ML ns _ hall,hlen⟩
theorem LL (l:OpenLaw) (args:ac WData):l.row.toRowW.claim.post args (.bool aj) args=aj:=
 postW_of (r:=l.row.toRowW) (X:=(aj==aj))
  (show SZ [] (.bool aj) .bool=aj by first|rfl|decide|simp[SZ,WShape.arms,WShape.armsAll])
  (show(WTm.eq .res (.lit (.bool aj))).value [] {args:=args,res:=aa (.bool aj),after:=args}=aa (.bool (aj==aj)) from w_eq_bool (w_res rfl) w_lit) rfl
theorem attach_call {l:OpenLaw} {q:dF} {d:DefRec} 
  (hn:l.most=aa n) (hdf:d.params.defaults=[])
  (call:∀(w:cL) (s₀ s₁:aI) (mg mb:ai->aq av) (fa:au) (o:Obj) (pm cd doc:av) (a:au) (vs:ac av) (ns:ac ah),
   Ground q loose [] XP w s₀ mg mb s₁.heap->YP w s₁.heap->
   s₁.heap.get? fa=aa o->o.data=.func (docDef d.name d.params d.body d.scope pm cd doc)->s₁.heap.CodeRec cd d.name->mg d.name=aa (.ref fa)->
   s₁.heap.get? a=aa {cls:=.type "list",data:=.seq vs.toArray}->mL vs ns->ns.length<=n->s₁.gens=#[]->
   fz (aQ l.prog w) oB (.call (.ref fa) ⟨[.ref a],[]⟩) (fun r s'=>r=.ok (.ret (.bool aj))/\OldK s₁.heap s'.heap/\s'.os=s₁.os/\kY s'.gens) s₁) :
  WalkO q loose XP YP l.row.toRowW d [] (fun f vs=>Fc f vs):=by
 intro w s₀ s₁ mg mb G Y fa o pm cd doc dV kV ho hd hcd hD hmg hg args vals as hpre hlay hrd hwl hlo;obtain rfl:dV=.none:=Dflts.none hD hdf;obtain rfl:kV=.none:=Dflts.noKw hD;obtain⟨a,vs,ns,rfl,rfl,hobj,hints,hlen⟩:=JY hn hpre hwl;refine enter_call (rD (call w s₀ s₁ mg mb fa o pm cd doc a vs ns G Y ho (fd_plain hd) hcd hmg hobj hints hlen hg) fun r s' hq=>?_);obtain⟨rfl,h2,h3,h4⟩:=hq;exact⟨.inl ⟨.bool aj,.bool aj,[],rfl,fun _=>rfl,.bool aj,LL l _,fun _=>⟨US,fun _ hm=>(nomatch hm)⟩⟩,h2,h3,h4⟩
section
variable {K:aW}
noncomputable def Ul (h:Heap) (L d:au):ac (au×Obj):=(cx h.objs.size).filterMap fun a=>if a=L\/a=d then af else (h.get? a).map fun o=>(a,o)
end
end Att
theorem C7:∀{vs:ac av} {ns:ac ah},mL vs ns->bi (ns.map V.int) vs
 |_,_,.nil=>.nil
 |_,_,.cons n t h=>.cons ⟨t,rfl⟩ (C7 h)
noncomputable def xI (H:Hp):Prop:=∀b,H b=af\/∃o xs,H b=aa (.frz o (.lst xs))
variable {ns:ac ah}
theorem F7 {mb:ai->aq av} {k:ao} {fa:au} {s₁:aI} {vs:ac av} 
  (KX:K.In s₁.heap) (hns:s₁.heap.Ns eX mg) (hb:s₁.heap.Ns EI mb) (hbb:∀x:ai,x≠"__name__"->mb x=dR x) (hlim:s₁.heap.NoLimit) (hg:s₁.gens=#[])
  (ha:s₁.heap.get? a=aa {cls:=.type "list",data:=.seq vs.toArray}) (hi:mL vs ns) (hl:ns.length<=aH) (hr:Room k oB)
  (F:∀base:Heap,K.In base->base.Ns eX mg->FnOk P w K mg base CX k fa fd [x] sp) (hbind:∀(s:aI) (u:av),rC s fd ⟨[u],[]⟩ [(x,u)])
  (hsp:∀H:Hp,xI H->SqL K H a (ns.map V.int)->sp [.ref a] H (fun v _=>v=.bl aj) fun _ _ _=>False)
  (hCX:∀H e s',CX [] H s₁ (fun _ _ _=>False) e s'->False) :
  fz (aQ P w) oB (.call (.ref fa) ⟨[.ref a],[]⟩) (fun r s'=>r=.ok (.ret (.bool aj))/\OldK s₁.heap s'.heap/\s'.os=s₁.os/\kY s'.gens) s₁:=by
 have rv:=C7 hi;have lenV:=hi.length;have core:∀H:Hp,xI H->SqL K H a (ns.map V.int)->HOk P w H s₁.heap->(∀b,H b≠af->b=a)->(H a≠af->K.lookup a=af)->
   fz (aQ P w) oB (.call (.ref fa) ⟨[.ref a],[]⟩) (fun r s'=>r=.ok (.ret (.bool aj))/\OldK s₁.heap s'.heap/\s'.os=s₁.os/\kY s'.gens) s₁:=by
  intro H hO hS hok hA hK;have base_of:∀{b:au} {o:Obj},s₁.heap.get? b=aa o->H b=af->(jI s₁.heap H).get? b=aa o:=fun e n=>RC e n;have noA:∀{b:au} {o:Obj} {es:bO uY} {ep:ao},s₁.heap.get? b=aa o->o.data=.dict es ep->H b=af:=fun {b o es ep} e d=>by
   cases q:H b with
   |none=>rfl
   |some u=>
    have e':b=a:=hA b (by rw[q];simp);subst e';rw[ha] at e;cases e;have d':Data.seq vs.toArray _=Data.dict es ep:=d;cases d'
  have nsK:∀{b:au} {m:ai->aq av},s₁.heap.Ns b m->(jI s₁.heap H).Ns b m:=fun {b m} ⟨o,es,ep,e,d,r⟩=>⟨o,es,ep,base_of e (noA e d),d,r⟩;have hKb:K.In (jI s₁.heap H):=fun b o e=>base_of (KX b o e) (by
   cases q:H b with
   |none=>rfl
   |some u=>
    have e':b=a:=hA b (by rw[q];simp);subst e';rw[hK (by rw[q];simp)] at e;cases e)
  have hM:Mod K mg (jI s₁.heap H):=⟨hKb,nsK hns,⟨mb,nsK hb,hbb⟩,let ⟨mc,h1,h2⟩:=hlim;⟨mc,nsK h1,h2⟩⟩;have e0:Env0 P w K mg (jI s₁.heap H) oB [] s₁ H:=⟨rfl,hM,fun b o e=>LD e,yu (Jn _ _),trivial,fun b hb=>bA (show b∈([]:ac au) from hb) (by simp),hok,.of_eq hg⟩;refine rD ((F _ hKb (nsK hns)).run oB [] s₁ H ⟨[.ref a],[]⟩ [.ref a] [.ref a] _ _ hr e0 (hbind s₁ (.ref a)) (.cons rfl .nil) (hsp H hO hS)) fun r s' h=>?_;cases r with
  |error e=>exact(hCX H e s' h).elim
  |ok fl=>
   cases fl with
   |next=>exact hZ h
   |brk=>exact hZ h
   |cont=>exact hZ h
   |ret u=>
    obtain⟨v,H',os,bare,un,hok',r',q⟩:=h;have q':v=.bl aj:=q;subst q';obtain rfl:u=kU aj:=r';refine⟨rfl,OldK.of_keep fun b o e=>?_,os,bare⟩;cases q:H b with
    |none=>exact un.keep b o e q (by intro z;exact bA (show b∈([]:ac au) from z) (by simp)) (by simp)
    |some u=>
     rcases hO b with z|⟨ob,xs,z⟩
     .rw[q] at z;cases z
     .have z2:=un.frzs b ob _ z;obtain⟨e1,_⟩:=hok b _ z;obtain⟨e2,_⟩:=hok' b _ z2;rw[e] at e1;cases e1;exact e2
 cases hk:K.lookup a with
 |some o=>
  have e:=KX a o hk;rw[ha] at e;cases e;refine core (fun _=>af) (fun _=>.inl rfl) (.inr ⟨_,vs.toArray,_,hk,rfl,rfl,rfl,by rw[qB,lenV];exact hl,by simpa using rv⟩) (fun b u z=>by have z':(af:aq HO)=aa u:=z;cases z') (fun b z=>bA rfl z) fun z=>bA rfl z
 |none=>
  refine core (fun b=>if b=a then aa (.frz {cls:=.type "list",data:=.seq vs.toArray} (.lst (ns.map V.int))) else af) (fun b=>?_) (.inl (.inr ⟨{cls:=.type "list",data:=.seq vs.toArray},qX rfl⟩)) (fun b u z=>?_) (fun b z=>?_) fun _=>hk
  .by_cases hb:b=a
   .exact .inr ⟨_,_,qX hb⟩
   .exact .inl (qY hb)
  .by_cases hb:b=a
   .have z':=(qX hb).symm.trans z;cases z';subst hb;exact⟨ha,by rw[qf];exact hl,vs,_,rv,ha⟩
   .have z':=(qY hb).symm.trans z;cases z'
  .by_cases hb:b=a
   .exact hb
   .exact bA (qY hb) z
noncomputable abbrev KOf {h:Heap} (_:K.In h):aW:=K
theorem walk_of {l:Fd} {k:ao} {q:dF} {d:DefRec} {K:yH->aW} {CX:cL->CXT} {sp:cL->Sp} 
  (hn:l.most=aa n) (hn2:n<=aH) (hdf:d.params.defaults=[]) (hr:Room k oB)
  (hY:∀(w:cL) (h:Heap),YP w h->(K w.params).In h)
  (F:∀(w:cL) (mg:ai->aq av) (fa:au) (h:Heap),(K w.params).In h->h.Ns eX mg->mg d.name=aa (.ref fa)->
   ∃fd:lg,(∀(s:aI) (u:av),rC s fd ⟨[u],[]⟩ [(x,u)]) /\
    ∀base:Heap,(K w.params).In base->base.Ns eX mg->FnOk l.prog w (K w.params) mg base (CX w) k fa fd [x] (sp w))
  (hsp:∀(w:cL) (H:Hp) (a:au) (ns:ac ah),ns.length<=n->xI H->SqL (K w.params) H a (ns.map V.int)->sp w [.ref a] H (fun v _=>v=.bl aj) fun _ _ _=>False)
  (hCX:∀(w:cL) (H:Hp) (s:aI) (e:av) (s':aI),CX w [] H s (fun _ _ _=>False) e s'->False) :
  S1 q loose XP YP l.row.toRowW d [] (fun f vs=>Fc f vs):=by
 refine Att.attach_call hn hdf fun w s₀ s₁ mg mb fa o pm cd doc a vs ns G Y ho hd hcd hmg hobj hints hlen hg=>?_;have KX:=hY w _ Y;obtain⟨fd,hb,hF⟩:=F w mg fa _ KX G.T.g hmg;exact F7 KX G.T.g G.T.b G.T.builtins G.T.nolimit hg hobj hints (qN hlen hn2) hr hF hb (fun H hO hS=>hsp w H a ns hlen hO hS) fun H e s'=>hCX w H s₁ e s'
noncomputable def bI (s:Stmt) (j:ao):Stmt:=match s with
 |.ClassDef _ _ _ body _ _ _ _ _ _ _=>body.getD j (.Pass ⟨0,0,0,0⟩)
 |_=>.Pass ⟨0,0,0,0⟩
noncomputable def dU (s:Stmt):Arguments:=match s with
 |.FunctionDef _ a _ _ _ _ _ _ _ _=>a
 |_=>{posonlyargs:=[],args:=[],vararg:=af,kwonlyargs:=[],kw_defaults:=[],kwarg:=af,defaults:=[]}
noncomputable def cv (s:Stmt):ac Stmt:=match s with
 |.FunctionDef _ _ b _ _ _ _ _ _ _=>b
 |_=>[]
noncomputable def aG (s:Stmt):Scope:=match s with
 |.FunctionDef _ _ _ _ _ _ sc _ _ _=>sc
 |_=>{kind:=.function,names:=[],isGenerator:=ar,isCoroutine:=ar}
noncomputable abbrev CX0:CXT:=fun _ _ _ _ _ _=>False
noncomputable abbrev E0:XK:=fun _ _ _=>False
theorem kK :mx CX0 X E0:=fun _ _ _ _ _ _ _ h=>h.elim
structure Fun (K:aW) (x qual:ai) (st:Stmt) (f:au) (fd:lg):Prop where
 ex:∃(oc:av) (od:aq au) (kV doc pm:av) (an:aq au) (cdv ct:av) (osl:bO (aq av)),
  fd=dS x qual (dU st) (cv st) (aG st) .none kV doc pm an cdv ct/\K.lookup f=aa ⟨oc,od,.func fd,osl⟩/\mI K cdv qual=aj
 kp:fP K (.ref f)=aj
theorem Fun.ok {f:au} {k:ao} (F:Fun K x qual st f fd) (S:FnScope N ps (aG st)) (len:∀vs H Q E,sp vs H Q E->vs.length=ps.length)
  (hbody:∀(cdv:av) (A:cR) (outer:ac cG) (s:aI) (H:Hp) (vs:ac V) (Q:VK) (E:XK),Room k .(w)->sp vs H Q E->
   ∃t,PSs .(n).nox (cv st) t/\t {nx:=fun _ H'=>Q .non H',rt:=Q} (dw N vs) H):FnOk P w K mg base CX0 (k+1) f fd ps sp:=by
 obtain⟨oc,od,kV,doc,pm,an,cdv,ct,osl,rfl,lk,hcd⟩:=F.ex;refine Bk lk hcd S len fun A outer s H vs Q E hr hsp=>?_;obtain⟨t,h,q⟩:=hbody cdv A outer s H vs Q E hr hsp;exact⟨t,h.nox,q⟩
theorem Fun.binds {f:au} (F:Fun K x qual st f fd)
  (h:∀(kV doc pm:av) (an:aq au) (cdv ct:av) (us:ac av),us.length=ps.length->gw (dS x qual (dU st) (cv st) (aG st) .none kV doc pm an cdv ct) ⟨us,[]⟩=aZ (ps.zip us)):fm K fd ps []:=by
 obtain⟨oc,od,kV,doc,pm,an,cdv,ct,osl,rfl,lk,hcd⟩:=F.ex;exact .all (h kV doc pm an cdv ct)
theorem wk {f:au} {kV:av} (l:K.lookup f=aa ⟨oc,od,.func (dS x qual (dU st) (cv st) (aG st) .none kV doc pm an cdv ct),osl⟩)
  (c:mI K cdv qual=aj) (k:fP K (.ref f)=aj):Fun K x qual st f (dS x qual (dU st) (cv st) (aG st) .none kV doc pm an cdv ct):=⟨⟨oc,od,kV,doc,pm,an,cdv,ct,osl,rfl,l,c⟩,k⟩
theorem pv (i:ao) (hN:X.N[i]?=aa x:=by rfl) (hv:Vis X.env.scope x:=by ac_nf) (hd:.(s)=ar:=by decide)
  (hcd:.(M)=ar:=by decide):PE X (.Name x pos) (Au i):=eM hN hv hd hcd
theorem kL {A B:Prop} (h:B):if ar=aj then A else B:=by rw[qY qr];exact h
theorem ki {A B:Prop} (h:A):if aj=aj then A else B:=by rw[qX rfl];exact h
noncomputable def ba (H H':Hp):Prop:=∀b o,H b=aa o->H' b=aa o
theorem ba.refl (H:Hp):ba H H:=fun _ _ h=>h
theorem ba.trans (a:ba H H1) (b:ba H1 H2):ba H H2:=fun c o h=>b c o (a c o h)
theorem ba.free (e:ba H H') {l:au} (h:H' l=af):H l=af:=by
 cases q:H l with
 |none=>rfl
 |some o=>
  rw[e l o q] at h;cases h
theorem ba.seq {xs:ac V} (e:ba H H') (h:SqL K H a xs):SqL K H' a xs:=by
 rcases h with(h|⟨o,h⟩)|h
 .exact .inl (.inl (e _ _ h))
 .exact .inl (.inr ⟨o,e _ _ h⟩)
 .exact .inr h
variable {elt:Expr} {ifs:ac Expr}
theorem NS {R:lb->aI->Prop} {target:Expr} {it acc:av} (I:ao->aI->Prop)
  (turn:∀n s,I n s->aD .(N) A (fO it) (fun r s₁=>match r with
   |none=>R (.ok .next) s₁
   |some v=>aD .(N) A (uM target it v) (fun _ s₁'=>aD .(N) A (jT target env v) (fun _ s₂ =>
     aD .(N) A (uZ ifs aj fun c r=>if r=aj then do let ok ←isTrue c env (eval c env);aZ (rJ ok) else aZ (rJ r)) (fun ok s₃ =>
      if ok=aj then aD .(N) A (eval elt env) (fun x s₄ =>
       aD .(N) A (call (.builtin "list.append") [acc,x]) (fun _ s₅=>∃m,m<n/\I m s₅) (fun _ _=>False) s₄) (fun _ _=>False) s₃
      else ∃m,m<n/\I m s₃) (fun _ _=>False) s₂) (fun _ _=>False) s₁') (fun _ _=>False) s₁) (fun _ _=>False) s)
  (n:ao) (h:I n s) :
  fz .(N) A (.compLoop (.ListComp elt [⟨target,iter,ifs,0⟩] scope pos) 0 it acc env) R s:=by
 refine codeAny_loop rfl I (fun n s hI=>?_) n h;show aD _ A ((compTurn (.ListComp elt [⟨target,iter,ifs,0⟩] scope pos) 0 it acc env).onRaise (fun x=>do noteFrame x env;theTreesLotGoes x)) _ _ s;refine wpAny_noted ?_;rw[compTurn_list];refine qw (EQ (qw (hV (turn n s hI) (fun r s₁ h₁=>?_) fun _ _ h'=>h'.elim)));cases r with
 |none=>exact qA h₁
 |some v=>
  refine qw (hV h₁ (fun _ s₁' h₁'=>?_) fun _ _ h'=>h'.elim);refine qw (hV h₁' (fun _ s₂ h₂=>qw (hV h₂ (fun ok s₃ h₃=>?_) fun _ _ h'=>h'.elim)) fun _ _ h'=>h'.elim);cases ok with
  |false=>exact qA ⟨rfl,h₃⟩
  |true=>
   exact qw (qw (hV h₃ (fun x s₄ h₄=>qw (hV h₄ (fun _ s₅ h₅=>qA (qA ⟨rfl,h₅⟩)) fun _ _ h'=>h'.elim)) fun _ _ h'=>h'.elim))
noncomputable def iy (X:Cx) (N':ac ai) (scope:Scope) (cl:ac (ai×au)) (C:au) (s₀:aI) (H₀:Hp) (fp:ac au):Cx:=
 {X with N:=N',s₀:=s₀,H₀:=H₀,env:=Fe scope cl C X.env,outer:=X.stack,stack:=X.stack,ex:=fp,fn:=fun _=>ar,pn:=[],xe:=fun _ _=>False}
noncomputable def eO (env:cG):ac (ai×ia)->ac (ai×au)->ac (ai×au)
 |[],acc=>acc
 |(n,k)::r,acc=>eO env r (if k==.free then (match env.cells.lookup n with|some c=>(n,c)::acc|none=>acc) else acc)
theorem Oa (h:∀y∈scope.names,y.2=.free->∃c,env.cells.lookup y.1=aa c):closureFor scope env=aZ (eO env scope.names []):=by
 have all:∀(l:ac (ai×ia)) (acc:ac (ai×au)),(∀y∈l,y.2=.free->∃c,env.cells.lookup y.1=aa c)->
   (uZ l acc fun x r=>match x with
    |(name,kind)=>if kind==.free then do let c ←cellOf env name;aZ (rJ ((name,c)::r)) else aZ (rJ r):Sem (ac (ai×au)))=aZ (eO env l acc):=by
  intro l
  induction l with
  |nil=>intro acc _;rfl
  |cons y r ih=>
   intro acc hl;obtain⟨n,k⟩:=y;rw[List.forIn_cons];have hr:∀y∈r,y.2=.free->∃c,env.cells.lookup y.1=aa c:=fun y hy=>hl y (qh _ hy);unfold eO;cases hk:(k==mM) with
   |false=>
    simp only[hk,qq,cH,pure_bind];exact ih acc hr
   |true=>
    obtain⟨c,hc⟩:=hl (n,k) qg (by simpa using hk);have hc':env.cells.lookup n=aa c:=hc;simp only[hk,cy,cellOf,hc',pure_bind];exact ih _ hr
 have e:=all scope.names [] h;exact Eq.trans (bind_pure _) e
theorem Ds :∀(l:ac (ai×ia)) (acc:ac (ai×au)),(∀x c,acc.lookup x=aa c->env.cells.lookup x=aa c)->∀x c,(eO env l acc).lookup x=aa c->env.cells.lookup x=aa c:=by
 intro xs0
 induction xs0 with
 |nil=>
  intro _ h;exact h
 |cons x0 r ih=>
  obtain⟨n,k⟩:=x0;intro acc h;unfold eO;refine ih _ ?_;split
  .split
   .rename_i c hc;intro x d hx;rw[oC] at hx;cases e:x==n with
    |true=>
     rw[e] at hx;have e':x=n:=by simpa using e
     have e2:c=d:=qH hx;rw[e',←e2];exact hc
    |false=>rw[e] at hx;exact h x d hx
   .exact h
  .exact h
theorem GG :∀(l:ac (ai×ia)) (acc:ac (ai×au)) (x:ai),(acc.lookup x).isSome=aj->((eO env l acc).lookup x).isSome=aj:=by
 intro xs0
 induction xs0 with
 |nil=>
  intro _ _ h;exact h
 |cons x0 r ih=>
  obtain⟨n,k⟩:=x0;intro acc x h;unfold eO;refine ih _ x ?_;split
  .split
   .rw[oC];split
    .rfl
    .exact h
   .exact h
  .exact h
theorem D7 :∀(l:ac (ai×ia)) (acc:ac (ai×au)) (x:ai) (c:au),(x,mM)∈l->env.cells.lookup x=aa c->((eO env l acc).lookup x).isSome=aj:=by
 intro xs0
 induction xs0 with
 |nil=>
  intro _ _ _ h _;exact nomatch h
 |cons x0 r ih=>
  obtain⟨n,k⟩:=x0;intro acc x c h hc;unfold eO;rcases cr.mp h with e|h
  .injection e with e1 e2;subst e1;subst e2;refine GG r _ _ ?_;rw[qX (by rfl),hc];simp
  .exact ih _ x c h hc
theorem ti {env:cG}:∀(names:ac (ai×ia)) (x:ai) (k':ia),
  (names.map fun(n,k)=>if .(aa) then (n,yI) else (n,k)).lookup x=aa k'->
  names.lookup x=aa k'\/(k'=.cell/\names.lookup x=aa .free)
 |[],_,_,h=>by simp at h
 |(n,k)::r,x,k',h=>by
  have ih:=@ti env r x k';have h':cX x ((if .(aa)=aj then (n,yI) else (n,k))::(r.map fun(n,k)=>if .(aa) then (n,yI) else (n,k)))=aa k':=h;cases hx:x==n with
  |true=>
   by_cases hc:.(aa)=aj
   .rw[qX hc] at h';simp only[oC,hx] at h' ⊢;have hk:k=.free:=by simp only[fU,k0] at hc;exact hc.1.1
    right
    exact⟨(qH h').symm,by rw[hk]⟩
   .rw[qY hc] at h';simp only[oC,hx] at h' ⊢;exact .inl h'
  |false=>
   have h2:cX x (r.map fun(n,k)=>if .(aa) then (n,yI) else (n,k))=aa k':=by
    by_cases hc:.(aa)=aj
    .rw[qX hc] at h';simpa only[oC,hx] using h'
    .rw[qY hc] at h';simpa only[oC,hx] using h'
   simp only[oC,hx];exact ih h2
structure CompScope (X:Cx) (scope:Scope):Prop where
 kind:scope.kind=.function
 nocell:∀y∈scope.names,y.2≠.cell
 names:∀y∈scope.names,y.2=.local->scope.names.lookup y.1=aa .local
 free:∀y∈scope.names,y.2=.free->X.env.kindOf y.1=aa .cell\/X.env.kindOf y.1=aa .free
noncomputable def gT (fv:ac (aq ao)) (σ:St):St:=fv.map fun o=>o.bind fun j=>(σ[j]?).join
variable {N':ac ai} {fv:ac (aq ao)}
theorem CW (I:Inv X pins σ H s) (S:CompScope X scope):closureFor scope X.env=aZ (eO X.env scope.names []):=
 Oa fun y hy hf=>I.ok.has y.1 (S.free y hy hf)
theorem IT (I:Inv X pins σ H s) (S:CompScope X scope) (hf:∀b∈fp,gH X pins H b) (hlt:∀b∈fp,b<s.heap.objs.size) (hC:s.heap.objs.size<=C) :
  (iy X N' scope (eO X.env scope.names []) C s H fp).Ok:=by
 have sub:=Ds (env:=X.env) scope.names [] (fun x c h=>by simp at h);refine⟨I.ok.mod,S.kind,I.ok.glob,I.ok.blt,hC,fun x y c h1 h2=>I.ok.inj x y c (sub x c h1) (sub y c h2),fun x hx=>?_,fun x c h _=>by simp[iy] at h,I.ok.hd,I.ok.frames,.inl rfl,fun b hb=>⟨?_,fun x c e=>?_⟩,I.bs,qN I.ok.bsz I.sz,
  fun b o e hb=>?_,fun b hb=>?_,I.stack,I.stkFree⟩
 .have hx':((yJ scope X.env).names.lookup x=aa .cell\/(yJ scope X.env).names.lookup x=aa .free):=hx;have hfr:scope.names.lookup x=aa .free:=by
   rcases hx' with h|h
   .rcases ti _ _ _ h with h|⟨_,h⟩
    .exact bA rfl (S.nocell _ (mG h))
    .exact h
   .rcases ti _ _ _ h with h|⟨h,_⟩
    .exact h
    .cases h
  have hm:=mG hfr;obtain⟨c,hc⟩:=I.ok.has x (S.free _ hm rfl);exact yw.mp (D7 _ _ x c hm hc)
 .exact qC (qF (hlt b hb) hC)
 .exact(hf b hb).2.2.2.2.1 x c (sub x c e)
 .rcases(hf b hb).2.2.2.1 with z|z
  .exact I.ok.noex b o e z
  .exact bA (qF (qu e) I.ok.bsz) (yK.mpr z)
 .intro z;rcases cr.mp (I.stkSub b z) with e|e
  .exact(hf b hb).2.1 e
  .exact(hf b hb).2.2.1 e
theorem Jx (I:Inv X pins σ H s) (S:CompScope X scope) (hf:∀b∈fp,gH X pins H b) (hlt:∀b∈fp,b<s.heap.objs.size) (hC:C=s.heap.objs.size) (hlen:fv.length=N'.length)
  (hfv:∀(i j:ao) x,N'[i]?=aa x->fv[i]?=aa (aa j)->X.N[j]?=aa x/\(X.env.kindOf x=aa .cell\/X.env.kindOf x=aa .free)/\scope.names.lookup x=aa .free) {m:ai->aq av} (hn:h'.Ns C m) (hk:∀b o,s.heap.get? b=aa o->h'.get? b=aa o) :
  Inv (iy X N' scope (eO X.env scope.names []) C s H fp) [] (gT fv σ) H {s with heap:=h',toks:=t'}:=by
 have ok:=IT (N':=N') I S hf hlt (C:=C) (yu hC.symm);have sub:=Ds (env:=X.env) scope.names [] (fun x c h=>by simp at h);refine⟨ok,rfl,I.bare,Un.kept hk,⟨m,hn,fun i x v e1 e2 e3=>?_⟩,fun x c e=>?_,?_,fun x c e=>I.freeC x c (sub x c e),fun p hp=>?_,I.hok.kept hk,?_⟩
 .have e1':N'[i]?=aa x:=e1;have e2':(gT fv σ)[i]?=aa (aa v):=e2;unfold gT at e2';rw[qk] at e2';cases q:fv[i]? with
  |none=>rw[q] at e2';cases e2'
  |some o=>
   rw[q] at e2';cases o with
   |none=>cases e2'
   |some j=>
    have e2'':(σ[j]?).join=aa v:=by simpa using e2'
    obtain⟨hN,hkk,hfree⟩:=hfv i j x e1' q;have hσ:σ[j]?=aa (aa v):=by
     cases z:σ[j]? with
     |none=>rw[z] at e2'';cases e2''
     |some w=>rw[z] at e2'';cases w with
      |none=>cases e2''
      |some w'=>simp at e2'';rw[e2'']
    obtain⟨m0,hn0,hl⟩:=I.loc;obtain⟨u,r,l⟩:=hl j x v hN hσ (.inr hkk);refine⟨u,r,.inr ⟨?_,?_⟩⟩
    .rcases e3 with z|z|z
     .have z':(yJ scope X.env).names.lookup x=aa .local:=z;rcases ti _ _ _ z' with y|⟨y,_⟩
      .rw[hfree] at y;cases y
      .cases y
     .exact .inl z
     .exact .inr z
    .rcases l with⟨k,_⟩|⟨_,c,hc,hcell⟩
     .rcases hkk with y|y
      .rw[k] at y;cases y
      .rw[k] at y;cases y
     .obtain⟨c',hc'⟩:=yw.mp (D7 scope.names [] x c (mG hfree) hc);have e:=sub x c' hc';rw[hc] at e;cases e;obtain⟨oc,ho,hd⟩:=hcell;exact⟨c,hc',oc,hk _ _ ho,hd⟩
 .obtain⟨v,oc,ho,hd⟩:=I.cell x c (sub x c e);exact⟨v,oc,hk _ _ ho,hd⟩
 .exact I.hok.fresh (yu hC.symm)
 .exact bA (show p∈([]:ac (au×Obj)) from hp) (by simp)
 .show(gT fv σ).length=N'.length;unfold gT;rw[qf,hlen]
theorem K2 (I:Inv X pins σ H s) {cl:ac (ai×au)} (hf:∀b∈fp,gH X pins H b) (hC:s.heap.objs.size<=C) {σ':St} {pl:ac (au×Obj)} 
  (J:Inv (iy X N' scope cl C s H fp) pl σ' H' s') (hs:iC C s'.heap h'):Inv X pins σ H' {s' with heap:=h'}:=by
 have hCn:H' C=af:=J.free;refine I.call' (ch:=fp) (s':={s' with heap:=h'}) J.os ?_ ?_ J.bare fun b hb=>⟨(hf b hb).2.2.2.1,(hf b hb).2.1,(hf b hb).2.2.2.2.1,(hf b hb).2.2.2.2.2⟩
 .have U:Un (frs X.stack) fp H H' s.heap s'.heap:=J.base;have neC:∀b o,s.heap.get? b=aa o->b≠C:=fun b o e=>qC (qF (qu e) hC);refine⟨fun b o e n h1 h2=>?_,fun b o e n h1 h2=>?_,U.free,fun b o e h2=>?_,U.tups,U.frzs,U.tbls⟩
  .exact(hs.2 b (neC b o e)).trans (U.keep b o e n h1 h2)
  .obtain⟨sl,q⟩:=U.slot b o e n h1 h2;exact⟨sl,(hs.2 b (neC b o e)).trans q⟩
  .obtain⟨o',q⟩:=U.there b o e h2;exact⟨o',(hs.2 b (neC b o e)).trans q⟩
 .intro b u e;refine(J.hok b u e).stay (fun c v hc q=>(hs.2 c ?_).trans q) (fun _ q=>q) fun _ _ q=>q;rintro rfl;rcases hc with z|z
  .rw[←z,hCn] at e;cases e
  .rw[hCn] at z;cases z
noncomputable def PTs (X:Cx) (es:ac Expr) (t:TT):Prop:=
 ∀(pins:ac (au×Obj)) (s:aI) (σ:St) (H:Hp) (Q:aP->Hp->Prop),Inv X pins σ H s->t σ H Q->
  aD .(q) X.A (uZ es aj fun c r=>if r=aj then do let ok ←isTrue c X.env (eval c X.env);aZ (rJ ok) else aZ (rJ r)) (TP X pins σ Q) X.xe s
noncomputable def Gy:TT:=fun _ H Q=>Q aj H
theorem OV :PTs X [] Gy:=fun _ _ _ H _ I h=>wpAny_tests_nil ⟨H,I,h⟩
theorem Ia {c:Expr} {t:TT} (hc:PT X c t):PTs X [c] t:=fun pins s σ H Q I h=>wpAny_tests_one (hc pins s σ H Q I h)
noncomputable def LcW (J:It) (g:TG) (tc:TT) (te:TE) (acc:au) (Q:V->Hp->Prop) (σ0:St) (H1:Hp):Prop:=
 ∃W:ao->ao->ac V->St->Hp->Prop,(∃m,W 0 m [] σ0 (upd H1 acc (.lst [])))/\∀i m ys σ' H',W i m ys σ' H'->H' acc=aa (.lst ys) /\
  ((J.stop i H'/\Q (.ref acc) H')\/(J.go i H'/\∀x H2,J.yld i H' x H2->g x σ' H2 fun σ2 H3=>tc σ2 H3 fun b H4=>
   if b=aj then te σ2 H4 fun v H5=>H5 acc=aa (.lst ys)/\ys.length<aH/\∃m',m'<m/\W (i+1) m' (ys++[v]) σ2 (upd H5 acc (.lst (ys++[v])))
   else ∃m',m'<m/\W (i+1) m' ys σ2 H4))
def tLC (wi:TI) (g:TG) (tc:TT) (te:TE) (fv:ac (aq ao)):TE:=fun σ H Q=>wi σ H fun J H1=>∀acc,H1 acc=af->LcW J g tc te acc Q (gT fv σ) H1
noncomputable def PB (X:Cx) (N':ac ai) (scope:Scope) (tg:Expr) (ifs:ac Expr) (elt:Expr) (g:TG) (tc:TT) (te:TE):Prop:=
 ∀(cl:ac (ai×au)) (C:au) (s₀:aI) (H₀:Hp) (fp:ac au),PG (iy X N' scope cl C s₀ H₀ fp) tg g/\PTs (iy X N' scope cl C s₀ H₀ fp) ifs tc/\PE (iy X N' scope cl C s₀ H₀ fp) elt te
structure FvOk (X:Cx) (N':ac ai) (scope:Scope) (fv:ac (aq ao)):Prop where
 len:fv.length=N'.length
 at':∀(i j:ao) x,N'[i]?=aa x->fv[i]?=aa (aa j)->X.N[j]?=aa x/\(X.env.kindOf x=aa .cell\/X.env.kindOf x=aa .free)/\scope.names.lookup x=aa .free
variable {spos:dq}
section
variable {g:TG}
theorem z7 {s2:aI} {it:au} {tn:ao->Heap->Prop} {J:It} {Q:VK} {RR:av->au->lb->aI->Prop} (hc:X.calm=aj) (S:CompScope X scope) (F:FvOk X N' scope fv) (hb:PB X N' scope tg ifs elt g tc te)
  (I2:Inv X pins σ H1 s2) (T:Turn X.prog X.w X.K tg J fp it tn) (st2:tn 0 s2.heap) (f2:∀b∈fp,gH X pins H1 b) (q:∀acc,H1 acc=af->LcW J g tc te acc Q (gT fv σ) H1)
  (hRR:∀(a C:au) (H':Hp) (s':aI) (m:ai->aq av),s'.heap.Ns C m->(∀h',iC C s'.heap h'->Inv X pins σ H' {s' with heap:=h'})->gH X pins H' C->Q (.ref a) H'->RR (.ref a) C (.ok .next) s') :
  aD .(q) X.A (newList []) (fun acc s₃=>aD .(q) X.A (newFunctionEnv scope X.env.globals (eO X.env scope.names []) [] X.env.qual af .none (aa X.env)) (fun cenv s₄ =>
   fz .(q) X.A (.compStart .(x) 0 (.ref it) acc {cenv with scope:=yJ scope X.env}) (RR acc cenv.locals) s₄) X.xe s₃) X.xe s2:=by
 refine jd ?_;have hacc:H1 s2.heap.objs.size=af:=I2.fresh;have I3:Inv X pins σ (upd H1 s2.heap.objs.size (.lst [])) {s2 with heap:=s2.heap.push {cls:=.type "list",data:=.seq ([]:ac av).toArray} }:=I2.lnew (t':=s2.toks) .nil (fA _);generalize hs3:({s2 with heap:=s2.heap.push {cls:=.type "list",data:=.seq ([]:ac av).toArray} }:aI)=s3 at I3 ⊢;have up:∀b o,s2.heap.get? b=aa o->s3.heap.get? b=aa o:=fun b o e=>by rw[←hs3];exact qt _ e
 have lt2:∀b∈fp,b<s2.heap.objs.size:=fun b hb=>by obtain⟨o,e,_⟩:=T.obj 0 _ st2 b hb;exact qu e
 have sz3:s2.heap.objs.size<s3.heap.objs.size:=by rw[←hs3];show _<(s2.heap.push _).objs.size;rw[lf];exact rB _
 have lt3:∀b∈fp,b<s3.heap.objs.size:=fun b hb=>rH (lt2 b hb) sz3;have f3:∀b∈fp,gH X pins (upd H1 s2.heap.objs.size (.lst [])) b:=fun b hb=>⟨by rw[aF (qC (lt2 b hb))];exact(f2 b hb).1,(f2 b hb).2⟩;have st3:tn 0 s3.heap:=T.keep _ _ _ st2 fun b _ o e=>up b o e;refine wpAny_newFunctionEnv S.nocell (by intro y hy;simp at hy) (fun h4 hn4 sb4=>?_) S.kind;have k4:∀b o,s3.heap.get? b=aa o->h4.get? b=aa o:=fun b o e=>(sb4.2 b (qC (qu e))).trans (qt _ e);have st4:tn 0 h4:=T.keep _ _ _ st3 fun b _ o e=>k4 b o e;have I4:=Jx I3 S f3 lt3 (C:=s3.heap.objs.size) rfl F.len F.at' hn4 k4 (t':=s3.toks+([]:ac (ai×av)).length);generalize hX:iy X N' scope (eO X.env scope.names []) s3.heap.objs.size s3 (upd H1 s2.heap.objs.size (.lst [])) fp=X' at I4;obtain⟨bg,bt,be⟩:=hb (eO X.env scope.names []) s3.heap.objs.size s3 (upd H1 s2.heap.objs.size (.lst [])) fp;rw[hX] at bg bt be;have hprog:X'.prog=X.prog:=by rw[←hX];rfl
 have hw:X'.w=X.w:=by rw[←hX];rfl
 have hK:X'.K=X.K:=by rw[←hX];rfl
 have hA:X'.A=X.A:=by rw[←hX];rfl
 have hcalm:X'.calm=aj:=by rw[←hX];exact hc
 have hxe:X'.xe=fun _ _=>False:=by rw[←hX];rfl
 have henv:X'.env=Fe scope (eO X.env scope.names []) s3.heap.objs.size X.env:=by rw[←hX];rfl
 have stat:∀{H':Hp},(∀b∈fp,H' b=af)->∀b∈fp,gH X' [] H' b:=fun {H'} hn b hb=>by have f:=f3 b hb;have ok:=I4.ok;refine⟨hn b hb,(ok.exf b (by rw[←hX];exact hb)).1,ok.exfs b (by rw[←hX];exact hb),.inl (by rw[←hX];exact hb),fun x c e=>(ok.exf b (by rw[←hX];exact hb)).2 x c e,fun p hp=>?_⟩;rw[←hX] at hp;exact bA (show p∈([]:ac (au×Obj)) from hp) (by simp)
 obtain⟨W,⟨m0,w0⟩,turn⟩:=q s2.heap.objs.size hacc;have loop:∀s5:aI,s5={s3 with heap:=h4,toks:=s3.toks+([]:ac (ai×av)).length} ->
   fz .(q) X.A (.compLoop .(x) 0 (.ref it) (.ref s2.heap.objs.size) (Fe scope (eO X.env scope.names []) s3.heap.objs.size X.env))
    (RR (.ref s2.heap.objs.size) s3.heap.objs.size) s5:=by
  intro s5 hs5;refine NS (fun n s'=>∃i ys σ' H',Inv X' [] σ' H' s'/\tn i s'.heap/\(∀b∈fp,H' b=af)/\W i n ys σ' H') ?_ m0 ⟨0,[],gT fv σ,_,hs5▸I4,hs5▸st4,fun b hb=>(f3 b hb).1,w0⟩;rintro n s6 ⟨i,ys,σ6,H6,I6,st6,fr6,w6⟩;obtain⟨ha6,turn6⟩:=turn i n ys σ6 H6 w6;rw[←henv];rcases turn6 with⟨stop,qn⟩|⟨go,step⟩
  .have d:=T.done X' hprog hw hK hcalm i [] s6 σ6 H6 (fun _ _=>False) I6 (stat fr6) st6 stop;rw[hA] at d;refine thn d fun r s7 ⟨hr,I7⟩=>?_;subst hr;obtain⟨m7,hn7,_⟩:=I7.loc;have hl:X'.env.locals=s3.heap.objs.size:=by rw[henv];rfl
   refine hRR _ _ H6 s7 m7 (hl▸hn7) (fun h' hs'=>?_) ?_ qn
   .rw[←hX] at I7;exact K2 I3 f3 (qv _) I7 hs'
   .exact I3.fpOk (qv _) (by have:=I7.free;rw[hl] at this;exact this)
  .have d:=T.item X' hprog hw hK hcalm i [] s6 σ6 H6 (fun _ _=>False) I6 (stat fr6) st6 go;rw[hA] at d;refine thn d fun r s7 ⟨u,hr,h7⟩=>?_;subst hr;refine thn h7 fun _ s8 ⟨x,H8,I8,r8,y8,st8,fr8⟩=>?_;have I8':=I8.pinned (stat fr8) (T.obj _ _ st8);have dg:=bg _ s8 σ6 H8 x u _ I8' r8 (step x H8 y8);rw[hprog,hw,hA,hxe] at dg;refine thn dg fun _ s9 ⟨σ9,H9,I9,q9⟩=>?_;have dt:=bt _ s9 σ9 H9 _ I9 q9;rw[hprog,hw,hA,hxe] at dt;refine thn dt fun b s10 ⟨H10,I10,q10⟩=>?_;have again:∀{σ7:St} {H7:Hp} {s7:aI} {ys':ac V},Inv X' ([]++oT fp s8.heap) σ7 H7 s7->(∃m',m'<n/\W (i+1) m' ys' σ7 H7)->∃m,m<n/\∃i ys σ' H',Inv X' [] σ' H' s7/\tn i s7.heap/\(∀b∈fp,H' b=af)/\W i m ys σ' H':=fun {σ7 H7 s7 ys'} I7 n7=>by obtain⟨m',hm,w7⟩:=n7;refine⟨m',hm,i+1,ys',σ7,H7,I7.unpinned,T.keep _ _ _ st8 fun b hb o e=>(I7.pin (b,o) (qR _ (qR _ (sI hb e)))).1,fun b hb=>?_,w7⟩;obtain⟨o,e,_⟩:=T.obj _ _ st8 b hb;exact(I7.pin (b,o) (qR _ (qR _ (sI hb e)))).2.1
   cases b with
   |false=>
    rw[qY qr] at q10 ⊢;exact again I10 q10
   |true=>
    rw[qX rfl] at q10 ⊢;have de:=be _ s10 σ9 H10 _ I10 q10;rw[hprog,hw,hA,hxe] at de;refine thn de fun v s11 ⟨y,H11,I11,r11,ha11,hz11,n11⟩=>?_;have da:=Ep _ s11 σ9 H11 (.ref s2.heap.objs.size) [y] (.ref s2.heap.objs.size) [v] (fun _ H'=>H'=upd H11 s2.heap.objs.size (.lst (ys++[y]))) I11 rfl (.cons r11 .nil) ⟨_,ys,y,rfl,rfl,ha11,hz11,rfl⟩;rw[hprog,hw,hA,hxe] at da;refine thn da fun _ s12 ⟨_,H12,I12,_,e12⟩=>?_;subst e12;exact again I12 n11
 exact codeAny_compStart_list (loop _ rfl) (T.self _ 0 _ _ _ st4 (loop _ rfl))
theorem Ch (hc:X.calm=aj) (S:CompScope X scope) (F:FvOk X N' scope fv) (hi:PI X tg iter wi) (hb:PB X N' scope tg ifs elt g tc te) (hs:∀x,kZ iter X.env x=aZ x:=by intro _;rfl) :
  PE X .(x) (tLC wi g tc te fv):=by
 intro pins s σ H Q I h;rw[eval_ListComp];refine S3 (use:=af) rfl hs (CW I S) S.kind S.names (thn (hi pins s σ H _ I h) fun x s1 h1=>thn h1 fun itv s2 h2=>?_);obtain⟨it,fp,tn,J,H1,e,I2,T,st2,f2,q⟩:=h2;subst e;refine z7 (RR:=fun acc C=>compPost .(q) X.A X.xe af (EP X pins σ Q) acc C) hc S F hb I2 T st2 f2 q ?_;intro a C H' s' m hn hI hCL hq;exact⟨m,hn,fun h' hs'=>⟨.ref a,H',hI h' hs',rfl,hq⟩⟩
theorem Od {y:ai} (hN:X.N.Nodup) (hy:X.N[i]?=aa y) (hyl:X.env.scope.names.lookup y=aa .local) (hc:X.calm=aj) (S:CompScope X scope) (F:FvOk X N' scope fv) (hi:PI X tg iter wi) (hb:PB X N' scope tg ifs elt g tc te)
  (hsw:dH .(x) (aa (.Name y py)) spos.line X.env=aZ aj)
  (hs:∀x,kZ iter X.env x=aZ x:=by intro _;rfl) :
  PS X (.Assign [.Name y py] .(x) spos) (oW (tLC wi g tc te fv) (o8 i)):=by
 intro pins s σ H D I h;rw[exec_Assign_Name_used _ _ _ _ hsw];refine qw (EQ (qw ?_));show aD _ _ (do let _ ←comprehension .(x) scope X.env _ (newList []) ar (eval iter X.env) (aa (jT (.Name y py) X.env))) _ _ s;refine qw (hV (S3 (use:=aa (jT (.Name y py) X.env)) (Q:=fun _ s'=>SP X pins D .next s') rfl hs (CW I S) S.kind S.names
  (thn (hi pins s σ H _ I h) fun x s1 h1=>thn h1 fun itv s2 h2=>?_)) (fun _ s' hq=>qA (qA hq)) fun _ _ e=>e)
 obtain⟨it,fp,tn,J,H1,e,I2,T,st2,f2,q⟩:=h2;subst e;refine z7 (RR:=fun acc C=>compPost .(q) X.A X.xe (aa (jT (.Name y py) X.env)) (fun _ s'=>SP X pins D .next s') acc C) hc S F hb I2 T st2 f2 q ?_;intro a C H' s' m hn hI hCL hq;show aD _ _ (jT (.Name y py) X.env (.ref a)) _ _ _;have I':Inv X pins σ H' s':=hI s'.heap (S4 _ _);refine Sf ?_;refine Cs (v:=.ref a) I' hN hy (.inl hyl) rfl (fun s'' I'' hch=>?_) (.inr hyl);obtain⟨ad,hsb,had⟩:=hch;obtain⟨f0,f1,f2',f3,f4,f5⟩:=hCL;have hne:C≠ad:=by
  rcases had with z|z
  .rw[z];exact f1
  .exact fun e=>f4 y ad z e.symm
 refine⟨m,hn.sameBut hsb hne,fun h' hs'=>?_⟩;exact⟨_,H',I''.turned (t':=s''.toks) (fun b o hb e=>(hs'.2 b hb).trans e) f0 f1 f3 f4 f5,hq⟩
end
noncomputable def Its (x:ai):It:=⟨fun i _=>i<x.cps.size,fun i H v H'=>H'=H/\∃c,x.cps[i]?=aa c/\v=.str ⟨#[c]⟩,fun i _=>i=x.cps.size⟩
theorem Qk {M:uL} {n:ai} {it:av} {Q:mz->aI->Prop} (hQ:Q () s):aD M A (uM (.Name n p) it u) Q E s:=qA hQ
theorem BE {n:ai} {ty:cK} (it:au) (x:ai) (t:Tok)
  (W:∀A:cR,A.handled=af->lr P w A it [it] [it] x.cps.size (SignAt x) (fun i h=>h.IsStrIter it ty x t i))
  (sf:∀(A:cR) (i:ao) (s:aI) (Q:av->aI->Prop) (E:av->aI->Prop),s.heap.IsStrIter it ty x t i->Q (.ref it) s->aD (aQ P w) A (mB (.ref it)) Q E s):Turn P w K (.Name n p) (Its x) [it] it (fun i h=>h.IsStrIter it ty x t i) where
 mem:=by simp
 obj:=fun i h st b hb=>by
  have e:b=it:=by simpa using hb
  subst e;obtain⟨o,e,c,d⟩:=st;exact⟨o,e,fun v z=>by rw[d] at z;cases z⟩
 keep:=fun i h h' st k=>by obtain⟨o,e,r⟩:=st;exact⟨o,k it (by simp) o e,r⟩
 item:=by intro X hP hw hK hc i pins s σ H E I hf st hg;subst hP hw hK;obtain⟨f0,f1,f2,f3,f4,f5⟩:=hf it (by simp);refine(W X.A (I.ok.hd hc)).item i s _ _ hg st fun v h' tk hv st' kk=>?_;obtain⟨c,u,hcc,rfl⟩:=hv;have I1:Inv X pins σ H {s with heap:=h',toks:=tk}:=I.turned .(bl) f0 f1 f3 f4 f5;exact⟨_,rfl,Qk ⟨.str ⟨#[c]⟩,H,I1,⟨_,rfl⟩,⟨rfl,c,hcc,rfl⟩,st',fun b hb=>(hf b hb).1⟩⟩
 done:=by intro X hP hw hK hc i pins s σ H E I hf st hg;subst hP hw hK;obtain⟨f0,f1,f2,f3,f4,f5⟩:=hf it (by simp);have hi:i=x.cps.size:=hg;subst hi;exact(W X.A (I.ok.hd hc)).done s _ _ st fun h' tk kk=>⟨rfl,I.turned .(bl) f0 f1 f3 f4 f5⟩
 self:=sf
def Qt (te:TE):TI:=fun σ H R=>te σ H fun v H1=>∃x,v=.str x/\R (Its x) H1
theorem Ln {n:ai} (he:PE X e te):PI X (.Name n p) e (Qt te):=by
 intro pins s σ H R I h;refine thn .(aV) fun v s1 ⟨y,H1,I1,r1,q1⟩=>?_;obtain⟨x,e,q⟩:=q1;subst e;obtain⟨t,rfl⟩:=r1;have fin:∀(ty:cK) (o:Obj),(s1.heap.push o).IsStrIter s1.heap.objs.size ty x t 0->Turn X.prog X.w X.K (.Name n p) (Its x) [s1.heap.objs.size] s1.heap.objs.size (fun i h=>h.IsStrIter s1.heap.objs.size ty x t i)->
   PIE X pins σ (.Name n p) R (.ref s1.heap.objs.size) {s1 with heap:=s1.heap.push o}:=fun ty o st T=>by
  refine⟨s1.heap.objs.size,[s1.heap.objs.size],_,_,H1,rfl,I1.kept (t':=s1.toks) fun b o e=>qt _ e,T,st,fun b hb=>?_,q⟩;have e:b=s1.heap.objs.size:=by simpa using hb
  subst e;exact I1.fpOk (qv _) (I1.hok.fresh (qv _))
 cases ha:x.cps.all (· < 128)
 .exact wpAny_pyIter_wide ha (fin _ _ ⟨_,qG _ rfl,rfl,rfl⟩ (BE _ x t (fun A' hA=>Walks.strWide hA _ x t) fun _ _ _ _ _ st h=>wpAny_pyIter_striter_wide st h))
 .exact wpAny_pyIter_ascii ha (fin _ _ ⟨_,qG _ rfl,rfl,rfl⟩ (BE _ x t (fun A' hA=>Walks.strAscii hA _ x t) fun _ _ _ _ _ st h=>wpAny_pyIter_striter_ascii st h))
def Ite (K:aW) (a:au):It:=
 ⟨fun i H=>∃xs x,SqL K H a xs/\xs[i]?=aa x,fun i H v H'=>∃T x,v=.ref T/\H T=af/\H'=upd H T (.tup [.int i,x])/\∀xs,SqL K H a xs->xs[i]?=aa x,fun i H=>∃xs,SqL K H a xs/\xs.length<=i⟩
variable {elts:ac Expr}
theorem QY {k1:ao} (e it a:au) (hei:e≠it) :
  Turn P w K (.Tuple elts k1 pos) (Ite K a) [e,it] e (fun i h=>(∃old,IsEnum h e it i old)/\h.IsListIter it a i) where
 mem:=by simp
 obj:=fun i h st b hb=>by
  obtain⟨⟨old,he⟩,o,ho,c,d⟩:=st;rcases cr.mp hb with z|z
  .subst z;exact⟨_,he,fun v z=>by cases z⟩
  .have z':b=it:=by simpa using z
   subst z';exact⟨o,ho,fun v z=>by rw[d] at z;cases z⟩
 keep:=fun i h h' st k=>by obtain⟨⟨old,he⟩,hi⟩:=st;exact⟨⟨old,k e (by simp) _ he⟩,hi.at fun o x=>k it (by simp) o x⟩
 item:=by
  intro X hP hw hK hc i pins s σ H E I hf st hg;subst hP hw hK;obtain⟨xs,x,hq,hx⟩:=hg;obtain⟨its,rv,p,hz⟩:=I.list hq;obtain⟨u,hu,ru⟩:=rv.get hx;obtain⟨⟨old,he⟩,hit⟩:=st;obtain⟨e0,e1,e2,e3,e4,e5⟩:=hf e (by simp);obtain⟨f0,f1,f2,f3,f4,f5⟩:=hf it (by simp);have helt:e<s.heap.objs.size:=qu he;have hilt:it<s.heap.objs.size:=by obtain⟨_,x,_⟩:=hit;exact qu x
  refine wpAny_pyNext_enum_item he hit p.isList (x:=u) (by simpa using hu) hei fun h' ho hit' hT hsz hk=>?_;refine⟨_,rfl,wpAny_letOwnedTupleGo_enum ho fun h2 he2 hs2=>?_⟩;have hs2':iC e h' h2:=hs2;have kk:∀b o,b≠e->b≠it->s.heap.get? b=aa o->h2.get? b=aa o:=fun b o h1 h3 q=>(hs2'.2 b h1).trans (hk b o h1 h3 q);have hT2:h2.get? s.heap.objs.size=aa {cls:=.type "tuple",data:=.seq #[.int i s.toks,u]}:=(hs2'.2 _ (yq helt)).trans hT;have nH:H s.heap.objs.size=af:=I.fresh;have I1:Inv X pins σ (upd H s.heap.objs.size (.tup [.int i,x])) {s with heap:=h2,toks:=s.toks+1}:=by
   have ne:∀b o,H b=aa o->b≠e/\b≠it:=fun b o q=>⟨fun z=>(by rw[z,e0] at q;cases q),fun z=>(by rw[z,f0] at q;cases q)⟩;refine I.step (g':=s.gens) (d':=s.drawn) (ch:=[e,it]) (fun b hb=>?_) (fun b o _ _ hc q _=>kk b o (fun z=>hc (by simp[z])) (fun z=>hc (by simp[z])) q) (fun b o _ _ hc q _=>⟨o.slots,kk b o (fun z=>hc (by simp[z])) (fun z=>hc (by simp[z])) q⟩) (fun b o _ q n=>?_)
    (fun b o hc q=>⟨o,kk b o (fun z=>hc (by simp[z])) (fun z=>hc (by simp[z])) q⟩) (fun b ys q=>?_) (fun b o y q=>?_) (fun b ps q=>⟨#[],?_⟩) (fun m hm=>?_) (fun b v q=>?_) I.bare
   .rcases cr.mp hb with z|z
    .subst z;exact⟨e3,e1,e4,e5⟩
    .have z':b=it:=by simpa using z
     subst z';exact⟨f3,f1,f4,f5⟩
   .rw[aF (qC (qu q))];exact n
   .rw[aF (bD q nH)];exact q
   .rw[aF (bD q nH)];exact q
   .rw[aF (bD q nH),q];simp
   .obtain⟨o,es,ep,q,r⟩:=hm;exact⟨o,es,ep,kk _ o (cM e1) (cM f1) q,r⟩
   .by_cases hb:b=s.heap.objs.size
    .subst hb;rw[bj] at q;cases q;exact⟨by show 2<=aH;decide,[.int i s.toks,u],.cons ⟨_,rfl⟩ (.cons ru .nil),⟨_,hT2,rfl,_,rfl⟩⟩
    .rw[aF hb] at q;refine(I.hok b v q).stay (fun c v hc r=>?_) (fun c r=>by rw[aF (bD r nH)];exact r) fun c ys r=>by rw[aF (bD r nH)];exact r
     rcases hc with z|z
     .rw[z] at r ⊢;exact kk b v (ne b _ q).1 (ne b _ q).2 r
     .exact kk c v (ne c _ z).1 (ne c _ z).2 r
  refine⟨.ref s.heap.objs.size,_,I1,rfl,⟨_,x,rfl,nH,rfl,fun ys hy=>by rw[I.list_inj hy hq];exact hx⟩,⟨⟨_,by simpa using he2⟩,hit'.at fun o y=>(hs2'.2 it hei.symm).trans y⟩,fun b hb=>?_⟩;rcases cr.mp hb with z|z
  .subst z;rw[aF (qC helt)];exact e0
  .have z':b=it:=by simpa using z
   subst z';rw[aF (qC hilt)];exact f0
 done:=by intro X hP hw hK hc i pins s σ H E I hf st hg;subst hP hw hK;obtain⟨xs,hq,hx⟩:=hg;obtain⟨its,rv,p,hz⟩:=I.list hq;obtain⟨⟨old,he⟩,hit⟩:=st;obtain⟨f0,f1,f2,f3,f4,f5⟩:=hf it (by simp);have hl:=rv.length;exact wpAny_pyNext_enum_end (I.ok.hd hc) he hit p.isList (by simp;omega) fun h' eb=>⟨rfl,I.turned (t':=s.toks) (fun b o hb e=>eb b o hb e) f0 f1 f3 f4 f5⟩
 self:=fun A i s Q E st h=>by obtain⟨⟨old,he⟩,_⟩:=st;exact S5 he h
def R9 (K:aW) (ta:TA):TI:=fun σ H R=>ta σ H fun vs H1=>∃a,vs=[.ref a]/\(∃xs,SqL K H1 a xs)/\R (Ite K a) H1
theorem KM {a:Expr} {ta:TA} {k1:ao} (hg:Gl X "enumerate") (hm:X.mg "enumerate"=af) (ha:PA X [a] ta) (hs:aO [a] X.env=[(ar,eval a X.env)]:=by rfl) :
  PI X (.Tuple elts k1 tpos) (.Call (.Name "enumerate" p) [a] [] pos) (R9 X.K ta):=by
 intro pins s σ H R I h;refine Call_ (jF I hg hm UT (uN .(aK) hs rfl));obtain⟨l,e,⟨xs,hq⟩,q⟩:=q1;subst e;obtain⟨u,rfl,r2⟩:=eQ r1;cases r2;obtain⟨its,rv,pl,hz⟩:=I1.list hq;refine call_enumerate_list pl.isList fun h' he hit hsz hk=>?_;have I2:Inv X pins σ H1 {s1 with heap:=h'}:=I1.kept (t':=s1.toks) hk;refine S5 he ?_;refine⟨s1.heap.objs.size+1,[s1.heap.objs.size+1,s1.heap.objs.size],_,_,H1,rfl,I2,QY _ _ l (Nat.succ_ne_self _),⟨⟨_,he⟩,hit⟩,fun b hb=>?_,q⟩;rcases cr.mp hb with z|z
 .subst z;exact I1.fpOk (mC _) (I1.hok.fresh (mC _))
 .have z':b=s1.heap.objs.size:=by simpa using z
  subst z';exact I1.fpOk (qv _) (I1.hok.fresh (qv _))
inductive D where
 |non|bl (b:aP)|int (i:ah)|str (x:ai)|tup (l:ac D)|lst (l:ac D)|scr (ns:ac ah)
 |dk (l:ac (Key×D))|dt (l:ac .(aG))|fdt (l:ac .(aG))|ins (c:ai) (fs:ac (ai×D))|ty (n:cK)
noncomputable def gE:Key->D
 |.inl i=>.int i
 |.inr x=>.str x
structure Cn where
 cls:ai->aq au
 self:aq au:=af
mutual
inductive Rep (Γ:Cn) (K:aW) (G:Hp):V->D->Prop where
 |non:Rep Γ K G .non .non
 |bl (b:aP):Rep Γ K G (.bl b) (.bl b)
 |int (i:ah):Rep Γ K G (.int i) (.int i)
 |str (x:ai):Rep Γ K G (.str x) (.str x)
 |ty (n:cK):Rep Γ K G (.ty n) (.ty n)
 |tup {a:au} {vs:ac V} {ds:ac D}:G a=aa (.tup vs)->Reps Γ K G vs ds->Rep Γ K G (.ref a) (.tup ds)
 |lst {a:au} {vs:ac V} {ds:ac D}:G a=aa (.lst vs)->Reps Γ K G vs ds->Rep Γ K G (.ref a) (.lst ds)
 |scr {a:au} {ns:ac ah}:SqL K G a (ns.map V.int)->Rep Γ K G (.ref a) (.scr ns)
 |dk {a:au} {us:ac (Key×V)} {kvs:ac (Key×D)}:G a=aa (.dK us)->us.map (·.1)=kvs.map (·.1)->Reps Γ K G (us.map (·.2)) (kvs.map (·.2))->Rep Γ K G (.ref a) (.dk kvs)
 |dt {a:au} {us:ac .(aR)} {kvs:ac .(aG)}:G a=aa (.dT us)->us.map (·.1)=kvs.map (·.1)->Reps Γ K G (us.map (·.2)) (kvs.map (·.2))->Rep Γ K G (.ref a) (.dt kvs)
 |fdt {a:au} {o:Obj} {us:ac .(aR)} {kvs:ac .(aG)}:G a=aa (.frz o (.dT us))->us.map (·.1)=kvs.map (·.1)->Reps Γ K G (us.map (·.2)) (kvs.map (·.2))->Rep Γ K G (.ref a) (.fdt kvs)
 |ins {a C dx:au} {c:ai} {us:ac (ai×V)} {fs:ac (ai×D)}:G a=aa (.ins C dx us)->Γ.cls c=aa C->us.map (·.1)=fs.map (·.1)->Reps Γ K G (us.map (·.2)) (fs.map (·.2))->Rep Γ K G (.ref a) (.ins c fs)
inductive Reps (Γ:Cn) (K:aW) (G:Hp):ac V->ac D->Prop where
 |nil:Reps Γ K G [] []
 |cons {v:V} {d:D} {vs:ac V} {ds:ac D}:Rep Γ K G v d->Reps Γ K G vs ds->Reps Γ K G (v::vs) (d::ds)
end
variable {Γ Γ':Cn} {G G' G1:Hp} {d:D} {ds:ac D}
section
variable {G2:Hp}
theorem Rep.tr (s:ba G G') (hc:Γ'.cls=Γ.cls) (r:Rep Γ K G v d):Rep Γ' K G' v d:=
 r.rec (motive_1:=fun v d _=>Rep Γ' K G' v d) (motive_2:=fun vs ds _=>Reps Γ' K G' vs ds) .non .bl .int .str .ty (fun h _ i=>.tup (s _ _ h) i) (fun h _ i=>.lst (s _ _ h) i) (fun h=>.scr (s.seq h)) (fun h e _ i=>.dk (s _ _ h) e i) (fun h e _ i=>.dt (s _ _ h) e i) (fun h e _ i=>.fdt (s _ _ h) e i) (fun h c e _ i=>.ins (s _ _ h) (by rw[hc];exact c) e i) .nil fun _ _ a b=>.cons a b
theorem Reps.tr {Γ':Cn} (s:ba G G') (hc:Γ'.cls=Γ.cls):∀{vs:ac V} {ds:ac D},Reps Γ K G vs ds->Reps Γ' K G' vs ds
 |_,_,.nil=>.nil
 |_,_,.cons h r=>.cons (h.tr s hc) (r.tr s hc)
theorem Rep.mono (r:Rep Γ K G v d) (s:ba G G'):Rep Γ K G' v d:=r.tr s rfl
theorem Reps.mono (r:Reps Γ K G vs ds) (s:ba G G'):Reps Γ K G' vs ds:=r.tr s rfl
theorem Rep.re {Γ':Cn} (hc:Γ'.cls=Γ.cls) {v:V} {d:D} (r:Rep Γ K G v d):Rep Γ' K G v d:=r.tr (ba.refl _) hc
theorem Reps.re {Γ':Cn} (hc:Γ'.cls=Γ.cls) {vs:ac V} {ds:ac D} (r:Reps Γ K G vs ds):Reps Γ' K G vs ds:=r.tr (ba.refl _) hc
theorem Reps.length:∀{vs:ac V} {ds:ac D},Reps Γ K G vs ds->vs.length=ds.length
 |_,_,.nil=>rfl
 |_,_,.cons _ r=>by rw[qi,qi,r.length]
theorem Reps.get:∀{vs:ac V} {ds:ac D} {i:ao} {d:D},Reps Γ K G vs ds->ds[i]?=aa d->∃v,vs[i]?=aa v/\Rep Γ K G v d
 |_,_,_,_,.nil,e=>by simp at e
 |_,_,0,_,.cons r _,e=>by simp at e;subst e;exact⟨_,rfl,r⟩
 |_,_,i+1,d,.cons _ t,e=>by obtain⟨u,h1,h2⟩:=Reps.get (i:=i) (d:=d) t (by simpa using e);exact⟨u,by simpa using h1,h2⟩
theorem Reps.getV:∀{vs:ac V} {ds:ac D} {i:ao} {v:V},Reps Γ K G vs ds->vs[i]?=aa v->∃d,ds[i]?=aa d/\Rep Γ K G v d
 |_,_,_,_,.nil,e=>by simp at e
 |_,_,0,_,.cons r _,e=>by simp at e;subst e;exact⟨_,rfl,r⟩
 |_,_,i+1,d,.cons _ t,e=>by obtain⟨u,h1,h2⟩:=Reps.getV (i:=i) (v:=d) t (by simpa using e);exact⟨u,by simpa using h1,h2⟩
theorem Reps.append:∀{vs ws:ac V} {ds es:ac D},Reps Γ K G vs ds->Reps Γ K G ws es->Reps Γ K G (vs++ws) (ds++es)
 |_,_,_,_,.nil,s=>s
 |_,_,_,_,.cons r t,s=>.cons r (t.append s)
theorem Reps.take:∀{vs:ac V} {ds:ac D} (n:ao),Reps Γ K G vs ds->Reps Γ K G (vs.take n) (ds.take n)
 |_,_,0,_=>.nil
 |_,_,_+1,.nil=>.nil
 |_,_,n+1,.cons r t=>.cons r (t.take n)
theorem Reps.drop:∀{vs:ac V} {ds:ac D} (n:ao),Reps Γ K G vs ds->Reps Γ K G (vs.drop n) (ds.drop n)
 |_,_,0,r=>r
 |_,_,_+1,.nil=>.nil
 |_,_,n+1,.cons _ t=>t.drop n
theorem Reps.ints:∀(ns:ac ah),Reps Γ K G (ns.map V.int) (ns.map D.int)
 |[]=>.nil
 |n::r=>.cons (.int n) (Reps.ints r)
theorem Reps.rep {vs:ac V} {ds:ac D} (h:Reps Γ K G vs ds):∀k:ao,Reps Γ K G (bM k vs).flatten (bM k ds).flatten
 |0=>.nil
 |k+1=>by rw[li,li,ox,ox];exact h.append (Reps.rep h k)
noncomputable def kyV:V->aP
 |.int _=>aj
 |.str _=>aj
 |_=>ar
def kyT:HO->aP
 |.tup vs=>vs.all kyV
 |_=>ar
structure Step (G H G' H':Hp):Prop where
 hh:ba H H'
 gg:ba G G'
 gh:ba G' H'
 out:∀a o,H a=aa o->kyT o=ar->G' a=G a
theorem Step.refl (gh:ba G H):Step G H G H:=⟨.refl _,.refl _,gh,fun _ _ _ _=>rfl⟩
theorem Step.trans (a:Step G H G1 H1) (b:Step G1 H1 G2 H2):Step G H G2 H2:=
 ⟨a.hh.trans b.hh,a.gg.trans b.gg,b.gh,fun c o e k=>(b.out c o (a.hh c o e) k).trans (a.out c o e k)⟩
theorem Step.new {p:au} {o:HO} (gh:ba G H) (hp:H p=af):Step G H (upd G p o) (upd H p o):=by
 have gp:G p=af:=gh.free hp;refine⟨fun b u e=>?_,fun b u e=>?_,fun b u e=>?_,fun b u e _=>?_⟩
 .rw[aF (bD e hp)];exact e
 .rw[aF (bD e gp)];exact e
 .by_cases hb:b=p
  .subst hb;rw[bj] at e ⊢;exact e
  .rw[aF hb] at e ⊢;exact gh b u e
 .rw[aF (bD e hp)]
theorem Step.newOwn {p:au} {o:HO} (gh:ba G H) (hp:H p=af):Step G H G (upd H p o):=by
 refine⟨fun b u e=>?_,.refl _,fun b u e=>?_,fun _ _ _ _=>rfl⟩
 .rw[aF (bD e hp)];exact e
 .rw[aF (bD (gh b u e) hp)];exact gh b u e
end
inductive Fld where
 |d (d:D)|k (kvs:ac (Key×D))|t (kvs:ac .(aG))
inductive Slot where
 |sh (d:D)
 |own (ds:ac D)
 |obj (c:ai) (fs:ac (ai×D))
 |objd (c:ai) (fs:ac (ai×D)) (n:ai) (kvs:ac (Key×D))
 |odk (kvs:ac (Key×D))
 |odt (kvs:ac .(aG))
 |fo (s:aP) (c:ai) (fs:ac (ai×Fld))
noncomputable abbrev bo:=ac (aq Slot)
noncomputable def gr:D->aP
 |.non=>aj
 |.bl _=>aj
 |.int _=>aj
 |.str _=>aj
 |_=>ar
def m4 (H:Hp):ac au->ac (ac V)->Prop
 |[],[]=>True
 |p::ps,vs::vss=>H p=aa (.lst vs)/\m4 H ps vss
 |_,_=>False
def ui (Γ:Cn) (K:aW) (G:Hp):ac (ac V)->ac (ac D)->Prop
 |[],[]=>True
 |vs::vss,ds::dss=>Reps Γ K G vs ds/\ui Γ K G vss dss
 |_,_=>False
theorem m4.mem {H:Hp}:∀{ps:ac au} {vss:ac (ac V)},m4 H ps vss->∀b∈ps,∃o,H b=aa o/\kyT o=ar
 |[],_,_,b,hb=>by cases hb
 |p::ps,[],h,b,hb=>h.elim
 |p::ps,vs::vss,h,b,hb=>by
  rcases cr.mp hb with rfl|hb
  .exact⟨_,h.1,rfl⟩
  .exact h.2.mem b hb
theorem m4.stay {H H':Hp}:∀{ps:ac au} {vss:ac (ac V)},m4 H ps vss->(∀b∈ps,H' b=H b)->m4 H' ps vss
 |[],[],_,_=>trivial
 |[],_::_,h,_=>h.elim
 |p::ps,[],h,_=>h.elim
 |p::ps,vs::vss,h,e=>⟨(e p qg).trans h.1,h.2.stay fun b hb=>e b (qh _ hb)⟩
theorem ui.map {Γ:Cn} {K:aW} {G G':Hp} (f:∀{vs:ac V} {ds:ac D},Reps Γ K G vs ds->Reps Γ K G' vs ds):∀{vss:ac (ac V)} {dss:ac (ac D)},ui Γ K G vss dss->ui Γ K G' vss dss
 |[],[],_=>trivial
 |[],_::_,h=>h.elim
 |_::_,[],h=>h.elim
 |_::_,_::_,h=>⟨f h.1,h.2.map f⟩
inductive FldR (Γ:Cn) (K:aW) (G H:Hp):V->Fld->ac au->Prop where
 |d {v:V} {d:D}:Rep Γ K G v d->FldR Γ K G H v (.d d) []
 |k {q:au} {us:ac (Key×V)} {kvs:ac (Key×D)}:H q=aa (.dK us)->us.map (·.1)=kvs.map (·.1)->Reps Γ K G (us.map (·.2)) (kvs.map (·.2))->FldR Γ K G H (.ref q) (.k kvs) [q]
 |t {q:au} {us:ac .(aR)} {kvs:ac .(aG)}:H q=aa (.dT us)->us.map (·.1)=kvs.map (·.1)->Reps Γ K G (us.map (·.2)) (kvs.map (·.2))->FldR Γ K G H (.ref q) (.t kvs) [q]
inductive FldsR (Γ:Cn) (K:aW) (G H:Hp):ac V->ac Fld->ac au->Prop where
 |nil:FldsR Γ K G H [] [] []
 |cons {v:V} {f:Fld} {p:ac au} {vs:ac V} {fs:ac Fld} {ps:ac au}:FldR Γ K G H v f p->FldsR Γ K G H vs fs ps->FldsR Γ K G H (v::vs) (f::fs) (p++ps)
theorem FldR.mem {v:V} {f:Fld} {p:ac au} (r:FldR Γ K G H v f p):∀b∈p,∃o,H b=aa o/\kyT o=ar:=by
 cases r with
 |d _=>intro b hb;cases hb
 |k h _ _=>intro b hb;rw[bL.mp hb];exact⟨_,h,rfl⟩
 |t h _ _=>intro b hb;rw[bL.mp hb];exact⟨_,h,rfl⟩
theorem FldR.stay {f:Fld} {p:ac au} (r:FldR Γ K G H v f p) (gg:ba G G') (hh:∀b∈p,H' b=H b):FldR Γ K G' H' v f p:=by
 cases r with
 |d h=>exact .d (h.mono gg)
 |k h a c=>exact .k ((hh _ qg).trans h) a (c.mono gg)
 |t h a c=>exact .t ((hh _ qg).trans h) a (c.mono gg)
theorem FldR.uniq {f:Fld} {p q:ac au} (r:FldR Γ K G H v f p) (s:FldR Γ K G H v f q):p=q:=by cases r<;>cases s<;>rfl
theorem FldsR.mem:∀{vs:ac V} {fs:ac Fld} {ps:ac au},FldsR Γ K G H vs fs ps->∀b∈ps,∃o,H b=aa o/\kyT o=ar
 |_,_,_,.nil,b,hb=>by cases hb
 |_,_,_,.cons r t,b,hb=>(dA.mp hb).elim (r.mem b) (t.mem b)
theorem FldsR.stay:∀{vs:ac V} {fs:ac Fld} {ps:ac au},FldsR Γ K G H vs fs ps->ba G G'->(∀b∈ps,H' b=H b)->FldsR Γ K G' H' vs fs ps
 |_,_,_,.nil,_,_=>.nil
 |_,_,_,.cons r t,gg,hh=>.cons (r.stay gg fun b hb=>hh b (rh _ hb)) (t.stay gg fun b hb=>hh b (qR _ hb))
theorem FldsR.uniq:∀{vs:ac V} {fs:ac Fld} {ps qs:ac au},FldsR Γ K G H vs fs ps->FldsR Γ K G H vs fs qs->ps=qs
 |_,_,_,_,.nil,.nil=>rfl
 |_,_,_,_,.cons r t,.cons r' t'=>by rw[r.uniq r',t.uniq t']
inductive SR (Γ:Cn) (K:aW) (H₀ G H:Hp):Slot->V->ac au->Prop where
 |sh {d:D} {v:V}:Rep Γ K G v d->SR Γ K H₀ G H (.sh d) v []
 |own {a:au} {vs:ac V} {ds:ac D}:H₀ a=af->G a=af->H a=aa (.lst vs)->Reps Γ K G vs ds->SR Γ K H₀ G H (.own ds) (.ref a) [a]
 |obj {c:ai} {a C dx:au} {vs:ac (ai×V)} {fs:ac (ai×D)}:Γ.cls c=aa C->H₀ a=af->G a=af->H a=aa (.ins C dx vs)->vs.map (·.1)=fs.map (·.1)->Reps Γ K G (vs.map (·.2)) (fs.map (·.2))->Γ.self=aa a->SR Γ K H₀ G H (.obj c fs) (.ref a) [a]
 |objd {c n:ai} {a C dx p:au} {vs:ac (ai×V)} {fs:ac (ai×D)} {us:ac (Key×V)} {kvs:ac (Key×D)}:Γ.cls c=aa C->H₀ a=af->G a=af->H a=aa (.ins C dx (vs++[(n,.ref p)]))->vs.map (·.1)=fs.map (·.1)->Reps Γ K G (vs.map (·.2)) (fs.map (·.2))->
   H₀ p=af->G p=af->H p=aa (.dK us)->us.map (·.1)=kvs.map (·.1)->Reps Γ K G (us.map (·.2)) (kvs.map (·.2))->Γ.self=aa a->SR Γ K H₀ G H (.objd c fs n kvs) (.ref a) [a,p]
 |odk {a:au} {us:ac (Key×V)} {kvs:ac (Key×D)}:H₀ a=af->G a=af->H a=aa (.dK us)->us.map (·.1)=kvs.map (·.1)->Reps Γ K G (us.map (·.2)) (kvs.map (·.2))->SR Γ K H₀ G H (.odk kvs) (.ref a) [a]
 |odt {a:au} {us:ac .(aR)} {kvs:ac .(aG)}:H₀ a=af->G a=af->H a=aa (.dT us)->us.map (·.1)=kvs.map (·.1)->Reps Γ K G (us.map (·.2)) (kvs.map (·.2))->SR Γ K H₀ G H (.odt kvs) (.ref a) [a]
 |fo {s:aP} {c:ai} {a C dx:au} {vs:ac (ai×V)} {fs:ac (ai×Fld)} {ps:ac au}:(s=aj->Γ.self=aa a)->Γ.cls c=aa C->(∀b∈a::ps,H₀ b=af/\G b=af)->(a::ps).Nodup->H a=aa (.ins C dx vs)->vs.map (·.1)=fs.map (·.1)->FldsR Γ K G H (vs.map (·.2)) (fs.map (·.2)) ps->SR Γ K H₀ G H (.fo s c fs) (.ref a) (a::ps)
variable {H₀:Hp}
section
variable {s:Slot}
theorem SR.fpt (r:SR Γ K H₀ G H s v fp):∀b∈fp,H₀ b=af/\G b=af/\∃o,H b=aa o/\kyT o=ar:=by
 cases r with
 |sh r=>intro b hb;cases hb
 |own h1 h2 h3 _=>intro b hb;rw[bL.mp hb];exact⟨h1,h2,_,h3,rfl⟩
 |obj _ h1 h2 h3 _ _ _=>intro b hb;rw[bL.mp hb];exact⟨h1,h2,_,h3,rfl⟩
 |objd _ h1 h2 h3 _ _ q1 q2 q3 _ _ _=>
  intro b hb;rcases cr.mp hb with rfl|hb
  .exact⟨h1,h2,_,h3,rfl⟩
  .rw[bL.mp hb];exact⟨q1,q2,_,q3,rfl⟩
 |odk h1 h2 h3 _ _=>intro b hb;rw[bL.mp hb];exact⟨h1,h2,_,h3,rfl⟩
 |odt h1 h2 h3 _ _=>intro b hb;rw[bL.mp hb];exact⟨h1,h2,_,h3,rfl⟩
 |fo _ _ h1 h2 h3 _ h4=>
  intro b hb;refine⟨(h1 b hb).1,(h1 b hb).2,?_⟩;rcases cr.mp hb with rfl|hb
  .exact⟨_,h3,rfl⟩
  .exact h4.mem b hb
theorem SR.stay (r:SR Γ K H₀ G H s v fp) (gg:ba G G') (hg:∀b∈fp,G' b=af) (hh:∀b∈fp,H' b=H b):SR Γ K H₀ G' H' s v fp:=by
 cases r with
 |sh r=>exact .sh (r.mono gg)
 |own h1 h2 h3 h4=>exact .own h1 (hg _ (bL.mpr rfl)) ((hh _ (bL.mpr rfl)).trans h3) (h4.mono gg)
 |obj c h1 h2 h3 h4 h5 hs=>exact .obj c h1 (hg _ (bL.mpr rfl)) ((hh _ (bL.mpr rfl)).trans h3) h4 (h5.mono gg) hs
 |objd c h1 h2 h3 h4 h5 q1 q2 q3 q4 q5 hs=>
  exact .objd c h1 (hg _ qg) ((hh _ qg).trans h3) h4 (h5.mono gg) q1 (hg _ (qh _ qg)) ((hh _ (qh _ qg)).trans q3) q4 (q5.mono gg) hs
 |odk h1 h2 h3 h4 h5=>exact .odk h1 (hg _ (bL.mpr rfl)) ((hh _ (bL.mpr rfl)).trans h3) h4 (h5.mono gg)
 |odt h1 h2 h3 h4 h5=>exact .odt h1 (hg _ (bL.mpr rfl)) ((hh _ (bL.mpr rfl)).trans h3) h4 (h5.mono gg)
 |fo y c h1 h2 h3 h4 h5=>exact .fo y c (fun b hb=>⟨(h1 b hb).1,hg b hb⟩) h2 ((hh _ qg).trans h3) h4 (h5.stay gg fun b hb=>hh b (qh _ hb))
theorem SR.stepS (r:SR Γ K H₀ G H s v fp) (t:Step G H G' H'):SR Γ K H₀ G' H' s v fp:=r.stay t.gg (fun b hb=>by
 obtain⟨_,h2,o,h3,h4⟩:=r.fpt b hb;exact(t.out b o h3 h4).trans h2) (fun b hb=>by
 obtain⟨_,_,o,h3,_⟩:=r.fpt b hb;rw[h3];exact t.hh b o h3)
end
theorem SR.uniq {Γ:Cn} {K:aW} {H₀ G H:Hp} {s:Slot} {v:V} {fp fq:ac au} (r:SR Γ K H₀ G H s v fp) (q:SR Γ K H₀ G H s v fq):fp=fq:=by
 cases r with
 |sh r=>cases q;rfl
 |own h1 h2 h3 _=>cases q;rfl
 |obj _ h1 h2 h3 _ _ _=>cases q;rfl
 |objd _ h1 h2 h3 _ _ q1 q2 q3 _ _ _=>
  cases q with
  |objd _ _ _ k3 _ _ _ _ _ _ _ _=>
   rw[h3] at k3;have z:=(HO.ins.inj (qH k3)).2.2;have z2:=(List.append_inj' z rfl).2;cases z2;rfl
 |odk h1 h2 h3 _ _=>cases q;rfl
 |odt h1 h2 h3 _ _=>cases q;rfl
 |fo _ _ _ _ h3 _ h5=>
  cases q with
  |fo _ _ _ _ k3 _ k5=>
   rw[h3] at k3;cases k3;rw[h5.uniq k5]
structure EnvRel (Γ:Cn) (K:aW) (H₀ G H:Hp) (ρ:bo) (σ:St):Prop where
 len:ρ.length=σ.length
 sl:∃fps:ao->ac au,(∀(i:ao) s,ρ[i]?=aa (aa s)->∃v,σ[i]?=aa (aa v)/\SR Γ K H₀ G H s v (fps i)) /\
  ∀(i j:ao) s t,i≠j->ρ[i]?=aa (aa s)->ρ[j]?=aa (aa t)->∀b∈fps i,b∉fps j
structure At (Γ:Cn) (K:aW) (G₀ H₀ G H:Hp) (ρ:bo) (σ:St):Prop where
 st:Step G₀ H₀ G H
 env:EnvRel Γ K H₀ G H ρ σ
noncomputable def eW (ρ:bo):Prop:=∀(i:ao) s,ρ[i]?=aa (aa s)->∃d,s=.sh d
variable {G₀:Hp} {ρ:bo} {fp':ac au} {ws:ac V}
theorem EnvRel.ofSh (len:ρ.length=σ.length) (no:eW ρ) (sh:∀(i:ao) d,ρ[i]?=aa (aa (.sh d))->∃v,σ[i]?=aa (aa v)/\Rep Γ K G v d):EnvRel Γ K H₀ G H ρ σ :=
 ⟨len,fun _=>[],fun i s e=>by obtain⟨d,rfl⟩:=no i s e;obtain⟨v,h1,h2⟩:=sh i d e;exact⟨v,h1,.sh h2⟩,fun _ _ _ _ _ _ _ b hb=>by cases hb⟩
theorem EnvRel.sh (E:EnvRel Γ K H₀ G H ρ σ) (i:ao) (d:D) (e:ρ[i]?=aa (aa (.sh d))):∃v,σ[i]?=aa (aa v)/\Rep Γ K G v d:=by
 obtain⟨fps,h,_⟩:=E.sl;obtain⟨v,h1,h2⟩:=h i _ e;generalize fps i=fp at h2;cases h2 with
 |sh r=>exact⟨v,h1,r⟩
theorem EnvRel.own (E:EnvRel Γ K H₀ G H ρ σ) (i:ao) (ds:ac D) (e:ρ[i]?=aa (aa (.own ds))):∃a vs,σ[i]?=aa (aa (.ref a))/\H₀ a=af/\G a=af/\H a=aa (.lst vs)/\Reps Γ K G vs ds:=by
 obtain⟨fps,h,_⟩:=E.sl;obtain⟨v,h1,h2⟩:=h i _ e;generalize fps i=fp at h2;cases h2 with
 |own q1 q2 q3 q4=>exact⟨_,_,h1,q1,q2,q3,q4⟩
theorem At.gh (A:At Γ K G₀ H₀ G H ρ σ):ba G H:=A.st.gh
theorem At.step (A:At Γ K G₀ H₀ G H ρ σ) (s:Step G H G' H'):At Γ K G₀ H₀ G' H' ρ σ:=by
 obtain⟨fps,h,ap⟩:=A.env.sl;exact⟨A.st.trans s,A.env.len,fps,fun i t e=>by obtain⟨v,h1,h2⟩:=h i t e;exact⟨v,h1,h2.stepS s⟩,ap⟩
theorem At.put (A:At Γ K G₀ H₀ G H ρ σ) {s':Slot} {v':V} 
  (hfp:fp=[]\/∃s v,ρ[i]?=aa (aa s)/\σ[i]?=aa (aa v)/\SR Γ K H₀ G H s v fp)
  (hH:∀b o,H b=aa o->b∉fp->H' b=aa o) (hS:SR Γ K H₀ G' H' s' v' fp') (hn:∀b∈fp',b∈fp\/H b=af)
  (gg:ba G G') (gh:ba G' H') (out:∀b o,H b=aa o->b∉fp->kyT o=ar->G' b=G b) (out2:∀b∈fp,H₀ b=af):At Γ K G₀ H₀ G' H' (ρ.set i (aa s')) (σ.set i (aa v')):=by
 obtain⟨fps,h,ap⟩:=A.env.sl;have hl:=A.env.len;have old:∀b∈fp,∀j t,j≠i->ρ[j]?=aa (aa t)->b∉fps j:=fun b hb j t hj e=>by
  rcases hfp with rfl|⟨s,v,h1,h2,h3⟩
  .cases hb
  .obtain⟨v2,h4,h5⟩:=h i s h1;rw[h2] at h4;cases h4;have efp:fp=fps i:=h3.uniq h5;subst efp;exact ap i j s t (cM hj) h1 e b hb
 have slj:∀(j:ao) t,j≠i->ρ[j]?=aa (aa t)->∃v,σ[j]?=aa (aa v)/\SR Γ K H₀ G' H' t v (fps j):=fun j t hj e=>by
  obtain⟨v,h1,h2⟩:=h j t e;refine⟨v,h1,h2.stay gg (fun b hb=>?_) (fun b hb=>?_)⟩
  .obtain⟨_,q2,o,q3,q4⟩:=h2.fpt b hb;exact(out b o q3 (fun z=>old b z j t hj e hb) q4).trans q2
  .obtain⟨_,_,o,q3,_⟩:=h2.fpt b hb;rw[q3];exact hH b o q3 fun z=>old b z j t hj e hb
 have no2:∀b o,H₀ b=aa o->b∉fp:=fun b o e z=>by rw[out2 b z] at e;cases e
 have hst:Step G₀ H₀ G' H':=⟨fun b o e=>hH b o (A.st.hh b o e) (no2 b o e),A.st.gg.trans gg,gh,fun b o e k=>(out b o (A.st.hh b o e) (no2 b o e) k).trans (A.st.out b o e k)⟩;refine⟨hst,by simp[hl],fun j=>if j=i then fp' else fps j,fun j t e=>?_,fun j k t u hjk e1 e2 b hb=>?_⟩
 .by_cases hj:j=i
  .subst hj;have hlt:j < ρ.length:=by
    rcases mN j ρ.length with q|q
    .exact q
    .rw[yL (by simp;omega)] at e;cases e
   rw[oj hlt] at e;cases e;show ∃v,_/\SR _ _ _ _ _ _ v (if j=j then fp' else fps j);rw[qX rfl];exact⟨v',by rw[oj .(b)],hS⟩
  .rw[qy (cM hj)] at e ⊢;show ∃v,_/\SR _ _ _ _ _ _ v (if j=i then fp' else fps j);rw[qY hj];exact slj j t hj e
 .have cross:∀{k:ao} {u:Slot},k≠i->ρ[k]?=aa (aa u)->∀b∈fp',b∉fps k:=fun {k u} hk e b hb hb2=>by
   rcases hn b hb with z|z
   .exact old b z k u hk e hb2
   .obtain⟨v,_,q⟩:=h k u e;obtain⟨_,_,o,q3,_⟩:=q.fpt b hb2;rw[z] at q3;cases q3
  replace hb:b∈(if j=i then fp' else fps j):=hb
  show b∉(if k=i then fp' else fps k);by_cases hj:j=i
  .subst hj;have hk:k≠j:=cM hjk;rw[qX rfl] at hb;rw[qY hk];rw[qy hjk] at e2;exact cross hk e2 b hb
  .rw[qY hj] at hb;rw[qy (cM hj)] at e1;by_cases hk:k=i
   .subst hk;rw[qX rfl];exact fun z=>cross hj e1 b z hb
   .rw[qY hk];rw[qy (cM hk)] at e2;exact ap j k t u hjk e1 e2 b hb
theorem At.setSh (A:At Γ K G₀ H₀ G H ρ σ) (r:Rep Γ K G v d):At Γ K G₀ H₀ G H (ρ.set i (aa (.sh d))) (σ.set i (aa v)):=
 A.put (fp:=[]) (fp':=[]) (.inl rfl) (fun b o e _=>e) (.sh r) .(be) (.refl _) A.gh .(aA) .(be)
theorem At.setOwn (A:At Γ K G₀ H₀ G H ρ σ) (ha:H a=af) (r:Reps Γ K G vs ds):At Γ K G₀ H₀ G (upd H a (.lst vs)) (ρ.set i (aa (.own ds))) (σ.set i (aa (.ref a))):=by have h0:H₀ a=af:=A.st.hh.free ha;have hg:G a=af:=A.gh.free ha;refine A.put (fp:=[]) (fp':=[a]) (.inl rfl) (fun b o e _=>by rw[aF (bD e ha)];exact e) (.own h0 hg bj r) (fun b hb=>.inr (by rw[bL.mp hb];exact ha)) (.refl _) .(aX) .(aA) .(be);rw[aF (bD e hg)];exact A.gh b o e
theorem Nv {l:ac α} {x:α} (h:l[i]?=aa x):l.set i x=l:=by
 apply S6;intro j;by_cases hj:j=i
 .subst hj;rw[oj (df.mp h).1,h]
 .rw[qy (cM hj)]
theorem At.ch (A:At Γ K G₀ H₀ G H ρ σ) {s s':Slot} (hi:ρ[i]?=aa (aa s)) (hv:σ[i]?=aa (aa v)) (hs:SR Γ K H₀ G H s v fp)
  (hH:∀b o,H b=aa o->b∉fp->H' b=aa o) (hS:SR Γ K H₀ G' H' s' v fp') (hn:∀b∈fp',b∈fp\/H b=af)
  (gg:ba G G') (gh:ba G' H') (out:∀b o,H b=aa o->b∉fp->kyT o=ar->G' b=G b):At Γ K G₀ H₀ G' H' (ρ.set i (aa s')) σ:=by
 have:=A.put (i:=i) (.inr ⟨s,v,hi,hv,hs⟩) hH hS hn gg gh out fun b hb=>(hs.fpt b hb).1
 rwa [Nv hv] at this
theorem At.get (A:At Γ K G₀ H₀ G H ρ σ) {s:Slot} (hi:ρ[i]?=aa (aa s)):∃v fp,σ[i]?=aa (aa v)/\SR Γ K H₀ G H s v fp:=by obtain⟨fps,h,_⟩:=A.env.sl;obtain⟨v,h1,h2⟩:=h i s hi;exact⟨v,_,h1,h2⟩
theorem At.chOwn (A:At Γ K G₀ H₀ G H ρ σ) {es:ac D} (hi:ρ[i]?=aa (aa (.own ds))) (ha:σ[i]?=aa (aa (.ref a))) (r:Reps Γ K G ws es):At Γ K G₀ H₀ G (upd H a (.lst ws)) (ρ.set i (aa (.own es))) σ:=by
 obtain⟨v,fp,h1,h2⟩:=A.get hi;rw[ha] at h1;cases h1;cases h2 with
 |own q1 q2 q3 q4=>
  refine A.ch hi ha (.own q1 q2 q3 q4) (fun b o e hb=>?_) (.own q1 q2 bj r) (fun b hb=>.inl hb) (.refl _) .(aX) .(aA)
  .rw[aF (fun z=>hb (bL.mpr z))];exact e
  .rw[aF (bD e q2)];exact A.gh b o e
theorem At.freeze (A:At Γ K G₀ H₀ G H ρ σ) (hi:ρ[i]?=aa (aa (.own ds))):∃G',ba G G'/\At Γ K G₀ H₀ G' H (ρ.set i (aa (.sh (.lst ds)))) σ:=by
 obtain⟨v,fp,h1,h2⟩:=A.get hi;cases h2 with
 |own q1 q2 q3 q4=>
  rename_i a vs;have sm:ba G (upd G a (.lst vs)):=fun b o e=>by rw[aF (bD e q2)];exact e
  refine⟨upd G a (.lst vs),sm,A.ch hi h1 (.own q1 q2 q3 q4) (fun b o e hb=>e) (.sh (.lst bj (q4.mono sm))) .(be) sm .(aX) (fun b o e hb _=>?_)⟩
  .by_cases hb:b=a
   .subst hb;rw[bj] at e;cases e;exact q3
   .rw[aF hb] at e;exact A.gh b o e
  .rw[aF (fun z=>hb (bL.mpr z))]
mutual
inductive NewL (H G:Hp):V->D->Prop where
 |flat {v:V} {d:D}:gr d=aj->NewL H G v d
 |tup {a:au} {vs:ac V} {ds:ac D}:G a=aa (.tup vs)->NewLs H G vs ds->NewL H G (.ref a) (.tup ds)
 |lst {a:au} {vs:ac V} {ds:ac D}:G a=aa (.lst vs)->H a=af->NewLs H G vs ds->NewL H G (.ref a) (.lst ds)
inductive NewLs (H G:Hp):ac V->ac D->Prop where
 |nil:NewLs H G [] []
 |cons {v:V} {d:D} {vs:ac V} {ds:ac D}:NewL H G v d->NewLs H G vs ds->NewLs H G (v::vs) (d::ds)
end
inductive Fl where
 |nx|bk|ct|rt (d:D)|ow (ds:ac D)|nw (d:D)|od (kvs:ac (Key×D))
abbrev FE:=bo->aq D
abbrev FT:=bo->aq aP
abbrev FA:=bo->aq (ac D)
abbrev FS:=bo->aq (Fl×bo)
inductive TD (Γ:Cn) (K:aW) (f:FE) (σ:St) (H:Hp) (Q:VK):Prop where
 |mk:∀G₀ H₀ G ρ d,At Γ K G₀ H₀ G H ρ σ->f ρ=aa d->(∀v G' H',Step G H G' H'->Rep Γ K G' v d->Q v H')->TD Γ K f σ H Q
inductive TDt (Γ:Cn) (K:aW) (f:FT) (σ:St) (H:Hp) (Q:aP->Hp->Prop):Prop where
 |mk:∀G₀ H₀ G ρ b,At Γ K G₀ H₀ G H ρ σ->f ρ=aa b->(∀G' H',Step G H G' H'->Q b H')->TDt Γ K f σ H Q
inductive TDa (Γ:Cn) (K:aW) (f:FA) (σ:St) (H:Hp) (Q:ac V->Hp->Prop):Prop where
 |mk:∀G₀ H₀ G ρ ds,At Γ K G₀ H₀ G H ρ σ->f ρ=aa ds->(∀vs G' H',Step G H G' H'->Reps Γ K G' vs ds->Q vs H')->TDa Γ K f σ H Q
def Q0 (Γ:Cn) (K:aW) (E:Ends) (H₀ G' H':Hp) (σ':St):Fl->Prop
 |.nx=>E.nx σ' H'
 |.bk=>E.bk σ' H'
 |.ct=>E.ct σ' H'
 |.rt d=>∀v,Rep Γ K G' v d->E.rt v H'
 |.ow ds=>∀p vs,H₀ p=af->G' p=af->H' p=aa (.lst vs)->Reps Γ K G' vs ds->E.rt (.ref p) H'
 |.nw d=>∀v,Rep Γ K G' v d->NewL H₀ G' v d->E.rt v H'
 |.od kvs=>∀p us,H₀ p=af->G' p=af->H' p=aa (.dK us)->us.map (·.1)=kvs.map (·.1)->Reps Γ K G' (us.map (·.2)) (kvs.map (·.2))->E.rt (.ref p) H'
inductive TDs (Γ:Cn) (K:aW) (g:FS) (E:Ends) (σ:St) (H:Hp):Prop where
 |mk:∀G₀ H₀ G ρ fl ρ',At Γ K G₀ H₀ G H ρ σ->g ρ=aa (fl,ρ')->(∀σ' G' H',ba G G'->At Γ K G₀ H₀ G' H' ρ' σ'->Q0 Γ K E H₀ G' H' σ' fl)->TDs Γ K g E σ H
inductive TDo (Γ:Cn) (K:aW) (f:FA) (σ:St) (H:Hp) (Q:VK):Prop where
 |mk:∀G₀ H₀ G ρ ds,At Γ K G₀ H₀ G H ρ σ->f ρ=aa ds->(∀p vs G' H',Step G H G' H'->H' p=af->Reps Γ K G' vs ds->Q (.ref p) (upd H' p (.lst vs)))->TDo Γ K f σ H Q
structure DE (Γ:Cn) (X:Cx) (e:Expr) (f:FE):Prop where
 out:PE X e (TD Γ X.K f)
structure DT (Γ:Cn) (X:Cx) (e:Expr) (f:FT):Prop where
 out:PT X e (TDt Γ X.K f)
structure DW (Γ:Cn) (X:Cx) (e:Expr) (f:FT):Prop where
 out:PW X e (TDt Γ X.K f)
structure DA (Γ:Cn) (X:Cx) (es:ac Expr) (f:FA):Prop where
 out:PA X es (TDa Γ X.K f)
structure DS (Γ:Cn) (X:Cx) (st:Stmt) (g:FS):Prop where
 out:PS X st (TDs Γ X.K g)
structure DSs (Γ:Cn) (X:Cx) (st:ac Stmt) (g:FS):Prop where
 out:PSs X st (TDs Γ X.K g)
structure DO (Γ:Cn) (X:Cx) (e:Expr) (f:FA):Prop where
 out:PE X e (TDo Γ X.K f)
variable {fa fb fc f:FE}
section
variable {a c:Expr}
theorem PE.imp {t t':TE} (h:PE X e t) (i:∀σ H Q,t' σ H Q->t σ H Q):PE X e t':=fun pins s σ H Q I q=>h pins s σ H Q I (i _ _ _ q)
theorem PT.imp {t t':TT} (h:PT X e t) (i:∀σ H Q,t' σ H Q->t σ H Q):PT X e t':=fun pins s σ H Q I q=>h pins s σ H Q I (i _ _ _ q)
theorem PW.imp {t t':TT} (h:PW X e t) (i:∀σ H Q,t' σ H Q->t σ H Q):PW X e t':=fun wh pins s σ H Q I q=>h wh pins s σ H Q I (i _ _ _ q)
theorem PA.imp {t t':TA} (h:PA X es t) (i:∀σ H Q,t' σ H Q->t σ H Q):PA X es t':=fun p pins s σ H Q I q=>h p pins s σ H Q I (i _ _ _ q)
theorem PS.imp {t t':TS} (h:PS X st t) (i:∀E σ H,t' E σ H->t E σ H):PS X st t':=fun pins s σ H E I q=>h pins s σ H E I (i _ _ _ q)
theorem PSs.imp {st:ac Stmt} {t t':TS} (h:PSs X st t) (i:∀E σ H,t' E σ H->t E σ H):PSs X st t':=fun pins s σ H E I q=>h pins s σ H E I (i _ _ _ q)
noncomputable def vSh (i:ao):FE:=fun ρ=>match ρ[i]? with
 |some (aa (.sh d))=>aa d
 |_=>af
theorem M8 (h:vSh i ρ=aa d):ρ[i]?=aa (aa (.sh d)):=by
 unfold vSh at h;split at h
 .rename_i e;cases h;exact e
 .cases h
theorem cj (i:ao) (hN:X.N[i]?=aa x:=by rfl) (hv:Vis X.env.scope x:=by ac_nf) (hd:.(s)=ar:=by decide)
  (hcd:.(M)=ar:=by decide):DE Γ X (.Name x pos) (vSh i):=⟨.(aP).imp fun σ H Q ⟨G₀,H₀,G,ρ,d,A,h,k⟩=>by
 obtain⟨v,h1,h2⟩:=A.env.sh i d (M8 h);exact⟨v,h1,k v G H (.refl A.gh) h2⟩⟩
noncomputable def vC (d:D):FE:=fun _=>aa d
theorem TD.const (r:∀G,Rep Γ X.K G v d) (h:PE X e (tC v)):DE Γ X e (vC d):=⟨h.imp fun σ H Q ⟨G₀,H₀,G,ρ,d',A,h,k⟩=>by cases h;exact k v G H (.refl A.gh) (r G)⟩
theorem nT {i j}:DE Γ X (.Constant (.int i) j pos) (vC (.int i)):=TD.const (fun _=>.int i) Ac
theorem Ax {i j}:DE Γ X (.Constant (.bool i) j pos) (vC (.bl i)):=TD.const (fun _=>.bl i) GE
theorem vz {j}:DE Γ X (.Constant .none j pos) (vC .non):=TD.const (fun _=>.non) Qp
theorem Cy {i j}:DE Γ X (.Constant (.str i) j pos) (vC (.str i)):=TD.const (fun _=>.str i) Mz
theorem Rc {i:ah} {t:Tok} (hg:Gl X x) (hm:X.mg x=aa (.int i t)) (hd:.(s)=ar:=by decide):DE Γ X (.Name x pos) (vC (.int i)):=TD.const (fun _=>.int i) (R3 hg hm ⟨t,rfl⟩ hd)
noncomputable def b2 (g:D->D->aq D) (fa fb:FE):FE:=fun ρ=>(fa ρ).bind fun x=>(fb ρ).bind fun y=>g x y
noncomputable def b1 (g:D->aq D) (fa:FE):FE:=fun ρ=>(fa ρ).bind g
noncomputable def fL (Γ:Cn) (K:aW) (g:D->D->aq D) (r:R2):Prop:=
 ∀{G H v u x y z},ba G H->Rep Γ K G v x->Rep Γ K G u y->g x y=aa z->∀Q:VK,(∀w G' H',Step G H G' H'->Rep Γ K G' w z->Q w H')->r v u H Q
theorem TD.two {g:D->D->aq D} {r:R2} (hr:fL Γ X.K g r):∀σ H Q,TD Γ X.K (b2 g fa fb) σ H Q->tOp r (TD Γ X.K fa) (TD Γ X.K fb) σ H Q:=by
 rintro σ H Q ⟨G₀,H₀,G,ρ,d,A,h,k⟩;unfold b2 at h;cases ha:fa ρ with
 |none=>rw[ha] at h;cases h
 |some x=>
  cases hb:fb ρ with
  |none=>rw[ha] at h;simp only[qb,hb,Option.bind_none] at h;cases h
  |some y=>
   simp only[ha,hb,qb] at h;refine⟨G₀,H₀,G,ρ,x,A,ha,fun v G1 H1 s1 r1=>⟨G₀,H₀,G1,ρ,y,A.step s1,hb,fun u G2 H2 s2 r2=>?_⟩⟩;exact hr s2.gh (r1.mono s2.gg) r2 h Q fun w G' H' s r=>k w G' H' ((s1.trans s2).trans s) r
theorem lY {op:Operator} {g:D->D->aq D} {r:R2} (ho:OpR X (gu op) r) (hr:fL Γ X.K g r) (ha:DE Γ X a fa) (hb:DE Γ X b fb):DE Γ X (.BinOp a op b pos) (b2 g fa fb):=⟨(El ho ha.1 hb.1).imp (TD.two hr)⟩
noncomputable def aN:D->D->aq D
 |.int i,.int j=>aa (.int (i+j))
 |.str x,.str y=>if x.length+y.length<=aH then aa (.str (x++y)) else af
 |.lst x,.lst y=>if x.length+y.length<=aH then aa (.lst (x++y)) else af
 |_,_=>af
noncomputable def cN:D->D->aq D
 |.int i,.int j=>aa (.int (i-j))
 |_,_=>af
noncomputable def iZ (x:ai) (n:ao):ai:=⟨(bM n x.cps.toList).flatten.toArray⟩
def cT:D->D->aq D
 |.int i,.int j=>if (-(2 ^ 64)<i/\i<2 ^ 64)\/(-(2 ^ 64)<j/\j<2 ^ 64) then aa (.int (i*j)) else af
 |.lst x,.int j=>if -(2 ^ 63)<=j/\j<2 ^ 63/\x.length*j.toNat<=aH then aa (.lst (bM j.toNat x).flatten) else af
 |.str x,.int j=>if 0<=j/\j<1000/\x.length<1000 then aa (.str (iZ x j.toNat)) else af
 |_,_=>af
noncomputable def iO:D->D->aq D
 |.int i,.int j=>if 0<j/\j<1073741824 then aa (.int (i / j)) else af
 |_,_=>af
noncomputable def eC:D->D->aq D
 |.int i,.int j=>if 0<j then aa (.int (i%j)) else af
 |_,_=>af
noncomputable def jK:D->D->aq D
 |.int i,.int j=>if 0<=j/\j<=1000000/\i.natAbs<2 ^ 64 then aa (.int (i ^ j.toNat)) else af
 |_,_=>af
theorem Rep.int_inv {i:ah} (r:Rep Γ K G v (.int i)):v=.int i:=by cases r;rfl
theorem Rep.str_inv {i:ai} (r:Rep Γ K G v (.str i)):v=.str i:=by cases r;rfl
theorem Rep.bl_inv {i:aP} (r:Rep Γ K G v (.bl i)):v=.bl i:=by cases r;rfl
theorem Rep.lst_inv (r:Rep Γ K G v (.lst ds)):∃a vs,v=.ref a/\G a=aa (.lst vs)/\Reps Γ K G vs ds:=by cases r;exact⟨_,_,rfl,by assumption,by assumption⟩
theorem Rep.tup_inv (r:Rep Γ K G v (.tup ds)):∃a vs,v=.ref a/\G a=aa (.tup vs)/\Reps Γ K G vs ds:=by cases r;exact⟨_,_,rfl,by assumption,by assumption⟩
theorem Rep.scr_inv (r:Rep Γ K G v (.scr ns)):∃a,v=.ref a/\SqL K G a (ns.map V.int):=by cases r;exact⟨_,rfl,by assumption⟩
theorem il {Q:VK} (gh:ba G H) (r:Reps Γ K G vs ds) (k:∀w G' H',Step G H G' H'->Rep Γ K G' w (.lst ds)->Q w H'):∀p,H p=af->Q (.ref p) (upd H p (.lst vs)):=fun p hp=>by have s:=Step.new (o:=.lst vs) gh hp;exact k _ _ _ s (.lst bj (r.mono s.gg))
theorem tj {Q:VK} (gh:ba G H) (r:Reps Γ K G vs ds) (k:∀w G' H',Step G H G' H'->Rep Γ K G' w (.tup ds)->Q w H'):∀p,H p=af->Q (.ref p) (upd H p (.tup vs)):=fun p hp=>by have s:=Step.new (o:=.tup vs) gh hp;exact k _ _ _ s (.tup bj (r.mono s.gg))
theorem RK :fL Γ K aN (fun x y H Q=>(rI0 (fun i j=>V.int (i+j)) x y H Q\/(∃i j,x=.str i/\y=.str j/\i.length+j.length<=aH/\Q (.str (i++j)) H))\/xH x y H Q):=by
 intro G H v u x y z gh r1 r2 h Q k;unfold aN at h;split at h
 .cases h;cases r1.int_inv;cases r2.int_inv;exact .inl (.inl ⟨_,_,rfl,rfl,k _ G H .(aL) (.int _)⟩)
 .split at h
  .cases h;cases r1.str_inv;cases r2.str_inv;exact .inl (.inr ⟨_,_,rfl,rfl,by assumption,k _ G H .(aL) (.str _)⟩)
  .cases h
 .split at h
  .rename_i hz;cases h;obtain⟨a,vs,rfl,ha,ra⟩:=r1.lst_inv;obtain⟨b,us,rfl,hb,rb⟩:=r2.lst_inv;exact .inr ⟨a,b,vs,us,rfl,rfl,gh _ _ ha,gh _ _ hb,by rw[ra.length,rb.length];exact hz,il gh (ra.append rb) k⟩
  .cases h
 .cases h
theorem K8:OpR X (gu .Add) (fun x y H Q=>(rI0 (fun i j=>V.int (i+j)) x y H Q\/(∃i j,x=.str i/\y=.str j/\i.length+j.length<=aH/\Q (.str (i++j)) H))\/xH x y H Q):=(QB.or R0).or Cd
theorem xj (ha:DE Γ X a fa) (hb:DE Γ X b fb):DE Γ X (.BinOp a .Add b pos) (b2 aN fa fb):=lY K8 RK ha hb
theorem K5 {g:D->D->aq D} {o:ah->ah->ah} (hg:∀x y z,g x y=aa z->∃i j,x=.int i/\y=.int j/\z=.int (o i j)):fL Γ K g (rI0 fun i j=>V.int (o i j)):=by intro G H v u x y z gh r1 r2 h Q k;obtain⟨i,j,rfl,rfl,rfl⟩:=hg x y z h;cases r1.int_inv;cases r2.int_inv;exact⟨_,_,rfl,rfl,k _ G H .(aL) (.int _)⟩
theorem xz {g:D->D->aq D} {C:ah->ah->Prop} {o:ah->ah->ah} (hg:∀x y z,g x y=aa z->∃i j,x=.int i/\y=.int j/\C i j/\z=.int (o i j)):fL Γ K g (rI C fun i j=>V.int (o i j)):=by intro G H v u x y z gh r1 r2 h Q k;obtain⟨i,j,rfl,rfl,hc,rfl⟩:=hg x y z h;cases r1.int_inv;cases r2.int_inv;exact⟨_,_,rfl,rfl,hc,k _ G H .(aL) (.int _)⟩
theorem BY (ha:DE Γ X a fa) (hb:DE Γ X b fb):DE Γ X (.BinOp a .Sub b pos) (b2 cN fa fb):=lY F9 (K5 fun x y z h=>by unfold cN at h;split at h<;>cases h;exact⟨_,_,rfl,rfl,rfl⟩) ha hb
theorem Gi (ha:DE Γ X a fa) (hb:DE Γ X b fb):DE Γ X (.BinOp a .FloorDiv b pos) (b2 iO fa fb):=lY Qn (xz fun x y z h=>by
 unfold iO at h;split at h
 .split at h<;>cases h;exact⟨_,_,rfl,rfl,by assumption,rfl⟩
 .cases h) ha hb
theorem LN (ha:DE Γ X a fa) (hb:DE Γ X b fb):DE Γ X (.BinOp a .Mod b pos) (b2 eC fa fb):=lY IG (xz fun x y z h=>by
 unfold eC at h;split at h
 .split at h<;>cases h;exact⟨_,_,rfl,rfl,by assumption,rfl⟩
 .cases h) ha hb
theorem OX (ha:DE Γ X a fa) (hb:DE Γ X b fb):DE Γ X (.BinOp a .Pow b pos) (b2 jK fa fb):=lY Kj (xz fun x y z h=>by
 unfold jK at h;split at h
 .split at h<;>cases h;exact⟨_,_,rfl,rfl,by assumption,rfl⟩
 .cases h) ha hb
theorem Cz (a:bO ao):∀(k:ao) (acc:ac ao),(bM k a).foldl (·++·) acc.toArray=(acc++(bM k a.toList).flatten).toArray
 |0,acc=>by simp
 |k+1,acc=>by
  rw[li,fQ,li,ox,←rG,←Cz a k (acc++a.toList)]
  congr 1
  simp
def Dx:R2:=fun x y H Q=>∃z n,x=.str z/\y=.int n/\0<=n/\n<1000/\z.length<1000/\Q (.str (iZ z n.toNat)) H
theorem Ja:OpR X (gu .Mult) Dx:=by
 intro pins s σ H x y v u Q I rx ry h;obtain⟨z,n,rfl,rfl,h0,h1,h2,q⟩:=h;obtain⟨t,rfl⟩:=rx;obtain⟨t',rfl⟩:=ry;have hl:z.length*n.toNat<=1000000:=qN (yM (rf h2) (show n.toNat<=1000 by omega)) .(f);have e0:(bM n.toNat z.cps).foldl (·++·) #[]=(iZ z n.toNat).cps:=by have:=Cz z.cps n.toNat [];simpa[iZ] using this
 refine PySem.P.mul_str ?_ (fun h _=>?_) (fun _ _=>?_) ?_
 .rw[qO .(b),qO .(b)];rfl
 .have e:(z.length:ah)*n=((z.length*n.toNat:ao):ah):=by rw[Int.natCast_mul];congr 1;omega
  have:(z.length:ah)<=(2 ^ 63-1:ah) / n:=Int.le_ediv_of_mul_le .(b) (by rw[e];omega);omega
 .unfold UU;exact qO (by have:=eY;omega)
 .split
  .have:n=0:=by omega
   subst this;exact⟨by decide,⟨.str _,H,I.tok _,⟨_,rfl⟩,by simpa[iZ,uR] using q⟩⟩
  .split
   .rename_i hc;have ez:iZ z n.toNat=z:=by
     rcases S7 _ _▸hc with e|e
     .have:n=1:=by simpa using e
      subst this;simp[iZ]
     .have hz:z.cps=#[]:=by
       have:z.cps.size=0:=by simpa[rF] using e
       exact Array.eq_empty_of_size_eq_zero this
      cases z;simp only at hz;subst hz;simp[iZ]
    exact⟨.str _,H,I,⟨_,rfl⟩,by rw[←ez];exact q⟩
   .rw[e0];refine⟨?_,⟨.str _,H,I.tok _,⟨_,rfl⟩,q⟩⟩;have e1:(iZ z n.toNat).length=n.toNat*z.length:=by show(bM n.toNat z.cps.toList).flatten.toArray.size=_;rw[qB,zG];simp[rF]
    show(iZ z n.toNat).length<=aH;rw[e1,SQ];have:=eY;omega
theorem PN :fL Γ K cT (fun x y H Q=>(rI sU (fun i j=>V.int (i*j)) x y H Q\/AW x y H Q)\/Dx x y H Q):=by
 intro G H v u x y z gh r1 r2 h Q k;unfold cT at h;split at h
 .split at h
  .cases h;cases r1.int_inv;cases r2.int_inv;exact .inl (.inl ⟨_,_,rfl,rfl,by assumption,k _ G H .(aL) (.int _)⟩)
  .cases h
 .split at h
  .rename_i hz;cases h;obtain⟨a,vs,rfl,ha,ra⟩:=r1.lst_inv;cases r2.int_inv;exact .inl (.inr ⟨a,_,vs,rfl,rfl,gh _ _ ha,hz.1,hz.2.1,by rw[ra.length];exact hz.2.2,il gh (ra.rep _) k⟩)
  .cases h
 .split at h
  .rename_i hz;cases h;cases r1.str_inv;cases r2.int_inv;exact .inr ⟨_,_,rfl,rfl,hz.1,hz.2.1,hz.2.2,k _ G H .(aL) (.str _)⟩
  .cases h
 .cases h
theorem Mj (ha:DE Γ X a fa) (hb:DE Γ X b fb):DE Γ X (.BinOp a .Mult b pos) (b2 cT fa fb):=lY ((Kn.or LR).or Ja) PN ha hb
end
variable {ft gt:FT} {fr:FA}
section
variable {a c:Expr}
theorem Rep.non_inv (r:Rep Γ K G v .non):v=.non:=by cases r;rfl
noncomputable def ltS (x y:ai):aP:=decide (x.cps.toList<y.cps.toList)
def ltD:D->D->aq D
 |.int i,.int j=>aa (.bl (decide (i<j)))
 |.str x,.str y=>aa (.bl (ltS x y))
 |_,_=>af
def leD:D->D->aq D
 |.int i,.int j=>aa (.bl (decide (i<=j)))
 |.str x,.str y=>aa (.bl (!ltS y x))
 |_,_=>af
noncomputable def gtD:D->D->aq D
 |.int i,.int j=>aa (.bl (decide (j<i)))
 |_,_=>af
noncomputable def geD:D->D->aq D
 |.int i,.int j=>aa (.bl (decide (j<=i)))
 |_,_=>af
noncomputable def eqS:D->D->aq aP
 |.int i,.int j=>aa (decide (i=j))
 |.bl i,.bl j=>aa (decide (i=j))
 |.str i,.str j=>aa (decide (i=j))
 |.non,.non=>aa aj
 |.non,.int _=>aa ar|.int _,.non=>aa ar|.non,.bl _=>aa ar|.bl _,.non=>aa ar|.non,.str _=>aa ar|.str _,.non=>aa ar
 |.int _,.str _=>aa ar|.str _,.int _=>aa ar|.bl _,.str _=>aa ar|.str _,.bl _=>aa ar
 |_,_=>af
def eqD (x y:D):aq D:=(eqS x y).map D.bl
def neD (x y:D):aq D:=(eqS x y).map fun b=>D.bl (!b)
theorem Am {u:V} {x y:D} {k:aP} (r1:Rep Γ K G v x) (r2:Rep Γ K G u y) (h:eqS x y=aa k):wo v u=aj/\decide (v=u)=k:=by
 unfold eqS at h;split at h<;>cases h
 .cases r1.int_inv;cases r2.int_inv;exact⟨rfl,by simp⟩
 .cases r1.bl_inv;cases r2.bl_inv;exact⟨rfl,by simp⟩
 .cases r1.str_inv;cases r2.str_inv;exact⟨rfl,by simp⟩
 .cases r1.non_inv;cases r2.non_inv;exact⟨rfl,by simp⟩
 .cases r1.non_inv;cases r2.int_inv;exact⟨rfl,by simp⟩
 .cases r1.int_inv;cases r2.non_inv;exact⟨rfl,by simp⟩
 .cases r1.non_inv;cases r2.bl_inv;exact⟨rfl,by simp⟩
 .cases r1.bl_inv;cases r2.non_inv;exact⟨rfl,by simp⟩
 .cases r1.non_inv;cases r2.str_inv;exact⟨rfl,by simp⟩
 .cases r1.str_inv;cases r2.non_inv;exact⟨rfl,by simp⟩
 .cases r1.int_inv;cases r2.str_inv;exact⟨rfl,by simp⟩
 .cases r1.str_inv;cases r2.int_inv;exact⟨rfl,by simp⟩
 .cases r1.bl_inv;cases r2.str_inv;exact⟨rfl,by simp⟩
 .cases r1.str_inv;cases r2.bl_inv;exact⟨rfl,by simp⟩
theorem R5 :fL Γ K eqD rEq:=by
 intro G H v u x y z gh r1 r2 h Q k;unfold eqD at h;cases e:eqS x y with
 |none=>rw[e] at h;cases h
 |some b=>
  rw[e] at h;cases h;obtain⟨h1,h2⟩:=Am r1 r2 e;exact⟨h1,by rw[h2];exact k _ G H .(aL) (.bl _)⟩
theorem QR :fL Γ K neD rNe:=by
 intro G H v u x y z gh r1 r2 h Q k;unfold neD at h;cases e:eqS x y with
 |none=>rw[e] at h;cases h
 |some b=>
  rw[e] at h;cases h;obtain⟨h1,h2⟩:=Am r1 r2 e;exact⟨h1,by rw[h2];exact k _ G H .(aL) (.bl _)⟩
theorem BR {g:D->D->aq D} {o:ah->ah->aP} (hg:∀x y z,g x y=aa z->∃i j,x=.int i/\y=.int j/\z=.bl (o i j)):fL Γ K g (rI0 fun i j=>V.bl (o i j)):=by intro G H v u x y z gh r1 r2 h Q k;obtain⟨i,j,rfl,rfl,rfl⟩:=hg x y z h;cases r1.int_inv;cases r2.int_inv;exact⟨_,_,rfl,rfl,k _ G H .(aL) (.bl _)⟩
theorem NC:OpR X (dB .LtE) (fun x y H Q=>∃i j,x=.str i/\y=.str j/\Q (.bl (!ltS j i)) H):=by intro pins s σ H x y v u Q I rx ry h;obtain⟨i,j,rfl,rfl,q⟩:=h;obtain⟨t,rfl⟩:=rx;obtain⟨t',rfl⟩:=ry;exact PySem.P.le_str (cI I q (by simp[ltS]))
theorem P0 :fL Γ K ltD (fun x y H Q=>rI0 (fun i j=>V.bl (decide (i<j))) x y H Q\/∃i j,x=.str i/\y=.str j/\Q (.bl (decide (i.cps.toList<j.cps.toList))) H):=by
 intro G H v u x y z gh r1 r2 h Q k;unfold ltD at h;split at h<;>cases h
 .cases r1.int_inv;cases r2.int_inv;exact .inl ⟨_,_,rfl,rfl,k _ G H .(aL) (.bl _)⟩
 .cases r1.str_inv;cases r2.str_inv;exact .inr ⟨_,_,rfl,rfl,k _ G H .(aL) (.bl _)⟩
theorem Ki :fL Γ K leD (fun x y H Q=>rI0 (fun i j=>V.bl (decide (i<=j))) x y H Q\/∃i j,x=.str i/\y=.str j/\Q (.bl (!ltS j i)) H):=by
 intro G H v u x y z gh r1 r2 h Q k;unfold leD at h;split at h<;>cases h
 .cases r1.int_inv;cases r2.int_inv;exact .inl ⟨_,_,rfl,rfl,k _ G H .(aL) (.bl _)⟩
 .cases r1.str_inv;cases r2.str_inv;exact .inr ⟨_,_,rfl,rfl,k _ G H .(aL) (.bl _)⟩
structure CmpD (Γ:Cn) (X:Cx) (op:CmpOp) (g:D->D->aq D):Prop where
 ex:∃r,OpR X (dB op) r/\fL Γ X.K g r
theorem B4:CmpD Γ X .Lt ltD:=⟨_,MP.or Jl,P0⟩
theorem m9:CmpD Γ X .LtE leD:=⟨_,Pb.or NC,Ki⟩
theorem Br:CmpD Γ X .Gt gtD:=⟨_,P7,BR fun x y z h=>by unfold gtD at h;split at h<;>cases h;exact⟨_,_,rfl,rfl,rfl⟩⟩
theorem CK:CmpD Γ X .GtE geD:=⟨_,O6,BR fun x y z h=>by unfold geD at h;split at h<;>cases h;exact⟨_,_,rfl,rfl,rfl⟩⟩
theorem ue:CmpD Γ X .Eq eqD:=⟨_,M0,R5⟩
theorem xr:CmpD Γ X .NotEq neD:=⟨_,N0,QR⟩
theorem pp {g:D->D->aq D} (h:CmpD Γ X op g) (ha:DE Γ X a fa) (hb:DE Γ X b fb) (hm:rq op b=ar):DE Γ X (.Compare a [op] [b] pos) (b2 g fa fb):=⟨by obtain⟨r,ho,hr⟩:=h.ex;exact(MC ho ha.1 hb.1 hm).imp (TD.two hr)⟩
noncomputable def chD (g g':D->D->aq D) (fa fb fc:FE):FE:=fun ρ=>(fa ρ).bind fun x=>(fb ρ).bind fun y=>(g x y).bind fun z=>match z with
 |.bl aj=>(fc ρ).bind fun w=>g' y w
 |.bl ar=>aa (.bl ar)
 |_=>af
theorem TD.chain {g g':D->D->aq D} {r:R2} (hr:fL Γ X.K g r) (hr':fL Γ X.K g' r'):∀σ H Q,TD Γ X.K (chD g g' fa fb fc) σ H Q->v5 r r' (TD Γ X.K fa) (TD Γ X.K fb) (TD Γ X.K fc) σ H Q:=by
 rintro σ H Q ⟨G₀,H₀,G,ρ,d,A,h,k⟩;unfold chD at h;obtain⟨x,ha,h⟩:=oBd h;obtain⟨y,hb,h⟩:=oBd h;obtain⟨z,hz,h⟩:=oBd h;refine⟨G₀,H₀,G,ρ,x,A,ha,fun v G1 H1 s1 r1=>⟨G₀,H₀,G1,ρ,y,A.step s1,hb,fun u G2 H2 s2 r2=>?_⟩⟩;refine hr s2.gh (r1.mono s2.gg) r2 hz _ fun w G3 H3 s3 r3=>?_;split at h
 .cases r3.bl_inv;obtain⟨w,hc,h⟩:=oBd h;refine⟨aj,rfl,ki ⟨G₀,H₀,G3,ρ,w,((A.step s1).step s2).step s3,hc,fun q G4 H4 s4 r4=>?_⟩⟩;exact hr' s4.gh ((r2.mono s3.gg).mono s4.gg) r4 h Q fun w' G' H' s r=>k w' G' H' ((((s1.trans s2).trans s3).trans s4).trans s) r
 .cases r3.bl_inv;cases h;exact⟨ar,rfl,kL (k _ G3 H3 ((s1.trans s2).trans s3) (.bl _))⟩
 .cases h
theorem HV {g g':D->D->aq D} (h:CmpD Γ X op g) (h':CmpD Γ X op' g') (ha:DE Γ X a fa) (hb:DE Γ X b fb) (hc:DE Γ X c fc) (hm:yr [op,op'] [b,c]=ar:=by with_unfolding_all rfl) :
  DE Γ X (.Compare a [op,op'] [b,c] pos) (chD g g' fa fb fc):=⟨by
 obtain⟨r,ho,hr⟩:=h.ex;obtain⟨r',ho',hr'⟩:=h'.ex;exact(Qh ho ho' ha.1 hb.1 hc.1 hm).imp (TD.chain hr hr')⟩
noncomputable def toB (f:FE):FT:=fun ρ=>(f ρ).bind fun d=>match d with
 |.bl b=>aa b
 |_=>af
theorem TDt.val :∀σ H Q,TDt Γ X.K (toB f) σ H Q->TD Γ X.K f σ H fun x H'=>∃k,x=.bl k/\Q k H':=by rintro σ H Q ⟨G₀,H₀,G,ρ,b,A,h,k⟩;unfold toB at h;obtain⟨d,hd,h⟩:=oBd h;split at h<;>cases h;exact⟨G₀,H₀,G,ρ,_,A,hd,fun v G' H' s r=>⟨b,r.bl_inv,k G' H' s⟩⟩
theorem t9 {g:D->D->aq D} (h:CmpD Γ X op g) (ha:DE Γ X a fa) (hb:DE Γ X b fb) (hm:rq op b=ar):DT Γ X (.Compare a [op] [b] pos) (toB (b2 g fa fb)):=⟨by obtain⟨r,ho,hr⟩:=h.ex;exact(Iy ho ha.1 hb.1 hm).imp fun σ H Q q=>TD.two hr σ H _ (TDt.val σ H Q q)⟩
theorem Rv {g g':D->D->aq D} (h:CmpD Γ X op g) (h':CmpD Γ X op' g') (ha:DE Γ X a fa) (hb:DE Γ X b fb) (hc:DE Γ X c fc) (hm:yr [op,op'] [b,c]=ar:=by with_unfolding_all rfl) :
  DT Γ X (.Compare a [op,op'] [b,c] pos) (toB (chD g g' fa fb fc)):=⟨by
 obtain⟨r,ho,hr⟩:=h.ex;obtain⟨r',ho',hr'⟩:=h'.ex;exact(F4 ho ho' ha.1 hb.1 hc.1 hm).imp fun σ H Q q=>TD.chain hr hr' σ H _ (TDt.val σ H Q q)⟩
theorem gm (h:DE Γ X e f) (he:∀whole,isTrue e X.env whole=(do let v ←whole;om e.pos;hW [v] (truthy v)):=by intro _;rfl):DT Γ X e (toB f):=⟨(OH h.1 he).imp TDt.val⟩
noncomputable def aY (f:FT):FT:=fun ρ=>(f ρ).map (!·)
noncomputable def fK (f g:FT):FT:=fun ρ=>(f ρ).bind fun b=>if b=aj then g ρ else aa ar
noncomputable def orT (f g:FT):FT:=fun ρ=>(f ρ).bind fun b=>if b=aj then aa aj else g ρ
variable {bP:ac Expr}
theorem DW.dt (h:DW Γ X e ft):DT Γ X e ft:=⟨h.1.pt⟩
theorem gb (h:DT Γ X a ft):DT Γ X (.UnaryOp .Not a pos) (aY ft):=⟨(Mo h.1).imp fun σ H Q=>by rintro⟨G₀,H₀,G,ρ,b,A,h,k⟩;unfold aY at h;obtain⟨c,hc,h⟩:=oMd h;exact⟨G₀,H₀,G,ρ,c,A,hc,fun G' H' s=>by show Q (!c) H';rw[h];exact k G' H' s⟩⟩
theorem zH (h:DT Γ X a ft):DW Γ X (.BoolOp .And [a] pos) ft:=⟨Md h.1⟩
theorem iR (h:DT Γ X a ft):DW Γ X (.BoolOp .Or [a] pos) ft:=⟨M2 h.1⟩
theorem D9 (h:DT Γ X a ft) (h':DW Γ X (.BoolOp .And (b::bP) pos) gt):DW Γ X (.BoolOp .And (a::b::bP) pos) (fK ft gt):=⟨(NP h.1 h'.1).imp fun σ H Q=>by
 rintro⟨G₀,H₀,G,ρ,r,A,h,k⟩;unfold fK at h;obtain⟨c,hc,h⟩:=oBd h;refine⟨G₀,H₀,G,ρ,c,A,hc,fun G1 H1 s1=>?_⟩;cases c with
 |true=>exact ki ⟨G₀,H₀,G1,ρ,r,A.step s1,by simpa using h,fun G' H' s=>k G' H' (s1.trans s)⟩
 |false=>
  rw[qY qr] at h;cases h;exact kL (k _ _ s1)⟩
theorem iT (h:DT Γ X a ft) (h':DW Γ X (.BoolOp .Or (b::bP) pos) gt):DW Γ X (.BoolOp .Or (a::b::bP) pos) (orT ft gt):=⟨(MJ h.1 h'.1).imp fun σ H Q=>by
 rintro⟨G₀,H₀,G,ρ,r,A,h,k⟩;unfold orT at h;obtain⟨c,hc,h⟩:=oBd h;refine⟨G₀,H₀,G,ρ,c,A,hc,fun G1 H1 s1=>?_⟩;cases c with
 |false=>exact kL ⟨G₀,H₀,G1,ρ,r,A.step s1,by simpa using h,fun G' H' s=>k G' H' (s1.trans s)⟩
 |true=>
  rw[qX rfl] at h;cases h;exact ki (k _ _ s1)⟩
noncomputable def cc (fa fb:FE):FE:=fun ρ=>(fa ρ).bind fun d=>match d with
 |.bl aj=>fb ρ
 |.bl ar=>aa (.bl ar)
 |_=>af
noncomputable def orD (fa fb:FE):FE:=fun ρ=>(fa ρ).bind fun d=>match d with
 |.bl aj=>aa (.bl aj)
 |.bl ar=>fb ρ
 |_=>af
noncomputable def p8 (fa:FE):FE:=fun ρ=>(fa ρ).bind fun d=>match d with
 |.bl b=>aa (.bl (!b))
 |_=>af
theorem En {op} (h:DE Γ X a fa):DE Γ X (.BoolOp op [a] pos) fa:=⟨Lo h.1⟩
theorem uf (ha:DE Γ X a fa) (hb:DE Γ X (.BoolOp .And (b::bP) pos) fb):DE Γ X (.BoolOp .And (a::b::bP) pos) (cc fa fb):=⟨(Ie ha.1 hb.1).imp fun σ H Q=>by
 rintro⟨G₀,H₀,G,ρ,d,A,h,k⟩;unfold cc at h;obtain⟨x,hx,h⟩:=oBd h;refine⟨G₀,H₀,G,ρ,x,A,hx,fun v G1 H1 s1 r1=>?_⟩;split at h
 .cases r1.bl_inv;exact⟨aj,rfl,ki ⟨G₀,H₀,G1,ρ,d,A.step s1,h,fun w G' H' s r=>k w G' H' (s1.trans s) r⟩⟩
 .cases r1.bl_inv;cases h;exact⟨ar,rfl,kL (k _ G1 H1 s1 (.bl _))⟩
 .cases h⟩
theorem NU (ha:DE Γ X a fa) (hb:DE Γ X (.BoolOp .Or (b::bP) pos) fb):DE Γ X (.BoolOp .Or (a::b::bP) pos) (orD fa fb):=⟨(LA ha.1 hb.1).imp fun σ H Q=>by
 rintro⟨G₀,H₀,G,ρ,d,A,h,k⟩;unfold orD at h;obtain⟨x,hx,h⟩:=oBd h;refine⟨G₀,H₀,G,ρ,x,A,hx,fun v G1 H1 s1 r1=>?_⟩;split at h
 .cases r1.bl_inv;cases h;exact⟨aj,rfl,ki (k _ G1 H1 s1 (.bl _))⟩
 .cases r1.bl_inv;exact⟨ar,rfl,kL ⟨G₀,H₀,G1,ρ,d,A.step s1,h,fun w G' H' s r=>k w G' H' (s1.trans s) r⟩⟩
 .cases h⟩
theorem JN (ha:DE Γ X a fa):DE Γ X (.UnaryOp .Not a pos) (p8 fa):=⟨(Oh ha.1).imp fun σ H Q=>by
 rintro⟨G₀,H₀,G,ρ,d,A,h,k⟩;unfold p8 at h;obtain⟨x,hx,h⟩:=oBd h;refine⟨G₀,H₀,G,ρ,x,A,hx,fun v G1 H1 s1 r1=>?_⟩;split at h
 .cases r1.bl_inv;cases h;exact⟨_,rfl,k _ G1 H1 s1 (.bl _)⟩
 .cases h⟩
noncomputable def ifD (ft:FT) (fa fb:FE):FE:=fun ρ=>(ft ρ).bind fun c=>if c=aj then fa ρ else fb ρ
theorem wH (hc:DT Γ X c ft) (ha:DE Γ X a fa) (hb:DE Γ X b fb):DE Γ X (.IfExp c a b pos) (ifD ft fa fb):=⟨(LJ hc.1 ha.1 hb.1).imp fun σ H Q=>by
 rintro⟨G₀,H₀,G,ρ,d,A,h,k⟩;unfold ifD at h;obtain⟨x,hx,h⟩:=oBd h;refine⟨G₀,H₀,G,ρ,x,A,hx,fun G1 H1 s1=>?_⟩;cases x with
 |true=>exact ki ⟨G₀,H₀,G1,ρ,d,A.step s1,by simpa using h,fun w G' H' s r=>k w G' H' (s1.trans s) r⟩
 |false=>exact kL ⟨G₀,H₀,G1,ρ,d,A.step s1,by simpa using h,fun w G' H' s r=>k w G' H' (s1.trans s) r⟩⟩
noncomputable def ak:FA:=fun _=>aa []
noncomputable def ag (fa:FE) (fr:FA):FA:=fun ρ=>(fa ρ).bind fun x=>(fr ρ).map (x::·)
theorem cB:DA Γ X [] ak:=⟨jx.imp fun σ H Q=>by rintro⟨G₀,H₀,G,ρ,d,A,h,k⟩;cases h;exact k _ G H (.refl A.gh) .nil⟩
theorem ci (ha:DE Γ X e fa) (hr:DA Γ X es fr) (hs:aO (e::es) X.env=(ar,eval e X.env)::aO es X.env:=by rfl):DA Γ X (e::es) (ag fa fr):=⟨(iH ha.1 hr.1 hs).imp fun σ H Q=>by rintro⟨G₀,H₀,G,ρ,d,A,h,k⟩;unfold ag at h;obtain⟨x,hx,h⟩:=oBd h;obtain⟨xs,hxs,h⟩:=oMd h;subst h;exact⟨G₀,H₀,G,ρ,x,A,hx,fun v G1 H1 s1 r1=>⟨G₀,H₀,G1,ρ,xs,A.step s1,hxs,fun vs G2 H2 s2 r2=>k _ G2 H2 (s1.trans s2) (.cons (r1.mono s2.gg) r2)⟩⟩⟩
noncomputable def szF (fr:FA):FA:=fun ρ=>(fr ρ).bind fun l=>if l.length<=aH then aa l else af
noncomputable def aK (fr:FA):FE:=fun ρ=>(fr ρ).map D.lst
noncomputable def bm (fr:FA):FE:=fun ρ=>(fr ρ).map D.tup
theorem DO.de (h:DO Γ X e fr):DE Γ X e (aK fr):=⟨h.1.imp fun σ H Q=>by rintro⟨G₀,H₀,G,ρ,d,A,h,k⟩;unfold aK at h;obtain⟨ds,hd,rfl⟩:=oMd h;exact⟨G₀,H₀,G,ρ,ds,A,hd,fun p vs G' H' s hp r=>il s.gh r (fun w G2 H2 s2 r2=>k w G2 H2 (s.trans s2) r2) p hp⟩⟩
theorem CZ (h:DA Γ X es fr):DO Γ X (.List es pos) (szF fr):=⟨(Gw h.1).imp fun σ H Q=>by
 rintro⟨G₀,H₀,G,ρ,d,A,h,k⟩;unfold szF at h;obtain⟨ds,hd,h⟩:=oBd h;split at h
 .rename_i hz;cases h;exact⟨G₀,H₀,G,ρ,d,A,hd,fun vs G' H' s r=>⟨by rw[r.length];exact hz,fun p hp=>k p vs G' H' s hp r⟩⟩
 .cases h⟩
theorem MU {x1} (h:DA Γ X es fr):DE Γ X (.Tuple es x1 pos) (bm (szF fr)):=⟨(Oi h.1).imp fun σ H Q=>by
 rintro⟨G₀,H₀,G,ρ,d,A,h,k⟩;unfold bm szF at h;obtain⟨ds',hd',rfl⟩:=oMd h;obtain⟨ds,hd,h⟩:=oBd hd';split at h
 .rename_i hz;cases h;exact⟨G₀,H₀,G,ρ,ds',A,hd,fun vs G' H' s r=>⟨by rw[r.length];exact hz,tj s.gh r fun w G2 H2 s2 r2=>k w G2 H2 (s.trans s2) r2⟩⟩
 .cases h⟩
noncomputable def wU (Γ:Cn) (K:aW) (g:ac D->aq D) (r:ac V->Hp->VK->Prop):Prop:=
 ∀{G H vs ds z},ba G H->Reps Γ K G vs ds->g ds=aa z->∀Q:VK,(∀w G' H',Step G H G' H'->Rep Γ K G' w z->Q w H')->r vs H Q
noncomputable def cF (g:ac D->aq D) (fr:FA):FE:=fun ρ=>(fr ρ).bind g
theorem TD.call {g:ac D->aq D} {r:ac V->Hp->VK->Prop} (hr:wU Γ X.K g r):∀σ H Q,TD Γ X.K (cF g fr) σ H Q->tCB r (TDa Γ X.K fr) σ H Q:=by rintro σ H Q ⟨G₀,H₀,G,ρ,d,A,h,k⟩;unfold cF at h;obtain⟨ds,hd,h⟩:=oBd h;exact⟨G₀,H₀,G,ρ,ds,A,hd,fun vs G1 H1 s1 r1=>hr s1.gh r1 h Q fun w G' H' s r=>k w G' H' (s1.trans s) r⟩
structure BltD (Γ:Cn) (X:Cx) (id:cK) (g:ac D->aq D):Prop where
 ex:∃r,eU X (.builtin id) r/\wU Γ X.K g r
structure TyD (Γ:Cn) (X:Cx) (id:cK) (g:ac D->aq D):Prop where
 ex:∃r,eU X (.type id) r/\wU Γ X.K g r
theorem dL {id:cK} {g:ac D->aq D} (hc:BltD Γ X id g) (hg:Gl X x) (hm:X.mg x=af) (hv:dR x=aa (.builtin id)) (ha:DA Γ X (e::es) fr) (hn:x≠"__name__":=by decide) (hdb:.(s)=ar:=by decide)
  (he:aO (e::es) X.env=(ar,eval e X.env)::aO es X.env:=by rfl) (hpl:.(ae).any (·.1)=ar:=by rfl):DE Γ X .(au) (cF g fr):=⟨by
 obtain⟨r,h1,h2⟩:=hc.ex;exact(zB h1 hg hm hv ha.1 hn hdb he hpl).imp (TD.call h2)⟩
theorem gq {id:cK} {g:ac D->aq D} (hc:TyD Γ X id g) (hg:Gl X x) (hm:X.mg x=af) (hv:dR x=aa (.type id)) (ha:DA Γ X (e::es) fr) (hn:x≠"__name__":=by decide) (hdb:.(s)=ar:=by decide)
  (he:aO (e::es) X.env=(ar,eval e X.env)::aO es X.env:=by rfl) (hpl:.(ae).any (·.1)=ar:=by rfl):DE Γ X .(au) (cF g fr):=⟨by
 obtain⟨r,h1,h2⟩:=hc.ex;exact(Cj h1 hg hm hv ha.1 hn hdb he hpl).imp (TD.call h2)⟩
theorem lW {n:cK} (hg:Gl X x) (hm:X.mg x=af) (hv:dR x=aa (.type n)) (hn:x≠"__name__":=by decide) (hd:.(s)=ar:=by decide):DE Γ X (.Name x pos) (vC (.ty n)):=TD.const (fun _=>.ty n) (Ph hg hm hv rfl hn hd)
theorem Reps.one (r:Reps Γ K G vs [d]):∃v,vs=[v]/\Rep Γ K G v d:=by
 cases r with
 |cons h t=>cases t;exact⟨_,rfl,h⟩
theorem Reps.two {d':D} (r:Reps Γ K G vs [d,d']):∃v u,vs=[v,u]/\Rep Γ K G v d/\Rep Γ K G u d':=by
 cases r with
 |cons h t=>cases t with
  |cons h2 t2=>cases t2;exact⟨_,_,rfl,h,h2⟩
noncomputable def jM:ac D->aq D
 |[.int i,.int j]=>aa (.int (if j > i then j else i))
 |_=>af
theorem Kq (hc:X.calm=aj):BltD Γ X "max" jM:=⟨_,F5 hc,fun {G H vs ds z} gh r h Q k=>by unfold jM at h;split at h<;>cases h;obtain⟨v,u,rfl,r1,r2⟩:=r.two;cases r1.int_inv;cases r2.int_inv;exact⟨_,_,rfl,k _ G H .(aL) (.int _)⟩⟩
noncomputable def iw:ac D->aq D
 |[.int i,.int j]=>aa (.int (if j<i then j else i))
 |_=>af
theorem HG (hc:X.calm=aj):BltD Γ X "min" iw:=⟨_,GC hc,fun {G H vs ds z} gh r h Q k=>by unfold iw at h;split at h<;>cases h;obtain⟨v,u,rfl,r1,r2⟩:=r.two;cases r1.int_inv;cases r2.int_inv;exact⟨_,_,rfl,k _ G H .(aL) (.int _)⟩⟩
noncomputable def bR:ac D->aq D
 |[.str x]=>if x.length<=aH then aa (.int (x.length:ao)) else af
 |[.lst l]=>aa (.int (l.length:ao))
 |[.tup l]=>aa (.int (l.length:ao))
 |[.scr l]=>aa (.int (l.length:ao))
 |_=>af
theorem Mw:BltD Γ X "len" bR:=⟨_,O1,fun {G H vs ds z} gh r h Q k=>by
 unfold bR at h;split at h
 .split at h
  .cases h;obtain⟨v,rfl,r1⟩:=r.one;cases r1.str_inv;exact⟨_,_,rfl,⟨by assumption,rfl⟩,k _ G H .(aL) (.int _)⟩
  .cases h
 .cases h;obtain⟨v,rfl,r1⟩:=r.one;obtain⟨a,vs,rfl,ha,rv⟩:=r1.lst_inv;exact⟨_,_,rfl,.inl ⟨vs,.inl .(bn),rfl⟩,k _ G H .(aL) (by rw[rv.length];exact .int _)⟩
 .cases h;obtain⟨v,rfl,r1⟩:=r.one;obtain⟨a,vs,rfl,ha,rv⟩:=r1.tup_inv;exact⟨_,_,rfl,.inr ⟨vs,.inl .(bn),rfl⟩,k _ G H .(aL) (by rw[rv.length];exact .int _)⟩
 .cases h;obtain⟨v,rfl,r1⟩:=r.one;obtain⟨a,rfl,ha⟩:=r1.scr_inv;exact⟨_,_,rfl,.inl ⟨_,gh.seq ha,rfl⟩,k _ G H .(aL) (by rw[qf];exact .int _)⟩
 .cases h⟩
noncomputable def tyD:D->aq cK
 |.non=>aa "NoneType"
 |.bl _=>aa "bool"
 |.int _=>aa "int"
 |.str _=>aa "str"
 |.lst _=>aa "list"
 |.tup _=>aa "tuple"
 |.dk _=>aa "dict"
 |.dt _=>aa "dict"
 |_=>af
noncomputable def fE (t c:cK):aq aP:=if (kW t==kW c)=aj then aa aj else if PySem.W.kitMeta c=aj then lu (fun x=>x.contains (kW c)) (PySem.fastBuiltinMro t) else af
def cV:ac D->aq D
 |[d,.ty c]=>(tyD d).bind fun t=>(fE t c).map D.bl
 |_=>af
theorem IK {t:cK} (gh:ba G H) (r:Rep Γ K G v d) (h:tyD d=aa t):TyOf K H v (.type t):=by
 unfold tyD at h;split at h<;>cases h
 .cases r.non_inv;exact .non
 .cases r.bl_inv;exact .bl _
 .cases r.int_inv;exact .int _
 .cases r.str_inv;exact .str _
 .obtain⟨a,vs,rfl,ha,_⟩:=r.lst_inv;exact .lst (gh _ _ ha)
 .obtain⟨a,vs,rfl,ha,_⟩:=r.tup_inv;exact .tup (gh _ _ ha)
 .cases r with
  |dk h _ _=>exact .dK (gh _ _ h)
 .cases r with
  |dt h _ _=>exact .dT (gh _ _ h)
theorem Ri:BltD Γ X "isinstance" cV:=by
 refine⟨fun vs H Q=>∃v t c b,vs=[v,.ty c]/\TyOf X.K H v (.type t)/\Sl X.K (.type t) (.type c)=aa b/\Q (.bl b) H,?_,?_⟩
 .intro pins s σ H xs us Q I r h;obtain⟨v,t,c,b,rfl,ty,hk,q⟩:=h;obtain⟨u,w',rfl,r1,r2⟩:=vW r;cases r2;exact Nu I r1 ty hk fun tk=>⟨.bl b,H,I.tok tk,rfl,q⟩
 .intro G H vs ds z gh r h Q k;unfold cV at h;split at h
  .obtain⟨t,ht,h⟩:=oBd h;obtain⟨b,hb,rfl⟩:=oMd h;obtain⟨v,u,rfl,r1,r2⟩:=r.two;cases r2;exact⟨v,t,_,b,rfl,IK gh r1 ht,hb,k _ G H .(aL) (.bl _)⟩
  .cases h
end
variable {β:Type} {fh:bo->aq (aq ah)} {fo:FE}
section
variable {a c:Expr}
theorem Reps.atI {K:aW} {G:Hp} {vs:ac V} {ds:ac D} {i:ah} {d:D} (r:Reps Γ K G vs ds) (h:L2.atI ds i=aa d):∃v,L2.atI vs i=aa v/\Rep Γ K G v d:=by
 unfold L2.atI at h ⊢;rw[r.length];cases e:ixN ds.length i with
 |none=>rw[e] at h;cases h
 |some j=>
  rw[e] at h;obtain⟨v,h1,h2⟩:=r.get (i:=j) (d:=d) h;exact⟨v,h1,h2⟩
theorem IP (g:α->β) (xs:ac α) (i:ah):L2.atI (xs.map g) i=(L2.atI xs i).map g:=by
 unfold L2.atI;rw[qf];cases ixN xs.length i with
 |none=>rfl
 |some j=>simp
def ixD:D->D->aq D
 |.lst l,.int i=>atI l i
 |.tup l,.int i=>atI l i
 |.scr l,.int i=>(atI l i).map D.int
 |.str x,.int i=>if x.length<=aH then (atI x.cps.toList i).map fun c=>D.str ⟨#[c]⟩ else af
 |_,_=>af
theorem RD :fL Γ K ixD (rIx K):=by
 intro G H v u x y z gh r1 r2 h Q k;unfold ixD at h;split at h
 .obtain⟨a,vs,rfl,ha,rv⟩:=r1.lst_inv;cases r2.int_inv;obtain⟨w,hw,rw'⟩:=rv.atI h;exact .inl ⟨a,vs,_,w,rfl,rfl,.inl .(bn),hw,k w G H .(aL) rw'⟩
 .obtain⟨a,vs,rfl,ha,rv⟩:=r1.tup_inv;cases r2.int_inv;obtain⟨w,hw,rw'⟩:=rv.atI h;exact .inr (.inl ⟨a,vs,_,w,rfl,rfl,.inl .(bn),hw,k w G H .(aL) rw'⟩)
 .obtain⟨a,rfl,ha⟩:=r1.scr_inv;cases r2.int_inv;obtain⟨n,hn,rfl⟩:=oMd h;exact .inl ⟨a,_,_,.int n,rfl,rfl,gh.seq ha,by rw[IP,hn];rfl,k _ G H .(aL) (.int _)⟩
 .split at h
  .cases r1.str_inv;cases r2.int_inv;obtain⟨n,hn,rfl⟩:=oMd h;exact .inr (.inr ⟨_,_,n,rfl,rfl,by assumption,hn,k _ G H .(aL) (.str _)⟩)
  .cases h
 .cases h
theorem Q1 (ha:DE Γ X a fa) (hb:DE Γ X b fb) (hs:Ec b:=by intro _ _;rfl):DE Γ X (.Subscript a b pos) (b2 ixD fa fb):=⟨(Ip Lj ha.1 hb.1 hs).imp (TD.two RD)⟩
def dn (xs:ac α) (lo hi:aq ah):ac α:=(xs.drop (HT.sIx xs.length 0 lo)).take (HT.sIx xs.length xs.length hi-HT.sIx xs.length 0 lo)
theorem Lz (g:α->β) (xs:ac α) (lo hi:aq ah):dn (xs.map g) lo hi=(dn xs lo hi).map g:=by unfold dn;simp
theorem Reps.cut (r:Reps Γ K G vs ds) (lo hi:aq ah):Reps Γ K G (kj vs lo hi) (dn ds lo hi):=by unfold kj dn;rw[r.length];exact(r.drop _).take _
def kQ (x:ai) (lo hi:aq ah):ai:=⟨(dn x.cps.toList lo hi).toArray⟩
theorem Aj (lo hi:aq ah) (n:ao):yN lo hi 1 n=(cx (HT.sIx n n hi-HT.sIx n 0 lo)).map (HT.sIx n 0 lo+·):=by
 rw[←SG];unfold yN;have h1:∀(o:aq ah) (d:ao),d<=n->(match o with|none=>(d:ah)|some i=>if (1:ah) > 0 then max 0 (min (if i<0 then i+(n:ah) else i) n) else max (-1) (min (if i<0 then i+(n:ah) else i) ((n:ah)-1)))=((HT.sIx n d o:ao):ah):=fun o d hd=>by
  cases o with
  |none=>simp[HT.sIx]
  |some i=>
   simp only[HT.sIx,show(1:ah) > 0 by decide,cy];by_cases h:i<0
   .simp only[h,cy];omega
   .simp only[h,cH];omega
 have e0:=h1 lo 0 (fA _);have e1:=h1 hi n (qv _);rw[←e0,←e1];rfl
theorem Ar (x:ai) (lo hi:aq ah):Ff x lo hi=kQ x lo hi:=by
 have key:(yN lo hi 1 x.length).filterMap (x.cps[·]?)=dn x.cps.toList lo hi:=by rw[Aj,yy];unfold dn;rw[show x.cps.toList.length=x.length by simp[rF]]
 unfold Ff kQ;split
 .rename_i h;rw[←key];have hl:(yN lo hi 1 x.length).length=x.length:=by simpa using h
  rw[Aj] at hl ⊢;rw[yy];rw[qf,qV] at hl;have hb:HT.sIx x.length x.length hi<=x.length:=by
   cases hi with
   |none=>simp[HT.sIx]
   |some i=>simp only[HT.sIx];split<;>omega
  have h0:HT.sIx x.length 0 lo=0\/x.length=0:=by omega
  have hx:x.cps.toList.length=x.length:=by simp[rF]
  have e:(x.cps.toList.drop (HT.sIx x.length 0 lo)).take (HT.sIx x.length x.length hi-HT.sIx x.length 0 lo)=x.cps.toList:=by
   rcases h0 with h0|h0
   .rw[h0,oE];rw[h0] at hl;exact mO .(b)
   .have:x.cps.toList=[]:=u0.mp .(b);rw[this];simp
  rw[e]
 .rw[key]
noncomputable def pN:bo->aq (aq ah):=fun _=>aa af
noncomputable def pS (f:FE):bo->aq (aq ah):=fun ρ=>(f ρ).bind fun d=>match d with
 |.int i=>aa (aa i)
 |_=>af
inductive TDp (Γ:Cn) (K:aW) (f:bo->aq (aq ah)) (σ:St) (H:Hp) (Q:aq ah->Hp->Prop):Prop where
 |mk:∀G₀ H₀ G ρ o,At Γ K G₀ H₀ G H ρ σ->f ρ=aa o->(∀G' H',Step G H G' H'->Q o H')->TDp Γ K f σ H Q
structure DP (Γ:Cn) (X:Cx) (e:aq Expr) (f:bo->aq (aq ah)):Prop where
 out:PO X e (TDp Γ X.K f)
theorem nG:DP Γ X af pN:=⟨fun pins s σ H Q I ⟨G₀,H₀,G,ρ,o,A,h,k⟩=>by cases h;exact Ku pins s σ H Q I (k G H (.refl A.gh))⟩
theorem nc (h:DE Γ X e f):DP Γ X (aa e) (pS f):=⟨fun pins s σ H Q I ⟨G₀,H₀,G,ρ,o,A,q,k⟩=>by unfold pS at q;obtain⟨d,hd,q⟩:=oBd q;split at q<;>cases q;exact GF h.1 pins s σ H Q I ⟨G₀,H₀,G,ρ,_,A,hd,fun v G' H' s r=>⟨_,r.int_inv,k G' H' s⟩⟩⟩
theorem P8:SlR X (fun x lo hi H Q=>∃z,x=.str z/\z.length<=aH/\Q (.str (kQ z lo hi)) H):=by
 intro pins s σ H x v vl vu lo hi sl Q I rx hs pl pu h;obtain⟨z,rfl,hz,q⟩:=h;obtain⟨t,rfl⟩:=rx;refine⟨"str",_,PySem.F.slot_str_getitem.lookup,E7 _ _ _,?_⟩;obtain⟨l,rfl,el⟩:∃l:aq (ah×Tok),vl=partValue l/\l.map (·.1)=lo:=by
  cases pl with
  |none=>exact⟨af,rfl,rfl⟩
  |int i t=>exact⟨aa (i,t),rfl,rfl⟩
 obtain⟨u,rfl,eu⟩:∃l:aq (ah×Tok),vu=partValue l/\l.map (·.1)=hi:=by
  cases pu with
  |none=>exact⟨af,rfl,rfl⟩
  |int i t=>exact⟨aa (i,t),rfl,rfl⟩
 refine wpAny_getItem_str_slice (l:=l) (u:=u) (st:=af) hs rfl ?_;have e:(if ((lu (fun x=>x.fst) (af:aq (ah×Tok))).getD 1==1 && (slicePicked z l u af).length==z.length)=aj then z else {cps:=(List.filterMap (fun x=>z.cps[x]?) (slicePicked z l u af)).toArray})=kQ z lo hi:=by
  have e0:Ff z (l.map (·.1)) (u.map (·.1))=kQ z lo hi:=by rw[el,eu];exact Ar z lo hi
  exact e0
 refine post_val_or_str ⟨?_,fun t' k=>?_⟩
 .rw[e,←Ar];exact qN (Txt.slice_le z _ _) hz
 .rw[e];exact⟨.str _,H,I.tok k,⟨_,rfl⟩,q⟩
def jr (lo hi:aq ah):D->aq D
 |.lst l=>aa (.lst (dn l lo hi))
 |.scr l=>aa (.lst ((dn l lo hi).map D.int))
 |.tup l=>if HT.sIx l.length 0 lo=0/\HT.sIx l.length l.length hi=l.length then af else aa (.tup (dn l lo hi))
 |.str x=>if x.length<=aH then aa (.str (kQ x lo hi)) else af
 |_=>af
def slF (f:FE) (fl fh:bo->aq (aq ah)):FE:=fun ρ=>(f ρ).bind fun d=>(fl ρ).bind fun l=>(fh ρ).bind fun h=>jr l h d
variable {fl:bo->aq (aq ah)} {lo hi:aq Expr}
theorem o7 (he:DE Γ X e f) (hl:DP Γ X lo fl) (hh:DP Γ X hi fh):DE Γ X (.Subscript e (.Slice lo hi af p2) pos) (slF f fl fh):=⟨(Gm (NZ.or (O7.or P8)) he.1 hl.1 hh.1).imp fun σ H Q=>by
 rintro⟨G₀,H₀,G,ρ,d,A,h,k⟩;unfold slF at h;obtain⟨x,hx,h⟩:=oBd h;obtain⟨l,hl,h⟩:=oBd h;obtain⟨u,hu,h⟩:=oBd h;refine⟨G₀,H₀,G,ρ,x,A,hx,fun v G1 H1 s1 r1=>⟨G₀,H₀,G1,ρ,l,A.step s1,hl,fun G2 H2 s2=>⟨G₀,H₀,G2,ρ,u,(A.step s1).step s2,hu,fun G3 H3 s3=>?_⟩⟩⟩;have s:=(s1.trans s2).trans s3;have r:=r1.mono (s2.gg.trans s3.gg);have gh:=s3.gh;unfold jr at h;split at h
 .cases h;obtain⟨a,vs,rfl,ha,rv⟩:=r.lst_inv;exact .inl ⟨a,vs,rfl,.inl .(bn),il gh (rv.cut l u) fun w G4 H4 s4 r4=>k w G4 H4 (s.trans s4) r4⟩
 .cases h;obtain⟨a,rfl,ha⟩:=r.scr_inv;refine .inl ⟨a,_,rfl,gh.seq ha,il gh ?_ fun w G4 H4 s4 r4=>k w G4 H4 (s.trans s4) r4⟩;show Reps Γ X.K G3 (dn _ l u) _;rw[Lz];exact Reps.ints _
 .split at h
  .cases h
  .rename_i hw;cases h;obtain⟨a,vs,rfl,ha,rv⟩:=r.tup_inv;exact .inr (.inl ⟨a,vs,rfl,.inl .(bn),by rw[rv.length];exact hw,tj gh (rv.cut l u) fun w G4 H4 s4 r4=>k w G4 H4 (s.trans s4) r4⟩)
 .split at h
  .cases h;cases r.str_inv;exact .inr (.inr ⟨_,rfl,by assumption,k _ _ _ s (.str _)⟩)
  .cases h
 .cases h⟩
structure MtD (Γ:Cn) (X:Cx) (T id:cK) (g:D->ac D->aq D):Prop where
 ex:∃r,MtR X id r/\∀{G H v x vs ds z},ba G H->Rep Γ X.K G v x->Reps Γ X.K G vs ds->g x ds=aa z->∀Q:VK,(∀w G' H',Step G H G' H'->Rep Γ X.K G' w z->Q w H')->r v vs H Q
 ty:∀{G H v x ds z},ba G H->Rep Γ X.K G v x->g x ds=aa z->tyV X.K T v H
noncomputable def mF (g:D->ac D->aq D) (f:FE) (fr:FA):FE:=fun ρ=>(f ρ).bind fun d=>(fr ρ).bind fun ds=>g d ds
variable {o:Expr}
theorem Os {T id:cK} {g:D->ac D->aq D} (pa:PlainAttrs T) (slot:PySem.Slot T name id) (hty:typeOf (.builtin id)=aZ (.type "method_descriptor")) (hm:MtD Γ X T id g) (ho:DE Γ X o fo) (ha:DA Γ X (e::es) fr)
  (hbase:je o name X.env (eval o X.env)=eval o X.env:=by rfl)
  (hfew:((bV cpos (aO (e::es) X.env)).all (fun x=>!x.1) && (jW cpos (jX [] X.env)).all (fun x=>x.1.isSome)
   && decide ((e::es).length+([]:ac jY).length+(if ([]:ac jY).isEmpty then 0 else 1)<30))=aj:=by rfl)
  (hline:(apos.endLine==cpos.line)=aj:=by rfl) (hs:aO (e::es) X.env=(ar,eval e X.env)::aO es X.env:=by rfl) (hplain:(bV cpos (aO es X.env)).any (·.1)=ar:=by rfl) :
  DE Γ X (.Call (.Attribute o name apos) (e::es) [] cpos) (mF g fo fr):=⟨by
 obtain⟨r,h1,h2⟩:=hm.ex;refine(vB pa slot hty h1 ho.1 ha.1 hbase hfew hline hs hplain).imp fun σ H Q=>?_;rintro⟨G₀,H₀,G,ρ,d,A,h,k⟩;unfold mF at h;obtain⟨x,hx,h⟩:=oBd h;obtain⟨ds,hd,h⟩:=oBd h;exact⟨G₀,H₀,G,ρ,x,A,hx,fun v G1 H1 s1 r1=>⟨hm.ty s1.gh r1 h,G₀,H₀,G1,ρ,ds,A.step s1,hd,fun vs G2 H2 s2 r2=>h2 s2.gh (r1.mono s2.gg) r2 h Q fun w G3 H3 s3 r3=>k w G3 H3 ((s1.trans s2).trans s3) r3⟩⟩⟩
noncomputable def lI:ac D->aq (ac ai)
 |[]=>aa []
 |.str x::r=>(lI r).map (x::·)
 |_::_=>af
def pT:D->ac D->aq D
 |.str sep,[.lst l]=>(lI l).bind fun ys=>if (ys.map (·.length)).sum+ys.length*sep.length<=16777216 then aa (.str (Fg sep ys)) else af
 |_,_=>af
theorem Cq {K:aW} {G:Hp}:∀{vs:ac V} {ds:ac D} {ys:ac ai},Reps Γ K G vs ds->lI ds=aa ys->vs=ys.map V.str
 |_,[],ys,r,h=>by cases r;cases h;rfl
 |_,d::ds,ys,.cons h1 h2,h=>by
  cases d with
  |str x=>
   obtain⟨zs,hz,rfl⟩:=oMd (show(lI ds).map (x::·)=aa ys from h);rw[h1.str_inv,Cq h2 hz];rfl
  |_=>cases h
theorem Ov:∀{ys:ac ai} {us:ac av},bi (ys.map V.str) us->StrsAre us ys:=by
 intro xs0
 induction xs0 with
 |nil=>
  intro _ r;rw[qP] at r;cases r;exact .nil
 |cons y ys ih=>
  intro _ r;rw[qm] at r;cases r with
  |cons r1 r2=>
   obtain⟨t,e⟩:=r1;subst e;exact .cons y t (ih r2)
theorem K7:MtD Γ X "str" "str.join" pT:=by
 refine⟨⟨fun v vs H Q=>∃sep a ys,v=.str sep/\vs=[.ref a]/\H a=aa (.lst (ys.map V.str))/\(ys.map (·.length)).sum+ys.length*sep.length<=16777216/\Q (.str (Fg sep ys)) H,?_,?_⟩,?_⟩
 .intro pins s σ H x xs v us Q I rx rs h;obtain⟨sep,a,ys,rfl,rfl,ha,hz,q⟩:=h;obtain⟨t,rfl⟩:=rx;obtain⟨u,rfl,ru⟩:=eQ rs;cases ru;obtain⟨its,rv,pl,_⟩:=I.list (.inl (.inl ha));exact join_list pl.isList (Ov rv) hz fun t' k=>⟨.str _,H,I.tok k,⟨_,rfl⟩,q⟩
 .intro G H v x vs ds z gh r1 r2 h Q k;unfold pT at h;split at h
  .obtain⟨ys,hy,h⟩:=oBd h;split at h
   .cases h;cases r1.str_inv;obtain⟨v,rfl,r3⟩:=r2.one;obtain⟨a,ws,rfl,ha,rw'⟩:=r3.lst_inv;refine⟨_,a,ys,rfl,rfl,?_,by assumption,k _ G H .(aL) (.str _)⟩;rw[←Cq rw' hy];exact gh _ _ ha
   .cases h
  .cases h
 .intro G H v x ds z gh r h;unfold pT at h;split at h
  .cases r.str_inv;exact rfl
  .cases h
noncomputable def mW:ac D->aq (ac aP)
 |[]=>aa []
 |.bl x::r=>(mW r).map (x::·)
 |_::_=>af
theorem Ck {K:aW} {G:Hp}:∀{vs:ac V} {ds:ac D} {ys:ac aP},Reps Γ K G vs ds->mW ds=aa ys->vs=ys.map V.bl
 |_,[],ys,r,h=>by cases r;cases h;rfl
 |_,d::ds,ys,.cons h1 h2,h=>by
  cases d with
  |bl x=>
   obtain⟨zs,hz,rfl⟩:=oMd (show(mW ds).map (x::·)=aa ys from h);rw[h1.bl_inv,Ck h2 hz];rfl
  |_=>cases h
def fu:ac D->aq D
 |[.lst l]=>(mW l).map fun bs=>D.bl (bs.all id)
 |_=>af
theorem RX:∀{bs:ac aP} {us:ac av},bi (bs.map V.bl) us->us=bs.map kU:=by
 intro xs0
 induction xs0 with
 |nil=>
  intro _ r;rw[qP] at r;cases r;rfl
 |cons y ys ih=>
  intro _ r;rw[qm] at r;cases r with
  |cons r1 r2=>cases r1;rw[ih r2];rfl
theorem RQ (bs:ac aP):(cx bs.length).all (fun i=>bs.getD i ar)=bs.all id:=by
 rw[uP,ic,ic];constructor
 .intro h x hx;obtain⟨i,hi,e⟩:=u5.mp hx;have:=h i (fN.mpr hi);simp[yO,hi] at this;rw[←e];exact this
 .intro h i hi;have hi':=fN.mp hi;have:=h (bs[i]) (oF hi');simp[yO,hi'];exact this
theorem Om {bs:ac aP} :TruthOf prog w A (fun i v=>(bs.map kU).toArray[i]?=aa v) (fun i=>bs.getD i ar):=fun i v s Q E hP hQ=>by
 have hP':(bs.map kU)[i]?=aa v:=by simpa using hP
 rw[qk] at hP';obtain⟨b,hb,rfl⟩:=oMd hP';have:bs.getD i ar=b:=by simp[yO,hb]
 have hQ':Q (bs.getD i ar) s:=hQ;rw[this] at hQ';exact jb hQ'
theorem gG (hc:X.calm=aj):BltD Γ X "all" fu:=by
 refine⟨fun vs H Q=>∃(a:au) (bs:ac aP),vs=[.ref a]/\H a=aa (.lst (bs.map V.bl))/\Q (.bl (bs.all id)) H,?_,?_⟩
 .intro pins s σ H xs us Q I r h;obtain⟨a,bs,rfl,ha,q⟩:=h;obtain⟨u,rfl,ru⟩:=eQ r;cases ru;obtain⟨its,rv,pl,_⟩:=I.list (.inl (.inl ha));have e:=RX rv;subst e;refine call_all_walk (rK pl.isList ?_);have ne:a≠s.heap.objs.size:=by obtain⟨o,_,h1,_⟩:=pl;exact qC (qu h1)
  refine⟨s.heap.objs.size,_,_,_,_,_,fun i=>bs.getD i ar,rfl,u6 (A:=X.A.in1) (show X.A.in1.handled=af from I.ok.hd hc) s.heap.objs.size a ne (bs.map kU).toArray,⟨⟨_,qG _ rfl,rfl,rfl⟩,pl.isList.at fun o q=>qt _ q⟩,Om,fun h' tk hk=>?_⟩;have e2:(bs.map kU).toArray.size=bs.length:=by simp
  rw[e2,RQ];refine⟨.bl _,H,I.kept fun b o z=>hk b o ?_ (qt _ z),rfl,q⟩;intro z';have:b=s.heap.objs.size:=by simpa using z'
  exact bA (qu z) (by rw[this];exact hU _)
 .intro G H vs ds z gh r h Q k;unfold fu at h;split at h
  .obtain⟨bs,hb,rfl⟩:=oMd h;obtain⟨v,rfl,r1⟩:=r.one;obtain⟨a,ws,rfl,ha,rw'⟩:=r1.lst_inv;refine⟨a,bs,rfl,?_,k _ G H .(aL) (.bl _)⟩;rw[←Ck rw' hb];exact gh _ _ ha
  .cases h
end
structure Yd (Γ:Cn) (K:aW) (J:It) (G:Hp) (ds:ac D):Prop where
 go:∀(i:ao) d G2 H2,ds[i]?=aa d->ba G G2->ba G2 H2->J.go i H2/\∀x H3,J.yld i H2 x H3->∃G3,Step G2 H2 G3 H3/\Rep Γ K G3 x d
 stop:∀G2 H2,ba G G2->ba G2 H2->J.stop ds.length H2
inductive TDi (Γ:Cn) (K:aW) (f:FA) (σ:St) (H:Hp) (R:It->Hp->Prop):Prop where
 |mk:∀G₀ H₀ G ρ ds,At Γ K G₀ H₀ G H ρ σ->f ρ=aa ds->(∀J G' H',Step G H G' H'->Yd Γ K J G' ds->R J H')->TDi Γ K f σ H R
structure DI (Γ:Cn) (X:Cx) (tg e:Expr) (f:FA):Prop where
 out:PI X tg e (TDi Γ X.K f)
theorem PI.imp {t t':TI} (h:PI X tg e t) (i:∀σ H R,t' σ H R->t σ H R):PI X tg e t':=fun pins s σ H R I q=>h pins s σ H R I (i _ _ _ q)
variable {fi:FA} {ts:ac Expr} {gs:FGs} {fe:FE} {ρ1:bo}
section
variable {a c:Expr}
theorem IL {a:au} (h:G a=aa (.tup vs)) (r:Reps Γ K G vs ds):Yd Γ K (Itt K a) G ds:=by refine⟨fun i d G2 H2 hd g1 g2=>?_,fun G2 H2 g1 g2=>⟨vs,.inl (.inl (g2 _ _ (g1 _ _ h))),by rw[r.length];exact qv _⟩⟩;obtain⟨v,hv,rv⟩:=r.get hd;refine⟨⟨vs,v,.inl (.inl (g2 _ _ (g1 _ _ h))),hv⟩,fun x H3 ⟨e1,e2⟩=>?_⟩;subst e1;have:=e2 vs (.inl (.inl (g2 _ _ (g1 _ _ h))));rw[hv] at this;cases this;exact⟨G2,.refl g2,rv.mono g1⟩
theorem zz {a:au} (h:SqL K G a vs) (r:Reps Γ K G vs ds):Yd Γ K (Ite K a) G (ds.mapIdx fun i d=>D.tup [.int i,d]):=by refine⟨fun i d G2 H2 hd g1 g2=>?_,fun G2 H2 g1 g2=>⟨vs,g2.seq (g1.seq h),by rw[rL,r.length];exact qv _⟩⟩;rw[Fh] at hd;obtain⟨d',hd',rfl⟩:=oMd hd;obtain⟨v,hv,rv⟩:=r.get hd';refine⟨⟨vs,v,g2.seq (g1.seq h),hv⟩,fun x H3 ⟨T,y,e0,hT,e1,e2⟩=>?_⟩;subst e0;have:=e2 vs (g2.seq (g1.seq h));rw[hv] at this;cases this;subst e1;have s:=Step.new (o:=.tup [.int i,v]) g2 hT;exact⟨_,s,.tup bj (.cons (.int _) (.cons ((rv.mono g1).mono s.gg) .nil))⟩
noncomputable def pV:D->aq (ac D)
 |.lst l=>aa l
 |.tup l=>aa l
 |.scr l=>aa (l.map D.int)
 |_=>af
def itF (f:FE):FA:=fun ρ=>(f ρ).bind pV
theorem HS {l:Expr} {tl:TE} (hl:PE X l tl):PI X tg l (fun σ H R=>tl σ H fun x H1=>(∃a,x=.ref a/\(∃xs,SqL X.K H1 a xs)/\R (Itl X.K a) H1)\/(∃a,x=.ref a/\(∃xs,SqT X.K H1 a xs)/\R (Itt X.K a) H1)):=by
 intro pins s σ H R I h;refine thn (hl pins s σ H _ I h) fun v s1 ⟨x,H1,I1,r1,q1⟩=>?_;rcases q1 with⟨a,e,⟨xs,hq⟩,q⟩|⟨a,e,⟨xs,hq⟩,q⟩
 .subst e;cases r1;obtain⟨its,rv,p,hz⟩:=I1.list hq;refine rK p.isList ?_;refine⟨s1.heap.objs.size,[s1.heap.objs.size],_,_,H1,rfl,I1.kept (t':=s1.toks) fun b o e=>qt _ e,No a _,⟨_,qG _ rfl,rfl,rfl⟩,fun b hb=>?_,q⟩;have e:b=s1.heap.objs.size:=by simpa using hb
  subst e;exact I1.fpOk (qv _) (I1.hok.fresh (qv _))
 .subst e;cases r1;obtain⟨its,rv,p,hz⟩:=I1.tuple hq;refine wpAny_pyIter_tuple (show s1.heap.IsTuple a its.toArray from p) ?_;refine⟨s1.heap.objs.size,[s1.heap.objs.size],_,_,H1,rfl,I1.kept (t':=s1.toks) fun b o e=>qt _ e,O5 a _,⟨_,qG _ rfl,rfl,rfl⟩,fun b hb=>?_,q⟩;have e:b=s1.heap.objs.size:=by simpa using hb
  subst e;exact I1.fpOk (qv _) (I1.hok.fresh (qv _))
theorem m6 (h:DE Γ X iter f):DI Γ X tg iter (itF f):=⟨(HS h.1).imp fun σ H R=>by
 rintro⟨G₀,H₀,G,ρ,ds,A,h,k⟩;unfold itF at h;obtain⟨d,hd,h⟩:=oBd h;refine⟨G₀,H₀,G,ρ,d,A,hd,fun v G' H' s r=>?_⟩;unfold pV at h;split at h
 .cases h;obtain⟨a,vs,rfl,ha,rv⟩:=r.lst_inv;refine .inl ⟨a,rfl,⟨vs,.inl (.inl (s.gh _ _ ha))⟩,k _ G' H' s ?_⟩;refine⟨fun i d G2 H2 hd g1 g2=>?_,fun G2 H2 g1 g2=>⟨vs,.inl (.inl (g2 _ _ (g1 _ _ ha))),by rw[rv.length];exact qv _⟩⟩;obtain⟨v,hv,rv'⟩:=rv.get hd;refine⟨⟨vs,v,.inl (.inl (g2 _ _ (g1 _ _ ha))),hv⟩,fun x H3 ⟨e1,e2⟩=>?_⟩;subst e1;have:=e2 vs (.inl (.inl (g2 _ _ (g1 _ _ ha))));rw[hv] at this;cases this;exact⟨G2,.refl g2,rv'.mono g1⟩
 .cases h;obtain⟨a,vs,rfl,ha,rv⟩:=r.tup_inv;exact .inr ⟨a,rfl,⟨vs,.inl (.inl (s.gh _ _ ha))⟩,k _ G' H' s (IL ha rv)⟩
 .rename_i l;cases h;obtain⟨a,rfl,ha⟩:=r.scr_inv;refine .inl ⟨a,rfl,⟨_,s.gh.seq ha⟩,k _ G' H' s ?_⟩;refine⟨fun i d G2 H2 hd g1 g2=>?_,fun G2 H2 g1 g2=>⟨_,g2.seq (g1.seq ha),by simp⟩⟩;rw[qk] at hd;obtain⟨n,hn,rfl⟩:=oMd hd;have hv:(yP V.int l)[i]?=aa (V.int n):=by rw[qk,hn];rfl
  refine⟨⟨_,_,g2.seq (g1.seq ha),hv⟩,fun x H3 ⟨e1,e2⟩=>?_⟩;subst e1;have:=e2 _ (g2.seq (g1.seq ha));rw[hv] at this;cases this;exact⟨G2,.refl g2,.int _⟩
 .cases h⟩
noncomputable def wB:D->aq (ac D)
 |.str x=>aa (x.cps.toList.map fun c=>D.str ⟨#[c]⟩)
 |_=>af
def itS (f:FE):FA:=fun ρ=>(f ρ).bind wB
theorem GN {n:ai} {q:dq} (h:DE Γ X iter f):DI Γ X (.Name n q) iter (itS f):=⟨(Ln h.1).imp fun σ H R=>by
 rintro⟨G₀,H₀,G,ρ,ds,A,h,k⟩;unfold itS at h;obtain⟨d,hd,h⟩:=oBd h;refine⟨G₀,H₀,G,ρ,d,A,hd,fun v G' H' s r=>?_⟩;unfold wB at h;split at h<;>cases h;cases r.str_inv;rename_i x;refine⟨x,rfl,k _ G' H' s ⟨fun i d G2 H2 hd g1 g2=>?_,fun G2 H2 g1 g2=>?_⟩⟩
 .rw[qk] at hd;obtain⟨c,hc,rfl⟩:=oMd hd;have hc':x.cps[i]?=aa c:=by simpa using hc
  refine⟨(gN.mp hc').1,fun y H3 ⟨e1,c2,h2,e2⟩=>?_⟩;subst e1;subst e2;rw[hc'] at h2;cases h2;exact⟨G2,.refl g2,.str _⟩
 .show _=x.cps.size;simp⟩
noncomputable def C2:D->aq (ac D)
 |.lst l=>aa (l.mapIdx fun i d=>D.tup [.int i,d])
 |.scr l=>aa ((l.map D.int).mapIdx fun i d=>D.tup [.int i,d])
 |_=>af
def itE (f:FE):FA:=fun ρ=>(f ρ).bind C2
theorem Lq {k1:ao} (hg:Gl X "enumerate") (hm:X.mg "enumerate"=af) (h:DE Γ X a f) (hs:aO [a] X.env=[(ar,eval a X.env)]:=by rfl) (hs0:aO ([a]:ac Expr) X.env=(ar,eval a X.env)::aO [] X.env:=by rfl) :
  DI Γ X (.Tuple elts k1 tpos) (.Call (.Name "enumerate" p) [a] [] pos) (itE f):=⟨(KM hg hm (iH h.1 jx hs0) hs).imp fun σ H R=>by
 rintro⟨G₀,H₀,G,ρ,ds,A,h,k⟩;unfold itE at h;obtain⟨d,hd,h⟩:=oBd h;refine⟨G₀,H₀,G,ρ,d,A,hd,fun v G' H' s r=>?_⟩;unfold C2 at h;split at h
 .cases h;obtain⟨a,vs,rfl,ha,rv⟩:=r.lst_inv;exact⟨a,rfl,⟨vs,.inl (.inl (s.gh _ _ ha))⟩,k _ G' H' s (zz (.inl (.inl ha)) rv)⟩
 .cases h;obtain⟨a,rfl,ha⟩:=r.scr_inv;exact⟨a,rfl,⟨_,s.gh.seq ha⟩,k _ G' H' s (zz ha (Reps.ints _))⟩
 .cases h⟩
theorem C9 :Yd Γ K (Itr lo n) G ((cx n).map fun i:ao=>D.int (lo+i)):=by
 refine⟨fun i d G2 H2 hd g1 g2=>?_,fun G2 H2 g1 g2=>?_⟩
 .rw[qk] at hd;obtain⟨j,hj,rfl⟩:=oMd hd;have hi:i<n:=by have:=(df.mp hj).1;simpa using this
  have e:j=i:=by simpa[hi] using hj.symm
  subst e;refine⟨hi,fun x H3 ⟨e1,e2⟩=>?_⟩;subst e1;subst e2;exact⟨G2,.refl g2,.int _⟩
 .show n<=_;simp
noncomputable def dN:ac D->aq (ac D)
 |[.int j]=>if -(2 ^ 62)<=j/\j<2 ^ 62 then aa ((cx j.toNat).map fun i:ao=>D.int (0+i)) else af
 |_=>af
noncomputable def mw:ac D->aq (ac D)
 |[.int i,.int j]=>if -(2 ^ 62)<=i/\i<2 ^ 62 /\ -(2 ^ 62)<=j/\j<2 ^ 62 then aa ((cx (j-i).toNat).map fun k:ao=>D.int (i+k)) else af
 |_=>af
noncomputable def itR (g:ac D->aq (ac D)) (fr:FA):FA:=fun ρ=>(fr ρ).bind g
theorem Hs (hg:Gl X "range") (hm:X.mg "range"=af) (h:DA Γ X [a] fr) (hs:aO [a] X.env=[(ar,eval a X.env)]:=by rfl):DI Γ X tg (.Call (.Name "range" p) [a] [] pos) (itR dN fr):=⟨(IM hg hm h.1 hs).imp fun σ H R=>by
 rintro⟨G₀,H₀,G,ρ,ds,A,h,k⟩;unfold itR at h;obtain⟨d,hd,h⟩:=oBd h;refine⟨G₀,H₀,G,ρ,d,A,hd,fun v G' H' s r=>?_⟩;unfold dN at h;split at h
 .split at h
  .rename_i hz;cases h;obtain⟨v,rfl,r1⟩:=r.one;cases r1.int_inv;exact⟨_,rfl,hz.1,hz.2,k _ G' H' s C9⟩
  .cases h
 .cases h⟩
theorem HC (hg:Gl X "range") (hm:X.mg "range"=af) (h:DA Γ X [a,b] fr) (hs:aO [a,b] X.env=[(ar,eval a X.env),(ar,eval b X.env)]:=by rfl) (hs2:aO [b] X.env=[(ar,eval b X.env)]:=by rfl):DI Γ X tg (.Call (.Name "range" p) [a,b] [] pos) (itR mw fr):=⟨(Pv hg hm h.1 hs hs2).imp fun σ H R=>by
 rintro⟨G₀,H₀,G,ρ,ds,A,h,k⟩;unfold itR at h;obtain⟨d,hd,h⟩:=oBd h;refine⟨G₀,H₀,G,ρ,d,A,hd,fun v G' H' s r=>?_⟩;unfold mw at h;split at h
 .split at h
  .rename_i hz;cases h;obtain⟨v,u,rfl,r1,r2⟩:=r.two;cases r1.int_inv;cases r2.int_inv;exact⟨_,_,rfl,hz,k _ G' H' s C9⟩
  .cases h
 .cases h⟩
abbrev FG:=D->bo->aq bo
abbrev FGs:=ac D->bo->aq bo
inductive TDg (Γ:Cn) (K:aW) (g:FG) (v:V) (σ:St) (H:Hp) (Q:St->Hp->Prop):Prop where
 |mk:∀G₀ H₀ G ρ d ρ',At Γ K G₀ H₀ G H ρ σ->Rep Γ K G v d->g d ρ=aa ρ'->(∀σ',At Γ K G₀ H₀ G H ρ' σ'->Q σ' H)->TDg Γ K g v σ H Q
inductive TDgs (Γ:Cn) (K:aW) (g:FGs) (vs:ac V) (σ:St) (H:Hp) (Q:St->Hp->Prop):Prop where
 |mk:∀G₀ H₀ G ρ ds ρ',At Γ K G₀ H₀ G H ρ σ->Reps Γ K G vs ds->g ds ρ=aa ρ'->(∀σ',At Γ K G₀ H₀ G H ρ' σ'->Q σ' H)->TDgs Γ K g vs σ H Q
structure DG (Γ:Cn) (X:Cx) (tg:Expr) (g:FG):Prop where
 pg:PG X tg (TDg Γ X.K g)
 no:∀d ρ ρ',g d ρ=aa ρ'->eW ρ->eW ρ'
structure DGs (Γ:Cn) (X:Cx) (ts:ac Expr) (g:FGs):Prop where
 pg:PGs X ts (TDgs Γ X.K g)
 no:∀d ρ ρ',g d ρ=aa ρ'->eW ρ->eW ρ'
theorem PG.imp {t t':TG} (h:PG X tg t) (i:∀v σ H Q,t' v σ H Q->t v σ H Q):PG X tg t':=fun pins s σ H v u Q I r q=>h pins s σ H v u Q I r (i _ _ _ _ q)
theorem PGs.imp {t t':TGs} (h:PGs X ts t) (i:∀v σ H Q,t' v σ H Q->t v σ H Q):PGs X ts t':=fun pins s σ H v u Q I r q=>h pins s σ H v u Q I r (i _ _ _ _ q)
noncomputable def ay (i:ao):FG:=fun d ρ=>aa (ρ.set i (aa (.sh d)))
theorem HA (h:eW ρ):eW (ρ.set i (aa (.sh d))):=fun j ds e=>by
 by_cases hj:j=i
 .subst hj;rw[List.getElem?_set,qX rfl] at e;split at e<;>cases e;exact⟨_,rfl⟩
 .rw[qy (cM hj)] at e;exact h j ds e
theorem lZ (i:ao) (hN:X.N.Nodup) (hi:X.N[i]?=aa x:=by rfl) (hx:Loc X.env.scope x:=by ac_nf) (hf:X.fn x=aj\/X.env.scope.names.lookup x=aa .local:=by ac_nf):DG Γ X (.Name x pos) (ay i):=by
 refine⟨(Mx hN hi hx hf).imp fun v σ H Q=>?_,fun d ρ ρ' e h=>?_⟩
 .rintro⟨G₀,H₀,G,ρ,d,ρ',A,r,h,k⟩;cases h;exact k _ (A.setSh r)
 .cases e;exact HA h
noncomputable def bH:FGs:=fun ds ρ=>match ds with
 |[]=>aa ρ
 |_=>af
noncomputable def aM (g:FG) (gs:FGs):FGs:=fun ds ρ=>match ds with
 |d::r=>(g d ρ).bind fun ρ'=>gs r ρ'
 |_=>af
theorem Bm:DGs Γ X [] bH:=by
 refine⟨QI.imp fun vs σ H Q=>?_,fun d ρ ρ' e h=>?_⟩
 .rintro⟨G₀,H₀,G,ρ,ds,ρ',A,r,h,k⟩;unfold bH at h;split at h<;>cases h;cases r;exact⟨rfl,k σ A⟩
 .unfold bH at e;split at e<;>cases e;exact h
theorem oZ {g:FG} (h1:DG Γ X e g) (h2:DGs Γ X ts gs) (hs:(jc (e::ts) X.env).map (·.2)=jT e X.env::(jc ts X.env).map (·.2):=by rfl):DGs Γ X (e::ts) (aM g gs):=by
 refine⟨(Nn h1.pg h2.pg hs).imp fun vs σ H Q=>?_,fun ds ρ ρ' e h=>?_⟩
 .rintro⟨G₀,H₀,G,ρ,ds,ρ',A,r,h,k⟩;unfold aM at h;split at h
  .obtain⟨ρ1,h1,h⟩:=oBd h;cases r with
   |cons r1 r2=>exact⟨_,_,rfl,G₀,H₀,G,ρ,_,ρ1,A,r1,h1,fun σ1 A1=>⟨G₀,H₀,G,ρ1,_,ρ',A1,r2,h,k⟩⟩
  .cases h
 .unfold aM at e;split at e
  .obtain⟨ρ1,e1,e⟩:=oBd e;exact h2.no _ _ _ e (h1.no _ _ _ e1 h)
  .cases e
noncomputable def bG (n:ao) (gs:FGs):FG:=fun d ρ=>match d with
 |.tup ds=>if ds.length=n then gs ds ρ else af
 |_=>af
theorem DN {k:ao} (hc:X.calm=aj) (h:DGs Γ X ts gs) (hn:(jc ts X.env).length=n:=by rfl) (hst:(jc ts X.env).findIdx? (·.1)=af:=by rfl):DG Γ X (.Tuple ts k pos) (bG n gs):=by
 refine⟨(Mi hc h.pg hn hst).imp fun v σ H Q=>?_,fun ds ρ ρ' e q=>?_⟩
 .rintro⟨G₀,H₀,G,ρ,d,ρ',A,r,h,k⟩;unfold bG at h;split at h
  .split at h
   .rename_i hl;obtain⟨a,vs,rfl,ha,rv⟩:=r.tup_inv;exact⟨a,vs,rfl,.inl (.inl (A.gh _ _ ha)),by rw[rv.length];exact hl,G₀,H₀,G,ρ,_,ρ',A,rv,h,k⟩
   .cases h
  .cases h
 .unfold bG at e;split at e
  .split at e
   .exact h.no _ _ _ e q
   .cases e
  .cases e
noncomputable def bT (g:FG) (ft:FT) (fe:FE):ac D->bo->aq (ac D)
 |[],_=>aa []
 |x::xs,ρ=>(g x ρ).bind fun ρ1=>(ft ρ1).bind fun b=>if b=aj then (fe ρ1).bind fun d=>(bT g ft fe xs ρ1).map (d::·) else bT g ft fe xs ρ1
noncomputable def eS (fv:ac (aq ao)) (ρ:bo):bo:=fv.map fun o=>o.bind fun j=>match ρ[j]? with
 |some (aa (.sh d))=>aa (.sh d)
 |_=>af
def aR (fi:FA) (g:FG) (ft:FT) (fe:FE) (fv:ac (aq ao)):FA:=fun ρ=>(fi ρ).bind fun xs=>if xs.length<=aH then bT g ft fe xs (eS fv ρ) else af
structure DTs (Γ:Cn) (X:Cx) (es:ac Expr) (f:FT):Prop where
 out:PTs X es (TDt Γ X.K f)
theorem PTs.imp {t t':TT} (h:PTs X es t) (i:∀σ H Q,t' σ H Q->t σ H Q):PTs X es t':=fun pins s σ H Q I q=>h pins s σ H Q I (i _ _ _ q)
noncomputable def tT:FT:=fun _=>aa aj
theorem nq:DTs Γ X [] tT:=⟨OV.imp fun σ H Q=>by rintro⟨G₀,H₀,G,ρ,b,A,h,k⟩;cases h;exact k G H (.refl A.gh)⟩
theorem se (h:DT Γ X c ft):DTs Γ X [c] ft:=⟨Ia h.1⟩
variable {g:FG}
structure DB (Γ:Cn) (X:Cx) (N':ac ai) (scope:Scope) (tg:Expr) (ifs:ac Expr) (elt:Expr) (g:FG) (ft:FT) (fe:FE):Prop where
 out:∀(cl:ac (ai×au)) (C:au) (s₀:aI) (H₀:Hp) (fp:ac au),DG Γ (iy X N' scope cl C s₀ H₀ fp) tg g/\DTs Γ (iy X N' scope cl C s₀ H₀ fp) ifs ft/\DE Γ (iy X N' scope cl C s₀ H₀ fp) elt fe
theorem DB.pb (h:DB Γ X N' scope tg ifs elt g ft fe):PB X N' scope tg ifs elt (TDg Γ X.K g) (TDt Γ X.K ft) (TD Γ X.K fe):=fun cl C s₀ H₀ fp=>⟨(h.1 cl C s₀ H₀ fp).1.pg,(h.1 cl C s₀ H₀ fp).2.1.1,(h.1 cl C s₀ H₀ fp).2.2.1⟩
theorem CN (A:At Γ K G₀ H₀ G H ρ σ):At Γ K G H G H (eS fv ρ) (gT fv σ)/\eW (eS fv ρ):=by
 have no:eW (eS fv ρ):=fun i ds e=>by
  unfold eS at e;rw[qk] at e;obtain⟨o,ho,e⟩:=oMd e;cases o with
  |none=>cases e
  |some j=>
   simp only[qb] at e;split at e<;>cases e;exact⟨_,rfl⟩
 refine⟨⟨.refl A.gh,.ofSh (by simp[eS,gT]) no fun i d e=>?_⟩,no⟩;unfold eS at e;unfold gT;rw[qk] at e ⊢;obtain⟨o,ho,e⟩:=oMd e;rw[ho];cases o with
 |none=>cases e
 |some j=>
  simp only[qb] at e;split at e
  .rename_i d' hd';cases e;obtain⟨v,h1,h2⟩:=A.env.sh j d hd';exact⟨v,by simp[h1],h2⟩
  .cases e
theorem DU {J:It} {σ1:St} {xs:ac D} {Q:VK} {acc:au} (no:∀d ρ ρ',g d ρ=aa ρ'->eW ρ->eW ρ') (A0:At Γ X.K G1 H1 G1 H1 ρ1 σ1) (no0:eW ρ1) (Y:Yd Γ X.K J G1 xs) (hz:xs.length<=aH) (h:bT g ft fe xs ρ1=aa ds) (hacc:H1 acc=af)
  (k:∀p vs G' H',Step G1 H1 G' H'->H' p=af->Reps Γ X.K G' vs ds->Q (.ref p) (upd H' p (.lst vs))):LcW J (TDg Γ X.K g) (TDt Γ X.K ft) (TD Γ X.K fe) acc Q σ1 H1:=by
 have gacc:G1 acc=af:=A0.gh.free hacc;refine⟨fun i m ys σ' H'=>m=xs.length-i/\i<=xs.length/\ys.length<=i/\∃G' ρ' done bP,At Γ X.K G1 H1 G' H' ρ' σ'/\eW ρ'/\H' acc=aa (.lst ys)/\G' acc=af/\Reps Γ X.K G' ys done/\bT g ft fe (xs.drop i) ρ'=aa bP/\done++bP=ds,?_,?_⟩
 .refine⟨xs.length,rfl,fA _,qv _,G1,ρ1,[],ds,?_,no0,bj,gacc,.nil,by rw[oE];exact h,rfl⟩;have sn:=Step.newOwn (o:=.lst []) A0.gh hacc;exact⟨sn,.ofSh A0.env.len no0 A0.env.sh⟩
 .rintro i m ys σ' H' ⟨hm,hi,hyi,G',ρ',done,bP,A',no',hacc',gacc',ry,hr,hd⟩;subst hm;refine⟨hacc',?_⟩;by_cases hlt:i<xs.length
  .right
   have hxi:xs[i]?=aa xs[i]:=by simp[hlt]
   obtain⟨go,yl⟩:=Y.go i _ G' H' hxi A'.st.gg A'.gh;refine⟨go,fun x H2 hy=>?_⟩;obtain⟨G2,s2,r2⟩:=yl x H2 hy;have A2:=A'.step s2;have hdr:xs.drop i=xs[i]::xs.drop (i+1):=rM hlt;rw[hdr] at hr;unfold bT at hr;obtain⟨ρ2,h1,hr⟩:=oBd hr;obtain⟨b,h2,hr⟩:=oBd hr;refine⟨G1,H1,G2,ρ',_,ρ2,A2,r2,h1,fun σ2 A3=>⟨G1,H1,G2,ρ2,b,A3,h2,fun G4 H4 s4=>?_⟩⟩;have no1:=no _ _ _ h1 no';have hH4:H4 acc=aa (.lst ys):=s4.hh _ _ (s2.hh _ _ hacc');have hG4:G4 acc=af:=(s4.out _ _ (s2.hh _ _ hacc') rfl).trans ((s2.out _ _ hacc' rfl).trans gacc');cases b with
   |false=>
    rw[qY qr] at hr;refine kL ⟨xs.length-(i+1),by omega,rfl,hlt,by omega,G4,ρ2,done,bP,A3.step s4,no1,hH4,hG4,(ry.mono s2.gg).mono s4.gg,hr,hd⟩
   |true=>
    rw[qX rfl] at hr;obtain⟨d,h3,hr⟩:=oBd hr;obtain⟨zs,h5,rfl⟩:=oMd hr;refine ki ⟨G1,H1,G4,ρ2,d,A3.step s4,h3,fun v G5 H5 s5 r5=>?_⟩;have A5:=(A3.step s4).step s5;have hH5:H5 acc=aa (.lst ys):=s5.hh _ _ hH4;have hG5:G5 acc=af:=(s5.out _ _ hH4 rfl).trans hG4;refine⟨hH5,by omega,xs.length-(i+1),by omega,rfl,hlt,by rw[qj,oy];omega,G5,ρ2,done++[d],zs,?_,no1,bj,hG5,((((ry.mono s2.gg).mono s4.gg).mono s5.gg).append (.cons r5 .nil)),h5,by rw[rG];exact hd⟩;refine⟨⟨fun b o e=>?_,A5.st.gg,fun b o e=>?_,A5.st.out⟩,.ofSh A5.env.len no1 A5.env.sh⟩
    .rw[aF (bD e hacc)];exact A5.st.hh b o e
    .rw[aF (bD e hG5)];exact A5.st.gh b o e
  .left
   have e:i=xs.length:=by omega
   subst e;rw[u7] at hr;cases hr;rw[jf] at hd;subst hd;refine⟨Y.stop G' H' A'.st.gg A'.gh,?_⟩;have hf:H'=upd (fun b=>if b=acc then af else H' b) acc (.lst ys):=by
    funext b
    by_cases hb:b=acc
    .subst hb;rw[bj];exact hacc'
    .rw[aF hb,qY hb]
   rw[hf];refine k acc ys G' (fun b=>if b=acc then af else H' b) ⟨fun b o e=>?_,A'.st.gg,fun b o e=>?_,A'.st.out⟩ (qX rfl) ry
   .show(if b=acc then af else H' b)=aa o;rw[qY (bD e hacc)];exact A'.st.hh b o e
   .show(if b=acc then af else H' b)=aa o;rw[qY (bD e gacc')];exact A'.st.gh b o e
theorem Da (no:∀d ρ ρ',g d ρ=aa ρ'->eW ρ->eW ρ'):∀σ H Q,TDo Γ X.K (aR fi g ft fe fv) σ H Q->tLC (TDi Γ X.K fi) (TDg Γ X.K g) (TDt Γ X.K ft) (TD Γ X.K fe) fv σ H Q:=by
 rintro σ H Q ⟨G₀,H₀,G,ρ,ds,A,h,k⟩;unfold aR at h;obtain⟨xs,hx,h⟩:=oBd h;split at h
 case isFalse=>cases h
 rename_i hz;refine⟨G₀,H₀,G,ρ,xs,A,hx,fun J G1 H1 s1 Y acc hacc=>?_⟩;obtain⟨A0,no0⟩:=CN (fv:=fv) (A.step s1);exact DU no A0 no0 Y hz h hacc fun p vs G' H' s2 hp r=>k p vs G' H' (s1.trans s2) hp r
theorem R8 (hc:X.calm=aj) (S:CompScope X scope) (F:FvOk X N' scope fv) (hi:DI Γ X tg iter fi) (hb:DB Γ X N' scope tg ifs elt g ft fe) (hs:∀x,kZ iter X.env x=aZ x:=by intro _;rfl) :
  DO Γ X .(x) (aR fi g ft fe fv):=⟨(Ch hc S F hi.1 hb.pb hs).imp (Da (hb.1 [] 0 X.s₀ X.H₀ []).1.no)⟩
end
variable {g g':FS} {sts:ac Stmt} {gg:FG} {vp:dq}
section
variable {a c:Expr}
noncomputable def aV:FS:=fun ρ=>aa (.nx,ρ)
noncomputable def aw (g g':FS):FS:=fun ρ=>(g ρ).bind fun r=>match r.1 with
 |.nx=>g' r.2
 |fl=>aa (fl,r.2)
theorem c7:DSs Γ X [] aV:=⟨L4.imp fun E σ H=>by rintro⟨G₀,H₀,G,ρ,fl,ρ',A,h,k⟩;cases h;exact k σ G H (.refl _) A⟩
theorem bB (h:DS Γ X st g):DSs Γ X [st] g:=⟨N2 h.1⟩
theorem aE (h1:DS Γ X st g) (h2:DSs Γ X sts g'):DSs Γ X (st::sts) (aw g g'):=⟨(J2 h1.1 h2.1).imp fun E σ H=>by
 rintro⟨G₀,H₀,G,ρ,fl,ρ',A,h,k⟩;unfold aw at h;obtain⟨⟨fl1,ρ1⟩,h1,h⟩:=oBd h;refine⟨G₀,H₀,G,ρ,fl1,ρ1,A,h1,fun σ1 G1 H1 sm A1=>?_⟩;cases fl1 with
 |nx=>exact⟨G₀,H₀,G1,ρ1,fl,ρ',A1,h,fun σ' G' H' sm' A'=>k σ' G' H' (sm.trans sm') A'⟩
 |bk=>cases h;exact k σ1 G1 H1 sm A1
 |ct=>cases h;exact k σ1 G1 H1 sm A1
 |rt d=>cases h;exact k σ1 G1 H1 sm A1
 |ow d=>cases h;exact k σ1 G1 H1 sm A1
 |nw d=>cases h;exact k σ1 G1 H1 sm A1
 |od d=>cases h;exact k σ1 G1 H1 sm A1⟩
noncomputable def aC (f:FE):FS:=fun ρ=>(f ρ).map fun d=>(.rt d,ρ)
theorem cQ (h:DE Γ X e f):DS Γ X (.Return (aa e) pos) (aC f):=⟨(M9 h.1).imp fun E σ H=>by rintro⟨G₀,H₀,G,ρ,fl,ρ',A,h,k⟩;unfold aC at h;obtain⟨d,hd,h⟩:=oMd h;cases h;exact⟨G₀,H₀,G,ρ,d,A,hd,fun v G' H' s r=>k σ G' H' s.gg (A.step s) v r⟩⟩
noncomputable def aL (i:ao) (f:FE):FS:=fun ρ=>(f ρ).map fun d=>(.nx,ρ.set i (aa (.sh d)))
theorem fZ (i:ao) (hN:X.N.Nodup) (h:DE Γ X e f) (hi:X.N[i]?=aa x:=by rfl) (hx:Loc X.env.scope x:=by ac_nf) (hs:dH e (aa (.Name x pos')) pos.line X.env=aZ ar:=by rfl) (hf:X.fn x=aj\/X.env.scope.names.lookup x=aa .local:=by ac_nf) :
  DS Γ X (.Assign [.Name x pos'] e pos) (aL i f):=⟨(pL hN hi hx h.1 hs hf).imp fun E σ H=>by
 rintro⟨G₀,H₀,G,ρ,fl,ρ',A,h,k⟩;unfold aL at h;obtain⟨d,hd,h⟩:=oMd h;cases h;exact⟨G₀,H₀,G,ρ,d,A,hd,fun v G' H' s r=>k _ G' H' s.gg ((A.step s).setSh r)⟩⟩
noncomputable def dQ (i:ao) (f:FA):FS:=fun ρ=>(f ρ).map fun d=>(.nx,ρ.set i (aa (.own d)))
theorem RL :∀E σ H,TDs Γ X.K (dQ i fr) E σ H->oW (TDo Γ X.K fr) (o8 i) E σ H:=by rintro E σ H ⟨G₀,H₀,G,ρ,fl,ρ',A,h,k⟩;unfold dQ at h;obtain⟨d,hd,h⟩:=oMd h;cases h;exact⟨G₀,H₀,G,ρ,d,A,hd,fun p vs G' H' s hp r=>k _ G' _ s.gg ((A.step s).setOwn hp r)⟩
theorem Ej (i:ao) (hN:X.N.Nodup) (h:DO Γ X e fr) (hi:X.N[i]?=aa x:=by rfl) (hx:Loc X.env.scope x:=by ac_nf) (hs:dH e (aa (.Name x pos')) pos.line X.env=aZ ar:=by rfl) (hf:X.fn x=aj\/X.env.scope.names.lookup x=aa .local:=by ac_nf) :
  DS Γ X (.Assign [.Name x pos'] e pos) (dQ i fr):=⟨(pL hN hi hx h.1 hs hf).imp RL⟩
theorem P9 :∀E σ H,TDs Γ X.K (aL i (aK fr)) E σ H->oW (TDo Γ X.K fr) (o8 i) E σ H:=by rintro E σ H ⟨G₀,H₀,G,ρ,fl,ρ',A,h,k⟩;unfold aL aK at h;obtain⟨d,hd,h⟩:=oMd h;obtain⟨ds,hd',rfl⟩:=oMd hd;cases h;refine⟨G₀,H₀,G,ρ,ds,A,hd',fun p vs G' H' s hp r=>?_⟩;have s2:=Step.new (o:=.lst vs) s.gh hp;exact k _ _ _ (s.gg.trans s2.gg) (((A.step s).step s2).setSh (.lst bj (r.mono s2.gg)))
theorem JW (i:ao) {y:ai} (hN:X.N.Nodup) (hc:X.calm=aj) (S:CompScope X scope) (F:FvOk X N' scope fv) (hi:DI Γ X tg iter fi) (hb:DB Γ X N' scope tg ifs elt gg ft fe)
  (hy:X.N[i]?=aa y:=by rfl) (hyl:X.env.scope.names.lookup y=aa .local:=by rfl) (hsw:dH .(x) (aa (.Name y py)) spos.line X.env=aZ aj:=by rfl) (hs:∀x,kZ iter X.env x=aZ x:=by intro _;rfl) :
  DS Γ X (.Assign [.Name y py] .(x) spos) (aL i (aK (aR fi gg ft fe fv))):=⟨(Od hN hy hyl hc S F hi.1 hb.pb hsw hs).imp fun E σ H q=>Da (hb.1 [] 0 X.s₀ X.H₀ []).1.no σ H _ (P9 E σ H q)⟩
noncomputable def fM (i:ao) (f:FE):FS:=fun ρ=>match ρ[i]? with
 |some (aa (.own ds))=>(f ρ).bind fun d=>if ds.length<aH then aa (.nx,ρ.set i (aa (.own (ds++[d])))) else af
 |_=>af
theorem Hb (i:ao) (h:DE Γ X e f) (hN:X.N[i]?=aa x:=by rfl) (hv:Vis X.env.scope x:=by ac_nf) (hd:.(s)=ar:=by decide)
  (hcd:.(M)=ar:=by decide)
  (hbase:je .(Q) "append" X.env (eval .(Q) X.env)=eval .(Q) X.env:=by rfl)
  (hfew:((bV cpos (aO [e] X.env)).all (fun x=>!x.1) && (jW cpos (jX [] X.env)).all (fun x=>x.1.isSome)
   && decide ([e].length+([]:ac jY).length+(if ([]:ac jY).isEmpty then 0 else 1)<30))=aj:=by rfl)
  (hline:(apos.endLine==cpos.line)=aj:=by rfl) (hs:aO [e] X.env=(ar,eval e X.env)::aO [] X.env:=by rfl) (hplain:(bV cpos (aO [] X.env)).any (·.1)=ar:=by rfl)
  (hsw:dH (.Call (.Attribute .(Q) "append" apos) [e] [] cpos) af pos.line X.env=aZ ar:=by rfl) :
  DS Γ X (.Expr (.Call (.Attribute .(Q) "append" apos) [e] [] cpos) pos) (fM i f):=⟨(yg (vB S8 SL PySem.F.type_list_append Ep .(aP) (iH h.1 jx hs) hbase hfew hline hs hplain) hsw).imp fun E σ H=>by
  rintro⟨G₀,H₀,G,ρ,fl,ρ',A,h,k⟩;unfold fM at h;split at h
  .rename_i ds hi;obtain⟨d,hd,h⟩:=oBd h;split at h
   .rename_i hz;cases h;obtain⟨a,vs,h1,h2,h3,h4,h5⟩:=A.env.own i ds hi;refine⟨.ref a,h1,.inl ⟨rfl,vs,.inl (.inl h4)⟩,G₀,H₀,G,ρ,d,A,hd,fun v G1 H1 s1 r1=>?_⟩;have A1:=A.step s1;refine⟨a,vs,v,rfl,rfl,s1.hh _ _ h4,by rw[h5.length];exact hz,?_⟩;exact k σ G1 _ s1.gg (A1.chOwn hi h1 ((h5.mono s1.gg).append (.cons r1 .nil)))
   .cases h
  .cases h⟩
noncomputable def dY (i:ao) (g:FS):FS:=fun ρ=>match ρ[i]? with
 |some (aa (.own ds))=>g (ρ.set i (aa (.sh (.lst ds))))
 |_=>af
theorem TDs.frz (i:ao):∀E σ H,TDs Γ X.K (dY i g) E σ H->TDs Γ X.K g E σ H:=by
 rintro E σ H ⟨G₀,H₀,G,ρ,fl,ρ',A,h,k⟩;unfold dY at h;split at h
 .rename_i ds hi;obtain⟨G',sm,A'⟩:=A.freeze hi;exact⟨G₀,H₀,G',_,fl,ρ',A',h,fun σ1 G1 H1 sm1 A1=>k σ1 G1 H1 (sm.trans sm1) A1⟩
 .cases h
theorem sP (i:ao) (h:DSs Γ X sts g):DSs Γ X sts (dY i g):=⟨h.1.imp (TDs.frz i)⟩
noncomputable def sIf (ft:FT) (g g':FS):FS:=fun ρ=>(ft ρ).bind fun c=>if c=aj then g ρ else g' ρ
theorem cS {sa sb:ac Stmt} (hc:DT Γ X c ft) (ha:DSs Γ X sa g) (hb:DSs Γ X sb g'):DS Γ X (.If c sa sb pos) (sIf ft g g'):=⟨(HP hc.1 ha.1 hb.1).imp fun E σ H=>by
 rintro⟨G₀,H₀,G,ρ,fl,ρ',A,h,k⟩;unfold sIf at h;obtain⟨x,hx,h⟩:=oBd h;refine⟨G₀,H₀,G,ρ,x,A,hx,fun G1 H1 s1=>?_⟩;cases x with
 |true=>exact ki ⟨G₀,H₀,G1,ρ,fl,ρ',A.step s1,by simpa using h,fun σ2 G2 H2 sm2 A2=>k σ2 G2 H2 (s1.gg.trans sm2) A2⟩
 |false=>exact kL ⟨G₀,H₀,G1,ρ,fl,ρ',A.step s1,by simpa using h,fun σ2 G2 H2 sm2 A2=>k σ2 G2 H2 (s1.gg.trans sm2) A2⟩⟩
noncomputable def lJ (gg:FG) (f:FE):FS:=fun ρ=>(f ρ).bind fun d=>(gg d ρ).map fun ρ'=>(.nx,ρ')
theorem AZ (h:DE Γ X e f) (hg:DG Γ X tg gg) (hs:yk [tg] e pos.line X.env=aZ ar:=by rfl) (hw:ym [tg] e X.env=aZ af:=by rfl)
  (h1:(jc [tg] X.env).map (·.2)=[jT tg X.env]:=by rfl):DS Γ X (.Assign [tg] e pos) (lJ gg f):=⟨(F' h.1 hg.pg hs hw h1).imp fun E σ H=>by
 rintro⟨G₀,H₀,G,ρ,fl,ρ',A,h,k⟩;unfold lJ at h;obtain⟨d,hd,h⟩:=oBd h;obtain⟨ρ1,h1,h⟩:=oMd h;cases h;exact⟨G₀,H₀,G,ρ,d,A,hd,fun v G' H' s r=>⟨G₀,H₀,G',ρ,d,ρ',A.step s,r,h1,fun σ' A'=>k σ' G' H' s.gg A'⟩⟩⟩
noncomputable def dO (gg:FG) (body:FS):ac D->FS
 |[],ρ=>aa (.nx,ρ)
 |x::xs,ρ=>(gg x ρ).bind fun ρ1=>(body ρ1).bind fun r=>match r.1 with
  |.nx=>dO gg body xs r.2
  |.ct=>dO gg body xs r.2
  |.bk=>aa (.nx,r.2)
  |.rt d=>aa (.rt d,r.2)
  |.ow d=>aa (.ow d,r.2)
  |.nw d=>aa (.nw d,r.2)
  |.od d=>aa (.od d,r.2)
def bE (fi:FA) (gg:FG) (body:FS):FS:=fun ρ=>(fi ρ).bind fun xs=>dO gg body xs ρ
theorem dy (hp:PassesOwn .(q) X.A X.env X.xe) (hc:X.calm=aj) (hi:DI Γ X tg iter fi) (hg:DG Γ X tg gg) (hb:DSs Γ X body g) (hs:∀x,kZ iter X.env x=aZ x:=by intro _;rfl) :
  DS Γ X (.For tg iter body [] pos) (bE fi gg g):=⟨(LF hp hc hi.1 hg.pg hb.1 hs).imp fun E σ H=>by
 rintro⟨G₀,H₀,G,ρ,fl,ρ',A,h,k⟩;unfold bE at h;obtain⟨xs,hx,h⟩:=oBd h;refine⟨G₀,H₀,G,ρ,xs,A,hx,fun J G1 H1 s1 Y=>?_⟩;refine⟨fun i m σ' H'=>m=xs.length-i/\i<=xs.length/\∃G' ρ1,ba G1 G'/\At Γ X.K G₀ H₀ G' H' ρ1 σ'/\dO gg g (xs.drop i) ρ1=aa (fl,ρ'),⟨xs.length,rfl,fA _,G1,ρ,.refl _,A.step s1,by rw[oE];exact h⟩,?_⟩;rintro i m σ' H' ⟨rfl,hi,G',ρ1,sm,A',hr⟩;by_cases hlt:i<xs.length
 .right
  have hxi:xs[i]?=aa xs[i]:=by simp[hlt]
  obtain⟨go,yl⟩:=Y.go i _ G' H' hxi sm A'.gh;have hdr:xs.drop i=xs[i]::xs.drop (i+1):=rM hlt;rw[hdr] at hr;unfold dO at hr;obtain⟨ρ2,h2,hr⟩:=oBd hr;obtain⟨⟨fl3,ρ3⟩,h3,hr⟩:=oBd hr;refine⟨go,fun σ3 H3=>(fl3=.nx\/fl3=.ct)/\∃G3,ba G1 G3/\At Γ X.K G₀ H₀ G3 H3 ρ3 σ3,fun σ3 H3 ⟨hfl,G3,sm3,A3⟩=>?_,fun x H2 hy=>?_⟩
  .refine⟨xs.length-(i+1),by omega,rfl,hlt,G3,ρ3,sm3,A3,?_⟩;rcases hfl with e|e<;>subst e<;>exact hr
  .obtain⟨G2,s2,r2⟩:=yl x H2 hy;refine⟨G₀,H₀,G2,ρ1,_,ρ2,A'.step s2,r2,h2,fun σ2 A2=>⟨G₀,H₀,G2,ρ2,fl3,ρ3,A2,h3,fun σ3 G3 H3 sm3 A3=>?_⟩⟩;have smm:ba G1 G3:=(sm.trans s2.gg).trans sm3;cases fl3 with
   |nx=>exact⟨.inl rfl,G3,smm,A3⟩
   |ct=>exact⟨.inr rfl,G3,smm,A3⟩
   |bk=>cases hr;exact k σ3 G3 H3 (s1.gg.trans smm) A3
   |rt d=>cases hr;exact k σ3 G3 H3 (s1.gg.trans smm) A3
   |ow d=>cases hr;exact k σ3 G3 H3 (s1.gg.trans smm) A3
   |nw d=>cases hr;exact k σ3 G3 H3 (s1.gg.trans smm) A3
   |od d=>cases hr;exact k σ3 G3 H3 (s1.gg.trans smm) A3
 .left
  have e:i=xs.length:=by omega
  subst e;rw[u7] at hr;cases hr;exact⟨Y.stop G' H' sm A'.gh,k σ' G' H' (s1.gg.trans sm) A'⟩⟩
end
variable {fk:FE} {F:ac D->aq D}
section
variable {a c:Expr} {fw:FE}
inductive spF (Γ:Cn) (K:aW) (n:ao) (F:ac D->aq D) (vs:ac V) (H:Hp) (Q:VK) (_e3:XK):Prop where
 |mk:∀G ds d,ba G H->Reps Γ K G vs ds->ds.length=n->F ds=aa d->(∀v G' H',Step G H G' H'->Rep Γ K G' v d->Q v H')->spF Γ K n F vs H Q _e3
noncomputable def aT (n:ao) (g:FS):ac D->aq D:=fun ds=>(g (ds.map .(X)++bM n af)).bind fun r=>match r.1 with
 |.rt d=>aa d
 |.nx=>aa .non
 |_=>af
theorem wm {m:ao} (gh:ba G H) (r:Reps Γ K G vs ds) (hm:m=N.length-vs.length):At Γ K G H G H (ds.map .(X)++bM m af) (dw N vs):=by
 have no:eW (ds.map .(X)++bM m af):=fun i es e=>by
  by_cases hi:i<ds.length
  .rw[qz (by simpa using hi),qk] at e;obtain⟨d,_,e⟩:=oMd e;cases e;exact⟨_,rfl⟩
  .rw[qL (by simpa using hi),uT] at e;split at e<;>cases e
 refine⟨.refl gh,.ofSh (by simp[dw,r.length,hm]) no fun i d e=>?_⟩;by_cases hi:i<ds.length
 .rw[qz (by simpa using hi),qk] at e;obtain⟨d',hd,e⟩:=oMd e;cases e;obtain⟨v,hv,rv⟩:=r.get hd;refine⟨v,?_,rv⟩;unfold dw;rw[qz (by rw[qf,r.length];exact hi),qk,hv];rfl
 .rw[qL (by simpa using hi),uT] at e;split at e<;>cases e
theorem Fun.okD {f:au} {k:ao} (F:Fun K x qual st f fd) (S:FnScope N ps (aG st))
  (hbody:∀(cdv:av) (A:cR) (outer:ac cG) (s:aI) (H:Hp) (E:XK),Room k .(w)->
   DSs Γ .(n).nox (cv st) g):FnOk P w K mg base CX0 (k+1) f fd ps (spF Γ K ps.length (aT (N.length-ps.length) g)):=by
 refine F.ok S (fun vs H Q E h=>?_) (fun cdv A outer s H vs Q E hr h=>?_)
 .obtain⟨G,ds,d,_,r,hl,_⟩:=h;rw[r.length,hl]
 .obtain⟨G,ds,d,gh,r,hl,hd,k⟩:=h;refine⟨_,(hbody cdv A outer s H E hr).1,?_⟩;unfold aT at hd;obtain⟨⟨fl,ρ'⟩,hg,hd⟩:=oBd hd;refine⟨G,H,G,_,fl,ρ',wm gh r (by rw[r.length,hl]),hg,fun σ' G' H' sm A'=>?_⟩;cases fl with
  |rt d'=>cases hd;exact fun v rv=>k v G' H' A'.st rv
  |nx=>cases hd;exact k .non G' H' A'.st .non
  |bk=>cases hd
  |ct=>cases hd
  |ow d=>cases hd
  |nw d=>cases hd
  |od d=>cases hd
theorem NH {k:ao} {fx:au} (Fo:FnOk X.prog X.w X.K X.mg X.base CX0 k fx fd ps (spF Γ X.K n F)) (hr:Room k X.A) (hg:Gl X x) (hm:X.mg x=aa (.ref fx)) (hk:fP X.K (.ref fx)=aj) (hb:fm X.K fd ps [])
  (ha:DA Γ X (e::es) fr) (hn:∀ρ ds,fr ρ=aa ds->ds.length=n) (hdb:.(s)=ar:=by decide) (he:aO (e::es) X.env=(ar,eval e X.env)::aO es X.env:=by rfl) (hpl:.(ae).any (·.1)=ar:=by rfl) :
  DE Γ X .(au) (cF F fr):=⟨(zT Fo hr hg hm hk hb .nil kK ha.1 hdb he hpl).imp fun σ H Q=>by
 rintro⟨G₀,H₀,G,ρ,d,A,h,k⟩;unfold cF at h;obtain⟨ds,hd,h⟩:=oBd h;refine⟨G₀,H₀,G,ρ,ds,A,hd,fun vs G1 H1 s1 r1=>?_⟩;show spF Γ X.K n F (vs++[]) H1 Q E0;rw[jf];exact⟨G1,ds,d,s1.gh,r1,hn ρ ds hd,h,fun v G' H' s r=>k v G' H' (s1.trans s) r⟩⟩
theorem F3 (h:ak ρ=aa ds):ds.length=0:=by cases h;rfl
theorem l9 (hn:∀ρ ds,fr ρ=aa ds->ds.length=n):∀ρ ds,ag fa fr ρ=aa ds->ds.length=n+1:=fun ρ ds h=>by unfold ag at h;obtain⟨x,hx,h⟩:=oBd h;obtain⟨xs,hxs,rfl⟩:=oMd h;rw[qi,hn ρ xs hxs]
end
structure Cal (Γ:Cn) (P:dF) (w:cL) (K:aW) (mg:ai->aq av) (base:Heap) (x:ai) (n k:ao) (F:ac D->aq D):Prop where
 ex:∃f fd ps,FnOk P w K mg base CX0 k f fd ps (spF Γ K n F)/\mg x=aa (.ref f)/\fP K (.ref f)=aj/\fm K fd ps []
structure Dfn (K:aW) (mg:ai->aq av) (x:ai) (st:Stmt):Prop where
 ex:∃f fd,Fun K x x st f fd/\mg x=aa (.ref f)
theorem rY {k:ao} (C:Cal Γ X.prog X.w X.K X.mg X.base x n k F) (hr:Room j X.A) (hk:k<=j) (hg:Gl X x) (ha:DA Γ X (e::es) fr) (hn:∀ρ ds,fr ρ=aa ds->ds.length=n)
  (hdb:.(s)=ar:=by decide) (he:aO (e::es) X.env=(ar,eval e X.env)::aO es X.env:=by rfl) (hpl:.(ae).any (·.1)=ar:=by rfl) :
  DE Γ X .(au) (cF F fr):=by
 obtain⟨f,fd,ps,h1,h2,h3,h4⟩:=C.ex;exact NH h1 (hr.mono hk) hg h2 h3 h4 ha hn hdb he hpl
theorem Dfn.cal {k:ao} (F:Dfn K mg x st) (S:FnScope N ps (aG st))
  (hb:∀(kV doc pm:av) (an:aq au) (cdv ct:av) (us:ac av),us.length=ps.length->gw .(bj) ⟨us,[]⟩=aZ (ps.zip us))
  (hbody:∀(f:au) (cdv:av) (A:cR) (outer:ac cG) (s:aI) (H:Hp) (E:XK),Room k (A.deeper (dI x (aG st) s.heap.objs.size f cdv))->
   DSs Γ (dX CX0 P w K mg base N x (aG st) f cdv A outer s H E).nox (cv st) g):Cal Γ P w K mg base x ps.length (k+1) (aT (N.length-ps.length) g):=by
 obtain⟨f,fd,h1,h2⟩:=F.ex;exact⟨f,fd,ps,h1.okD S (hbody f),h2,h1.kp,h1.binds hb⟩
theorem Dfn.mk' {h:Heap} {f:au} {kV:av} (X:K.In h) (G:h.Ns eX mg) (a:rN K eX x=aa (aa (.ref f)))
  (l:K.lookup f=aa ⟨oc,od,.func .(bj),osl⟩) (c:mI K cdv x=aj) (k:fP K (.ref f)=aj):Dfn K mg x st:=
 ⟨f,_,wk l c k,rO X G a⟩
noncomputable def t6 (names:ac (ai×ia)) (outer:ac (ai×ia)):aP:=
 names.all fun y=>y.2 != .cell && (y.2 != .local || names.lookup y.1==aa .local) && (y.2 != .free || outer.lookup y.1==aa .cell || outer.lookup y.1==aa .free)
theorem CompScope.of (hk:scope.kind=.function) (h:t6 scope.names X.env.scope.names=aj):CompScope X scope:=by
 unfold t6 at h;rw[ic] at h;refine⟨hk,fun y hy e=>?_,fun y hy e=>?_,fun y hy e=>?_⟩
 .have:=h y hy;rw[e] at this;simp at this
 .have:=h y hy;rw[e] at this;simpa using this
 .have:=h y hy;rw[e] at this;simpa[Env.kindOf] using this
noncomputable def sY (N':ac ai) (fv:ac (aq ao)) (N:ac ai) (outer names:ac (ai×ia)):aP:=
 fv.length==N'.length && (N'.zip fv).all fun y=>match y.2 with
  |none=>aj
  |some j=>N[j]?==aa y.1 && (outer.lookup y.1==aa .cell || outer.lookup y.1==aa .free) && names.lookup y.1==aa .free
theorem FvOk.of (h:sY N' fv X.N X.env.scope.names scope.names=aj):FvOk X N' scope fv:=by
 unfold sY at h;rw[fU,ic] at h;obtain⟨h1,h2⟩:=h;refine⟨by simpa using h1,fun i j x e1 e2=>?_⟩;have hm:(x,aa j)∈N'.zip fv:=by refine u8.mpr ⟨i,?_⟩;rw[List.getElem?_zip_eq_some];exact⟨e1,e2⟩
 have:=h2 _ hm;simp only[fU,S7,k0] at this;exact⟨this.1.1,this.1.2,this.2⟩
mutual
noncomputable def pdD:D->aq PyData
 |.non=>aa .none
 |.bl b=>aa (.bool b)
 |.int i=>aa (.int i)
 |.str x=>aa (.str x)
 |.tup l=>(em l).map PyData.tuple
 |.lst l=>(em l).map PyData.list
 |.scr ns=>aa (.list (ns.map Fi))
 |_=>af
noncomputable def em:ac D->aq (ac PyData)
 |[]=>aa []
 |d::r=>(pdD d).bind fun p=>(em r).map (p::·)
end
theorem PP {h:Heap} :∀{ns:ac ah} {us:ac av},bi (ns.map V.int) us->∃as,Fj h us (ns.map Fi) as:=by
 intro xs0
 induction xs0 with
 |nil=>
  intro _ r;rw[qP] at r;cases r;exact⟨_,.nil⟩
 |cons n ns ih=>
  intro _ r;rw[qm] at r;cases r with
  |cons r1 r2=>
   obtain⟨t,e⟩:=r1;subst e;obtain⟨as,q⟩:=ih r2;exact⟨_,.cons (.int n t) q⟩
theorem Rep.reads (I:Inv X pins σ H s) (gh:ba G H) {p:PyData} (r:Rep Γ X.K G v d):bu v u->pdD d=aa p->∃as,Reads s.heap u p as:=by
 refine r.rec (motive_1:=fun v d _=>∀u p,bu v u->pdD d=aa p->∃as,Reads s.heap u p as) (motive_2:=fun vs ds _=>∀us ps,bi vs us->em ds=aa ps->∃as,Fj s.heap us ps as) ?_ ?_ ?_ ?_ ?_ ?_ ?_ ?_ ?_ ?_ ?_ ?_ ?_ ?_ u p
 .intro u p r h;cases r;rw[pdD] at h;cases h;exact⟨_,.none⟩
 .intro b u p r h;cases r;rw[pdD] at h;cases h;exact⟨_,.bool b⟩
 .intro i u p r h;obtain⟨t,rfl⟩:=r;rw[pdD] at h;cases h;exact⟨_,.int i t⟩
 .intro x u p r h;obtain⟨t,rfl⟩:=r;rw[pdD] at h;cases h;exact⟨_,.str x t⟩
 .intro n u p r h;rw[pdD] at h;cases h;all_goals (intros;contradiction)
 .intro a vs ds ha _ i u p r h;cases r;rw[pdD] at h;obtain⟨ps,hp,rfl⟩:=oMd h;obtain⟨its,rv,⟨o,e1,e2,n,e3⟩,_⟩:=I.tuple (.inl .(bn));obtain⟨as,q⟩:=i _ _ rv hp;exact⟨_,.tuple e1 e2 e3 (by simpa using q)⟩
 .intro a vs ds ha _ i u p r h;cases r;rw[pdD] at h;obtain⟨ps,hp,rfl⟩:=oMd h;obtain⟨its,rv,⟨o,n,e1,e2,_,e3⟩,_⟩:=I.list (.inl .(bn));obtain⟨as,q⟩:=i _ _ rv hp;exact⟨_,.list e1 e2 e3 (by simpa using q)⟩
 .intro a ns hs u p r h;cases r;rw[pdD] at h;cases h;obtain⟨its,rv,⟨o,n,e1,e2,_,e3⟩,_⟩:=I.list (gh.seq hs);obtain⟨as,q⟩:=PP (h:=s.heap) rv;exact⟨_,.list e1 e2 e3 (by simpa using q)⟩
 iterate 4
  .intros
   rename_i h;rw[pdD] at h;cases h;all_goals (intros;contradiction)
 .intro us ps r h;cases r;rw[em] at h;cases h;exact⟨_,.nil⟩
 .intro v d vs ds _ _ i1 i2 us ps r h;cases r with
  |cons q1 q2=>
   rw[em] at h;obtain⟨p,hp,h⟩:=oBd h;obtain⟨ps,hps,rfl⟩:=oMd h;obtain⟨as,a1⟩:=i1 _ _ q1 hp;obtain⟨bs,a2⟩:=i2 _ _ q2 hps;exact⟨_,.cons a1 a2⟩
theorem Reps.reads (I:Inv X pins σ H s) (gh:ba G H):∀{vs:ac V} {ds:ac D} {us:ac av} {ps:ac PyData},Reps Γ X.K G vs ds->bi vs us->em ds=aa ps->∃as,Fj s.heap us ps as
 |_,_,_,_,.nil,r,h=>by cases r;rw[em] at h;cases h;exact⟨_,.nil⟩
 |_,_,_,_,.cons r1 r2,r,h=>by
  cases r with
  |cons q1 q2=>
   rw[em] at h;obtain⟨p,hp,h⟩:=oBd h;obtain⟨ps,hps,rfl⟩:=oMd h;obtain⟨as,a1⟩:=Rep.reads I gh r1 q1 hp;obtain⟨bs,a2⟩:=Reps.reads I gh r2 q2 hps;exact⟨_,.cons a1 a2⟩
section
variable {a c:Expr}
noncomputable def eqX (x y:D):aq aP:=(pdD x).bind fun p=>(pdD y).bind fun q=>if fV p=aj/\fV q=aj then aa (eZ p q) else af
def jR (x y:D):aq D:=(eqX x y).map D.bl
def pI (x y:D):aq D:=(eqX x y).map fun b=>D.bl (!b)
def rX (Γ:Cn) (K:aW) (neg:aP):R2:=fun x y H Q=>∃G d e b,ba G H/\Rep Γ K G x d/\Rep Γ K G y e/\eqX d e=aa b/\Q (.bl (if neg then !b else b)) H
theorem Aw {x y:D} {b:aP} (h:eqX x y=aa b):∃p q,pdD x=aa p/\pdD y=aa q/\fV p=aj/\fV q=aj/\b=eZ p q:=by
 unfold eqX at h;obtain⟨p,hp,h⟩:=oBd h;obtain⟨q,hq,h⟩:=oBd h;split at h
 .rename_i hz;cases h;exact⟨p,q,hp,hq,hz.1,hz.2,rfl⟩
 .cases h
theorem Kp (hu:X.A.units+64<cg):OpR X (dB .Eq) (rX Γ X.K ar):=by intro pins s σ H x y v u Q I rx ry h;obtain⟨G,d,e,b,gh,r1,r2,hb,q⟩:=h;obtain⟨p,q',hp,hq,s1,s2,rfl⟩:=Aw hb;obtain⟨as,a1⟩:=r1.reads I gh rx hp;obtain⟨bs,a2⟩:=r2.reads I gh ry hq;exact eq_dataH a1 a2 s1 s2 hu ⟨.bl _,H,I,rfl,q⟩
theorem KC (hu:X.A.units+64<cg):OpR X (dB .NotEq) (rX Γ X.K aj):=by intro pins s σ H x y v u Q I rx ry h;obtain⟨G,d,e,b,gh,r1,r2,hb,q⟩:=h;obtain⟨p,q',hp,hq,s1,s2,rfl⟩:=Aw hb;obtain⟨as,a1⟩:=r1.reads I gh rx hp;obtain⟨bs,a2⟩:=r2.reads I gh ry hq;exact ne_dataH a1 a2 s1 s2 hu ⟨.bl _,H,I,rfl,q⟩
theorem J' (hu:X.A.units+64<cg):CmpD Γ X .Eq jR:=⟨_,Kp (Γ:=Γ) hu,fun {G H v u x y z} gh r1 r2 h Q k=>by unfold jR at h;obtain⟨b,hb,rfl⟩:=oMd h;exact⟨G,x,y,b,gh,r1,r2,hb,k _ G H .(aL) (.bl _)⟩⟩
theorem P2 (hu:X.A.units+64<cg):CmpD Γ X .NotEq pI:=⟨_,KC (Γ:=Γ) hu,fun {G H v u x y z} gh r1 r2 h Q k=>by unfold pI at h;obtain⟨b,hb,rfl⟩:=oMd h;exact⟨G,x,y,b,gh,r1,r2,hb,k _ G H .(aL) (.bl _)⟩⟩
noncomputable def inX (x y:D):aq aP:=(pdD x).bind fun p=>(pdD y).bind fun q=>match q with
 |.list l=>if fV p=aj/\lv l=aj then aa (l.any fun z=>eZ z p) else af
 |_=>af
def f9 (x y:D):aq D:=(inX x y).map D.bl
def o9 (x y:D):aq D:=(inX x y).map fun b=>D.bl (!b)
def C5 (Γ:Cn) (K:aW) (neg:aP):R2:=fun x y H Q=>∃G d e b,ba G H/\Rep Γ K G x d/\Rep Γ K G y e/\inX d e=aa b/\Q (.bl (if neg then !b else b)) H
theorem Em {x y:D} {b:aP} (h:inX x y=aa b):∃p l,pdD x=aa p/\pdD y=aa (.list l)/\fV p=aj/\lv l=aj/\b=l.any fun z=>eZ z p:=by
 unfold inX at h;obtain⟨p,hp,h⟩:=oBd h;obtain⟨q,hq,h⟩:=oBd h;split at h
 .split at h
  .rename_i hz;cases h;exact⟨p,_,hp,hq,hz.1,hz.2,rfl⟩
  .cases h
 .cases h
theorem zL {p:PyData} (h:fV p=aj):p.canLay0=aj/\p.depth<=64:=by unfold fV at h;rw[fU] at h;exact⟨h.1,dh h.2⟩
theorem Mh (hu:X.A.units+66<cg):OpR X (dB .In) (C5 Γ X.K ar):=by intro pins s σ H x y v u Q I rx ry h;obtain⟨G,d,e,b,gh,r1,r2,hb,q⟩:=h;obtain⟨p,l,hp,hq,s1,s2,rfl⟩:=Em hb;obtain⟨as,a1⟩:=r1.reads I gh rx hp;obtain⟨bs,a2⟩:=r2.reads I gh ry hq;obtain⟨c1,c2⟩:=zL s1;have:=EZ (lw l) p.depth;exact SeqAt.in_list_reads a2 a1 s2 c1 .(b) ⟨.bl _,H,I,rfl,q⟩
theorem Pf (hu:X.A.units+66<cg):OpR X (dB .NotIn) (C5 Γ X.K aj):=by intro pins s σ H x y v u Q I rx ry h;obtain⟨G,d,e,b,gh,r1,r2,hb,q⟩:=h;obtain⟨p,l,hp,hq,s1,s2,rfl⟩:=Em hb;obtain⟨as,a1⟩:=r1.reads I gh rx hp;obtain⟨bs,a2⟩:=r2.reads I gh ry hq;obtain⟨c1,c2⟩:=zL s1;have:=EZ (lw l) p.depth;exact SeqAt.notIn_list_reads a2 a1 s2 c1 .(b) ⟨.bl _,H,I,rfl,q⟩
theorem zN (hu:X.A.units+66<cg):CmpD Γ X .In f9:=⟨_,Mh (Γ:=Γ) hu,fun {G H v u x y z} gh r1 r2 h Q k=>by unfold f9 at h;obtain⟨b,hb,rfl⟩:=oMd h;exact⟨G,x,y,b,gh,r1,r2,hb,k _ G H .(aL) (.bl _)⟩⟩
theorem Er (hu:X.A.units+66<cg):CmpD Γ X .NotIn o9:=⟨_,Pf (Γ:=Γ) hu,fun {G H v u x y z} gh r1 r2 h Q k=>by unfold o9 at h;obtain⟨b,hb,rfl⟩:=oMd h;exact⟨G,x,y,b,gh,r1,r2,hb,k _ G H .(aL) (.bl _)⟩⟩
theorem cq {k:ao} (hr:Room k X.A):X.A.units+66<cg:=by have:=hr.un;omega
theorem lX {k:ao} (hr:Room k X.A):X.A.units+64<cg:=by have:=hr.un;omega
noncomputable def sk (d:D):aP:=match d with
 |.non=>aj
 |_=>ar
def isD (x y:D):aq D:=match y with
 |.non=>aa (.bl (sk x))
 |_=>af
def e6 (x y:D):aq D:=match y with
 |.non=>aa (.bl (!sk x))
 |_=>af
theorem AA (r:Rep Γ K G v d):decide (v=.non)=sk d:=by cases r<;>simp[sk]
theorem Dt:CmpD Γ X .Is isD:=⟨_,Gs,fun {G H v u x y z} gh r1 r2 h Q k=>by unfold isD at h;split at h<;>cases h;exact⟨r2.non_inv,by rw[AA r1];exact k _ G H .(aL) (.bl _)⟩⟩
theorem zW:CmpD Γ X .IsNot e6:=⟨_,JX,fun {G H v u x y z} gh r1 r2 h Q k=>by unfold e6 at h;split at h<;>cases h;exact⟨r2.non_inv,by rw[AA r1];exact k _ G H .(aL) (.bl _)⟩⟩
end
variable {fx:FE}
section
variable {a c o i:Expr}
noncomputable def bwT (i:ao) (ft:FT):FT:=fun ρ=>match ρ[i]? with
 |some (aa (.own ds))=>ft (ρ.set i (aa (.sh (.lst ds))))
 |_=>af
theorem Step.back (gh:ba G H) (s1:ba G G1) (s:Step G1 H G' H'):Step G H G H':=⟨s.hh,.refl _,(s1.trans s.gg).trans s.gh,fun _ _ _ _=>rfl⟩
theorem AL (i:ao) (h:DT Γ X c ft):DT Γ X c (bwT i ft):=⟨h.1.imp fun σ H Q=>by
 rintro⟨G₀,H₀,G,ρ,b,A,h,k⟩;unfold bwT at h;split at h
 .rename_i ds hi;obtain⟨G1,sm,A1⟩:=A.freeze hi;exact⟨G₀,H₀,G1,_,b,A1,h,fun G' H' s=>k G H' (s.back A.gh sm)⟩
 .cases h⟩
theorem Rep.flat (r:Rep Γ K G v d) (h:gr d=aj):Rep Γ K G' v d:=by
 cases r with
 |non=>exact .non
 |bl b=>exact .bl b
 |int i=>exact .int i
 |str x=>exact .str x
 |_=>cases h
noncomputable def eP (i:ao) (f:FE):FS:=fun ρ=>match ρ[i]? with
 |some (aa (.own ds))=>(f ρ).bind fun d=>match d with
  |.lst l=>if ds.length+l.length<=aH then aa (.nx,ρ.set i (aa (.own (ds++l)))) else af
  |_=>af
 |_=>af
theorem pc (i:ao) (h:DE Γ X e f) (hN:X.N[i]?=aa x:=by rfl) (hv:Vis X.env.scope x:=by ac_nf) (hd:.(s)=ar:=by decide)
  (hcd:.(M)=ar:=by decide)
  (hbase:je .(Q) "extend" X.env (eval .(Q) X.env)=eval .(Q) X.env:=by rfl)
  (hfew:((bV cpos (aO [e] X.env)).all (fun x=>!x.1) && (jW cpos (jX [] X.env)).all (fun x=>x.1.isSome)
   && decide ([e].length+([]:ac jY).length+(if ([]:ac jY).isEmpty then 0 else 1)<30))=aj:=by rfl)
  (hline:(apos.endLine==cpos.line)=aj:=by rfl) (hs:aO [e] X.env=(ar,eval e X.env)::aO [] X.env:=by rfl) (hplain:(bV cpos (aO [] X.env)).any (·.1)=ar:=by rfl)
  (hsw:dH (.Call (.Attribute .(Q) "extend" apos) [e] [] cpos) af pos.line X.env=aZ ar:=by rfl) :
  DS Γ X (.Expr (.Call (.Attribute .(Q) "extend" apos) [e] [] cpos) pos) (eP i f):=⟨(yg (vB S8 SN PySem.F.type_list_extend RW .(aP) (iH h.1 jx hs) hbase hfew hline hs hplain) hsw).imp fun E σ H=>by
  rintro⟨G₀,H₀,G,ρ,fl,ρ',A,h,k⟩;unfold eP at h;split at h
  .rename_i ds hi;obtain⟨d,hd,h⟩:=oBd h;split at h
   .rename_i l;split at h
    .rename_i hz;cases h;obtain⟨a,vs,h1,h2,h3,h4,h5⟩:=A.env.own i ds hi;refine⟨.ref a,h1,.inl ⟨rfl,vs,.inl (.inl h4)⟩,G₀,H₀,G,ρ,_,A,hd,fun v G1 H1 s1 r1=>?_⟩;have A1:=A.step s1;obtain⟨b,us,rfl,hb,rb⟩:=r1.lst_inv;refine⟨a,b,vs,us,rfl,rfl,s1.hh _ _ h4,s1.gh _ _ hb,by rw[h5.length,rb.length];exact hz,?_⟩;exact k σ G1 _ s1.gg (A1.chOwn hi h1 ((h5.mono s1.gg).append rb))
    .cases h
   .cases h
  .cases h⟩
noncomputable def sA:ac D->aq D
 |[.int i]=>aa (.int i)
 |[.bl k]=>aa (.int (if k then 1 else 0))
 |_=>af
theorem AR:TyD Γ X "int" sA:=⟨_,RF,fun {G H vs ds z} gh r h Q k=>by
 unfold sA at h;split at h<;>cases h
 .obtain⟨v,rfl,r1⟩:=r.one;cases r1.int_inv;exact .inl ⟨_,rfl,k _ G H .(aL) (.int _)⟩
 .obtain⟨v,rfl,r1⟩:=r.one;cases r1.bl_inv;exact .inr ⟨_,rfl,k _ G H .(aL) (.int _)⟩⟩
noncomputable def we:ac D->aq D
 |[.lst l]=>aa (.tup l)
 |[.tup l]=>aa (.tup l)
 |_=>af
theorem QV:TyD Γ X "tuple" we:=⟨_,Gb,fun {G H vs ds z} gh r h Q k=>by
 unfold we at h;split at h<;>cases h
 .obtain⟨v,rfl,r1⟩:=r.one;obtain⟨a,us,rfl,ha,ra⟩:=r1.lst_inv;exact⟨a,us,rfl,.inl ⟨.inl .(bn),tj gh ra k⟩⟩
 .obtain⟨v,rfl,r1⟩:=r.one;obtain⟨a,us,rfl,ha,ra⟩:=r1.tup_inv;exact⟨a,us,rfl,.inr ⟨.inl .(bn),k _ G H .(aL) (.tup ha ra)⟩⟩⟩
noncomputable def vZ:ac D->aq D
 |[.lst l]=>aa (.lst l)
 |[.tup l]=>aa (.lst l)
 |[.scr l]=>aa (.lst (l.map D.int))
 |_=>af
theorem K':TyD Γ X "list" vZ:=⟨_,IX,fun {G H vs ds z} gh r h Q k=>by
 unfold vZ at h;split at h<;>cases h
 .obtain⟨v,rfl,r1⟩:=r.one;obtain⟨a,us,rfl,ha,ra⟩:=r1.lst_inv;exact⟨a,us,rfl,.inl (.inl .(bn)),il gh ra k⟩
 .obtain⟨v,rfl,r1⟩:=r.one;obtain⟨a,us,rfl,ha,ra⟩:=r1.tup_inv;exact⟨a,us,rfl,.inr (.inl .(bn)),il gh ra k⟩
 .obtain⟨v,rfl,r1⟩:=r.one;obtain⟨a,rfl,ha⟩:=r1.scr_inv;exact⟨a,_,rfl,.inl (gh.seq ha),il gh (Reps.ints _) k⟩⟩
noncomputable def bc [dG κ] (kvs:ac (κ×α)) (k:κ):aq α:=(kvs.find? fun kv=>decide (kv.1=k)).map (·.2)
noncomputable def bW [dG κ] (kvs:ac (κ×α)) (k:κ) (v:α):ac (κ×α):=
 if (kvs.any fun kv=>decide (kv.1=k))=aj then kvs.map (fun kv=>if kv.1=k then (kv.1,v) else kv) else kvs++[(k,v)]
theorem nC {κ:Type} [dG κ] {K:aW} {G:Hp} {k:κ}:∀{us:ac (κ×V)} {kvs:ac (κ×D)},us.map (·.1)=kvs.map (·.1)->Reps Γ K G (us.map (·.2)) (kvs.map (·.2))->
  (bc kvs k=af/\fY us k=af)\/∃d v,bc kvs k=aa d/\fY us k=aa v/\Rep Γ K G v d
 |[],[],_,_=>.inl ⟨rfl,rfl⟩
 |[],_::_,e,_=>by cases e
 |_::_,[],e,_=>by cases e
 |(k1,v)::us,(k2,d)::kvs,e,r=>by
  have e1:k1=k2:=(fW e).1;have e2:us.map (·.1)=kvs.map (·.1):=(fW e).2;subst e1;have r:Reps Γ K G (v::us.map (·.2)) (d::kvs.map (·.2)):=r;cases r with
  |cons r1 r2=>
   by_cases h:k1=k
   .exact .inr ⟨d,v,by simp[bc,fB,h],t4 h,r1⟩
   .have:=nC (k:=k) e2 r2;rw[ut (p:=(k1,v)) h];simpa[bc,fB,h] using this
theorem Bf {κ:Type} [dG κ] {k:κ} {α β:Type}:∀{us:ac (κ×α)} {kvs:ac (κ×β)},us.map (·.1)=kvs.map (·.1)->(us.any fun kv=>decide (kv.1=k))=(kvs.any fun kv=>decide (kv.1=k))
 |[],[],_=>rfl
 |[],_::_,e=>by cases e
 |_::_,[],e=>by cases e
 |(k1,v)::us,(k2,d)::kvs,e=>by have e1:k1=k2:=(fW e).1;subst e1;rw[jZ,jZ,Bf (us:=us) (kvs:=kvs) (fW e).2]
theorem Cc {κ:Type} [dG κ] {K:aW} {G:Hp} {k:κ} {v:V} {d:D} (rv:Rep Γ K G v d):∀{us:ac (κ×V)} {kvs:ac (κ×D)},us.map (·.1)=kvs.map (·.1)->Reps Γ K G (us.map (·.2)) (kvs.map (·.2))->
  (us.map fun kv=>if kv.1=k then (kv.1,v) else kv).map (·.1)=(kvs.map fun kv=>if kv.1=k then (kv.1,d) else kv).map (·.1)/\Reps Γ K G ((us.map fun kv=>if kv.1=k then (kv.1,v) else kv).map (·.2)) ((kvs.map fun kv=>if kv.1=k then (kv.1,d) else kv).map (·.2))
 |[],[],_,_=>⟨rfl,.nil⟩
 |[],_::_,e,_=>by cases e
 |_::_,[],e,_=>by cases e
 |(k1,u)::us,(k2,x)::kvs,e,r=>by
  have e1:k1=k2:=(fW e).1;have e2:us.map (·.1)=kvs.map (·.1):=(fW e).2;subst e1;have r:Reps Γ K G (u::us.map (·.2)) (x::kvs.map (·.2)):=r;cases r with
  |cons r1 r2=>
   obtain⟨h1,h2⟩:=Cc (k:=k) rv e2 r2;by_cases h:k1=k
   .subst h;simp only[qm,cy];exact⟨by rw[h1],.cons rv h2⟩
   .simp only[qm,qY h];exact⟨by rw[h1],.cons r1 h2⟩
theorem mf [dG κ] {k:κ} (rv:Rep Γ K G v d) {us:ac (κ×V)} {kvs:ac (κ×D)} (e:us.map (·.1)=kvs.map (·.1)) (r:Reps Γ K G (us.map (·.2)) (kvs.map (·.2))) :
  (putK us k v).map (·.1)=(bW kvs k d).map (·.1)/\Reps Γ K G ((putK us k v).map (·.2)) ((bW kvs k d).map (·.2)):=by
 unfold putK bW;rw[Bf (k:=k) e];split
 .exact Cc rv e r
 .simp only[dZ,qm,qP];exact⟨by rw[e],r.append (.cons rv .nil)⟩
noncomputable def fS:D->aq Key
 |.int i=>aa (.inl i)
 |.str x=>aa (.inr x)
 |_=>af
noncomputable def eE:ac D->aq (ac Key)
 |[]=>aa []
 |d::r=>(fS d).bind fun k=>(eE r).map (k::·)
theorem jz {k:Key} (r:Rep Γ K G v d) (h:fS d=aa k):v=kV k:=by
 unfold fS at h;split at h<;>cases h
 .exact r.int_inv
 .exact r.str_inv
theorem jP {K:aW} {G:Hp}:∀{vs:ac V} {ds:ac D} {ks:ac Key},Reps Γ K G vs ds->eE ds=aa ks->vs=ks.map kV
 |_,[],ks,r,h=>by cases r;cases h;rfl
 |_,d::ds,ks,.cons h1 h2,h=>by unfold eE at h;obtain⟨k,hk,h⟩:=oBd h;obtain⟨zs,hz,rfl⟩:=oMd h;rw[jz h1 hk,jP h2 hz];rfl
def jC (d k:D):aq (aq D):=match d,k with
 |.dk l,k=>(fS k).map (bc l)
 |.dt l,.tup t=>(eE t).map (bc l)
 |.fdt l,.tup t=>(eE t).map (bc l)
 |_,_=>af
theorem Lu {k:D} {r:aq D} (gh:ba G H) (rv:Rep Γ K G v d) (h:jC d k=aa r):∃a,v=.ref a/\IsD H a:=by
 unfold jC at h;split at h
 .cases rv with
  |dk h _ _=>exact⟨_,rfl,.inl ⟨_,.inl (gh _ _ h)⟩⟩
 .cases rv with
  |dt h _ _=>exact⟨_,rfl,.inr ⟨_,.inl (gh _ _ h)⟩⟩
 .cases rv with
  |fdt h _ _=>exact⟨_,rfl,.inr ⟨_,.inr ⟨_,gh _ _ h⟩⟩⟩
 .cases h
theorem uc {k:D} {r:aq D} (gh:ba G H) (rv:Rep Γ K G v d) (ry:Rep Γ K G y k) (h:jC d k=aa r) :
  ∃a o,v=.ref a/\gk H a y o/\((r=af/\o=af)\/∃w z,r=aa z/\o=aa w/\Rep Γ K G w z):=by
 unfold jC at h;split at h
 .obtain⟨kk,hk,rfl⟩:=oMd h;cases rv with
  |dk h1 h2 h3=>
   have ey:=jz ry hk;subst ey;refine⟨_,_,rfl,gk.k (gh _ _ h1),?_⟩;rcases nC (k:=kk) h2 h3 with⟨q1,q2⟩|⟨z,w,q1,q2,q3⟩
   .exact .inl ⟨q1,q2⟩
   .exact .inr ⟨w,z,q1,q2,q3⟩
 .obtain⟨kk,hk,rfl⟩:=oMd h;cases rv with
  |dt h1 h2 h3=>
   obtain⟨b,ys,rfl,hb,rb⟩:=ry.tup_inv;have ey:=jP rb hk;subst ey;refine⟨_,_,rfl,gk.t (gh _ _ h1) (gh _ _ hb),?_⟩;rcases nC (k:=kk) h2 h3 with⟨q1,q2⟩|⟨z,w,q1,q2,q3⟩
   .exact .inl ⟨q1,q2⟩
   .exact .inr ⟨w,z,q1,q2,q3⟩
 .obtain⟨kk,hk,rfl⟩:=oMd h;cases rv with
  |fdt h1 h2 h3=>
   obtain⟨b,ys,rfl,hb,rb⟩:=ry.tup_inv;have ey:=jP rb hk;subst ey;refine⟨_,_,rfl,.inr ⟨_,kk,_,.inr ⟨_,gh _ _ h1⟩,rfl,gh _ _ hb,rfl⟩,?_⟩;rcases nC (k:=kk) h2 h3 with⟨q1,q2⟩|⟨z,w,q1,q2,q3⟩
   .exact .inl ⟨q1,q2⟩
   .exact .inr ⟨w,z,q1,q2,q3⟩
 .cases h
def bN (d k:D):aq D:=(jC d k).bind id
theorem Qw (hu:X.A.units+66<cg) (ho:DE Γ X o fo) (hi:DE Γ X i fi') (hs:tZ i:=by intro _ _;rfl):DE Γ X (.Subscript o i pos) (b2 bN fo fi'):=⟨(DH .(b) ho.1 hi.1 hs).imp fun σ H Q=>by
 rintro⟨G₀,H₀,G,ρ,d,A,h,k⟩;unfold b2 at h;obtain⟨x,hx,h⟩:=oBd h;obtain⟨y,hy,h⟩:=oBd h;refine⟨G₀,H₀,G,ρ,x,A,hx,fun v G1 H1 s1 r1=>⟨G₀,H₀,G1,ρ,y,A.step s1,hy,fun u G2 H2 s2 r2=>?_⟩⟩;unfold bN at h;obtain⟨r,hr,h⟩:=oBd h;obtain⟨a,ov,rfl,hg,hc⟩:=uc s2.gh (r1.mono s2.gg) r2 hr;rcases hc with⟨rfl,_⟩|⟨w,z,rfl,rfl,rw'⟩
 .cases h
 .cases h;exact⟨a,w,rfl,hg,k w G2 H2 (s1.trans s2) rw'⟩⟩
def lK (d k:D):aq D:=(jC d k).map fun r=>r.getD .non
theorem vG (hu:X.A.units+66<cg) (ho:DE Γ X o fo) (he:DE Γ X e f) (m:M1 X o "get" apos e cpos:=by exact⟨rfl,rfl,rfl,rfl⟩):DE Γ X (.Call (.Attribute o "get" apos) [e] [] cpos) (b2 lK fo f):=⟨(CG .(b) ho.1 he.1 m).imp fun σ H Q=>by
 rintro⟨G₀,H₀,G,ρ,d,A,h,k⟩;unfold b2 at h;obtain⟨x,hx,h⟩:=oBd h;obtain⟨y,hy,h⟩:=oBd h;unfold lK at h;obtain⟨r,hr,rfl⟩:=oMd h;refine⟨G₀,H₀,G,ρ,x,A,hx,fun v G1 H1 s1 r1=>?_⟩;obtain⟨a0,e0,d0⟩:=Lu s1.gh r1 hr;refine⟨a0,e0,d0,G₀,H₀,G1,ρ,y,A.step s1,hy,fun u G2 H2 s2 r2=>?_⟩;obtain⟨a,ov,e1,hg,hc⟩:=uc s2.gh (r1.mono s2.gg) r2 hr;subst e0;cases e1;rcases hc with⟨rfl,rfl⟩|⟨w,z,rfl,rfl,rw'⟩
 .exact⟨af,hg,k _ G2 H2 (s1.trans s2) .non⟩
 .exact⟨aa w,hg,k w G2 H2 (s1.trans s2) rw'⟩⟩
noncomputable def b3 (g:D->D->D->aq D) (fa fb fc:FE):FE:=fun ρ=>(fa ρ).bind fun x=>(fb ρ).bind fun y=>(fc ρ).bind fun z=>g x y z
def m5 (k d:D):aq D:=(jC d k).map fun r=>.bl r.isSome
def xb (k d:D):aq D:=(jC d k).map fun r=>.bl (!r.isSome)
def BJ (Γ:Cn) (K:aW) (neg:aP):R2:=fun y x H Q=>∃G k d r,ba G H/\Rep Γ K G y k/\Rep Γ K G x d/\jC d k=aa r/\Q (.bl (if neg then !r.isSome else r.isSome)) H
theorem Ke (hu:X.A.units+66<cg):OpR X (dB .In) (BJ Γ X.K ar):=by
 intro pins s σ H x y v u Q I rx ry h;obtain⟨G,kd,d,r,gh,r1,r2,hr,q⟩:=h;obtain⟨a,ov,rfl,hg,hc⟩:=uc gh r2 r1 hr;cases ry;have e:ov.isSome=r.isSome:=by rcases hc with⟨rfl,rfl⟩|⟨w,z,rfl,rfl,_⟩<;>rfl
 exact Nf .(b) I hg rx fun s3 I3=>⟨.bl _,H,I3,rfl,by rw[e];exact q⟩
theorem N9 (hu:X.A.units+66<cg):OpR X (dB .NotIn) (BJ Γ X.K aj):=by
 intro pins s σ H x y v u Q I rx ry h;obtain⟨G,kd,d,r,gh,r1,r2,hr,q⟩:=h;obtain⟨a,ov,rfl,hg,hc⟩:=uc gh r2 r1 hr;cases ry;have e:ov.isSome=r.isSome:=by rcases hc with⟨rfl,rfl⟩|⟨w,z,rfl,rfl,_⟩<;>rfl
 exact Hq .(b) I hg rx fun s3 I3=>⟨.bl _,H,I3,rfl,by rw[e];exact q⟩
theorem BK (hu:X.A.units+66<cg):CmpD Γ X .In m5:=⟨_,Ke (Γ:=Γ) hu,fun {G H v u x y z} gh r1 r2 h Q k=>by unfold m5 at h;obtain⟨r,hr,rfl⟩:=oMd h;exact⟨G,x,y,r,gh,r1,r2,hr,k _ G H .(aL) (.bl _)⟩⟩
theorem Rh (hu:X.A.units+66<cg):CmpD Γ X .NotIn xb:=⟨_,N9 (Γ:=Γ) hu,fun {G H v u x y z} gh r1 r2 h Q k=>by unfold xb at h;obtain⟨r,hr,rfl⟩:=oMd h;exact⟨G,x,y,r,gh,r1,r2,hr,k _ G H .(aL) (.bl _)⟩⟩
noncomputable def sNo:FS:=fun _=>af
theorem J8 :DS Γ X st sNo:=⟨fun pins s σ H E I q=>by obtain⟨G₀,H₀,G,ρ,fl,ρ',A,h,k⟩:=q;cases h⟩
end
structure CF (Γ:Cn) (K:aW) (c:ai) (attrs:ac ai):Prop where
 ex:∃C,Γ.cls c=aa C/\Cls K C/\∀f∈attrs,km K C f
variable {attrs:ac ai} {dp ap:dq} {ke:Expr}
section
variable {a c o i:Expr} {fv:FE} {cl fl n:ai}
theorem jv {K:aW} {G:Hp} {k:ai}:∀{us:ac (ai×V)} {fs:ac (ai×D)},us.map (·.1)=fs.map (·.1)->Reps Γ K G (us.map (·.2)) (fs.map (·.2))->
  (fs.lookup k=af/\us.lookup k=af)\/∃d v,fs.lookup k=aa d/\us.lookup k=aa v/\Rep Γ K G v d
 |[],[],_,_=>.inl ⟨rfl,rfl⟩
 |[],_::_,e,_=>by cases e
 |_::_,[],e,_=>by cases e
 |(k1,v)::us,(k2,d)::fs,e,r=>by
  have e1:k1=k2:=(fW e).1;have e2:us.map (·.1)=fs.map (·.1):=(fW e).2;subst e1;have r:Reps Γ K G (v::us.map (·.2)) (d::fs.map (·.2)):=r;cases r with
  |cons r1 r2=>
   by_cases h:k=k1
   .subst h;exact .inr ⟨d,v,by simp[cX],by simp[cX],r1⟩
   .have hb:(k==k1)=ar:=by simpa using h
    have:=jv (k:=k) e2 r2;simpa[cX,hb] using this
theorem p9 {f:ai} :∀{fs:ac (ai×V)},fs.lookup f=af->eN f v fs=fs++[(f,v)]:=by
 intro xs0
 induction xs0 with
 |nil=>
  intro _;exact rfl
 |cons x0 r ih=>
  obtain⟨g,x⟩:=x0;intro h;by_cases e:f=g
  .subst e;simp[cX] at h
  .have hb:(f==g)=ar:=by simpa using e
   rw[eN,qY (fun z=>e z.symm),ih (by simpa[cX,hb] using h)];rfl
noncomputable def zA (c f:ai):D->aq D
 |.ins c' fs=>if c'=c then fs.lookup f else af
 |_=>af
def bC (c f:ai) (fo:FE):FE:=fun ρ=>(fo ρ).bind (zA c f)
theorem Mg (hc:CF Γ X.K cl attrs) (hf:fl∈attrs) (ho:DE Γ X o fo) (hb:je o fl X.env (eval o X.env)=eval o X.env:=by rfl):DE Γ X (.Attribute o fl pos) (bC cl fl fo):=⟨(sq ho.1 hb).imp fun σ H Q=>by
 rintro⟨G₀,H₀,G,ρ,d,A,h,k⟩;unfold bC at h;obtain⟨x,hx,hq⟩:=oBd h;clear h;refine⟨G₀,H₀,G,ρ,x,A,hx,fun v G1 H1 s1 r1=>?_⟩;unfold zA at hq;split at hq
 .split at hq
  .rename_i ec;subst ec;obtain⟨C,q1,q2,q3⟩:=hc.ex;cases r1 with
   |ins h1 h2 h3 h4=>
    rw[q1] at h2;cases h2;rcases jv (k:=fl) h3 h4 with⟨z1,_⟩|⟨d',v',z1,z2,z3⟩
    .rw[z1] at hq;cases hq
    .rw[z1] at hq;cases hq;exact⟨_,C,_,_,v',rfl,s1.gh _ _ h1,q2,q3 fl hf,z2,k v' G1 H1 s1 z3⟩
  .cases hq
 .cases hq⟩
noncomputable def CC (f:ai):Slot->aq D
 |.obj _ fs=>fs.lookup f
 |.objd _ fs n _=>if f=n then af else fs.lookup f
 |_=>af
noncomputable def Qf:Slot->aq ai
 |.obj c _=>aa c
 |.objd c _ _ _=>aa c
 |_=>af
def iS (c f:ai) (i:ao):FE:=fun ρ=>match ρ[i]? with
 |some (aa s)=>if Qf s=aa c then CC f s else af
 |_=>af
theorem JZ {vs:ac (ai×V)} {f:ai} {w:V} (h:vs.lookup f=aa v):(vs++[(n,w)]).lookup f=aa v:=by
 induction vs with
 |nil=>cases h
 |cons p r ih=>
  obtain⟨g,x⟩:=p;by_cases e:f=g
  .subst e;simpa[cX] using h
  .have hb:(f==g)=ar:=by simpa using e
   simp only[qp,cX,hb] at h ⊢;exact ih h
theorem tU (i:ao) (hc:CF Γ X.K cl attrs) (hf:fl∈attrs) (hN:X.N[i]?=aa x:=by rfl) (hv:Vis X.env.scope x:=by ac_nf) (hd:.(s)=ar:=by decide)
  (hcd:.(M)=ar:=by decide) (hb:je .(Q) fl X.env (eval .(Q) X.env)=eval .(Q) X.env:=by rfl):DE Γ X (.Attribute .(Q) fl pos) (iS cl fl i):=⟨(sq .(aP) hb).imp fun σ H Q=>by
 rintro⟨G₀,H₀,G,ρ,d,A,h,k⟩;unfold iS at h;split at h
 .rename_i s hi;split at h
  .rename_i hcl;obtain⟨C,q1,q2,q3⟩:=hc.ex;obtain⟨v,fp,h1,h2⟩:=A.get hi;cases h2 with
   |sh _=>cases h
   |own _ _ _ _=>cases h
   |odk _ _ _ _ _=>cases h
   |odt _ _ _ _ _=>cases h
   |fo _ _ _ _ _ _ _=>cases h
   |obj g1 g2 g3 g4 g5 g6 g7=>
    cases hcl;rw[q1] at g1;cases g1;have h:cX fl _=aa d:=h;rcases jv (k:=fl) g5 g6 with⟨z1,_⟩|⟨d',v',z1,z2,z3⟩
    .rw[z1] at h;cases h
    .rw[z1] at h;cases h;exact⟨_,h1,_,C,_,_,v',rfl,g4,q2,q3 fl hf,z2,k v' G H (.refl A.gh) z3⟩
   |objd g1 g2 g3 g4 g5 g6 _ _ _ _ _ g7=>
    cases hcl;rw[q1] at g1;cases g1;unfold CC at h;simp only at h;split at h
    .cases h
    .rcases jv (k:=fl) g5 g6 with⟨z1,_⟩|⟨d',v',z1,z2,z3⟩
     .rw[z1] at h;cases h
     .rw[z1] at h;cases h;exact⟨_,h1,_,C,_,_,v',rfl,g4,q2,q3 fl hf,JZ z2,k v' G H (.refl A.gh) z3⟩
  .cases h
 .cases h⟩
noncomputable def gj (c f:ai) (i:ao) (fv:FE):FS:=fun ρ=>(fv ρ).bind fun d=>match ρ[i]? with
 |some (aa (.obj c' fs))=>if c'=c/\fs.lookup f=af/\fs.length<100 then aa (.nx,ρ.set i (aa (.obj c (fs++[(f,d)])))) else af
 |_=>af
theorem iP (i:ao) (hc:CF Γ X.K cl attrs) (hf:fl∈attrs) (hv':DE Γ X value fv) (hN:X.N[i]?=aa x:=by rfl) (hv:Vis X.env.scope x:=by ac_nf) (hd:.(s)=ar:=by decide)
  (hcd:.(M)=ar:=by decide) (hs:dH value (aa (.Attribute .(Q) fl pos')) pos.line X.env=aZ ar:=by rfl):DS Γ X (.Assign [.Attribute .(Q) fl pos'] value pos) (gj cl fl i fv):=⟨(pD .(aP) hv'.1 hs).imp fun E σ H=>by
 rintro⟨G₀,H₀,G,ρ,flw,ρ',A,h,k⟩;unfold gj at h;obtain⟨d,hd,h⟩:=oBd h;split at h
 .rename_i c' fs hi;split at h
  .rename_i hz;obtain⟨rfl,hz2,hz3⟩:=hz;cases h;obtain⟨C,q1,q2,q3⟩:=hc.ex;refine⟨G₀,H₀,G,ρ,d,A,hd,fun v G1 H1 s1 r1=>?_⟩;have A1:=A.step s1;obtain⟨w,fp,h1,h2⟩:=A1.get hi;cases h2 with
   |obj g1 g2 g3 g4 g5 g6 g7=>
    rename_i a C' dx vs;have g1':=g1;rw[q1] at g1;cases g1;have hl:vs.lookup fl=af:=by
     rcases jv (k:=fl) g5 g6 with⟨_,z2⟩|⟨d',v',z1,_,_⟩
     .exact z2
     .rw[z1] at hz2;cases hz2
    have hlen:vs.length=fs.length:=by simpa using bU c8 g5
    refine⟨_,h1,a,C,dx,vs,rfl,g4,q2,q3 fl hf,by omega,?_⟩;rw[p9 hl];refine k σ G1 _ s1.gg (A1.ch hi h1 (.obj g1' g2 g3 g4 g5 g6 g7) (fun b o e hb=>?_) (.obj (vs:=vs++[(fl,v)]) g1' g2 g3 bj (by simp[g5]) (by simpa using g6.append (.cons r1 .nil)) g7) (fun b hb=>.inl hb) (.refl _) .(aX) .(aA))
    .rw[aF (fun z=>hb (bL.mpr z))];exact e
    .rw[aF (bD e g3)];exact A1.gh b o e
  .cases h
 .cases h⟩
noncomputable def nU (c f:ai) (i:ao):FS:=fun ρ=>match ρ[i]? with
 |some (aa (.obj c' fs))=>if c'=c/\fs.lookup f=af/\fs.length<100 then aa (.nx,ρ.set i (aa (.objd c fs f []))) else af
 |_=>af
theorem Nd (i:ao) (hc:CF Γ X.K cl attrs) (hf:fl∈attrs) (hN:X.N[i]?=aa x:=by rfl) (hv:Vis X.env.scope x:=by ac_nf) (hd:.(s)=ar:=by decide)
  (hcd:.(M)=ar:=by decide) (hs:dH (.Dict [] [] dp) (aa (.Attribute .(Q) fl pos')) pos.line X.env=aZ ar:=by rfl):DS Γ X (.Assign [.Attribute .(Q) fl pos'] (.Dict [] [] dp) pos) (nU cl fl i):=⟨(pD .(aP) w9 hs).imp fun E σ H=>by
 rintro⟨G₀,H₀,G,ρ,flw,ρ',A,h,k⟩ p hp;unfold nU at h;split at h
 .rename_i c' fs hi;split at h
  .rename_i hz;obtain⟨rfl,hz2,hz3⟩:=hz;cases h;obtain⟨C,q1,q2,q3⟩:=hc.ex;obtain⟨w,fp,h1,h2⟩:=A.get hi;cases h2 with
   |obj g1 g2 g3 g4 g5 g6 g7=>
    rename_i a C' dx vs;have g1':=g1;rw[q1] at g1;cases g1;have hl:vs.lookup fl=af:=by
     rcases jv (k:=fl) g5 g6 with⟨_,z2⟩|⟨d',v',z1,_,_⟩
     .exact z2
     .rw[z1] at hz2;cases hz2
    have hlen:vs.length=fs.length:=by simpa using bU c8 g5
    have npa:a≠p:=bD g4 hp;refine⟨_,h1,a,C,dx,vs,rfl,by rw[aF npa];exact g4,q2,q3 fl hf,by omega,?_⟩;rw[p9 hl];have hp0:H₀ p=af:=A.st.hh.free hp;have hpg:G p=af:=A.gh.free hp;refine k σ G _ (.refl _) (A.ch hi h1 (.obj g1' g2 g3 g4 g5 g6 g7) (fun b o e hb=>?_) (.objd (vs:=vs) (p:=p) (us:=[]) (kvs:=[]) g1' g2 g3 bj g5 g6 hp0 hpg (by rw[aF npa.symm,bj]) rfl .nil g7) (fun b hb=>?_) (.refl _) .(aX) .(aA))
    .rw[aF (fun z=>hb (bL.mpr z)),aF (bD e hp)];exact e
    .rcases cr.mp hb with rfl|hb
     .exact .inl (bL.mpr rfl)
     .rw[bL.mp hb];exact .inr hp
    .rw[aF (bD e g3),aF (bD e hpg)];exact A.gh b o e
  .cases h
 .cases h⟩
def iX (c f:ai) (i:ao) (fk fv:FE):FS:=fun ρ=>(fv ρ).bind fun d=>(fk ρ).bind fun kd=>(fS kd).bind fun k=>match ρ[i]? with
 |some (aa (.objd c' fs n kvs))=>if c'=c/\n=f/\fs.lookup f=af/\kvs.length<100000 then aa (.nx,ρ.set i (aa (.objd c fs n (bW kvs k d)))) else af
 |_=>af
theorem Gc {vs:ac (ai×V)} {f:ai} {w:V} (h:vs.lookup f=af):(vs++[(f,w)]).lookup f=aa w:=by
 induction vs with
 |nil=>simp[cX]
 |cons p r ih=>
  obtain⟨g,x⟩:=p;by_cases e:f=g
  .subst e;simp[cX] at h
  .have hb:(f==g)=ar:=by simpa using e
   simp only[qp,cX,hb] at h ⊢;exact ih h
theorem Hm (i:ao) (hu:X.A.units+66<cg) (hc:CF Γ X.K cl attrs) (hf:fl∈attrs) (hk:DE Γ X ke fk) (hv':DE Γ X value fv) (hN:X.N[i]?=aa x:=by rfl) (hv:Vis X.env.scope x:=by ac_nf) (hd:.(s)=ar:=by decide)
  (hcd:.(M)=ar:=by decide) (hb:je .(Q) fl X.env (eval .(Q) X.env)=eval .(Q) X.env:=by rfl) (hs:dH value (aa (.Subscript (.Attribute .(Q) fl ap) ke pos')) pos.line X.env=aZ ar:=by rfl) :
  DS Γ X (.Assign [.Subscript (.Attribute .(Q) fl ap) ke pos'] value pos) (iX cl fl i fk fv):=⟨(uo .(b) (sq .(aP) hb) hk.1 hv'.1 hs).imp fun E σ H=>by
 rintro⟨G₀,H₀,G,ρ,flw,ρ',A,h,k⟩;unfold iX at h;obtain⟨d,hd,ha⟩:=oBd h;clear h;obtain⟨kd,hkd,hb1⟩:=oBd ha;clear ha;obtain⟨kk,hkk,hq⟩:=oBd hb1;clear hb1;split at hq
 .rename_i c' fs n kvs hi;split at hq
  .rename_i hz;obtain⟨rfl,rfl,hz2,hz3⟩:=hz;cases hq;obtain⟨C,q1,q2,q3⟩:=hc.ex;refine⟨G₀,H₀,G,ρ,d,A,hd,fun v G1 H1 s1 r1=>?_⟩;have A1:=A.step s1;obtain⟨w,fp,h1,h2⟩:=A1.get hi;cases h2 with
   |objd g1 g2 g3 g4 g5 g6 y1 y2 y3 y4 y5 g7=>
    rename_i a C' dx p vs us;have g1':=g1;rw[q1] at g1;cases g1;have hl:vs.lookup n=af:=by
     rcases jv (k:=n) g5 g6 with⟨_,z2⟩|⟨d',v',z1,_,_⟩
     .exact z2
     .rw[z1] at hz2;cases hz2
    refine⟨_,h1,a,C,dx,_,.ref p,rfl,g4,q2,q3 n hf,Gc hl,G₀,H₀,G1,ρ,kd,A1,hkd,fun u G2 H2 s2 r2=>?_⟩;have A2:=A1.step s2;have eu:=jz r2 hkk;subst eu;have hp2:H2 p=aa (.dK us):=s2.hh _ _ y3;have ha2:H2 a=aa (.ins C dx (vs++[(n,.ref p)])):=s2.hh _ _ g4;have ga2:G2 a=af:=(s2.out _ _ g4 rfl).trans g3;have gp2:G2 p=af:=(s2.out _ _ y3 rfl).trans y2;have npa:a≠p:=wx ha2 hp2 (by intro z;cases z);have hlen:us.length=kvs.length:=by simpa using bU c8 y4
    obtain⟨w1,w2⟩:=mf (k:=kk) (r1.mono s2.gg) y4 (y5.mono s2.gg);refine⟨p,_,rfl,gZ.k hp2 (by have:=eY;omega),?_⟩;refine k σ G2 _ (s1.gg.trans s2.gg) (A2.ch hi h1 (.objd g1' g2 ga2 ha2 g5 (g6.mono s2.gg) y1 gp2 hp2 y4 (y5.mono s2.gg) g7) (fun b o e hb=>?_) (.objd (p:=p) g1' g2 ga2 (by rw[aF npa];exact ha2) g5 (g6.mono s2.gg) y1 gp2 bj w1 w2 g7) (fun b hb=>.inl hb) (.refl _) .(aX) .(aA))
    .rw[aF (fun z=>hb (by rw[z];exact qh _ qg))];exact e
    .rw[aF (bD e gp2)];exact A2.gh b o e
  .cases hq
 .cases hq⟩
noncomputable def C4:Slot->aq D
 |.obj c fs=>aa (.ins c fs)
 |.objd c fs n kvs=>aa (.ins c (fs++[(n,.dk kvs)]))
 |_=>af
theorem At.done (A:At Γ K G₀ H₀ G H ρ σ) {i:ao} {s:Slot} (hi:ρ[i]?=aa (aa s)) (hd:C4 s=aa d):∃a G',Γ.self=aa a/\Step G₀ H₀ G' H/\Rep Γ K G' (.ref a) d:=by
 obtain⟨v,fp,h1,h2⟩:=A.get hi;cases h2 with
 |sh _=>cases hd
 |own _ _ _ _=>cases hd
 |odk _ _ _ _ _=>cases hd
 |odt _ _ _ _ _=>cases hd
 |fo _ _ _ _ _ _ _=>cases hd
 |obj g1 g2 g3 g4 g5 g6 g7=>
  cases hd;rename_i a C dx vs fs;have sm:ba G (upd G a (.ins C dx vs)):=fun b o e=>by rw[aF (bD e g3)];exact e
  refine⟨a,upd G a (.ins C dx vs),g7,⟨A.st.hh,A.st.gg.trans sm,fun b o e=>?_,fun b o e ek=>?_⟩,.ins bj g1 g5 (g6.mono sm)⟩
  .by_cases hb:b=a
   .subst hb;rw[bj] at e;cases e;exact g4
   .rw[aF hb] at e;exact A.gh b o e
  .rw[aF (bD e g2)];exact A.st.out b o e ek
 |objd g1 g2 g3 g4 g5 g6 y1 y2 y3 y4 y5 g7=>
  cases hd;rename_i n a C dx p vs fs us kvs;have npa:a≠p:=wx g4 y3 (by intro z;cases z);have sm:ba G (upd (upd G p (.dK us)) a (.ins C dx (vs++[(n,.ref p)]))):=fun b o e=>by rw[aF (bD e g3),aF (bD e y2)];exact e
  refine⟨a,_,g7,⟨A.st.hh,A.st.gg.trans sm,fun b o e=>?_,fun b o e ek=>?_⟩,.ins (us:=vs++[(n,.ref p)]) (fs:=fs++[(n,.dk kvs)]) bj g1 (by simp[g5]) ?_⟩
  .by_cases hb:b=a
   .subst hb;rw[bj] at e;cases e;exact g4
   .rw[aF hb] at e;by_cases hb':b=p
    .subst hb';rw[bj] at e;cases e;exact y3
    .rw[aF hb'] at e;exact A.gh b o e
  .rw[aF (bD e g2),aF (bD e y1)];exact A.st.out b o e ek
  .have r2:Rep Γ K (upd (upd G p (.dK us)) a (.ins C dx (vs++[(n,.ref p)]))) (.ref p) (.dk kvs):=.dk (us:=us) (by rw[aF npa.symm,bj]) y4 (y5.mono sm);simpa using(g6.mono sm).append (.cons r2 .nil)
end
noncomputable def Cn.mk1 (Γ:Cn) (x:au):Cn:=⟨Γ.cls,aa x⟩
variable {c:ai}
section
variable {x:au}
theorem Rep.to1 (x:au) (r:Rep Γ K G v d):Rep (Γ.mk1 x) K G v d:=Rep.re (Γ:=Γ) (Γ':=Γ.mk1 x) rfl r
theorem Reps.to1 {v:ac V} {d:ac D} (x:au) (r:Reps Γ K G v d):Reps (Γ.mk1 x) K G v d:=Reps.re (Γ:=Γ) (Γ':=Γ.mk1 x) rfl r
theorem Rep.of1 (r:Rep (Γ.mk1 x) K G v d):Rep Γ K G v d:=Rep.re (Γ:=Γ.mk1 x) (Γ':=Γ) rfl r
theorem Reps.of1 {v:ac V} {d:ac D} (r:Reps (Γ.mk1 x) K G v d):Reps Γ K G v d:=Reps.re (Γ:=Γ.mk1 x) (Γ':=Γ) rfl r
theorem CF.re (h:CF Γ K c attrs) (x:au):CF (Γ.mk1 x) K c attrs:=⟨h.ex⟩
theorem D0 {Q:VK} {E:XK} (x:au) (h:spF (Γ.mk1 x) K n F vs H Q E):spF Γ K n F vs H Q E:=by obtain⟨G,ds,d,h1,h2,h3,h4,k⟩:=h;exact⟨G,ds,d,h1,h2.of1,h3,h4,fun v G' H' s r=>k v G' H' s (r.to1 x)⟩
theorem Cal.re {y:ai} {k:ao} (C:Cal Γ P w K mg base y n k F) (x:au):Cal (Γ.mk1 x) P w K mg base y n k F:=by obtain⟨f,fd,ps,h1,h2,h3,h4⟩:=C.ex;exact⟨f,fd,ps,h1.imp fun vs H Q E q=>D0 x q,h2,h3,h4⟩
structure CalM (Γ:Cn) (P:dF) (w:cL) (K:aW) (mg:ai->aq av) (base:Heap) (c m:ai) (n k:ao) (F:ac D->aq D):Prop where
 ex:∃C f fd ps,Γ.cls c=aa C/\Cls K C/\Meth K C m f/\FnOk P w K mg base CX0 k f fd ps (spF Γ K n F)/\fm K fd ps []
theorem CalM.re {k:ao} (C:CalM Γ P w K mg base c m n k F) (x:au):CalM (Γ.mk1 x) P w K mg base c m n k F:=by obtain⟨C,f,fd,ps,h0,h1,h2,h3,h4⟩:=C.ex;exact⟨C,f,fd,ps,h0,h1,h2,h3.imp fun vs H Q E q=>D0 x q,h4⟩
inductive spI (Γ:Cn) (K:aW) (C:au) (n:ao) (F:ac D->aq D) (vs:ac V) (H:Hp) (Q:VK) (_e3:XK):Prop where
 |mk:∀x dx H1 G ds d us,vs=.ref x::us->H=upd (upd H1 dx (.own x)) x (.ins C dx [])->H1 x=af->H1 dx=af->dx≠x->ba G H1->Reps Γ K G us ds->ds.length=n->F ds=aa d->(∀G' H',Step G H1 G' H'->Rep Γ K G' (.ref x) d->Q .non H')->spI Γ K C n F vs H Q _e3
structure CalI (Γ:Cn) (P:dF) (w:cL) (K:aW) (mg:ai->aq av) (base:Heap) (c:ai) (n k:ao) (F:ac D->aq D):Prop where
 ex:∃C f fd ps,Γ.cls c=aa C/\Mk K C f/\mg c=aa (.ref C)/\FnOk P w K mg base CX0 k f fd ps (spI Γ K C n F)/\fm K fd ps []
end
section
variable {o:Expr}
noncomputable def bq (c m:ai) (F:ac D->aq D) (fo:FE) (fr:FA):FE:=fun ρ=>(fo ρ).bind fun d=>match d with
 |.ins c' fs=>if c'=c/\fs.lookup m=af then (fr ρ).bind fun ds=>F (d::ds) else af
 |_=>af
theorem Jj {k:ao} (C:CalM Γ X.prog X.w X.K X.mg X.base c m (n+1) k F) (hr:Room j X.A) (hk:k<=j) (ho:DE Γ X o fo) (ha:DA Γ X (e::es) fr) (hn:∀ρ ds,fr ρ=aa ds->ds.length=n)
  (hst:aO (e::es) X.env=(ar,eval e X.env)::aO es X.env:=by rfl) (hpl:.(ae).any (·.1)=ar:=by rfl)
  (ht:eval (.Call (.Attribute o m apos) (e::es) [] pos) X.env=(do
   let ov ←eval o X.env
   om apos.atName
   let (f,first) ←hW [ov] (ot ov m pl)
   uS pos f first (bV pos (aO (e::es) X.env)) (jW pos (jX [] X.env))):=by rfl) :
  DE Γ X (.Call (.Attribute o m apos) (e::es) [] pos) (bq c m F fo fr):=⟨by
 obtain⟨Ca,f,fd,ps,h0,h1,h2,h3,h4⟩:=C.ex;refine(Bt ho.1 h1 h2 h3 (hr.mono hk) h4 .nil kK ha.1 hst hpl ht).imp fun σ H Q=>?_;rintro⟨G₀,H₀,G,ρ,d,A,h,k⟩;unfold bq at h;obtain⟨x,hx,hq⟩:=oBd h;clear h;refine⟨G₀,H₀,G,ρ,x,A,hx,fun v G1 H1 s1 r1=>?_⟩;split at hq
 .rename_i c' fs;split at hq
  .rename_i hz;obtain⟨rfl,hz2⟩:=hz;obtain⟨ds,hds,hF⟩:=oBd hq;have r1':=r1;cases r1 with
   |ins g1 g2 g3 g4=>
    rw[h0] at g2;cases g2;rename_i _ _ us0;have hl:cX m us0=af:=by
     rcases jv (k:=m) g3 g4 with⟨_,z2⟩|⟨d',v',z1,_,_⟩
     .exact z2
     .rw[z1] at hz2;cases hz2
    refine⟨_,_,_,rfl,s1.gh _ _ g1,hl,G₀,H₀,G1,ρ,ds,A.step s1,hds,fun vs G2 H2 s2 r2=>?_⟩;show spF Γ X.K (n+1) F (_::(vs++[])) H2 Q E0;rw[jf];exact⟨G2,_,d,s2.gh,.cons (r1'.mono s2.gg) r2,by rw[qi,hn ρ ds hds],hF,fun v G' H' s r=>k v G' H' ((s1.trans s2).trans s) r⟩
  .cases hq
 .cases hq⟩
theorem NA {k:ao} (C:CalM Γ X.prog X.w X.K X.mg X.base c m 1 k F) (hr:Room j X.A) (hk:k<=j) (ho:DE Γ X o fo)
  (ht:eval (.Call (.Attribute o m apos) [] [] pos) X.env=(do
   let ov ←eval o X.env
   om apos.atName
   let (f,first) ←hW [ov] (ot ov m pl)
   uS pos f first (bV pos (aO [] X.env)) (jW pos (jX [] X.env))):=by rfl) :
  DE Γ X (.Call (.Attribute o m apos) [] [] pos) (bq c m F fo ak):=⟨by
 obtain⟨Ca,f,fd,ps,h0,h1,h2,h3,h4⟩:=C.ex;refine(Pa ho.1 h1 h2 h3 (hr.mono hk) h4 .nil kK ht).imp fun σ H Q=>?_;rintro⟨G₀,H₀,G,ρ,d,A,h,k⟩;unfold bq at h;obtain⟨x,hx,hq⟩:=oBd h;clear h;refine⟨G₀,H₀,G,ρ,x,A,hx,fun v G1 H1 s1 r1=>?_⟩;split at hq
 .rename_i c' fs;split at hq
  .rename_i hz;obtain⟨rfl,hz2⟩:=hz;obtain⟨ds,hds,hF⟩:=oBd hq;cases hds;have r1':=r1;cases r1 with
   |ins g1 g2 g3 g4=>
    rw[h0] at g2;cases g2;rename_i _ _ us0;have hl:cX m us0=af:=by
     rcases jv (k:=m) g3 g4 with⟨_,z2⟩|⟨d',v',z1,_,_⟩
     .exact z2
     .rw[z1] at hz2;cases hz2
    refine⟨_,_,_,rfl,s1.gh _ _ g1,hl,?_⟩;exact⟨G1,_,d,s1.gh,.cons r1' .nil,rfl,hF,fun v G' H' s r=>k v G' H' (s1.trans s) r⟩
  .cases hq
 .cases hq⟩
theorem G9 {k:ao} (C:CalI Γ X.prog X.w X.K X.mg X.base c n k F) (hr:Room j X.A) (hk:k+1<=j) (hg:Gl X c) (ha:DA Γ X (e::es) fr) (hn:∀ρ ds,fr ρ=aa ds->ds.length=n)
  (hdb:(c==("__debug__":ai))=ar:=by decide) (he:aO (e::es) X.env=(ar,eval e X.env)::aO es X.env:=by rfl) (hpl:.(ae).any (·.1)=ar:=by rfl) :
  DE Γ X (.Call (.Name c p) (e::es) [] pos) (cF F fr):=⟨by
 obtain⟨Ca,f,fd,ps,h0,h1,h2,h3,h4⟩:=C.ex;refine(wt h1 h3 (hr.mono hk) hg h2 h4 .nil kK ha.1 hdb he hpl).imp fun σ H Q=>?_;rintro⟨G₀,H₀,G,ρ,d,A,h,k⟩;unfold cF at h;obtain⟨ds,hd,hq⟩:=oBd h;refine⟨G₀,H₀,G,ρ,ds,A,hd,fun vs G1 H1 s1 r1 x dx hx hdx hne=>?_⟩;rw[jf];exact⟨x,dx,H1,G1,ds,d,vs,rfl,rfl,hx,hdx,hne,s1.gh,r1,hn ρ ds hd,hq,fun G' H' s r=>⟨rfl,k _ G' H' (s1.trans s) r⟩⟩⟩
end
def mX (n:ao) (c:ai) (g:FS):ac D->aq D:=fun ds=>(g (aa (.obj c [])::ds.map .(X)++bM n af)).bind fun r=>match r.1 with
 |.nx=>match r.2[0]? with
  |some (aa s)=>C4 s
  |_=>af
 |_=>af
variable {s0:ai}
theorem Fun.okI {f:au} {k:ao} (F:Fun K x qual st f fd) (S:FnScope N (s0::ps) (aG st)) (hC:Γ.cls c=aa C)
  (hbody:∀(y:au) (cdv:av) (A:cR) (outer:ac cG) (s:aI) (H:Hp) (E:XK),Room k .(w)->
   DSs (Γ.mk1 y) .(n).nox (cv st) g):FnOk P w K mg base CX0 (k+1) f fd (s0::ps) (spI Γ K C ps.length (mX .(aT) c g)):=by
 refine F.ok S (fun vs H Q E h=>?_) (fun cdv A outer s H vs Q E hr h=>?_)
 .obtain⟨y,dx,H1,G,ds,d,us,rfl,_,_,_,_,_,r,hl,_⟩:=h;rw[qi,r.length,hl,qi]
 .obtain⟨y,dx,H1,G,ds,d,us,rfl,rfl,hx,hdx,hne,gh,r,hl,hd,k⟩:=h;refine⟨_,(hbody y cdv A outer s _ E hr).1,?_⟩;unfold mX at hd;obtain⟨⟨fl,ρ'⟩,hg,hd⟩:=oBd hd;have s1:=Step.newOwn (o:=.own y) gh hdx;have hx1:(upd H1 dx (.own y)) y=af:=by rw[aF (cM hne)];exact hx
  have s2:=s1.trans (Step.newOwn (o:=.ins C dx []) s1.gh hx1);have hlen:us.length=ds.length:=r.length;have A0:At (Γ.mk1 y) K G H1 G (upd (upd H1 dx (.own y)) y (.ins C dx [])) (aa (.obj c [])::ds.map .(X)++bM .(aT) af) (dw N (.ref y::us)):=by
   refine⟨s2,by simp[dw,hlen,hl],fun i=>if i=0 then [y] else [],fun i t e=>?_,fun i j t u hij e1 e2 b hb=>?_⟩
   .cases i with
    |zero=>
     cases e;exact⟨.ref y,rfl,.obj (vs:=[]) (fs:=[]) hC hx (gh.free hx) bj rfl .nil rfl⟩
    |succ i=>
     have e:(ds.map .(X)++bM .(aT) af)[i]?=aa (aa t):=e;by_cases hi:i<ds.length
     .rw[qz (by simpa using hi),qk] at e;obtain⟨d',hd',e⟩:=oMd e;cases e;obtain⟨v,hv,rv⟩:=r.get hd';refine⟨v,?_,.sh (rv.to1 y)⟩;unfold dw;show((us.map aa)++_)[i]?=aa (aa v);rw[qz (by rw[qf,hlen];exact hi),qk,hv];rfl
     .rw[qL (by simpa using hi),uT] at e;split at e<;>cases e
   .have hb:b∈(if i=0 then [y] else []):=hb;show b∉(if j=0 then [y] else []);by_cases hi:i=0
    .subst hi;rw[qY (cM hij)];exact fun z=>by cases z
    .rw[qY hi] at hb;cases hb
  refine⟨G,H1,G,_,fl,ρ',A0,hg,fun σ' G' H' sm A'=>?_⟩;cases fl with
  |nx=>
   simp only at hd;split at hd
   .rename_i sl hs;obtain⟨a,G2,e1,st2,rp⟩:=A'.done hs hd;cases e1;exact k G2 H' st2 rp.of1
   .cases hd
  |rt d'=>cases hd
  |ow d'=>cases hd
  |nw d'=>cases hd
  |od d'=>cases hd
  |bk=>cases hd
  |ct=>cases hd
structure DfnM (K:aW) (C:au) (c m qual:ai) (st:Stmt):Prop where
 ex:∃f fd,Fun K m qual st f fd/\ce K (.ref C) m=aa (aa (.ref f))/\oq K (.ref f)=aj
structure ClsOk (Γ:Cn) (K:aW) (mg:ai->aq av) (c:ai) (C:au):Prop where
 cn:Γ.cls c=aa C
 cl:Cls K C
 mgC:mg c=aa (.ref C)
 makes:rA K C=aj
 kp:fP K (.ref C)=aj
theorem DfnM.cal {k:ao} (O:ClsOk Γ K mg c C) (F:DfnM K C c m qual st) (S:FnScope N ps (aG st))
  (hb:∀(kV doc pm:av) (an:aq au) (cdv ct:av) (us:ac av),us.length=ps.length->gw (dS m qual (dU st) (cv st) (aG st) .none kV doc pm an cdv ct) ⟨us,[]⟩=aZ (ps.zip us))
  (hbody:∀(f:au) (cdv:av) (A:cR) (outer:ac cG) (s:aI) (H:Hp) (E:XK),Room k .(w)->
   DSs Γ .(n).nox (cv st) g):CalM Γ P w K mg base c m ps.length (k+1) (aT (N.length-ps.length) g):=by
 obtain⟨f,fd,h1,h2,h3⟩:=F.ex;exact⟨C,f,fd,ps,O.cn,O.cl,⟨h2,h3,h1.kp⟩,h1.okD S (hbody f),h1.binds hb⟩
theorem DfnM.calI {k:ao} (O:ClsOk Γ K mg c C) (F:DfnM K C c "__init__" qual st) (S:FnScope N (s0::ps) (aG st))
  (hb:∀(kV doc pm:av) (an:aq au) (cdv ct:av) (us:ac av),us.length=(s0::ps).length->gw (dS "__init__" qual (dU st) (cv st) (aG st) .none kV doc pm an cdv ct) ⟨us,[]⟩=aZ ((s0::ps).zip us))
  (hbody:∀(f y:au) (cdv:av) (A:cR) (outer:ac cG) (s:aI) (H:Hp) (E:XK),Room k .(w)->
   DSs (Γ.mk1 y) .(n).nox (cv st) g):CalI Γ P w K mg base c ps.length (k+1) (mX .(aT) c g):=by
 obtain⟨f,fd,h1,h2,h3⟩:=F.ex;exact⟨C,f,fd,s0::ps,O.cn,⟨O.makes,h2,h3,O.kp⟩,O.mgC,h1.okI S O.cn (hbody f),h1.binds hb⟩
theorem ClsOk.cf (O:ClsOk Γ K mg c C) (h:∀f∈attrs,km K C f):CF Γ K c attrs:=⟨C,O.cn,O.cl,h⟩
theorem Qd (us:ac av):us=(cx us.length).map fun i=>us.getD i .none:=by
 apply S9
 .simp
 .intro i h1 h2;simp[j0,qD h1]
theorem bn {F:av->av->av->aq au->av->av->lg} (h:∀a b c d e f (v:ao->av),gw (F a b c d e f) ⟨(cx ps.length).map v,[]⟩=aZ (ps.zip ((cx ps.length).map v))) (a b c:av) (d:aq au) (e f:av) (us:ac av) (hl:us.length=ps.length) :
  gw (F a b c d e f) ⟨us,[]⟩=aZ (ps.zip us):=by
 have:=h a b c d e f fun i=>us.getD i .none;rw[←hl,←Qd us] at this;exact this
section
variable {g:FG}
theorem lcN (N':ac ai) (hi:DI Γ X tg iter fi) (hb:N'.Nodup->DB Γ X N' scope tg ifs elt g ft fe:=by intro nd;exact⟨fun _ _ _ _ _=>⟨by right,by first|exact nq|(refine se ?_;exfalso),by ac_rfl⟩⟩) (hn:N'.Nodup:=by decide +kernel) (hc:X.calm=aj:=by rfl) (hk:scope.kind=.function:=by rfl) (h:t6 scope.names X.env.scope.names=aj:=by rfl) (F:sY N' fv X.N X.env.scope.names scope.names=aj:=by rfl) (hs:∀x,kZ iter X.env x=aZ x:=by intro _;rfl):DO Γ X .(x) (aR fi g ft fe fv):=R8 hc (.of hk h) (.of F) hi (hb hn) hs
theorem iM (i:ao) {y:ai} (hN:X.N.Nodup) (N':ac ai) (hi:DI Γ X tg iter fi) (hb:N'.Nodup->DB Γ X N' scope tg ifs elt g ft fe:=by intro nd;exact⟨fun _ _ _ _ _=>⟨by right,by first|exact nq|(refine se ?_;exfalso),by ac_rfl⟩⟩) (hn:N'.Nodup:=by decide +kernel) (hc:X.calm=aj:=by rfl) (hk:scope.kind=.function:=by rfl) (h:t6 scope.names X.env.scope.names=aj:=by rfl) (F:sY N' fv X.N X.env.scope.names scope.names=aj:=by rfl) (hy:X.N[i]?=aa y:=by rfl) (hyl:X.env.scope.names.lookup y=aa .local:=by rfl) (hsw:dH .(x) (aa (.Name y py)) spos.line X.env=aZ aj:=by rfl) (hs:∀x,kZ iter X.env x=aZ x:=by intro _;rfl):DS Γ X (.Assign [.Name y py] .(x) spos) (aL i (aK (aR fi g ft fe fv))):=JW i hN hc (.of hk h) (.of F) hi (hb hn) hy hyl hsw hs
end
theorem gI:dR "all"=aa (.builtin "all"):=by decide +kernel
theorem OA:dR "isinstance"=aa (.builtin "isinstance"):=by decide +kernel
theorem NF:dR "len"=aa (.builtin "len"):=by decide +kernel
theorem LB:dR "max"=aa (.builtin "max"):=by decide +kernel
theorem A8:dR "min"=aa (.builtin "min"):=by decide +kernel
theorem uC:dR "sorted"=aa (.builtin "sorted"):=by decide +kernel
theorem LW:dR "bool"=aa (.type "bool"):=by decide +kernel
theorem ja:dR "dict"=aa (.type "dict"):=by decide +kernel
theorem xp:dR "int"=aa (.type "int"):=by decide +kernel
theorem x9:dR "list"=aa (.type "list"):=by decide +kernel
theorem L':dR "str"=aa (.type "str"):=by decide +kernel
theorem zU:dR "tuple"=aa (.type "tuple"):=by decide +kernel
theorem Jc:dR "set"=aa (.type "set"):=by decide +kernel
noncomputable abbrev FS1 (N:ac ai) (k:ao) (sc:Scope):Prop:=FnScope N (N.take k) sc
section
variable {k:ao}
theorem Dfn.cl (F:Dfn K mg x st) (S:FnScope N ps (aG st)) (hbody:N.Nodup->∀(f:au) (cdv:av) (A:cR) (outer:ac cG) (s:aI) (H:Hp) (E:XK),Room k (A.deeper (dI x (aG st) s.heap.objs.size f cdv))->DSs Γ (dX CX0 P w K mg base N x (aG st) f cdv A outer s H E).nox (cv st) g)
  (hb:∀a b c d e f (v:ao->av),gw (dS x x (dU st) (cv st) (aG st) .none a b c d e f) ⟨(cx ps.length).map v,[]⟩=aZ (ps.zip ((cx ps.length).map v)):=by exact fun _ _ _ _ _ _ _=>rfl):Cal Γ P w K mg base x ps.length (k+1) (aT (N.length-ps.length) g):=F.cal S (bn hb) (hbody S.nd)
theorem DfnM.cl (O:ClsOk Γ K mg c C) (F:DfnM K C c m qual st) (S:FnScope N ps (aG st)) (hbody:N.Nodup->∀(f:au) (cdv:av) (A:cR) (outer:ac cG) (s:aI) (H:Hp) (E:XK),Room k .(w)->DSs Γ .(n).nox (cv st) g)
  (hb:∀a b c d e f (v:ao->av),gw (dS m qual (dU st) (cv st) (aG st) .none a b c d e f) ⟨(cx ps.length).map v,[]⟩=aZ (ps.zip ((cx ps.length).map v)):=by exact fun _ _ _ _ _ _ _=>rfl):CalM Γ P w K mg base c m ps.length (k+1) (aT (N.length-ps.length) g):=DfnM.cal O F S (bn hb) (hbody S.nd)
end
variable {M n0 ep:ao} {h:ah} {owner:bO (aq ao)} {hs:ac ah} {I:au} {wr:ac au} {hashAt:ao->ah} {h0:Heap} {es':bO (ah×av)}
namespace ST
structure Pr where
 j:ao
 more:ao
 i:ao
 pt:ao
noncomputable def adv (M:ao) (p:Pr):Pr:=if p.more > 0 then {p with j:=p.j+1,more:=p.more-1} else
 {j:=(iD M p.i p.pt).1,more:=c9 M (iD M p.i p.pt).1-(iD M p.i p.pt).1,i:=(iD M p.i p.pt).1,pt:=(iD M p.i p.pt).2}
noncomputable def st0 (M:ao) (h:ah):Pr:={j:=fC h%(M+1),more:=c9 M (fC h%(M+1))-fC h%(M+1),i:=fC h%(M+1),pt:=fC h}
def it (M:ao) (h:ah):ao->Pr
 |0=>st0 M h
 |n+1=>adv M (it M h n)
def J (M:ao) (h:ah) (n:ao):ao:=(it M h n).j
noncomputable def lp (M:ao) (h:ah):ao->ao×ao
 |0=>(fC h%(M+1),fC h)
 |r+1=>iD M .(W).1 .(W).2
noncomputable def mr (M:ao) (x:ao×ao):Pr:={j:=x.1,more:=c9 M x.1-x.1,i:=x.1,pt:=x.2}
theorem sT (M:ao) (h:ah) (n:ao):∀k,it M h (n+k)=(Nat.repeat (adv M) k (it M h n))
 |0=>rfl
 |k+1=>by rw[←Fk,it,sT M h n k];rfl
theorem KY (M i:ao):c9 M i-i<=9:=by unfold c9;split<;>omega
theorem sy (M:ao):∀(k:ao) (p:Pr),k<=p.more->Nat.repeat (adv M) k p={p with j:=p.j+k,more:=p.more-k}
 |0,p,_=>rfl
 |k+1,p,h=>by rw[Nat.repeat,sy M k p .(b)];unfold adv;rw[qX (by show p.more-k > 0;omega)];simp only[Nat.sub_sub,Fk]
theorem Ex (M:ao) (h:ah):∀r,∃n,n<=10*r/\it M h n=mr M .(W)
 |0=>⟨0,qv _,rfl⟩
 |r+1=>by obtain⟨n,hn,e⟩:=Ex M h r;have hl:=KY M .(W).1;refine⟨n+(c9 M .(W).1-.(W).1)+1,by omega,?_⟩;have e2:=sy M (c9 M .(W).1-.(W).1) (mr M .(W)) (qv _);rw[it,sT,e,e2];unfold adv;rw[qY (by show ¬((c9 M .(W).1-.(W).1)-(c9 M .(W).1-.(W).1) > 0);omega)];rfl
theorem G6 (h:ah):fC h<2 ^ 64:=by unfold fC;have h1:=S' h (show(2 ^ 64:ah)≠0 by decide);have h2:=Ta h (show(0:ah)<2 ^ 64 by decide);omega
theorem C8 (M:ao) (h:ah):∀r,.(W).2=fC h / 32 ^ r
 |0=>by simp[lp]
 |r+1=>by show.(W).2 / 32=_;rw[C8 M h r,Nat.div_div_eq_div_mul,Nat.pow_succ]
theorem GR (M:ao) (h:ah) {r:ao} (hr:13<=r):.(W).2=0:=by rw[C8];refine Nat.div_eq_of_lt (qF (G6 h) ?_);exact qN (show 2 ^ 64<=32 ^ 13 by decide) (Nat.pow_le_pow_right .(f) hr)
noncomputable def fl (M i:ao):ao:=(i*5+1)%(M+1)
def orb (M:ao):ao->ao->ao
 |0,i=>i
 |m+1,i=>fl M (orb M m i)
theorem vV (M:ao) (h:ah):∀m,(lp M h (13+m)).1=orb M m (lp M h 13).1
 |0=>rfl
 |m+1=>by show(iD M (lp M h (13+m)).1 (lp M h (13+m)).2).1=_;rw[GR M h .(b),vV M h m];simp[iD,orb,fl]
theorem sN (M i:ao) (a:ao):∀b,orb M (a+b) i=orb M b (orb M a i)
 |0=>rfl
 |b+1=>by rw[←Fk,orb,sN M i a b];rfl
def xO (M:ao):ao->ao->ac ao
 |0,_=>[]
 |n+1,i=>i::xO M n (fl M i)
theorem zR (M:ao):∀m i,orb M (m+1) i=orb M m (fl M i)
 |0,_=>rfl
 |m+1,i=>by rw[orb,zR M m i];rfl
theorem Cf (M:ao):∀(n i j:ao),j∈xO M n i->∃m,m<n/\orb M m i=j
 |0,_,_,h=>nomatch h
 |n+1,i,j,h=>by
  rcases cr.mp h with e|h
  .exact⟨0,yQ _,e.symm⟩
  .obtain⟨m,hm,e⟩:=Cf M n (fl M i) j h;exact⟨m+1,by omega,by rw[zR];exact e⟩
structure Full (M:ao):Prop where
 all:∀j,j<=M->∃m,m<M+1/\orb M m 0=j
 back:orb M (M+1) 0=0
def chk (M:ao):aP:=(cx (M+1)).all (fun j=>(xO M (M+1) 0).contains j) && orb M (M+1) 0==0
theorem tR (h:chk M=aj):Full M:=by unfold chk at h;rw[fU,ic] at h;refine⟨fun j hj=>?_,by simpa using h.2⟩;have:=h.1 j (fN.mpr .(b));exact Cf M (M+1) 0 j (by simpa using this)
theorem Av:Full 7:=tR .(P)
theorem Ld:Full 31:=tR .(P)
theorem MZ:Full 127:=tR .(P)
theorem NN:Full 511:=tR .(P)
theorem Full.reach (F:Full M) (hi:i<=M) (hj:j<=M):∃m,m<=M/\orb M m i=j:=by
 obtain⟨a,ha,ea⟩:=F.all i hi;obtain⟨b,hb,eb⟩:=F.all j hj;by_cases h:a<=b
 .refine⟨b-a,by omega,?_⟩;rw[←ea,←sN,show a+(b-a)=b by omega,eb]
 .refine⟨M+1-a+b,by omega,?_⟩;rw[←ea,←sN,show a+(M+1-a+b)=(M+1)+b by omega,sN,F.back,eb]
theorem vQ (M:ao) (h:ah):∀r,.(W).1<=M
 |0=>Fm.mp (yR _ (yQ _))
 |r+1=>Fm.mp (yR _ (yQ _))
theorem Full.covers (F:Full M) (h:ah) (hj:j<=M):∃n,n<10*(M+15)/\J M h n=j:=by obtain⟨m,hm,e⟩:=F.reach (vQ M h 13) hj;obtain⟨n,hn,en⟩:=Ex M h (13+m);refine⟨n,by omega,?_⟩;unfold J;rw[en];show(lp M h (13+m)).1=j;rw[vV,e]
theorem CH (M:ao) (h:ah):∀n,(it M h n).j+(it M h n).more<=M
 |0=>by
  have:=vQ M h 0;show(lp M h 0).1+(c9 M (lp M h 0).1-(lp M h 0).1)<=M;unfold c9;split<;>omega
 |n+1=>by
  have ih:=CH M h n;rw[it];unfold adv;split
  .show(it M h n).j+1+((it M h n).more-1)<=M;omega
  .show(iD M (it M h n).i (it M h n).pt).1+(c9 M (iD M (it M h n).i (it M h n).pt).1-(iD M (it M h n).i (it M h n).pt).1)<=M;have:(iD M (it M h n).i (it M h n).pt).1<=M:=Fm.mp (yR _ (yQ _));unfold c9;split<;>omega
theorem wG (M:ao) (h:ah) (n:ao):J M h n<=M:=qN (yS _ _) (CH M h n)
theorem Full.first (F:Full M) (h:ah) (occ:ao->aP) (hf:∃j,j<=M/\occ j=ar):∃n,n<10*(M+15)/\occ (J M h n)=ar/\∀m,m<n->occ (J M h m)=aj:=by
 obtain⟨j,hj,hof⟩:=hf;obtain⟨n,hn,e⟩:=F.covers h hj;have key:∀n,n<10*(M+15)->occ (J M h n)=ar->∃n,n<10*(M+15)/\occ (J M h n)=ar/\∀m,m<n->occ (J M h m)=aj:=by
  intro n
  induction n using Nat.strongRecOn with
  |ind n ih=>
   intro hn ho;by_cases hx:∃m,m<n/\occ (J M h m)=ar
   .obtain⟨m,hm,hm2⟩:=hx;exact ih m hm .(b) hm2
   .refine⟨n,hn,ho,fun m hm=>?_⟩;cases q:occ (J M h m) with
    |true=>rfl
    |false=>exact bA ⟨m,hm,q⟩ hx
 exact key n hn (by rw[e];exact hof)
theorem wZ (xs:bO ao) (j:ao) (hs:xs.toList.Pairwise (· < ·)):∀(fuel lo hi:ao),hi-lo<=fuel->lo<=hi->hi<=xs.size->(∀i,i<lo->∀v,xs[i]?=aa v->v<j)->(∀i,hi<=i->∀v,xs[i]?=aa v->j<=v)->
  (yT xs j fuel lo hi<=xs.size)/\(∀i,i<yT xs j fuel lo hi->∀v,xs[i]?=aa v->v<j)/\∀i,yT xs j fuel lo hi<=i->∀v,xs[i]?=aa v->j<=v
 |0,lo,hi,hf,hl,hh,h1,h2=>by
  have e:lo=hi:=by omega
  subst e;exact⟨hh,h1,h2⟩
 |fuel+1,lo,hi,hf,hl,hh,h1,h2=>by
  have mono:∀a b va vb,a<b->xs[a]?=aa va->xs[b]?=aa vb->va<vb:=fun a b va vb hab ha hb=>by have:=Tc.mp hs a b;obtain⟨a1,a2⟩:=gN.mp ha;obtain⟨b1,b2⟩:=gN.mp hb;have q:=this (by simpa using a1) (by simpa using b1) hab;simpa[a2,b2] using q
  unfold yT;by_cases hlt:lo<hi
  .rw[qX hlt];have hm1:lo<=(lo+hi) / 2:=by omega
   have hm2:(lo+hi) / 2<hi:=by omega
   have hget:∃v,xs[(lo+hi) / 2]?=aa v:=⟨xs[(lo+hi) / 2]'.(b),by simp[show(lo+hi) / 2<xs.size by omega]⟩;obtain⟨v,hv⟩:=hget;have hd:xs.getD ((lo+hi) / 2) j=v:=by simp[yU,hv]
   dsimp only;rw[hd];by_cases hvj:v<j
   .rw[qX hvj];refine wZ xs j hs fuel _ _ .(b) .(b) hh (fun i hi' w hw=>?_) h2;rcases mN i ((lo+hi) / 2) with hi2|hi2
    .exact rH (mono i _ w v hi2 hw hv) hvj
    .have e:i=(lo+hi) / 2:=by omega
     subst e;rw[hv] at hw;cases hw;exact hvj
   .rw[qY hvj];refine wZ xs j hs fuel _ _ .(b) .(b) .(b) h1 fun i hi' w hw=>?_;rcases mN ((lo+hi) / 2) i with hi2|hi2
    .exact qN .(b) (rf (mono _ i v w hi2 hv hw))
    .have e:i=(lo+hi) / 2:=by omega
     subst e;rw[hv] at hw;cases hw;omega
  .rw[qY hlt];have e:lo=hi:=by omega
   subst e;exact⟨hh,h1,h2⟩
theorem xy (xs:bO ao) (j:ao) (hs:xs.toList.Pairwise (· < ·)):cA xs j<=xs.size/\(∀i,i<cA xs j->∀v,xs[i]?=aa v->v<j)/\∀i,cA xs j<=i->∀v,xs[i]?=aa v->j<=v:=
 wZ xs j hs xs.size 0 xs.size (qv _) (fA _) (qv _) (fun i h=>bA h (Fn _)) fun i h v hv=>by have:=(gN.mp hv).1;omega
theorem xU (xs:bO ao) (j i:ao) (hs:xs.toList.Pairwise (· < ·)) (h:xs[i]?=aa j):cA xs j=i:=by
 obtain⟨h0,h1,h2⟩:=xy xs j hs;rcases Td (cA xs j) i with hl|hl|hl
 .have hi:=(gN.mp h).1;have hg:xs[cA xs j]?=aa (xs[cA xs j]'.(b)):=by simp[show cA xs j<xs.size by omega]
  have q1:=h2 _ (qv _) _ hg;have:=Tc.mp hs (cA xs j) i (by simp;omega) (by simpa using hi) hl;obtain⟨_,e⟩:=gN.mp h;simp only[Array.getElem_toList] at this;omega
 .exact hl
 .have:=h1 i hl j h;omega
structure Tb (t:lx) (es:bO (ah×av)):Prop where
 full:Full t.mask
 sz:t.place.size=es.size
 dm:t.dummies=#[]
 ri:t.place.toList.Pairwise (· < ·)
 le:∀j∈t.place.toList,j<=t.mask
 few:es.size*5<t.mask*3
 rc:∀(i j:ao) (h:ah) (x:av),t.place[i]?=aa j->es[i]?=aa (h,x)->∃n,J t.mask h n=j/\∀m,m<n->J t.mask h m∈t.place.toList
section
variable {t:lx} {es:bO (ah×av)}
theorem Tb.live (T:Tb t es) (h:t.place[i]?=aa j):t.slot j=.live i:=by unfold Te;rw[xU _ _ _ T.ri h];simp[h]
theorem Tb.empty (T:Tb t es) (h:j∉t.place.toList):t.slot j=.empty:=by
 unfold Te;have h1:t.place[cA t.place j]?≠aa j:=fun e=>h (by rw[←qI] at e;exact qQ e)
 have h2:Fp t.dummies j=ar:=by rw[T.dm];rfl
 simp[h1,h2]
theorem Tb.occ (T:Tb t es) (h:j∈t.place.toList):∃i:ao,t.place[i]?=aa j:=by obtain⟨i,hi⟩:=u8.mp h;exact⟨i,by rw[←qI];exact hi⟩
theorem Tb.fits (T:Tb t es):t.fits es.size=aj:=by have h1:=T.sz;have h2:=T.few;simp only[Fq,Tf,T.dm,Array.size_empty,fU,k0,u9];omega
theorem ua:∀(a b:ac ao),a.Nodup->(∀x∈a,x∈b)->a.length<=b.length:=by
 intro xs0
 induction xs0 with
 |nil=>
  intro _ _ _;exact fA _
 |cons x r ih=>
  intro b nd h;have hx:=h x qg;have nd':=eA.mp nd;have:=ih (b.erase x) nd'.2 fun y hy=>(List.mem_erase_of_ne (show y≠x from fun e=>nd'.1 (by rw[←e];exact hy))).mpr (h y (qh _ hy));have hl:=List.length_erase_of_mem hx;have hp:0<b.length:=List.length_pos_of_mem hx;rw[qi];omega
theorem Tb.free (T:Tb t es):∃j,j<=t.mask/\decide (j∈t.place.toList)=ar:=by
 by_cases hx:∃j,j<=t.mask/\j∉t.place.toList
 .obtain⟨j,h1,h2⟩:=hx;exact⟨j,h1,qO h2⟩
 .exfalso;have all:∀j,j<=t.mask->j∈t.place.toList:=fun j hj=>Classical.byContradiction fun hn=>hx ⟨j,hj,hn⟩;have h1:=ua (cx (t.mask+1)) t.place.toList Fs fun j hj=>all j (by have:=fN.mp hj;omega);have h2:=T.sz;have h3:=T.few;simp only[qV,jS] at h1;omega
theorem Tb.first (T:Tb t es) (h:ah):∃n,n<10*(t.mask+15)/\J t.mask h n∉t.place.toList/\∀m,m<n->J t.mask h m∈t.place.toList:=by obtain⟨n,h1,h2,h3⟩:=T.full.first h (fun j=>decide (j∈t.place.toList)) T.free;exact⟨n,h1,oG h2,fun m hm=>dh (h3 m hm)⟩
noncomputable def gB (p:Pr):yV:={j:=p.j,more:=p.more,i:=p.i,perturb:=p.pt,dummy:=af}
theorem CY (t:lx) (p:Pr):t.advance (gB p)=gB (adv t.mask p):=by
 unfold SetTable.advance adv gB;by_cases h:p.more > 0
 .simp only[h,cy]
 .simp only[h,cH]
theorem Tb.probe_go (T:Tb t es) (hashAt:ao->ah) (h:ah) {n0:ao} (hf:J t.mask h n0∉t.place.toList) (ho:∀m,m<n0->J t.mask h m∈t.place.toList):∀(fuel n:ao),n<=n0->n0<n+fuel->
  (∃n' i,n<=n'/\n'<n0/\t.place[i]?=aa (J t.mask h n')/\hashAt i=h/\(∀m i,n<=m->m<n'->t.place[i]?=aa (J t.mask h m)->hashAt i≠h)/\Ft t hashAt h fuel (gB (it t.mask h n))=aa (.candidate (J t.mask h n') i (gB (it t.mask h (n'+1))))) \/
  ((∀m i,n<=m->m<n0->t.place[i]?=aa (J t.mask h m)->hashAt i≠h)/\Ft t hashAt h fuel (gB (it t.mask h n))=aa (.empty .(bi) af))
 |0,n,h1,h2=>by omega
 |fuel+1,n,h1,h2=>by
  unfold Ft;by_cases hn:n=n0
  .subst hn
   right
   refine⟨fun m i a b=>by omega,?_⟩;have hs:t.slot (gB (it t.mask h n)).j=.empty:=T.empty hf;rw[hs];rfl
  .obtain⟨i,hi⟩:=T.occ (ho n .(b));have hs:t.slot (gB (it t.mask h n)).j=.live i:=T.live hi;rw[hs];dsimp only;by_cases hh:hashAt i=h
   .left
    refine⟨n,i,qv _,by omega,hi,hh,fun m i a b=>by omega,?_⟩;rw[qX (by simpa using hh),CY];rfl
   .rw[qY (by simpa using hh),CY];have inj:∀i',t.place[i']?=aa (J t.mask h n)->i'=i:=fun i' h'=>by rw[←xU _ _ _ T.ri h',←xU _ _ _ T.ri hi]
    have ext:∀{b:ao},(∀m i,n+1<=m->m<b->t.place[i]?=aa (J t.mask h m)->hashAt i≠h)->∀m i,n<=m->m<b->t.place[i]?=aa (J t.mask h m)->hashAt i≠h:=fun {b} q m i' a c d=>by
     by_cases e:m=n
     .subst e;rw[inj i' d];exact hh
     .exact q m i' .(b) c d
    rcases T.probe_go hashAt h hf ho fuel (n+1) .(b) .(b) with⟨n',i',a,b,c,d,e,f⟩|⟨e,f⟩
    .exact .inl ⟨n',i',by omega,b,c,d,ext e,f⟩
    .exact .inr ⟨ext e,f⟩
theorem pU (xs:bO α) (p:ao) (x:α) (hp:p<=xs.size):(db xs p x).toList=xs.toList.take p++x::xs.toList.drop p:=by unfold db;simp[Array.toList_extract,List.extract_eq_take_drop];exact mO (by simp)
theorem Ev (l:ac α) (p:ao) (x:α) (hp:p<=l.length) (i:ao):(l.take p++x::l.drop p)[i]?=if i<p then l[i]? else if i=p then aa x else l[i-1]?:=by
 by_cases h1:i<p
 .rw[qX h1,qz (by rw[qE];omega),uU h1]
 .rw[qY h1,qL (by rw[qE];omega),qE,vc hp];by_cases h2:i=p
  .rw[qX h2,h2];simp
  .rw[qY h2];obtain⟨k,hk⟩:∃k,i-p=k+1:=⟨i-p-1,by omega⟩;rw[hk,qd,Tg]
   congr 1
   omega
theorem wQ (l:ac α) (p:ao) (x y:α):y∈l.take p++x::l.drop p↔y=x\/y∈l:=by
 rw[dA,qM];constructor
 .rintro(h|h|h)
  .exact .inr (rP h)
  .exact .inl h
  .exact .inr (Th h)
 .rintro(h|h)
  .exact .inr (.inl h)
  .have:y∈l.take p++l.drop p:=by rw[yW];exact h
   rcases dA.mp this with h|h
   .exact .inl h
   .exact .inr (.inr h)
theorem Tb.put (T:Tb t es) {x:av} (hf:J t.mask h n0∉t.place.toList) (ho:∀m,m<n0->J t.mask h m∈t.place.toList) (few:(es.size+1)*5<t.mask*3) (pl:aP) :
  Tb { (t.put .(bi)).1 with plain:=pl} (db es (t.put .(bi)).2 (h,x)):=by
 obtain⟨b0,b1,b2⟩:=xy t.place .(bi) T.ri;have bes:cA t.place .(bi)<=es.size:=by rw[←T.sz];exact b0
 have pl1:(db t.place .(K) .(bi)).toList=t.place.toList.take .(K)++J t.mask h n0::t.place.toList.drop .(K):=pU _ _ _ b0;have el1:(db es .(K) (h,x)).toList=es.toList.take .(K)++(h,x)::es.toList.drop .(K):=pU _ _ _ bes;have szp:(db t.place .(K) .(bi)).size=t.place.size+1:=by rw[←jS,pl1];simp;omega
 have sze:(db es .(K) (h,x)).size=es.size+1:=by rw[←jS,el1];simp;omega
 refine⟨T.full,?_,?_,?_,?_,?_,?_⟩
 .show(db t.place _ _).size=_;rw[szp];show _=(db es .(K) (h,x)).size;rw[sze,T.sz]
 .show(if Fp t.dummies .(bi)=aj then _ else t.dummies)=#[];rw[T.dm];rfl
 .show(db t.place .(K) .(bi)).toList.Pairwise (· < ·);rw[pl1,List.pairwise_append,Fu];have tk:∀a∈t.place.toList.take .(K),a<J t.mask h n0:=fun a ha=>by
   obtain⟨i,hi⟩:=u8.mp ha;have hi':i<cA t.place .(bi):=by have:=(df.mp hi).1;rw[qE] at this;omega
   rw[uU hi',qI] at hi;exact b1 i hi' a hi
  have dr:∀a∈t.place.toList.drop .(K),J t.mask h n0<a:=fun a ha=>by
   obtain⟨i,hi⟩:=u8.mp ha;rw[Tg,qI] at hi;have h1:=b2 _ (yS _ i) a hi;rcases mN .(bi) a with q|q
   .exact q
   .exact bA (by rw[←qI] at hi;have e:a=J t.mask h n0:=.(b);rw[e] at hi;exact qQ hi) hf
  refine⟨T.ri.sublist (mH _ _),⟨dr,T.ri.sublist (List.drop_sublist _ _)⟩,fun a ha b hb=>?_⟩;rcases cr.mp hb with e|hb
  .rw[e];exact tk a ha
  .exact rH (tk a ha) (dr b hb)
 .intro j hj;have hj':j∈(db t.place .(K) .(bi)).toList:=hj;rw[pl1,wQ] at hj';rcases hj' with e|hj'
  .rw[e];exact wG _ _ _
  .exact T.le j hj'
 .show(db es .(K) (h,x)).size*5<t.mask*3;rw[sze];exact few
 .intro i j h' x' e1 e2;have e1':(db t.place .(K) .(bi)).toList[i]?=aa j:=by rw[qI];exact e1
  have e2':(db es .(K) (h,x)).toList[i]?=aa (h',x'):=by rw[qI];exact e2
  rw[pl1,Ev _ _ _ (by simpa using b0)] at e1';rw[el1,Ev _ _ _ (by simpa using bes)] at e2';have up:∀{n:ao},(∀m,m<n->J t.mask h' m∈t.place.toList)->∀m,m<n->J t.mask h' m∈(db t.place .(K) .(bi)).toList:=fun q m hm=>by rw[pl1,wQ];exact .inr (q m hm)
  by_cases c1:i<cA t.place .(bi)
  .rw[qX c1] at e1' e2';rw[qI] at e1' e2';obtain⟨n,hn,q⟩:=T.rc i j h' x' e1' e2';exact⟨n,hn,up q⟩
  .rw[qY c1] at e1' e2';by_cases c2:i=cA t.place .(bi)
   .rw[qX c2] at e1' e2';cases e1';cases e2';exact⟨n0,rfl,up ho⟩
   .rw[qY c2] at e1' e2';rw[qI] at e1' e2';obtain⟨n,hn,q⟩:=T.rc _ j h' x' e1' e2';exact⟨n,hn,up q⟩
end
noncomputable def eD (owner:bO (aq ao)) (j:ao):aP:=(owner.getD j (aa 0)).isNone
theorem o5 {r:ao} (e:it M h n=mr M .(W)) {k:ao} (hk:k<c9 M .(W).1+1-.(W).1):J M h (n+k)=.(W).1+k:=by unfold J;rw[sT,e,sy M k _ (by show k<=c9 M .(W).1-.(W).1;omega)];rfl
theorem Nx {r:ao} (e:it M h n=mr M .(W)):it M h (n+(c9 M .(W).1+1-.(W).1))=mr M (lp M h (r+1)):=by
 have hge:.(W).1<=c9 M .(W).1:=by unfold c9;split<;>omega
 have e2:=sy M (c9 M .(W).1-.(W).1) (mr M .(W)) (qv _);rw[show n+(c9 M .(W).1+1-.(W).1)=n+(c9 M .(W).1-.(W).1)+1 by omega,it,sT,e,e2];unfold adv;rw[qY (by show ¬((c9 M .(W).1-.(W).1)-(c9 M .(W).1-.(W).1) > 0);omega)];rfl
theorem zK {M:ao} {h:ah} (owner:bO (aq ao)) {rs:ao} (hfr:eD owner (lp M h rs).1=aj):∀(fuel r n:ao),it M h n=mr M .(W)->r<=rs->rs<r+fuel->(∀m,m<n->eD owner (J M h m)=ar)->
  ∃n',eD owner (J M h n')=aj/\(∀m,m<n'->eD owner (J M h m)=ar)/\rQ M owner fuel .(W).1 .(W).2=aa (J M h n')
 |0,r,n,_,h1,h2,_=>by omega
 |fuel+1,r,n,e,h1,h2,h3=>by
  unfold rQ;cases hf:(cx (c9 M .(W).1+1-.(W).1)).find? (fun k=>(owner.getD (.(W).1+k) (aa 0)).isNone) with
  |some k=>
   have hk:=fN.mp (Ti hf);have hp:eD owner (.(W).1+k)=aj:=by have:=Tj hf;exact this
   refine⟨n+k,by rw[o5 e hk];exact hp,fun m hm=>?_,?_⟩
   .rcases mN m n with c|c
    .exact h3 m c
    .obtain⟨d,rfl⟩:∃d,m=n+d:=⟨m-n,by omega⟩;rw[o5 e .(b)];obtain⟨as,bs,hab,hno⟩:=(List.find?_eq_some_iff_append.mp hf).2;have hd:d∈as:=by
      have hl:as=cx k:=by
       have hlen:as.length=k:=by
        have:(cx (c9 M .(W).1+1-.(W).1))[as.length]?=aa k:=by rw[hab];simp
        rw[List.getElem?_range] at this
        .exact qH this
        .have:=bU c8 hab;simp at this;omega
       have:=bU (vd k) hab;rw[List.take_range,vc .(b),←hlen,List.take_left'] at this
       .rw[hlen] at this;exact this.symm
       .rfl
      rw[hl];exact fN.mpr .(b)
     have:=hno d hd;exact Fv.mpr (fun z=>by rw[show(owner.getD (.(W).1+d) (aa 0)).isNone=aj from z] at this;cases this)
   .rw[o5 e hk]
  |none=>
   have hn:∀k,k<c9 M .(W).1+1-.(W).1->eD owner (J M h (n+k))=ar:=fun k hk=>by rw[o5 e hk];have:=ve.mp hf k (fN.mpr hk);exact Fv.mpr this
   have hge:.(W).1<=c9 M .(W).1:=by unfold c9;split<;>omega
   have hr:r≠rs:=fun z=>by subst z;have:=hn 0 .(b);rw[o5 e .(b),Nat.add_zero,hfr] at this;cases this
   exact zK owner hfr fuel (r+1) _ (Nx e) .(b) .(b) fun m hm=>by
    rcases mN m n with c|c
    .exact h3 m c
    .obtain⟨d,rfl⟩:∃d,m=n+d:=⟨m-n,by omega⟩;exact hn d .(b)
theorem Full.free (F:Full M) (h:ah) (owner:bO (aq ao)) (hf:∃j,j<=M/\eD owner j=aj) :
  ∃n,eD owner (J M h n)=aj/\(∀m,m<n->eD owner (J M h m)=ar)/\rQ M owner (mP M) (fC h%(M+1)) (fC h)=aa (J M h n):=by
 obtain⟨j,hj,hjf⟩:=hf;obtain⟨m,hm,e⟩:=F.reach (vQ M h 13) hj;have hl:(lp M h (13+m)).1=j:=by rw[vV,e]
 exact zK owner (rs:=13+m) (by rw[hl];exact hjf) (mP M) 0 0 rfl (fA _) (by unfold mP;omega) fun m hm=>bA hm (Fn _)
structure Own (M:ao) (hs:ac ah) (owner:bO (aq ao)):Prop where
 sz:owner.size=M+1
 lt:∀(j k:ao),owner[j]?=aa (aa k)->k<hs.length
 on:∀k,k<hs.length->∃j:ao,owner[j]?=aa (aa k)
 inj:∀(j j' k:ao),owner[j]?=aa (aa k)->owner[j']?=aa (aa k)->j=j'
 rc:∀(j k:ao) h,owner[j]?=aa (aa k)->hs[k]?=aa h->∃n,J M h n=j/\∀m,m<n->eD owner (J M h m)=ar
theorem pC :eD owner j=aj↔owner[j]?=aa af:=by
 unfold eD;rw[yU];cases e:owner[j]? with
 |none=>simp
 |some o=>cases o<;>simp
theorem Own.empty (M:ao):Own M [] (Tk (M+1) af):=by
 have no:∀(j k:ao),(Tk (M+1) (af:aq ao))[j]?=aa (aa k)->False:=fun j k h=>by rw[Array.getElem?_replicate] at h;split at h<;>cases h
 exact⟨by simp,fun j k h=>(no j k h).elim,fun k h=>bA h (Fn _),fun j _ k h _=>(no j k h).elim,fun j k _ h _=>(no j k h).elim⟩
theorem Own.room (O:Own M hs owner) (hr:hs.length<=M):∃j,j<=M/\eD owner j=aj:=by
 by_cases hx:∃j,j<=M/\eD owner j=aj
 .exact hx
 .exfalso;have all:∀j,j<=M->∃k,owner[j]?=aa (aa k):=fun j hj=>by
   have h1:eD owner j≠aj:=fun z=>hx ⟨j,hj,z⟩;have h2:j<owner.size:=by rw[O.sz];omega
   cases q:owner[j] with
   |none=>exact bA (pC.mpr (by simp[h2,q])) h1
   |some k=>exact⟨k,by simp[h2,q]⟩
  have pig:=ua ((cx (M+1)).map fun j=>((owner[j]?).join).getD 0) (cx hs.length) ?_ ?_
  .rw[qf,qV,qV] at pig;omega
  .refine Tl.mpr (vf.mpr (Fw ?_ Fs));intro a b ha hb hab e;obtain⟨k,hk⟩:=all a (by have:=fN.mp ha;omega);obtain⟨k',hk'⟩:=all b (by have:=fN.mp hb;omega);simp only[hk,hk',Tn,To] at e;subst e;exact hab (O.inj a b k hk hk')
  .intro x hx';obtain⟨j,hj,rfl⟩:=bJ.mp hx';obtain⟨k,hk⟩:=all j (by have:=fN.mp hj;omega);simp only[hk,Tn,To];exact fN.mpr (O.lt j k hk)
theorem Own.more (O:Own M hs owner) (hf:eD owner (J M h n)=aj) (ho:∀m,m<n->eD owner (J M h m)=ar) :
  Own M (hs++[h]) (owner.setIfInBounds (J M h n) (aa hs.length)):=by
 have hlt:J M h n<owner.size:=by rw[O.sz];have:=wG M h n;omega
 have hold:=pC.mp hf;have get:∀j:ao,(owner.setIfInBounds (J M h n) (aa hs.length))[j]?=if j=J M h n then aa (aa hs.length) else owner[j]?:=fun j=>by
  rw[Array.getElem?_setIfInBounds];by_cases e:J M h n=j
  .subst e;simp[hlt]
  .rw[qY e,qY (cM e)]
 have stay:∀{j k:ao},owner[j]?=aa (aa k)->(owner.setIfInBounds (J M h n) (aa hs.length))[j]?=aa (aa k):=fun {j k} q=>by
  rw[get,qY]
  .exact q
  .intro e;rw[e,hold] at q;cases q
 have notfree:∀{j:ao},eD owner j=ar->eD (owner.setIfInBounds (J M h n) (aa hs.length)) j=ar:=fun {j} q=>by
  refine Fv.mpr fun z=>?_;have z':=pC.mp z;rw[get] at z';split at z'
  .cases z'
  .rw[pC.mpr z'] at q;cases q
 refine⟨by simp[O.sz],fun j k q=>?_,fun k hk=>?_,fun j j' k q q'=>?_,fun j k h' q q'=>?_⟩
 .rw[get] at q;rw[qj,oy];split at q
  .cases q;omega
  .have:=O.lt j k q;omega
 .rw[qj,oy] at hk;by_cases e:k=hs.length
  .exact⟨J M h n,by rw[get,qX rfl,e]⟩
  .obtain⟨j,hj⟩:=O.on k .(b);exact⟨j,stay hj⟩
 .rw[get] at q q';split at q
  .rename_i c;cases q;split at q'
   .rename_i c';rw[c,c']
   .have:=O.lt j' _ q';omega
  .split at q'
   .cases q';have:=O.lt j _ q;omega
   .exact O.inj j j' k q q'
 .rw[get] at q;split at q
  .rename_i c;cases q;rw[qL (qv _)] at q';simp at q';subst q';exact⟨n,c.symm,fun m hm=>notfree (ho m hm)⟩
  .have hk:=O.lt j k q;rw[qz hk] at q';obtain⟨n',e,r⟩:=O.rc j k h' q q';exact⟨n',e,fun m hm=>notfree (r m hm)⟩
theorem Full.lays (F:Full M) (hs:bO ah) (hr:hs.size<=M):∃owner,Tp M hs=aa owner/\Own M hs.toList owner:=by
 have all:∀(bP done:ac ah) (owner:bO (aq ao)),Own M done owner->(done++bP).length<=M->∃owner',Own M (done++bP) owner' /\
   bP.foldl (fun(acc:aq (bO (aq ao)×ao)) h=>do
    let (owner,k) ←acc
    let j ←rQ M owner (mP M) (fC h%(M+1)) (fC h)
    aZ (owner.setIfInBounds j (aa k),k+1)) (aa (owner,done.length))=aa (owner',(done++bP).length):=by
  intro bP
  induction bP with
  |nil=>intro done owner O _;exact⟨owner,by rw[jf];exact O,by simp⟩
  |cons h r ih=>
   intro done owner O hl;obtain⟨n,h1,h2,h3⟩:=F.free h owner (O.room (by simp at hl;omega));have O':=O.more h1 h2;obtain⟨owner',O2,e⟩:=ih (done++[h]) _ O' (by simpa using hl);refine⟨owner',by simpa using O2,?_⟩;rw[fQ];have e1:(do
    let (owner,k) ←aa (owner,done.length)
    let j ←rQ M owner (mP M) (fC h%(M+1)) (fC h)
    aZ (owner.setIfInBounds j (aa k),k+1):aq (bO (aq ao)×ao))=aa (owner.setIfInBounds (J M h n) (aa done.length),done.length+1):=by
    show(rQ M owner (mP M) (fC h%(M+1)) (fC h) >>= fun j=>aZ (owner.setIfInBounds j (aa done.length),done.length+1))=_;rw[h3];rfl
   rw[e1];rw[qj,oy] at e;rw[e];simp
 obtain⟨owner',O,e⟩:=all hs.toList [] _ (Own.empty M) (by simpa using hr);refine⟨owner',?_,by simpa using O⟩;unfold Tp;rw[←Array.foldl_toList];have e':=bU (lu (·.1)) e;exact e'
theorem NM (f:α->aq β):∀(l:ac α),(∀k∈l,∃y,f k=aa y)->∀i:ao,(l.filterMap f)[i]?=(l[i]?).bind f:=by
 intro xs0
 induction xs0 with
 |nil=>
  intro _ i;simp
 |cons k r ih=>
  intro h i;obtain⟨y,hy⟩:=h k qg;rw[Tq hy];cases i with
  |zero=>simp[hy]
  |succ i=>simp only[qd];exact ih (fun k hk=>h k (qh _ hk)) i
theorem J6 (f:α->aq β):∀(l:ac α),(∀k∈l,∃y,f k=aa y)->(l.filterMap f).length=l.length:=by
 intro xs0
 induction xs0 with
 |nil=>
  intro _;exact rfl
 |cons k r ih=>
  intro h;obtain⟨y,hy⟩:=h k qg;rw[Tq hy,qi,qi,ih fun k hk=>h k (qh _ hk)]
noncomputable def eG (M:ao) (owner:bO (aq ao)):ac (ao×ao):=(cx (M+1)).filterMap fun j=>(owner.getD j af).map (j,·)
theorem ju (hsz:owner.size=M+1) {k:ao} :(j,k)∈eG M owner↔owner[j]?=aa (aa k):=by
 unfold eG;rw[ro];constructor
 .rintro⟨j',hj',e⟩;rw[yU] at e;cases q:owner[j']? with
  |none=>rw[q] at e;cases e
  |some o=>
   rw[q] at e;cases o with
   |none=>cases e
   |some k'=>cases e;exact q
 .intro q;have hj:j<owner.size:=(gN.mp q).1;exact⟨j,fN.mpr .(b),by rw[yU,q];rfl⟩
theorem Cb (M:ao) (owner:bO (aq ao)):((eG M owner).map (·.1)).Pairwise (· < ·):=by unfold eG;rw[vf];refine UV _ ?_ (Tr (n:=M+1));intro a a' haa b hb b' hb';obtain⟨k,_,rfl⟩:=oMd hb;obtain⟨k',_,rfl⟩:=oMd hb';exact haa
theorem Qi (O:Own M hs owner):((eG M owner).map (·.2)).Nodup:=by have h1:=vf.mp (Cb M owner);refine Tl.mpr (vf.mpr (Fw ?_ h1));rintro⟨j,k⟩ ⟨j',k'⟩ ha hb hlt e;have e':k=k':=e;subst e';have:=O.inj j j' k ((ju O.sz).mp ha) ((ju O.sz).mp hb);have hlt':j<j':=hlt;omega
theorem Jz (O:Own M hs owner):(eG M owner).length=hs.length:=by
 have h1:=ua ((eG M owner).map (·.2)) (cx hs.length) (Qi O) fun k hk=>by obtain⟨⟨j,k'⟩,hm,rfl⟩:=bJ.mp hk;exact fN.mpr (O.lt j k' ((ju O.sz).mp hm))
 have h2:=ua (cx hs.length) ((eG M owner).map (·.2)) Fs fun k hk=>by obtain⟨j,hj⟩:=O.on k (fN.mp hk);exact bJ.mpr ⟨(j,k),(ju O.sz).mpr hj,rfl⟩
 rw[qf,qV] at h1 h2;omega
theorem Full.relaid {t:lx} {es:bO (ah×av)} {wanted:ao} (F:Full (oH wanted-1)) (few:es.size*5<(oH wanted-1)*3) :
  ∃t' order,t.relaid (es.map (·.1)) wanted=aa (t',order)/\(order.filterMap (es[·]?)).size=es.size/\Tb t' (order.filterMap (es[·]?))/\(∀e,e∈(order.filterMap (es[·]?)).toList↔e∈es.toList)/\t'.mask=oH wanted-1/\t'.led=t.led:=by
 generalize hM:oH wanted-1=M at F few;obtain⟨owner,hl,O⟩:=F.lays (es.map (·.1)) (by simp;omega);have hlen:(es.map (·.1)).toList.length=es.size:=by simp
 have llen:(eG M owner).length=es.size:=by rw[Jz O,hlen]
 refine⟨{mask:=M,place:=((eG M owner).map (·.1)).toArray,dummies:=#[],finger:=t.finger,led:=t.led,moves:=t.movedTo M,plain:=t.plain},((eG M owner).map (·.2)).toArray,?_,?_⟩
 .unfold SetTable.relaid;rw[hM];unfold SetTable.laid;rw[hl];rfl
 .have hall:∀k∈(eG M owner).map (·.2),∃y,es[k]?=aa y:=fun k hk=>by obtain⟨⟨j,k'⟩,hm,rfl⟩:=bJ.mp hk;have:=O.lt j k' ((ju O.sz).mp hm);rw[hlen] at this;exact⟨es[k'],by simp[this]⟩
  have etl:(Ts (fun x=>es[x]?) ((eG M owner).map (·.2)).toArray).toList=((eG M owner).map (·.2)).filterMap (fun x=>es[x]?):=by simp
  have esz:(Ts (fun x=>es[x]?) ((eG M owner).map (·.2)).toArray).size=es.size:=by rw[←jS,etl,J6 _ _ hall,qf,llen]
  refine⟨esz,⟨F,?_,rfl,?_,?_,?_,?_⟩,fun e=>?_,rfl,rfl⟩
  .rw[esz];simp[llen]
  .show((eG M owner).map (·.1)).toArray.toList.Pairwise (· < ·);exact Cb M owner
  .intro j hj;have hj':j∈(eG M owner).map (·.1):=hj;obtain⟨⟨j',k⟩,hm,rfl⟩:=bJ.mp hj';have:=(gN.mp ((ju O.sz).mp hm)).1;rw[O.sz] at this;show j'<=M;omega
  .rw[esz];exact few
  .intro i j h x e1 e2;have e1':((eG M owner).map (·.1))[i]?=aa j:=by simpa using e1
   rw[←qI,etl,NM _ _ hall,qk] at e2;rw[qk] at e1';obtain⟨⟨j',k⟩,hm,rfl⟩:=oMd e1';rw[hm] at e2;have e2':es[k]?=aa (h,x):=e2;have ho:=(ju O.sz).mp (qQ hm);obtain⟨n,hn,q⟩:=O.rc j' k h ho (by simp[e2']);refine⟨n,hn,fun m hm'=>?_⟩;have hnf:=q m hm';have hle:=wG M h m;have hlt:J M h m<owner.size:=by rw[O.sz];omega
   cases c:owner[J M h m] with
   |none=>
    rw[pC.mpr (by simp[hlt,c])] at hnf;cases hnf
   |some k'=>
    show J M h m∈(eG M owner).map (·.1);exact bJ.mpr ⟨(J M h m,k'),(ju O.sz).mpr (by simp[hlt,c]),rfl⟩
  .rw[etl,ro];constructor
   .rintro⟨k,_,hk⟩;rw[←qI] at hk;exact qQ hk
   .intro he;obtain⟨k,hk⟩:=u8.mp he;rw[qI] at hk;have hlt:=(gN.mp hk).1;obtain⟨j,hj⟩:=O.on k (by rw[hlen];exact hlt);exact⟨k,bJ.mpr ⟨(j,k),(ju O.sz).mpr hj,rfl⟩,hk⟩
noncomputable def Mk (M:ao):Prop:=M=7\/M=31\/M=127\/M=511
theorem Mk.full (h:Mk M):Full M:=by
 rcases h with h|h|h|h<;>subst h
 .exact Av
 .exact Ld
 .exact MZ
 .exact NN
theorem Mk.grow (h:Mk M) (h1:n*5<M*3) (h2:¬(n+1)*5<M*3) (hn:n<=300):Mk (oH (yX (n+1))-1)/\(n+1)*5<(oH (yX (n+1))-1)*3/\oH (yX (n+1))<=512:=by
 rcases h with h|h|h|h<;>subst h
 .have:n=4:=by omega
  subst this;exact⟨.inr (.inl .(f)),by decide,by decide⟩
 .have:n=18:=by omega
  subst this;exact⟨.inr (.inr (.inl .(f))),by decide,by decide⟩
 .have:n=76:=by omega
  subst this;exact⟨.inr (.inr (.inr .(f))),by decide,by decide⟩
 .omega
section
variable {R:lb->aI->Prop} {G:bO rg->bO rg->Prop} {P:ao->av->Prop} {St:ao->aI->Prop}
noncomputable def Dg (prog:dF) (w:cL) (A:cR) (S:au) (Ba:Heap->Prop) (P:ao->av->Prop) (n:ao) (J:ao->Obj->Prop):Prop:=
 ∀(i:ao) (v:av) (s:aI) (o:Obj) (Q:aP->aI->Prop) (E:av->aI->Prop),i<n->P i v->s.heap.get? S=aa o->J i o->Ba s.heap->
  (∀b h' tk o',s.toks<=tk->iC S s.heap h'->h'.get? S=aa o'->J (i+1) o'->Q b {s with heap:=h',toks:=tk})->aD .(N) A (vg S v) Q E s
theorem Hw (W:WalksS prog w A.in1 I fp wr G n P St) (S:au) (hSf:S∉fp) (Ba:Heap->Prop) (hBa:∀h h',Ba h->(∀b o,b∉S::wr->h.get? b=aa o->h'.get? b=aa o)->Ba h') (J:ao->Obj->Prop) (hadd:Dg prog w A.in1 S Ba P n J) :
  ∀(k i:ao) (s:aI) (o:Obj),n-i=k->i<=n->St i s->s.heap.get? S=aa o->J i o->Ba s.heap->
   (∀s' o',Moved (S::wr) G s s'->s'.heap.get? S=aa o'->J n o'->R (.ok (.ret .none)) s')->
   fz .(N) A (.builtin "set.update.loop" ⟨[.ref S,.ref I],[]⟩) R s:=by
 have hSw:S∉wr:=fun h=>hSf (W.sub _ h);have hsub:∀b∈wr,b∈S::wr:=fun b hb=>qh _ hb;intro k
 induction k with
 |zero=>
  intro i s o hk hi hst hS hJ hB hR;have hin:i=n:=by omega
  subst hin;refine ie Tt ?_;rw[iE Fx _];show aD _ A.in1 (fO (.ref I) >>= _) _ _ s;refine qw (W.done s _ _ hst fun s' hm=>?_);show aD _ A.in1 (ret kT) _ _ s';exact qA (hR s' o (hm.mono hsub) (hm.heap S _ hSw hS) hJ)
 |succ k ih=>
  intro i s o hk hi hst hS hJ hB hR;have hlt:i<n:=by omega
  refine ie Tt ?_;rw[iE Fx _];show aD _ A.in1 (fO (.ref I) >>= _) _ _ s;refine qw (W.item i s _ _ hlt hst fun v s' hP hst' hm=>?_);show aD _ A.in1 (hW [v] (vg S v) >>= _) _ _ s';refine qw (qU ?_);refine hadd i v s' o _ _ hlt hP (hm.heap S _ hSw hS) hJ (hBa _ _ hB fun b o hb e=>hm.heap b o (fun z=>hb (hsub b z)) e) fun b h' tk o' htk hsb hS' hJ'=>?_;refine qA ⟨ig Fx _,ih (i+1) _ o' .(b) hlt (W.frame _ s' _ _ hst' htk fun b hb o e=>?_) hS' hJ' ?_ fun s'' o'' hm'' hS'' hJ''=>?_⟩
  .rw[hsb.2 b (fun h:b=S=>hSf (by rw[←h];exact hb))];exact e
  .refine hBa _ _ (hBa _ _ hB fun b o hb e=>hm.heap b o (fun z=>hb (hsub b z)) e) fun b o hb e=>?_;show h'.get? b=aa o;rw[hsb.2 b (fun h:b=S=>hb (by rw[h];exact qg))];exact e
  .refine hR s'' o'' (Tu W.gtrans ((hm.mono hsub).then_heap htk fun b o hb e=>?_) hm'') hS'' hJ'';rw[hsb.2 b (fun h:b=S=>hb (by rw[h];exact qg))];exact e
end
set_option maxRecDepth 100000 in
set_option maxHeartbeats 3200000 in
theorem DM {l:au} (hh:A.handled=af) (hl:s.heap.IsList l items) (J:ao->Obj->Prop)
  (hJ0:∀led:aP,J 0 {cls:=.type "set",dict:=af,data:=.set #[] 0 (.fresh 0 0 led)})
  (hadd:∀A':cR,A'.units<=A.units+16->Dg prog w A' s.heap.objs.size (fun h=>∀b o,b<s.heap.objs.size->s.heap.get? b=aa o->h.get? b=aa o) (fun i v=>items[i]?=aa v) items.size J)
  (h:∀(h':Heap) (tk:ao) (o:Obj),h'.get? s.heap.objs.size=aa o->J items.size o->
   (∀b o,b<s.heap.objs.size->s.heap.get? b=aa o->h'.get? b=aa o)->Q .(aQ) {s with heap:=h',toks:=tk}) :
  aD .(N) A (call (.type "set") [.ref l]) Q E s:=by
 obtain⟨c,tl,hmro⟩:=mQ.mro;have hmade:=mQ.made;have hsub:=mQ.sub;refine yv (codeAny_of_tree ?_);show aD _ _ (callAny (.type "set") _) _ _ _;refine qA ⟨Code.quiet_builtin _ .(P),ie F.entry_type_call ?_⟩;rw[Around.under_plain (weight_type_call_type "set" [.ref l] []) rfl];have h1:=mQ.notType;have h2:=mQ.canCreate;have hct:=F.typeCall_set_1 (.ref l)
 repeat (any_goals (first|assumption|wp_step))
 refine rD (code_set_new_1 (.ref l) (E:=E) (Q₁:=fun obj s₁=>∃led:aP,obj=.ref s.heap.objs.size/\s₁={s with heap:=s.heap.push {cls:=.type "set",dict:=af,data:=.set #[] 0 (.fresh 0 0 led)} }) fun led=>⟨led,rfl,rfl⟩) fun r s₁ hr=>?_;cases r with
 |error e=>exact hr
 |ok fl=>
  cases fl with
  |ret obj=>
   obtain⟨led,rfl,rfl⟩:=hr;have hS:.(y).get? s.heap.objs.size=aa {cls:=.type "set",dict:=af,data:=.set #[] 0 (.fresh 0 0 led)}:=qG _ rfl;have hT:yY {s with heap:=s.heap.push {cls:=.type "set",dict:=af,data:=.set #[] 0 (.fresh 0 0 led)} } .(aQ) "set":=⟨_,hS,rfl⟩;have hli:=mQ.init.lookup;have hbi:=mQ.init.bind .(aQ)
   repeat (any_goals (first|assumption|wp_step))
   refine rD (Tv (R:=wants (fun r s₂=>r=.none/\∃h' tk o,s₂={s with heap:=h',toks:=tk}/\h'.get? s.heap.objs.size=aa o/\J items.size o /\
     (∀b o,b<s.heap.objs.size->s.heap.get? b=aa o->h'.get? b=aa o)) E) mQ.init.plain F.entry_set_init (check_set_init_1 hT ?_)) fun r₂ s₂ hr₂=>?_
   .obtain⟨ol,hol,hcl,nl,hdl⟩:=hl;obtain⟨ocls,odict,odata,oslots⟩:=ol;simp only at hcl hdl;subst hcl;subst hdl;have hol':.(y).get? l=aa {cls:=.type "list",dict:=odict,data:=.seq items nl,slots:=oslots}:=qt _ hol;have hsls:=F.sub_list_set;have hslf:=F.sub_list_frozenset;have hne:(kW "list"==kW "dict")=ar:=by decide
    have hl1:.(y).IsList l items:=⟨_,hol',rfl,nl,rfl⟩;unfold Builtin.«set.__init__» noKeywords UW;generalize hPI:mB=PI
    wp_walk
    subst hPI;refine rK hl1 ?_;refine qw (wpAny_runValue ?_);have hlS:l<s.heap.objs.size:=qu hol;have hh3:A.in1.in1.in1.handled=af:=by simp[hh]
    have hneI:l≠.(y).objs.size:=by rw[lf];exact qC (vh hlS)
    have hSf:s.heap.objs.size∉[.(y).objs.size,l]:=by rw[lf];simp only[qM,bL,qJ,or_false,rR];exact⟨qC (rB _),yq hlS⟩
    have hget:(.(y).push {cls:=.type "list_iterator",data:=.fields #[.ref l,.int 0 0]}).get? s.heap.objs.size
       = aa {cls:=.type "set",dict:=af,data:=.set #[] 0 (.fresh 0 0 led)}:=qt _ hS
    refine Hw ((u6 hh3 _ l hneI items).toS) s.heap.objs.size
     hSf (fun h=>∀b o,b<s.heap.objs.size->s.heap.get? b=aa o->h.get? b=aa o) (fun h h' hB hk b o hb e=>hk b o ?_ (hB b o hb e)) J (hadd _ (by show A.units+3<=_;omega)) (items.size-0) 0 _ _ .(b) (fA _)
     ⟨⟨_,qG _ rfl,rfl,rfl⟩,(hl1.push _)⟩ hget (hJ0 led) (fun b o hb e=>qt _ (qt _ e)) ?hR
    .have hb1:b≠s.heap.objs.size:=qC hb;have hb2:b≠.(y).objs.size:=by rw[lf];exact qC (vh hb)
     simp only[qM,bL,qJ,or_false,rR];exact⟨hb1,hb2⟩
    case hR=>
     intro s' o' hm hS' hJ';obtain⟨h',g',d',tk',os'⟩:=s';have eg:g'=s.gens:=hm.gens;have ed:d'=s.drawn:=hm.drawn;have eo:os'=s.os:=hm.os;subst eg;subst ed;subst eo;show aD _ _ _ _ _ _;refine qA ?_;show aD _ _ (ret kT) _ _ _;refine qA ⟨rfl,h',tk',o',rfl,hS',hJ',fun b o hb e=>?_⟩;have hb1:b≠s.heap.objs.size:=qC hb;have hb2:b≠.(y).objs.size:=by rw[lf];exact qC (vh hb)
     exact hm.heap b o (by simp only[qM,bL,qJ,or_false,rR];exact⟨hb1,hb2⟩) (qt _ (qt _ e))
   .cases r₂ with
    |error e=>exact hr₂
    |ok fl₂ =>
     cases fl₂ with
     |ret r=>
      obtain⟨rfl,h',tk,o',rfl,hS',hJ',hk'⟩:=hr₂
      repeat (any_goals (first|assumption|wp_step))
      exact h _ _ _ hS' hJ' hk'
     |_=>exact hr₂.elim
  |_=>exact hr.elim
noncomputable def dd [dG κ] (l:ac κ):ac κ:=l.foldl (fun a k=>if k∈a then a else a++[k]) []
theorem xf [dG κ] (l:ac κ) (k:κ):dd (l++[k])=if k∈dd l then dd l else dd l++[k]:=by unfold dd;rw[yZ];rfl
theorem pK [dG κ] (l:ac κ):(dd l).length<=l.length:=by
 have key:∀(l a:ac κ),(l.foldl (fun a k=>if k∈a then a else a++[k]) a).length<=a.length+l.length:=by
  intro l
  induction l with
  |nil=>intro a;exact qv _
  |cons k r ih=>
   intro a;rw[fQ];refine qN (ih _) ?_;split
   .simp only[qi];omega
   .simp only[qj,qi,ql];omega
 have:=key l [];simpa[dd] using this
section
variable [dG κ] {knd:KeyKind prog w κ}
theorem Ha {ks:ac κ} {Q:aP->aI->Prop} (hk:IsTupleKey knd s.heap ks a) (hsc:∀v k,knd.is k v=aj->v.scannable=aj) (h:∀b,Q b s):aD .(N) A (hashByValue 8 (.ref a)) Q E s:=by
 have hT:=hk.typeIs;obtain⟨o,items,n,ho,_,hd,hi⟩:=hk;unfold hashByValue;refine qw (SS hT F.slot_tuple_hash.lookup ?_);refine qw (jh ho hd ?_);refine qw ?_;show aD _ _ (uZ items _ _) _ _ s;rw[←Tw];have hall:∀v∈items.toList,v.scannable=aj:=by
  have:∀{x:ac κ} {vs:ac av},ItemsAre knd x vs->∀v∈vs,v.scannable=aj:=by
   intro x vs q
   induction q with
   |nil=>intro v hv;cases hv
   |cons h1 _ ih=>
    intro v hv;rcases cr.mp hv with rfl|hv
    .exact hsc _ _ h1
    .exact ih v hv
  exact this hi
 refine Fy _ (fun bP r s'=>s'=s/\∀v∈bP,v.scannable=aj) _ ?_ ?_ _ _ ⟨rfl,hall⟩
 .rintro v bP r s' ⟨rfl,hv⟩;rw[hashByValue_scannable _ (hv v qg)];refine qw (qA ?_);cases hp:plainKind v with
  |true=>
   simp only[ii,qq,cH];exact qA ⟨rfl,fun u hu'=>hv u (qh _ hu')⟩
  |false=>
   simp only[oI,cy]
   first|exact qA (qA (h _))|exact qA (h _)|exact qw (qA (qA (qA (h _))))
 .rintro⟨r1,r2⟩ s' ⟨rfl,_⟩
  first|exact qA (h _)|(cases r1<;>exact qA (h _))
theorem AS {ks:ac κ} {Q:aP->aI->Prop} (hk:IsTupleKey knd s.heap ks a) (h:Q ar s):aD .(N) A (Fz 8 (.ref a)) Q E s:=by
 have hT:=hk.typeIs;obtain⟨o,items,n,ho,_,hd,hi⟩:=hk;unfold Fz;refine qw (uV hT ?_);dsimp only;rw[qX .(f)];refine qw (qA ?_);simp only[ii,qq,cH];refine qw (jh ho hd ?_);refine qw ?_;show aD _ _ (uZ items _ _) _ _ s;rw[←Tw];refine Fy _ (fun bP r s'=>r.1=af/\s'=s/\∀v∈bP,Tx v=aj) _ ?_ ?_ _ _ ⟨rfl,rfl,hi.byValue⟩
 .rintro v bP r s' ⟨hr,rfl,hv⟩;have e:Fz 7 v=aZ ar:=by
   have:=hv v qg;cases v with
   |ref b=>simp[Tx] at this
   |_=>rfl
  rw[e];refine qw (qA ?_);simp only[qq,cH];exact qA ⟨rfl,rfl,fun u hu'=>hv u (qh _ hu')⟩
 .rintro⟨r1,r2⟩ s' ⟨hr,rfl,_⟩;simp only at hr;subst hr;exact qA h
theorem LQ {ks:ac κ} {Q:aP->aI->Prop} (hk:IsTupleKey knd s.heap ks a) (st:ac av) (hst:∀y∈st,∃k b,y=.ref b/\IsTupleKey knd s.heap k b) (h:Q ar s):aD .(N) A (Tz (.ref a) st) Q E s:=by
 unfold Tz;refine qw ?_;refine Fy _ (fun bP r s'=>r.1=af/\s'=s/\∀y∈bP,∃k b,y=.ref b/\IsTupleKey knd s.heap k b) _ ?_ ?_ _ _ ⟨rfl,rfl,hst⟩
 .rintro v bP r s' ⟨hr,rfl,hv⟩;obtain⟨k,b,rfl,hb⟩:=hv v qg;dsimp only;split
  .exact qA ⟨rfl,rfl,fun u hu'=>hv u (qh _ hu')⟩
  .refine qw (TC hk ?_);simp only[ii,qq,cH];refine qw (TC hb ?_);simp only[ii,qq,cH];refine qw (AS hk ?_);simp only[qq,cH];refine qw (AS hb ?_);simp only[qq,cH];exact qA ⟨rfl,rfl,fun u hu'=>hv u (qh _ hu')⟩
 .rintro⟨r1,r2⟩ s' ⟨hr,rfl,_⟩;simp only at hr;subst hr;exact qA h
end
theorem BD {t:lx} {es:bO (ah×av)} (T:Tb t es) {p:yV} {r:aq SetTable.Met} (hp:t.probe hashAt h p=r) (hpp:p=gB (it t.mask h n)) (hn:n<=n0) (hn0:n0<10*(t.mask+15))
  (hf:J t.mask h n0∉t.place.toList) (ho:∀m,m<n0->J t.mask h m∈t.place.toList) :
  (∃n' i,n<=n'/\n'<n0/\t.place[i]?=aa (J t.mask h n')/\hashAt i=h/\(∀m i,n<=m->m<n'->t.place[i]?=aa (J t.mask h m)->hashAt i≠h)/\r=aa (.candidate (J t.mask h n') i (gB (it t.mask h (n'+1))))) \/
  ((∀m i,n<=m->m<n0->t.place[i]?=aa (J t.mask h m)->hashAt i≠h)/\r=aa (.empty .(bi) af)):=by
 subst hpp;subst hp;unfold SetTable.probe;exact T.probe_go hashAt h hf ho (10*mP t.mask) n hn (by unfold mP;omega)
theorem Qe {t:lx} {es:bO (ah×av)} (T:Tb t es) {p:yV} (hp:∀met,t.probe hashAt h p=aa met->False) (hpp:p=gB (it t.mask h n)) (hn:n<=n0) (hn0:n0<10*(t.mask+15))
  (hf:J t.mask h n0∉t.place.toList) (ho:∀m,m<n0->J t.mask h m∈t.place.toList):False:=by
 rcases BD T (r:=t.probe hashAt h p) rfl hpp hn hn0 hf ho with⟨n',i,_,_,_,_,_,g6⟩|⟨_,g2⟩
 .exact hp _ g6
 .exact hp _ g2
section
variable [dG κ] {knd:KeyKind prog w κ}
noncomputable def pW (knd:KeyKind prog w κ) (h:Heap) (es:bO (ah×av)):Prop:=∀(i:ao) e,es[i]?=aa e->∃k b,e=(bx knd k,.ref b)/\IsTupleKey knd h k b
theorem Mk.odd (h:Mk M):(M%2==0)=ar:=by rcases h with rfl|rfl|rfl|rfl<;>rfl
theorem Rf {S:au} {es:bO (ah×av)} {t:lx} {k:ac κ} {Q:SetFound->aI->Prop} (hu:A.units<cg) (ho:s.heap.get? S=aa o) (hd:o.data=.set es ep t) (T:Tb t es) (hM:Mk t.mask)
  (hk:IsTupleKey knd s.heap k a) (he:pW knd s.heap es) (hf:J t.mask (bx knd k) n0∉t.place.toList) (hocc:∀m,m<n0->J t.mask (bx knd k) m∈t.place.toList) (hn0:n0<10*(t.mask+15))
  (hyes:∀(i:ao) (b:au),es[i]?=aa (bx knd k,.ref b)->IsTupleKey knd s.heap k b->Q (.there af) s)
  (hno:(∀(i:ao) (b:au),es[i]?=aa (bx knd k,.ref b)->¬IsTupleKey knd s.heap k b)->Q (.free .(v) ar) s) :
  ∀(fuel n:ao) (stand:aq yV),n0-n<fuel->n<=n0->(stand.getD (t.probeStart (bx knd k))=gB (it t.mask (bx knd k) n))->
   (∀(m i:ao) (b:au),m<n->t.place[i]?=aa (J t.mask (bx knd k) m)->es[i]?=aa (bx knd k,.ref b)->¬IsTupleKey knd s.heap k b)->
   aD .(N) A (y6 S (.ref a) (bx knd k) aj fuel stand) Q E s:=by
 intro fuel
 induction fuel with
 |zero=>intro n stand h1;omega
 |succ fuel ih=>
  intro n stand h1 h2 hs hw;unfold y6;refine qw (vj ho hd T.fits ?_);dsimp only;have hg:t.gaveWay=ar:=hM.odd;rw[hg];simp only[qq,cH];split
  .rename_i met hp;rcases BD T hp hs h2 hn0 hf hocc with⟨n',i,g1,g2,g3,g4,g5,g6⟩|⟨g1,g2⟩
   .cases g6;have hi:i<es.size:=by have:=(gN.mp g3).1;rw[T.sz] at this;exact this
    have hei:es[i]?=aa es[i]:=by simp[hi]
    obtain⟨k',b,e1,hb⟩:=he i _ hei;rw[e1] at hei;have hh:bx knd k'=bx knd k:=by have g4':((es[i]?).map (·.1)).getD 0=bx knd k:=g4;rw[hei] at g4';exact g4'
    rw[hh] at hei;have bP:aD .(N) A (do
      let aa (_,y):=es[i]? | unsupported "internal:set-entry"
      let equal ←hW [y] (eqBool y (.ref a))
      let (es',_,t') ←setState S
      if aj && equal then return .there af
      let aa same:=t'.sameMemory t.moves t.mask|unsupported "set.changed-during-lookup:is-the-new-block-at-the-old-address"
      let still ←match (if same then t'.slot (J t.mask (bx knd k) n') else .empty) with
       |.live i'=>match es'[i']? with
        |some (_,y')=>do aZ (if ←isSame y' y then aa i' else af)
        |none=>aZ af
       |_=>aZ af
      match still with
      |none=>rule "set.search.anew";y6 S (.ref a) (bx knd k) aj fuel af
      |some i'=>if equal then return .there (aa i') else y6 S (.ref a) (bx knd k) aj fuel (aa (gB (it t.mask (bx knd k) (n'+1))))) Q E s:=by
     rw[hei];dsimp only;refine qw (qU (wpAny_eqBool_tuple hu hb hk ?_));refine qw (vj ho hd T.fits ?_);dsimp only;by_cases hkk:k'=k
     .subst hkk;rw[qT rfl];simp only[vm,cy];exact qA (hyes i b hei hb)
     .rw[qO hkk];simp only[vm,qq,cH];have hsm:t.sameMemory t.moves t.mask=aa aj:=by unfold SetTable.sameMemory;simp
      rw[hsm];dsimp only;simp only[cy];rw[T.live g3];dsimp only;rw[hei];dsimp only;refine qw (wpAny_isSame_ref_self ?_);simp only[cy];refine qw (qA ?_);dsimp only;refine ih (n'+1) _ .(b) .(b) rfl ?_;intro m i2 b2 hm hp2 he2;by_cases h3:m<n
      .exact hw m i2 b2 h3 hp2 he2
      .by_cases h4:m=n'
       .subst h4;have ei:i2=i:=by have q1:=T.live hp2;have q2:=T.live g3;rw[q1] at q2;injection q2
        subst ei;rw[hei] at he2;cases he2;exact fun z=>hkk (hb.inj z)
       .exfalso;refine g5 m i2 .(b) .(b) hp2 ?_;show((es[i2]?).map (·.1)).getD 0=_;rw[he2];rfl
    cases hled:t.led with
    |true=>
     simp only[ii,qq,cH];exact bP
    |false=>
     simp only[oI,cy];refine qw (LQ hk _ (fun y hy=>?_) ?_)
     .obtain⟨e,he1,rfl⟩:=bJ.mp hy;have he2:e∈es.toList:=by have:=ER.mp he1;rw[Array.mem_filter] at this;exact ER.mpr this.1
      obtain⟨j,hj,ej⟩:=u5.mp he2;obtain⟨k2,b2,q1,q2⟩:=he j e (by rw[←qI,qD hj,ej]);exact⟨k2,b2,by rw[q1],q2⟩
     .simp only[qq,cH];exact bP
   .cases g2;dsimp only;refine qA (hno fun i b hei hb=>?_);have hi:i<es.size:=(gN.mp hei).1;have hpi:t.place[i]?=aa t.place[i]! := by
     have:i<t.place.size:=by rw[T.sz];exact hi
     simp[this]
    obtain⟨m,q1,q2⟩:=T.rc i _ _ _ hpi hei;have hmem:J t.mask (bx knd k) m∈t.place.toList:=by rw[q1];rw[←qI] at hpi;exact qQ hpi
    have hm:m<n0:=by
     rcases Td m n0 with z|z|z
     .exact z
     .subst z;exact bA hmem hf
     .exact bA (q2 n0 z) hf
    by_cases h3:m<n
    .exact hw m i b h3 (by rw[q1];exact hpi) hei hb
    .refine g1 m i .(b) hm (by rw[q1];exact hpi) ?_;show((es[i]?).map (·.1)).getD 0=_;rw[hei];rfl
  .rename_i hp;exact(Qe T hp hs h2 hn0 hf hocc).elim
structure TS (knd:KeyKind prog w κ) (h:Heap) (ks:ac (ac κ)) (o:Obj):Prop where
 cls:o.ExactSet
 ex:∃es ep t,o.data=.set es ep t/\Tb t es/\Mk t.mask/\pW knd h es/\es.size=(dd ks).length/\(∀k∈dd ks,∃(i:ao) (b:au),es[i]?=aa (bx knd k,.ref b)/\IsTupleKey knd h k b)/\∀(i:ao) (k:ac κ) (b:au),es[i]?=aa (bx knd k,.ref b)->IsTupleKey knd h k b->k∈dd ks
theorem IsTupleKey.mono {h:Heap} {k:ac κ} (x:IsTupleKey knd h k a) (q:∀o,h.get? a=aa o->h'.get? a=aa o):IsTupleKey knd h' k a:=by obtain⟨o,items,n,h1,h2⟩:=x;exact⟨o,items,n,q o h1,h2⟩
theorem l7 {es:bO (ah×av)} {e:ah×av} :e∈es.toList↔∃i:ao,es[i]?=aa e:=by
 constructor
 .intro h;obtain⟨i,hi,q⟩:=u5.mp h;exact⟨i,by rw[←qI,qD hi,q]⟩
 .rintro⟨i,h⟩;rw[←qI] at h;exact qQ h
theorem NB {ks:ac (ac κ)} {k:ac κ} {es:bO (ah×av)} (hk:IsTupleKey knd h0 k a) (hE:pW knd h0 es) (hsz:es.size=(dd ks).length) (hin:∀k∈dd ks,∃(i:ao) (b:au),es[i]?=aa (bx knd k,.ref b)/\IsTupleKey knd h0 k b)
  (hout:∀(i:ao) (k:ac κ) (b:au),es[i]?=aa (bx knd k,.ref b)->IsTupleKey knd h0 k b->k∈dd ks) (hnew:k∉dd ks) (mem:∀e,e∈es'.toList↔e=(bx knd k,.ref a)\/e∈es.toList) (size:es'.size=es.size+1) :
  pW knd h0 es'/\es'.size=(dd (ks++[k])).length/\(∀k'∈dd (ks++[k]),∃(i:ao) (b:au),es'[i]?=aa (bx knd k',.ref b)/\IsTupleKey knd h0 k' b)/\∀(i:ao) (k':ac κ) (b:au),es'[i]?=aa (bx knd k',.ref b)->IsTupleKey knd h0 k' b->k'∈dd (ks++[k]):=by
 rw[xf,qY hnew];refine⟨fun i e he=>?_,by rw[size,hsz,qj,oy],fun k' hk'=>?_,fun i k' b he hb=>?_⟩
 .rcases(mem e).mp (l7.mpr ⟨i,he⟩) with rfl|q
  .exact⟨k,a,rfl,hk⟩
  .obtain⟨j,q⟩:=l7.mp q;exact hE j e q
 .rcases dA.mp hk' with q|q
  .obtain⟨i,b,q1,q2⟩:=hin k' q;obtain⟨j,q3⟩:=l7.mp ((mem _).mpr (.inr (l7.mpr ⟨i,q1⟩)));exact⟨j,b,q3,q2⟩
  .rw[bL.mp q];obtain⟨j,q3⟩:=l7.mp ((mem _).mpr (.inl rfl));exact⟨j,a,q3,hk⟩
 .rcases(mem _).mp (l7.mpr ⟨i,he⟩) with q|q
  .have e:b=a:=by have:=(TF q).2;injection this
   subst e;exact dA.mpr (.inr (bL.mpr (hb.inj hk)))
  .obtain⟨j,q⟩:=l7.mp q;exact dA.mpr (.inl (hout j k' b q hb))
theorem Ey {h:Heap} {S:au} {es:bO (ah×av)} {t t':lx} (ho:h.get? S=aa o) (hd:o.data=.set es ep t):(h.update S (FB es' t')).get? S=aa {o with data:=.set es' (ep+1) t'}:=by
 have q:=rS (FB es' t') ho (by rw[putSet_of es' t' hd];rfl)
 rwa [putSet_of es' t' hd] at q
set_option maxHeartbeats 1000000 in
theorem QX {S:au} {ks:ac (ac κ)} {k:ac κ} {Q:aP->aI->Prop} (hsc:∀v k,knd.is k v=aj->v.scannable=aj) (hu:A.units<cg) (ho:s.heap.get? S=aa o) (T:TS knd h0 ks o) (hk:IsTupleKey knd h0 k a)
  (hB:∀b o,h0.get? b=aa o->s.heap.get? b=aa o) (hlen:ks.length<=300)
  (h:∀b h' tk o',s.toks<=tk->iC S s.heap h'->h'.get? S=aa o'->TS knd h0 (ks++[k]) o'->Q b {s with heap:=h',toks:=tk}):aD .(N) A (vg S (.ref a)) Q E s:=by
 obtain⟨hc,es,ep,t,hd,TB,hM,hE,hsz,hin,hout⟩:=T;have up:∀{k:ac κ} {b:au},IsTupleKey knd h0 k b->IsTupleKey knd s.heap k b:=fun q=>IsTupleKey.mono q fun o e=>hB _ _ e;have down:∀{k k':ac κ} {b:au},IsTupleKey knd h0 k' b->IsTupleKey knd s.heap k b->k=k':=fun q1 q2=>q2.inj (up q1);have hE':pW knd s.heap es:=fun i e he=>by obtain⟨k,b,q1,q2⟩:=hE i e he;exact⟨k,b,q1,up q2⟩
 have hddl:=pK ks;obtain⟨n0,f1,f2,f3⟩:=TB.first (bx knd k);unfold vg;refine qU (qw (wpAny_pyHash_tuple hu (up hk) ?_));unfold setAddHashed setAddHashedIn;refine qU (qw (vj (s:={s with toks:=s.toks+(k.length+1)}) ho hd TB.fits ?_));dsimp only;rw[show byScan (.ref a) es=ar from rfl];simp only[qq,cH];unfold setSearch;refine qw (Rf (s:={s with toks:=s.toks+(k.length+1)}) hu ho hd TB hM (up hk) hE' f2 f3 f1 (fun i b hei hb=>?_) (fun hall=>?_) 100000 0 af ?_ (fA _) rfl (fun m i b hm=>by omega))
 ·
  dsimp only;obtain⟨k',b',q1,q2⟩:=hE i _ hei;have:b'=b:=by have:=(TF q1).2;injection this with e;exact e.symm
  subst this;have ek:=down q2 hb;subst ek;have hmem:=hout i k _ hei q2;refine qA (h ar s.heap _ o (by show s.toks<=s.toks+(k.length+1);omega) (S4 S s.heap) ho ⟨hc,es,ep,t,hd,TB,hM,hE,?_⟩);rw[xf,qX hmem];exact⟨hsz,hin,hout⟩
 ·
  dsimp only;have hnew:k∉dd ks:=fun hm=>by obtain⟨i,b,q1,q2⟩:=hin k hm;exact hall i b q1 (up q2)
  have hpl:cA t.place .(v)<=es.size:=by have:=(xy t.place .(v) TB.ri).1;rw[TB.sz] at this;exact this
  have hmaskle:t.mask<=511:=by rcases hM with e|e|e|e<;>omega
  have hmem:∀e,e∈(db es (cA t.place .(v)) (bx knd k,bY a)).toList↔e=(bx knd k,bY a)\/e∈es.toList:=fun e=>by rw[pU _ _ _ hpl];exact wQ _ _ _ _
  have hsize:(db es (cA t.place .(v)) (bx knd k,bY a)).size=es.size+1:=by have:=bU c8 (pU es _ (bx knd k,bY a) hpl);simp only[jS,qj,qi,qE,jg] at this;omega
  have hpsz:(db t.place (cA t.place .(v)) .(v)).size=es.size+1:=by have:=bU c8 (pU t.place _ .(v) (by rw[TB.sz];exact hpl));have h3:=TB.sz;simp only[jS,qj,qi,qE,jg] at this;omega
  refine qw (vj (s:={s with toks:=s.toks+(k.length+1)}) ho hd TB.fits ?_);dsimp only;have fin:∀(es':bO (ah×av)) (t':lx) (h':Heap) (o':Obj),Tb t' es'->Mk t'.mask->(∀e,e∈es'.toList↔e=(bx knd k,bY a)\/e∈es.toList)->es'.size=es.size+1->iC S s.heap h'->h'.get? S=aa o'->o'.ExactSet->(∃ep',o'.data=.set es' ep' t')->Q aj {s with heap:=h',toks:=s.toks+(k.length+1)}:=fun es' t' h' o' q1 q2 q3 q4 q5 q6 q7 q8=>by obtain⟨ep',q8⟩:=q8;obtain⟨w1,w2,w3,w4⟩:=NB hk hE hsz hin hout hnew q3 q4;exact h aj h' _ o' .(b) q5 q6 ⟨q7,es',ep',t',q8,q1,q2,w1,w2,w3,w4⟩
  have bP:∀pl:aP,aD .(N) A (do
    storeSet S .(ba) { (t.put .(v)).1 with plain:=pl}
    if (!ar && vn { (t.put .(v)).1 with plain:=pl})=aj then do
     setRelay S (yX (es.size+1))
     aZ aj
    else aZ aj) Q E {s with toks:=s.toks+(k.length+1)}:=fun pl=>by
   refine qw (TH (s:={s with toks:=s.toks+(k.length+1)}) ho hd ?_ (by show(db es (cA t.place .(v)) (bx knd k,bY a)).size<=aH;rw[hsize,eY];omega));have hg1:=Ey (es':=db es (t.put .(v)).2 (bx knd k,bY a)) (t':={ (t.put .(v)).1 with plain:=pl}) ho hd;have hsb1:=y7 s.heap S (FB .(ba) { (t.put .(v)).1 with plain:=pl});have hdum:(t.put .(v)).1.dummies=#[]:=by show(if Fp t.dummies _ then _ else t.dummies)=#[];rw[TB.dm];rfl
   have hfill:Tf { (t.put .(v)).1 with plain:=pl}=es.size+1:=by show(db t.place _ _).size+(t.put .(v)).1.dummies.size=_;rw[hdum];exact hpsz
   by_cases few:(es.size+1)*5<t.mask*3
   .have hfull:vn { (t.put .(v)).1 with plain:=pl}=ar:=by unfold vn;rw[hfill];exact qO (by show ¬((es.size+1)*5 ≥ t.mask*3);omega)
    rw[hfull];simp only[oI,SM,qq,cH];refine qA (fin _ _ _ _ (TB.put (x:=.ref a) f2 f3 few pl) hM hmem hsize hsb1 hg1 hc ⟨_,rfl⟩)
   .have hfull:vn { (t.put .(v)).1 with plain:=pl}=aj:=by unfold vn;rw[hfill];exact qT (by show((es.size+1)*5 ≥ t.mask*3);omega)
    rw[hfull];simp only[oI,Bool.and_true,cy];obtain⟨m1,m2,m3⟩:=hM.grow TB.few few .(b);have hes1:.(ba).size=es.size+1:=hsize;obtain⟨t',order,r1,r2,r3,r4,r5,r6⟩:=Full.relaid (t:={ (t.put .(v)).1 with plain:=pl}) (es:=db es (t.put .(v)).2 (bx knd k,bY a)) m1.full (by rw[hes1];exact m2);unfold setRelay;have hfits:Fq { (t.put .(v)).1 with plain:=pl} .(ba).size=aj:=by unfold Fq;rw[hfill,hes1,fU];have:=TB.few;exact⟨by rw[k0];exact hpsz,qT (by show es.size+1<=t.mask;omega)⟩
    refine qw ?_;refine qw (vj (s:={s with heap:=_,toks:=s.toks+(k.length+1)}) hg1 rfl hfits ?_);dsimp only;rw[qY (by rw[eY];omega),r1];refine qw ?_;show aD _ _ (if ((order.filterMap (.(ba)[·]?)).size != .(ba).size)=aj then _ else _) _ _ _;rw[qY (by rw[r2];simp)];refine qA ?_;dsimp only;refine TH (s:={s with heap:=_,toks:=s.toks+(k.length+1)}) hg1 rfl ?_ (by rw[r2,hes1,eY];omega);refine qA (fin _ t' _ _ r3 (by rw[r5];exact m1) (fun e=>(r4 e).trans (hmem e)) (by rw[r2,hes1]) (hsb1.trans (y7 _ S _)) (Ey hg1 rfl) hc ⟨_,rfl⟩)
  split
  .refine qw (Ha (s:={s with toks:=s.toks+(k.length+1)}) (up hk) hsc fun bv=>?_);cases bv
   .exact bP ar
   .exact bP _
  .refine qw (qA ?_);exact bP _
 .show n0-0<100000;have:t.mask<=511:=by rcases hM with e|e|e|e<;>omega
  omega
end
end ST
section
open ST
instance (priority:=high) keyBEq:BEq Key:=TJ
instance (priority:=high) keyLaw:LawfulBEq Key:=inferInstanceAs (@LawfulBEq Key TJ)
noncomputable def Cr (n:ao) (o:Obj):Prop:=o.ExactSet/\∃es ep t,o.data=.set es ep t/\t.fits es.size=aj/\es.size=n
def kB (p:au) (n:ao):HO:=.ext fun h=>∃o,h.get? p=aa o/\Cr n o
theorem Bp (v:av) (k:Key) (h:(cE P w).is k v=aj):v.scannable=aj:=by rcases iu h with⟨i,t,rfl,rfl⟩|⟨x,t,rfl,rfl⟩<;>rfl
noncomputable def PF:ac V->Hp->VK->Prop:=fun xs H Q=>∃a vs,xs=[.ref a]/\H a=aa (.lst vs)/\vs.length<=300 /\
 ((∃ks:ac Key,vs=ks.map kV/\∀p,H p=af->Q (.ref p) (upd H p (kB p (dd ks).length))) \/
 (∃ts:ac (ac Key),vs.length=ts.length/\(∀(i:ao) t,ts[i]?=aa t->∃b,vs[i]?=aa (.ref b)/\H b=aa (.tup (t.map kV)))/\∀p,H p=af->Q (.ref p) (upd H p (kB p (dd ts).length))))
theorem QP (hc:X.calm=aj) (hu:X.A.units+66<cg):eU X (.type "set") PF:=by
 intro pins s σ H xs us Q I r h;obtain⟨a,vs,rfl,ha,hl,h⟩:=h;obtain⟨u,rfl,ru⟩:=eQ r;cases ru;obtain⟨its,rv,pl,hz⟩:=I.list (.inl (.inl ha));have hlen:=rv.length;have hsz:its.toArray.size=vs.length:=by rw[qB,hlen]
 have fin:∀(n:ao) (h':Heap) (tk:ao) (o:Obj),h'.get? s.heap.objs.size=aa o->Cr n o->(∀b o,b<s.heap.objs.size->s.heap.get? b=aa o->h'.get? b=aa o)->
   (∀p,H p=af->Q (.ref p) (upd H p (kB p n)))->EP X pins σ Q .(aQ) {s with heap:=h',toks:=tk}:=fun n h' tk o ho hn hk q=>by
  refine⟨.ref s.heap.objs.size,_,I.laid (a:=s.heap.objs.size) (o:=kB s.heap.objs.size n) (fun b u e=>hk b u (qu e) e) (qv _) ?_,rfl,q _ I.fresh⟩;refine⟨⟨o,ho,hn⟩,⟨o,ho⟩,fun h1 h2 hp hk2=>?_⟩;obtain⟨o1,q1,q2⟩:=hp;exact⟨o1,hk2 o1 q1,q2⟩
 rcases h with⟨ks,rfl,q⟩|⟨ts,ht,hts,q⟩
 ·
  have hkl:ks.length=its.length:=by rw[←hlen,qf]
  refine DM (I.ok.hd hc) pl.isList (fun i o=>o.SetObjOf (cE X.prog X.w) (fun k=>decide (k∈dd (ks.take i))) (dd (ks.take i)).length) (fun led=>?_) (fun A' hA' i v sh o Q' E' hi hv ho hJ hB hQ=>?_) fun h' tk o ho hJ hk=>?_
  .have:=setObjOf_fresh (knd:=cE X.prog X.w) led;simpa[dd] using this
  .have hi':i<ks.length:=by rw[qB] at hi;omega
   obtain⟨u2,hu2,ru2⟩:=rv.get (i:=i) (x:=kV ks[i]) (by simp[hi']);have ev:v=u2:=by
    have hv':its[i]?=aa v:=by simpa using hv
    rw[hu2] at hv';exact(qH hv').symm
   subst ev;have hkey:=ka (P:=X.prog) (w:=X.w) ru2;have hle:(dd (ks.take i)).length<=300:=by have h1:=pK (ks.take i);rw[qE] at h1;rw[qf] at hl;omega
   unfold vg;refine qU (qw ((cE X.prog X.w).pyHash hkey ?_));refine wpAny_setAddHashed_of (knd:=cE X.prog X.w) (s:={sh with toks:=sh.toks+1}) hkey (Bp _ _ hkey) (hJ.setOf ho (by unfold FC;omega)) (by unfold FC;omega) fun h' hsb hS2=>?_;obtain⟨o',ho',hso⟩:=hS2.objOf;refine hQ _ h' _ o' (mC _) hsb ho' ?_;have htk:ks.take (i+1)=ks.take i++[ks[i]]:=by rw[j5,qD hi'];rfl
   show Obj.SetObjOf (cE X.prog X.w) o' (fun k=>decide (k∈dd (vd (i+1) ks))) (dd (vd (i+1) ks)).length;rw[htk,xf];by_cases hm:ks[i]∈dd (ks.take i)
   .rw[qX hm];rw[qX (by simpa using hm)] at hso;have e:(fun k'=>decide (k'∈dd (ks.take i)) || decide (k'=ks[i]))=fun k'=>decide (k'∈dd (ks.take i)):=by
     funext k'
     by_cases hk':k'=ks[i]
     .subst hk';simp[hm]
     .simp[hk']
    rw[e] at hso;exact hso
   .rw[qY hm];rw[qY (by simpa using hm)] at hso;have e:(fun k'=>decide (k'∈dd (ks.take i)) || decide (k'=ks[i]))=fun k'=>decide (k'∈dd (ks.take i)++[ks[i]]):=by
     funext k'
     rw[uP];simp
    rw[e] at hso;simpa using hso
  .have e:ks.take its.toArray.size=ks:=by rw[qB,←hkl];exact ij
   rw[e] at hJ;have hS:=hJ.setOf ho (by have:=pK ks;rw[qf] at hl;unfold FC;omega);obtain⟨o1,es,ep,t,v0,v1,v2,_,_,_,v3,v4⟩:=hS;rw[ho] at v0;cases v0;exact fin _ h' tk o ho ⟨v1,es,ep,t,v2,v3,v4⟩ hk q
 ·
  have hkl:ts.length=its.length:=by rw[←hlen,ht]
  refine DM (I.ok.hd hc) pl.isList (fun i o=>ST.TS (cE X.prog X.w) s.heap (ts.take i) o) (fun led=>?_) (fun A' hA' i v sh o Q' E' hi hv ho hJ hB hQ=>?_) fun h' tk o ho hJ hk=>?_
  .refine⟨⟨rfl,rfl,rfl⟩,#[],0,vo 0 0 led,rfl,?_,.inl rfl,fun i e he=>by simp at he,rfl,fun k hk=>by simp[dd] at hk,fun i k b he=>by simp at he⟩;exact⟨Av,rfl,rfl,by simp[vo],by simp[vo],by simp[vo],fun i j h x hp=>by simp[vo] at hp⟩
  .have hi':i<ts.length:=by rw[qB] at hi;omega
   obtain⟨b,hb1,hb2⟩:=hts i ts[i] (by simp[hi']);obtain⟨u2,hu2,ru2⟩:=rv.get hb1;have ev:v=u2:=by
    have hv':its[i]?=aa v:=by simpa using hv
    rw[hu2] at hv';exact(qH hv').symm
   subst ev;cases ru2;have hkey:=kG I.hok hb2;have htk:ts.take (i+1)=ts.take i++[ts[i]]:=by rw[j5,qD hi'];rfl
   refine QX (fun v k=>Bp v k) .(b) ho hJ hkey (fun b' o' e=>hB b' o' (qu e) e) (by rw[qE];have:=hl;omega) fun bb h' tk o' h1 h2 h3 h4=>hQ bb h' tk o' h1 h2 h3 (by show ST.TS _ _ (vd (i+1) ts) o';rw[htk];exact h4)
  .have e:ts.take its.toArray.size=ts:=by rw[qB,←hkl];exact ij
   rw[e] at hJ;obtain⟨hc',es,ep,t,w1,w2,w3,w4,w5,w6,w7⟩:=hJ;exact fin _ h' tk o ho ⟨hc',es,ep,t,w1,w2.fits,w5⟩ hk q
theorem Op:eU X (.builtin "len") (fun xs H Q=>∃p n,xs=[.ref p]/\H p=aa (kB p n)/\n<=300/\Q (.int n) H):=by intro pins s σ H xs us Q I r h;obtain⟨p,n,rfl,hp,hn,q⟩:=h;obtain⟨u,rfl,ru⟩:=eQ r;cases ru;obtain⟨⟨o,ho,hex,es,ep,t,w1,w2,w3⟩,_,_⟩:=I.hok p _ hp;exact call_len_set ho hex w1 w2 .(b) ⟨.int n,H,I.tok _,⟨_,by rw[w3]⟩,q⟩
end
section
open ST
noncomputable def lV:ac D->aq (ac (ac Key))
 |[]=>aa []
 |.tup t::r=>(eE t).bind fun k=>(lV r).map (k::·)
 |_::_=>af
theorem A9 {Γ:Cn} {K:aW} {G H:Hp} (gh:ba G H):∀{vs:ac V} {ds:ac D} {ts:ac (ac Key)},Reps Γ K G vs ds->lV ds=aa ts->vs.length=ts.length/\∀(i:ao) t,ts[i]?=aa t->∃b,vs[i]?=aa (.ref b)/\H b=aa (.tup (t.map kV))
 |_,[],ts,r,h=>by cases r;cases h;exact⟨rfl,fun i t e=>by simp at e⟩
 |_,d::ds,ts,.cons h1 h2,h=>by
  cases d with
  |tup t=>
   unfold lV at h;obtain⟨k,hk,h⟩:=oBd h;obtain⟨zs,hz,rfl⟩:=oMd h;obtain⟨a,us,rfl,ha,ra⟩:=h1.tup_inv;have e:=jP ra hk;subst e;obtain⟨q1,q2⟩:=A9 gh h2 hz;refine⟨by rw[qi,qi,q1],fun i t' e=>?_⟩;cases i with
   |zero=>cases e;exact⟨a,rfl,gh _ _ ha⟩
   |succ i=>exact q2 i t' e
  |_=>cases h
def n9:D->aq D
 |.lst l=>if l.length<=300 then match eE l with
  |some ks=>aa (.int (dd ks).length)
  |none=>(lV l).map fun ts=>.int (dd ts).length
  else af
 |_=>af
section
variable {pos2:dq}
theorem ID (hc:X.calm=aj) (hu:X.A.units+66<cg) (hgl:Gl X "len") (hml:X.mg "len"=af) (hgs:Gl X "set") (hms:X.mg "set"=af) (h:DE Γ X e f)
  (h1:aO ([.Call (.Name "set" p2) [e] [] pos2]:ac Expr) X.env=(ar,eval (.Call (.Name "set" p2) [e] [] pos2) X.env)::aO [] X.env:=by rfl) (h2:(bV pos (aO [] X.env)).any (·.1)=ar:=by rfl)
  (h3:aO ([e]:ac Expr) X.env=(ar,eval e X.env)::aO [] X.env:=by rfl) (h4:(bV pos2 (aO [] X.env)).any (·.1)=ar:=by rfl) :
  DE Γ X (.Call (.Name "len" p) [.Call (.Name "set" p2) [e] [] pos2] [] pos) (b1 n9 f):=⟨by
 refine(zB Op hgl hml (by rfl) (iH (Cj (QP hc hu) hgs hms (by rfl) (iH h.1 jx h3) .(f) .(f) h3 h4) jx h1) .(f) .(f) h1 h2).imp fun σ H Q=>?_;rintro⟨G₀,H₀,G,ρ,d,A,hq,k⟩;unfold b1 at hq;obtain⟨x,hx,hl⟩:=oBd hq;clear hq;refine⟨G₀,H₀,G,ρ,x,A,hx,fun v G1 H1 s1 r1=>?_⟩;unfold n9 at hl;split at hl
 .rename_i l;split at hl
  .rename_i hz;obtain⟨a,vs,rfl,ha,ra⟩:=r1.lst_inv;have go:∀(n:ao),n<=300->d=.int n->∀p,H1 p=af->∃p' n',[V.ref p]=[V.ref p']/\(upd H1 p (kB p n)) p'=aa (kB p' n')/\n'<=300/\Q (.int n') (upd H1 p (kB p n)):=fun n hn ed p hp=>by subst ed;refine⟨p,n,rfl,bj,hn,k _ G1 _ (s1.trans (Step.newOwn s1.gh hp)) (.int _)⟩
   refine⟨a,vs,rfl,s1.gh _ _ ha,by rw[ra.length];exact hz,?_⟩;split at hl
   .rename_i ks hk;refine .inl ⟨ks,jP ra hk,go _ ?_ (qH hl).symm⟩;have h5:=pK ks;have h6:ks.length=l.length:=by have:=jP ra hk;rw[←ra.length,this,qf]
    omega
   .obtain⟨ts,ht,e1⟩:=oMd hl;obtain⟨q1,q2⟩:=A9 s1.gh ra ht;refine .inr ⟨ts,q1,q2,go _ ?_ e1.symm⟩;have h5:=pK ts;have h6:=ra.length;omega
  .cases hl
 .cases hl⟩
end
end
namespace DT
theorem Q6:yA (.type "list") "keys"=aZ af:=by rw[TK,TL];kernel_rfl
theorem Oq:yA (.type "list") "__getattr__"=aZ af:=by rw[TK,TL];kernel_rfl
theorem KL {l:au} {u:Tok} {R:lb->aI->Prop} {xs:bO av} (hx:s.heap.get? l=aa {cls:=.type "list",data:=.seq xs n}) (hA:A.handled=af)
  (h:∀h' tk e,Heap.NewAttrErr s.heap h' e (.ref l) "keys"->R (.error (.ref e)) {s with heap:=h',toks:=tk}) :
  fz .(N) A (.call (.builtin "list.__getattribute__") ⟨[.ref l,.str "keys" u],[]⟩) R s:=by
 obtain⟨hp,g,d,tk,os⟩:=s;have hT:(⟨hp,g,d,tk,os⟩:aI).TypeIs (.ref l) "list":=⟨_,hx,rfl⟩;have f1:=Q6;refine Tv y9.plain F.entry_list_ga (y9.check _ _ _ _ _ _ _ _ hT (F.args_list_getattribute_2 _ _) ?_);unfold Builtin.«object.__getattribute__»
 repeat (any_goals (first|assumption|wp_step))
 have hsz:(ib "keys").length+100<=aH:=by rw[PySem.ofString_length];decide
 refine wpAny_raiseAttrError (A:=A.in1) hA h ?_;exact attrMsg_fits .(P) hsz
set_option maxHeartbeats 4000000 in
theorem Qa {l:au} {Q:aq av->aI->Prop} {xs:bO av} (hx:s.heap.get? l=aa {cls:=.type "list",data:=.seq xs n}) (hA:A.handled=af)
  (h:∀h' tk,(∀b ob,s.heap.get? b=aa ob->h'.get? b=aa ob)->Q af {s with heap:=h',toks:=tk}) :
  aD .(N) A (getAttr? (.ref l) "keys") Q E s:=by
 obtain⟨hp,g,d,tk,os⟩:=s;have hT:∀tk',(⟨hp,g,d,tk',os⟩:aI).TypeIs (.ref l) "list":=fun _=>⟨_,hx,rfl⟩;have f1:=sub_AttributeError;have f2:=y9.lookup;have f3:=y9.bind (.ref l);have f5:=Oq;unfold getAttr? getAttrBy?;refine qw (wpAny_mkText ?_);refine qw (FD ?_);unfold getAttrBy;refine qU (qw (uV (hT _) (qw (rT f2 ?_))));show aD _ _ (TM _ _ _ _ _ _) _ _ _;unfold TM;refine qw (m:=hookBefore (kW "list")) (qA ?_);refine qw (FD (qU ?_));show aD _ _ (TN _ _ _) _ _ _;unfold TN;refine qw (rT f3 ?_);refine yv (KL (s:=⟨hp,g,d,tk+1,os⟩) hx hA fun h' tk' e hn=>?_);obtain⟨t',u',he⟩:=hn.there;have hE:yY ⟨h',g,d,tk',os⟩ (.ref e) "AttributeError":=⟨_,he,rfl⟩;show aD _ _ (TQ _ _ _ _ _ _ _) _ _ _;unfold TQ;refine qw (FF hE f1 ?_);simp only[cy];refine qw (m:=hookBehind (kW "list") af) (rT f5 ?_);unfold hookOrError attributeErrorLeaves;simp only[oI,cy];refine qw (wpAny_throw ?_);refine qw (FF hE f1 ?_);simp only[cy];exact qA (h h' tk' hn.keeps)
theorem Bu:entryFor table "dict.update.loop"=aa Builtin.«dict.update.loop»:=entryFor_of_tree (by kernel_rfl)
theorem t5:plainId "dict.update.loop"=aj:=by decide +kernel
section
variable {R:lb->aI->Prop} {G:bO rg->bO rg->Prop} {P:ao->av->Prop} {St:ao->aI->Prop}
noncomputable def zO (prog:dF) (w:cL) (A:cR) (S:au) (h0:Heap) (P:ao->av->Prop) (n:ao) (J:ao->Obj->Prop):Prop:=
 ∀(i:ao) (b:au) (kv vv:av) (s:aI) (o:Obj) (Q:mz->aI->Prop) (E:av->aI->Prop),i<n->P i (.ref b)->h0.IsTuple b #[kv,vv]->s.heap.get? S=aa o->J i o->(∀b o,b<h0.objs.size->h0.get? b=aa o->s.heap.get? b=aa o)->
  (∀h' tk o',s.toks<=tk->iC S s.heap h'->h'.get? S=aa o'->J (i+1) o'->Q () {s with heap:=h',toks:=tk})->aD .(N) A (dictSet S kv vv) Q E s
theorem OS (W:WalksS prog w A.in1 I fp wr G n P St) (S:au) (hSf:S∉fp) (h0:Heap) (hS0:h0.objs.size<=S) (hw0:∀b∈wr,h0.objs.size<=b) (J:ao->Obj->Prop) (hadd:zO prog w A.in1 S h0 P n J) (hP:∀i v,P i v->∃b kv vv,v=.ref b/\h0.IsTuple b #[kv,vv]) :
  ∀(k i:ao) (c:ah) (s:aI) (o:Obj),n-i=k->i<=n->St i s->s.heap.get? S=aa o->J i o->(∀b o,b<h0.objs.size->h0.get? b=aa o->s.heap.get? b=aa o)->
   (∀s' o',Moved (S::wr) G s s'->s'.heap.get? S=aa o'->J n o'->R (.ok (.ret .none)) s')->
   fz .(N) A (.builtin "dict.update.loop" ⟨[.ref S,.ref I,rj c,.none],[]⟩) R s:=by
 have hSw:S∉wr:=fun h=>hSf (W.sub _ h);have hsub:∀b∈wr,b∈S::wr:=fun b hb=>qh _ hb;have keep:∀{h h':Heap},(∀b o,b<h0.objs.size->h0.get? b=aa o->h.get? b=aa o)->(∀b o,b∉S::wr->h.get? b=aa o->h'.get? b=aa o)->∀b o,b<h0.objs.size->h0.get? b=aa o->h'.get? b=aa o:=fun q1 q2 b o hb e=>q2 b o (fun z=>by
  rcases cr.mp z with z|z
  .rw[z] at hb;exact bA hb (yK.mpr hS0)
  .exact bA hb (yK.mpr (hw0 b z))) (q1 b o hb e)
 intro k
 induction k with
 |zero=>
  intro i c s o hk hi hst hS hJ hB hR;have hin:i=n:=by omega
  subst hin;refine ie Bu ?_;rw[iE t5 _];show aD _ A.in1 (fO (.ref I) >>= _) _ _ s;refine qw (W.done s _ _ hst fun s' hm=>?_);show aD _ A.in1 (UX S [] >>= _) _ _ s';exact qw (qA (qA (hR s' o (hm.mono hsub) (hm.heap S _ hSw hS) hJ)))
 |succ k ih=>
  intro i c s o hk hi hst hS hJ hB hR;have hlt:i<n:=by omega
  refine ie Bu ?_;rw[iE t5 _];show aD _ A.in1 (fO (.ref I) >>= _) _ _ s;refine qw (W.item i s _ _ hlt hst fun v s' hPv hst' hm=>?_);obtain⟨b,kv,vv,rfl,hb⟩:=hP i v hPv;have hB':=keep hB fun b o hb e=>hm.heap b o (fun z=>hb (hsub b z)) e;obtain⟨ob,hob,hoc,nn,hod⟩:=hb;have hob':s'.heap.get? b=aa ob:=hB' b ob (qu hob) hob;have hTb:s'.TypeIs (.ref b) "tuple":=⟨_,hob',hoc⟩;show aD _ A.in1 (hW [bY b] _ >>= _) _ _ s';refine qw (qU ?_);refine qw ?_;refine ji ?_;unfold UY;refine qw (uV hTb ?_);rw[qX .(f)];refine qw (jh hob' hod (qA ?_));show aD _ A.in1 (hW [kv,vv] (dictSet S kv vv)) _ _ s';refine qU (hadd i b kv vv s' o _ _ hlt hPv ⟨ob,hob,hoc,nn,hod⟩ (hm.heap S _ hSw hS) hJ hB' fun h' tk o' htk hsb hS' hJ'=>?_);refine qA ⟨ig t5 _,ih (i+1) (c+1) _ o' .(b) hlt (W.frame _ s' _ _ hst' htk fun b hb o e=>?_) hS' hJ' ?_ fun s'' o'' hm'' hS'' hJ''=>?_⟩
  .rw[hsb.2 b (fun h:b=S=>hSf (by rw[←h];exact hb))];exact e
  .refine keep hB' fun b o hb e=>?_;show h'.get? b=aa o;rw[hsb.2 b (fun h:b=S=>hb (by rw[h];exact qg))];exact e
  .refine hR s'' o'' (Tu W.gtrans ((hm.mono hsub).then_heap htk fun b o hb e=>?_) hm'') hS'' hJ'';rw[hsb.2 b (fun h:b=S=>hb (by rw[h];exact qg))];exact e
end
theorem call_dict_gen {l:au} {c:ao} (hh:A.handled=af) (hl:s.heap.get? l=aa {cls:=.type "list",data:=.seq items c}) (J:ao->Obj->Prop)
  (hJ0:J 0 {cls:=.type "dict",data:=.dict #[]})
  (hadd:∀A':cR,A'.units<=A.units+16->zO prog w A' s.heap.objs.size s.heap (fun i v=>items[i]?=aa v) items.size J)
  (hP:∀(i:ao) (v:av),items[i]?=aa v->∃b kv vv,v=.ref b/\s.heap.IsTuple b #[kv,vv])
  (h:∀(h':Heap) (tk:ao) (o:Obj),h'.get? s.heap.objs.size=aa o->J items.size o->
   (∀b o,b<s.heap.objs.size->s.heap.get? b=aa o->h'.get? b=aa o)->Q .(aQ) {s with heap:=h',toks:=tk}) :
  aD .(N) A (call (.type "dict") [.ref l]) Q E s:=by
 refine callType_codes (Q₁:=fun obj s₁=>obj=.ref s.heap.objs.size/\s₁={s with heap:=s.heap.push {cls:=.type "dict",data:=.dict #[]} }) F.kt_called_dict (F.kt_typeCall_dict_1 _) F.entry_dict_init (kt_code_dict_new _ ⟨rfl,rfl⟩) ?_;rintro obj s₁ ⟨rfl,rfl⟩;have hnew:(s.heap.push {cls:=.type "dict",data:=.dict #[]}).get? s.heap.objs.size=aa {cls:=.type "dict",data:=.dict #[]}:=qG _ rfl;have hl1:(s.heap.push {cls:=.type "dict",data:=.dict #[]}).get? l=aa {cls:=.type "list",data:=.seq items c}:=qt _ hl;have hT:yY {s with heap:=s.heap.push {cls:=.type "dict",data:=.dict #[]} } .(aQ) "dict":=⟨_,hnew,rfl⟩;have hTl:yY {s with heap:=s.heap.push {cls:=.type "dict",data:=.dict #[]} } (.ref l) "list":=⟨_,hl1,rfl⟩;refine⟨hT,F.args_dict_init_2 _ _,?_⟩;unfold Builtin.«dict.__init__»;refine qw ?_;unfold UZ;refine qw (TR hT ?_);show aD _ _ (aZ (s.heap.objs.size,[bY l])) _ _ _;refine qA ?_;show aD _ _ (TU "dict.__init__" s.heap.objs.size (.ref l) [] .none) _ _ _;unfold TU;refine qw (uV hTl ?_);rw[qX .(f)];refine qw (Qa (s:={s with heap:=s.heap.push {cls:=.type "dict",data:=.dict #[]} }) (A:=A.in1.in1) hl1 hh fun h1 tk1 hk1=>?_);simp only[Option.isNone_none,cy];refine qw (yo ?_);have hl2:h1.IsList l items:=⟨_,hk1 _ _ hl1,rfl,_,rfl⟩;refine qw (rK (s:={s with heap:=h1,toks:=tk1}) hl2 ?_);refine qA ⟨ig t5 _,?_⟩;have hlS:l<s.heap.objs.size:=qu hl;have hsz1:s.heap.objs.size<h1.objs.size:=qu (hk1 _ _ hnew);have hneI:l≠h1.objs.size:=qC (rH hlS hsz1);have hSf:s.heap.objs.size∉[h1.objs.size,l]:=by simp only[qM,bL,qJ,or_false,rR];exact⟨qC hsz1,yq hlS⟩
 have old:∀b o,b<s.heap.objs.size->s.heap.get? b=aa o->h1.get? b=aa o:=fun b o _ e=>hk1 _ _ (qt _ e);refine OS ((u6 (A:=A.in1.in1) (by simpa using hh) _ l hneI items).toS) s.heap.objs.size hSf s.heap (qv _) (fun b hb=>?_) J (hadd _ (by show A.units+2<=_;omega)) hP (items.size-0) 0 0 _ _ .(b) (fA _)
  ⟨⟨_,qG _ rfl,rfl,rfl⟩,hl2.push _⟩ (qt _ (hk1 _ _ hnew)) hJ0 (fun b o hb e=>qt _ (old b o hb e)) fun s' o' hm hS' hJ'=>?_
 .have:b=h1.objs.size:=by simpa using hb
  rw[this];exact rf hsz1
 .obtain⟨h',g',d',tk',os'⟩:=s';have eg:g'=s.gens:=hm.gens;have ed:d'=s.drawn:=hm.drawn;have eo:os'=s.os:=hm.os;subst eg;subst ed;subst eo;refine⟨rfl,h h' tk' o' hS' hJ' fun b o hb e=>hm.heap b o ?_ (qt _ (old b o hb e))⟩;simp only[qM,bL,qJ,or_false,rR];exact⟨qC hb,qC (rH hb hsz1)⟩
end DT
section
variable [dG κ]
def mrg (kvs ps:ac (κ×V)):ac (κ×V):=ps.foldl (fun acc kv=>putK acc kv.1 kv.2) kvs
theorem Cv (kvs ps:ac (κ×V)) (p:κ×V):mrg kvs (ps++[p])=putK (mrg kvs ps) p.1 p.2:=by unfold mrg;rw[yZ];rfl
theorem NY (kvs:ac (κ×V)) (k:κ) (v:V):(putK kvs k v).length<=kvs.length+1:=by
 unfold putK;split
 .rw[qf];omega
 .rw[qj,oy];omega
theorem uA:∀(ps kvs:ac (κ×V)),(mrg kvs ps).length<=kvs.length+ps.length:=by
 intro xs0
 induction xs0 with
 |nil=>
  intro kvs;exact qv _
 |cons p ps ih=>
  intro kvs;have h1:=ih (putK kvs p.1 p.2);have h2:=NY kvs p.1 p.2;show(mrg (putK kvs p.1 p.2) ps).length<=_;rw[qi];omega
end
noncomputable def Mb:ac V->Hp->VK->Prop:=fun xs H Q=>∃(a:au) (vs:ac V) (ps:ac (Key×V)),xs=[.ref a]/\H a=aa (.lst vs)/\vs.length=ps.length/\ps.length<=1000/\(∀(i:ao) p,ps[i]?=aa p->∃b,vs[i]?=aa (.ref b)/\H b=aa (.tup [kV p.1,p.2])) /\
 ∀q,H q=af->Q (.ref q) (upd H q (.dK (mrg [] ps)))
theorem Co {b:au} {x:V} (I:Inv X pins σ H s) (hb:H b=aa (.tup [x,y])):∃u v,bu x u/\bu y v/\s.heap.IsTuple b #[u,v]:=by
 obtain⟨its,r,p,_⟩:=I.tuple (.inl (.inl hb));cases r with
 |cons r1 r2=>
  cases r2 with
  |cons r2 r3=>
   cases r3;exact⟨_,_,r1,r2,p⟩
theorem tuple_inj {h:Heap} {b:au} {x y:bO av} (p:h.IsTuple b x) (q:h.IsTuple b y):x=y:=by obtain⟨o,h1,_,n,h2⟩:=p;obtain⟨o',g1,_,m,g2⟩:=q;rw[h1] at g1;cases g1;rw[h2] at g2;cases g2;rfl
theorem He (hc:X.calm=aj) (hu:X.A.units+66<cg):eU X (.type "dict") Mb:=by
 intro pins s σ H xs us Q I r h;obtain⟨a,vs,ps,rfl,ha,hl,hz,hp,q⟩:=h;obtain⟨u,rfl,ru⟩:=eQ r;cases ru;obtain⟨z,its,n,rv,hlen,e⟩:=I.lstM ha;have hsz:its.toArray.size=ps.length:=by rw[qB,←hlen,hl]
 have hit:∀(i:ao) (v:av),its.toArray[i]?=aa v->∃p b u w,ps[i]?=aa p/\v=.ref b/\bu (kV p.1) u/\bu p.2 w/\s.heap.IsTuple b #[u,w]:=fun i v hv=>by
  have hi:i<ps.length:=by rw[←hsz];exact(gN.mp hv).1
  obtain⟨b,hb1,hb2⟩:=hp i ps[i] (by simp[hi]);obtain⟨u2,hu2,ru2⟩:=rv.get hb1;have hv':its[i]?=aa v:=by simpa using hv
  rw[hu2] at hv';cases hv';cases ru2;obtain⟨u,w,r1,r2,r3⟩:=Co I hb2;exact⟨ps[i],b,u,w,by simp[hi],rfl,r1,r2,r3⟩
 refine DT.call_dict_gen (I.ok.hd hc) e (fun i o=>∃vs',KV (mrg [] (ps.take i)) vs'/\o.IsDictOf (cE X.prog X.w) vs') ?_ (fun A' hA' i b kv vv sh o Q' E' hi hv hb ho hJ hB hQ=>?_) (fun i v hv=>?_) fun h' tk o ho hJ hk=>?_
 .obtain⟨o,ho,hd⟩:=za.mp (SU (knd:=cE X.prog X.w) s.heap);have:o={cls:=.type "dict",data:=.dict #[]}:=by have:=qG s.heap (o:={cls:=.type "dict",data:=.dict #[]}) rfl;rw[this] at ho;exact(qH ho).symm
  subst this;exact⟨[],.nil,hd⟩
 .obtain⟨p,b',u,w,h1,h2,h3,h4,h5⟩:=hit i _ hv;cases h2;have e2:=tuple_inj hb h5;have e3:kv=u/\vv=w:=by simpa using e2
  obtain⟨rfl,rfl⟩:=e3;obtain⟨vs',k1,k2⟩:=hJ;have hle:vs'.length<=1000:=by have q1:=k1.length;have q2:=uA (ps.take i) ([]:ac (Key×V));rw[qE,ql] at q2;omega
  refine wpAny_dictSet_pairs (ka h3) (za.mpr ⟨o,ho,k2⟩) (fun h' hd' hsb=>?_) (by rw[eY];omega);obtain⟨o',ho',hd''⟩:=za.mp hd';refine hQ h' _ o' (mC _) hsb ho' ⟨_,?_,hd''⟩;have htk:ps.take (i+1)=ps.take i++[p]:=by rw[j5,h1];rfl
  rw[htk,Cv];exact k1.put p.1 h4
 .obtain⟨p,b,u,w,h1,h2,h3,h4,h5⟩:=hit i v hv;exact⟨b,u,w,h2,h5⟩
 .obtain⟨vs',k1,k2⟩:=hJ;rw[hsz,ij] at k1;refine⟨.ref s.heap.objs.size,_,I.laid (a:=s.heap.objs.size) (o:=.dK (mrg [] ps)) (fun b u e=>hk b u (qu e) e) (qv _) ⟨?_,?_,vs',k1,za.mpr ⟨o,ho,k2⟩⟩,rfl,q _ I.fresh⟩
  .have:=uA ps ([]:ac (Key×V));rw[ql] at this;rw[eY];omega
  .exact kS.mpr (cM (qC I.big))
noncomputable def HE:ac V->Hp->VK->Prop:=fun xs H Q=>∃(a:au) (vs:ac V) (ps:ac .(aR)),xs=[.ref a]/\H a=aa (.lst vs)/\vs.length=ps.length/\ps.length<=2000/\(∀(i:ao) p,ps[i]?=aa p->∃b kb,vs[i]?=aa (.ref b)/\H b=aa (.tup [.ref kb,p.2])/\H kb=aa (.tup (p.1.map kV))) /\
 ∀q,H q=af->Q (.ref q) (upd H q (.dT (mrg [] ps)))
theorem Ka {P:ac Key->au->Prop} (hP:∀k b,H b=aa (.tup (k.map kV))->P k b):∀{kvs:ac .(aR)} {xs:ac (ac Key×au×av)},KT H kvs xs->∀x∈xs,P x.1 x.2.1:=by
 intro kvs xs q
 induction q with
 |nil=>intro x hx;cases hx
 | @cons p y ps ys hq t ih=>
  intro x hx;rcases cr.mp hx with rfl|hx
  .exact hP _ _ (by rw[←hq.1];exact hq.2.1)
  .exact ih x hx
theorem MB (hc:X.calm=aj) (hu:X.A.units+66<cg):eU X (.type "dict") HE:=by
 intro pins s σ H xs us Q I r h;obtain⟨a,vs,ps,rfl,ha,hl,hz,hp,q⟩:=h;obtain⟨u,rfl,ru⟩:=eQ r;cases ru;obtain⟨z,its,n,rv,hlen,e⟩:=I.lstM ha;have hsz:its.toArray.size=ps.length:=by rw[qB,←hlen,hl]
 have hit:∀(i:ao) (v:av),its.toArray[i]?=aa v->∃p b kb w,ps[i]?=aa p/\v=.ref b/\H kb=aa (.tup (p.1.map kV))/\bu p.2 w/\s.heap.IsTuple b #[.ref kb,w]:=fun i v hv=>by
  have hi:i<ps.length:=by rw[←hsz];exact(gN.mp hv).1
  obtain⟨b,kb,hb1,hb2,hb3⟩:=hp i ps[i] (by simp[hi]);obtain⟨u2,hu2,ru2⟩:=rv.get hb1;have hv':its[i]?=aa v:=by simpa using hv
  rw[hu2] at hv';cases hv';cases ru2;obtain⟨u,w,r1,r2,r3⟩:=Co I hb2;cases r1;exact⟨ps[i],b,kb,w,by simp[hi],rfl,hb3,r2,r3⟩
 have isk:∀{h':Heap},(∀b o,b<s.heap.objs.size->s.heap.get? b=aa o->h'.get? b=aa o)->∀k b,H b=aa (.tup (k.map kV))->(kX (cE X.prog X.w)).is h' k b:=fun hB k b hb=>ST.IsTupleKey.mono (kG I.hok hb) fun o e=>hB _ _ (qu e) e;refine DT.call_dict_gen (I.ok.hd hc) e (fun i o=>∃xs',KT H (mrg [] (ps.take i)) xs'/\∃es ep,o.ExactDict/\o.data=.dict es ep/\es.toList=xs'.map (entryOfKey (kX (cE X.prog X.w)))/\(xs'.map (·.1)).Nodup) ?_ (fun A' hA' i b kv vv sh o Q' E' hi hv hb ho hJ hB hQ=>?_) (fun i v hv=>?_) fun h' tk o ho hJ hk=>?_
 .exact⟨[],.nil,#[],0,⟨rfl,rfl,rfl⟩,rfl,rfl,lq⟩
 .obtain⟨p,b',kb,w,h1,h2,h3,h4,h5⟩:=hit i _ hv;cases h2;have e2:=tuple_inj hb h5;have e3:kv=.ref kb/\vv=w:=by simpa using e2
  obtain⟨rfl,rfl⟩:=e3;obtain⟨xs',k1,es,ep,k2,k3,k4,k5⟩:=hJ;have hle:xs'.length<=2000:=by have q1:=Paired.length k1;have q2:=uA (ps.take i) ([]:ac .(aR));rw[qE,ql] at q2;omega
  refine wpAny_dictSet_heap (knd:=kX (cE X.prog X.w)) (show A'.units<cg by omega) (isk hB _ _ h3) ⟨o,es,ep,ho,k2,k3,k4,Ka (isk hB) k1,k5⟩ (fun h' hd' hsb=>?_) (by rw[eY];omega);obtain⟨o',es',ep',ho',w2,w3,w4,_,w5⟩:=hd';refine hQ h' _ o' (yS _ _) hsb ho' ⟨_,?_,es',ep',w2,w3,w4,w5⟩;have htk:ps.take (i+1)=ps.take i++[p]:=by rw[j5,h1];rfl
  rw[htk,Cv];exact k1.put p.1 h3 h4
 .obtain⟨p,b,kb,w,h1,h2,h3,h4,h5⟩:=hit i v hv;exact⟨b,_,w,h2,h5⟩
 .obtain⟨xs',k1,es,ep,k2,k3,k4,k5⟩:=hJ;rw[hsz,ij] at k1;refine⟨.ref s.heap.objs.size,_,I.laid (a:=s.heap.objs.size) (o:=.dT (mrg [] ps)) (fun b u e=>hk b u (qu e) e) (qv _) ⟨?_,?_,xs',k1.keeps fun b ys e=>?_,o,es,ep,ho,k2,k3,k4,k5⟩,rfl,q _ I.fresh⟩
  .have:=uA ps ([]:ac .(aR));rw[ql] at this;rw[eY];omega
  .exact kS.mpr (cM (qC I.big))
  .rw[aF (bD e I.fresh)];exact e
noncomputable def nW:ac D->aq (ac (Key×D))
 |[]=>aa []
 |.tup [k,v]::r=>(fS k).bind fun kk=>(nW r).map ((kk,v)::·)
 |_::_=>af
noncomputable def lG:ac D->aq (ac .(aG))
 |[]=>aa []
 |.tup [.tup t,v]::r=>(eE t).bind fun kk=>(lG r).map ((kk,v)::·)
 |_::_=>af
def o0 [dG κ] (ps:ac (κ×D)):ac (κ×D):=ps.foldl (fun acc kv=>bW acc kv.1 kv.2) []
def ip:ac D->aq D
 |[.lst l]=>if l.length<=1000 then (nW l).map fun ps=>.dk (o0 ps) else af
 |_=>af
def ng:ac D->aq D
 |[.lst l]=>if l.length<=2000 then (lG l).map fun ps=>.dt (o0 ps) else af
 |_=>af
theorem vK {κ:Type} [dG κ] {K:aW} {G:Hp}:∀{us:ac (κ×V)} {kvs:ac (κ×D)} {acc:ac (κ×V)} {acd:ac (κ×D)},us.map (·.1)=kvs.map (·.1)->Reps Γ K G (us.map (·.2)) (kvs.map (·.2))->acc.map (·.1)=acd.map (·.1)->Reps Γ K G (acc.map (·.2)) (acd.map (·.2))->
  (mrg acc us).map (·.1)=(kvs.foldl (fun acc kv=>bW acc kv.1 kv.2) acd).map (·.1)/\Reps Γ K G ((mrg acc us).map (·.2)) ((kvs.foldl (fun acc kv=>bW acc kv.1 kv.2) acd).map (·.2))
 |[],[],_,_,_,_,e,r=>⟨e,r⟩
 |[],_::_,_,_,e,_,_,_=>by cases e
 |_::_,[],_,_,e,_,_,_=>by cases e
 |(k1,v)::us,(k2,d)::kvs,acc,acd,e,r,e0,r0=>by
  have e1:k1=k2:=(fW e).1;subst e1;have r:Reps Γ K G (v::us.map (·.2)) (d::kvs.map (·.2)):=r;cases r with
  |cons r1 r2=>
   obtain⟨w1,w2⟩:=mf (k:=k1) r1 e0 r0;exact vK (us:=us) (kvs:=kvs) (fW e).2 r2 w1 w2
theorem z9 {K:aW} {G H:Hp} (gh:ba G H):∀{vs:ac V} {ds:ac D} {ps:ac (Key×D)},Reps Γ K G vs ds->nW ds=aa ps->
  ∃us:ac (Key×V),vs.length=us.length/\us.map (·.1)=ps.map (·.1)/\Reps Γ K G (us.map (·.2)) (ps.map (·.2))/\∀(i:ao) p,us[i]?=aa p->∃b,vs[i]?=aa (.ref b)/\H b=aa (.tup [kV p.1,p.2])
 |_,[],ps,r,h=>by cases r;cases h;exact⟨[],rfl,rfl,.nil,fun i p e=>by simp at e⟩
 |_,d::ds,ps,.cons h1 h2,h=>by
  unfold nW at h;split at h
  .rename_i heq;cases heq
  .rename_i heq;cases heq;obtain⟨kk,hk,h⟩:=oBd h;obtain⟨zs,hz,rfl⟩:=oMd h;obtain⟨us,q1,q2,q3,q4⟩:=z9 gh h2 hz;obtain⟨a,ws,rfl,ha,ra⟩:=h1.tup_inv;obtain⟨x,y,rfl,rx,ry⟩:=ra.two;have ex:=jz rx hk;subst ex;refine⟨(kk,y)::us,by rw[qi,qi,q1],by simp[q2],.cons ry q3,fun i p e=>?_⟩;cases i with
   |zero=>cases e;exact⟨a,rfl,gh _ _ ha⟩
   |succ i=>exact q4 i p e
  .cases h
theorem Ed {K:aW} {G H:Hp} (gh:ba G H):∀{vs:ac V} {ds:ac D} {ps:ac .(aG)},Reps Γ K G vs ds->lG ds=aa ps->
  ∃us:ac .(aR),vs.length=us.length/\us.map (·.1)=ps.map (·.1)/\Reps Γ K G (us.map (·.2)) (ps.map (·.2))/\∀(i:ao) p,us[i]?=aa p->∃b kb,vs[i]?=aa (.ref b)/\H b=aa (.tup [.ref kb,p.2])/\H kb=aa (.tup (p.1.map kV))
 |_,[],ps,r,h=>by cases r;cases h;exact⟨[],rfl,rfl,.nil,fun i p e=>by simp at e⟩
 |_,d::ds,ps,.cons h1 h2,h=>by
  unfold lG at h;split at h
  .rename_i heq;cases heq
  .rename_i heq;cases heq;obtain⟨kk,hk,h⟩:=oBd h;obtain⟨zs,hz,rfl⟩:=oMd h;obtain⟨us,q1,q2,q3,q4⟩:=Ed gh h2 hz;obtain⟨a,ws,rfl,ha,ra⟩:=h1.tup_inv;obtain⟨x,y,rfl,rx,ry⟩:=ra.two;obtain⟨kb,ks,rfl,hkb,rk⟩:=rx.tup_inv;have ex:=jP rk hk;subst ex;refine⟨(kk,y)::us,by rw[qi,qi,q1],by simp[q2],.cons ry q3,fun i p e=>?_⟩;cases i with
   |zero=>cases e;exact⟨a,kb,rfl,gh _ _ ha,gh _ _ hkb⟩
   |succ i=>exact q4 i p e
  .cases h
theorem nV (hc:X.calm=aj) (hu:X.A.units+66<cg):TyD Γ X "dict" ip:=⟨_,He hc hu,fun {G H vs ds z} gh r h Q k=>by
 unfold ip at h;split at h
 .split at h
  .rename_i hz;obtain⟨ps,hp,rfl⟩:=oMd h;obtain⟨v,rfl,r1⟩:=r.one;obtain⟨a,ws,rfl,ha,ra⟩:=r1.lst_inv;obtain⟨us,q1,q2,q3,q4⟩:=z9 gh ra hp;refine⟨a,ws,us,rfl,gh _ _ ha,q1,by rw[←q1,ra.length];exact hz,q4,fun p hp=>?_⟩;have s:=Step.new (o:=.dK (mrg [] us)) gh hp;obtain⟨w1,w2⟩:=vK (acc:=[]) (acd:=[]) q2 q3 rfl .nil;exact k _ _ _ s (.dk bj w1 (w2.mono s.gg))
  .cases h
 .cases h⟩
theorem CT (hc:X.calm=aj) (hu:X.A.units+66<cg):TyD Γ X "dict" ng:=⟨_,MB hc hu,fun {G H vs ds z} gh r h Q k=>by
 unfold ng at h;split at h
 .split at h
  .rename_i hz;obtain⟨ps,hp,rfl⟩:=oMd h;obtain⟨v,rfl,r1⟩:=r.one;obtain⟨a,ws,rfl,ha,ra⟩:=r1.lst_inv;obtain⟨us,q1,q2,q3,q4⟩:=Ed gh ra hp;refine⟨a,ws,us,rfl,gh _ _ ha,q1,by rw[←q1,ra.length];exact hz,q4,fun p hp=>?_⟩;have s:=Step.new (o:=.dT (mrg [] us)) gh hp;obtain⟨w1,w2⟩:=vK (acc:=[]) (acd:=[]) q2 q3 rfl .nil;exact k _ _ _ s (.dt bj w1 (w2.mono s.gg))
  .cases h
 .cases h⟩
theorem Dfn.none {k:ao} (F:Dfn K mg x st)
  (hb:∀(kV doc pm:av) (an:aq au) (cdv ct:av) (us:ac av),us.length=ps.length->gw .(bj) ⟨us,[]⟩=aZ (ps.zip us))
 : Cal Γ P w K mg base x ps.length k (fun _=>af):=by
 obtain⟨f,fd,h1,h2⟩:=F.ex;refine⟨f,fd,ps,⟨fun vs H Q E h=>?_,fun A outer s H args us vs Q E hr I b v h=>?_⟩,h2,h1.kp,h1.binds hb⟩
 .obtain⟨_,_,_,_,_,_,z,_⟩:=h;cases z
 .obtain⟨_,_,_,_,_,_,z,_⟩:=h;cases z
noncomputable def orG (g g':D->D->aq D) (x y:D):aq D:=match g x y with
 |some z=>aa z
 |none=>g' x y
variable {z:D}
section
variable {a c:Expr} {g g':D->D->aq D}
theorem Ml {x y:D} (h:orG g g' x y=aa z):g x y=aa z\/g' x y=aa z:=by
 unfold orG at h;split at h
 .rename_i q;cases h;exact .inl q
 .exact .inr h
theorem CmpD.or (h:CmpD Γ X op g) (h':CmpD Γ X op g'):CmpD Γ X op (orG g g'):=by
 obtain⟨r,o,d⟩:=h.ex;obtain⟨r',o',d'⟩:=h'.ex;refine⟨_,o.or o',fun {G H v u x y z} gh r1 r2 q Q k=>?_⟩;rcases Ml q with q|q
 .exact .inl (d gh r1 r2 q Q k)
 .exact .inr (d' gh r1 r2 q Q k)
def eqA:=orG eqD jR
def neA:=orG neD pI
theorem tJ (hu:X.A.units+64<cg):CmpD Γ X .Eq eqA:=ue.or (J' hu)
theorem xw (hu:X.A.units+64<cg):CmpD Γ X .NotEq neA:=xr.or (P2 hu)
theorem DfnM.mk' {f:au} {c:ai} {kV:av} (a:ce K (.ref C) m=aa (aa (.ref f))) (i:oq K (.ref f)=aj)
  (l:K.lookup f=aa ⟨oc,od,.func (dS m qual (dU st) (cv st) (aG st) .none kV doc pm an cdv ct),osl⟩) (cd:mI K cdv qual=aj) (k:fP K (.ref f)=aj):DfnM K C c m qual st:=⟨f,_,wk l cd k,a,i⟩
end
section
variable {f1 f2 f3 f4 f5 f6 f7:FE}
theorem ln1:∀ρ ds,ag f1 ak ρ=aa ds->ds.length=1:=l9 fun _ _ h=>F3 h
theorem ln2:∀ρ ds,ag f1 (ag f2 ak) ρ=aa ds->ds.length=2:=l9 ln1
theorem ln3:∀ρ ds,ag f1 (ag f2 (ag f3 ak)) ρ=aa ds->ds.length=3:=l9 ln2
theorem ln4:∀ρ ds,ag f1 (ag f2 (ag f3 (ag f4 ak))) ρ=aa ds->ds.length=4:=l9 ln3
theorem ln5:∀ρ ds,ag f1 (ag f2 (ag f3 (ag f4 (ag f5 ak)))) ρ=aa ds->ds.length=5:=l9 ln4
theorem ln6:∀ρ ds,ag f1 (ag f2 (ag f3 (ag f4 (ag f5 (ag f6 ak))))) ρ=aa ds->ds.length=6:=l9 ln5
theorem ln7:∀ρ ds,ag f1 (ag f2 (ag f3 (ag f4 (ag f5 (ag f6 (ag f7 ak)))))) ρ=aa ds->ds.length=7:=l9 ln6
end
variable {kvs:ac .(aG)}
theorem At.setOdt (A:At Γ K G₀ H₀ G H ρ σ) (ha:H a=af):At Γ K G₀ H₀ G (upd H a (.dT [])) (ρ.set i (aa (.odt []))) (σ.set i (aa (.ref a))):=by have h0:H₀ a=af:=A.st.hh.free ha;have hg:G a=af:=A.gh.free ha;refine A.put (fp:=[]) (fp':=[a]) (.inl rfl) (fun b o e _=>by rw[aF (bD e ha)];exact e) (.odt (us:=[]) (kvs:=[]) h0 hg bj rfl .nil) (fun b hb=>.inr (by rw[bL.mp hb];exact ha)) (.refl _) .(aX) .(aA) .(be);rw[aF (bD e hg)];exact A.gh b o e
theorem At.setOdk (A:At Γ K G₀ H₀ G H ρ σ) (ha:H a=af):At Γ K G₀ H₀ G (upd H a (.dK [])) (ρ.set i (aa (.odk []))) (σ.set i (aa (.ref a))):=by have h0:H₀ a=af:=A.st.hh.free ha;have hg:G a=af:=A.gh.free ha;refine A.put (fp:=[]) (fp':=[a]) (.inl rfl) (fun b o e _=>by rw[aF (bD e ha)];exact e) (.odk (us:=[]) (kvs:=[]) h0 hg bj rfl .nil) (fun b hb=>.inr (by rw[bL.mp hb];exact ha)) (.refl _) .(aX) .(aA) .(be);rw[aF (bD e hg)];exact A.gh b o e
theorem At.chOdt (A:At Γ K G₀ H₀ G H ρ σ) {kvs':ac .(aG)} {us':ac .(aR)} (hi:ρ[i]?=aa (aa (.odt kvs))) (ha:σ[i]?=aa (aa (.ref a))) (e:us'.map (·.1)=kvs'.map (·.1)) (r:Reps Γ K G (us'.map (·.2)) (kvs'.map (·.2))):At Γ K G₀ H₀ G (upd H a (.dT us')) (ρ.set i (aa (.odt kvs'))) σ:=by
 obtain⟨v,fp,h1,h2⟩:=A.get hi;rw[ha] at h1;cases h1;cases h2 with
 |odt q1 q2 q3 q4 q5=>
  refine A.ch hi ha (.odt q1 q2 q3 q4 q5) (fun b o e hb=>?_) (.odt q1 q2 bj e r) (fun b hb=>.inl hb) (.refl _) .(aX) .(aA)
  .rw[aF (fun z=>hb (bL.mpr z))];exact e
  .rw[aF (bD e q2)];exact A.gh b o e
theorem At.chOdk (A:At Γ K G₀ H₀ G H ρ σ) {kvs kvs':ac (Key×D)} {us':ac (Key×V)} (hi:ρ[i]?=aa (aa (.odk kvs))) (ha:σ[i]?=aa (aa (.ref a))) (e:us'.map (·.1)=kvs'.map (·.1)) (r:Reps Γ K G (us'.map (·.2)) (kvs'.map (·.2))):At Γ K G₀ H₀ G (upd H a (.dK us')) (ρ.set i (aa (.odk kvs'))) σ:=by
 obtain⟨v,fp,h1,h2⟩:=A.get hi;rw[ha] at h1;cases h1;cases h2 with
 |odk q1 q2 q3 q4 q5=>
  refine A.ch hi ha (.odk q1 q2 q3 q4 q5) (fun b o e hb=>?_) (.odk q1 q2 bj e r) (fun b hb=>.inl hb) (.refl _) .(aX) .(aA)
  .rw[aF (fun z=>hb (bL.mpr z))];exact e
  .rw[aF (bD e q2)];exact A.gh b o e
noncomputable def B1:Slot->aq D
 |.odt kvs=>aa (.dt kvs)
 |.odk kvs=>aa (.dk kvs)
 |_=>af
theorem At.frzD (A:At Γ K G₀ H₀ G H ρ σ) {s:Slot} (hi:ρ[i]?=aa (aa s)) (hd:B1 s=aa d):∃G',ba G G'/\At Γ K G₀ H₀ G' H (ρ.set i (aa (.sh d))) σ:=by
 obtain⟨v,fp,h1,h2⟩:=A.get hi;cases h2 with
 |sh _=>cases hd
 |own _ _ _ _=>cases hd
 |obj _ _ _ _ _ _ _=>cases hd
 |fo _ _ _ _ _ _ _=>cases hd
 |objd _ _ _ _ _ _ _ _ _ _ _ _=>cases hd
 |odk q1 q2 q3 q4 q5=>
  cases hd;rename_i a us kvs;have sm:ba G (upd G a (.dK us)):=fun b o e=>by rw[aF (bD e q2)];exact e
  refine⟨upd G a (.dK us),sm,A.ch hi h1 (.odk q1 q2 q3 q4 q5) (fun b o e hb=>e) (.sh (.dk bj q4 (q5.mono sm))) .(be) sm .(aX) (fun b o e hb _=>?_)⟩
  .by_cases hb:b=a
   .subst hb;rw[bj] at e;cases e;exact q3
   .rw[aF hb] at e;exact A.gh b o e
  .rw[aF (fun z=>hb (bL.mpr z))]
 |odt q1 q2 q3 q4 q5=>
  cases hd;rename_i a us kvs;have sm:ba G (upd G a (.dT us)):=fun b o e=>by rw[aF (bD e q2)];exact e
  refine⟨upd G a (.dT us),sm,A.ch hi h1 (.odt q1 q2 q3 q4 q5) (fun b o e hb=>e) (.sh (.dt bj q4 (q5.mono sm))) .(be) sm .(aX) (fun b o e hb _=>?_)⟩
  .by_cases hb:b=a
   .subst hb;rw[bj] at e;cases e;exact q3
   .rw[aF hb] at e;exact A.gh b o e
  .rw[aF (fun z=>hb (bL.mpr z))]
section
variable {a c:Expr} {fv:FE}
noncomputable def tX (i:ao):FS:=fun ρ=>aa (.nx,ρ.set i (aa (.odt [])))
noncomputable def sj (i:ao):FS:=fun ρ=>aa (.nx,ρ.set i (aa (.odk [])))
theorem xJ (i:ao) (hN:X.N.Nodup) (hi:X.N[i]?=aa x:=by rfl) (hx:Loc X.env.scope x:=by ac_nf) (hs:dH (.Dict [] [] dp) (aa (.Name x pos')) pos.line X.env=aZ ar:=by rfl) (hf:X.fn x=aj\/X.env.scope.names.lookup x=aa .local:=by ac_nf) :
  DS Γ X (.Assign [.Name x pos'] (.Dict [] [] dp) pos) (tX i):=⟨(pL hN hi hx BN hs hf).imp fun E σ H=>by
 rintro⟨G₀,H₀,G,ρ,fl,ρ',A,h,k⟩ p hp;cases h;exact k _ G _ (.refl _) (A.setOdt hp)⟩
theorem yf (i:ao) (hN:X.N.Nodup) (hi:X.N[i]?=aa x:=by rfl) (hx:Loc X.env.scope x:=by ac_nf) (hs:dH (.Dict [] [] dp) (aa (.Name x pos')) pos.line X.env=aZ ar:=by rfl) (hf:X.fn x=aj\/X.env.scope.names.lookup x=aa .local:=by ac_nf) :
  DS Γ X (.Assign [.Name x pos'] (.Dict [] [] dp) pos) (sj i):=⟨(pL hN hi hx w9 hs hf).imp fun E σ H=>by
 rintro⟨G₀,H₀,G,ρ,fl,ρ',A,h,k⟩ p hp;cases h;exact k _ G _ (.refl _) (A.setOdk hp)⟩
def eR (i:ao) (fk fv:FE):FS:=fun ρ=>(fv ρ).bind fun d=>(fk ρ).bind fun kd=>match ρ[i]? with
 |some (aa (.odt kvs))=>match kd with
  |.tup t=>(eE t).bind fun ks=>if kvs.length<100000 then aa (.nx,ρ.set i (aa (.odt (bW kvs ks d)))) else af
  |_=>af
 |some (aa (.odk kvs))=>(fS kd).bind fun k=>if kvs.length<100000 then aa (.nx,ρ.set i (aa (.odk (bW kvs k d)))) else af
 |_=>af
theorem nX (i:ao) (hu:X.A.units+66<cg) (hk:DE Γ X ke fk) (hv':DE Γ X value fv) (hN:X.N[i]?=aa x:=by rfl) (hv:Vis X.env.scope x:=by ac_nf) (hd:.(s)=ar:=by decide)
  (hcd:.(M)=ar:=by decide) (hs:dH value (aa (.Subscript .(Q) ke pos')) pos.line X.env=aZ ar:=by rfl) :
  DS Γ X (.Assign [.Subscript .(Q) ke pos'] value pos) (eR i fk fv):=⟨(uo .(b) .(aP) hk.1 hv'.1 hs).imp fun E σ H=>by
 rintro⟨G₀,H₀,G,ρ,flw,ρ',A,h,k⟩;unfold eR at h;obtain⟨d,hd,ha⟩:=oBd h;clear h;obtain⟨kd,hkd,hq⟩:=oBd ha;clear ha;refine⟨G₀,H₀,G,ρ,d,A,hd,fun v G1 H1 s1 r1=>?_⟩;have A1:=A.step s1;split at hq
 .rename_i kvs hi;split at hq
  .rename_i t;obtain⟨ks,hks,hq⟩:=oBd hq;split at hq
   .rename_i hz;cases hq;obtain⟨w,fp,h1,h2⟩:=A1.get hi;cases h2 with
    |odt q1 q2 q3 q4 q5=>
     rename_i a us;refine⟨_,h1,G₀,H₀,G1,ρ,_,A1,hkd,fun u G2 H2 s2 r2=>?_⟩;have A2:=A1.step s2;obtain⟨bb,vs,rfl,hb,rb⟩:=r2.tup_inv;have ev:=jP rb hks;subst ev;have ha2:H2 a=aa (.dT us):=s2.hh _ _ q3;have hlen:us.length=kvs.length:=by simpa using bU c8 q4
     obtain⟨w1,w2⟩:=mf (k:=ks) (r1.mono s2.gg) q4 (q5.mono s2.gg);exact⟨a,_,rfl,gZ.t ha2 (s2.gh _ _ hb) (by have:=eY;omega),k σ G2 _ (s1.gg.trans s2.gg) (A2.chOdt hi h1 w1 w2)⟩
   .cases hq
  .cases hq
 .rename_i kvs hi;obtain⟨kk,hkk,hq⟩:=oBd hq;split at hq
  .rename_i hz;cases hq;obtain⟨w,fp,h1,h2⟩:=A1.get hi;cases h2 with
   |odk q1 q2 q3 q4 q5=>
    rename_i a us;refine⟨_,h1,G₀,H₀,G1,ρ,_,A1,hkd,fun u G2 H2 s2 r2=>?_⟩;have A2:=A1.step s2;have eu:=jz r2 hkk;subst eu;have ha2:H2 a=aa (.dK us):=s2.hh _ _ q3;have hlen:us.length=kvs.length:=by simpa using bU c8 q4
    obtain⟨w1,w2⟩:=mf (k:=kk) (r1.mono s2.gg) q4 (q5.mono s2.gg);exact⟨a,_,rfl,gZ.k ha2 (by have:=eY;omega),k σ G2 _ (s1.gg.trans s2.gg) (A2.chOdk hi h1 w1 w2)⟩
  .cases hq
 .cases hq⟩
def lE (i:ao) (g:FS):FS:=fun ρ=>match ρ[i]? with
 |some (aa s)=>match B1 s with
  |some d=>g (ρ.set i (aa (.sh d)))
  |none=>af
 |_=>af
theorem TDs.frzD (i:ao):∀E σ H,TDs Γ X.K (lE i g) E σ H->TDs Γ X.K g E σ H:=by
 rintro E σ H ⟨G₀,H₀,G,ρ,fl,ρ',A,h,k⟩;unfold lE at h;split at h
 .rename_i s hi;split at h
  .rename_i d hd;obtain⟨G',sm,A'⟩:=A.frzD hi hd;exact⟨G₀,H₀,G',_,fl,ρ',A',h,fun σ1 G1 H1 sm1 A1=>k σ1 G1 H1 (sm.trans sm1) A1⟩
  .cases h
 .cases h
theorem sE (i:ao) (h:DSs Γ X sts g):DSs Γ X sts (lE i g):=⟨h.1.imp (TDs.frzD i)⟩
end
section
variable {o:Expr}
end
variable {cp:dq}
section
open PyProof
section
variable {R:lb->aI->Prop} {P:ao->av->Prop} {St:ao->Heap->Prop}
noncomputable abbrev nM (l:ac av) (c:ao):Obj:={cls:=.type "list",dict:=af,data:=.seq l.toArray c,slots:=#[]}
theorem MI (W:lr prog w A.in1 I fp wr n P St) (bt:ao->ao->aP) (kw:ac (ai×av)) (hc:rV prog w A.in1 .Gt P bt) (S:au) (hSf:S∉fp):∀(m j:ao) (s:aI) (u:av) (c:ao),n=j+1+m->
  St (j+1) s.heap->P (ck bt j) u->s.heap.get? S=aa (nM [u,u] c)->
  (∀v h' tk,P (ck bt (j+m)) v->(∀b o,b∉wr->b≠S->s.heap.get? b=aa o->h'.get? b=aa o)->R (.ok (.ret v)) {s with heap:=h',toks:=tk})->fz .(N) A (.builtin "max.loop" ⟨[.ref I,.none,.ref S],kw⟩) R s:=by
 have sw:S∉wr:=fun z=>hSf (W.sub _ z);have nm:(iF "max"++iF ".loop":cK)="max.loop":=by decide
 intro m
 induction m with
 |zero=>
  intro j s u c e st pu so r;refine ie zb (by
   rw[iE ly _];show aD _ A.in1 (j6 (.ref S) >>= _) _ _ s;refine qw (jh so rfl ?_);show aD _ A.in1 (j7 (fO (.ref I)) _ >>= _) _ _ s;refine qw (ji (W.done s _ _ (by rw[e];exact st) fun h' tk kp=>?_));show aD _ A.in1 (zc S (fun _=>#[]) >>= _) _ _ _;have so':=kp S _ sw so;refine qw ?_;refine rW so' rfl (qw (mR (qA ?_)));exact r u _ tk pu fun b o hb hS z=>(qx _ _ (cM hS)).trans (kp b o hb z))
 |succ m ih=>
  intro j s u c e st pu so r;have lt:j+1<n:=by omega
  refine ie zb (by
   rw[iE ly _];show aD _ A.in1 (j6 (.ref S) >>= _) _ _ s;refine qw (jh so rfl ?_);show aD _ A.in1 (j7 (fO (.ref I)) _ >>= _) _ _ s;refine qw (ji (W.item (j+1) s _ _ lt st fun v h' tk pv st' kp=>?_));have so':=kp S _ sw so;show aD _ A.in1 (j7 (hW [v,v] (richCompare .Gt v u >>= _)) _ >>= _) _ _ _;refine qw (ji (qU (qw (hc (j+1) (ck bt j) v u _ _ _ pv pu ?_))));refine qw (qU (jb ?_));refine qw (mR (qA ?_));have ae:j+1+m=j+(m+1):=by omega
   by_cases hb:bt (j+1) (ck bt j)=aj
   .have ab:ck bt (j+1)=j+1:=by simp only[ck,hb,cy]
    simp only[hb,cy];refine qw ?_;refine rW so' rfl (qw (mR ?_));rw[nm];refine qA ⟨ig ly _,ih (j+1) _ v _ .(b) (W.frame _ _ _ st' fun b hf o z=>?_) (by rw[ab];exact pv) (rS _ so' rfl) fun v' h2 t2 p2 k2=>?_⟩
    .exact(qx _ _ (fun q:S=b=>hSf (by rw[q];exact hf))).trans z
    .exact r v' h2 t2 (by rw[←ae];exact p2) fun b o hw hS z=>k2 b o hw hS ((qx _ _ (cM hS)).trans (kp b o hw z))
   .have hb':bt (j+1) (ck bt j)=ar:=by simpa using hb
    have ab:ck bt (j+1)=ck bt j:=by simp only[ck,hb',qq,cH]
    simp only[hb',qq,cH];refine qw (mR ?_);rw[nm];refine qA ⟨ig ly _,ih (j+1) _ u c .(b) st' (by rw[ab];exact pu) so' fun v' h2 t2 p2 k2=>?_⟩;exact r v' h2 t2 (by rw[←ae];exact p2) fun b o hw hS z=>k2 b o hw hS (kp b o hw z))
theorem QC (W:lr prog w A.in1 I fp wr n P St) (bt:ao->ao->aP) (kw:ac (ai×av)) (hc:rV prog w A.in1 .Gt P bt) (S:au) (hSf:S∉fp) (hn:0<n) {c:ao} (st:St 0 s.heap) (so:s.heap.get? S=aa (nM [] c))
  (r:∀v h' tk,P (ck bt (n-1)) v->(∀b o,b∉wr->b≠S->s.heap.get? b=aa o->h'.get? b=aa o)->R (.ok (.ret v)) {s with heap:=h',toks:=tk}):fz .(N) A (.builtin "max.loop" ⟨[.ref I,.none,.ref S],kw⟩) R s:=by
 have sw:S∉wr:=fun z=>hSf (W.sub _ z);have nm:(iF "max"++iF ".loop":cK)="max.loop":=by decide
 refine ie zb (by
  rw[iE ly _];show aD _ A.in1 (j6 (.ref S) >>= _) _ _ s;refine qw (jh so rfl ?_);show aD _ A.in1 (j7 (fO (.ref I)) _ >>= _) _ _ s;refine qw (ji (W.item 0 s _ _ hn st fun v h' tk pv st' kp=>?_));have so':=kp S _ sw so;show aD _ A.in1 (zc S (fun _=>#[v,v]) >>= _) _ _ _;refine qw ?_;refine rW so' rfl ?_;rw[nm];refine qA ⟨ig ly _,MI W bt kw hc S hSf (n-1) 0 _ v _ .(b) (W.frame _ _ _ st' fun b hf o z=>?_) pv (rS _ so' rfl) fun v' h2 t2 p2 k2=>?_⟩
  .exact(qx _ _ (fun q:S=b=>hSf (by rw[q];exact hf))).trans z
  .exact r v' h2 t2 (by rw[lz] at p2;exact p2) fun b o hw hS z=>k2 b o hw hS ((qx _ _ (cM hS)).trans (kp b o hw z)))
theorem Ix (W:lr prog w A.in1 I fp wr n P St) (x:ai) (d:av) (kw:ac (ai×av)) (S:au) (hSf:S∉fp) (hn:n=0) {c:ao} (st:St 0 s.heap) (so:s.heap.get? S=aa (nM [] c))
  (r:∀h' tk,(∀b o,b∉wr->b≠S->s.heap.get? b=aa o->h'.get? b=aa o)->R (.ok (.ret d)) {s with heap:=h',toks:=tk}):fz .(N) A (.builtin "max.loop" ⟨[.ref I,.none,.ref S],(x,d)::kw⟩) R s:=by
 subst hn;refine ie zb (by rw[iE ly _];show aD _ A.in1 (j6 (.ref S) >>= _) _ _ s;refine qw (jh so rfl ?_);show aD _ A.in1 (j7 (fO (.ref I)) _ >>= _) _ _ s;refine qw (ji (W.done s _ _ st fun h' tk kp=>?_));show aD _ A.in1 (rule _ >>= _) _ _ _;refine qw (yo ?_);exact qA (r h' tk fun b o hb _ z=>kp b o hb z))
end
theorem Of (a v:av):zd "max" ⟨[a],[(ib "default",v)]⟩:=by unfold zd;kernel_rfl
theorem Im {x d:av} 
  (h:aD .(N) A.in1 (mB x) (fun it t=>∃I fp wr n P St bt,it=.ref I/\lr prog w A.in1 I fp wr n P St/\St 0 t.heap/\(∀b∈fp,b<t.heap.objs.size)/\rV prog w A.in1 .Gt P bt /\
   (n=0->∀h' tk,(∀b o,b∉wr->t.heap.get? b=aa o->h'.get? b=aa o)->Q d {t with heap:=h',toks:=tk}) /\
   (0<n->∀v h' tk,P (ck bt (n-1)) v->(∀b o,b∉wr->t.heap.get? b=aa o->h'.get? b=aa o)->Q v {t with heap:=h',toks:=tk})) E s) :
  aD .(N) A (call (.builtin "max") [x] [(ib "default",d)]) Q E s:=by
 have nm:(iF "max"++iF ".loop":cK)="max.loop":=by decide
 refine kmb_tree F.kind_max F.plain_max F.entry_max (Of _ _) ?_;show aD _ A.in1 (ze "max" ["key","default"] 0 ⟨[],[(ib "default",d)]⟩ >>= _) _ _ s;refine qw (rT (show ze "max" ["key","default"] 0 ⟨[],[(ib "default",d)]⟩=aZ [af,aa d] from rfl) ?_);refine qw (qA ?_);refine qw (thn h fun it t q=>?_);obtain⟨I,fp,wr,n,P,St,bt,rfl,W,st,hf,hc,q0,q1⟩:=q;have nf:t.heap.objs.size∉fp:=fun z=>hU _ (hf _ z);refine qw (jd ?_);rw[nm];by_cases hn:n=0
 .exact qA ⟨ig ly _,Ix W _ d [] t.heap.objs.size nf hn (W.frame _ _ _ st fun b _ o z=>qt _ z) (qG _ rfl) fun h' tk kp=>q0 hn h' tk fun b o hb z=>kp b o hb (qC (qu z)) (qt _ z)⟩
 .exact qA ⟨ig ly _,QC W bt _ hc t.heap.objs.size nf .(b) (W.frame _ _ _ st fun b _ o z=>qt _ z) (qG _ rfl) fun v h' tk pv kp=>q1 .(b) v h' tk pv fun b o hb z=>kp b o hb (qC (qu z)) (qt _ z)⟩
noncomputable def gJ:ac D->aq (ac ah)
 |[]=>aa []
 |.int x::r=>(gJ r).map (x::·)
 |_::_=>af
theorem tF {K:aW} {G:Hp}:∀{vs:ac V} {ds:ac D} {ys:ac ah},Reps Γ K G vs ds->gJ ds=aa ys->vs=ys.map V.int
 |_,[],ys,r,h=>by cases r;cases h;rfl
 |_,d::ds,ys,.cons h1 h2,h=>by
  cases d with
  |int x=>
   obtain⟨zs,hz,rfl⟩:=oMd (show(gJ ds).map (x::·)=aa ys from h);rw[h1.int_inv,tF h2 hz];rfl
  |_=>cases h
theorem wJ:∀{ns:ac ah} {us:ac av},bi (ns.map V.int) us->us.length=ns.length/\∀(i:ao) v,us[i]?=aa v->∃t,v=.int (ns.getD i 0) t:=by
 intro xs0
 induction xs0 with
 |nil=>
  intro _ r;rw[qP] at r;cases r;exact⟨rfl,fun i v h=>by simp at h⟩
 |cons n ns ih=>
  intro _ r;rw[qm] at r;cases r with
  |cons r1 r2=>
   obtain⟨h1,h2⟩:=ih r2;refine⟨by simp[h1],fun i v h=>?_⟩;cases i with
   |zero=>
    obtain⟨t,rfl⟩:=r1;cases h;exact⟨t,rfl⟩
   |succ i=>exact h2 i v h
noncomputable def btI (ns:ac ah) (i j:ao):aP:=decide (ns.getD i 0 > ns.getD j 0)
def mxI (ns:ac ah):D:=if ns=[] then .non else .int (ns.getD (ck (btI ns) (ns.length-1)) 0)
def mxV (ns:ac ah):V:=if ns=[] then .non else .int (ns.getD (ck (btI ns) (ns.length-1)) 0)
def tW:D->aq D
 |.lst l=>(gJ l).map mxI
 |_=>af
def NK (t:TE):TE:=fun σ H Q=>t σ H fun v H1=>∃(a:au) (ns:ac ah),[v]=[.ref a]/\H1 a=aa (.lst (ns.map V.int))/\Q (mxV ns) H1
theorem Qu {t:TE} {kp:dq} (hc:X.calm=aj) (hg:Gl X "max") (hm:X.mg "max"=af) (h:PE X e t) (he:aO [e] X.env=(ar,eval e X.env)::aO [] X.env:=by rfl) (hb:bV pos (aO [e] X.env)=(ar,eval e X.env)::bV pos (aO [] X.env):=by rfl)
  (hpl:(bV pos (aO [e] X.env)).any (·.1)=ar:=by rfl) :
  PE X (.Call (.Name "max" p) [e] [⟨aa "default",.Constant .none j cp,kp⟩] pos) (NK t):=by
 intro pins s σ H Q I q;refine rE (jF I hg hm (u:=.builtin "max") (by rfl) ?_);refine callWith_kw (thn (iH h jx he pos pins s σ H (fun vs H1=>∃(a:au) (ns:ac ah),vs=[.ref a]/\H1 a=aa (.lst (ns.map V.int))/\Q (mxV ns) H1) I q) fun us s1 ⟨vs,H1,I1,r1,q1⟩=>?_) hb hpl;obtain⟨a,ns,rfl,ha,q2⟩:=q1;obtain⟨u,rfl,ru⟩:=eQ r1;cases ru;refine kws_cons (EL (kws_nil ?_));show aD _ _ (call (.builtin "max") [.ref a] [(ib "default",.none)]) _ _ _;obtain⟨its,rv,pl,_⟩:=I1.list (.inl (.inl ha));obtain⟨vl,vi⟩:=wJ rv;refine Im (rK pl.isList ?_);have ne:a≠s1.heap.objs.size:=by obtain⟨o,_,h1,_⟩:=pl;exact qC (qu h1)
 have hP:∀(i:ao) v,its.toArray[i]?=aa v->∃t,v=.int (ns.getD i 0) t:=fun i v hv=>vi i v (by simpa using hv);have la:a<s1.heap.objs.size:=by obtain⟨o,_,h1,_⟩:=pl;exact qu h1
 have sz:its.toArray.size=ns.length:=by simp[vl]
 refine⟨s1.heap.objs.size,_,_,_,_,_,btI ns,rfl,u6 (A:=X.A.in1) (show X.A.in1.handled=af from I1.ok.hd hc) s1.heap.objs.size a ne its.toArray,⟨⟨_,qG _ rfl,rfl,rfl⟩,pl.isList.at fun o q=>qt _ q⟩,fun b hb=>?_,CmpOf.ints_gt (fun i=>ns.getD i 0) hP,fun hn h' tk hk=>?_,fun hn v h' tk pv hk=>?_⟩
 .rw[lf];simp only[qM,qJ,or_false] at hb;rcases hb with z|z
  .rw[z];exact rB _
  .rw[z];exact vh la
 .have e0:ns=[]:=u0.mp .(b);refine⟨.non,H1,I1.kept fun b o z=>hk b o ?_ (qt _ z),rfl,?_⟩
  .intro z';have:b=s1.heap.objs.size:=by simpa using z'
   exact bA (qu z) (by rw[this];exact hU _)
  .unfold mxV at q2;rw[qX e0] at q2;exact q2
 .have e0:ns≠[]:=fun z=>by rw[sz,z] at hn;exact bA hn .(f)
  obtain⟨t,rfl⟩:=hP _ _ pv;refine⟨mxV ns,H1,I1.kept fun b o z=>hk b o ?_ (qt _ z),?_,q2⟩
  .intro z';have:b=s1.heap.objs.size:=by simpa using z'
   exact bA (qu z) (by rw[this];exact hU _)
  .unfold mxV;rw[qY e0,sz];exact⟨t,rfl⟩
theorem z4 {kp:dq} (hc:X.calm=aj) (hg:Gl X "max") (hm:X.mg "max"=af) (h:DE Γ X e f) (he:aO [e] X.env=(ar,eval e X.env)::aO [] X.env:=by rfl) (hb:bV pos (aO [e] X.env)=(ar,eval e X.env)::bV pos (aO [] X.env):=by rfl)
  (hpl:(bV pos (aO [e] X.env)).any (·.1)=ar:=by rfl):DE Γ X (.Call (.Name "max" p) [e] [⟨aa "default",.Constant .none j cp,kp⟩] pos) (b1 tW f):=⟨(Qu hc hg hm h.1 he hb hpl).imp fun σ H Q=>by
 rintro⟨G₀,H₀,G,ρ,z,A,hq,k⟩;unfold b1 at hq;obtain⟨d,hd,hi⟩:=oBd hq;refine⟨G₀,H₀,G,ρ,d,A,hd,fun v G1 H1 s1 r1=>?_⟩;unfold tW at hi;split at hi
 .obtain⟨ns,hn,rfl⟩:=oMd hi;obtain⟨a,us,rfl,ha,ra⟩:=r1.lst_inv;refine⟨a,ns,rfl,by rw[←tF ra hn];exact s1.gh _ _ ha,k _ G1 H1 s1 ?_⟩;unfold mxV mxI;split
  .exact .non
  .exact .int _
 .cases hi⟩
end
noncomputable def foF:Fld->D
 |.d d=>d
 |.k kvs=>.dk kvs
 |.t kvs=>.dt kvs
def foD (c:ai) (fs:ac (ai×Fld)):D:=.ins c (fs.map fun z=>(z.1,foF z.2))
mutual
def plD:D->aP
 |.non=>aj
 |.bl _=>aj
 |.int _=>aj
 |.str _=>aj
 |.tup l=>ge l
 |.lst l=>ge l
 |_=>ar
def ge:ac D->aP
 |[]=>aj
 |x::r=>plD x && ge r
end
noncomputable def og (fp:ac au) (H G:Hp):Hp:=fun b=>if b∈fp then H b else G b
noncomputable def i8 (fp:ac au) (G:Hp):Hp:=fun b=>if b∈fp then af else G b
theorem pX (h:a∉fp):i8 fp G a=G a:=qY h
theorem Rep.less (no:∀b∈fp,∀vs,G b≠aa (.lst vs)/\G b≠aa (.tup vs)) (r:Rep Γ K G v d):plD d=aj->Rep Γ K (i8 fp G) v d:=by
 refine r.rec (motive_1:=fun v d _=>plD d=aj->Rep Γ K (i8 fp G) v d) (motive_2:=fun vs ds _=>ge ds=aj->Reps Γ K (i8 fp G) vs ds) (fun _=>.non) (fun _ _=>.bl _) (fun _ _=>.int _) (fun _ _=>.str _) ?_ (fun h _ i hp=>.tup ((pX fun z=>(no _ z _).2 h).trans h) (i (by rw[plD] at hp;exact hp))) (fun h _ i hp=>.lst ((pX fun z=>(no _ z _).1 h).trans h) (i (by rw[plD] at hp;exact hp))) ?_ ?_ ?_ ?_ ?_ (fun _=>.nil) (fun _ _ a b hp=>?_)
 all_goals intros
 all_goals rename_i hp
 any_goals (simp[plD] at hp;done)
 rw[ge] at hp;exact .cons (a (FH.mp hp).1) (b (FH.mp hp).2)
theorem Reps.less (no:∀b∈fp,∀vs,G b≠aa (.lst vs)/\G b≠aa (.tup vs)):∀{vs:ac V} {ds:ac D},Reps Γ K G vs ds->ge ds=aj->Reps Γ K (i8 fp G) vs ds
 |_,_,.nil,_=>.nil
 |_,_,.cons r t,hp=>by rw[ge] at hp;have hp':=FH.mp hp;exact .cons (r.less no hp'.1) (t.less no hp'.2)
theorem mU (hn:∀b∈fp,G b=af):ba G (og fp H G):=fun b o e=>by show(if b∈fp then H b else G b)=_;rw[qY (fun z=>by rw[hn b z] at e;cases e)];exact e
theorem FldsR.frz (hn:∀b∈fp,G b=af):∀{vs:ac V} {fs:ac Fld} {ps:ac au},FldsR Γ K G H vs fs ps->(∀b∈ps,b∈fp)->Reps Γ K (og fp H G) vs (fs.map foF)
 |_,_,_,.nil,_=>.nil
 |_,_,_,.cons r t,hm=>by
  refine .cons ?_ (t.frz hn fun b hb=>hm b (qR _ hb));cases r with
  |d h=>exact h.mono (mU hn)
  |k h a c=>exact .dk (show(if _∈fp then H _ else G _)=_ by rw[qX (hm _ (rh _ qg))];exact h) a (c.mono (mU hn))
  |t h a c=>exact .dt (show(if _∈fp then H _ else G _)=_ by rw[qX (hm _ (rh _ qg))];exact h) a (c.mono (mU hn))
theorem FldsR.kinds:∀{vs:ac V} {fs:ac Fld} {ps:ac au},FldsR Γ K G H vs fs ps->∀b∈ps,(∃us,H b=aa (.dK us))\/∃us,H b=aa (.dT us)
 |_,_,_,.nil,b,hb=>by cases hb
 |_,_,_,.cons r t,b,hb=>by
  rcases dA.mp hb with hb|hb
  .cases r with
   |d _=>cases hb
   |k h _ _=>rw[bL.mp hb];exact .inl ⟨_,h⟩
   |t h _ _=>rw[bL.mp hb];exact .inr ⟨_,h⟩
  .exact t.kinds b hb
section
variable {s:aP} {fs:ac (ai×Fld)}
theorem At.look (A:At Γ K G₀ H₀ G H ρ σ) (hi:ρ[i]?=aa (aa (.fo s c fs))):∃fp,(∀b∈fp,G b=af/\∃o,H b=aa o/\(∀vs,o≠.lst vs)/\∀vs,o≠.tup vs)/\At Γ K G₀ H₀ (og fp H G) H (ρ.set i (aa (.sh (foD c fs)))) σ:=by
 obtain⟨v,fp,h1,h2⟩:=A.get hi;cases h2 with
 |fo gs g1 g2 g3 g4 g5 g6=>
  rename_i a C dx vs ps;have hn:∀b∈a::ps,G b=af:=fun b hb=>(g2 b hb).2;have sm:=mU (H:=H) hn;have ga:og (a::ps) H G a=aa (.ins C dx vs):=by show(if a∈a::ps then H a else G a)=_;rw[qX qg];exact g4
  refine⟨a::ps,fun b hb=>⟨hn b hb,?_⟩,A.ch hi h1 (.fo gs g1 g2 g3 g4 g5 g6) (fun b o e _=>e) (.sh (.ins ga g1 (by rw[g5,qo];rfl) ?_)) .(be) sm .(aX) (fun b o e hb _=>?_)⟩
  .rcases cr.mp hb with rfl|hb
   .exact⟨_,g4,(fun _ z=>by cases z),(fun _ z=>by cases z)⟩
   .rcases g6.kinds b hb with⟨us,e⟩|⟨us,e⟩
    .exact⟨_,e,(fun _ z=>by cases z),(fun _ z=>by cases z)⟩
    .exact⟨_,e,(fun _ z=>by cases z),(fun _ z=>by cases z)⟩
  .have:=g6.frz hn fun b hb=>qh _ hb;rw[qo] at this ⊢;exact this
  .replace e:(if b∈a::ps then H b else G b)=aa o:=e
   split at e
   .exact e
   .exact A.gh b o e
  .show(if b∈a::ps then H b else G b)=G b;rw[qY hb]
theorem xV (gh:ba G H) (hf:∀b∈fp,G b=af/\∃o,H b=aa o/\(∀vs,o≠.lst vs)/\∀vs,o≠.tup vs) (s:Step (og fp H G) H G' H'):Step G H (i8 fp G') H'/\∀b∈fp,∀vs,G' b≠aa (.lst vs)/\G' b≠aa (.tup vs):=by
 have hn:∀b∈fp,G b=af:=fun b hb=>(hf b hb).1;refine⟨⟨s.hh,fun b o e=>?_,fun b o e=>?_,fun b o e ek=>?_⟩,fun b hb vs=>?_⟩
 .show(if b∈fp then af else G' b)=_;rw[qY (fun z=>by rw[hn b z] at e;cases e)];exact s.gg b o (mU hn b o e)
 .replace e:(if b∈fp then af else G' b)=aa o:=e
  split at e
  .cases e
  .exact s.gh b o e
 .show(if b∈fp then af else G' b)=_;by_cases hb:b∈fp
  .rw[qX hb,hn b hb]
  .rw[qY hb,s.out b o e ek];show(if b∈fp then H b else G b)=_;rw[qY hb]
 .obtain⟨_,o,e,k1,k2⟩:=hf b hb;have:G' b=aa o:=by rw[s.out b o e (by cases o<;>first|rfl|exact bA rfl (k2 _))];show(if b∈fp then H b else G b)=_;rw[qX hb,e]
  rw[this];exact⟨fun z=>k1 vs (qH z),fun z=>k2 vs (qH z)⟩
end
def bwF (i:ao) (f:FE):FE:=fun ρ=>match ρ[i]? with
 |some (aa (.fo s c fs))=>(f (ρ.set i (aa (.sh (foD c fs))))).bind fun d=>if plD d=aj then aa d else af
 |_=>f ρ
def gc (i:ao) (f:FT):FT:=fun ρ=>match ρ[i]? with
 |some (aa (.fo s c fs))=>f (ρ.set i (aa (.sh (foD c fs))))
 |_=>f ρ
def jD (i:ao) (f:FA):FA:=fun ρ=>match ρ[i]? with
 |some (aa (.fo s c fs))=>(f (ρ.set i (aa (.sh (foD c fs))))).bind fun ds=>if ge ds=aj then aa ds else af
 |_=>f ρ
theorem oe (i:ao) (h:DE Γ X e f):DE Γ X e (bwF i f):=⟨h.1.imp fun σ H Q=>by
 rintro⟨G₀,H₀,G,ρ,d,A,h,k⟩;unfold bwF at h;split at h
 .rename_i sb c fs hi;obtain⟨d',hd,h⟩:=oBd h;split at h
  .rename_i hp;cases h;obtain⟨fp,hf,A1⟩:=A.look hi;refine⟨G₀,H₀,_,_,d,A1,hd,fun v G' H' s r=>?_⟩;obtain⟨s2,no⟩:=xV A.gh hf s;exact k v _ H' s2 (r.less no hp)
  .cases h
 .exact⟨G₀,H₀,G,ρ,d,A,h,k⟩⟩
theorem oP (i:ao) {f:FT} (h:DT Γ X e f):DT Γ X e (gc i f):=⟨h.1.imp fun σ H Q=>by
 rintro⟨G₀,H₀,G,ρ,d,A,h,k⟩;unfold gc at h;split at h
 .rename_i sb c fs hi;obtain⟨fp,hf,A1⟩:=A.look hi;exact⟨G₀,H₀,_,_,d,A1,h,fun G' H' s=>k _ H' (xV A.gh hf s).1⟩
 .exact⟨G₀,H₀,G,ρ,d,A,h,k⟩⟩
theorem Ee {f:FA} (h:∀ρ ds,f ρ=aa ds->ds.length=n):∀ρ ds,jD i f ρ=aa ds->ds.length=n:=fun ρ ds e=>by
 unfold jD at e;split at e
 .obtain⟨ds',hd,e⟩:=oBd e;split at e
  .cases e;exact h _ _ hd
  .cases e
 .exact h _ _ e
theorem v7 (i:ao) {f:FA} (h:DA Γ X es f):DA Γ X es (jD i f):=⟨h.1.imp fun σ H Q=>by
 rintro⟨G₀,H₀,G,ρ,ds,A,h,k⟩;unfold jD at h;split at h
 .rename_i sb c fs hi;obtain⟨ds',hd,h⟩:=oBd h;split at h
  .rename_i hp;cases h;obtain⟨fp,hf,A1⟩:=A.look hi;refine⟨G₀,H₀,_,_,ds,A1,hd,fun vs G' H' s r=>?_⟩;obtain⟨s2,no⟩:=xV A.gh hf s;exact k vs _ H' s2 (r.less no hp)
  .cases h
 .exact⟨G₀,H₀,G,ρ,ds,A,h,k⟩⟩
noncomputable def gn (f:ai) (x:Fld):ac (ai×Fld)->ac (ai×Fld)
 |[]=>[]
 |(g,y)::r=>if f=g then (g,x)::r else (g,y)::gn f x r
theorem Ah {f:ai} {x:Fld} :∀fs:ac (ai×Fld),(gn f x fs).map (·.1)=fs.map (·.1):=by
 intro xs0
 induction xs0 with
 |nil=>
  exact rfl
 |cons x0 r ih=>
  obtain⟨g,y⟩:=x0;unfold gn;split
  .rfl
  .rw[qm,qm,ih]
section
variable {f:ai}
theorem FldsR.none:∀{vs:ac (ai×V)} {fs:ac (ai×Fld)},vs.map (·.1)=fs.map (·.1)->fs.lookup f=af->vs.lookup f=af
 |[],[],_,_=>rfl
 |[],_::_,h,_=>by cases h
 |_::_,[],h,_=>by cases h
 |(g,v)::vs,(g',y)::fs,h,hl=>by
  rw[qm,qm] at h;have ht:=(fW h).2;have e:g=g':=(fW h).1;clear h;subst e;by_cases ef:f=g
  .subst ef;simp[cX] at hl
  .have hb:(f==g)=ar:=by simpa using ef
   simp only[cX,hb] at hl ⊢;exact FldsR.none ht hl
theorem FldsR.app {vs ws:ac V} {fs gs:ac Fld} {ps qs:ac au} (h:FldsR Γ K G H vs fs ps) (h':FldsR Γ K G H ws gs qs):FldsR Γ K G H (vs++ws) (fs++gs) (ps++qs):=by
 induction h with
 |nil=>exact h'
 |cons r t ih=>rw[rG];exact .cons r ih
theorem FldsR.put {y:Fld} (hy:∀{v p},FldR Γ K G H v y p->∃q,v=.ref q/\p=[q]):∀{vs:ac (ai×V)} {fs:ac (ai×Fld)} {ps:ac au},vs.map (·.1)=fs.map (·.1)->FldsR Γ K G H (vs.map (·.2)) (fs.map (·.2)) ps->fs.lookup f=aa y->
  ∃q,vs.lookup f=aa (.ref q)/\q∈ps/\FldR Γ K G H (.ref q) y [q]/\(ps.Nodup->∀{o:HO} {y':Fld},FldR Γ K G (upd H q o) (.ref q) y' [q]->FldsR Γ K G (upd H q o) (vs.map (·.2)) ((gn f y' fs).map (·.2)) ps):=by
 intro vs
 induction vs with
 |nil=>
  intro fs ps h _ hl;cases fs with
  |nil=>cases hl
  |cons _ _=>cases h
 |cons gv vs ih=>
  intro fs ps h r hl;cases fs with
  |nil=>cases h
  |cons gy fs=>
  obtain⟨g,v⟩:=gv;obtain⟨g',y2⟩:=gy;rw[qm,qm] at h;have ht:=(fW h).2;have e:g=g':=(fW h).1;clear h;subst e;rw[qm,qm] at r;cases r with
  |cons r1 r2=>
   by_cases ef:f=g
   .subst ef;simp only[cX,beq_self_eq_true] at hl ⊢;cases hl;obtain⟨q,rfl,rfl⟩:=hy r1;refine⟨q,rfl,rh _ qg,r1,fun nd o y' e1=>?_⟩;have hs:gn f y' ((f,y)::fs)=(f,y')::fs:=qX rfl;rw[hs,qm,qm];refine .cons e1 (r2.stay (.refl _) fun b hb=>aF fun z=>?_);subst z;exact(eA.mp nd).1 hb
   .have hb:(f==g)=ar:=by simpa using ef
    simp only[cX,hb] at hl ⊢;obtain⟨q,b1,b2,b3,b6⟩:=ih ht r2 hl;refine⟨q,b1,qR _ b2,b3,fun nd o y' e1=>?_⟩;have hs:gn f y' ((g,y2)::fs)=(g,y2)::gn f y' fs:=qY ef;rw[hs,qm,qm];have nd':=mS.mp nd;exact .cons (r1.stay (.refl _) fun b hb=>aF fun z=>nd'.2.2 b hb q b2 z) (b6 nd'.2.1 e1)
theorem FldsR.putK {kvs:ac (Key×D)} {vs:ac (ai×V)} {fs:ac (ai×Fld)} {ps:ac au} (h:vs.map (·.1)=fs.map (·.1)) (r:FldsR Γ K G H (vs.map (·.2)) (fs.map (·.2)) ps) (hl:fs.lookup f=aa (.k kvs)) :
  ∃q us,vs.lookup f=aa (.ref q)/\q∈ps/\H q=aa (.dK us)/\us.map (·.1)=kvs.map (·.1)/\Reps Γ K G (us.map (·.2)) (kvs.map (·.2)) /\
   (ps.Nodup->∀{us':ac (Key×V)} {kvs':ac (Key×D)},us'.map (·.1)=kvs'.map (·.1)->Reps Γ K G (us'.map (·.2)) (kvs'.map (·.2))->FldsR Γ K G (upd H q (.dK us')) (vs.map (·.2)) ((gn f (.k kvs') fs).map (·.2)) ps):=by
 obtain⟨q,b1,b2,b3,b4⟩:=FldsR.put (fun r=>by cases r;exact⟨_,rfl,rfl⟩) h r hl;cases b3 with
 |k a1 a2 a3=>exact⟨q,_,b1,b2,a1,a2,a3,fun nd _ _ e1 e2=>b4 nd (.k bj e1 e2)⟩
theorem FldsR.putT {vs:ac (ai×V)} {fs:ac (ai×Fld)} {ps:ac au} (h:vs.map (·.1)=fs.map (·.1)) (r:FldsR Γ K G H (vs.map (·.2)) (fs.map (·.2)) ps) (hl:fs.lookup f=aa (.t kvs)) :
  ∃q us,vs.lookup f=aa (.ref q)/\q∈ps/\H q=aa (.dT us)/\us.map (·.1)=kvs.map (·.1)/\Reps Γ K G (us.map (·.2)) (kvs.map (·.2)) /\
   (ps.Nodup->∀{us':ac .(aR)} {kvs':ac .(aG)},us'.map (·.1)=kvs'.map (·.1)->Reps Γ K G (us'.map (·.2)) (kvs'.map (·.2))->FldsR Γ K G (upd H q (.dT us')) (vs.map (·.2)) ((gn f (.t kvs') fs).map (·.2)) ps):=by
 obtain⟨q,b1,b2,b3,b4⟩:=FldsR.put (fun r=>by cases r;exact⟨_,rfl,rfl⟩) h r hl;cases b3 with
 |t a1 a2 a3=>exact⟨q,_,b1,b2,a1,a2,a3,fun nd _ _ e1 e2=>b4 nd (.t bj e1 e2)⟩
end
section
variable {fv:FE} {fl cl:ai}
noncomputable def iW (c f:ai) (i:ao) (fv:FE):FS:=fun ρ=>(fv ρ).bind fun d=>match ρ[i]? with
 |some (aa (.fo s c' fs))=>if c'=c/\fs.lookup f=af/\fs.length<100 then aa (.nx,ρ.set i (aa (.fo s c (fs++[(f,.d d)])))) else af
 |_=>af
theorem nN (i:ao) (hc:CF Γ X.K cl attrs) (hf:fl∈attrs) (hv':DE Γ X value fv) (hN:X.N[i]?=aa x:=by rfl) (hv:Vis X.env.scope x:=by ac_nf) (hd:.(s)=ar:=by decide)
  (hcd:.(M)=ar:=by decide) (hs:dH value (aa (.Attribute .(Q) fl pos')) pos.line X.env=aZ ar:=by rfl):DS Γ X (.Assign [.Attribute .(Q) fl pos'] value pos) (iW cl fl i fv):=⟨(pD .(aP) hv'.1 hs).imp fun E σ H=>by
 rintro⟨G₀,H₀,G,ρ,flw,ρ',A,h,k⟩;unfold iW at h;obtain⟨d,hd,h⟩:=oBd h;split at h
 .rename_i sb c' fs hi;split at h
  .rename_i hz;obtain⟨rfl,hz2,hz3⟩:=hz;cases h;obtain⟨C,q1,q2,q3⟩:=hc.ex;refine⟨G₀,H₀,G,ρ,d,A,hd,fun v G1 H1 s1 r1=>?_⟩;have A1:=A.step s1;obtain⟨w,fp,h1,h2⟩:=A1.get hi;cases h2 with
   |fo gs g1 g2 g3 g4 g5 g6=>
    rename_i a C' dx vs ps;have g1':=g1;rw[q1] at g1;cases g1;have hl:=FldsR.none g5 hz2;have hlen:vs.length=fs.length:=by simpa using bU c8 g5
    have nd:=eA.mp g3;refine⟨_,h1,a,C,dx,vs,rfl,g4,q2,q3 fl hf,by omega,?_⟩;rw[p9 hl];have g6':FldsR Γ X.K G1 (upd H1 a (.ins C dx (vs++[(fl,v)]))) ((vs++[(fl,v)]).map (·.2)) ((fs++[(fl,Fld.d d)]).map (·.2)) ps:=by rw[dZ,dZ];have:=(g6.stay (H':=upd H1 a (.ins C dx (vs++[(fl,v)]))) (.refl _) fun b hb=>aF fun z=>nd.1 (by rw[←z];exact hb)).app (.cons (.d r1) .nil);simpa using this
    refine k σ G1 _ s1.gg (A1.ch hi h1 (.fo gs g1' g2 g3 g4 g5 g6) (fun b o e hb=>?_) (.fo gs g1' g2 g3 bj (by simp[g5]) g6') (fun b hb=>.inl hb) (.refl _) .(aX) .(aA))
    .rw[aF (fun z=>hb (by rw[z];exact qg))];exact e
    .rw[aF (bD e (g2 a qg).2)];exact A1.gh b o e
  .cases h
 .cases h⟩
noncomputable def fR (c f:ai) (i:ao) (y:Fld):FS:=fun ρ=>match ρ[i]? with
 |some (aa (.fo s c' fs))=>if c'=c/\fs.lookup f=af/\fs.length<100 then aa (.nx,ρ.set i (aa (.fo s c (fs++[(f,y)])))) else af
 |_=>af
theorem kc (i:ao) (hc:CF Γ X.K cl attrs) (hf:fl∈attrs) (hN:X.N[i]?=aa x:=by rfl) (hv:Vis X.env.scope x:=by ac_nf) (hd:.(s)=ar:=by decide)
  (hcd:.(M)=ar:=by decide) (hs:dH (.Dict [] [] dp) (aa (.Attribute .(Q) fl pos')) pos.line X.env=aZ ar:=by rfl):DS Γ X (.Assign [.Attribute .(Q) fl pos'] (.Dict [] [] dp) pos) (fR cl fl i (.k [])):=⟨(pD .(aP) w9 hs).imp fun E σ H=>by
 rintro⟨G₀,H₀,G,ρ,flw,ρ',A,h,k⟩ p hp;unfold fR at h;split at h
 .rename_i sb c' fs hi;split at h
  .rename_i hz;obtain⟨rfl,hz2,hz3⟩:=hz;cases h;obtain⟨C,q1,q2,q3⟩:=hc.ex;obtain⟨w,fp,h1,h2⟩:=A.get hi;have ht:=h2.fpt;cases h2 with
   |fo gs g1 g2 g3 g4 g5 g6=>
    rename_i a C' dx vs ps;have g1':=g1;rw[q1] at g1;cases g1;have hl:=FldsR.none g5 hz2;have hlen:vs.length=fs.length:=by simpa using bU c8 g5
    have nd:=eA.mp g3;have npa:a≠p:=bD g4 hp;have nps:∀b∈a::ps,b≠p:=fun b hb=>by obtain⟨_,_,o,e,_⟩:=ht b hb;exact bD e hp
    have hp0:H₀ p=af:=A.st.hh.free hp;have hpg:G p=af:=A.gh.free hp;refine⟨_,h1,a,C,dx,vs,rfl,by rw[aF npa];exact g4,q2,q3 fl hf,by omega,?_⟩;rw[p9 hl];have g6':FldsR Γ X.K G (upd (upd H p (.dK [])) a (.ins C dx (vs++[(fl,.ref p)]))) ((vs++[(fl,V.ref p)]).map (·.2)) ((fs++[(fl,Fld.k [])]).map (·.2)) (ps++[p]):=by rw[dZ,dZ];refine(g6.stay (.refl _) fun b hb=>?_).app (.cons (p:=[p]) (ps:=[]) (.k (us:=[]) (by rw[aF npa.symm,bj]) rfl .nil) .nil);rw[aF fun z=>nd.1 (by rw[←z];exact hb),aF (nps b (qh _ hb))]
    refine k σ G _ (.refl _) (A.ch hi h1 (.fo gs g1' g2 g3 g4 g5 g6) (fun b o e hb=>?_) (.fo (ps:=ps++[p]) gs g1' (fun b hb=>?_) ?_ bj (by simp[g5]) g6') (fun b hb=>?_) (.refl _) .(aX) .(aA))
    .rw[aF (fun z=>hb (by rw[z];exact qg)),aF (bD e hp)];exact e
    .rw[←qp] at hb;rcases dA.mp hb with hb|hb
     .exact g2 b hb
     .rw[bL.mp hb];exact⟨hp0,hpg⟩
    .rw[←qp];exact mS.mpr ⟨g3,eA.mpr ⟨.(F),lq⟩,fun b hb c hc=>by rw[bL.mp hc];exact nps b hb⟩
    .rw[←qp] at hb;rcases dA.mp hb with hb|hb
     .exact .inl hb
     .rw[bL.mp hb];exact .inr hp
    .rw[aF (bD e (g2 a qg).2),aF (bD e hpg)];exact A.gh b o e
  .cases h
 .cases h⟩
end
section
variable {fv:FE} {fl cl:ai}
theorem Ls (i:ao) (hc:CF Γ X.K cl attrs) (hf:fl∈attrs) (hN:X.N[i]?=aa x:=by rfl) (hv:Vis X.env.scope x:=by ac_nf) (hd:.(s)=ar:=by decide)
  (hcd:.(M)=ar:=by decide) (hs:dH (.Dict [] [] dp) (aa (.Attribute .(Q) fl pos')) pos.line X.env=aZ ar:=by rfl):DS Γ X (.Assign [.Attribute .(Q) fl pos'] (.Dict [] [] dp) pos) (fR cl fl i (.t [])):=⟨(pD .(aP) BN hs).imp fun E σ H=>by
 rintro⟨G₀,H₀,G,ρ,flw,ρ',A,h,k⟩ p hp;unfold fR at h;split at h
 .rename_i sb c' fs hi;split at h
  .rename_i hz;obtain⟨rfl,hz2,hz3⟩:=hz;cases h;obtain⟨C,q1,q2,q3⟩:=hc.ex;obtain⟨w,fp,h1,h2⟩:=A.get hi;have ht:=h2.fpt;cases h2 with
   |fo gs g1 g2 g3 g4 g5 g6=>
    rename_i a C' dx vs ps;have g1':=g1;rw[q1] at g1;cases g1;have hl:=FldsR.none g5 hz2;have hlen:vs.length=fs.length:=by simpa using bU c8 g5
    have nd:=eA.mp g3;have npa:a≠p:=bD g4 hp;have nps:∀b∈a::ps,b≠p:=fun b hb=>by obtain⟨_,_,o,e,_⟩:=ht b hb;exact bD e hp
    have hp0:H₀ p=af:=A.st.hh.free hp;have hpg:G p=af:=A.gh.free hp;refine⟨_,h1,a,C,dx,vs,rfl,by rw[aF npa];exact g4,q2,q3 fl hf,by omega,?_⟩;rw[p9 hl];have g6':FldsR Γ X.K G (upd (upd H p (.dT [])) a (.ins C dx (vs++[(fl,.ref p)]))) ((vs++[(fl,V.ref p)]).map (·.2)) ((fs++[(fl,Fld.t [])]).map (·.2)) (ps++[p]):=by rw[dZ,dZ];refine(g6.stay (.refl _) fun b hb=>?_).app (.cons (p:=[p]) (ps:=[]) (.t (us:=[]) (by rw[aF npa.symm,bj]) rfl .nil) .nil);rw[aF fun z=>nd.1 (by rw[←z];exact hb),aF (nps b (qh _ hb))]
    refine k σ G _ (.refl _) (A.ch hi h1 (.fo gs g1' g2 g3 g4 g5 g6) (fun b o e hb=>?_) (.fo (ps:=ps++[p]) gs g1' (fun b hb=>?_) ?_ bj (by simp[g5]) g6') (fun b hb=>?_) (.refl _) .(aX) .(aA))
    .rw[aF (fun z=>hb (by rw[z];exact qg)),aF (bD e hp)];exact e
    .rw[←qp] at hb;rcases dA.mp hb with hb|hb
     .exact g2 b hb
     .rw[bL.mp hb];exact⟨hp0,hpg⟩
    .rw[←qp];exact mS.mpr ⟨g3,eA.mpr ⟨.(F),lq⟩,fun b hb c hc=>by rw[bL.mp hc];exact nps b hb⟩
    .rw[←qp] at hb;rcases dA.mp hb with hb|hb
     .exact .inl hb
     .rw[bL.mp hb];exact .inr hp
    .rw[aF (bD e (g2 a qg).2),aF (bD e hpg)];exact A.gh b o e
  .cases h
 .cases h⟩
def gR (c f:ai) (i:ao) (fk fv:FE):FS:=fun ρ=>(fv ρ).bind fun d=>(fk ρ).bind fun kd=>match ρ[i]? with
 |some (aa (.fo s c' fs))=>if c'=c then match fs.lookup f with
  |some (.k kvs)=>(fS kd).bind fun k=>if kvs.length<100000 then aa (.nx,ρ.set i (aa (.fo s c (gn f (.k (bW kvs k d)) fs)))) else af
  |some (.t kvs)=>match kd with
   |.tup t=>(eE t).bind fun ks=>if kvs.length<100000 then aa (.nx,ρ.set i (aa (.fo s c (gn f (.t (bW kvs ks d)) fs)))) else af
   |_=>af
  |_=>af else af
 |_=>af
theorem kM (i:ao) (hu:X.A.units+66<cg) (hc:CF Γ X.K cl attrs) (hf:fl∈attrs) (hk:DE Γ X ke fk) (hv':DE Γ X value fv) (hN:X.N[i]?=aa x:=by rfl) (hv:Vis X.env.scope x:=by ac_nf) (hd:.(s)=ar:=by decide)
  (hcd:.(M)=ar:=by decide) (hb:je .(Q) fl X.env (eval .(Q) X.env)=eval .(Q) X.env:=by rfl) (hs:dH value (aa (.Subscript (.Attribute .(Q) fl ap) ke pos')) pos.line X.env=aZ ar:=by rfl) :
  DS Γ X (.Assign [.Subscript (.Attribute .(Q) fl ap) ke pos'] value pos) (gR cl fl i fk fv):=⟨(uo .(b) (sq .(aP) hb) hk.1 hv'.1 hs).imp fun E σ H=>by
 rintro⟨G₀,H₀,G,ρ,flw,ρ',A,h,k⟩;unfold gR at h;obtain⟨d,hd,ha⟩:=oBd h;clear h;obtain⟨kd,hkd,hq⟩:=oBd ha;clear ha;split at hq
 .rename_i sb c' fs hi;split at hq
  .rename_i hz;subst hz;obtain⟨C,q1,q2,q3⟩:=hc.ex;refine⟨G₀,H₀,G,ρ,d,A,hd,fun v G1 H1 s1 r1=>?_⟩;have A1:=A.step s1;obtain⟨w,fp,h1,h2⟩:=A1.get hi;cases h2 with
   |fo gs g1 g2 g3 g4 g5 g6=>
    rename_i a C' dx vs ps;have g1':=g1;rw[q1] at g1;cases g1;have nd:=eA.mp g3;split at hq
    .rename_i kvs hl;obtain⟨kk,hkk,hq⟩:=oBd hq;split at hq
     .rename_i hz;cases hq;obtain⟨p0,_,b1,_⟩:=FldsR.putK g5 g6 hl;refine⟨_,h1,a,C,dx,_,.ref p0,rfl,g4,q2,q3 fl hf,b1,G₀,H₀,G1,ρ,kd,A1,hkd,fun u G2 H2 s2 r2=>?_⟩;have A2:=A1.step s2;have eu:=jz r2 hkk;subst eu;have hg:∀b∈a::ps,H₀ b=af/\G2 b=af:=fun b hb=>by
       rcases cr.mp hb with rfl|hb'
       .exact⟨(g2 _ hb).1,(s2.out _ _ g4 rfl).trans (g2 _ hb).2⟩
       .obtain⟨o,e,ek⟩:=g6.mem b hb';exact⟨(g2 _ hb).1,(s2.out _ _ e ek).trans (g2 _ hb).2⟩
      have ha2:H2 a=aa (.ins C dx vs):=s2.hh _ _ g4;have g62:FldsR Γ X.K G2 H2 (vs.map (·.2)) (fs.map (·.2)) ps:=g6.stay s2.gg fun b hb=>by obtain⟨o,e,ek⟩:=g6.mem b hb;rw[e];exact s2.hh _ _ e
      obtain⟨p,us,c1,c2,c3,c4,c5,c6⟩:=FldsR.putK g5 g62 hl;rw[b1] at c1;cases c1;have hlen:us.length=kvs.length:=by simpa using bU c8 c4
      obtain⟨w1,w2⟩:=mf (k:=kk) (r1.mono s2.gg) c4 c5;have npa:a≠p0:=fun z=>nd.1 (by rw[z];exact c2);refine⟨p0,_,rfl,gZ.k c3 (by have:=eY;omega),?_⟩;refine k σ G2 _ (s1.gg.trans s2.gg) (A2.ch hi h1 (.fo gs g1' hg g3 ha2 g5 g62) (fun b o e hb=>?_) (.fo gs g1' hg g3 (by rw[aF npa];exact ha2) (by rw[Ah];exact g5) (c6 nd.2 w1 w2)) (fun b hb=>.inl hb) (.refl _) .(aX) .(aA))
      .rw[aF (fun z=>hb (by rw[z];exact qh _ c2))];exact e
      .rw[aF (bD e (hg p0 (qh _ c2)).2)];exact A2.gh b o e
     .cases hq
    .rename_i kvs hl;split at hq
     .rename_i t;obtain⟨ks,hks,hq⟩:=oBd hq;split at hq
      .rename_i hz;cases hq;obtain⟨p0,_,b1,_⟩:=FldsR.putT g5 g6 hl;refine⟨_,h1,a,C,dx,_,.ref p0,rfl,g4,q2,q3 fl hf,b1,G₀,H₀,G1,ρ,_,A1,hkd,fun u G2 H2 s2 r2=>?_⟩;have A2:=A1.step s2;obtain⟨bb,us0,rfl,hb0,rb⟩:=r2.tup_inv;have ev:=jP rb hks;subst ev;have hg:∀b∈a::ps,H₀ b=af/\G2 b=af:=fun b hb=>by
        rcases cr.mp hb with rfl|hb'
        .exact⟨(g2 _ hb).1,(s2.out _ _ g4 rfl).trans (g2 _ hb).2⟩
        .obtain⟨o,e,ek⟩:=g6.mem b hb';exact⟨(g2 _ hb).1,(s2.out _ _ e ek).trans (g2 _ hb).2⟩
       have ha2:H2 a=aa (.ins C dx vs):=s2.hh _ _ g4;have g62:FldsR Γ X.K G2 H2 (vs.map (·.2)) (fs.map (·.2)) ps:=g6.stay s2.gg fun b hb=>by obtain⟨o,e,ek⟩:=g6.mem b hb;rw[e];exact s2.hh _ _ e
       obtain⟨p,us,c1,c2,c3,c4,c5,c6⟩:=FldsR.putT g5 g62 hl;rw[b1] at c1;cases c1;have hlen:us.length=kvs.length:=by simpa using bU c8 c4
       obtain⟨w1,w2⟩:=mf (k:=ks) (r1.mono s2.gg) c4 c5;have npa:a≠p0:=fun z=>nd.1 (by rw[z];exact c2);refine⟨p0,_,rfl,gZ.t c3 (s2.gh _ _ hb0) (by have:=eY;omega),?_⟩;refine k σ G2 _ (s1.gg.trans s2.gg) (A2.ch hi h1 (.fo gs g1' hg g3 ha2 g5 g62) (fun b o e hb=>?_) (.fo gs g1' hg g3 (by rw[aF npa];exact ha2) (by rw[Ah];exact g5) (c6 nd.2 w1 w2)) (fun b hb=>.inl hb) (.refl _) .(aX) .(aA))
       .rw[aF (fun z=>hb (by rw[z];exact qh _ c2))];exact e
       .rw[aF (bD e (hg p0 (qh _ c2)).2)];exact A2.gh b o e
      .cases hq
     .cases hq
    .cases hq
  .cases hq
 .cases hq⟩
end
noncomputable abbrev Fo:=ac (ai×Fld)
structure UPost (Γ:Cn) (K:aW) (c:ai) (G H G' H':Hp) (fp:ac au) (a:au) (fs:Fo):Prop where
 hH:∀b o,H b=aa o->b∉fp->H' b=aa o
 gg:ba G G'
 gh:ba G' H'
 out:∀b o,H b=aa o->b∉fp->kyT o=ar->G' b=G b
 ob:∃C dx vs ps,Γ.cls c=aa C/\(∀b∈a::ps,G' b=af)/\(a::ps).Nodup/\H' a=aa (.ins C dx vs)/\vs.map (·.1)=fs.map (·.1)/\FldsR Γ K G' H' (vs.map (·.2)) (fs.map (·.2)) ps/\∀b∈a::ps,b∈fp\/H b=af
inductive spU (Γ:Cn) (K:aW) (c:ai) (n:ao) (F:Fo->ac D->aq (D×Fo)) (vs:ac V) (H:Hp) (Q:VK) (_e3:XK):Prop where
 |mk:∀a C dx us ps fs ws G ds d fs',vs=.ref a::ws->Γ.cls c=aa C->ba G H->(∀b∈a::ps,G b=af)->(a::ps).Nodup->H a=aa (.ins C dx us)->us.map (·.1)=fs.map (·.1)->FldsR Γ K G H (us.map (·.2)) (fs.map (·.2)) ps->Reps Γ K G ws ds->ds.length=n->F fs ds=aa (d,fs')->(∀v G' H',UPost Γ K c G H G' H' (a::ps) a fs'->Rep Γ K G' v d->Q v H')->spU Γ K c n F vs H Q _e3
noncomputable def g9 (n:ao) (c:ai) (g:FS):Fo->ac D->aq (D×Fo):=fun fs ds=>(g (aa (.fo aj c fs)::(ds.map .(X)++bM n af))).bind fun(r:Fl×bo)=>match r.2[0]? with
 |some (aa (Slot.fo aj c' fs'))=>if c'=c then match r.1 with
  |.rt d=>aa (d,fs')
  |.nx=>aa (.non,fs')
  |_=>af else af
 |_=>af
theorem FldR.re {Γ Γ':Cn} {K:aW} {G H:Hp} (hc:Γ'.cls=Γ.cls) {v:V} {f:Fld} {p:ac au} (r:FldR Γ K G H v f p):FldR Γ' K G H v f p:=by
 cases r with
 |d h=>exact .d (h.re hc)
 |k a b c=>exact .k a b (c.re hc)
 |t a b c=>exact .t a b (c.re hc)
theorem FldsR.re {Γ Γ':Cn} {K:aW} {G H:Hp} (hc:Γ'.cls=Γ.cls):∀{vs:ac V} {fs:ac Fld} {ps:ac au},FldsR Γ K G H vs fs ps->FldsR Γ' K G H vs fs ps
 |_,_,_,.nil=>.nil
 |_,_,_,.cons r t=>.cons (r.re hc) (t.re hc)
theorem FldsR.to1 {fs:ac Fld} {ps:ac au} (x:au) (r:FldsR Γ K G H vs fs ps):FldsR (Γ.mk1 x) K G H vs fs ps:=FldsR.re (Γ:=Γ) (Γ':=Γ.mk1 x) rfl r
theorem FldsR.of1 {fs:ac Fld} {ps:ac au} {x:au} (r:FldsR (Γ.mk1 x) K G H vs fs ps):FldsR Γ K G H vs fs ps:=FldsR.re (Γ:=Γ.mk1 x) (Γ':=Γ) rfl r
theorem EC {m:ao} :eW (ds.map .(X)++bM m af):=fun i es e=>by
 by_cases hi:i<ds.length
 .rw[qz (by simpa using hi),qk] at e;obtain⟨d,_,e⟩:=oMd e;cases e;exact⟨_,rfl⟩
 .rw[qL (by simpa using hi),uT] at e;split at e<;>cases e
theorem N4 {us:ac (ai×V)} {ps:ac au} {fs:Fo} {m:ao} (gh:ba G H) (hc:Γ.cls c=aa C) (hg:∀b∈a::ps,G b=af) (nd:(a::ps).Nodup) (ha:H a=aa (.ins C dx us)) (hk:us.map (·.1)=fs.map (·.1)) (hf:FldsR Γ K G H (us.map (·.2)) (fs.map (·.2)) ps) (r:Reps Γ K G ws ds) (hm:m=N.length-(ws.length+1)) :
  At (Γ.mk1 a) K G (i8 (a::ps) H) G H (aa (.fo aj c fs)::(ds.map .(X)++bM m af)) (dw N (.ref a::ws)):=by
 have gl:ba G (i8 (a::ps) H):=fun b o e=>by rw[pX fun z=>by rw[hg b z] at e;cases e];exact gh b o e
 have B:=wm (N:=N.tail) (m:=m) gl r (by rw[zf];omega);have es:dw N (.ref a::ws)=aa (.ref a)::dw N.tail ws:=by
  unfold dw;rw[qm,qp,qi,zf]
  congr 3
  omega
 have lh:ba (i8 (a::ps) H) H:=fun b o e=>by
  replace e:(if b∈a::ps then af else H b)=aa o:=e
  split at e
  .cases e
  .exact e
 refine⟨⟨lh,.refl _,gh,fun _ _ _ _=>rfl⟩,by rw[es,qi,qi,B.env.len],fun|0=>a::ps|_+1=>[],fun j s e=>?_,fun j k s t hjk e1 e2=>?_⟩
 .rw[es];cases j with
  |zero=>cases e;exact⟨_,rfl,.fo (fun _=>rfl) hc (fun b hb=>⟨qX hb,hg b hb⟩) nd ha hk (hf.to1 a)⟩
  |succ j=>
   obtain⟨d,rfl⟩:=EC j s e;obtain⟨v,h1,h2⟩:=B.env.sh j d e;exact⟨v,h1,.sh (h2.to1 a)⟩
 .cases j with
  |zero=>
   cases k with
   |zero=>exact bA rfl hjk
   |succ k=>intro b _ hb;cases hb
  |succ j=>intro b hb;cases hb
theorem Fun.okU {f:au} {k:ao} (F:Fun K x qual st f fd) (S:FnScope N (s0::ps) (aG st))
  (hbody:∀(y:au) (cdv:av) (A:cR) (outer:ac cG) (s:aI) (H:Hp) (E:XK),Room k .(w)->
   DSs (Γ.mk1 y) .(n).nox (cv st) g):FnOk P w K mg base CX0 (k+1) f fd (s0::ps) (spU Γ K c ps.length (g9 .(aT) c g)):=by
 refine F.ok S (fun vs H Q E h=>?_) (fun cdv A outer s H vs Q E hr h=>?_)
 .obtain⟨a,C,dx,us,qs,fs,ws,G,ds,d,fs',rfl,_,_,_,_,_,_,_,r,hl,_⟩:=h;rw[qi,qi,r.length,hl]
 .obtain⟨a,C,dx,us,qs,fs,ws,G,ds,d,fs',rfl,hc,gh,hg,nd,ha,hk,hf,r,hl,hd,k⟩:=h;refine⟨_,(hbody a cdv A outer s H E hr).1,?_⟩;unfold g9 at hd;obtain⟨⟨fl,ρ'⟩,hb,hq⟩:=oBd hd;clear hd;refine⟨G,i8 (a::qs) H,G,_,fl,ρ',N4 gh hc hg nd ha hk hf r (by rw[r.length,hl]),hb,fun σ' G' H' sm A'=>?_⟩;have post:∀fs',ρ'[0]?=aa (aa (.fo aj c fs'))->UPost Γ K c G H G' H' (a::qs) a fs':=fun fs' e0=>by
   obtain⟨v,fp,e1,e2⟩:=A'.get e0;refine⟨fun b o e hb=>A'.st.hh b o (by rw[pX hb];exact e),A'.st.gg,A'.st.gh,fun b o e hb=>A'.st.out b o (by rw[pX hb];exact e),?_⟩;cases e2 with
   |fo gs g1 g2 g3 g4 g5 g6=>
    have ea:=gs rfl;cases ea;refine⟨_,_,_,_,g1,fun b hb=>(g2 b hb).2,g3,g4,g5,g6.of1,fun b hb=>?_⟩;have h0:(if b∈a::qs then af else H b)=af:=(g2 b hb).1;split at h0
    .exact .inl (by assumption)
    .exact .inr h0
  split at hq
  .rename_i c' fs1 e0;split at hq
   .rename_i hz;subst hz;cases fl with
    |rt d1=>cases hq;exact fun v rv=>k v G' H' (post _ e0) (Rep.of1 rv)
    |nx=>cases hq;exact k .non G' H' (post _ e0) .non
    |_=>cases hq
   .cases hq
  .cases hq
structure CalU (Γ:Cn) (P:dF) (w:cL) (K:aW) (mg:ai->aq av) (base:Heap) (x c:ai) (n k:ao) (F:Fo->ac D->aq (D×Fo)):Prop where
 ex:∃f fd ps,FnOk P w K mg base CX0 k f fd ps (spU Γ K c n F)/\mg x=aa (.ref f)/\fP K (.ref f)=aj/\fm K fd ps []
structure CalMU (Γ:Cn) (P:dF) (w:cL) (K:aW) (mg:ai->aq av) (base:Heap) (c m:ai) (n k:ao) (F:Fo->ac D->aq (D×Fo)):Prop where
 ex:∃C f fd ps,Γ.cls c=aa C/\Cls K C/\Meth K C m f/\FnOk P w K mg base CX0 k f fd ps (spU Γ K c n F)/\fm K fd ps []
theorem Io {F:Fo->ac D->aq (D×Fo)} {Q:VK} {E:XK} (y:au) (h:spU (Γ.mk1 y) K c n F vs H Q E):spU Γ K c n F vs H Q E:=by obtain⟨a,C,dx,us,ps,fs,ws,G,ds,d,fs',h0,h1,h2,h3,h4,h5,h6,h7,h8,h9,h10,k⟩:=h;refine⟨a,C,dx,us,ps,fs,ws,G,ds,d,fs',h0,h1,h2,h3,h4,h5,h6,h7.of1,h8.of1,h9,h10,fun v G' H' u r=>k v G' H' ⟨u.hH,u.gg,u.gh,u.out,?_⟩ (r.to1 y)⟩;obtain⟨C,dx,vs,ps,b1,b2,b3,b4,b5,b6,b7⟩:=u.ob;exact⟨C,dx,vs,ps,b1,b2,b3,b4,b5,b6.to1 y,b7⟩
theorem CalMU.re {k:ao} {F:Fo->ac D->aq (D×Fo)} (C:CalMU Γ P w K mg base c m n k F) (y:au):CalMU (Γ.mk1 y) P w K mg base c m n k F:=by obtain⟨C,f,fd,ps,h0,h1,h2,h3,h4⟩:=C.ex;exact⟨C,f,fd,ps,h0,h1,h2,h3.imp fun vs H Q E q=>Io y q,h4⟩
theorem Dfn.calU {k:ao} (F:Dfn K mg x st) (S:FnScope N (s0::ps) (aG st))
  (hb:∀(kV doc pm:av) (an:aq au) (cdv ct:av) (us:ac av),us.length=(s0::ps).length->gw .(bj) ⟨us,[]⟩=aZ ((s0::ps).zip us))
  (hbody:∀(f y:au) (cdv:av) (A:cR) (outer:ac cG) (s:aI) (H:Hp) (E:XK),Room k (A.deeper (dI x (aG st) s.heap.objs.size f cdv))->
   DSs (Γ.mk1 y) (dX CX0 P w K mg base N x (aG st) f cdv A outer s H E).nox (cv st) g):CalU Γ P w K mg base x c ps.length (k+1) (g9 .(aT) c g):=by
 obtain⟨f,fd,h1,h2⟩:=F.ex;exact⟨f,fd,s0::ps,h1.okU S (hbody f),h2,h1.kp,h1.binds hb⟩
theorem DfnM.calU {k:ao} (O:ClsOk Γ K mg c C) (F:DfnM K C c m qual st) (S:FnScope N (s0::ps) (aG st))
  (hb:∀(kV doc pm:av) (an:aq au) (cdv ct:av) (us:ac av),us.length=(s0::ps).length->gw (dS m qual (dU st) (cv st) (aG st) .none kV doc pm an cdv ct) ⟨us,[]⟩=aZ ((s0::ps).zip us))
  (hbody:∀(f y:au) (cdv:av) (A:cR) (outer:ac cG) (s:aI) (H:Hp) (E:XK),Room k .(w)->
   DSs (Γ.mk1 y) .(n).nox (cv st) g):CalMU Γ P w K mg base c m ps.length (k+1) (g9 .(aT) c g):=by
 obtain⟨f,fd,h1,h2,h3⟩:=F.ex;exact⟨C,f,fd,s0::ps,O.cn,O.cl,⟨h2,h3,h1.kp⟩,h1.okU S (hbody f),h1.binds hb⟩
variable {fs':Fo}
section
variable {sb:aP} {fs:Fo}
theorem At.upost (A:At Γ K G₀ H₀ G H ρ σ) {vs:ac (ai×V)} {ps:ac au} (hi:ρ[i]?=aa (aa (.fo sb c fs))) (hv:σ[i]?=aa (aa (.ref a))) (gs:sb=aj->Γ.self=aa a) (g1:Γ.cls c=aa C) (g2:∀b∈a::ps,H₀ b=af/\G b=af) (g3:(a::ps).Nodup) (g4:H a=aa (.ins C dx vs)) (g5:vs.map (·.1)=fs.map (·.1)) (g6:FldsR Γ K G H (vs.map (·.2)) (fs.map (·.2)) ps)
  (u:UPost Γ K c G H G' H' (a::ps) a fs'):At Γ K G₀ H₀ G' H' (ρ.set i (aa (.fo sb c fs'))) σ:=by
 obtain⟨C',dx',vs',ps',b1,b2,b3,b4,b5,b6,b7⟩:=u.ob;refine A.ch hi hv (.fo gs g1 g2 g3 g4 g5 g6) u.hH (.fo gs b1 (fun b hb=>⟨?_,b2 b hb⟩) b3 b4 b5 b6) b7 u.gg u.gh u.out;rcases b7 b hb with z|z
 .exact(g2 b z).1
 .exact A.st.hh.free z
end
section
variable {y:ai}
noncomputable def gf (c m:ai) (i:ao) (F:Fo->ac D->aq (D×Fo)) (fr:FA):FS:=fun ρ=>match ρ[i]? with
 |some (aa (.fo s c' fs))=>if c'=c/\fs.lookup m=af then (fr ρ).bind fun ds=>(F fs ds).bind fun z=>aa (.nx,ρ.set i (aa (.fo s c z.2))) else af
 |_=>af
theorem mq {k:ao} (i:ao) {F:Fo->ac D->aq (D×Fo)} (C:CalMU Γ X.prog X.w X.K X.mg X.base c m n k F) (hr:Room j X.A) (hk:k<=j) (ha:DA Γ X (e::es) fr) (hn:∀ρ ds,fr ρ=aa ds->ds.length=n) (hN:X.N[i]?=aa x:=by rfl) (hv:Vis X.env.scope x:=by ac_nf) (hd:.(s)=ar:=by decide) (hcd:.(M)=ar:=by decide)
  (hst:aO (e::es) X.env=(ar,eval e X.env)::aO es X.env:=by rfl) (hpl:.(ae).any (·.1)=ar:=by rfl)
  (ht:eval (.Call (.Attribute .(Q) m apos) (e::es) [] pos) X.env=(do
   let ov ←eval .(Q) X.env
   om apos.atName
   let (f,first) ←hW [ov] (ot ov m pl)
   uS pos f first (bV pos (aO (e::es) X.env)) (jW pos (jX [] X.env))):=by rfl)
  (hs:dH (.Call (.Attribute .(Q) m apos) (e::es) [] pos) af pos'.line X.env=aZ ar:=by rfl) :
  DS Γ X (.Expr (.Call (.Attribute .(Q) m apos) (e::es) [] pos) pos') (gf c m i F fr):=⟨by
 obtain⟨Ca,f,fd,ps,h0,h1,h2,h3,h4⟩:=C.ex;refine(yg (Bt .(aP) h1 h2 h3 (hr.mono hk) h4 .nil kK ha.1 hst hpl ht) hs).imp fun E σ H=>?_;rintro⟨G₀,H₀,G,ρ,fl,ρ',A,h,k⟩;unfold gf at h;split at h
 .rename_i sb c' fs hi;split at h
  .rename_i hz;obtain⟨rfl,hz2⟩:=hz;obtain⟨ds,hds,h⟩:=oBd h;obtain⟨⟨d,fs'⟩,hF,h⟩:=oBd h;cases h;obtain⟨w,fp,q1,q2⟩:=A.get hi;cases q2 with
   |fo gs g1 g2 g3 g4 g5 g6=>
    rename_i a C' dx vs qs;have g1':=g1;rw[h0] at g1;cases g1;refine⟨_,q1,a,dx,vs,rfl,g4,FldsR.none g5 hz2,G₀,H₀,G,ρ,ds,A,hds,fun ws G2 H2 s2 r2=>?_⟩;have A2:=A.step s2;show spU Γ X.K c' n F (_::(ws++[])) H2 _ E0;rw[jf];have hg:∀b∈a::qs,H₀ b=af/\G2 b=af:=fun b hb=>by
     rcases cr.mp hb with rfl|hb'
     .exact⟨(g2 _ hb).1,(s2.out _ _ g4 rfl).trans (g2 _ hb).2⟩
     .obtain⟨o,e,ek⟩:=g6.mem b hb';exact⟨(g2 _ hb).1,(s2.out _ _ e ek).trans (g2 _ hb).2⟩
    have ha2:H2 a=aa (.ins Ca dx vs):=s2.hh _ _ g4;have g62:FldsR Γ X.K G2 H2 (vs.map (·.2)) (fs.map (·.2)) qs:=g6.stay s2.gg fun b hb=>by obtain⟨o,e,ek⟩:=g6.mem b hb;rw[e];exact s2.hh _ _ e
    exact⟨a,Ca,dx,vs,qs,fs,ws,G2,ds,d,fs',rfl,g1',s2.gh,fun b hb=>(hg b hb).2,g3,ha2,g5,g62,r2,hn ρ ds hds,hF,fun v G' H' u r=>k σ G' H' (s2.gg.trans u.gg) (A2.upost hi q1 gs g1' hg g3 ha2 g5 g62 u)⟩
  .cases h
 .cases h⟩
end
structure MPost (Γ:Cn) (K:aW) (c:ai) (G H G' H':Hp) (x:au) (fs:Fo):Prop where
 hh:ba H H'
 gg:ba G G'
 gh:ba G' H'
 out:∀b o,H b=aa o->kyT o=ar->G' b=G b
 ob:∃C dx vs ps,Γ.cls c=aa C/\(∀b∈x::ps,H b=af/\G' b=af)/\(x::ps).Nodup/\H' x=aa (.ins C dx vs)/\vs.map (·.1)=fs.map (·.1)/\FldsR Γ K G' H' (vs.map (·.2)) (fs.map (·.2)) ps
inductive spIU (Γ:Cn) (K:aW) (C:au) (c:ai) (n:ao) (F:ac D->aq Fo) (vs:ac V) (H:Hp) (Q:VK) (_e3:XK):Prop where
 |mk:∀x dx H1 G ds fs us,vs=.ref x::us->H=upd (upd H1 dx (.own x)) x (.ins C dx [])->H1 x=af->H1 dx=af->dx≠x->ba G H1->Reps Γ K G us ds->ds.length=n->F ds=aa fs->(∀G' H',MPost Γ K c G H1 G' H' x fs->Q .non H')->spIU Γ K C c n F vs H Q _e3
noncomputable def jt (n:ao) (c:ai) (g:FS):ac D->aq Fo:=fun ds=>(g (aa (.fo aj c [])::(ds.map .(X)++bM n af))).bind fun(r:Fl×bo)=>match r.1 with
 |.nx=>match r.2[0]? with
  |some (aa (Slot.fo aj c' fs))=>if c'=c then aa fs else af
  |_=>af
 |_=>af
theorem Ic {x:au} {us:ac V} {m:ao} (gh:ba G H1) (hc:Γ.cls c=aa C) (hx:H1 x=af) (hdx:H1 dx=af) (r:Reps Γ K G us ds) (hm:m=N.length-(us.length+1)) :
  At (Γ.mk1 x) K G H1 G (upd (upd H1 dx (.own x)) x (.ins C dx [])) (aa (.fo aj c [])::(ds.map .(X)++bM m af)) (dw N (.ref x::us)):=by
 have B:=wm (N:=N.tail) (m:=m) gh r (by rw[zf];omega);have es:dw N (.ref x::us)=aa (.ref x)::dw N.tail us:=by
  unfold dw;rw[qm,qp,qi,zf]
  congr 3
  omega
 have lh:ba H1 (upd (upd H1 dx (.own x)) x (.ins C dx [])):=fun b o e=>by rw[aF (bD e hx),aF (bD e hdx)];exact e
 refine⟨⟨lh,.refl _,gh.trans lh,fun _ _ _ _=>rfl⟩,by rw[es,qi,qi,B.env.len],fun|0=>[x]|_+1=>[],fun j s e=>?_,fun j k s t hjk e1 e2=>?_⟩
 .rw[es];cases j with
  |zero=>cases e;exact⟨_,rfl,.fo (ps:=[]) (fun _=>rfl) hc (fun b hb=>by rw[bL.mp hb];exact⟨hx,gh.free hx⟩) (eA.mpr ⟨.(F),lq⟩) bj rfl .nil⟩
  |succ j=>
   obtain⟨d,rfl⟩:=EC j s e;obtain⟨v,h1,h2⟩:=B.env.sh j d e;exact⟨v,h1,.sh (h2.to1 x)⟩
 .cases j with
  |zero=>
   cases k with
   |zero=>exact bA rfl hjk
   |succ k=>intro b _ hb;cases hb
  |succ j=>intro b hb;cases hb
theorem Dz {m:ao} {Q:VK} {E:XK} (hm:N.length-(n+1)=m) (hc:Γ.cls c=aa C) (h:spIU Γ K C c n (jt m c g) vs H Q E):∃y,TDs (Γ.mk1 y) K g {nx:=fun _ H'=>Q .non H',rt:=Q} (dw N vs) H:=by
 obtain⟨y,dx,H1,G,ds,fs,us,rfl,rfl,hy,hdy,_,gh,r,hl,hd,k⟩:=h;refine⟨y,?_⟩;unfold jt at hd;obtain⟨⟨fl,ρ'⟩,hb,hq⟩:=oBd hd;clear hd;refine⟨G,H1,G,_,fl,ρ',Ic gh hc hy hdy r (by rw[r.length,hl,hm]),hb,fun σ' G' H' sm A'=>?_⟩;cases fl with
 |nx=>
  show Q .non H'
  replace hq:(match ρ'[0]? with
   |some (aa (Slot.fo aj c' fs))=>if c'=c then aa fs else af
   |_=>af)=aa fs:=hq
  split at hq
  .rename_i c' fs1 e0;split at hq
   .rename_i hz;subst hz;cases hq;obtain⟨v,fp,e1,e2⟩:=A'.get e0;cases e2 with
    |fo gs g1 g2 g3 g4 g5 g6=>
     have ea:=gs rfl;cases ea;exact k G' H' ⟨A'.st.hh,A'.st.gg,A'.st.gh,A'.st.out,_,_,_,_,g1,g2,g3,g4,g5,g6.of1⟩
   .cases hq
  .cases hq
 |_=>cases hq
theorem D3 {F:ac D->aq Fo} {Q:VK} {E:XK} (h:spIU Γ K C c n F vs H Q E):vs.length=n+1:=by obtain⟨y,dx,H1,G,ds,fs,us,rfl,_,_,_,_,_,r,hl,_⟩:=h;rw[qi,r.length,hl]
theorem Fun.okIU {f:au} {k:ao} (F:Fun K x qual st f fd) (S:FnScope N (s0::ps) (aG st)) (hc:Γ.cls c=aa C)
  (hbody:∀(y:au) (cdv:av) (A:cR) (outer:ac cG) (s:aI) (H:Hp) (E:XK),Room k .(w)->
   DSs (Γ.mk1 y) .(n).nox (cv st) g):FnOk P w K mg base CX0 (k+1) f fd (s0::ps) (spIU Γ K C c ps.length (jt .(aT) c g)):=
 F.ok S (fun vs H Q E h=>D3 h) fun cdv A outer s H vs Q E hr h=>by obtain⟨y,q⟩:=Dz (N:=N) rfl hc h;exact⟨_,(hbody y cdv A outer s H E hr).1,q⟩
structure CalIU (Γ:Cn) (P:dF) (w:cL) (K:aW) (mg:ai->aq av) (base:Heap) (c:ai) (n k:ao) (dd:ac D) (F:ac D->aq Fo):Prop where
 ex:∃C f fd ps dvs ds,Γ.cls c=aa C/\Mk K C f/\mg c=aa (.ref C)/\FnOk P w K mg base CX0 k f fd ps (spIU Γ K C c n F)/\fm K fd ps ds/\bi dvs ds/\∀G,Reps Γ K G dvs dd
theorem CalIU.re {k:ao} {dd:ac D} {F:ac D->aq Fo} (C:CalIU Γ P w K mg base c n k dd F) (y:au):CalIU (Γ.mk1 y) P w K mg base c n k dd F:=by obtain⟨C,f,fd,ps,dvs,ds,h0,h1,h2,h3,h4,h5,h6⟩:=C.ex;refine⟨C,f,fd,ps,dvs,ds,h0,h1,h2,h3.imp fun vs H Q E q=>?_,h4,h5,fun G=>(h6 G).to1 y⟩;obtain⟨x,dx,H1,G,ds,fs,us,a1,a2,a3,a4,a5,a6,a7,a8,a9,k⟩:=q;refine⟨x,dx,H1,G,ds,fs,us,a1,a2,a3,a4,a5,a6,a7.of1,a8,a9,fun G' H' u=>k G' H' ⟨u.hh,u.gg,u.gh,u.out,?_⟩⟩;obtain⟨C,dx,vs,ps,b1,b2,b3,b4,b5,b6⟩:=u.ob;exact⟨C,dx,vs,ps,b1,b2,b3,b4,b5,b6.to1 y⟩
theorem DfnM.calIU {k:ao} (O:ClsOk Γ K mg c C) (F:DfnM K C c "__init__" qual st) (S:FnScope N (s0::ps) (aG st))
  (hb:∀(kV doc pm:av) (an:aq au) (cdv ct:av) (us:ac av),us.length=(s0::ps).length->gw (dS "__init__" qual (dU st) (cv st) (aG st) .none kV doc pm an cdv ct) ⟨us,[]⟩=aZ ((s0::ps).zip us))
  (hbody:∀(f y:au) (cdv:av) (A:cR) (outer:ac cG) (s:aI) (H:Hp) (E:XK),Room k .(w)->
   DSs (Γ.mk1 y) .(n).nox (cv st) g):CalIU Γ P w K mg base c ps.length (k+1) [] (jt .(aT) c g):=by
 obtain⟨f,fd,h1,h2,h3⟩:=F.ex;exact⟨C,f,fd,s0::ps,[],[],O.cn,⟨O.makes,h2,h3,O.kp⟩,O.mgC,h1.okIU S O.cn (hbody f),h1.binds hb,.nil,fun _=>.nil⟩
section
variable {y:ai} {dd:ac D}
theorem II {x:au} {fs:Fo} (A:At Γ K G₀ H₀ G H ρ σ) (u:MPost Γ K c G H G' H' x fs):At Γ K G₀ H₀ G' H' (ρ.set j (aa (.fo ar c fs))) (σ.set j (aa (.ref x))):=by obtain⟨C,dx,vs,ps,b1,b2,b3,b4,b5,b6⟩:=u.ob;exact A.put (i:=j) (fp:=[]) (fp':=x::ps) (.inl rfl) (fun b o e _=>u.hh b o e) (.fo (fun z=>by cases z) b1 (fun b hb=>⟨A.st.hh.free (b2 b hb).1,(b2 b hb).2⟩) b3 b4 b5 b6) (fun b hb=>.inr (b2 b hb).1) u.gg u.gh (fun b o e _=>u.out b o e) .(be)
theorem Jm {x:au} {fs:Fo} (gh:ba G H) (u:MPost Γ K c G H G' H' x fs):∃G2,Step G H G2 H'/\Rep Γ K G2 (.ref x) (foD c fs):=by
 obtain⟨C,dx,vs,ps,b1,b2,b3,b4,b5,b6⟩:=u.ob;have hn:∀b∈x::ps,G' b=af:=fun b hb=>(b2 b hb).2;have sm:=mU (H:=H') hn;refine⟨og (x::ps) H' G',⟨u.hh,u.gg.trans sm,fun b o e=>?_,fun b o e ek=>?_⟩,?_⟩
 .replace e:(if b∈x::ps then H' b else G' b)=aa o:=e
  split at e
  .exact e
  .exact u.gh b o e
 .show(if b∈x::ps then H' b else G' b)=_;rw[qY fun z=>by rw[(b2 b z).1] at e;cases e];exact u.out b o e ek
 .refine .ins (show(if x∈x::ps then H' x else G' x)=_ by rw[qX qg];exact b4) b1 (by rw[b5,qo];rfl) ?_;have:=b6.frz hn fun b hb=>qh _ hb;rw[qo] at this ⊢;exact this
noncomputable def oO (c:ai) (j:ao) (F:ac D->aq Fo) (dd:ac D) (fr:FA):FS:=fun ρ=>(fr ρ).bind fun ds=>(F (ds++dd)).bind fun fs=>aa (.nx,ρ.set j (aa (.fo ar c fs)))
theorem MY {m k l:ao} (j:ao) {F:ac D->aq Fo} (hNd:X.N.Nodup) (C:CalIU Γ X.prog X.w X.K X.mg X.base c n k dd F) (hr:Room l X.A) (hk:k+1<=l) (hg:Gl X c) (ha:DA Γ X (e::es) fr) (hn:∀ρ ds,fr ρ=aa ds->ds.length=m) (hm:m+dd.length=n)
  (hdb:(c==("__debug__":ai))=ar:=by decide) (he:aO (e::es) X.env=(ar,eval e X.env)::aO es X.env:=by rfl) (hpl:.(ae).any (·.1)=ar:=by rfl)
  (hj:X.N[j]?=aa y:=by rfl) (hx:Loc X.env.scope y:=by ac_nf) (hs:dH (.Call (.Name c p) (e::es) [] pos) (aa (.Name y py)) pos'.line X.env=aZ ar:=by rfl) (hf:X.fn y=aj\/X.env.scope.names.lookup y=aa .local:=by ac_nf) :
  DS Γ X (.Assign [.Name y py] (.Call (.Name c p) (e::es) [] pos) pos') (oO c j F dd fr):=⟨by
 obtain⟨Ca,f,fd,ps,dvs,dsV,h0,h1,h2,h3,h4,h5,h6⟩:=C.ex;refine(pL hNd hj hx (wt h1 h3 (hr.mono hk) hg h2 h4 h5 kK ha.1 hdb he hpl) hs hf).imp fun E σ H=>?_;rintro⟨G₀,H₀,G,ρ,fl,ρ',A,h,k⟩;unfold oO at h;obtain⟨ds,hds,h⟩:=oBd h;obtain⟨fs,hF,h⟩:=oBd h;cases h;refine⟨G₀,H₀,G,ρ,ds,A,hds,fun ws G1 H1 s1 r1 x dx hx hdx ne=>?_⟩;have A1:=A.step s1;exact⟨x,dx,H1,G1,ds++dd,fs,ws++dvs,rfl,rfl,hx,hdx,ne,s1.gh,r1.append (h6 G1),by rw[qj,hn ρ ds hds,hm],hF,fun G' H' u=>⟨rfl,k _ G' H' (s1.gg.trans u.gg) (II A1 u)⟩⟩⟩
theorem N6 {m k l:ao} {F:ac D->aq Fo} (C:CalIU Γ X.prog X.w X.K X.mg X.base c n k dd F) (hr:Room l X.A) (hk:k+1<=l) (hg:Gl X c) (ha:DA Γ X (e::es) fr) (hn:∀ρ ds,fr ρ=aa ds->ds.length=m) (hm:m+dd.length=n)
  (hdb:(c==("__debug__":ai))=ar:=by decide) (he:aO (e::es) X.env=(ar,eval e X.env)::aO es X.env:=by rfl) (hpl:.(ae).any (·.1)=ar:=by rfl) :
  DE Γ X (.Call (.Name c p) (e::es) [] pos) (cF (fun ds=>(F (ds++dd)).map (foD c)) fr):=⟨by
 obtain⟨Ca,f,fd,ps,dvs,dsV,h0,h1,h2,h3,h4,h5,h6⟩:=C.ex;refine(wt h1 h3 (hr.mono hk) hg h2 h4 h5 kK ha.1 hdb he hpl).imp fun σ H Q=>?_;rintro⟨G₀,H₀,G,ρ,d,A,h,k⟩;unfold cF at h;obtain⟨ds,hds,h⟩:=oBd h;obtain⟨fs,hF,rfl⟩:=oMd h;refine⟨G₀,H₀,G,ρ,ds,A,hds,fun ws G1 H1 s1 r1 x dx hx hdx ne=>?_⟩;refine⟨x,dx,H1,G1,ds++dd,fs,ws++dvs,rfl,rfl,hx,hdx,ne,s1.gh,r1.append (h6 G1),by rw[qj,hn ρ ds hds,hm],hF,fun G' H' u=>⟨rfl,?_⟩⟩;obtain⟨G2,s2,r2⟩:=Jm s1.gh u;exact k _ G2 H' (s1.trans s2) r2⟩
end
structure FunD (K:aW) (x qual:ai) (st:Stmt) (f:au) (fd:lg) (items:ac av):Prop where
 ex:∃(oc:av) (od:aq au) (T:au) (kV doc pm:av) (an:aq au) (cdv ct:av) (osl:bO (aq av)) (to:Obj) (n:ao),
  fd=dS x qual (dU st) (cv st) (aG st) (.ref T) kV doc pm an cdv ct/\K.lookup f=aa ⟨oc,od,.func fd,osl⟩/\mI K cdv qual=aj/\K.lookup T=aa to/\to.data=.seq items.toArray n
 kp:fP K (.ref f)=aj
theorem FunD.ok {f:au} {items:ac av} {k:ao} (F:FunD K x qual st f fd items) (S:FnScope N ps (aG st)) (len:∀vs H Q E,sp vs H Q E->vs.length=ps.length)
  (hbody:∀(cdv:av) (A:cR) (outer:ac cG) (s:aI) (H:Hp) (vs:ac V) (Q:VK) (E:XK),Room k .(w)->sp vs H Q E->
   ∃t,PSs .(n).nox (cv st) t/\t {nx:=fun _ H'=>Q .non H',rt:=Q} (dw N vs) H):FnOk P w K mg base CX0 (k+1) f fd ps sp:=by
 obtain⟨oc,od,T,kV,doc,pm,an,cdv,ct,osl,to,n,rfl,lk,hcd,_⟩:=F.ex;refine Bk lk hcd S len fun A outer s H vs Q E hr hsp=>?_;obtain⟨t,h,q⟩:=hbody cdv A outer s H vs Q E hr hsp;exact⟨t,h.nox,q⟩
structure DfnMD (K:aW) (C:au) (c m qual:ai) (st:Stmt) (dvs:ac V):Prop where
 ex:∃f fd items,FunD K m qual st f fd items/\bi dvs items/\ce K (.ref C) m=aa (aa (.ref f))/\oq K (.ref f)=aj
theorem DfnMD.mk' {f T:au} {items:ac av} {kV:av} {to:Obj} (a:ce K (.ref C) m=aa (aa (.ref f))) (i:oq K (.ref f)=aj)
  (l:K.lookup f=aa ⟨oc,od,.func (dS m qual (dU st) (cv st) (aG st) (.ref T) kV doc pm an cdv ct),osl⟩) (cd:mI K cdv qual=aj) (k:fP K (.ref f)=aj) (lT:K.lookup T=aa to) (dT:to.data=.seq items.toArray n) (v:bi dvs items):DfnMD K C c m qual st dvs:=⟨f,_,items,⟨⟨oc,od,T,kV,doc,pm,an,cdv,ct,osl,to,n,rfl,l,cd,lT,dT⟩,k⟩,v,a,i⟩
section
open PyProof
section
variable {R:lb->aI->Prop} {P:ao->av->Prop} {St:ao->Heap->Prop}
theorem Pj (W:lr prog w A.in1 I fp wr n P St) (bt:ao->ao->aP) (kw:ac (ai×av)) (hc:rV prog w A.in1 .Lt P bt) (S:au) (hSf:S∉fp):∀(m j:ao) (s:aI) (u:av) (c:ao),n=j+1+m->
  St (j+1) s.heap->P (ck bt j) u->s.heap.get? S=aa (nM [u,u] c)->
  (∀v h' tk,P (ck bt (j+m)) v->(∀b o,b∉wr->b≠S->s.heap.get? b=aa o->h'.get? b=aa o)->R (.ok (.ret v)) {s with heap:=h',toks:=tk})->fz .(N) A (.builtin "min.loop" ⟨[.ref I,.none,.ref S],kw⟩) R s:=by
 have sw:S∉wr:=fun z=>hSf (W.sub _ z);have nm:(iF "min"++iF ".loop":cK)="min.loop":=by decide
 intro m
 induction m with
 |zero=>
  intro j s u c e st pu so r;refine ie zg (by
   rw[iE lC _];show aD _ A.in1 (j6 (.ref S) >>= _) _ _ s;refine qw (jh so rfl ?_);show aD _ A.in1 (j7 (fO (.ref I)) _ >>= _) _ _ s;refine qw (ji (W.done s _ _ (by rw[e];exact st) fun h' tk kp=>?_));show aD _ A.in1 (zc S (fun _=>#[]) >>= _) _ _ _;have so':=kp S _ sw so;refine qw ?_;refine rW so' rfl (qw (mR (qA ?_)));exact r u _ tk pu fun b o hb hS z=>(qx _ _ (cM hS)).trans (kp b o hb z))
 |succ m ih=>
  intro j s u c e st pu so r;have lt:j+1<n:=by omega
  refine ie zg (by
   rw[iE lC _];show aD _ A.in1 (j6 (.ref S) >>= _) _ _ s;refine qw (jh so rfl ?_);show aD _ A.in1 (j7 (fO (.ref I)) _ >>= _) _ _ s;refine qw (ji (W.item (j+1) s _ _ lt st fun v h' tk pv st' kp=>?_));have so':=kp S _ sw so;show aD _ A.in1 (j7 (hW [v,v] (richCompare .Lt v u >>= _)) _ >>= _) _ _ _;refine qw (ji (qU (qw (hc (j+1) (ck bt j) v u _ _ _ pv pu ?_))));refine qw (qU (jb ?_));refine qw (mR (qA ?_));have ae:j+1+m=j+(m+1):=by omega
   by_cases hb:bt (j+1) (ck bt j)=aj
   .have ab:ck bt (j+1)=j+1:=by simp only[ck,hb,cy]
    simp only[hb,cy];refine qw ?_;refine rW so' rfl (qw (mR ?_));rw[nm];refine qA ⟨ig lC _,ih (j+1) _ v _ .(b) (W.frame _ _ _ st' fun b hf o z=>?_) (by rw[ab];exact pv) (rS _ so' rfl) fun v' h2 t2 p2 k2=>?_⟩
    .exact(qx _ _ (fun q:S=b=>hSf (by rw[q];exact hf))).trans z
    .exact r v' h2 t2 (by rw[←ae];exact p2) fun b o hw hS z=>k2 b o hw hS ((qx _ _ (cM hS)).trans (kp b o hw z))
   .have hb':bt (j+1) (ck bt j)=ar:=by simpa using hb
    have ab:ck bt (j+1)=ck bt j:=by simp only[ck,hb',qq,cH]
    simp only[hb',qq,cH];refine qw (mR ?_);rw[nm];refine qA ⟨ig lC _,ih (j+1) _ u c .(b) st' (by rw[ab];exact pu) so' fun v' h2 t2 p2 k2=>?_⟩;exact r v' h2 t2 (by rw[←ae];exact p2) fun b o hw hS z=>k2 b o hw hS (kp b o hw z))
theorem HK (W:lr prog w A.in1 I fp wr n P St) (bt:ao->ao->aP) (kw:ac (ai×av)) (hc:rV prog w A.in1 .Lt P bt) (S:au) (hSf:S∉fp) (hn:0<n) {c:ao} (st:St 0 s.heap) (so:s.heap.get? S=aa (nM [] c))
  (r:∀v h' tk,P (ck bt (n-1)) v->(∀b o,b∉wr->b≠S->s.heap.get? b=aa o->h'.get? b=aa o)->R (.ok (.ret v)) {s with heap:=h',toks:=tk}):fz .(N) A (.builtin "min.loop" ⟨[.ref I,.none,.ref S],kw⟩) R s:=by
 have sw:S∉wr:=fun z=>hSf (W.sub _ z);have nm:(iF "min"++iF ".loop":cK)="min.loop":=by decide
 refine ie zg (by
  rw[iE lC _];show aD _ A.in1 (j6 (.ref S) >>= _) _ _ s;refine qw (jh so rfl ?_);show aD _ A.in1 (j7 (fO (.ref I)) _ >>= _) _ _ s;refine qw (ji (W.item 0 s _ _ hn st fun v h' tk pv st' kp=>?_));have so':=kp S _ sw so;show aD _ A.in1 (zc S (fun _=>#[v,v]) >>= _) _ _ _;refine qw ?_;refine rW so' rfl ?_;rw[nm];refine qA ⟨ig lC _,Pj W bt kw hc S hSf (n-1) 0 _ v _ .(b) (W.frame _ _ _ st' fun b hf o z=>?_) pv (rS _ so' rfl) fun v' h2 t2 p2 k2=>?_⟩
  .exact(qx _ _ (fun q:S=b=>hSf (by rw[q];exact hf))).trans z
  .exact r v' h2 t2 (by rw[lz] at p2;exact p2) fun b o hw hS z=>k2 b o hw hS ((qx _ _ (cM hS)).trans (kp b o hw z)))
theorem K1 (W:lr prog w A.in1 I fp wr n P St) (x:ai) (d:av) (kw:ac (ai×av)) (S:au) (hSf:S∉fp) (hn:n=0) {c:ao} (st:St 0 s.heap) (so:s.heap.get? S=aa (nM [] c))
  (r:∀h' tk,(∀b o,b∉wr->b≠S->s.heap.get? b=aa o->h'.get? b=aa o)->R (.ok (.ret d)) {s with heap:=h',toks:=tk}):fz .(N) A (.builtin "min.loop" ⟨[.ref I,.none,.ref S],(x,d)::kw⟩) R s:=by
 subst hn;refine ie zg (by rw[iE lC _];show aD _ A.in1 (j6 (.ref S) >>= _) _ _ s;refine qw (jh so rfl ?_);show aD _ A.in1 (j7 (fO (.ref I)) _ >>= _) _ _ s;refine qw (ji (W.done s _ _ st fun h' tk kp=>?_));show aD _ A.in1 (rule _ >>= _) _ _ _;refine qw (yo ?_);exact qA (r h' tk fun b o hb _ z=>kp b o hb z))
end
theorem Oo (a v:av):zd "min" ⟨[a],[(ib "default",v)]⟩:=by unfold zd;kernel_rfl
theorem Kk {x d:av} 
  (h:aD .(N) A.in1 (mB x) (fun it t=>∃I fp wr n P St bt,it=.ref I/\lr prog w A.in1 I fp wr n P St/\St 0 t.heap/\(∀b∈fp,b<t.heap.objs.size)/\rV prog w A.in1 .Lt P bt /\
   (n=0->∀h' tk,(∀b o,b∉wr->t.heap.get? b=aa o->h'.get? b=aa o)->Q d {t with heap:=h',toks:=tk}) /\
   (0<n->∀v h' tk,P (ck bt (n-1)) v->(∀b o,b∉wr->t.heap.get? b=aa o->h'.get? b=aa o)->Q v {t with heap:=h',toks:=tk})) E s) :
  aD .(N) A (call (.builtin "min") [x] [(ib "default",d)]) Q E s:=by
 have nm:(iF "min"++iF ".loop":cK)="min.loop":=by decide
 refine kmb_tree F.kind_min F.plain_min F.entry_min (Oo _ _) ?_;show aD _ A.in1 (ze "min" ["key","default"] 0 ⟨[],[(ib "default",d)]⟩ >>= _) _ _ s;refine qw (rT (show ze "min" ["key","default"] 0 ⟨[],[(ib "default",d)]⟩=aZ [af,aa d] from rfl) ?_);refine qw (qA ?_);refine qw (thn h fun it t q=>?_);obtain⟨I,fp,wr,n,P,St,bt,rfl,W,st,hf,hc,q0,q1⟩:=q;have nf:t.heap.objs.size∉fp:=fun z=>hU _ (hf _ z);refine qw (jd ?_);rw[nm];by_cases hn:n=0
 .exact qA ⟨ig lC _,K1 W _ d [] t.heap.objs.size nf hn (W.frame _ _ _ st fun b _ o z=>qt _ z) (qG _ rfl) fun h' tk kp=>q0 hn h' tk fun b o hb z=>kp b o hb (qC (qu z)) (qt _ z)⟩
 .exact qA ⟨ig lC _,HK W bt _ hc t.heap.objs.size nf .(b) (W.frame _ _ _ st fun b _ o z=>qt _ z) (qG _ rfl) fun v h' tk pv kp=>q1 .(b) v h' tk pv fun b o hb z=>kp b o hb (qC (qu z)) (qt _ z)⟩
noncomputable def i6 (ns:ac ah) (i j:ao):aP:=decide (ns.getD i 0<ns.getD j 0)
def kA (ns:ac ah):D:=if ns=[] then .non else .int (ns.getD (ck (i6 ns) (ns.length-1)) 0)
def nZ (ns:ac ah):V:=if ns=[] then .non else .int (ns.getD (ck (i6 ns) (ns.length-1)) 0)
def sZ:D->aq D
 |.lst l=>(gJ l).map kA
 |_=>af
def Kr (t:TE):TE:=fun σ H Q=>t σ H fun v H1=>∃(a:au) (ns:ac ah),[v]=[.ref a]/\H1 a=aa (.lst (ns.map V.int))/\Q (nZ ns) H1
theorem Nz {t:TE} {kp:dq} (hc:X.calm=aj) (hg:Gl X "min") (hm:X.mg "min"=af) (h:PE X e t) (he:aO [e] X.env=(ar,eval e X.env)::aO [] X.env:=by rfl) (hb:bV pos (aO [e] X.env)=(ar,eval e X.env)::bV pos (aO [] X.env):=by rfl)
  (hpl:(bV pos (aO [e] X.env)).any (·.1)=ar:=by rfl) :
  PE X (.Call (.Name "min" p) [e] [⟨aa "default",.Constant .none j cp,kp⟩] pos) (Kr t):=by
 intro pins s σ H Q I q;refine rE (jF I hg hm (u:=.builtin "min") (by rfl) ?_);refine callWith_kw (thn (iH h jx he pos pins s σ H (fun vs H1=>∃(a:au) (ns:ac ah),vs=[.ref a]/\H1 a=aa (.lst (ns.map V.int))/\Q (nZ ns) H1) I q) fun us s1 ⟨vs,H1,I1,r1,q1⟩=>?_) hb hpl;obtain⟨a,ns,rfl,ha,q2⟩:=q1;obtain⟨u,rfl,ru⟩:=eQ r1;cases ru;refine kws_cons (EL (kws_nil ?_));show aD _ _ (call (.builtin "min") [.ref a] [(ib "default",.none)]) _ _ _;obtain⟨its,rv,pl,_⟩:=I1.list (.inl (.inl ha));obtain⟨vl,vi⟩:=wJ rv;refine Kk (rK pl.isList ?_);have ne:a≠s1.heap.objs.size:=by obtain⟨o,_,h1,_⟩:=pl;exact qC (qu h1)
 have hP:∀(i:ao) v,its.toArray[i]?=aa v->∃t,v=.int (ns.getD i 0) t:=fun i v hv=>vi i v (by simpa using hv);have la:a<s1.heap.objs.size:=by obtain⟨o,_,h1,_⟩:=pl;exact qu h1
 have sz:its.toArray.size=ns.length:=by simp[vl]
 refine⟨s1.heap.objs.size,_,_,_,_,_,i6 ns,rfl,u6 (A:=X.A.in1) (show X.A.in1.handled=af from I1.ok.hd hc) s1.heap.objs.size a ne its.toArray,⟨⟨_,qG _ rfl,rfl,rfl⟩,pl.isList.at fun o q=>qt _ q⟩,fun b hb=>?_,CmpOf.ints_lt (fun i=>ns.getD i 0) hP,fun hn h' tk hk=>?_,fun hn v h' tk pv hk=>?_⟩
 .rw[lf];simp only[qM,qJ,or_false] at hb;rcases hb with z|z
  .rw[z];exact rB _
  .rw[z];exact vh la
 .have e0:ns=[]:=u0.mp .(b);refine⟨.non,H1,I1.kept fun b o z=>hk b o ?_ (qt _ z),rfl,?_⟩
  .intro z';have:b=s1.heap.objs.size:=by simpa using z'
   exact bA (qu z) (by rw[this];exact hU _)
  .unfold nZ at q2;rw[qX e0] at q2;exact q2
 .have e0:ns≠[]:=fun z=>by rw[sz,z] at hn;exact bA hn .(f)
  obtain⟨t,rfl⟩:=hP _ _ pv;refine⟨nZ ns,H1,I1.kept fun b o z=>hk b o ?_ (qt _ z),?_,q2⟩
  .intro z';have:b=s1.heap.objs.size:=by simpa using z'
   exact bA (qu z) (by rw[this];exact hU _)
  .unfold nZ;rw[qY e0,sz];exact⟨t,rfl⟩
theorem D4 {kp:dq} (hc:X.calm=aj) (hg:Gl X "min") (hm:X.mg "min"=af) (h:DE Γ X e f) (he:aO [e] X.env=(ar,eval e X.env)::aO [] X.env:=by rfl) (hb:bV pos (aO [e] X.env)=(ar,eval e X.env)::bV pos (aO [] X.env):=by rfl)
  (hpl:(bV pos (aO [e] X.env)).any (·.1)=ar:=by rfl):DE Γ X (.Call (.Name "min" p) [e] [⟨aa "default",.Constant .none j cp,kp⟩] pos) (b1 sZ f):=⟨(Nz hc hg hm h.1 he hb hpl).imp fun σ H Q=>by
 rintro⟨G₀,H₀,G,ρ,z,A,hq,k⟩;unfold b1 at hq;obtain⟨d,hd,hi⟩:=oBd hq;refine⟨G₀,H₀,G,ρ,d,A,hd,fun v G1 H1 s1 r1=>?_⟩;unfold sZ at hi;split at hi
 .obtain⟨ns,hn,rfl⟩:=oMd hi;obtain⟨a,us,rfl,ha,ra⟩:=r1.lst_inv;refine⟨a,ns,rfl,by rw[←tF ra hn];exact s1.gh _ _ ha,k _ G1 H1 s1 ?_⟩;unfold nZ kA;split
  .exact .non
  .exact .int _
 .cases hi⟩
end
section
open PyProof
section
variable {it d:au} {es:bO uY} {od:Obj}
theorem J3 (hs:(d==iB)=ar) (hod:s.heap.get? d=aa od) (hx:od.ExactDict) (hdd:od.data=.dict es ep)
  (hQ:∀h',h'=s.heap.push {cls:=.type "dict_keyiterator",data:=.fields #[.ref d,.int 0 0,.int es.size 0,.int ep 0]}->Q .(aQ) {s with heap:=h'}) :
  aD .(N) A (mB (.ref d)) Q E s:=by
 have hT:s.TypeIs (.ref d) "dict":=⟨od,hod,hx.1⟩;refine wpAny_pyIter_slot hT TV (E4 TV hT F.entry_dict_iter ?_ (F.args_dict_iter_1 _));unfold Builtin.«dict.__iter__» U0;refine qw (qw (TR hT ?_));show aD _ _ (aZ (bY d)) _ _ s;refine qA ?_;show aD _ _ (TW d >>= _) _ _ s;unfold TW;rw[qY (by rw[hs];exact qr)];exact qw (qA (qw (TX hod hdd (qw (TY hod hdd (qw (jd (qA
  ⟨_,rfl,"dict_keyiterator",_,⟨_,qG _ rfl,rfl⟩,FI.lookup,hQ _ rfl⟩))))))))
theorem DX {Q:aq av->aI->Prop} (hh:A.handled=af) (hit:s.heap.IsKeyIter it d i es.size ep) (hod:s.heap.get? d=aa od) (hdd:od.data=.dict es ep)
  (hi:∀e h',es[i]?=aa e->h'.IsKeyIter it d (i+1) es.size ep->iC it s.heap h'->Q (aa e.key) {s with heap:=h'})
  (he:es[i]?=af->∀h',Heap.ExtBut it s.heap h'->Q af {s with heap:=h'}):aD .(N) A (fO (.ref it)) Q E s:=by
 obtain⟨o,ho,hc,hd⟩:=id hit;have hT:=hit.typeIs;unfold fO;refine qw (FD (SC (name:=ib "__next__") hT FI
  (E4 FI hT F.entry_dict_keyiterator_next ?_ (F.args_dict_keyiterator_next_1 _))))
 refine qw (qA (qw (qw ?_)));refine qw (FJ hT (qA (qw (wpAny_fieldsOf ho hd ?_))));simp only[show U1 "dict_keyiterator"=ar by decide,qq,cH];show aD _ _ (if (bY d==kT)=aj then _ else _) _ _ s;rw[qY (show ¬((bY d==kT)=aj) from qr)];refine qw (qA (qw (TX hod hdd ?_)));rw[qY (by simp)];refine qw (qA (qw (TY hod hdd ?_)));rw[qY (by simp)];refine qA ?_;simp only[show ¬((i:ah)<0) from by omega,cH,gO];cases hx:es[i]? with
 |some e=>
  refine qw (qw (FJ hT (qA (qw (TZ hT ?_)))));show aD _ _ (setField (.ref it) 1 (rj ((i:ah)+1)) >>= _) _ _ s;refine qw (T0 ho hd (by simp) ?_);have hit':(s.heap.update it (T1 (·.setIfInBounds 1 (rj ((i:ah)+1))))).IsKeyIter it d (i+1) es.size ep:=
   ⟨_,rS _ ho (Obj.isFreed_of_fields (T2 hd _)),(Obj.cls_mapFields ..).trans hc,by rw[T2 hd];simp[rj]⟩
  refine qw (qU (qw (TZ (s:={s with heap:=s.heap.update it (T1 (·.setIfInBounds 1 (rj ((i:ah)+1))))}) hit'.typeIs ?_)));show aD _ _ (aZ e.key) _ _ _;exact qA (qA ⟨_,rfl,qA (hi _ _ hx hit' (y7 ..))⟩)
 |none=>
  refine qw (qw (FJ hT (qA ?_)));show aD _ _ (setField (.ref it) 0 .none >>= _) _ _ s;refine qw (T0 ho hd (by simp) ?_);show aD _ _ (newExc (.type "StopIteration") [] >>= _) _ _ _;simp only[newExc,newTuple];refine qw (qw (jd ?_ (by size_fits)));refine qw (m:=T3 _ _) (rT (a:=kT) (by first|rfl|(simp only[T3];rfl)) ?_);refine jd ?_ (by size_fits);simp only[raiseNew];refine qw (wpAny_handled ?_);rw[show A.in1.handled=af from hh];refine qw (qA (wpAny_throw ?_));refine qw (FF (T:="StopIteration") (b:=aj) ⟨_,qG _ rfl,rfl⟩ isSubtype_stop ?_);exact qA (he hx _ (((y7 ..).extBut.push _).push _))
end
end
section
variable {a c o i:Expr}
end
section
variable {a c o i:Expr}
end
theorem cm.there {h:Heap} {o:HO} (x:cm P w H h a o):∃u,h.get? a=aa u:=by
 cases o with
 |lst xs=>obtain⟨_,_,_,_,e⟩:=x;exact⟨_,e⟩
 |tup xs=>obtain⟨_,_,_,p,e,_⟩:=x;exact⟨_,e⟩
 |dK kvs=>obtain⟨_,_,_,_,o,_,_,e,_⟩:=x;exact⟨_,e⟩
 |dT kvs=>obtain⟨_,_,_,_,o,_,_,e,_⟩:=x;exact⟨_,e⟩
 |set S n=>obtain⟨o,_,_,_,e,_⟩:=x;exact⟨_,e⟩
 |ins C dx fs=>obtain⟨_,_,_,e,_⟩:=x;exact⟨_,e⟩
 |own y=>obtain⟨_,e⟩:=x;exact⟨_,e⟩
 |frz ob u=>obtain⟨e,_⟩:=x;exact⟨_,e⟩
 |tbl ps=>exact⟨_,(show h.get? a=aa _ from x)⟩
 |ext φ=>obtain⟨_,⟨_,e⟩,_⟩:=x;exact⟨_,e⟩
theorem Inv.none_of (I:Inv X pins σ H s) (h:∀u,s.heap.get? a=aa u->False):H a=af:=by
 cases e:H a with
 |none=>rfl
 |some o=>
  obtain⟨u,hu⟩:=(I.hok a o e).there;exact(h u hu).elim
theorem Inv.many (I:Inv X pins σ H s) (k:∀b u,s.heap.get? b=aa u->h'.get? b=aa u) (hs:ba H H') (new:∀b o,H b=af->H' b=aa o->(∀u,s.heap.get? b=aa u->False)/\cm X.prog X.w H' h' b o) :
  Inv X pins σ H' {s with heap:=h',toks:=t'}:=by
 refine I.un ⟨fun b ob q _ _ _=>k b ob q,fun b ob q _ _ _=>⟨ob.slots,k b ob q⟩,fun b ob q n _=>?_,fun b ob q _=>⟨ob,k b ob q⟩,fun b xs q=>hs _ _ q,fun b o u q=>hs _ _ q,fun b ps q=>⟨#[],by rw[hs _ _ q];simp⟩⟩ fun b o q=>?_
 .cases e:H' b with
  |none=>rfl
  |some o=>exact((new b o n e).1 ob q).elim
 .cases e:H b with
  |none=>exact(new b o e q).2
  |some o'=>
   have:=hs _ _ e;rw[q] at this;cases this;exact(I.hok b o e).stay (fun c v _ r=>k c v r) (fun c r=>hs _ _ r) fun c xs r=>hs _ _ r
variable {p3 p4:dq}
section
variable {a c o i:Expr}
end
section
variable {a c o i:Expr}
theorem EB {k:Key} (h:(cE P w).is k u=aj):bu (kV k) u:=by
 rcases iu (k:=k) (v:=u) h with⟨i,t,rfl,rfl⟩|⟨x,t,rfl,rfl⟩
 .exact⟨t,rfl⟩
 .exact⟨t,rfl⟩
theorem Df (k:Key):Rep Γ K G (kV k) (gE k):=by
 cases k with
 |inl i=>exact .int i
 |inr x=>exact .str x
noncomputable def jG:D->aq D
 |.lst l=>aa (.lst l.reverse)
 |_=>af
theorem Reps.reverse {K:aW} {G:Hp}:∀{vs:ac V} {ds:ac D},Reps Γ K G vs ds->Reps Γ K G vs.reverse ds.reverse
 |_,_,.nil=>.nil
 |_,_,.cons h r=>by rw[uW,uW];exact r.reverse.append (.cons h .nil)
theorem xL {j} (he:DE Γ X e f):DE Γ X (.Subscript e (.Slice af af (aa (.UnaryOp .USub (.Constant (.int 1) j p3) p4)) p2) pos) (b1 jG f):=⟨fun pins s σ H Q I=>by
 rintro⟨G₀,H₀,G,ρ,d,A,h,k⟩;unfold b1 at h;obtain⟨x,hx,h⟩:=oBd h;unfold jG at h;split at h
 .rename_i l;cases h;refine yB (thn (he.1 pins s σ H (fun v H'=>∃G',Step G H G' H'/\Rep Γ X.K G' v (.lst l)) I ⟨G₀,H₀,G,ρ,_,A,hx,fun v G' H' st r=>⟨G',st,r⟩⟩) fun v s1 ⟨v',H1,I1,r1,G1,st,rp⟩=>?_);obtain⟨a,vs,rfl,ha,rv⟩:=rp.lst_inv;cases r1;refine wpAny_Slice (qA (qA ?_));refine thn ((KQ NQ Ac) pins s1 σ H1 (fun v H'=>v=.int (-1)/\H'=H1) I1 ⟨_,rfl,rfl,rfl⟩) fun vk s3 ⟨vv,H3,I3,r3,e1,e2⟩=>?_;subst e1 e2;obtain⟨t,rfl⟩:=r3;have I4:Inv X pins σ H3 {s3 with heap:=s3.heap.push {cls:=.type "slice",data:=.fields #[.none,.none,.int (-1) t]} }:=I3.kept (t':=s3.toks) fun b ob q=>qt _ q;obtain⟨its,rr,hti,hz⟩:=I4.list (.inl (.inl (st.gh _ _ ha)));show aD .(q) X.A (yC e (.Slice af af (aa (.UnaryOp .USub (.Constant (.int 1) j p3) p4)) p2) (.ref a) (.ref s3.heap.objs.size)) (EP X pins σ Q) X.xe {s3 with heap:=s3.heap.push {cls:=.type "slice",data:=.fields #[.none,.none,.int (-1) t]} };refine E5 (ops:=[.ref a,.ref s3.heap.objs.size]) hti.isList.typeIs E6.lookup ?_ (by with_unfolding_all rfl);refine SH hti.isList (SD ..) .none .none (.int _ _) .(f) ?_ (by rw[qB];have:=rr.length;omega);rw[PySem.W.krv_pick];have hn:=I4.fresh;exact⟨.ref _,_,I4.lnew (ys:=vs.reverse) (its:=its.reverse) (t':=s3.toks) (bi.reverse rr) (by rw[FK];exact hz),rfl,il st.gh rv.reverse (fun w G2 H2 s2 r2=>k w G2 H2 (st.trans s2) r2) _ hn⟩
 .cases h⟩
end
section
variable {c:Expr}
noncomputable def oa (i:ao) (ft:FT):FT:=fun ρ=>match ρ[i]? with
 |some (aa (.odk kvs))=>ft (ρ.set i (aa (.sh (.dk kvs))))
 |_=>af
theorem OY (i:ao) (h:DT Γ X c ft):DT Γ X c (oa i ft):=⟨h.1.imp fun σ H Q=>by
 rintro⟨G₀,H₀,G,ρ,b,A,h,k⟩;unfold oa at h;split at h
 .rename_i kvs hi;obtain⟨G1,sm,A1⟩:=A.frzD hi (d:=.dk kvs) rfl;exact⟨G₀,H₀,G1,_,b,A1,h,fun G' H' s=>k G H' (s.back A.gh sm)⟩
 .cases h⟩
end
theorem Inv.frz {a:au} {us:ac (Key×V)} {o:Obj} (I:Inv X pins σ H s) (e:H a=aa (.dK us)) (ho:s.heap.get? a=aa o):Inv X pins σ (upd H a .(aH)) s:=by
 have ne:∀b u,H b=aa u->u≠.dK us->b≠a:=fun b u q n z=>by rw[z,e] at q;cases q;exact n rfl
 have st:∀{b:au} {u:HO},cm X.prog X.w H s.heap b u->cm X.prog X.w (upd H a .(aH)) s.heap b u:=fun x=>
  x.stay (fun c v _ r=>r) (fun c r=>by rw[aF .(aN)];exact r) fun c xs r=>by rw[aF .(aN)];exact r
 refine I.un (t':=s.toks) (h':=s.heap) ⟨fun b ob q _ _ _=>q,fun b ob q _ _ _=>⟨ob.slots,q⟩,fun b ob q n _=>?_,fun b ob q _=>⟨ob,q⟩,fun b xs q=>?_,fun b o u q=>?_,fun b ps q=>⟨#[],?_⟩⟩ fun b u q=>?_
 .rw[aF (fun z=>by rw[z,e] at n;cases n)];exact n
 .rw[aF (ne b _ q (by intro z;cases z))];exact q
 .rw[aF (ne b _ q (by intro z;cases z))];exact q
 .rw[aF (ne b _ q (by intro z;cases z)),q];simp
 .by_cases hb:b=a
  .subst hb;rw[bj] at q;cases q;exact⟨ho,st (I.hok b _ e)⟩
  .rw[aF hb] at q;exact st (I.hok b u q)
theorem Inv.unfrz {us:ac (Key×V)} (I:Inv X pins σ H s) (e:H a=aa .(aH)) (hnf:∀o u,X.H₀ a≠aa (.frz o u)):Inv X pins σ (upd H a (.dK us)) s:=by
 have ne:∀b u,H b=aa u->u≠.frz o (.dK us)->b≠a:=fun b u q n z=>by rw[z,e] at q;cases q;exact n rfl
 have nn:∀b,H b=af->upd H a (.dK us) b=af:=fun b n=>by rw[aF (fun z=>by rw[z,e] at n;cases n)];exact n
 have st:∀{b:au} {u:HO},cm X.prog X.w H s.heap b u->cm X.prog X.w (upd H a (.dK us)) s.heap b u:=fun x=>
  x.stay (fun c v _ r=>r) (fun c r=>by rw[aF .(aN)];exact r) fun c xs r=>by rw[aF .(aN)];exact r
 refine⟨I.ok,I.os,I.bare,⟨I.base.keep,I.base.slot,fun b ob q n hx=>nn b (I.base.free b ob q n hx),I.base.there,fun b xs q=>?_,fun b ob u q=>?_,fun b ps q=>?_⟩,I.loc,I.cell,nn _ I.free,fun x c q=>nn _ (I.freeC x c q),fun p hp=>?_,fun b u q=>?_,I.len⟩
 .have:=I.base.tups b xs q;rw[aF (ne b _ this (by intro z;cases z))];exact this
 .have:=I.base.frzs b ob u q;rw[aF (fun z=>hnf ob u (by rw[←z];exact q))];exact this
 .obtain⟨more,hm⟩:=I.base.tbls b ps q;exact⟨more,by rw[aF (ne b _ hm (by intro z;cases z))];exact hm⟩
 .obtain⟨p1,p2,p3⟩:=I.pin p hp;exact⟨p1,nn _ p2,p3⟩
 .by_cases hb:b=a
  .subst hb;rw[bj] at q;cases q;exact st (I.hok b _ e).2
  .rw[aF hb] at q;exact st (I.hok b u q)
theorem Inv.nofrz {us:ac (Key×V)} (I:Inv X pins σ H s) (e:H a=aa (.dK us)):∀o u,X.H₀ a≠aa (.frz o u):=fun o u q=>by have:=I.base.frzs a o u q;rw[e] at this;cases this
namespace Law
noncomputable abbrev oS (d:D):aq Slot:=aa (.sh d)
end Law
noncomputable abbrev FQ:=ac D->aq D
namespace Law
theorem dC {k:ao} {F:FQ} (C:Cal Γ X.prog X.w X.K X.mg X.base x n k F) (hr:Room j X.A) (ha:DA Γ X (e::es) fr) (hn:∀ρ ds,fr ρ=aa ds->ds.length=n) (hk:k<=j:=by decide) (hg:Gl X x:=by exact rfl) (hdb:.(s)=ar:=by decide) (he:aO (e::es) X.env=(ar,eval e X.env)::aO es X.env:=by rfl) (hpl:.(ae).any (·.1)=ar:=by rfl):DE Γ X .(au) (cF F fr):=rY C hr hk hg ha hn hdb he hpl
theorem bd {P:ac ai} (a:sc.kind=.function:=by rfl) (b:sc.isCoroutine=ar:=by rfl) (c:sc.isGenerator=ar:=by rfl) (d:N.Nodup:=by decide +kernel) (e:N.take P.length=P:=by rfl) (f:∀x∈P,sc.names.lookup x=aa .local∨sc.names.lookup x=aa .cell:=by decide +kernel) (g:∀y∈sc.names,y.2≠.free:=by decide +kernel):FnScope N P sc:=⟨a,b,c,d,e,f,g⟩
end Law
variable {s₀:aI}
section
variable {f:au} {E:XK}
 {pins:ac (au×Obj)} {σ:St} {H:Hp} {s:aI} {h1:Heap} {e:au} {cls:av} {vs:ac av}
end
section
variable {f:au} {E:XK}
 {R:Hp->Prop} {n:cK} {x:ai} {np cpos pos:dq} {e₀:Expr} {bP:ac Expr} {fr:FA} {Bn newId initId:cK} {bmB:ac av}
end
section
open PySem.W Builtin Builtin.ObjectAttr Builtin.Getset_descriptor
end
section
variable {a c o i:Expr}
end
section
variable {a:Expr}
end
noncomputable def del (G:Hp) (a:au):Hp:=fun b=>if b=a then af else G b
theorem pH {b:au} (h:b≠a):del G a b=G b:=by unfold del;rw[qY h]
theorem Nw :del G a a=af:=by unfold del;rw[qX rfl]
section
open PyProof
theorem Inv.frzT {us:ac .(aR)} (I:Inv X pins σ H s) (e:H a=aa (.dT us)) (ho:s.heap.get? a=aa o):Inv X pins σ (upd H a (.frz o (.dT us))) s:=by
 have ne:∀b u,H b=aa u->u≠.dT us->b≠a:=fun b u q n z=>by rw[z,e] at q;cases q;exact n rfl
 have st:∀{b:au} {u:HO},cm X.prog X.w H s.heap b u->cm X.prog X.w (upd H a (.frz o (.dT us))) s.heap b u:=fun x=>
  x.stay (fun c v _ r=>r) (fun c r=>by rw[aF .(aN)];exact r) fun c xs r=>by rw[aF .(aN)];exact r
 refine I.un (t':=s.toks) (h':=s.heap) ⟨fun b ob q _ _ _=>q,fun b ob q _ _ _=>⟨ob.slots,q⟩,fun b ob q n _=>?_,fun b ob q _=>⟨ob,q⟩,fun b xs q=>?_,fun b o u q=>?_,fun b ps q=>⟨#[],?_⟩⟩ fun b u q=>?_
 .rw[aF (fun z=>by rw[z,e] at n;cases n)];exact n
 .rw[aF (ne b _ q (by intro z;cases z))];exact q
 .rw[aF (ne b _ q (by intro z;cases z))];exact q
 .rw[aF (ne b _ q (by intro z;cases z)),q];simp
 .by_cases hb:b=a
  .subst hb;rw[bj] at q;cases q;exact⟨ho,st (I.hok b _ e)⟩
  .rw[aF hb] at q;exact st (I.hok b u q)
theorem Inv.unfrzT {us:ac .(aR)} (I:Inv X pins σ H s) (e:H a=aa (.frz o (.dT us))) (hnf:∀o u,X.H₀ a≠aa (.frz o u)):Inv X pins σ (upd H a (.dT us)) s:=by
 have ne:∀b u,H b=aa u->u≠.frz o (.dT us)->b≠a:=fun b u q n z=>by rw[z,e] at q;cases q;exact n rfl
 have nn:∀b,H b=af->upd H a (.dT us) b=af:=fun b n=>by rw[aF (fun z=>by rw[z,e] at n;cases n)];exact n
 have st:∀{b:au} {u:HO},cm X.prog X.w H s.heap b u->cm X.prog X.w (upd H a (.dT us)) s.heap b u:=fun x=>
  x.stay (fun c v _ r=>r) (fun c r=>by rw[aF .(aN)];exact r) fun c xs r=>by rw[aF .(aN)];exact r
 refine⟨I.ok,I.os,I.bare,⟨I.base.keep,I.base.slot,fun b ob q n hx=>nn b (I.base.free b ob q n hx),I.base.there,fun b xs q=>?_,fun b ob u q=>?_,fun b ps q=>?_⟩,I.loc,I.cell,nn _ I.free,fun x c q=>nn _ (I.freeC x c q),fun p hp=>?_,fun b u q=>?_,I.len⟩
 .have:=I.base.tups b xs q;rw[aF (ne b _ this (by intro z;cases z))];exact this
 .have:=I.base.frzs b ob u q;rw[aF (fun z=>hnf ob u (by rw[←z];exact q))];exact this
 .obtain⟨more,hm⟩:=I.base.tbls b ps q;exact⟨more,by rw[aF (ne b _ hm (by intro z;cases z))];exact hm⟩
 .obtain⟨p1,p2,p3⟩:=I.pin p hp;exact⟨p1,nn _ p2,p3⟩
 .by_cases hb:b=a
  .subst hb;rw[bj] at q;cases q;exact st (I.hok b _ e).2
  .rw[aF hb] at q;exact st (I.hok b u q)
theorem Inv.nofrzT {us:ac .(aR)} (I:Inv X pins σ H s) (e:H a=aa (.dT us)):∀o u,X.H₀ a≠aa (.frz o u):=fun o u q=>by have:=I.base.frzs a o u q;rw[e] at this;cases this
theorem D5 {α β:Type} {F:α->β->Prop}:∀{l:ac α} {m:ac β} {i:ao} {y:β},Paired F l m->m[i]?=aa y->∃x,l[i]?=aa x/\F x y
 |_,_,_,_,.nil,e=>by simp at e
 |_,_,0,_,.cons h _,e=>by simp at e;subst e;exact⟨_,rfl,h⟩
 |_,_,i+1,_,.cons _ t,e=>by obtain⟨x,h1,h2⟩:=D5 (i:=i) t (by simpa using e);exact⟨x,by simpa using h1,h2⟩
def Bz (a:au) (o:Obj) (us:ac .(aR)):It:=
 ⟨fun i H=>H a=aa (.frz o (.dT us))/\i<us.length,fun i H v H'=>H'=H/\∃kv T,us[i]?=aa kv/\v=.ref T/\H T=aa (.tup (kv.1.map kV)),fun i H=>H a=aa (.frz o (.dT us))/\i=us.length⟩
theorem zV {h:Heap} {us:ac .(aR)} {es:bO uY} (ok:HOk P w H h) (e:H a=aa (.frz o (.dT us))) (hd:o.data=.dict es ep) :
  h.get? a=aa o/\es.size=us.length/\∀(i:ao) (en:uY),es[i]?=aa en->∃kv T,us[i]?=aa kv/\en.key=.ref T/\H T=aa (.tup (kv.1.map kV)):=by
 have ho:h.get? a=aa o:=(ok a _ e).1;obtain⟨z,md,xs,kt,o',es',ep',h1,h2,h3,h4,h5,h6⟩:=jJ ok (.inr ⟨o,e⟩);rw[ho] at h1;cases h1;rw[hd] at h3;cases h3;refine⟨ho,by rw[size_of_entries h4];exact(Paired.length kt).symm,fun i en q=>?_⟩;rw[entry_at h4] at q;obtain⟨x,hx,rfl⟩:=oMd q;obtain⟨kv,k1,k2,k3,k4⟩:=D5 kt hx;exact⟨kv,x.2.1,k1,rfl,k3⟩
theorem Lc (a it:au) (o:Obj) (us:ac .(aR)) (es:bO uY) (ep:ao) (hne:a≠it) (hd:o.data=.dict es ep) :
  Turn P w K tg (Bz a o us) [it] it (fun i h=>h.IsKeyIter it a i es.size ep) where
 mem:=by simp
 obj:=fun i h st b hb=>by
  have e:b=it:=by simpa using hb
  subst e;obtain⟨o,e,c,d⟩:=st;exact⟨o,e,fun v z=>by rw[d] at z;cases z⟩
 keep:=fun i h h' st k=>by obtain⟨o,e,r⟩:=st;exact⟨o,k it (by simp) o e,r⟩
 item:=by
  intro X hP hw hK hc i pins s σ H E I hf st hg;subst hP hw hK;obtain⟨hfr,hi⟩:=hg;obtain⟨f0,f1,f2,f3,f4,f5⟩:=hf it (by simp);obtain⟨ho,hsz,hat⟩:=zV I.hok hfr hd;refine DX (I.ok.hd hc) st ho hd (fun en h' hen st' hs=>?_) fun hx=>?_
  .obtain⟨kv,T,k1,k2,k3⟩:=hat i en hen;have I1:Inv X pins σ H {s with heap:=h',toks:=s.toks}:=I.turned (fun b o hb e=>hs.extBut b o (by simpa using hb) e) f0 f1 f3 f4 f5;obtain⟨oi,e,c,d⟩:=id st';exact⟨_,rfl,nS (s:={s with heap:=h',toks:=s.toks}) e c d .(f) ⟨.ref T,H,I1,by rw[k2];rfl,⟨rfl,kv,T,k1,rfl,k3⟩,st',fun b hb=>(hf b hb).1⟩⟩
  .rw[Array.getElem?_eq_none_iff] at hx;omega
 done:=by intro X hP hw hK hc i pins s σ H E I hf st hg;subst hP hw hK;obtain⟨hfr,hi⟩:=hg;obtain⟨f0,f1,f2,f3,f4,f5⟩:=hf it (by simp);obtain⟨ho,hsz,hat⟩:=zV I.hok hfr hd;refine DX (I.ok.hd hc) st ho hd (fun en h' hen st' hs=>?_) fun hx h' hs=>⟨rfl,I.turned (t':=s.toks) (fun b o hb e=>hs b o (by simpa using hb) e) f0 f1 f3 f4 f5⟩;have:=(gN.mp hen).1;omega
 self:=fun _ _ _ _ _ st h=>T4 st h
noncomputable def D2:D->aq (ac D)
 |.fdt kvs=>aa (kvs.map fun kv=>.tup (kv.1.map gE))
 |_=>af
def kD (f:FE):FA:=fun ρ=>(f ρ).bind D2
section
variable {c:Expr}
theorem LV (he:PE X iter te):PI X tg iter (fun σ H R=>te σ H fun x H1=>∃(a:au) (o:Obj) (us:ac .(aR)),x=.ref a/\H1 a=aa (.frz o (.dT us))/\R (Bz a o us) H1):=by
 intro pins s σ H R I h;refine thn .(aV) fun v s1 ⟨x,H1,I1,r1,a,o,us,e,ha,q⟩=>?_;subst e;cases r1;have ho:s1.heap.get? a=aa o:=(I1.hok a _ ha).1;obtain⟨z,md,xs,kt,o',es,ep,h1,h2,h3,h4,h5,h6⟩:=jJ I1.hok (.inr ⟨o,ha⟩);rw[ho] at h1;cases h1;refine J3 md ho h2 h3 fun h' e'=>?_;subst e';refine⟨s1.heap.objs.size,[s1.heap.objs.size],_,_,H1,rfl,I1.kept (t':=s1.toks) fun b u e=>qt _ e,Lc a s1.heap.objs.size o us es ep (qC (qu ho)) h3,⟨_,qG _ rfl,rfl,rfl⟩,fun b hb=>?_,q⟩;have e:b=s1.heap.objs.size:=by simpa using hb
 subst e;exact I1.fpOk (qv _) (I1.hok.fresh (qv _))
theorem Ll :∀ks:ac Key,Reps Γ K G (ks.map kV) (ks.map gE):=by
 intro xs0
 induction xs0 with
 |nil=>
  exact .nil
 |cons k ks ih=>
  exact .cons (by cases k;exact .int _;exact .str _) (ih)
theorem MX (ks:ac Key):kyT (.tup (ks.map kV))=aj:=by show(ks.map kV).all kyV=aj;rw[ic];intro v hv;obtain⟨k,_,rfl⟩:=bJ.mp hv;cases k<;>rfl
theorem Step.key {T:au} {ks:ac Key} (gh:ba G H) (hT:H T=aa (.tup (ks.map kV))):Step G H (upd G T (.tup (ks.map kV))) H:=by
 refine⟨.refl _,fun b u e=>?_,fun b u e=>?_,fun b u e k=>?_⟩
 .by_cases hb:b=T
  .subst hb;rw[gh _ _ e] at hT;rw[bj,hT]
  .rw[aF hb];exact e
 .by_cases hb:b=T
  .subst hb;rw[bj] at e;rw[hT,e]
  .rw[aF hb] at e;exact gh _ _ e
 .rw[aF];intro z;subst z;rw[hT] at e;cases e;rw[MX] at k;cases k
theorem BC (h:DE Γ X iter f):DI Γ X tg iter (kD f):=⟨(LV h.1).imp fun σ H R=>by
 rintro⟨G₀,H₀,G,ρ,ds,A,h,k⟩;unfold kD at h;obtain⟨d,hd,h⟩:=oBd h;refine⟨G₀,H₀,G,ρ,d,A,hd,fun v G' H' s r=>?_⟩;unfold D2 at h;split at h
 .cases h;cases r with
  |fdt h1 h2 h3=>
   rename_i kvs a o us;have hln:us.length=kvs.length:=by simpa using bU c8 h2
   refine⟨_,_,_,rfl,s.gh _ _ h1,k _ G' H' s ⟨fun i d G2 H2 hd g1 g2=>?_,fun G2 H2 g1 g2=>⟨g2 _ _ (g1 _ _ h1),by rw[qf,hln]⟩⟩⟩;rw[qk] at hd;obtain⟨kd,hkd,rfl⟩:=oMd hd;have hi:i<us.length:=by rw[hln];exact(df.mp hkd).1
   refine⟨⟨g2 _ _ (g1 _ _ h1),hi⟩,fun x H3 ⟨e1,kv,T,hkv,ev,hT⟩=>?_⟩;subst e1 ev;have ek:kv.1=kd.1:=by have:=bU (fun l=>l[i]?) h2;simp only[qk,hkv,hkd,qe,zh] at this;exact this
   exact⟨_,.key g2 hT,.tup bj (by rw[ek];exact Ll _)⟩
 .cases h⟩
end
end
section
open PyProof
def tfD:D->aP
 |.tup t=>t.all gr
 |_=>ar
def ltf:D->aP
 |.lst l=>l.all tfD
 |_=>ar
section
variable {c:Expr}
theorem p6:∀{vs:ac V} {ds:ac D},Reps Γ K G vs ds->ds.all gr=aj->Reps Γ K G' vs ds
 |_,_,.nil,_=>.nil
 |_,_,.cons r t,h=>by rw[T5,fU] at h;exact .cons (r.flat h.1) (p6 t h.2)
theorem AT {a:au} {o:Obj} {u:HO} (ha:G a=aa (.frz o u)):∀{vs:ac V} {ds:ac D},Reps Γ K G vs ds->ds.all tfD=aj->Reps Γ K (del G a) vs ds
 |_,_,.nil,_=>.nil
 |_,_,.cons (v:=v) (d:=d) r t,h=>by
  rw[T5,fU] at h;refine .cons ?_ (AT ha t h.2);cases r with
  |tup hb rs=>exact .tup (by rw[pH (fun z=>by rw[z,ha] at hb;cases hb)];exact hb) (p6 rs h.1)
  |_=>cases h.1
theorem Jw {u:HO} (ha:G a=aa (.frz o u)) (r:Rep Γ K G v d) (h:ltf d=aj):Rep Γ K (del G a) v d:=by
 cases r with
 |lst hb rs=>exact .lst (by rw[pH (fun z=>by rw[z,ha] at hb;cases hb)];exact hb) (AT ha rs h)
 |_=>cases h
def kR:aq Slot->aq Slot
 |some (.sh d)=>if gr d=aj then aa (.sh d) else af
 |_=>af
def nE (i:ao) (f:FE):FE:=fun ρ=>match ρ[i]? with
 |some (aa (.sh (.dt kvs)))=>if (kvs.map (·.2)).all gr=aj then (f ((ρ.map kR).set i (aa (.sh (.fdt kvs))))).bind fun d=>if ltf d=aj then aa d else af else af
 |_=>af
theorem zw (i:ao) (h:DE Γ X c f):DE Γ X c (nE i f):=⟨fun pins s σ H Q I q=>by
 obtain⟨G₀,H₀,G,ρ,d,A,hq,k⟩:=q;unfold nE at hq;split at hq
 .rename_i kvs hi;split at hq
  .rename_i hfl;obtain⟨d',hd',hq⟩:=oBd hq;split at hq
   .rename_i hlt;cases hq;obtain⟨v,h1,h2⟩:=A.env.sh i _ hi;cases h2 with
    |dt g3 q4 q5=>
     rename_i a us;have q3:=A.gh _ _ g3;have hnf:=I.nofrzT q3;obtain⟨ob,hob⟩:=(I.hok a _ q3).there;have I1:=I.frzT q3 hob;have gh1:ba (upd (fun _=>af) a (.frz ob (.dT us))) (upd H a (.frz ob (.dT us))):=fun b u e=>by
      by_cases hb:b=a
      .subst hb;rw[bj] at e ⊢;exact e
      .rw[aF hb] at e;cases e
     have A1:At Γ X.K (upd (fun _=>af) a (.frz ob (.dT us))) (upd H a (.frz ob (.dT us))) (upd (fun _=>af) a (.frz ob (.dT us))) (upd H a (.frz ob (.dT us))) ((ρ.map kR).set i (aa (.sh (.fdt kvs)))) σ:=by
      have key:∀(j:ao) s,((ρ.map kR).set i (aa (.sh (.fdt kvs))))[j]?=aa (aa s)->(j=i/\s=.sh (.fdt kvs))\/∃d,s=.sh d/\gr d=aj/\ρ[j]?=aa (aa (.sh d)):=fun j s e=>by
       by_cases hj:j=i
       .subst hj;have hlt:j<(ρ.map kR).length:=by rw[qf];exact(df.mp hi).1
        rw[oj hlt] at e;cases e;exact .inl ⟨rfl,rfl⟩
       .rw[qy (cM hj),qk] at e;obtain⟨o,ho,e⟩:=oMd e;unfold kR at e;split at e
        .split at e
         .rename_i hf;cases e;exact .inr ⟨_,rfl,hf,ho⟩
         .cases e
        .cases e
      refine⟨.refl gh1,.ofSh (by rw[List.length_set,qf];exact A.env.len) (fun j s e=>?_) fun j d e=>?_⟩
      .rcases key j s e with⟨_,z⟩|⟨d,z,_⟩<;>exact⟨_,z⟩
      .rcases key j _ e with⟨z1,z2⟩|⟨d,z,z2,z3⟩
       .subst z1;cases z2;exact⟨_,h1,.fdt bj q4 (p6 q5 hfl)⟩
       .cases z;obtain⟨v,y1,y2⟩:=A.env.sh j _ z3;exact⟨v,y1,y2.flat z2⟩
     refine thn (h.1 pins s σ _ (fun x H'=>H' a=aa (.frz ob (.dT us))/\Q x (upd H' a (.dT us))) I1 ⟨_,_,_,_,_,A1,hd',fun v G' H' s' r=>⟨s'.hh _ _ bj,?_⟩⟩) fun r s1 q=>?_
     .have hH:∀b u,b≠a->H b=aa u->H' b=aa u:=fun b u hb e=>s'.hh b u (by rw[aF hb];exact e);have sm:ba (del G' a) (fun b=>match G b with|some u=>aa u|none=>del G' a b):=fun b u e=>by
       show(match G b with|some u=>aa u|none=>del G' a b)=aa u;split
       .rename_i u' hu;have hb:b≠a:=fun z=>by rw[z,Nw] at e;cases e
        rw[pH hb] at e;have:=hH b u' hb (A.gh _ _ hu);rw[s'.gh _ _ e] at this;exact this.symm
       .exact e
      refine k v (fun b=>match G b with|some u=>aa u|none=>del G' a b) _ ⟨fun x u e=>?_,fun x u e=>?_,fun x u e=>?_,fun x u e ek=>?_⟩ ((Jw (s'.gg _ _ bj) r hlt).mono sm)
      .by_cases hx:x=a
       .subst hx;rw[bj,←e,q3]
       .rw[aF hx];exact hH x u hx e
      .show(match G x with|some u=>aa u|none=>del G' a x)=aa u;rw[e]
      .replace e:(match G x with|some u=>aa u|none=>del G' a x)=aa u:=e
       by_cases hx:x=a
       .subst hx;rw[g3] at e;rw[bj];exact e
       .rw[aF hx];split at e
        .rename_i u' hu;cases e;exact hH x _ hx (A.gh _ _ hu)
        .rw[pH hx] at e;exact s'.gh x u e
      .show(match G x with|some u=>aa u|none=>del G' a x)=G x;by_cases hx:x=a
       .subst hx;rw[g3]
       .cases hg:G x with
        |some u'=>rfl
        |none=>
         show del G' a x=af;rw[pH hx,s'.out x u (by rw[aF hx];exact e) ek,aF hx]
     .obtain⟨x,H',I',rv,hx,q⟩:=q;exact⟨x,_,I'.unfrzT hx hnf,rv,q⟩
   .cases hq
  .cases hq
 .cases hq⟩
end
end
section
open PyProof
theorem Bi:∀{xs:ac V} {us:ac av},xs.length=us.length->(∀(j:ao) x u,xs[j]?=aa x->us[j]?=aa u->bu x u)->bi xs us
 |[],[],_,_=>.nil
 |[],_::_,e,_=>by cases e
 |_::_,[],e,_=>by cases e
 |x::xs,u::us,e,h=>.cons (h 0 x u rfl rfl) (Bi (by simpa using e) fun j y v h1 h2=>h (j+1) y v h1 h2)
end
section
open PyProof
noncomputable def xP:FQ
 |[.dk kvs]=>aa (.lst (kvs.map fun kv=>gE kv.1))
 |_=>af
theorem My (hc:X.calm=aj):eU X (.type "list") (fun xs H Q=>∃(a:au) (us:ac (Key×V)),xs=[.ref a]/\Rd H a (.dK us)/\∀p,H p=af->Q (.ref p) (upd H p (.lst (us.map fun kv=>kV kv.1)))):=by
 intro pins s σ H xs vs Q I r h;obtain⟨a,us,rfl,ha,q⟩:=h;obtain⟨u,rfl,ru⟩:=eQ r;cases ru;obtain⟨z,md,va,qa,da⟩:=i4 I.hok ha;obtain⟨ep,hat⟩:=da.dictAt;have hlen:us.length=va.length:=qa.length;refine PySem.W.kdl_call (PySem.W.kdl_dict (knd:=cE X.prog X.w) (kvs:=va) (ep:=ep) md) (I.ok.hd hc) hat .(b) fun h' tk acc c hk hL hacc=>?_;have hl2:acc.toList.length=va.length:=by rw[jS];exact hacc.1
 have hno:∀u,s.heap.get? s.heap.objs.size=aa u->False:=fun u e=>hU _ (qu e);have hn:=I.none_of hno;refine⟨.ref s.heap.objs.size,upd H s.heap.objs.size (.lst (us.map fun kv=>kV kv.1)),I.many (t':=tk) hk (fun b o e=>by rw[aF (bD e hn)];exact e) (fun b o e1 e2=>?_),rfl,q _ hn⟩;by_cases hb:b=s.heap.objs.size
 .subst hb;rw[bj] at e2;cases e2;refine⟨hno,by rw[qf];exact z,acc.toList,c,Bi (by rw[qf,hl2,hlen]) fun j x u h1 h2=>?_,by rw[T6];exact hL⟩;obtain⟨k,y,g1,g2⟩:=hacc.2 j u (by rw[←qI];exact h2);rw[qk] at h1;obtain⟨kv,g3,rfl⟩:=oMd h1;have g4:(us.map (·.1))[j]?=(va.map (·.1))[j]?:=by rw[qa.keys]
  rw[qk,qk,g1,g3] at g4;have g5:kv.1=k:=qH g4;rw[g5];exact EB g2
 .rw[aF hb,e1] at e2;cases e2
theorem As {K:aW} {G:Hp}:∀{us:ac (Key×V)} {kvs:ac (Key×D)},us.map (·.1)=kvs.map (·.1)->Reps Γ K G (us.map fun kv=>kV kv.1) (kvs.map fun kv=>gE kv.1)
 |[],[],_=>.nil
 |[],_::_,e=>by cases e
 |_::_,[],e=>by cases e
 |u::us,k::kvs,e=>by have e1:u.1=k.1:=(fW e).1;exact .cons (show Rep Γ K G (kV u.1) (gE k.1) by rw[e1];exact Df _) (As (fW e).2)
theorem Kh (hc:X.calm=aj):TyD Γ X "list" xP:=⟨_,My hc,fun {G H vs ds z} gh r h Q k=>by
 unfold xP at h;split at h
 .cases h;obtain⟨v,rfl,r1⟩:=r.one;cases r1 with
  |dk h1 h2 h3=>exact⟨_,_,rfl,.inl (gh _ _ h1),il gh (As h2) k⟩
 .cases h⟩
end
section
open PyProof
section
variable {c:Expr}
noncomputable def pQ (i:ao) (ft:FT):FT:=fun ρ=>match ρ[i]? with
 |some (aa (.odt kvs))=>ft (ρ.set i (aa (.sh (.dt kvs))))
 |_=>af
theorem Rz (i:ao) (h:DT Γ X c ft):DT Γ X c (pQ i ft):=⟨h.1.imp fun σ H Q=>by
 rintro⟨G₀,H₀,G,ρ,b,A,h,k⟩;unfold pQ at h;split at h
 .rename_i kvs hi;obtain⟨G1,sm,A1⟩:=A.frzD hi (d:=.dt kvs) rfl;exact⟨G₀,H₀,G1,_,b,A1,h,fun G' H' s=>k G H' (s.back A.gh sm)⟩
 .cases h⟩
end
end
section
open PyProof
theorem N7 (hc:X.calm=aj):eU X (.builtin "min") (fun xs H Q=>∃i j k,xs=[.int i,.int j,.int k]/\Q (.int (if j<i then (if k<j then k else j) else (if k<i then k else i))) H):=by
 intro pins s σ H xs us Q I r h;obtain⟨i,j,k,rfl,q⟩:=h;cases r with
 |cons r1 r=>
  cases r with
  |cons r2 r=>
   cases r with
   |cons r3 r=>
    cases r;obtain⟨t,rfl⟩:=r1;obtain⟨t',rfl⟩:=r2;obtain⟨t'',rfl⟩:=r3;refine min_three_ints (I.ok.hd hc) fun h' tk hk=>⟨_,H,I.kept hk,?_,q⟩;split
    .split<;>exact⟨_,rfl⟩
    .split<;>exact⟨_,rfl⟩
noncomputable def vE:FQ
 |[.int i,.int j,.int k]=>aa (.int (if j<i then (if k<j then k else j) else (if k<i then k else i)))
 |_=>af
theorem OJ (hc:X.calm=aj):BltD Γ X "min" vE:=⟨_,N7 hc,fun {G H vs ds z} gh r h Q k=>by
 unfold vE at h;split at h<;>cases h;cases r with
 |cons r1 r=>
  cases r with
  |cons r2 r=>
   cases r with
   |cons r3 r=>
    cases r;cases r1.int_inv;cases r2.int_inv;cases r3.int_inv;exact⟨_,_,_,rfl,k _ G H .(aL) (.int _)⟩⟩
end
section
open PyProof
def Itk (a:au) (o:Obj) (us:ac (Key×V)):It:=
 ⟨fun i H=>H a=aa .(aH)/\i<us.length,fun i H v H'=>H'=H/\∃kv,us[i]?=aa kv/\v=kV kv.1,fun i H=>H a=aa .(aH)/\i=us.length⟩
theorem Jr (a it:au) (o:Obj) (us:ac (Key×V)) (va:ac (Key×av)) (ep:ao) (hne:a≠it) (hd:∀h:Heap,h.get? a=aa o->h.DictAt (cE P w) a va ep) (kv:KV us va) :
  Turn P w K tg (Itk a o us) [it] it (fun i h=>h.IsKeyIter it a i va.length ep) where
 mem:=by simp
 obj:=fun i h st b hb=>by
  have e:b=it:=by simpa using hb
  subst e;obtain⟨o,e,c,d⟩:=st;exact⟨o,e,fun v z=>by rw[d] at z;cases z⟩
 keep:=fun i h h' st k=>by obtain⟨o,e,r⟩:=st;exact⟨o,k it (by simp) o e,r⟩
 item:=by
  intro X hP hw hK hc i pins s σ H E I hf st hg;subst hP hw hK;obtain⟨hfr,hi⟩:=hg;obtain⟨f0,f1,f2,f3,f4,f5⟩:=hf it (by simp);have ho:s.heap.get? a=aa o:=(I.hok a _ hfr).1;refine(T7 (knd:=cE X.prog X.w) (I.ok.hd hc) it a hne va ep).item i s _ _ (by rw[←kv.length];exact hi) ⟨st,hd _ ho⟩ fun v h' tk hv st' kk=>?_;obtain⟨k,x,hk,hr⟩:=hv;have hp:(us.map (·.1))[i]?=(va.map (·.1))[i]?:=by rw[kv.keys]
  rw[qk,qk,hk] at hp;obtain⟨p,hp1,hp2⟩:=oMd hp;have hp3:p.1=k:=hp2;have I1:Inv X pins σ H {s with heap:=h',toks:=tk}:=I.turned .(bl) f0 f1 f3 f4 f5;obtain⟨oi,e,c,d⟩:=id st'.1;exact⟨v,rfl,nS (s:={s with heap:=h',toks:=tk}) e c d .(f) ⟨kV p.1,H,I1,by rw[hp3];exact EB hr,⟨rfl,p,hp1,rfl⟩,st'.1,fun b hb=>(hf b hb).1⟩⟩
 done:=by
  intro X hP hw hK hc i pins s σ H E I hf st hg;subst hP hw hK;obtain⟨hfr,hi⟩:=hg;obtain⟨f0,f1,f2,f3,f4,f5⟩:=hf it (by simp);have ho:s.heap.get? a=aa o:=(I.hok a _ hfr).1;have hi':i=va.length:=by rw[←kv.length];exact hi
  subst hi';exact(T7 (knd:=cE X.prog X.w) (I.ok.hd hc) it a hne va ep).done s _ _ ⟨st,hd _ ho⟩ fun h' tk kk=>⟨rfl,I.turned .(bl) f0 f1 f3 f4 f5⟩
 self:=fun _ _ _ _ _ st h=>T4 st h
section
variable {c:Expr} {g:FG}
theorem Rp (he:PE X iter te):PI X tg iter (fun σ H R=>te σ H fun x H1=>∃(a:au) (us:ac (Key×V)),x=.ref a/\H1 a=aa (.dK us)/\∀o,(∀o' u,X.H₀ a≠aa (.frz o' u))->R (Itk a o us) (upd H1 a .(aH))):=by
 intro pins s σ H R I h;refine thn .(aV) fun v s1 ⟨x,H0,I0,r1,a,us,e,ha0,q0⟩=>?_;subst e;cases r1;obtain⟨o,hob⟩:=(I0.hok a _ ha0).there;have q:=q0 o (I0.nofrz ha0);have I1:=I0.frz ha0 hob;have ha:upd H0 a .(aH) a=aa .(aH):=bj;obtain⟨z,md,va,qa,da⟩:=i4 I1.hok (.inr ⟨o,ha⟩);obtain⟨ep,hat⟩:=da.dictAt;have ho:s1.heap.get? a=aa o:=(I1.hok a _ ha).1;refine wpAny_pyIter_dict md hat ?_;refine⟨s1.heap.objs.size,[s1.heap.objs.size],_,_,_,rfl,I1.kept (t':=s1.toks) fun b u e=>qt _ e,Jr a s1.heap.objs.size o us va ep (qC (qu ho)) (fun h' e=>hat.at' fun o' e'=>by rw[ho] at e';cases e';exact e) qa,⟨_,qG _ rfl,rfl,rfl⟩,fun b hb=>?_,q⟩;have e:b=s1.heap.objs.size:=by simpa using hb
 subst e;exact I1.fpOk (qv _) (I1.hok.fresh (qv _))
def lfD:D->aP
 |.lst l=>l.all gr
 |d=>gr d
def lfS:aq Slot->aq Slot
 |some (.sh d)=>if lfD d=aj then aa (.sh d) else af
 |_=>af
theorem J5 (hs:∀b vs,G b=aa (.lst vs)->G1 b=aa (.lst vs)) (r:Rep Γ K G v d) (h:lfD d=aj):Rep Γ K G1 v d:=by
 by_cases hf:gr d=aj
 .exact r.flat hf
 .cases r with
  |lst hb rs=>exact .lst (hs _ _ hb) (p6 rs h)
  |_=>first|exact bA rfl hf|cases h
def tq (f:FE) (g:FG) (ft:FT) (fe:FE) (fv:ac (aq ao)):FA:=fun ρ=>match f ρ with
 |some (.dk kvs)=>if kvs.length<=aH then (bT g ft fe (kvs.map fun kv=>gE kv.1) ((eS fv ρ).map lfS)).bind fun ds=>if ds.all gr=aj then aa ds else af else af
 |_=>af
theorem Dh {s:Slot} (e:(ρ.map lfS)[j]?=aa (aa s)):∃d,s=.sh d/\lfD d=aj/\ρ[j]?=aa (aa (.sh d)):=by
 rw[qk] at e;obtain⟨o,ho,e⟩:=oMd e;unfold lfS at e;split at e
 .split at e
  .rename_i hf;cases e;exact⟨_,rfl,hf,ho⟩
  .cases e
 .cases e
theorem JJ (hc:X.calm=aj) (S:CompScope X scope) (F:FvOk X N' scope fv) (hi:DE Γ X iter f) (hb:DB Γ X N' scope tg ifs elt g ft fe) (hs:∀x,kZ iter X.env x=aZ x:=by intro _;rfl) :
  DO Γ X .(x) (tq f g ft fe fv):=⟨fun pins s σ H Q I q=>by
 obtain⟨G₀,H₀,G,ρ,ds,A,h,k⟩:=q;unfold tq at h;split at h
 .rename_i kvs hf;split at h
  .rename_i hz;obtain⟨ds',hd,h⟩:=oBd h;split at h
   .rename_i hfl;cases h;refine thn (Ch hc S F (Rp hi.1) hb.pb hs pins s σ H (fun x H2=>∃(a:au) (o:Obj) (us:ac (Key×V)),H2 a=aa .(aH)/\(∀o' u,X.H₀ a≠aa (.frz o' u))/\Q x (upd H2 a (.dK us))) I ⟨G₀,H₀,G,ρ,_,A,hf,fun v G' H' s r=>?_⟩) fun r s1 q=>?_
    .cases r with
     |dk h1 h2 h3=>
      rename_i a us;have ha:=s.gh _ _ h1;refine⟨a,us,rfl,ha,fun o hnf acc hacc=>?_⟩;have hln:us.length=kvs.length:=by simpa using bU c8 h2
      have gh1:ba (upd G' a .(aH)) (upd H' a .(aH)):=fun b u e=>by
       by_cases hb:b=a
       .subst hb;rw[bj] at e ⊢;exact e
       .rw[aF hb] at e ⊢;exact s.gh _ _ e
      obtain⟨A0,no0⟩:=CN (fv:=fv) (A.step s);have no1:eW ((eS fv ρ).map lfS):=fun j t e=>by obtain⟨d,z,_⟩:=Dh e;exact⟨d,z⟩
      have A1:At Γ X.K (upd G' a .(aH)) (upd H' a .(aH)) (upd G' a .(aH)) (upd H' a .(aH)) ((eS fv ρ).map lfS) (gT fv σ):=by refine⟨.refl gh1,.ofSh (by rw[qf];exact A0.env.len) no1 fun j d e=>?_⟩;obtain⟨d',z,hl,e'⟩:=Dh e;cases z;obtain⟨v,y1,y2⟩:=A0.env.sh j _ e';exact⟨v,y1,J5 (fun b vs eb=>by rw[aF (fun z=>by rw[z,h1] at eb;cases eb)];exact eb) y2 hl⟩
      have Y:Yd Γ X.K (Itk a o us) (upd G' a .(aH)) (kvs.map fun kv=>gE kv.1):=by
       refine⟨fun i d G2 H2 hd g1 g2=>?_,fun G2 H2 g1 g2=>⟨g2 _ _ (g1 _ _ bj),by rw[qf,hln]⟩⟩;rw[qk] at hd;obtain⟨kd,hkd,rfl⟩:=oMd hd;have hi:i<us.length:=by rw[hln];exact(df.mp hkd).1
       refine⟨⟨g2 _ _ (g1 _ _ bj),hi⟩,fun x H3 ⟨e1,kv,hkv,ev⟩=>?_⟩;subst e1 ev;have ek:kv.1=kd.1:=by have:=bU (fun l=>l[i]?) h2;simp only[qk,hkv,hkd,qe,zh] at this;exact this
       exact⟨G2,.refl g2,by rw[ek];exact Df _⟩
      refine DU (hb.1 [] 0 X.s₀ X.H₀ []).1.no A1 no1 Y (by rw[qf];exact hz) hd hacc fun p vs G2 H2 s2 hp rs=>?_;have h2a:H2 a=aa .(aH):=s2.hh _ _ bj;have npa:a≠p:=bD h2a hp;refine⟨a,o,us,by rw[aF npa];exact h2a,hnf,?_⟩;have sw:upd (upd H2 p (.lst vs)) a (.dK us)=upd (upd H2 a (.dK us)) p (.lst vs):=by
       funext b
       by_cases hb:b=a
       .subst hb;rw[bj,aF npa,bj]
       .rw[aF hb];by_cases hb2:b=p
        .subst hb2;rw[bj,bj]
        .rw[aF hb2,aF hb2,aF hb]
      rw[sw];have hh:ba H' (upd H2 a (.dK us)):=fun b u e=>by
       by_cases hb:b=a
       .subst hb;rw[bj,←e,ha]
       .rw[aF hb];exact s2.hh _ _ (by rw[aF hb];exact e)
      exact k p vs G' (upd H2 a (.dK us)) (s.trans ⟨hh,.refl _,s.gh.trans hh,fun _ _ _ _=>rfl⟩) (by rw[aF npa.symm];exact hp) (p6 rs hfl)
    .obtain⟨x,H2,I2,rv,a,o,us,hx,hnf,q⟩:=q;exact⟨x,_,I2.unfrz hx hnf,rv,q⟩
   .cases h
  .cases h
 .cases h⟩
end
end
section
open PyProof
noncomputable def wM (f:FE):FA:=fun ρ=>(f ρ).bind fun d=>match d with
 |.lst l=>aa l.reverse
 |_=>af
def xG:FQ
 |[.dk l]=>aa (.dk l)
 |_=>af
def m8 (i:ao) (fk:FE):FE:=fun ρ=>match ρ[i]? with
 |some (aa (.odk kvs))=>(fk ρ).bind fun kd=>(fS kd).bind fun k=>bc kvs k
 |_=>af
def ny (i:ao) (fk:FE):FE:=fun ρ=>match ρ[i]? with
 |some (aa (.odk kvs))=>(fk ρ).bind fun kd=>(fS kd).map fun k=>(bc kvs k).getD .non
 |_=>af
noncomputable def leZ (a b:ah):aP:=decide (a<=b)
def dE (l:ac ah):ac ah:=l.mergeSort leZ
def ix:FQ
 |[.lst l]=>(gJ l).bind fun ns=>if ns.length<64 then aa (.lst ((dE ns).map D.int)) else af
 |_=>af
def nF (c:ai) (j i:ao) (F:Fo->ac D->aq (D×Fo)) (fk:FE) (fr:FA):FS:=fun ρ=>match ρ[i]? with
 |some (aa (.fo s c' fs))=>if c'=c then (fr ρ).bind fun ds=>(F fs ds).bind fun z=>(fk (ρ.set i (aa (.fo s c z.2)))).bind fun kd=>match (ρ.set i (aa (.fo s c z.2)))[j]? with
  |some (aa (.odk kvs))=>(fS kd).bind fun k=>if kvs.length<100000 then aa (.nx,(ρ.set i (aa (.fo s c z.2))).set j (aa (.odk (bW kvs k z.1)))) else af
  |_=>af
  else af
 |_=>af
noncomputable def pd (i j:ao) (fa:FA):FS:=fun ρ=>(fa ρ).bind fun ds=>match ds with
 |[a,b]=>aa (.nx,(ρ.set i (aa (.sh a))).set j (aa (.sh b)))
 |_=>af
end
section
open PyProof
theorem RU {l l':ac ah} (hp:l'.Perm l) (hs:l'.Pairwise (·<=·)):l'=dE l:=
 List.Perm.eq_of_pairwise (le:=fun a b=>leZ a b=aj) (fun a b _ _ h1 h2=>Int.le_antisymm (dh h1) (dh h2)) (hs.imp fun h=>qT h)
  (T8 (le:=leZ) (fun a b c h1 h2=>qT (zi (dh h1) (dh h2))) (fun a b=>by
   rcases T9 a b with h|h
   .rw[show leZ a b=aj from qT h];rfl
   .rw[show leZ b a=aj from qT h];exact FM _) l) (hp.trans (FN l leZ).symm)
theorem CP {P:ao->av->Prop}:∀{vs:ac av} {ms:ac ah},vs.length=ms.length->(∀(j:ao) v,vs[j]?=aa v->∃m t,ms[j]?=aa m/\v=qZ m t)->mL vs ms
 |[],[],_,_=>.nil
 |v::vs,m::ms,hl,h=>by obtain⟨m',t,h1,rfl⟩:=h 0 v rfl;cases h1;exact .cons _ _ (CP (P:=P) (by simpa using hl) fun j v e=>h (j+1) v e)
theorem Be:∀{vs:ac av} {ms:ac ah},mL vs ms->bi (ms.map V.int) vs
 |_,_,.nil=>.nil
 |_,_,.cons x t r=>.cons ⟨t,rfl⟩ (Be r)
theorem RV:eU X (.builtin "sorted") (fun xs H Q=>∃(a:au) (ns:ac ah),xs=[.ref a]/\H a=aa (.lst (ns.map V.int))/\ns.length<64/\∀p,H p=af->Q (.ref p) (upd H p (.lst ((dE ns).map V.int)))):=by
 intro pins s σ H xs us Q I r h;obtain⟨a,ns,rfl,ha,h64,q⟩:=h;obtain⟨u,rfl,ru⟩:=eQ r;cases ru;obtain⟨its,rv,pl,_⟩:=I.list (.inl (.inl ha));obtain⟨vl,vi⟩:=wJ rv;have hS:mL its ns:=CP (P:=fun _ _=>True) vl fun j v e=>by
  obtain⟨t,h⟩:=vi j v e;have hj:j<ns.length:=by rw[←vl];exact(df.mp e).1
  exact⟨_,t,by rw[j0,qD hj];rfl,h⟩
 refine sorted_ints pl.isList hS (by rw[vl];exact h64) fun out ns' a1 a2 a3=>?_;have es:=RU a2 a3;subst es;obtain⟨ee,he⟩:=sortedAll_at s.heap its out;have hn:H .(af)=af:=I.hok.fresh (mC _);have hls:(dE ns).length=ns.length:=(FN ns leZ).length_eq;have hsl:=eY;refine⟨.ref .(af),upd H .(af) (.lst ((dE ns).map V.int)),I.many (t':=s.toks) (fun b o e=>sortedAll_old e) (fun b o e=>by rw[aF (bD e hn)];exact e) (fun b o e1 e2=>?_),rfl,q _ hn⟩;by_cases hb:b=s.heap.objs.size+1
 .subst hb;rw[bj] at e2;cases e2;exact⟨fun u e=>bA (qu e) (yK.mpr (mC _)),by rw[qf,hls];omega,_,ee,Be a1,by rw[T6];exact he⟩
 .rw[aF hb,e1] at e2;cases e2
theorem tP:BltD Γ X "sorted" ix:=⟨_,RV,fun {G H vs ds z} gh r h Q k=>by
 unfold ix at h;split at h
 .obtain⟨ns,hs,h⟩:=oBd h;split at h
  .rename_i h64;cases h;obtain⟨v,rfl,r1⟩:=r.one;obtain⟨a,us,rfl,ha,ra⟩:=r1.lst_inv;exact⟨a,ns,rfl,by rw[←tF ra hs];exact gh _ _ ha,h64,il gh (Reps.ints _) k⟩
  .cases h
 .cases h⟩
theorem NR (i:ao) (hu:X.A.units+66<cg) (hk:DE Γ X ke fk) (hs:tZ ke:=by intro _ _;rfl) (hN:X.N[i]?=aa x:=by rfl) (hv:Vis X.env.scope x:=by ac_nf) (hd:.(s)=ar:=by decide)
  (hcd:.(M)=ar:=by decide):DE Γ X (.Subscript .(Q) ke pos) (m8 i fk):=⟨(DH .(b) .(aP) hk.1 hs).imp fun σ H Q=>by
 rintro⟨G₀,H₀,G,ρ,d,A,h,k⟩;unfold m8 at h;split at h
 .rename_i kvs hi;obtain⟨kd,hkd,h⟩:=oBd h;obtain⟨kk,hkk,h⟩:=oBd h;obtain⟨w,fp,h1,h2⟩:=A.get hi;cases h2 with
  |odk q1 q2 q3 q4 q5=>
   rename_i a us;refine⟨_,h1,G₀,H₀,G,ρ,_,A,hkd,fun u G2 H2 s2 r2=>?_⟩;have eu:=jz r2 hkk;subst eu;rcases nC (k:=kk) q4 (q5.mono s2.gg) with⟨n1,n2⟩|⟨y,u,n1,n2,n3⟩
   .rw[n1] at h;cases h
   .rw[n1] at h;cases h;exact⟨a,u,rfl,.inl ⟨us,kk,.inl (s2.hh _ _ q3),rfl,n2.symm⟩,k u G2 H2 s2 n3⟩
 .cases h⟩
theorem Og (i:ao) (hu:X.A.units+66<cg) (hk:DE Γ X ke fk) (m:M1 X .(Q) "get" apos ke cpos:=by exact⟨rfl,rfl,rfl,rfl⟩) (hN:X.N[i]?=aa x:=by rfl) (hv:Vis X.env.scope x:=by ac_nf) (hd:.(s)=ar:=by decide)
  (hcd:.(M)=ar:=by decide):DE Γ X (.Call (.Attribute .(Q) "get" apos) [ke] [] cpos) (ny i fk):=⟨(CG .(b) .(aP) hk.1 m).imp fun σ H Q=>by
 rintro⟨G₀,H₀,G,ρ,d,A,h,k⟩;unfold ny at h;split at h
 .rename_i kvs hi;obtain⟨kd,hkd,h⟩:=oBd h;obtain⟨kk,hkk,h⟩:=oMd h;obtain⟨w,fp,h1,h2⟩:=A.get hi;cases h2 with
  |odk q1 q2 q3 q4 q5=>
   rename_i a us;refine⟨_,h1,_,rfl,.inl ⟨us,.inl q3⟩,G₀,H₀,G,ρ,_,A,hkd,fun u G2 H2 s2 r2=>?_⟩;have eu:=jz r2 hkk;subst eu;rcases nC (k:=kk) q4 (q5.mono s2.gg) with⟨n1,n2⟩|⟨y,u,n1,n2,n3⟩
   .rw[n1] at h;cases h;exact⟨af,.inl ⟨us,kk,.inl (s2.hh _ _ q3),rfl,n2.symm⟩,k _ G2 H2 s2 .non⟩
   .rw[n1] at h;cases h;exact⟨aa u,.inl ⟨us,kk,.inl (s2.hh _ _ q3),rfl,n2.symm⟩,k u G2 H2 s2 n3⟩
 .cases h⟩
theorem IH (hc:X.calm=aj):eU X (.type "dict") (fun xs H Q=>∃(a:au) (us:ac (Key×V)),xs=[.ref a]/\Rd H a (.dK us)/\∀p,H p=af->Q (.ref p) (upd H p (.dK us))):=by
 intro pins s σ H xs vs Q I r h;obtain⟨a,us,rfl,ha,q⟩:=h;obtain⟨u,rfl,ru⟩:=eQ r;cases ru;obtain⟨z,md,va,qa,da⟩:=i4 I.hok ha;have hlen:us.length=va.length:=qa.length;refine kt_call_dict (knd:=cE X.prog X.w) (more:=va) md da .(b) fun h' hd hs=>?_;refine⟨.ref s.heap.objs.size,_,I.laid (a:=s.heap.objs.size) (o:=.dK us) (fun b u e=>?_) (qv _) ⟨z,?_,va,qa,hd⟩,rfl,q _ I.fresh⟩
 .exact(hs.2 b (qC (qu e))).trans (qt _ e)
 .exact kS.mpr (cM (qC I.big))
theorem IU (hc:X.calm=aj):TyD Γ X "dict" xG:=⟨_,IH hc,fun {G H vs ds z} gh r h Q k=>by
 unfold xG at h;split at h
 .cases h;obtain⟨v,rfl,r1⟩:=r.one;cases r1 with
  |dk h1 h2 h3=>
   rename_i a us;refine⟨a,us,rfl,.inl (gh _ _ h1),fun p hp=>?_⟩;have s:=Step.new (o:=.dK us) gh hp;exact k _ _ _ s (.dk bj h2 (h3.mono s.gg))
 .cases h⟩
noncomputable def Itb (a:au) (xs:ac V):It:=
 ⟨fun i H=>H a=aa (.lst xs)/\i<xs.length,fun i H v H'=>H'=H/\xs.reverse[i]?=aa v,fun i H=>H a=aa (.lst xs)/\i=xs.length⟩
theorem Q7 (a it:au) (xs:ac V) :
  Turn P w K tg (Itb a xs) [it] it (fun i h=>h.IsRevIter it a ((xs.length:ah)-1-(i:ah))) where
 mem:=by simp
 obj:=fun i h st b hb=>by
  have e:b=it:=by simpa using hb
  subst e;obtain⟨o,e,c,d⟩:=st;exact⟨o,e,fun v z=>by rw[d] at z;cases z⟩
 keep:=fun i h h' st k=>st.at fun o e=>k it (by simp) o e
 item:=by
  intro X hP hw hK hc i pins s σ H E I hf st hg;subst hP hw hK;obtain⟨ha,hi⟩:=hg;obtain⟨its,rv,p,hz⟩:=I.list (.inl (.inl ha));have hx:xs[xs.length-1-i]?=aa (xs[xs.length-1-i]'.(b)):=qD .(b);obtain⟨u,hu,ru⟩:=rv.get hx;obtain⟨f0,f1,f2,f3,f4,f5⟩:=hf it (by simp);have e:(xs.length:ah)-1-(i:ah)=((xs.length-1-i:ao):ah):=by omega
  rw[e] at st;refine wpAny_pyNext_rev_item st p.isList (x:=u) (by simpa using hu) fun h' st' sb=>?_;have I1:Inv X pins σ H {s with heap:=h'}:=I.turned (t':=s.toks) (fun b o hb e=>(sb.2 b hb).trans e) f0 f1 f3 f4 f5;have e2:((xs.length-1-i:ao):ah)-1=(xs.length:ah)-1-((i+1:ao):ah):=by omega
  rw[e2] at st';obtain⟨o,e,c,d⟩:=id st';exact⟨u,rfl,nS (s:={s with heap:=h'}) e c d .(f) ⟨_,H,I1,ru,⟨rfl,by rw[FO hi];exact hx⟩,st',fun b hb=>(hf b hb).1⟩⟩
 done:=by
  intro X hP hw hK hc i pins s σ H E I hf st hg;subst hP hw hK;obtain⟨ha,hi⟩:=hg;subst hi;obtain⟨f0,f1,f2,f3,f4,f5⟩:=hf it (by simp);have e:(xs.length:ah)-1-(xs.length:ah) = -1:=by omega
  rw[e] at st;exact wpAny_pyNext_rev_end (I.ok.hd hc) st fun h' eb=>⟨rfl,I.turned (t':=s.toks) (fun b o hb e=>eb b o hb e) f0 f1 f3 f4 f5⟩
 self:=fun _ _ _ _ _ st h=>T' st h
section
variable {a:Expr} {ta:TA}
theorem J9:dR "reversed"=aa (.type "reversed"):=by decide +kernel
theorem IA (hg:Gl X "reversed") (hm:X.mg "reversed"=af) (ha:PA X [a] ta) (hs:aO [a] X.env=[(ar,eval a X.env)]:=by rfl) :
  PI X tg (.Call (.Name "reversed" p) [a] [] pos) (fun σ H R=>ta σ H fun vs H1=>∃a xs,vs=[.ref a]/\H1 a=aa (.lst xs)/\R (Itb a xs) H1):=by
 intro pins s σ H R I h;refine Call_ (jF I hg hm J9 (uN .(aK) hs rfl));obtain⟨l,xs,e,hq,q⟩:=q1;subst e;obtain⟨u,rfl,r2⟩:=eQ r1;cases r2;obtain⟨its,rv,pl,hz⟩:=I1.list (.inl (.inl hq));refine call_reversed_list pl.isList ?_;have I2:Inv X pins σ H1 {s1 with heap:=s1.heap.push (revObj l (((its.toArray).size:ah)-1))}:=I1.kept (t':=s1.toks) fun b o e=>qt _ e;have hit:(s1.heap.push (revObj l (((its.toArray).size:ah)-1))).IsRevIter s1.heap.objs.size l ((xs.length:ah)-1-((0:ao):ah)):=⟨_,qG _ rfl,rfl,by have:xs.length=its.length:=rv.length;rw[this];simp[revObj]⟩
 refine T' hit ?_;refine⟨s1.heap.objs.size,[s1.heap.objs.size],_,_,H1,rfl,I2,Q7 l _ xs,hit,fun b hb=>?_,q⟩;have z':b=s1.heap.objs.size:=by simpa using hb
 subst z';exact I1.fpOk (qv _) (I1.hok.fresh (qv _))
theorem GZ (hg:Gl X "reversed") (hm:X.mg "reversed"=af) (h:DE Γ X a f) (hs:aO [a] X.env=[(ar,eval a X.env)]:=by rfl) (hs0:aO ([a]:ac Expr) X.env=(ar,eval a X.env)::aO [] X.env:=by rfl) :
  DI Γ X tg (.Call (.Name "reversed" p) [a] [] pos) (wM f):=⟨(IA hg hm (iH h.1 jx hs0) hs).imp fun σ H R=>by
 rintro⟨G₀,H₀,G,ρ,ds,A,h,k⟩;unfold wM at h;obtain⟨d,hd,h⟩:=oBd h;refine⟨G₀,H₀,G,ρ,d,A,hd,fun v G' H' s r=>?_⟩;split at h
 .cases h;rename_i l;obtain⟨a,vs,rfl,ha,rv⟩:=r.lst_inv;refine⟨a,vs,rfl,s.gh _ _ ha,k _ G' H' s ⟨fun i d G2 H2 hd g1 g2=>?_,fun G2 H2 g1 g2=>⟨g2 _ _ (g1 _ _ ha),by rw[FK,rv.length]⟩⟩⟩;have hi:i<vs.length:=by rw[rv.length];have:=(df.mp hd).1;rwa [FK] at this
  refine⟨⟨g2 _ _ (g1 _ _ ha),hi⟩,fun x H3 ⟨e1,e2⟩=>?_⟩;subst e1;refine⟨G2,.refl g2,?_⟩;rw[FO hi] at e2;obtain⟨d',y1,y2⟩:=(rv.mono g1).getV e2;rw[FO (by rw[←rv.length];exact hi),←rv.length,y1] at hd;cases hd;exact y2
 .cases h⟩
end
end
section
variable {y:ai}
theorem NW {k l:ao} (j i:ao) {g:ai} {F:Fo->ac D->aq (D×Fo)} {pk:dq} (hu:X.A.units+66<cg) (C:CalU Γ X.prog X.w X.K X.mg X.base g c n k F) (hr:Room l X.A) (hk:k<=l) (hg:Gl X g) (hke:DE Γ X ke fk) (ha:DA Γ X es fr) (hn:∀ρ ds,fr ρ=aa ds->ds.length=n) (hN:X.N[i]?=aa x:=by rfl) (hv:Vis X.env.scope x:=by ac_nf) (hd:.(s)=ar:=by decide) (hcd:.(M)=ar:=by decide)
  (hdb:(g==("__debug__":ai))=ar:=by decide) (he:aO (.Name x vp::es) X.env=(ar,eval .(Q) X.env)::aO es X.env:=by rfl) (hpl:.(ae).any (·.1)=ar:=by rfl)
  (hj:X.N[j]?=aa y:=by rfl) (hvy:Vis X.env.scope y:=by ac_nf) (hdy:(y==("__debug__":ai))=ar:=by decide) (hcy:(y==("__classdict__":ai))=ar:=by decide) (hs:dH (.Call (.Name g p) (.Name x vp::es) [] pos) (aa (.Subscript (.Name y py) ke pk)) pos'.line X.env=aZ ar:=by rfl) :
  DS Γ X (.Assign [.Subscript (.Name y py) ke pk] (.Call (.Name g p) (.Name x vp::es) [] pos) pos') (nF c j i F fk fr):=⟨by
 obtain⟨f,fd,ps,h1,h2,h3,h4⟩:=C.ex;refine(uo .(b) (eM hj hvy hdy hcy) hke.1 (zT h1 (hr.mono hk) hg h2 h3 h4 .nil kK (iH .(aP) ha.1 he) hdb he hpl) hs).imp fun E σ H=>?_;rintro⟨G₀,H₀,G,ρ,fl,ρ',A,h,k⟩;unfold nF at h;split at h
 .rename_i sb c' fs hi;split at h
  .rename_i hz;subst hz;obtain⟨ds,hds,h⟩:=oBd h;obtain⟨⟨d,fs'⟩,hF,h⟩:=oBd h;obtain⟨kd,hkd,hq⟩:=oBd h;clear h;split at hq
   .rename_i kvs hij;obtain⟨kk,hkk,hq⟩:=oBd hq;split at hq
    .rename_i hz;cases hq;obtain⟨w,fp,q1,q2⟩:=A.get hi;cases q2 with
     |fo gs g1 g2 g3 g4 g5 g6=>
      rename_i a Ca dx vs qs;refine⟨_,q1,G₀,H₀,G,ρ,ds,A,hds,fun ws G2 H2 s2 r2=>?_⟩;have A2:=A.step s2;show spU Γ X.K c' n F ((V.ref a::ws)++[]) H2 _ E0;rw[jf];have hg:∀b∈a::qs,H₀ b=af/\G2 b=af:=fun b hb=>by
       rcases cr.mp hb with rfl|hb'
       .exact⟨(g2 _ hb).1,(s2.out _ _ g4 rfl).trans (g2 _ hb).2⟩
       .obtain⟨o,e,ek⟩:=g6.mem b hb';exact⟨(g2 _ hb).1,(s2.out _ _ e ek).trans (g2 _ hb).2⟩
      have ha2:H2 a=aa (.ins Ca dx vs):=s2.hh _ _ g4;have g62:FldsR Γ X.K G2 H2 (vs.map (·.2)) (fs.map (·.2)) qs:=g6.stay s2.gg fun b hb=>by obtain⟨o,e,ek⟩:=g6.mem b hb;rw[e];exact s2.hh _ _ e
      refine⟨a,Ca,dx,vs,qs,fs,ws,G2,ds,d,fs',rfl,g1,s2.gh,fun b hb=>(hg b hb).2,g3,ha2,g5,g62,r2,hn ρ ds hds,hF,fun v G' H' u r=>?_⟩;have A3:=A2.upost hi q1 gs g1 hg g3 ha2 g5 g62 u;obtain⟨w,fp,h1,h2⟩:=A3.get hij;cases h2 with
      |odk q1 q2 q3 q4 q5=>
       rename_i a' us;refine⟨_,h1,G₀,H₀,G',_,_,A3,hkd,fun u3 G3 H3 s3 r3=>?_⟩;have A4:=A3.step s3;have eu:=jz r3 hkk;subst eu;have ha3:H3 a'=aa (.dK us):=s3.hh _ _ q3;have hlen:us.length=kvs.length:=by simpa using bU c8 q4
       obtain⟨w1,w2⟩:=mf (k:=kk) (r.mono s3.gg) q4 (q5.mono s3.gg);exact⟨a',_,rfl,gZ.k ha3 (by have:=eY;omega),k σ G3 _ ((s2.gg.trans u.gg).trans s3.gg) (A4.chOdk hij h1 w1 w2)⟩
    .cases hq
   .cases hq
  .cases h
 .cases h⟩
end
section
variable {a:Expr} {pt pt2:dq} {kt k2:ao} {y:ai}
theorem O0 (i j:ao) (hc:X.calm=aj) (hN:X.N.Nodup) (ha:DA Γ X [a,b] fr) (hi:X.N[i]?=aa x:=by rfl) (hj:X.N[j]?=aa y:=by rfl) (hij:i≠j:=by decide) (hx:X.env.scope.names.lookup x=aa .local:=by rfl) (hy:X.env.scope.names.lookup y=aa .local:=by rfl)
  (hw:ym [.Tuple [.Name x px,.Name y py] kt pt] (.Tuple [a,b] k2 pt2) X.env=aZ (aa [x,y]):=by rfl)
  (hs:yk [.Tuple [.Name x px,.Name y py] kt pt] (.Tuple [a,b] k2 pt2) pos.line X.env=aZ ar:=by rfl) :
  DS Γ X (.Assign [.Tuple [.Name x px,.Name y py] kt pt] (.Tuple [a,b] k2 pt2) pos) (pd i j fr):=⟨(GK hc hN hi hj hij hx hy ha.1 hw hs).imp fun E σ H=>by
 rintro⟨G₀,H₀,G,ρ,fl,ρ',A,h,k⟩;unfold pd at h;obtain⟨ds,hd,h⟩:=oBd h;split at h
 .cases h;refine⟨G₀,H₀,G,ρ,_,A,hd,fun vs G1 H1 s1 r1=>?_⟩;cases r1 with
  |cons q1 q2=>
   cases q2 with
   |cons q2 q3=>
    cases q3;exact⟨_,_,rfl,k _ G1 H1 s1.gg (((A.step s1).setSh q1).setSh q2)⟩
 .cases h⟩
end
theorem FunD.bindsd {f:au} {items:ac av} (m:ao) (F:FunD K x qual st f fd items)
  (h:∀(T:au) (kV doc pm:av) (an:aq au) (cdv ct:av) (us:ac av),(us++items.drop m).length=ps.length->∃k,gw (dS x qual (dU st) (cv st) (aG st) (.ref T) kV doc pm an cdv ct) ⟨us,[]⟩=j6 (.ref T) >>= k/\k (aa items.toArray)=aZ (ps.zip (us++items.drop m))):fm K fd ps (items.drop m):=by
 obtain⟨oc,od,T,kV,doc,pm,an,cdv,ct,osl,to,n,rfl,lk,hcd,lT,dT⟩:=F.ex;intro s us hin hl;obtain⟨k,h1,h2⟩:=h T kV doc pm an cdv ct us hl;exact .of_defaults (T:=T) rfl (hin T to lT) dT h1 h2
theorem DfnMD.calIUd {k:ao} {dd:ac D} (m:ao) (O:ClsOk Γ K mg c C) (F:DfnMD K C c "__init__" qual st dvs) (hdd:∀G,Reps Γ K G (dvs.drop m) dd) (S:FnScope N (s0::ps) (aG st))
  (hb:∀(T:au) (kV doc pm:av) (an:aq au) (cdv ct:av) (us items:ac av),us.length+(dvs.length-m)=(s0::ps).length->items.length=dvs.length->∃k,gw (dS "__init__" qual (dU st) (cv st) (aG st) (.ref T) kV doc pm an cdv ct) ⟨us,[]⟩=j6 (.ref T) >>= k/\k (aa items.toArray)=aZ ((s0::ps).zip (us++items.drop m)))
  (hbody:∀(f y:au) (cdv:av) (A:cR) (outer:ac cG) (s:aI) (H:Hp) (E:XK),Room k .(w)->
   DSs (Γ.mk1 y) .(n).nox (cv st) g):CalIU Γ P w K mg base c ps.length (k+1) dd (jt .(aT) c g):=by
 obtain⟨f,fd,items,h1,hv,h2,h3⟩:=F.ex;have hl:items.length=dvs.length:=hv.length.symm;refine⟨C,f,fd,s0::ps,dvs.drop m,items.drop m,O.cn,⟨O.makes,h2,h3,O.kp⟩,O.mgC,h1.ok S (fun vs H Q E h=>D3 h) fun cdv A outer s H vs Q E hr h=>?_,h1.bindsd m fun T kV doc pm an cdv ct us hu=>hb T kV doc pm an cdv ct us items (by rw[qj,jg,hl] at hu;exact hu) hl,hv.drop m,hdd⟩;obtain⟨y,q⟩:=Dz (N:=N) rfl O.cn h;exact⟨_,(hbody f y cdv A outer s H E hr).1,q⟩
section
variable {f:au} {E:XK}
 {pins:ac (au×Obj)} {σ:St} {H:Hp} {s:aI} {e C t dx:au}
end
section
variable {f CS fI:au} {E:XK}
 {R:ai->Hp->Prop} {x fl:ai} {np cpos pos:dq} {e₀:Expr} {fr:FA} {k j:ao}
end
section
open PyProof
end
section
open PyProof
end
noncomputable def wg:D->D->aq (ac D)
 |.lst x,.lst y=>if x.length+y.length<=aH then aa (x++y) else af
 |_,_=>af
def lR (fa fb:FE):FA:=fun ρ=>(fa ρ).bind fun x=>(fb ρ).bind fun y=>wg x y
section
variable {a:Expr}
theorem JM (ha:DE Γ X a fa) (hb:DE Γ X b fb):DO Γ X (.BinOp a .Add b pos) (lR fa fb):=⟨(El Cd ha.1 hb.1).imp fun σ H Q=>by
 rintro⟨G₀,H₀,G,ρ,ds,A,h,k⟩;unfold lR at h;obtain⟨x,hx,h⟩:=oBd h;obtain⟨y,hy,h⟩:=oBd h;refine⟨G₀,H₀,G,ρ,x,A,hx,fun v G1 H1 s1 r1=>⟨G₀,H₀,G1,ρ,y,A.step s1,hy,fun u G2 H2 s2 r2=>?_⟩⟩;unfold wg at h;split at h
 .split at h
  .rename_i hz;cases h;obtain⟨a,vs,rfl,ha,ra⟩:=(r1.mono s2.gg).lst_inv;obtain⟨b,us,rfl,hb,rb⟩:=r2.lst_inv;exact⟨a,b,vs,us,rfl,rfl,s2.gh _ _ ha,s2.gh _ _ hb,by rw[ra.length,rb.length];exact hz,fun p hp=>k p _ G2 H2 (s1.trans s2) hp (ra.append rb)⟩
  .cases h
 .cases h⟩
end
section
open PyProof
end
section
variable {a:Expr}
end
noncomputable def jN:D->D->aq D
 |.tup x,.tup y=>if x≠[]/\y≠[]/\x.length+y.length<=aH then aa (.tup (x++y)) else af
 |_,_=>af
section
variable {a:Expr}
theorem JK :fL Γ K jN (CJ K):=by
 intro G H v u x y z gh r1 r2 h Q k;unfold jN at h;split at h
 .split at h
  .rename_i hz;cases h;obtain⟨a,vs,rfl,ha,ra⟩:=r1.tup_inv;obtain⟨b,us,rfl,hb,rb⟩:=r2.tup_inv;refine⟨a,b,vs,us,rfl,rfl,.inl .(bn),.inl (.inl (gh _ _ hb)),?_,by rw[ra.length,rb.length];exact hz.2.2,?_⟩
   .intro z;subst z;have:=ra.length;exact hz.1 (u0.mp this.symm)
   .refine⟨fun z=>?_,fun _ p hp=>tj gh (ra.append rb) k p hp⟩;subst z;have:=rb.length;exact bA (u0.mp this.symm) hz.2.1
  .cases h
 .cases h
theorem wI (ha:DE Γ X a fa) (hb:DE Γ X b fb):DE Γ X (.BinOp a .Add b pos) (b2 jN fa fb):=lY IY JK ha hb
end
namespace Law
noncomputable def top (i:ao):Stmt:=U2.main.body.getD i (.Pass ⟨0,0,0,0⟩)
noncomputable def cu:ac ai:=["grounds","open_benches","firsts","lasts","put_pairs","notes"]
noncomputable def wK:ac ai:=["told_shop","kept_plan","kept_most","lengths","job_names","early_moments","end_marks","breaks","known_gaps"]
noncomputable def B5:ac ai:=["benches","steps","jobs","setups","links","stocks","horizon","bench_by_name","step_by_name","setup_by_names","job_by_step"]
noncomputable def Gam (C_Facts C_Grounds C_Shop:au):Cn:=⟨fun c=>if c="Facts" then aa C_Facts else if c="Grounds" then aa C_Grounds else if c="Shop" then aa C_Shop else af,af⟩
def e9:FQ:=aT 0
  (aw (sIf (toB (b2 ltD (vSh 1) (cF bR .(ac)))) (aC (b2 ixD (vSh 0) (vSh 1))) aV) (aC .(e)))
def bz:FQ:=aT 3
  (aw (sIf (toB (b2 geD (vSh 0) (b2 jK (vC (.int 10)) (vC (.int 18))))) (aw (aL 3 (vSh 0)) (aw (bE (itR dN .(H)) (ay 4) (aL 3 (b2 iO (vSh 3) (b2 jK (vC (.int 10)) (vC (.int 7)))))) (sIf (toB (b2 gtD (vSh 3) .(e))) (aC (b2 eC (b2 eC (vSh 3) (b2 jK (vC (.int 10)) (vC (.int 7)))) (vSh 2))) aV))) aV) (aw (aL 5 (b2 eC (b2 cT (b2 aN (b2 aN (b2 aN (b2 eC (vSh 0) (vC (.int 2147483647))) (b2 cT (b2 cT (vC (.int 7919)) (vSh 1)) (vSh 1))) (b2 cT (vC (.int 31)) (vSh 1))) .(h)) (vC (.int 48271))) (vC (.int 2147483647)))) (aw (aL 5 (b2 eC (b2 aN (b2 aN (b2 cT (vSh 5) (vSh 5)) (b2 cT (vC (.int 69621)) (vSh 1))) (vC (.int 7))) (vC (.int 2147483629)))) (aC (b2 eC (b2 eC (b2 cT (vSh 5) (vSh 5)) (vC (.int 2147483587))) (vSh 2))))))
def tQ:FQ:=aT 1
  (aw (aL 1 (cF e9 (ag (vSh 0) (ag .(e) ak)))) (aC (b2 ixD (aK (szF (ag (b2 aN .(C) (cF bz (ag (vSh 1) (ag (vC (.int 80)) (ag (vC (.int 21)) ak))))) (ag (b2 aN .(h) (cF bz (ag (vSh 1) (ag (vC (.int 81)) (ag (b2 jK (vC (.int 10)) (vC (.int 6))) ak))))) ak)))) (b2 iO (cF bz (ag (vSh 1) (ag (vC (.int 82)) (ag .(C) ak)))) .(L)))))
def kC:FQ:=aT 0
  (aw (sIf (toB (b2 eqD (cF bz (ag (vSh 0) (ag (vSh 1) (ag .(C) ak)))) .(e))) (aC (cF bz (ag (vSh 0) (ag (b2 aN (vSh 1) .(h)) (ag (b2 aN (vSh 2) .(h)) ak))))) aV) (aC (cF bz (ag (vSh 0) (ag (b2 aN (vSh 1) .(h)) (ag (b2 aN (cF iw (ag (vSh 2) (ag (vC (.int 12)) ak))) .(h)) ak))))))
def uH:FQ:=aT 5
  (aw (dQ 3 (szF ak)) (aw (aL 4 .(e)) (aw (bE (itR dN (ag (cF bz (ag (vSh 0) (ag (vSh 1) (ag .(C) ak)))) ak)) (ay 5) (aw (aL 6 (b2 aN (vSh 4) (cF kC (ag (vSh 0) (ag (b2 aN (b2 aN (vSh 1) .(h)) (b2 cT .(C) (vSh 5))) .(T)))))) (aw (aL 7 (b2 aN (b2 aN (vSh 6) .(h)) (cF bz (ag (vSh 0) (ag (b2 aN (b2 aN (vSh 1) .(L)) (b2 cT .(C) (vSh 5))) (ag .(C) ak)))))) (sIf (toB (b2 leD (vSh 7) (vSh 2))) (aw (fM 3 (bm (szF (ag (vSh 6) (ag (vSh 7) ak))))) (aL 4 (b2 aN (vSh 7) .(h)))) aV)))) (dY 3 (aC (vSh 3))))))
def uz:FQ:=aT 5
  (aw (aL 2 (vC (.str "abcdefghijklmnopqrstuvwxyz"))) (aw (aL 3 (mF pT (vC (.str "")) (ag (aK (aR (itR dN (ag (cF bz (ag (vSh 0) (ag .(e) (ag (vC (.int 7)) ak)))) ak)) (ay 0) tT (b2 ixD (vSh 1) (cF bz (ag (vSh 2) (ag (b2 aN .(L) (vSh 0)) (ag (vC (.int 26)) ak))))) [af,aa 2,aa 0])) ak))) (aw (aL 4 (cF bz (ag (vSh 0) (ag .(h) (ag (b2 aN (cF bR .(aI)) .(h)) ak))))) (aw (dQ 5 (szF ak)) (aw (bE (itR dN .(H)) (ay 6) (fM 5 (b2 aN (b2 aN (b2 aN (slF (vSh 3) pN (pS (vSh 4))) (b2 ixD (vSh 2) (b2 eC (b2 cT (vSh 6) (vC (.int 7))) (vC (.int 26))))) (b2 ixD (aK (szF (ag (vC (.str "")) (ag (vC (.str "q")) ak)))) (b2 iO (vSh 6) (vC (.int 26))))) (slF (vSh 3) (pS (vSh 4)) pN)))) (dY 5 (aC (vSh 5))))))))
def ur:FQ:=aT 7
  (aw (aL 4 (b2 ixD (aK (szF (ag (vC (.str "cut")) (ag (vC (.str "glue")) (ag (vC (.str "paint")) ak))))) (cF bz (ag (vSh 0) (ag .(e) (ag .(L) ak)))))) (aw (aL 5 (cF bz (ag (vSh 0) (ag .(h) (ag (cF bR .(T)) ak))))) (aw (aL 6 (slF (b2 aN (slF (vSh 2) (pS (vSh 5)) pN) (slF (vSh 2) pN (pS (vSh 5)))) pN (pS (b2 aN .(h) (b2 cT (cF bz (ag (vSh 0) (ag .(J) (ag .(J) ak)))) (cF bz (ag (vSh 0) (ag .(L) (ag .(C) ak))))))))) (aw (dQ 7 (szF ak)) (aw (bE (itE (vSh 6)) (bG 2 (aM (ay 8) (aM (ay 9) bH))) (aw (aL 10 (b2 ixD (aK (szF (ag (vSh 3) (ag (cF iw (ag (vC (.int 5)) .(aI))) ak)))) (cF bz (ag (vSh 0) (ag (vC (.int 13)) (ag .(J) ak)))))) (fM 7 (bm (szF (ag (b2 ixD (vSh 9) .(e)) (ag (cF jM (ag .(h) (ag (cF kC (ag (vSh 0) (ag (b2 aN .(C) (b2 cT .(J) (vSh 8))) (ag (vSh 10) ak)))) ak))) ak))))))) (dY 7 (aC (bm (szF (ag (vSh 1) (ag (vSh 4) (ag (vSh 7) ak))))))))))))
def sF:FQ:=aT 4
  (aw (tX 3) (aw (bE (itR dN (ag (cF bz (ag (vSh 0) (ag (vSh 1) (ag (vC (.int 6)) ak)))) ak)) (ay 4) (aw (aL 5 (b2 ixD (b2 ixD (vSh 2) (cF bz (ag (vSh 0) (ag (b2 aN (b2 aN (vSh 1) .(h)) (b2 cT .(L) (vSh 4))) (ag (cF bR .(T)) ak))))) .(e))) (aw (aL 6 (b2 ixD (b2 ixD (vSh 2) (cF bz (ag (vSh 0) (ag (b2 aN (b2 aN (vSh 1) .(J)) (b2 cT .(L) (vSh 4))) (ag (cF bR .(T)) ak))))) .(e))) (sIf (pQ 3 (fK (toB (b2 neA (vSh 5) (vSh 6))) (toB (b2 xb (bm (szF (ag (vSh 5) (ag (vSh 6) ak)))) (vSh 3))))) (eR 3 (bm (szF (ag (vSh 5) (ag (vSh 6) ak)))) (cF bz (ag (vSh 0) (ag (b2 aN (b2 aN (vSh 1) .(L)) (b2 cT .(L) (vSh 4))) (ag (vC (.int 5)) ak))))) aV)))) (lE 3 (aC (vSh 3)))))
def uE:FQ:=aT 4
  (aw (aL 3 (aK (szF (ag (vC (.str "cut")) (ag (vC (.str "glue")) (ag (vC (.str "paint")) (ag (vC (.str "rest")) ak))))))) (aw (tX 4) (aw (bE (itR dN (ag (cF bz (ag (vSh 0) (ag .(e) (ag (vC (.int 12)) ak)))) ak)) (ay 5) (aw (aL 6 (bm (szF (ag (b2 ixD (b2 ixD (vSh 1) (cF bz (ag (vSh 0) (ag (b2 aN .(h) (b2 cT .(C) (vSh 5))) (ag (cF bR .(H)) ak))))) .(e)) (ag (b2 ixD (vSh 3) (cF bz (ag (vSh 0) (ag (b2 aN .(J) (b2 cT .(C) (vSh 5))) (ag .(C) ak))))) ak))))) (aw (aL 6 (b2 jN (vSh 6) (bm (szF (ag (b2 ixD (vSh 3) (cF bz (ag (vSh 0) (ag (b2 aN .(L) (b2 cT .(C) (vSh 5))) (ag .(C) ak))))) ak))))) (eR 4 (vSh 6) (b2 aN .(h) (cF bz (ag (vSh 0) (ag (b2 aN .(C) (b2 cT .(C) (vSh 5))) (ag (cF iw (ag (vSh 2) (ag .(C) ak))) ak))))))))) (lE 4 (aC (nE 4 (aK (aR (kD (vSh 4)) (ay 0) tT (b2 jN (vSh 0) (bm (szF (ag (b2 bN (vSh 1) (vSh 0)) ak)))) [af,aa 4]))))))))
abbrev Xi:=bG 2 (aM (ay 0) (aM (ay 1) bH))
def tm:FQ:=aT 5
  (aw (dQ 2 (szF ak)) (aw (bE (itR dN (ag (cF bz (ag (vSh 0) (ag .(e) (ag .(L) ak)))) ak)) (ay 3) (aw (aL 4 (cF bz (ag (vSh 0) (ag (b2 aN .(h) (vSh 3)) (ag (vC (.int 9)) ak))))) (aw (aL 5 (aK (aR (itE (vSh 1)) Xi (toB (b2 eqD (cF bz (ag (vSh 2) (ag (b2 aN .(C) (vSh 3)) (ag (vC (.int 7)) ak)))) (b2 eC (vSh 0) (vC (.int 7))))) (bm (szF (ag (b2 ixD (vSh 1) .(e)) (ag (b2 aN .(h) (b2 eC (vSh 0) .(L))) ak)))) [af,af,aa 0,aa 3]))) (aw (aL 6 (aK (aR (itE (vSh 1)) Xi (toB (b2 eqD (cF bz (ag (vSh 2) (ag (b2 aN (vC (.int 8)) (vSh 3)) (ag (vC (.int 7)) ak)))) (b2 eC (vSh 0) (vC (.int 7))))) (bm (szF (ag (b2 ixD (vSh 1) .(e)) (ag (b2 aN .(h) (b2 eC (vSh 0) .(J))) ak)))) [af,af,aa 0,aa 3]))) (fM 2 (bm (szF (ag (b2 aN (vC (.str "s")) (b2 ixD (vC (.str "ab")) (vSh 3))) (ag (cF bz (ag (vSh 0) (ag (b2 aN (vC (.int 12)) (vSh 3)) (ag (b2 aN (vSh 4) .(h)) ak)))) (ag (vSh 4) (ag (vSh 5) (ag (vSh 6) ak)))))))))))) (dY 2 (aC (vSh 2)))))
abbrev X4:=sIf (toB (b2 neA (vSh 6) (aK (szF ak)))) (fM 4 (bm (szF (ag (b2 aN (vC (.str "j")) (b2 ixD (vC (.str "abc")) (vSh 5))) (ag (vSh 7) (ag (vSh 8) (ag (b2 eqD (cF bz (ag (vSh 0) (ag (b2 aN (vC (.int 44)) (vSh 5)) (ag .(J) ak)))) .(e)) (ag (vSh 6) ak)))))))) aV
abbrev Xe:=b2 eqA (cF bz (ag (b2 ixD (vSh 3) (b2 eC (vSh 0) (cF bR .(aI)))) (ag (vC (.int 12)) (ag .(C) ak)))) (vSh 2)
def pi:FQ:=aT 5
  (aw (dQ 4 (szF ak)) (aw (bE (itR dN (ag .(L) ak)) (ay 5) (aw (aL 6 (aK (aR (itR dN (ag (cF bR .(T)) ak)) (ay 0) (toB Xe) (b2 ixD (b2 ixD (vSh 1) (vSh 0)) .(e)) [af,aa 2,aa 5,aa 1]))) (aw (sIf (toB (b2 eqD (cF bz (ag (vSh 0) (ag (b2 aN (vC (.int 20)) (vSh 5)) (ag .(L) ak)))) .(h))) (aL 6 (b1 jG (vSh 6))) aV) (aw (aL 7 (cF kC (ag (vSh 0) (ag (b2 aN (vC (.int 24)) (b2 cT .(C) (vSh 5))) (ag (b2 iO (vSh 3) .(J)) ak))))) (aw (aL 8 (b2 ixD (aK (szF (ag (vSh 3) (ag (cF bz (ag (vSh 0) (ag (b2 aN (vC (.int 37)) (vSh 5)) (ag (b2 aN (vSh 3) .(h)) ak)))) ak)))) (b2 iO (cF bz (ag (vSh 0) (ag (b2 aN (vC (.int 40)) (vSh 5)) (ag .(L) ak)))) .(J)))) X4))))) (dY 4 (aC (vSh 4)))))
def sD:FQ:=aT 10
  (aw (aL 3 (cF e9 (ag (vSh 0) (ag .(e) ak)))) (aw (aL 4 (b2 aN (slF (vSh 0) (pS .(C)) (pS (b2 aN .(C) (vSh 1)))) (aK (szF (ag (cF e9 (ag (vSh 0) (ag .(L) ak))) ak))))) (aw (aL 5 (cF iw (ag (cF jM (ag .(h) (ag (b2 cN (cF bR .(ac)) .(C)) ak))) .(H)))) (aw (dQ 6 (szF ak)) (aw (bE (itR dN (ag (b2 aN .(h) (cF bz (ag (vSh 3) (ag .(e) (ag (b2 ixD (aK (szF (ag .(J) (ag .(L) (ag (vC (.int 8)) ak))))) (cF bz (ag (vSh 3) (ag .(h) (ag .(L) ak))))) ak))))) ak)) (ay 7) (fM 6 (bm (szF (ag (b2 aN (vC (.str "be")) (b2 ixD (vC (.str "abcdefgh")) (vSh 7))) (ag (cF uH (ag (b2 aN (cF e9 (ag (vSh 0) (ag .(h) ak))) (b2 cT .(J) (vSh 7))) (ag .(e) .(T)))) ak)))))) (aw (aL 8 (cF uz (ag (cF e9 (ag (vSh 0) (ag .(J) ak))) (ag (vSh 5) ak)))) (dY 6 (aw (aL 9 (aK (aR (itR dN (ag (vSh 5) ak)) (ay 0) tT (cF ur (ag (b2 ixD (vSh 3) (vSh 0)) (ag (b2 ixD (vSh 4) (vSh 0)) (ag (vSh 1) .(T))))) [af,aa 6,aa 2,aa 4,aa 8]))) (aw (aL 10 (cF sF (ag (vSh 3) (ag (vC (.int 50)) (ag (vSh 9) ak))))) (aw (aL 11 (cF uE (ag (cF e9 (ag (vSh 0) (ag .(L) ak))) (ag (vSh 6) .(T))))) (aw (aL 10 (nE 10 (aK (aR (kD (vSh 10)) (ay 0) tT (b2 jN (vSh 0) (bm (szF (ag (cF iw (ag (b2 bN (vSh 2) (vSh 0)) .(H))) ak)))) [af,aa 2,aa 10])))) (aw (aL 12 (aK (szF ak))) (aw (sIf (toB (b2 eqD (cF bz (ag (vSh 3) (ag (vC (.int 70)) (ag .(L) ak)))) .(h))) (aL 12 (cF tm (ag (cF e9 (ag (vSh 0) (ag .(h) ak))) (ag (vSh 9) ak)))) aV) (aC (bm (szF (ag (vSh 6) (ag (vSh 9) (ag (cF pi (ag (vSh 3) (ag (vSh 4) (ag (vSh 9) .(T))))) (ag (vSh 11) (ag (vSh 10) (ag (vSh 12) .(T)))))))))))))))))))))))
abbrev X6:=bE (itF (b2 ixD (vSh 1) .(e))) (bG 2 (aM (ay 7) (aM (ay 8) bH))) (bE (itF (vSh 8)) (bG 2 (aM (ay 9) (aM (ay 10) bH))) (aL 6 (b2 aN (vSh 6) (aK (szF (ag (vSh 10) (ag (b2 cN (vSh 9) (b2 ixD (b2 ixD (b2 ixD (vSh 4) .(J)) .(e)) .(h))) ak)))))))
def tO:FQ:=aT 9
  (aw (sj 2) (aw (bE (itE (b2 ixD (vSh 1) .(h))) (bG 2 (aM (ay 3) (aM (ay 4) bH))) (aw (aL 5 (cF e9 (ag (vSh 0) (ag (b2 aN .(C) (vSh 3)) ak)))) (aw (aL 6 (aK (szF (ag .(e) (ag .(h) (ag .(J) ak)))))) (aw X6 (aw (aL 7 (b2 ixD (b2 ixD (b2 ixD (vSh 4) .(J)) (cF bz (ag (vSh 5) (ag (vC (.int 45)) (ag (cF bR (ag (b2 ixD (vSh 4) .(J)) ak)) ak))))) .(e))) (eR 2 (b2 ixD (vSh 4) .(e)) (bm (szF (ag (vSh 7) (ag (cF jM (ag .(e) (ag (b2 ixD (vSh 6) (cF bz (ag (vSh 5) (ag (vC (.int 46)) (ag (cF bR (ag (vSh 6) ak)) ak))))) ak))) ak)))))))))) (lE 2 (aC (vSh 2)))))
def oX:FQ:=aT 0
  (aC (aK (aR (itF (bC "Shop" "steps" (vSh 0))) (ay 0) tT .(p) [af])))
def iV (eK:FQ):FQ:=aT 0
  (aw (sIf (toB (cF cV (ag (vSh 0) (ag (vC (.ty "list")) ak)))) (aC (aK (aR (itF (vSh 0)) (ay 0) tT (cF eK .(ac)) [af]))) aV) (aw (sIf (toB (cF cV (ag (vSh 0) (ag (vC (.ty "tuple")) ak)))) (aC (cF we (ag (aK (aR (itF (vSh 0)) (ay 0) tT (cF eK .(ac)) [af])) ak))) aV) (aC (vSh 0))))
def iU:ao->FQ
 |0=>fun _=>af
 |n+1=>iV (iU n)
def eK:FQ:=iU 8
def wY:FQ:=aT 0
  (aC (cF eK (ag (b2 ixD (b2 bN (bC "Shop" "step_by_name" (vSh 0)) (vSh 1)) .(J)) ak)))
def v6:FQ:=aT 0
  (aC (cF eK (ag (b2 lK (bC "Shop" "job_by_step" (vSh 0)) (vSh 1)) ak)))
def pf:FQ:=aT 0
  (aC (bC "Shop" "horizon" (vSh 0)))
def wX:FQ:=aT 0
  (aC (cF eK (ag (bC "Shop" "benches" (vSh 0)) ak)))
def uv:FQ:=aT 0
  (aC (cF eK (ag (bC "Shop" "jobs" (vSh 0)) ak)))
abbrev Xc:=aR (itF (slF (vSh 0) (pS (b2 aN (vSh 2) .(h))) pN)) (ay 0) tT (bm (szF (ag (vSh 1) .(ac)))) [af,aa 3]
def nR:FQ:=aT 3
  (aw (dQ 1 (szF ak)) (aw (bE (itE (vSh 0)) (bG 2 (aM (ay 2) (aM (ay 3) bH))) (eP 1 (aK Xc))) (dY 1 (aC (vSh 1)))))
def sR:FQ:=aT 0
  (aC (cF eK (ag (bC "Shop" "links" (vSh 0)) ak)))
def yi:FQ:=aT 6
  (aw (tX 1) (aw (bE (itF (bq "Shop" "job_rows" uv (vSh 0) ak)) (ay 2) (sIf (toB (b2 ixD (vSh 2) .(L))) (bE (itF (cF nR (ag (b2 ixD (vSh 2) .(C)) ak))) (ay 3) (eR 1 (vSh 3) .(e))) aV)) (aw (bE (itF (bq "Shop" "link_rows" sR (vSh 0) ak)) (bG 3 (aM (ay 4) (aM (ay 5) (aM (ay 6) bH)))) (eR 1 (bm (szF (ag (vSh 4) (ag (vSh 5) ak)))) (vSh 6))) (lE 1 (aC (vSh 1))))))
abbrev X9:=aR (itF (vSh 1)) (ay 0) (toB (b2 m5 (bm (szF (ag (vSh 1) .(ac)))) (vSh 2))) (bm (szF (ag (vSh 1) (ag (vSh 0) (ag (b2 bN (vSh 2) (bm (szF (ag (vSh 1) .(ac))))) ak))))) [af,aa 4,aa 2]
def wA:FQ:=aT 4
  (aw (aL 1 (bq "Shop" "step_names" oX (vSh 0) ak)) (aw (aL 2 (cF yi .(ac))) (aw (dQ 3 (szF ak)) (aw (bE (itF (vSh 1)) (ay 4) (eP 3 (aK X9))) (dY 3 (aC (vSh 3)))))))
def pO:ac D->aq Fo:=jt 3 "Grounds"
  (aw (iW "Grounds" "told_shop" 0 (vSh 1)) (aw (iW "Grounds" "kept_plan" 0 (ifD (toB (b2 isD (vSh 3) (vC .non))) (vC .non) (cF xG .(aI)))) (aw (iW "Grounds" "kept_most" 0 (vSh 4)) (aw (fR "Grounds" "lengths" 0 (.k [])) (aw (fR "Grounds" "job_names" 0 (.k [])) (aw (fR "Grounds" "early_moments" 0 (.k [])) (aw (fR "Grounds" "end_marks" 0 (.k [])) (aw (bE (itF (bq "Shop" "step_names" oX (vSh 1) ak)) (ay 5) (aw (gR "Grounds" "lengths" 0 (vSh 5) (cF ip (ag (bq "Shop" "ways_of" wY (vSh 1) (ag (vSh 5) ak)) ak))) (aw (aL 6 (bq "Shop" "job_of" v6 (vSh 1) (ag (vSh 5) ak))) (aw (gR "Grounds" "job_names" 0 (vSh 5) (ifD (toB (b2 isD (vSh 6) (vC .non))) (vC .non) (b2 ixD (vSh 6) .(e)))) (aw (gR "Grounds" "early_moments" 0 (vSh 5) (ifD (toB (b2 isD (vSh 6) (vC .non))) .(e) (b2 ixD (vSh 6) .(h)))) (aw (aL 7 (ifD (toB (b2 isD (vSh 6) (vC .non))) (bq "Shop" "last_moment" pf (vSh 1) ak) (b2 ixD (vSh 6) .(J)))) (gR "Grounds" "end_marks" 0 (vSh 5) (cF vE (ag (vSh 2) (ag (bq "Shop" "last_moment" pf (vSh 1) ak) (ag (vSh 7) ak))))))))))) (aw (iW "Grounds" "breaks" 0 (cF ip (ag (bq "Shop" "bench_rows" wX (vSh 1) ak) ak))) (iW "Grounds" "known_gaps" 0 (cF ng (ag (aK (aR (itF (cF wA .(H))) (bG 3 (aM (ay 0) (aM (ay 1) (aM (ay 2) bH)))) tT (bm (szF (ag (bm (szF (ag (vSh 0) .(H)))) .(T)))) [af,af,af])) ak))))))))))))
def ku:(Fo->ac D->aq (D×Fo)):=g9 0 "Facts"
  (gR "Facts" "open_benches" 0 (vSh 1) (bwF 0 (aK (tq .(aD) (ay 0) (toB (b2 f9 (vSh 0) (vSh 1))) (vSh 0) [af,aa 2]))))
def nL:(Fo->ac D->aq (D×Fo)):=g9 0 "Facts"
  (aw (gR "Facts" "firsts" 0 (vSh 1) (vSh 2)) (gR "Facts" "lasts" 0 (vSh 1) (vSh 3)))
def p5:FQ:=aT 0
  (aC (b2 bN (bC "Grounds" "end_marks" .(R)) (vSh 1)))
def sH:FQ:=aT 1
  (aw (aL 2 .(aD)) (aC (aK (aR (itF .(aM)) (ay 0) tT (b2 bN (vSh 1) (vSh 0)) [af,aa 2]))))
def mi:FQ:=aT 0
  (aC (b1 sZ (bq "Facts" "open_lengths" sH (vSh 0) .(H))))
def sg:ac D->aq Fo:=jt 3 "Facts"
  (aw (iW "Facts" "grounds" 0 (cF (fun ds=>(pO (ds++[])).map (foD "Grounds")) (ag (vSh 1) (ag (vSh 2) (ag (vSh 4) (ag (vSh 5) ak)))))) (aw (fR "Facts" "open_benches" 0 (.k [])) (aw (fR "Facts" "firsts" 0 (.k [])) (aw (fR "Facts" "lasts" 0 (.k [])) (aw (fR "Facts" "put_pairs" 0 (.t [])) (aw (fR "Facts" "notes" 0 (.k [])) (bE (itF (bq "Shop" "step_names" oX (vSh 1) ak)) (ay 7) (aw (aL 8 (bwF 0 (b2 bN (bC "Grounds" "early_moments" .(R)) (vSh 7)))) (sIf (fK (toB (b2 e6 (vSh 3) (vC .non))) (toB (b2 f9 (vSh 7) (vSh 3)))) (aw (aL 9 (b2 ixD (b2 ixD (vSh 3) (vSh 7)) .(h))) (aw (gf "Facts" "set_open" 0 ku (ag (vSh 7) (ag (aK (szF (ag (b2 ixD (b2 ixD (vSh 3) (vSh 7)) .(e)) ak))) ak))) (gf "Facts" "set_window" 0 nL (ag (vSh 7) (ag (cF jM (ag (vSh 9) (ag (vSh 8) ak))) (ag (vSh 9) ak)))))) (aw (gf "Facts" "set_open" 0 ku (jD 0 (ag (vSh 7) (ag (cF xP (ag (b2 bN (bC "Grounds" "lengths" .(R)) (vSh 7)) ak)) ak)))) (gf "Facts" "set_window" 0 nL (jD 0 (ag (vSh 7) (ag (cF jM (ag (vSh 6) (ag (vSh 8) ak))) (ag (b2 cN (bq "Facts" "end_mark" p5 (vSh 0) (ag (vSh 7) ak)) (bq "Facts" "least_of" mi (vSh 0) (ag (vSh 7) ak))) ak)))))))))))))))
def um:FQ:=aT 0
  (aC (cc (cF cV (ag (vSh 0) (ag (vC (.ty "int")) ak))) (p8 (cF cV (ag (vSh 0) (ag (vC (.ty "bool")) ak))))))
def fX:FQ:=aT 0
  (aC (cc (cF um .(ac)) (chD leD leD (vSh 1) (vSh 0) (vSh 2))))
def fJ:FQ:=aT 0
  (aC (cc (cF cV (ag (vSh 0) (ag (vC (.ty "tuple")) ak))) (b2 eqD (cF bR .(ac)) (vSh 1))))
def sO:FQ:=aT 0
  (aw (sIf (orT (aY (toB (cF fJ (ag (vSh 0) (ag .(J) ak))))) (orT (aY (toB (cF fX (ag .(p) (ag .(e) .(H)))))) (aY (toB (cF fX (ag .(ao) (ag .(e) .(H)))))))) .(z) aV) (aC (b2 ltD .(p) .(ao))))
def gx:FQ:=aT 0
  (aC (cc (cF cV (ag (vSh 0) (ag (vC (.ty "list")) ak))) (chD leD leD (vSh 1) (cF bR .(ac)) (vSh 2))))
abbrev Xa:=ag (aK (aR (itR mw (ag .(h) (ag (cF bR .(ac)) ak))) (ay 0) tT (b2 ltD (b2 ixD (b2 ixD (vSh 1) (b2 cN (vSh 0) .(h))) .(h)) (b2 ixD (b2 ixD (vSh 1) (vSh 0)) .(e))) [af,aa 0])) ak
def xn:FQ:=aT 0
  (aw (sIf (orT (aY (toB (cF gx (ag (vSh 0) (ag .(e) (ag (vC (.int 10)) ak)))))) (aY (toB (cF fu (ag (aK (aR (itF (vSh 0)) (ay 0) tT (cF sO (ag (vSh 0) .(H))) [af,aa 1])) ak))))) .(z) aV) (aC (cF fu Xa)))
def iL:FQ:=aT 0
  (aw (sIf (orT (aY (toB (cF cV (ag (vSh 0) (ag (vC (.ty "str")) ak))))) (aY (toB (chD leD leD .(h) (cF bR .(ac)) (vC (.int 8)))))) .(z) aV) (aC (cF fu (ag (aK (aR (itS (vSh 0)) (ay 0) tT (chD leD leD (vC (.str "a")) (vSh 0) (vC (.str "z"))) [af])) ak))))
def sJ:FQ:=aT 0
  (aC (cc (cF fJ (ag (vSh 0) (ag .(J) ak))) (cc (cF iL (ag .(p) ak)) (cF xn (ag .(ao) .(H))))))
def e7:FQ:=aT 0
  (aC (b2 eqD (b1 n9 (vSh 0)) (cF bR .(ac))))
abbrev Xh:=ag (aK (aR (itF (vSh 0)) (ay 0) tT .(p) [af])) ak
def wv:FQ:=aT 0
  (aw (sIf (orT (aY (toB (cF gx (ag (vSh 0) (ag .(h) (ag (vC (.int 8)) ak)))))) (aY (toB (cF fu (ag (aK (aR (itF (vSh 0)) (ay 0) tT (cF sJ (ag (vSh 0) .(H))) [af,aa 1])) ak))))) .(z) aV) (aC (cF e7 Xh)))
def jE:FQ:=aT 0
  (aC (cc (cF iL .(ac)) (b2 f9 (vSh 0) (vSh 1))))
def sv:FQ:=aT 0
  (aC (cc (cF fJ (ag (vSh 0) (ag .(J) ak))) (cc (cF jE (ag .(p) .(H))) (cF fX (ag .(ao) (ag .(h) .(T)))))))
def x8:FQ:=aT 0
  (aw (sIf (orT (aY (toB (cF gx (ag (vSh 0) (ag .(h) (ag .(C) ak)))))) (aY (toB (cF fu (ag (aK (aR (itF (vSh 0)) (ay 0) tT (cF sv (ag (vSh 0) (ag (vSh 1) .(T)))) [af,aa 1,aa 2])) ak))))) .(z) aV) (aC (cF e7 Xh)))
def uh:FQ:=aT 0
  (aw (sIf (orT (aY (toB (cF fJ (ag (vSh 0) (ag .(L) ak))))) (orT (aY (toB (cF iL (ag .(p) ak)))) (aY (toB (cF iL (ag .(ao) ak)))))) .(z) aV) (aC (cF x8 (ag (b2 ixD (vSh 0) .(J)) (ag (vSh 1) .(T))))))
def wS:FQ:=aT 0
  (aw (sIf (orT (aY (toB (cF gx (ag (vSh 0) (ag .(h) (ag (vC (.int 40)) ak)))))) (aY (toB (cF fu (ag (aK (aR (itF (vSh 0)) (ay 0) tT (cF uh (ag (vSh 0) (ag (vSh 1) .(T)))) [af,aa 1,aa 2])) ak))))) .(z) aV) (aC (cF e7 Xh)))
def vO:FQ:=aT 0
  (aw (sIf (orT (aY (toB (cF fJ (ag (vSh 0) (ag (vC (.int 5)) ak))))) (orT (aY (toB (cF iL (ag .(p) ak)))) (aY (toB (cF cV (ag (b2 ixD (vSh 0) .(L)) (ag (vC (.ty "bool")) ak))))))) .(z) aV) (aw (sIf (orT (aY (toB (cF fX (ag .(ao) (ag .(e) .(T)))))) (aY (toB (cF fX (ag (b2 ixD (vSh 0) .(J)) (ag .(e) .(T))))))) .(z) aV) (aC (cc (cF gx (ag (b2 ixD (vSh 0) .(C)) (ag .(h) (ag (cF bR .(H)) ak)))) (cF fu (ag (aK (aR (itF (b2 ixD (vSh 0) .(C))) (ay 0) tT (cF jE (ag (vSh 0) .(H))) [af,aa 1])) ak))))))
def ya:FQ:=aT 2
  (aw (sIf (orT (aY (toB (cF gx (ag (vSh 0) (ag .(e) (ag (vC (.int 40)) ak)))))) (aY (toB (cF fu (ag (aK (aR (itF (vSh 0)) (ay 0) tT (cF vO (ag (vSh 0) (ag (vSh 1) .(T)))) [af,aa 1,aa 2])) ak))))) .(z) aV) (aw (dQ 3 (szF ak)) (aw (bE (itF (vSh 0)) (ay 4) (eP 3 (b2 ixD (vSh 4) .(C)))) (dY 3 (aC (cc (cF e7 Xh) (cF e7 .(aI))))))))
def sS:FQ:=aT 0
  (aw (sIf (orT (aY (toB (cF fJ (ag (vSh 0) (ag .(C) ak))))) (aY (toB (cF jE (ag .(p) .(H)))))) .(z) aV) (aC (cc (cF iL (ag .(ao) ak)) (cc (cF iL (ag (b2 ixD (vSh 0) .(J)) ak)) (cF fX (ag (b2 ixD (vSh 0) .(L)) (ag .(h) .(T))))))))
def wy:FQ:=aT 0
  (aw (sIf (orT (aY (toB (cF gx (ag (vSh 0) (ag .(e) (ag (vC (.int 100)) ak)))))) (aY (toB (cF fu (ag (aK (aR (itF (vSh 0)) (ay 0) tT (cF sS (ag (vSh 0) (ag (vSh 1) .(T)))) [af,aa 1,aa 2])) ak))))) .(z) aV) (aC (cF e7 (ag (aK (aR (itF (vSh 0)) (ay 0) tT (slF (vSh 0) pN (pS .(L))) [af])) ak))))
def uj:FQ:=aT 0
  (aw (sIf (orT (aY (toB (cF fJ (ag (vSh 0) (ag .(L) ak))))) (orT (aY (toB (cF jE (ag .(p) .(H))))) (aY (toB (cF jE (ag .(ao) .(H))))))) .(z) aV) (aC (cc (b2 neA .(p) .(ao)) (cF fX (ag (b2 ixD (vSh 0) .(J)) (ag .(e) .(T)))))))
def xg:FQ:=aT 0
  (aw (sIf (orT (aY (toB (cF gx (ag (vSh 0) (ag .(e) (ag (vC (.int 100)) ak)))))) (aY (toB (cF fu (ag (aK (aR (itF (vSh 0)) (ay 0) tT (cF uj (ag (vSh 0) (ag (vSh 1) .(T)))) [af,aa 1,aa 2])) ak))))) .(z) aV) (aC (cF e7 (ag (aK (aR (itF (vSh 0)) (ay 0) tT (slF (vSh 0) pN (pS .(J))) [af])) ak))))
def tV:FQ:=aT 0
  (aC (cc (cF fJ (ag (vSh 0) (ag .(J) ak))) (cc (cF jE (ag .(p) .(H))) (cF fX (ag .(ao) (ag .(h) (ag (vC (.int 1000000)) ak)))))))
def sd:FQ:=aT 0
  (aw (sIf (orT (aY (toB (cF gx (ag (vSh 0) (ag .(e) (ag (cF bR .(H)) ak)))))) (aY (toB (cF fu (ag (aK (aR (itF (vSh 0)) (ay 0) tT (cF tV (ag (vSh 0) .(H))) [af,aa 1])) ak))))) .(z) aV) (aC (cF e7 Xh)))
def sL:FQ:=aT 0
  (aw (sIf (orT (aY (toB (cF fJ (ag (vSh 0) (ag (vC (.int 5)) ak))))) (aY (toB (cF iL (ag .(p) ak))))) .(z) aV) (aw (sIf (orT (aY (toB (cF fX (ag (b2 ixD (vSh 0) .(J)) (ag .(e) (ag (vC (.int 1000000)) ak)))))) (aY (toB (cF fX (ag .(ao) (ag .(e) (ag (b2 ixD (vSh 0) .(J)) ak))))))) .(z) aV) (aC (cc (cF sd (ag (b2 ixD (vSh 0) .(L)) .(H))) (cF sd (ag (b2 ixD (vSh 0) .(C)) .(H)))))))
def wW:FQ:=aT 0
  (aw (sIf (orT (aY (toB (cF gx (ag (vSh 0) (ag .(e) (ag (vC (.int 6)) ak)))))) (aY (toB (cF fu (ag (aK (aR (itF (vSh 0)) (ay 0) tT (cF sL (ag (vSh 0) .(H))) [af,aa 1])) ak))))) .(z) aV) (aC (cF e7 Xh)))
def vF:FQ:=aT 2
  (aw (sIf (aY (toB (cF fX (ag (vSh 6) (ag .(h) (ag (vC (.int 1000000)) ak)))))) (aC (vC (.str "horizon"))) aV) (aw (sIf (aY (toB (cF wv (ag (vSh 0) (ag (vSh 6) ak))))) (aC (vC (.str "benches"))) aV) (aw (aL 7 (aK (aR (itF (vSh 0)) (ay 0) tT .(p) [af]))) (aw (sIf (aY (toB (cF wS (ag (vSh 1) (ag (vSh 7) (ag (vSh 6) ak)))))) (aC (vC (.str "steps"))) aV) (aw (aL 8 (aK (aR (itF (vSh 1)) (ay 0) tT .(p) [af]))) (aw (sIf (aY (toB (cF ya (ag (vSh 2) (ag (vSh 8) (ag (vSh 6) ak)))))) (aC (vC (.str "jobs"))) aV) (aw (sIf (aY (toB (cF wy (ag (vSh 3) (ag (vSh 7) (ag (vSh 6) ak)))))) (aC (vC (.str "setups"))) aV) (aw (sIf (aY (toB (cF xg (ag (vSh 4) (ag (vSh 8) (ag (vSh 6) ak)))))) (aC (vC (.str "links"))) aV) (aw (sIf (aY (toB (cF wW (ag (vSh 5) (ag (vSh 8) ak))))) (aC (vC (.str "stocks"))) aV) (aC (vC .non)))))))))))
abbrev Xf:=bE (itF (b2 ixD (vSh 9) .(C))) (ay 10) (iX "Shop" "job_by_step" 0 (vSh 10) (vSh 9))
def xq:FQ:=mX 3 "Shop"
  (aw (aL 8 (cF vF (ag (vSh 1) (ag (vSh 2) (ag (vSh 3) (ag (vSh 4) (ag (vSh 5) (ag (vSh 6) (ag (vSh 7) ak))))))))) (aw (sIf (toB (b2 e6 (vSh 8) (vC .non))) sNo aV) (aw (gj "Shop" "benches" 0 (cF eK .(H))) (aw (gj "Shop" "steps" 0 (cF eK .(T))) (aw (gj "Shop" "jobs" 0 (cF eK .(aI))) (aw (gj "Shop" "setups" 0 (cF eK (ag (vSh 4) ak))) (aw (gj "Shop" "links" 0 (cF eK (ag (vSh 5) ak))) (aw (gj "Shop" "stocks" 0 (cF eK (ag (vSh 6) ak))) (aw (gj "Shop" "horizon" 0 (vSh 7)) (aw (gj "Shop" "bench_by_name" 0 (cF ip (ag (aK (aR (itF (iS "Shop" "benches" 0)) (ay 0) tT (bm (szF (ag .(p) .(ac)))) [af])) ak))) (aw (gj "Shop" "step_by_name" 0 (cF ip (ag (aK (aR (itF (iS "Shop" "steps" 0)) (ay 0) tT (bm (szF (ag .(p) .(ac)))) [af])) ak))) (aw (gj "Shop" "setup_by_names" 0 (cF ng (ag (aK (aR (itF (iS "Shop" "setups" 0)) (ay 0) tT (bm (szF (ag (slF (vSh 0) pN (pS .(L))) (ag (b2 ixD (vSh 0) .(L)) ak)))) [af])) ak))) (aw (nU "Shop" "job_by_step" 0) (bE (itF (iS "Shop" "jobs" 0)) (ay 9) Xf))))))))))))))
def xB:FQ:=aT 0
  (aC (cF xq (ag .(p) (ag .(ao) (ag (b2 ixD (vSh 0) .(J)) (ag (b2 ixD (vSh 0) .(L)) (ag (b2 ixD (vSh 0) .(C)) (ag (b2 ixD (vSh 0) (vC (.int 5))) (ag (b2 ixD (vSh 0) (vC (.int 6))) ak)))))))))
def mZ:FQ:=aT 2
  (aw (bE (wM (vSh 0)) (bG 2 (aM (ay 3) (aM (ay 4) bH))) (sIf (fK (toB (b2 ltD (vSh 2) (vSh 4))) (toB (b2 ltD (vSh 3) (b2 aN (vSh 2) (vSh 1))))) (aL 2 (b2 cN (vSh 3) (vSh 1))) aV)) (aC (vSh 2)))
def vD:FQ:=aT 0
  (aC (b2 e6 (bC "Grounds" "kept_plan" .(R)) (vC .non)))
def vS:FQ:=aT 0
  (aC (ifD (toB (bq "Facts" "has_kept" vD (vSh 0) ak)) (b2 lK (bC "Grounds" "kept_plan" .(R)) (vSh 1)) (vC .non)))
def pz:FQ:=aT 0
  (aC (cc (b2 m5 (vSh 1) (bC "Facts" "notes" (vSh 0))) (b2 eqA (bq "Facts" "kept_place" vS (vSh 0) .(H)) (bm (szF (ag (vSh 2) .(aI)))))))
def uD:FQ:=aT 3
  (aw (aL 3 (b2 bN (bC "Grounds" "breaks" .(R)) (vSh 2))) (aw (aL 4 (b2 bN .(aD) (vSh 2))) (aw (aL 5 (cF mZ (ag (vSh 3) (ag (vSh 4) (ag (cF iw (ag (b2 bN (bC "Facts" "lasts" (vSh 0)) (vSh 1)) (ag (b2 cN (bq "Facts" "end_mark" p5 (vSh 0) .(H)) (vSh 4)) ak))) ak))))) (aw (sIf (toB (bq "Facts" "is_barred" pz (vSh 0) (ag (vSh 1) (ag (vSh 2) (ag (vSh 5) ak))))) (aL 5 (cF mZ (ag (vSh 3) (ag (vSh 4) (ag (b2 cN (vSh 5) .(h)) ak))))) aV) (aC (vSh 5))))))
def kI:FQ:=aT 0
  (aw (sIf (orT (toB (b2 o9 (vSh 2) .(aM))) (aY (toB (chD leD leD (b2 bN (bC "Facts" "firsts" (vSh 0)) (vSh 1)) (vSh 3) (b2 bN (bC "Facts" "lasts" (vSh 0)) (vSh 1)))))) .(z) aV) (aC (b2 leD (b2 aN (vSh 3) (b2 bN .(aD) (vSh 2))) (bq "Facts" "end_mark" p5 (vSh 0) .(H)))))
abbrev Xg:=bq "Facts" "is_in_window" kI (vSh 3) (ag (vSh 2) (ag (vSh 0) .(H)))
def jQ:FQ:=aT 1
  (aw (aL 2 (aK (aR (itF .(aM)) (ay 0) tT (bm (szF (ag (vSh 0) (ag (bq "Facts" "greatest_on" uD (vSh 2) (ag (vSh 1) .(ac))) ak)))) [af,aa 1,aa 0]))) (aC (b1 tW (aK (aR (itF (vSh 2)) Xi (toB Xg) (vSh 1) [af,af,aa 1,aa 0])))))
def lQ:FQ:=aT 2
  (aw (bE (itF (vSh 0)) (bG 2 (aM (ay 3) (aM (ay 4) bH))) (sIf (fK (toB (b2 ltD (vSh 2) (vSh 4))) (toB (b2 ltD (vSh 3) (b2 aN (vSh 2) (vSh 1))))) (aL 2 (vSh 4)) aV)) (aC (vSh 2)))
def uB:FQ:=aT 3
  (aw (aL 3 (b2 bN (bC "Grounds" "breaks" .(R)) (vSh 2))) (aw (aL 4 (b2 bN .(aD) (vSh 2))) (aw (aL 5 (cF lQ (ag (vSh 3) (ag (vSh 4) (ag (b2 bN (bC "Facts" "firsts" (vSh 0)) (vSh 1)) ak))))) (aw (sIf (toB (bq "Facts" "is_barred" pz (vSh 0) (ag (vSh 1) (ag (vSh 2) (ag (vSh 5) ak))))) (aL 5 (cF lQ (ag (vSh 3) (ag (vSh 4) (ag (b2 aN (vSh 5) .(h)) ak))))) aV) (aC (vSh 5))))))
def jL:FQ:=aT 1
  (aw (aL 2 (aK (aR (itF .(aM)) (ay 0) tT (bm (szF (ag (vSh 0) (ag (bq "Facts" "least_on" uB (vSh 2) (ag (vSh 1) .(ac))) ak)))) [af,aa 1,aa 0]))) (aC (b1 sZ (aK (aR (itF (vSh 2)) Xi (toB Xg) (vSh 1) [af,af,aa 1,aa 0])))))
def nh:FQ:=aT 0
  (aC (b2 bN (bC "Facts" "lasts" (vSh 0)) (vSh 1)))
def nk:FQ:=aT 0
  (aC (b2 bN (bC "Facts" "firsts" (vSh 0)) (vSh 1)))
abbrev X3:=bE (itF (b2 ixD (vSh 1) .(e))) (bG 2 (aM (ay 6) (aM (ay 7) bH))) (bE (itF (vSh 7)) (bG 2 (aM (ay 8) (aM (ay 9) bH))) (aL 5 (b2 aN (vSh 5) (aK (szF (ag (vSh 8) (ag (vSh 9) (ag (b2 cN (vSh 8) (b2 ixD (b2 ixD (vSh 4) .(e)) .(h))) (ag (b2 aN (vSh 9) .(h)) ak)))))))))
abbrev X1:=aw (aL 13 (aK (aR (itR dN (ag (cF bR (ag (vSh 4) ak)) ak)) (ay 0) (toB (b2 gtD (cF bz (ag (vSh 2) (ag (b2 aN (vC (.int 35)) (vSh 0)) (ag (vC (.int 5)) ak)))) .(e))) (b2 ixD (vSh 1) (vSh 0)) [af,aa 4,aa 2]))) (aw (gf "Facts" "set_open" 0 ku (ag (vSh 3) (ag (aK (aR (itF (vSh 13)) Xi tT (vSh 0) [af,af])) ak))) (aC (bm (szF (ag (vSh 10) (ag (vSh 11) (ag (vSh 13) ak)))))))
def oV:(Fo->ac D->aq (D×Fo)):=g9 9 "Facts"
  (aw (aL 5 (bwF 0 (aK (szF (ag .(e) (ag (b2 ixD (vSh 1) (vC (.int 6))) (ag (bq "Facts" "last_of" nh (vSh 0) .(aI)) ak))))))) (aw X3 (aw (aL 10 (b2 cN (b2 aN (b2 ixD (vSh 5) (cF bz (ag (vSh 2) (ag (vC (.int 30)) (ag (cF bR (ag (vSh 5) ak)) ak))))) (cF bz (ag (vSh 2) (ag (vC (.int 31)) (ag .(L) ak))))) .(h))) (aw (aL 11 (b2 cN (b2 aN (b2 ixD (vSh 5) (cF bz (ag (vSh 2) (ag (vC (.int 32)) (ag (cF bR (ag (vSh 5) ak)) ak))))) (cF bz (ag (vSh 2) (ag (vC (.int 33)) (ag .(L) ak))))) .(h))) (aw (aL 12 (cF bz (ag (vSh 2) (ag (vC (.int 34)) (ag .(C) ak))))) (aw (sIf (toB (b2 eqD (vSh 12) .(e))) (pd 10 11 (jD 0 (ag (bq "Facts" "first_of" nk (vSh 0) .(aI)) (ag (bq "Facts" "last_of" nh (vSh 0) .(aI)) ak)))) aV) (aw (sIf (toB (b2 eqD (vSh 12) .(h))) (aL 10 (bwF 0 (bq "Facts" "first_of" nk (vSh 0) .(aI)))) aV) (aw (sIf (toB (b2 neD (vSh 12) .(e))) (gf "Facts" "set_window" 0 nL (ag (vSh 3) (ag (vSh 10) (ag (vSh 11) ak)))) aV) X1))))))))
def g8:FQ:=aT 0
  (aC (cc (cF cV (ag (vSh 0) (ag (vC (.ty "int")) ak))) (cc (p8 (cF cV (ag (vSh 0) (ag (vC (.ty "bool")) ak)))) (b2 eqA (vSh 0) (vSh 1)))))
def oQ:(Fo->ac D->aq (D×Fo)):=g9 0 "Facts"
  (gR "Facts" "notes" 0 (vSh 1) (vC (.bl aj)))
def wP:FQ:=aT 1
  (aw (bE (itF (b2 ixD (vSh 0) .(J))) (ay 2) (sIf (toB (b2 f9 (vSh 1) (b2 ixD (vSh 2) .(C)))) (aC (vSh 2)) aV)) (aC (vC .non)))
def si:FQ:=aT 2
  (aw (aL 3 (cF iw (ag (vSh 1) (ag (b2 ixD (vSh 0) (vC (.int 6))) ak)))) (aw (aL 4 (cF wP (ag (vSh 0) .(T)))) (aw (sIf (toB (b2 e6 (vSh 4) (vC .non))) (aL 3 (cF iw (ag (vSh 3) (ag (b2 ixD (vSh 4) .(J)) ak)))) aV) (aC (vSh 3)))))
def gX:FQ:=aT 0
  (aw (sIf (orT (toB (b2 isD (vSh 0) (vC .non))) (toB (b2 neA .(p) (vSh 1)))) (aC (vC .non)) aV) (aC .(ao)))
def pM:FQ:=aT 4
  (aw (aL 4 (b2 ixD (vSh 1) .(e))) (aw (bE (itR dN (ag .(J) ak)) (ay 5) (aw (bE (itF (vSh 0)) (bG 2 (aM (ay 6) (aM (ay 7) bH))) (sIf (fK (toB (b2 ltD (vSh 4) (vSh 7))) (toB (b2 ltD (vSh 6) (b2 aN (vSh 4) (vSh 2))))) (aL 4 (vSh 7)) aV)) (aL 4 (b2 aN (vSh 4) (cF sA (ag (b2 eqA (vSh 4) (vSh 3)) ak)))))) (aw (sIf (orT (toB (b2 gtD (vSh 4) (b2 ixD (vSh 1) .(h)))) (toB (b2 gtD (b2 aN (vSh 4) (vSh 2)) (b2 ixD (vSh 1) .(J))))) (aC (aK (szF ak))) aV) (aC (aK (szF (ag (vSh 4) ak)))))))
def o4:FQ:=aT 4
  (aw (aL 4 (cF iw (ag (b2 ixD (vSh 1) .(h)) (ag (b2 cN (b2 ixD (vSh 1) .(J)) (vSh 2)) ak)))) (aw (bE (itR dN (ag .(J) ak)) (ay 5) (aw (bE (itF (b1 jG (vSh 0))) (bG 2 (aM (ay 6) (aM (ay 7) bH))) (sIf (fK (toB (b2 ltD (vSh 4) (vSh 7))) (toB (b2 ltD (vSh 6) (b2 aN (vSh 4) (vSh 2))))) (aL 4 (b2 cN (vSh 6) (vSh 2))) aV)) (aL 4 (b2 cN (vSh 4) (cF sA (ag (b2 eqA (vSh 4) (vSh 3)) ak)))))) (aw (sIf (toB (b2 ltD (vSh 4) (b2 ixD (vSh 1) .(e)))) (aC (aK (szF ak))) aV) (aC (aK (szF (ag (vSh 4) ak)))))))
def io:FQ:=aT 0
  (aw (sIf (toB (b2 eqA (vSh 1) (aK (szF ak)))) (aC (b2 isD (vSh 0) (vC .non))) aV) (aC (cF g8 (ag (vSh 0) (ag (b2 ixD (vSh 1) .(e)) ak)))))
def kx:FQ:=aT 0
  (aw (sIf (orT (aY (toB (bq "Facts" "is_in_window" kI (vSh 0) (ag (vSh 1) (ag (vSh 2) .(aI)))))) (toB (bq "Facts" "is_barred" pz (vSh 0) (ag (vSh 1) (ag (vSh 2) .(aI)))))) .(z) aV) (aC (b2 eqA (cF lQ (ag (b2 bN (bC "Grounds" "breaks" .(R)) (vSh 2)) (ag (b2 bN .(aD) (vSh 2)) .(aI)))) (vSh 3))))
def kr:FQ:=aT 0
  (aw (sIf (orT (toB (b2 ltD (vSh 3) (b2 ixD (vSh 1) .(e)))) (orT (toB (b2 gtD (vSh 3) (b2 ixD (vSh 1) .(h)))) (orT (toB (b2 gtD (b2 aN (vSh 3) (vSh 2)) (b2 ixD (vSh 1) .(J)))) (toB (b2 eqA (vSh 3) (vSh 4)))))) .(z) aV) (aC (b2 eqA (aK (aR (itF (vSh 0)) (ay 0) (fK (toB (b2 ltD (vSh 1) .(ao))) (toB (b2 ltD .(p) (b2 aN (vSh 1) (vSh 2))))) (vSh 0) [af,aa 3,aa 2])) (aK (szF ak)))))
def w8:FQ:=aT 0
  (aC (cF vZ (ag .(aM) ak)))
abbrev Xd:=ag (b2 bN (vSh 10) (vSh 13)) (ag (vSh 9) (ag (vSh 14) (ag (cF gX (ag (vSh 5) (ag (vSh 13) ak))) ak)))
abbrev X0:=dY 16 (bE (itF (b2 aN (vSh 16) (aK (aR (itF (vSh 15)) Xi tT (b2 cN (vSh 0) .(h)) [af,af])))) (ay 17) (aw (aL 18 (bq "Facts" "can_start" kx (vSh 0) (ag (vSh 3) (ag (vSh 13) (ag (vSh 17) ak))))) (aw (aL 19 (cF gX (ag (vSh 5) (ag (vSh 13) ak)))) (aw (aL 20 (cc (b2 e6 (vSh 14) (vC .non)) (cF kr (ag (vSh 15) (ag (vSh 9) (ag (vSh 14) (ag (vSh 17) (ag (vSh 19) ak)))))))) (sIf (orT (aY (toB (cF cV (ag (vSh 18) (ag (vC (.ty "bool")) ak))))) (toB (b2 neA (vSh 18) (vSh 20)))) .(z) aV)))))
abbrev Xb:=lR (aK (szF (ag (vSh 6) (ag (b2 cN (vSh 6) .(h)) (ag (b2 aN (vSh 6) .(h)) (ag (vSh 7) (ag (b2 aN (vSh 7) .(h)) ak))))))) (aK (aR (itF (vSh 15)) Xi tT (vSh 1) [af,af]))
def pZ:FQ:=aT 15
  (aw (lJ (bG 3 (aM (ay 6) (aM (ay 7) (aM (ay 8) bH)))) (vSh 4)) (aw (aL 9 (bm (szF (ag (vSh 6) (ag (vSh 7) (ag (cF si (ag (vSh 1) (ag (vSh 2) .(aI)))) ak)))))) (aw (aL 10 (cF ip (ag (b2 ixD (vSh 1) .(e)) ak))) (aw (dQ 11 (szF ak)) (aw (dQ 12 (szF ak)) (aw (bE (itF (vSh 8)) (bG 2 (aM (ay 13) (aM (ay 14) bH))) (aw (eP 11 (cF pM Xd)) (eP 12 (cF o4 Xd)))) (aw (sIf (bwT 11 (aY (toB (cF io (ag (bq "Facts" "least_start" jL (vSh 0) .(aI)) (ag (slF (cF ix (ag (vSh 11) ak)) pN (pS .(h))) ak)))))) .(z) aV) (aw (sIf (bwT 12 (aY (toB (cF io (ag (bq "Facts" "greatest_start" jQ (vSh 0) .(aI)) (ag (slF (b1 jG (cF ix (ag (vSh 12) ak))) pN (pS .(h))) ak)))))) .(z) aV) (aw (bE (itF (b2 aN (b2 ixD (vSh 1) .(e)) (aK (szF (ag (bm (szF (ag (vC (.str "none")) (ag (aK (szF ak)) ak)))) ak))))) (bG 2 (aM (ay 13) (aM (ay 15) bH))) (aw (aL 14 (b2 lK (cF ip (ag (vSh 8) ak)) (vSh 13))) (aw (dQ 16 Xb) (aw (sIf (toB (b2 e6 (vSh 5) (vC .non))) (fM 16 (b2 ixD (vSh 5) .(h))) aV) X0)))) (aC (b2 eqA (bq "Facts" "open_to" w8 (vSh 0) .(aI)) (aK (aR (itF (vSh 8)) Xi tT (vSh 0) [af,af])))))))))))))
def uw:FQ:=aT 0
  (aC (b1 tW (bq "Facts" "open_lengths" sH (vSh 0) .(H))))
abbrev X8:=aw (aL 11 (bwF 6 (b2 aN (vSh 11) (aK (szF (ag (bq "Facts" "least_start" jL (vSh 6) (ag .(m) ak)) (ag (bq "Facts" "greatest_start" jQ (vSh 6) (ag .(m) ak)) ak))))))) (aw (sIf (toB (b2 neA (aK (aR (itF (vSh 11)) (ay 0) (fK (toB (b2 e6 (vSh 0) (vC .non))) (aY (toB (cF g8 (ag (vSh 0) .(ac)))))) (vSh 0) [af])) (aK (szF ak)))) .(z) aV) (sIf (toB (b2 eqD (cF bz (ag (vSh 3) (ag (vC (.int 47)) (ag .(L) ak)))) .(h))) (aw (gf "Facts" "put_note" 6 oQ (ag .(m) ak)) (eR 8 .(m) (b2 bN (vSh 5) .(m)))) aV))
abbrev X2:=aw (aL 3 (cF e9 (ag (vSh 0) (ag (b2 aN .(C) (vSh 9)) ak)))) (aw (aL 11 (bwF 6 (aK (szF (ag (bq "Facts" "least_start" jL (vSh 6) (ag .(m) ak)) (ag (bq "Facts" "greatest_start" jQ (vSh 6) (ag .(m) ak)) ak)))))) (aw (nF "Facts" 7 6 oV .(m) (ag (vSh 2) (ag (vSh 3) (ag .(m) (ag (b2 ixD (vSh 10) .(J)) ak))))) X8))
abbrev X7:=aw (sIf (gc 6 (aY (toB (cF g8 (ag (bq "Facts" "first_of" nk (vSh 6) (ag .(m) ak)) (ag (vSh 12) ak)))))) .(z) aV) (aw (sIf (gc 6 (aY (toB (cF g8 (ag (bq "Facts" "last_of" nh (vSh 6) (ag .(m) ak)) (ag (vSh 13) ak)))))) .(z) aV) (aw (aL 16 (aK (aR (itF (vSh 14)) Xi tT (vSh 1) [af,af]))) (aw (sIf (gc 6 (aY (toB (cF io (ag (bq "Facts" "least_of" mi (vSh 6) (ag .(m) ak)) (ag (slF (cF ix (ag (vSh 16) ak)) pN (pS .(h))) ak)))))) .(z) aV) (sIf (gc 6 (aY (toB (cF io (ag (bq "Facts" "greatest_of" uw (vSh 6) (ag .(m) ak)) (ag (slF (b1 jG (cF ix (ag (vSh 16) ak))) pN (pS .(h))) ak)))))) .(z) aV))))
abbrev X5:=aw (lJ (bG 3 (aM (ay 12) (aM (ay 13) (aM (ay 14) bH)))) (m8 7 .(m))) (aw (aL 15 (ny 8 .(m))) (aw (sIf (oa 7 (gc 6 (aY (toB (cF pZ (ag (vSh 6) (ag (vSh 2) (ag (vSh 4) (ag .(m) (ag (b2 bN (vSh 7) .(m)) (ag (vSh 15) ak))))))))))) .(z) aV) X7))
abbrev vH:FS:=
  (aw (aL 1 (cF tQ .(ac))) (aw (aL 2 (cF sD (ag (vSh 0) (ag (vC (.int 40)) .(H))))) (aw (aL 3 (cF e9 (ag (vSh 0) (ag .(e) ak)))) (aw (aL 4 (b2 cN (vSh 1) (cF bz (ag (vSh 3) (ag (vC (.int 84)) (ag (b2 aN (b2 iO (vSh 1) .(L)) .(h)) ak)))))) (aw (aL 5 (cF tO (ag (vSh 0) .(T)))) (aw (oO "Facts" 6 sg [.int 0,.int 0] (ag (cF xB .(T)) (ag (vSh 4) (ag (vC .non) (ag (vSh 5) ak))))) (aw (sj 7) (aw (sj 8) (aw (bE (itE (b2 ixD (vSh 2) .(h))) (bG 2 (aM (ay 9) (aM (ay 10) bH))) X2) (aw (bE (itF (b2 ixD (vSh 2) .(h))) (ay 10) X5) (aC (vC (.bl aj)))))))))))))
def tM:FQ:=aT 16 vH
end Law
set_option maxHeartbeats 4000000
variable {C_Facts C_Grounds C_Shop:au} {r ρ':bo} {sn:ac ai} {br:ac (ah×ah)} {S x2 x4 x5 x6:aq Slot} {R:Fl×bo->Prop} {cs:ac ah} {lm:ah} {kp:ac (Key×D)}
namespace Law
theorem Pg {us:ac α} {its:ac β} {P:ac α->ac β->Prop} (k:∀a b c d e f g h i,P [a,b,c,d,e] [f,g,h,i]) (h1:us.length+(4-2)=7) (h2:its.length=4):P us its:=match us,its,h1,h2 with|[_,_,_,_,_],[_,_,_,_],_,_=>k ..
theorem Rn:FS1 ["_law_script","_law_k"] 2 (aG (top 58)):=bd
theorem Lg:FS1 ["_law_cell","_law_k","_law_many","_law_left","_law_j","_law_number"] 3 (aG (top 59)):=bd
theorem Lh:FS1 ["_law_script","_law_cell"] 1 (aG (top 69)):=bd
theorem Il:FS1 ["_law_cell","_law_k","_law_most"] 3 (aG (top 61)):=bd
theorem Ni:FS1 ["_law_cell","_law_k","_law_horizon_here","_law_breaks_here","_law_at_here","_law_j","_law_begin","_law_end"] 3 (aG (top 62)):=bd
theorem zD:FS1 ["_law_cell","_law_many","_law_letters","_law_stem","_law_at_here","_law_found","_law_k"] 2 (aG (top 60)):=bd
theorem Kf:FS1 ["_law_cell","_law_name","_law_benches","_law_horizon_here","_law_kind","_law_at_here","_law_some_here","_law_ways","_law_k","_law_bench","_law_most"] 4 (aG (top 63)):=bd
theorem Cm:FS1 ["_law_cell","_law_k","_law_steps","_law_found","_law_j","_law_one","_law_other"] 3 (aG (top 65)):=bd
theorem xx:FS1 ["_law_cell","_law_benches","_law_horizon_here","_law_kinds","_law_found","_law_j","_law_key"] 3 (aG (top 66)):=bd
theorem QZ:FS1 ["_law_cell","_law_steps","_law_stocks_here","_law_j","_law_room","_law_takes","_law_puts"] 2 (aG (top 67)):=bd
theorem R6:FS1 ["_law_cell","_law_cells","_law_steps","_law_horizon_here","_law_jobs_here","_law_k","_law_some_here","_law_early","_law_due"] 4 (aG (top 64)):=bd
theorem CB:FS1 ["_law_script","_law_most","_law_horizon_here","_law_cell","_law_cells","_law_many","_law_benches","_law_k","_law_names_here","_law_steps","_law_links","_law_setups_here","_law_stocks_here"] 3 (aG (top 68)):=bd
theorem CQ:FS1 ["_law_script","_law_lists_here","_law_found","_law_k","_law_row","_law_cell","_law_edges","_law_bench","_law_breaks_here","_law_begin","_law_end"] 2 (aG (top 81)):=bd
theorem LC:FS1 ["self"] 1 (aG (bI (top 56) 9)):=bd
theorem BS:FS1 ["thing"] 1 (aG (top 55)):=bd
theorem HQ:FS1 ["self","step"] 2 (aG (bI (top 56) 10)):=bd
theorem Iv:FS1 ["self","step"] 2 (aG (bI (top 56) 12)):=bd
theorem M':FS1 ["self"] 1 (aG (bI (top 56) 7)):=bd
theorem QS:FS1 ["self"] 1 (aG (bI (top 56) 1)):=bd
theorem Ik:FS1 ["self"] 1 (aG (bI (top 56) 3)):=bd
theorem Qz:FS1 ["things","pairs","place","one"] 1 (aG (top 2)):=bd
theorem JH:FS1 ["self"] 1 (aG (bI (top 56) 5)):=bd
theorem DK:FS1 ["shop","gaps","job","pair","one","other","gap"] 1 (aG (top 3)):=bd
theorem MA:FS1 ["shop","names","gaps","orders","one"] 1 (aG (top 4)):=bd
theorem Ag:FS1 ["self","shop","limit","kept","most","step","job","due"] 5 (aG (bI (top 6) 0)):=bd
theorem Dw:FS1 ["self","step","benches"] 3 (aG (bI (top 10) 32)):=bd
theorem B6:FS1 ["self","step","first","last"] 4 (aG (bI (top 10) 31)):=bd
theorem JR:FS1 ["self","step"] 2 (aG (bI (top 10) 5)):=bd
theorem M7:FS1 ["self","step","lengths"] 2 (aG (bI (top 10) 13)):=bd
theorem Kz:FS1 ["self","step"] 2 (aG (bI (top 10) 14)):=bd
theorem xu:FS1 ["self","shop","limit","holds","kept","most","now","step","early","start"] 7 (aG (bI (top 10) 0)):=bd
theorem Ng:FS1 ["thing"] 1 (aG (top 16)):=bd
theorem Hc:FS1 ["thing","least","most"] 3 (aG (top 19)):=bd
theorem LG:FS1 ["thing","many"] 2 (aG (top 21)):=bd
theorem Nc:FS1 ["row","horizon"] 2 (aG (top 35)):=bd
theorem Kx:FS1 ["thing","least","most"] 3 (aG (top 20)):=bd
theorem P5:FS1 ["breaks","horizon"] 2 (aG (top 36)):=bd
theorem Nb:FS1 ["thing"] 1 (aG (top 17)):=bd
theorem KW:FS1 ["row","horizon"] 2 (aG (top 37)):=bd
theorem MR:FS1 ["things"] 1 (aG (top 23)):=bd
theorem IS:FS1 ["benches","horizon"] 2 (aG (top 38)):=bd
theorem KZ:FS1 ["thing","names"] 2 (aG (top 22)):=bd
theorem N1:FS1 ["row","bench_names","horizon"] 3 (aG (top 39)):=bd
theorem LO:FS1 ["ways","bench_names","horizon"] 3 (aG (top 40)):=bd
theorem GA:FS1 ["row","bench_names","horizon"] 3 (aG (top 41)):=bd
theorem Qb:FS1 ["steps","bench_names","horizon"] 3 (aG (top 42)):=bd
theorem P6:FS1 ["row","step_names","horizon"] 3 (aG (top 43)):=bd
theorem QW:FS1 ["jobs","step_names","horizon","members","row"] 3 (aG (top 44)):=bd
theorem Qg:FS1 ["row","bench_names","horizon"] 3 (aG (top 45)):=bd
theorem R4:FS1 ["setups","bench_names","horizon"] 3 (aG (top 46)):=bd
theorem RS:FS1 ["row","step_names","horizon"] 3 (aG (top 47)):=bd
theorem Mq:FS1 ["links","step_names","horizon"] 3 (aG (top 48)):=bd
theorem Iq:FS1 ["row","step_names"] 2 (aG (top 49)):=bd
theorem M6:FS1 ["rows","step_names"] 2 (aG (top 50)):=bd
theorem Ra:FS1 ["row","step_names"] 2 (aG (top 51)):=bd
theorem Me:FS1 ["stocks","step_names"] 2 (aG (top 52)):=bd
theorem Hi:FS1 ["benches","steps","jobs","setups","links","stocks","horizon","bench_names","step_names"] 7 (aG (top 53)):=bd
theorem Ea:FS1 ["self","benches","steps","jobs","setups","links","stocks","horizon","part","row","step"] 8 (aG (bI (top 56) 0)):=bd
theorem KF:FS1 ["_law_lists_here"] 1 (aG (top 70)):=bd
theorem Iu:FS1 ["breaks","length","start","begin","end"] 3 (aG (top 9)):=bd
theorem Qj:FS1 ["self"] 1 (aG (bI (top 10) 9)):=bd
theorem J7:FS1 ["self","step"] 2 (aG (bI (top 10) 11)):=bd
theorem Rg:FS1 ["self","step","bench","start"] 4 (aG (bI (top 10) 16)):=bd
theorem Jv:FS1 ["self","step","bench","breaks","length","start"] 3 (aG (bI (top 10) 21)):=bd
theorem Q2:FS1 ["self","step","bench","start"] 4 (aG (bI (top 10) 17)):=bd
theorem KS:FS1 ["self","step","starts"] 2 (aG (bI (top 10) 23)):=bd
theorem Gf:FS1 ["breaks","length","start","begin","end"] 3 (aG (top 8)):=bd
theorem Gz:FS1 ["self","step","bench","breaks","length","start"] 3 (aG (bI (top 10) 20)):=bd
theorem Ly:FS1 ["self","step","starts"] 2 (aG (bI (top 10) 22)):=bd
theorem NX:FS1 ["self","step"] 2 (aG (bI (top 10) 4)):=bd
theorem QE:FS1 ["self","step"] 2 (aG (bI (top 10) 3)):=bd
theorem o6:FS1 ["_law_facts","_law_lists_here","_law_cell","_law_name","_law_ways","_law_edges","_law_bench","_law_breaks_here","_law_begin","_law_end","_law_first","_law_last","_law_way","_law_own"] 5 (aG (top 77)):=bd
theorem Rb:FS1 ["_law_found","_law_due"] 2 (aG (top 73)):=bd
theorem BU:FS1 ["self","step"] 2 (aG (bI (top 10) 34)):=bd
theorem IE:FS1 ["_law_lists_here","_law_step_here","_law_job_here"] 2 (aG (top 71)):=bd
theorem Ny:FS1 ["_law_lists_here","_law_limit","_law_step_here","_law_found","_law_job_here"] 3 (aG (top 72)):=bd
theorem Pq:FS1 ["_law_place","_law_bench"] 2 (aG (top 79)):=bd
theorem Ad:FS1 ["_law_breaks_here","_law_window","_law_length","_law_shut","_law_start","_law_turn","_law_begin","_law_end"] 4 (aG (top 75)):=bd
theorem Bd:FS1 ["_law_breaks_here","_law_window","_law_length","_law_shut","_law_start","_law_turn","_law_begin","_law_end"] 4 (aG (top 76)):=bd
theorem Np:FS1 ["_law_found","_law_due"] 2 (aG (top 78)):=bd
theorem JO:FS1 ["self","step","bench","start"] 4 (aG (bI (top 10) 18)):=bd
theorem K4:FS1 ["_law_breaks_here","_law_window","_law_length","_law_start","_law_shut"] 5 (aG (top 74)):=bd
theorem Ky:FS1 ["self","step"] 2 (aG (bI (top 10) 6)):=bd
theorem sr:FS1 ["_law_facts","_law_lists_here","_law_limit","_law_name","_law_put_here","_law_place","_law_first","_law_last","_law_own","_law_window","_law_breaks_of","_law_lows","_law_highs","_law_bench","_law_length","_law_breaks_here","_law_starts","_law_start","_law_found","_law_shut","_law_due"] 6 (aG (top 80)):=bd
theorem Qr:FS1 ["self","step"] 2 (aG (bI (top 10) 15)):=bd
theorem kN:FS1 ["_law_script","_law_horizon_here","_law_lists_here","_law_cell","_law_limit","_law_kept_here","_law_facts","_law_puts","_law_places","_law_k","_law_row","_law_asked","_law_first","_law_last","_law_own","_law_place","_law_lengths"] 1 (aG (top 82)):=bd
noncomputable def tkI (mg:ai->aq av) (x:ai):Tok:=match mg x with|some (.int _ t)=>t|_=>0
theorem tkI_of {h:Heap} {n:ah} {t:Tok} (X:K.In h) (G:h.Ns eX mg) (a:rN K eX x=aa (aa (.int n t))):mg x=aa (.int n (tkI mg x)):=by have q:=rO X G a;rw[q];unfold tkI;rw[q]
structure Vd (K:aW) (mg:ai->aq av) (C_Facts C_Grounds C_Shop:au):Prop where
 z_all:mg "all"=af
 z_bool:mg "bool"=af
 z_dict:mg "dict"=af
 z_enumerate:mg "enumerate"=af
 z_int:mg "int"=af
 z_isinstance:mg "isinstance"=af
 z_len:mg "len"=af
 z_list:mg "list"=af
 z_max:mg "max"=af
 z_min:mg "min"=af
 z_range:mg "range"=af
 z_reversed:mg "reversed"=af
 z_set:mg "set"=af
 z_sorted:mg "sorted"=af
 z_str:mg "str"=af
 z_tuple:mg "tuple"=af
 k_LONGEST_NAME:mg "LONGEST_NAME"=aa (.int 8 (tkI mg "LONGEST_NAME"))
 k_MOST_AMOUNT:mg "MOST_AMOUNT"=aa (.int 1000000 (tkI mg "MOST_AMOUNT"))
 k_MOST_BENCHES:mg "MOST_BENCHES"=aa (.int 8 (tkI mg "MOST_BENCHES"))
 k_MOST_BREAKS:mg "MOST_BREAKS"=aa (.int 10 (tkI mg "MOST_BREAKS"))
 k_MOST_HORIZON:mg "MOST_HORIZON"=aa (.int 1000000 (tkI mg "MOST_HORIZON"))
 k_MOST_JOBS:mg "MOST_JOBS"=aa (.int 40 (tkI mg "MOST_JOBS"))
 k_MOST_LINKS:mg "MOST_LINKS"=aa (.int 100 (tkI mg "MOST_LINKS"))
 k_MOST_SETUPS:mg "MOST_SETUPS"=aa (.int 100 (tkI mg "MOST_SETUPS"))
 k_MOST_STEPS:mg "MOST_STEPS"=aa (.int 40 (tkI mg "MOST_STEPS"))
 k_MOST_STOCKS:mg "MOST_STOCKS"=aa (.int 6 (tkI mg "MOST_STOCKS"))
 k_MOST_WAYS:mg "MOST_WAYS"=aa (.int 4 (tkI mg "MOST_WAYS"))
 d0:Dfn K mg "_law_cell_at" (top 58)
 d1:Dfn K mg "_law_draw" (top 59)
 d2:Dfn K mg "_law_horizon" (top 69)
 d3:Dfn K mg "_law_moment" (top 61)
 d4:Dfn K mg "_law_breaks" (top 62)
 d5:Dfn K mg "_law_names" (top 60)
 d6:Dfn K mg "_law_step" (top 63)
 d7:Dfn K mg "_law_pairs" (top 65)
 d8:Dfn K mg "_law_setups" (top 66)
 d9:Dfn K mg "_law_stocks" (top 67)
 d10:Dfn K mg "_law_jobs" (top 64)
 d11:Dfn K mg "_law_lists" (top 68)
 d12:Dfn K mg "_law_kept" (top 81)
 d13:DfnM K C_Shop "Shop" "step_names" "Shop.step_names" (bI (top 56) 9)
 d14:Dfn K mg "fresh" (top 55)
 d15:DfnM K C_Shop "Shop" "ways_of" "Shop.ways_of" (bI (top 56) 10)
 d16:DfnM K C_Shop "Shop" "job_of" "Shop.job_of" (bI (top 56) 12)
 d17:DfnM K C_Shop "Shop" "last_moment" "Shop.last_moment" (bI (top 56) 7)
 d18:DfnM K C_Shop "Shop" "bench_rows" "Shop.bench_rows" (bI (top 56) 1)
 d19:DfnM K C_Shop "Shop" "job_rows" "Shop.job_rows" (bI (top 56) 3)
 d20:Dfn K mg "pairs_of" (top 2)
 d21:DfnM K C_Shop "Shop" "link_rows" "Shop.link_rows" (bI (top 56) 5)
 d22:Dfn K mg "greatest_gaps" (top 3)
 d23:Dfn K mg "known_orders" (top 4)
 d24:DfnM K C_Grounds "Grounds" "__init__" "Grounds.__init__" (bI (top 6) 0)
 d25:DfnM K C_Facts "Facts" "set_open" "Facts.set_open" (bI (top 10) 32)
 d26:DfnM K C_Facts "Facts" "set_window" "Facts.set_window" (bI (top 10) 31)
 d27:DfnM K C_Facts "Facts" "end_mark" "Facts.end_mark" (bI (top 10) 5)
 d28:DfnM K C_Facts "Facts" "open_lengths" "Facts.open_lengths" (bI (top 10) 13)
 d29:DfnM K C_Facts "Facts" "least_of" "Facts.least_of" (bI (top 10) 14)
 d30:DfnMD K C_Facts "Facts" "__init__" "Facts.__init__" (bI (top 10) 0) [.non,.non,.int 0,.int 0]
 d31:Dfn K mg "is_whole" (top 16)
 d32:Dfn K mg "is_within" (top 19)
 d33:Dfn K mg "is_tuple" (top 21)
 d34:Dfn K mg "is_break" (top 35)
 d35:Dfn K mg "is_list" (top 20)
 d36:Dfn K mg "are_breaks" (top 36)
 d37:Dfn K mg "is_name" (top 17)
 d38:Dfn K mg "is_bench" (top 37)
 d39:Dfn K mg "are_unlike" (top 23)
 d40:Dfn K mg "are_benches" (top 38)
 d41:Dfn K mg "is_one_of" (top 22)
 d42:Dfn K mg "is_way" (top 39)
 d43:Dfn K mg "are_ways" (top 40)
 d44:Dfn K mg "is_step" (top 41)
 d45:Dfn K mg "are_steps" (top 42)
 d46:Dfn K mg "is_job" (top 43)
 d47:Dfn K mg "are_jobs" (top 44)
 d48:Dfn K mg "is_setup" (top 45)
 d49:Dfn K mg "are_setups" (top 46)
 d50:Dfn K mg "is_link" (top 47)
 d51:Dfn K mg "are_links" (top 48)
 d52:Dfn K mg "is_amount" (top 49)
 d53:Dfn K mg "are_amounts" (top 50)
 d54:Dfn K mg "is_stock" (top 51)
 d55:Dfn K mg "are_stocks" (top 52)
 d56:Dfn K mg "first_bad_part" (top 53)
 d57:DfnM K C_Shop "Shop" "__init__" "Shop.__init__" (bI (top 56) 0)
 d58:Dfn K mg "_law_shop" (top 70)
 d59:Dfn K mg "start_ahead" (top 9)
 d60:DfnM K C_Facts "Facts" "has_kept" "Facts.has_kept" (bI (top 10) 9)
 d61:DfnM K C_Facts "Facts" "kept_place" "Facts.kept_place" (bI (top 10) 11)
 d62:DfnM K C_Facts "Facts" "is_barred" "Facts.is_barred" (bI (top 10) 16)
 d63:DfnM K C_Facts "Facts" "greatest_on" "Facts.greatest_on" (bI (top 10) 21)
 d64:DfnM K C_Facts "Facts" "is_in_window" "Facts.is_in_window" (bI (top 10) 17)
 d65:DfnM K C_Facts "Facts" "greatest_start" "Facts.greatest_start" (bI (top 10) 23)
 d66:Dfn K mg "start_behind" (top 8)
 d67:DfnM K C_Facts "Facts" "least_on" "Facts.least_on" (bI (top 10) 20)
 d68:DfnM K C_Facts "Facts" "least_start" "Facts.least_start" (bI (top 10) 22)
 d69:DfnM K C_Facts "Facts" "last_of" "Facts.last_of" (bI (top 10) 4)
 d70:DfnM K C_Facts "Facts" "first_of" "Facts.first_of" (bI (top 10) 3)
 d71:Dfn K mg "_law_put" (top 77)
 d72:Dfn K mg "_law_whole" (top 73)
 d73:DfnM K C_Facts "Facts" "put_note" "Facts.put_note" (bI (top 10) 34)
 d74:Dfn K mg "_law_job" (top 71)
 d75:Dfn K mg "_law_mark" (top 72)
 d76:Dfn K mg "_law_at" (top 79)
 d77:Dfn K mg "_law_least" (top 75)
 d78:Dfn K mg "_law_greatest" (top 76)
 d79:Dfn K mg "_law_some" (top 78)
 d80:DfnM K C_Facts "Facts" "can_start" "Facts.can_start" (bI (top 10) 18)
 d81:Dfn K mg "_law_can" (top 74)
 d82:DfnM K C_Facts "Facts" "open_to" "Facts.open_to" (bI (top 10) 6)
 d83:Dfn K mg "_law_right" (top 80)
 d84:DfnM K C_Facts "Facts" "greatest_of" "Facts.greatest_of" (bI (top 10) 15)
structure Vw (K:aW) (mg:ai->aq av) (C_Facts C_Grounds C_Shop:au):Prop extends Vd K mg C_Facts C_Grounds C_Shop where
 O_Facts:ClsOk .(a) K mg "Facts" C_Facts
 cf_Facts:CF .(a) K "Facts" cu
 O_Grounds:ClsOk .(a) K mg "Grounds" C_Grounds
 cf_Grounds:CF .(a) K "Grounds" wK
 O_Shop:ClsOk .(a) K mg "Shop" C_Shop
 cf_Shop:CF .(a) K "Shop" B5
section
variable (V:Vw K mg C_Facts C_Grounds C_Shop)
include V
set_option hygiene false
local macro_rules | `(tactic| ac_rfl)=>`(tactic| first
 |exact cj _
 |exact nT
 |(refine rY (by assumption) hr .(f) rfl ?_ (by first|exact ln3|exact ln2|exact ln1|exact ln4|exact ln5|exact ln6|exact ln7);(and_intros))
 |(refine Q1 ?_ ?_;(ac_rfl);(ac_rfl))
 |(refine xj ?_ ?_;(ac_rfl);(ac_rfl))
 |(refine DO.de (CZ ?_);(and_intros))
 |exact Cy
 |(refine MU ?_;(and_intros))
 |(refine dL Mw rfl V.z_len NF ?_;(and_intros))
 |(refine Mg (by first|assumption|exact V.cf_Facts|exact V.cf_Grounds|exact V.cf_Shop) .(P) ?_;(ac_rfl))
 |(refine Qw (cq hr) ?_ ?_;(ac_rfl);(ac_rfl))
 |(refine Jj (by assumption) hr .(f) ?_ ?_ (by first|exact ln3|exact ln2|exact ln1|exact ln4|exact ln5|exact ln6|exact ln7);(ac_rfl);(and_intros))
 |(refine uf ?_ ?_;(ac_rfl);(ac_rfl))
 |(refine Mj ?_ ?_;(ac_rfl);(ac_rfl))
 |(refine pp (by first|exact ue|exact B4|exact tJ (lX hr)|exact xw (lX hr)|exact Br|exact Dt|exact zW|exact m9|exact CK|exact xr|exact zN (cq hr)|exact Er (cq hr)) ?_ ?_ (by first|exact ni _|rfl);(ac_rfl);(ac_rfl))
 |(refine BY ?_ ?_;(ac_rfl);(ac_rfl))
 |(refine En ?_;(ac_rfl))
 |exact vz
 |exact Ax
 |(refine o7 ?_ ?_ ?_;(ac_rfl);(first|exact nG|(refine nc ?_;ac_rfl));(first|exact nG|(refine nc ?_;ac_rfl)))
 |(refine dL (gG rfl) rfl V.z_all gI ?_;(and_intros))
 |(refine dL Ri rfl V.z_isinstance OA ?_;(and_intros))
 |(refine dL (HG rfl) rfl V.z_min A8 ?_;(and_intros))
 |(refine dL (Kq rfl) rfl V.z_max LB ?_;(and_intros))
 |(refine LN ?_ ?_;(ac_rfl);(ac_rfl))
 |exact Rc rfl (by first|exact V.k_LONGEST_NAME|exact V.k_MOST_AMOUNT|exact V.k_MOST_BENCHES|exact V.k_MOST_BREAKS|exact V.k_MOST_HORIZON|exact V.k_MOST_JOBS|exact V.k_MOST_LINKS|exact V.k_MOST_SETUPS|exact V.k_MOST_STEPS|exact V.k_MOST_STOCKS|exact V.k_MOST_WAYS)
 |exact lW rfl V.z_bool LW
 |exact lW rfl V.z_int xp
 |exact lW rfl V.z_list x9
 |exact lW rfl V.z_tuple zU
 |exact lW rfl V.z_str L'
 |exact lW rfl V.z_dict ja
 |exact lW rfl V.z_set Jc
 |(refine NA (by assumption) hr .(f) ?_;(ac_rfl))
 |(refine Gi ?_ ?_;(ac_rfl);(ac_rfl))
 |(refine OX ?_ ?_;(ac_rfl);(ac_rfl))
 |(refine NU ?_ ?_;(ac_rfl);(ac_rfl))
 |(refine xL ?_;(ac_rfl))
 |(refine JN ?_;(ac_rfl))
 |(refine wH ?_ ?_ ?_;(exfalso);(ac_rfl);(ac_rfl))
 |(refine HV m9 m9 ?_ ?_ ?_;(ac_rfl);(ac_rfl);(ac_rfl)))
local macro_rules | `(tactic| split)=>`(tactic| first
 |(intro nd f cdv A outer s H E hr;infer_instance))
local macro_rules | `(tactic| and_intros)=>`(tactic| first
 |exact cB
 |(refine ci ?_ ?_;(ac_rfl);(and_intros)))
local macro_rules | `(tactic| exfalso)=>`(tactic| first
 |(refine t9 (by first|exact ue|exact B4|exact tJ (lX hr)|exact xw (lX hr)|exact Br|exact Dt|exact zW|exact m9|exact CK|exact xr|exact zN (cq hr)|exact Er (cq hr)) ?_ ?_ (by first|exact ni _|rfl);(ac_rfl);(ac_rfl))
 |(refine gb ?_;(exfalso))
 |(refine DW.dt ?_;(symm))
 |(refine Rv m9 m9 ?_ ?_ ?_;(ac_rfl);(ac_rfl);(ac_rfl))
 |(refine gm ?_;(ac_rfl)))
local macro_rules | `(tactic| symm)=>`(tactic| first
 |(refine iR ?_;(exfalso))
 |(refine iT ?_ ?_;(exfalso);(symm))
 |(refine zH ?_;(exfalso))
 |(refine D9 ?_ ?_;(exfalso);(symm)))
local macro_rules | `(tactic| infer_instance)=>`(tactic| first
 |(refine sP _ ?_;(infer_instance))
 |(refine bB ?_;(nofun))
 |(refine aE ?_ ?_;(nofun);(infer_instance))
 |exact c7)
local macro_rules | `(tactic| nofun)=>`(tactic| first
 |(refine cQ ?_;(ac_rfl))
 |(refine fZ _ nd ?_;(ac_rfl))
 |(refine cS ?_ ?_ ?_;(exfalso);(infer_instance);(infer_instance))
 |(refine dy dJ rfl ?_ ?_ ?_;(left);(right);(infer_instance))
 |(refine Hb _ ?_;(ac_rfl))
 |(refine Ej _ nd (CZ ?_);(and_intros)))
local macro_rules | `(tactic| left)=>`(tactic| first
 |(refine m6 ?_;(ac_rfl))
 |(refine Hs rfl V.z_range ?_;(and_intros))
 |(refine Lq rfl V.z_enumerate ?_;(ac_rfl)))
local macro_rules | `(tactic| right)=>`(tactic| first
 |exact lZ _ nd
 |exact DN rfl (oZ (lZ _ nd) (oZ (lZ _ nd) Bm))
 |exact DN rfl (oZ (lZ _ nd) (oZ (lZ _ nd) (oZ (lZ _ nd) Bm))))
theorem tp:.(g) "_law_cell_at" 2 1 e9:=
 V.d0.cl Rn (by split)
theorem gK:.(g) "_law_draw" 3 1 bz:=
 V.d1.cl Lg (by split)
theorem M5:.(g) "_law_horizon" 1 2 tQ:=
 V.d2.cl Lh (have:=tp V;have:=gK V;by split)
theorem vI:.(g) "_law_moment" 3 2 kC:=
 V.d3.cl Il (have:=gK V;by split)
theorem Qs:.(g) "_law_breaks" 3 3 uH:=
 V.d4.cl Ni (have:=gK V;have:=vI V;by split)
theorem K6:.(g) "_law_names" 2 2 uz:=
 V.d5.cl zD fun nd f cdv A outer s H E hr=>
  have:=gK V;(aE .(U) (aE (fZ 3 zD.nd (Os PySem.F.plainAttrs_str PySem.F.slot_str_join PySem.F.type_str_join K7 Cy (ci (DO.de (lcN ["_law_k","_law_letters","_law_cell"] (by left))) cB))) .(u)))
theorem MG:.(g) "_law_step" 4 3 ur:=
 V.d6.cl Kf (have:=gK V;have:=vI V;by split)
theorem Hj:.(g) "_law_pairs" 3 2 sF:=
 V.d7.cl Cm fun nd f cdv A outer s H E hr=>
  have:=gK V;(aE (xJ 3 Cm.nd) (aE (dy dJ rfl (by left) (by right) (aE .(U) (aE .(U) (bB (cS (Rz 3 (DW.dt (D9 (by exfalso) (zH (t9 (Rh (cq hr)) .(O) (cj 3) (by rfl)))))) (bB (nX 3 (cq hr) .(O) .(O))) c7))))) (sE 3 .(u))))
theorem G0:.(g) "_law_setups" 3 2 uE:=
 V.d8.cl xx fun nd f cdv A outer s H E hr=>
  have:=gK V;(aE .(U) (aE (xJ 4 xx.nd) (aE (dy dJ rfl (by left) (by right) (aE .(U) (aE (fZ 6 xx.nd (wI (cj 6) .(O))) (bB (nX 4 (cq hr) (cj 6) .(O)))))) (sE 4 (bB (cQ (zw 4 (DO.de (lcN ["_law_key","_law_found"] (BC (cj 4)) fun nd=>⟨fun _ _ _ _ _=>⟨(by right),nq,(wI (cj 0) .(O))⟩⟩)))))))))
theorem HN:.(g) "_law_stocks" 2 2 tm:=
 V.d9.cl QZ fun nd f cdv A outer s H E hr=>
  have:=gK V;(aE .(U) (aE (dy dJ rfl (by left) (by right) (aE .(U) (aE (iM 5 nd ["_law_k","_law_step_here","_law_cell","_law_j"] (by left)) (aE (iM 6 nd ["_law_k","_law_step_here","_law_cell","_law_j"] (by left)) .(u))))) .(u)))
theorem O9:.(g) "_law_jobs" 4 3 pi:=
 V.d10.cl R6 fun nd f cdv A outer s H E hr=>
  have:=gK V;have:=vI V;(aE .(U) (aE (dy dJ rfl (by left) (by right) (aE (iM 6 nd ["_law_j","_law_steps","_law_k","_law_cells"] (by left)) .(u))) .(u)))
theorem MN:.(g) "_law_lists" 3 4 sD:=
 V.d11.cl CB fun nd f cdv A outer s H E hr=>
  have:=Qs V;have:=tp V;have:=gK V;have:=O9 V;have:=K6 V;have:=Hj V;have:=G0 V;have:=MG V;have:=HN V;(aE .(U) (aE .(U) (aE .(U) (aE .(U) (aE .(U) (aE .(U) (sP 6 (aE (iM 9 nd ["_law_k","_law_benches","_law_horizon_here","_law_cells","_law_names_here"] (by left)) (aE .(U) (aE .(U) (aE (fZ 10 CB.nd (zw 10 (DO.de (lcN ["_law_pair","_law_horizon_here","_law_links"] (BC (cj 10)) fun nd=>⟨fun _ _ _ _ _=>⟨(by right),nq,(wI (cj 0) .(O))⟩⟩)))) .(u))))))))))))
theorem Jg:.(g) "_law_kept" 2 2 tO:=
 V.d12.cl CQ fun nd f cdv A outer s H E hr=>
  have:=tp V;have:=gK V;(aE (yf 2 CQ.nd) (aE (dy dJ rfl (by left) (by right) (aE .(U) (aE .(U) (aE .(U) (aE .(U) (bB (nX 2 (cq hr) .(O) .(O)))))))) (sE 2 .(u))))
theorem wE:.(bf) "step_names" 1 1 oX:=
 DfnM.cl V.O_Shop V.d13 LC fun nd f cdv A outer s H E hr=>
  (bB (cQ (DO.de (lcN ["row"] (by left)))))
theorem KU {k:ao} {eK:FQ} (jB:Cal .(a) P w K mg base "fresh" 1 k eK):Cal .(a) P w K mg base "fresh" 1 (k+1) (iV eK):=
 V.d14.cal (k:=k) BS .(bo) fun f cdv A outer s H E hr=>
  have nd:=BS.nd;(aE (cS (by exfalso) (bB (cQ (DO.de (lcN ["part"] (by left) fun nd=>⟨fun _ _ _ _ _=>⟨(by right),nq,(rY jB hr (qv _) rfl .(ah) ln1)⟩⟩)))) c7) (aE (cS (by exfalso) (bB (cQ (gq QV rfl V.z_tuple zU (ci (DO.de (lcN ["part"] (by left) fun nd=>⟨fun _ _ _ _ _=>⟨(by right),nq,(rY jB hr (qv _) rfl .(ah) ln1)⟩⟩)) cB)))) c7) .(u)))
theorem jB:.(g) "fresh" 1 8 eK:=by
 have h:∀n,Cal .(a) P w K mg base "fresh" 1 n (iU n):=fun n=>by
  induction n with
  |zero=>exact Dfn.none (ps:=["thing"]) V.d14 .(bo)
  |succ n ih=>exact KU V ih
 exact h 8
theorem IN:.(bf) "ways_of" 2 9 wY:=
 DfnM.cl V.O_Shop V.d15 HQ (have:=jB V;by split)
theorem Nq:.(bf) "job_of" 2 9 v6:=
 DfnM.cl V.O_Shop V.d16 Iv fun nd f cdv A outer s H E hr=>
  (bB (cQ (dC (jB V) hr (ci (vG (cq hr) .(O) (cj 1)) cB) ln1)))
theorem HF:.(bf) "last_moment" 1 1 pf:=
 DfnM.cl V.O_Shop V.d17 M' (by split)
theorem RB:.(bf) "bench_rows" 1 9 wX:=
 DfnM.cl V.O_Shop V.d18 QS (have:=jB V;by split)
theorem QD:.(bf) "job_rows" 1 9 uv:=
 DfnM.cl V.O_Shop V.d19 Ik (have:=jB V;by split)
theorem PZ:.(g) "pairs_of" 1 1 nR:=
 V.d20.cl Qz fun nd f cdv A outer s H E hr=>
  (aE .(U) (aE (dy dJ rfl (by left) (by right) (bB (pc 1 (DO.de (lcN ["other","one"] (by left)))))) .(u)))
theorem Mu:.(bf) "link_rows" 1 9 sR:=
 DfnM.cl V.O_Shop V.d21 JH (have:=jB V;by split)
theorem Kw:.(g) "greatest_gaps" 1 10 yi:=
 V.d22.cl DK fun nd f cdv A outer s H E hr=>
  have:=QD V;have:=Mu V;have:=PZ V;(aE (xJ 1 DK.nd) (aE (dy dJ rfl (by left) (by right) (bB (cS (by exfalso) (bB (dy dJ rfl (by left) (by right) (bB (nX 1 (cq hr) (cj 3) nT)))) c7))) (aE (dy dJ rfl (by left) (by right) (bB (nX 1 (cq hr) .(O) (cj 6)))) (sE 1 .(u)))))
theorem KA:.(g) "known_orders" 1 11 wA:=
 V.d23.cl MA fun nd f cdv A outer s H E hr=>
  have:=wE V;have:=Kw V;(aE .(U) (aE .(U) (aE .(U) (aE (dy dJ rfl (by left) (by right) (bB (pc 3 (DO.de (lcN ["other","one","gaps"] (by left) fun nd=>⟨fun _ _ _ _ _=>⟨(by right),(se (t9 (BK (cq hr)) .(O) (cj 2) (by rfl))),.(O)⟩⟩))))) .(u)))))
theorem L6:CalIU .(a) P w K mg base "Grounds" 4 12 [] pO:=
 DfnM.calIU (k:=11) V.O_Grounds V.d24 Ag .(bo) fun f y cdv A outer s H E hr=>
  have nd:=Ag.nd;have:=((RB V).re y);have:=((Nq V).re y);have:=((HF V).re y);have:=((wE V).re y);have:=((IN V).re y);have:=((KA V).re y);(aE (nN 0 .(aY) (.head _) (cj 1)) (aE (nN 0 .(aY) (.tail _ (.head _)) (wH (by exfalso) vz (gq (IU rfl) rfl V.z_dict ja .(ah)))) (aE (nN 0 .(aY) (.tail _ (.tail _ (.head _))) (cj 4)) (aE (kc 0 .(aY) .(i)) (aE (kc 0 .(aY) (.tail _ .(i))) (aE (kc 0 .(aY) .(ag)) (aE (kc 0 .(aY) (.tail _ .(ag))) (aE (dy dJ rfl (by left) (by right) (aE (kM 0 (cq hr) .(aY) .(i) (cj 5) (gq (nV rfl (cq hr)) rfl V.z_dict ja .(ah))) (aE .(U) (aE (kM 0 (cq hr) .(aY) (.tail _ .(i)) (cj 5) .(O)) (aE (kM 0 (cq hr) .(aY) .(ag) (cj 5) .(O)) (aE .(U) (bB (kM 0 (cq hr) .(aY) (.tail _ .(ag)) (cj 5) (dL (OJ rfl) rfl V.z_min A8 .(ah)))))))))) (aE (nN 0 .(aY) (.tail _ (.tail _ .(ag))) (gq (nV rfl (cq hr)) rfl V.z_dict ja .(ah))) (bB (nN 0 .(aY) (.tail _ (.tail _ (.tail _ .(ag)))) (gq (CT rfl (cq hr)) rfl V.z_dict ja (ci (DO.de (lcN ["one","other","gap"] (by left))) cB)))))))))))))
theorem vM:CalMU .(a) P w K mg base "Facts" "set_open" 2 1 ku:=
 DfnM.calU (k:=0) V.O_Facts V.d25 Dw .(bo) fun f y cdv A outer s H E hr=>
  have nd:=Dw.nd;have:=V.cf_Facts.re y;have:=V.cf_Grounds.re y;(bB (kM 0 (cq hr) (V.cf_Facts.re y) (.tail _ (.head _)) (cj 1) (oe 0 (DO.de (JJ rfl (CompScope.of rfl rfl) (FvOk.of (N':=["bench","benches"]) (fv:=[af,aa 2]) rfl) .(O) ⟨fun _ _ _ _ _=>⟨(lZ 0 (show(["bench","benches"]:ac ai).Nodup by decide +kernel)),(se (by exfalso)),(cj 0)⟩⟩)))))
theorem wd:CalMU .(a) P w K mg base "Facts" "set_window" 3 1 nL:=
 DfnM.calU (k:=0) V.O_Facts V.d26 B6 .(bo) fun f y cdv A outer s H E hr=>
  have nd:=B6.nd;(aE (kM 0 (cq hr) (V.cf_Facts.re y) (.tail _ (.tail _ (.head _))) (cj 1) (cj 2)) (bB (kM 0 (cq hr) (V.cf_Facts.re y) .(i) (cj 1) (cj 3))))
theorem yh:.(E) "end_mark" 2 1 p5:=
 DfnM.cl V.O_Facts V.d27 JR (by split)
theorem Do:.(E) "open_lengths" 2 1 sH:=
 DfnM.cl V.O_Facts V.d28 M7 fun nd f cdv A outer s H E hr=>
  (aE .(U) (bB (cQ (DO.de (lcN ["bench","lengths"] (by left))))))
theorem zP:.(E) "least_of" 2 2 mi:=
 DfnM.cl V.O_Facts V.d29 Kz fun nd f cdv A outer s H E hr=>
  have:=Do V;(bB (cQ (D4 rfl rfl V.z_min .(O))))
theorem Q8:CalIU .(a) P w K mg base "Facts" 6 14 [.int 0,.int 0] sg:=
 DfnMD.calIUd (k:=13) 2 V.O_Facts V.d30 (fun _=>by repeat constructor) xu (fun _ _ _ _ _ _ _ us its h1 h2=>by apply Pg _ h1 h2;exact fun _ _ _ _ _ _ _ _ _=>⟨_,rfl,rfl⟩) fun f y cdv A outer s H E hr=>
  have nd:=xu.nd;have:=((yh V).re y);have:=((zP V).re y);have:=((wE V).re y);have:=V.cf_Facts.re y;have:=V.cf_Grounds.re y;(aE (nN 0 (V.cf_Facts.re y) (.head _) (N6 ((L6 V).re y) hr .(f) rfl .(ah) ln4 rfl)) (aE (kc 0 (V.cf_Facts.re y) (.tail _ (.head _))) (aE (kc 0 (V.cf_Facts.re y) (.tail _ (.tail _ (.head _)))) (aE (kc 0 (V.cf_Facts.re y) .(i)) (aE (Ls 0 (V.cf_Facts.re y) (.tail _ .(i))) (aE (kc 0 (V.cf_Facts.re y) .(ag)) (bB (dy dJ rfl (by left) (by right) (aE (fZ 8 xu.nd (oe 0 .(O))) (bB (cS (by exfalso) (aE .(U) (aE (mq 0 ((vM V).re y) hr .(f) .(ah) ln2) (bB (mq 0 ((wd V).re y) hr .(f) .(ah) ln3)))) (aE (mq 0 ((vM V).re y) hr .(f) (v7 0 (ci (cj 7) (ci (gq (Kh rfl) rfl V.z_list x9 .(ah)) cB))) (Ee ln2)) (bB (mq 0 ((wd V).re y) hr .(f) (v7 0 .(ah)) (Ee ln3)))))))))))))))
theorem Hr:.(g) "is_whole" 1 1 um:=
 V.d31.cl Ng (by split)
theorem kz:.(g) "is_within" 3 2 fX:=
 V.d32.cl Hc (have:=Hr V;by split)
theorem jy:.(g) "is_tuple" 2 1 fJ:=
 V.d33.cl LG (by split)
theorem Lm:.(g) "is_break" 2 3 sO:=
 V.d34.cl Nc (have:=jy V;have:=kz V;by split)
theorem iQ:.(g) "is_list" 3 1 gx:=
 V.d35.cl Kx (by split)
theorem Gq:.(g) "are_breaks" 2 4 xn:=
 V.d36.cl P5 fun nd f cdv A outer s H E hr=>
  have:=Lm V;have:=iQ V;(aE (cS (DW.dt (iT (by exfalso) (iR (gb (gm (dL (gG rfl) rfl V.z_all gI (ci (DO.de (lcN ["row","horizon"] (by left))) cB))))))) .(u) c7) (bB (cQ (dL (gG rfl) rfl V.z_all gI (ci (DO.de (lcN ["place","breaks"] (HC rfl V.z_range .(ah)))) cB)))))
theorem nA:.(g) "is_name" 1 1 iL:=
 V.d37.cl Nb fun nd f cdv A outer s H E hr=>
  (aE .(U) (bB (cQ (dL (gG rfl) rfl V.z_all gI (ci (DO.de (lcN ["sign"] (GN (cj 0)))) cB)))))
theorem Pw:.(g) "is_bench" 2 5 sJ:=
 V.d38.cl KW (have:=Gq V;have:=nA V;have:=jy V;by split)
theorem jw:.(g) "are_unlike" 1 1 e7:=
 V.d39.cl MR fun nd f cdv A outer s H E hr=>
  (bB (cQ (pp ue (ID rfl (cq hr) rfl V.z_len rfl V.z_set (cj 0)) .(O) (ni _))))
theorem OQ:.(g) "are_benches" 2 6 wv:=
 V.d40.cl IS fun nd f cdv A outer s H E hr=>
  have:=Pw V;have:=iQ V;(aE (cS (DW.dt (iT (by exfalso) (iR (gb (gm (dL (gG rfl) rfl V.z_all gI (ci (DO.de (lcN ["row","horizon"] (by left))) cB))))))) .(u) c7) (bB (cQ .(az))))
theorem pY:.(g) "is_one_of" 2 2 jE:=
 V.d41.cl KZ (have:=nA V;by split)
theorem R':.(g) "is_way" 3 3 sv:=
 V.d42.cl N1 (have:=pY V;have:=jy V;have:=kz V;by split)
theorem RJ:.(g) "are_ways" 3 4 x8:=
 V.d43.cl LO fun nd f cdv A outer s H E hr=>
  have:=iQ V;have:=R' V;(aE (cS (DW.dt (iT (by exfalso) (iR (gb (gm (dL (gG rfl) rfl V.z_all gI (ci (DO.de (lcN ["row","bench_names","horizon"] (by left))) cB))))))) .(u) c7) (bB (cQ .(az))))
theorem Jq:.(g) "is_step" 3 5 uh:=
 V.d44.cl GA (have:=RJ V;have:=nA V;have:=jy V;by split)
theorem RE:.(g) "are_steps" 3 6 wS:=
 V.d45.cl Qb fun nd f cdv A outer s H E hr=>
  have:=iQ V;have:=Jq V;(aE (cS (DW.dt (iT (by exfalso) (iR (gb (gm (dL (gG rfl) rfl V.z_all gI (ci (DO.de (lcN ["row","bench_names","horizon"] (by left))) cB))))))) .(u) c7) (bB (cQ .(az))))
theorem Rl:.(g) "is_job" 3 3 vO:=
 V.d46.cl P6 fun nd f cdv A outer s H E hr=>
  have:=iQ V;have:=nA V;have:=pY V;have:=jy V;have:=kz V;(aE .(U) (aE .(U) (bB (cQ (uf .(O) (En (dL (gG rfl) rfl V.z_all gI (ci (DO.de (lcN ["name","step_names"] (by left))) cB))))))))
theorem RM:.(g) "are_jobs" 3 4 ya:=
 V.d47.cl QW fun nd f cdv A outer s H E hr=>
  have:=jw V;have:=Rl V;have:=iQ V;(aE (cS (DW.dt (iT (by exfalso) (iR (gb (gm (dL (gG rfl) rfl V.z_all gI (ci (DO.de (lcN ["row","step_names","horizon"] (by left))) cB))))))) .(u) c7) (aE .(U) (aE (dy dJ rfl (by left) (by right) (bB (pc 3 .(O)))) (sP 3 (bB (cQ (uf .(az) .(O))))))))
theorem N8:.(g) "is_setup" 3 3 sS:=
 V.d48.cl Qg (have:=nA V;have:=pY V;have:=jy V;have:=kz V;by split)
theorem PY:.(g) "are_setups" 3 4 wy:=
 V.d49.cl R4 fun nd f cdv A outer s H E hr=>
  have:=iQ V;have:=N8 V;(aE (cS (DW.dt (iT (by exfalso) (iR (gb (gm (dL (gG rfl) rfl V.z_all gI (ci (DO.de (lcN ["row","bench_names","horizon"] (by left))) cB))))))) .(u) c7) (bB (cQ .(az))))
theorem QK:.(g) "is_link" 3 3 uj:=
 V.d50.cl RS (have:=pY V;have:=jy V;have:=kz V;by split)
theorem Mr:.(g) "are_links" 3 4 xg:=
 V.d51.cl Mq fun nd f cdv A outer s H E hr=>
  have:=QK V;have:=iQ V;(aE (cS (DW.dt (iT (by exfalso) (iR (gb (gm (dL (gG rfl) rfl V.z_all gI (ci (DO.de (lcN ["row","step_names","horizon"] (by left))) cB))))))) .(u) c7) (bB (cQ .(az))))
theorem Rt:.(g) "is_amount" 2 3 tV:=
 V.d52.cl Iq (have:=pY V;have:=jy V;have:=kz V;by split)
theorem Kv:.(g) "are_amounts" 2 4 sd:=
 V.d53.cl M6 fun nd f cdv A outer s H E hr=>
  have:=Rt V;have:=iQ V;(aE (cS (DW.dt (iT (by exfalso) (iR (gb (gm (dL (gG rfl) rfl V.z_all gI (ci (DO.de (lcN ["row","step_names"] (by left))) cB))))))) .(u) c7) (bB (cQ .(az))))
theorem Ig:.(g) "is_stock" 2 5 sL:=
 V.d54.cl Ra (have:=Kv V;have:=nA V;have:=jy V;have:=kz V;by split)
theorem Na:.(g) "are_stocks" 2 6 wW:=
 V.d55.cl Me fun nd f cdv A outer s H E hr=>
  have:=iQ V;have:=Ig V;(aE (cS (DW.dt (iT (by exfalso) (iR (gb (gm (dL (gG rfl) rfl V.z_all gI (ci (DO.de (lcN ["row","step_names"] (by left))) cB))))))) .(u) c7) (bB (cQ .(az))))
theorem RN:.(g) "first_bad_part" 7 7 vF:=
 V.d56.cl Hi fun nd f cdv A outer s H E hr=>
  have:=OQ V;have:=RM V;have:=Mr V;have:=PY V;have:=RE V;have:=Na V;have:=kz V;(aE .(U) (aE .(U) (aE (iM 7 nd ["row"] (by left)) (aE .(U) (aE (iM 8 nd ["row"] (by left)) .(u))))))
theorem HX:CalI .(a) P w K mg base "Shop" 7 9 xq:=
 DfnM.calI (k:=8) V.O_Shop V.d57 Ea .(bo) fun f y cdv A outer s H E hr=>
  have nd:=Ea.nd;have:=((RN V).re y);have:=((jB V).re y);(aE .(U) (aE (cS (by exfalso) (bB J8) c7) (aE (iP 0 .(bc) (.head _) .(O)) (aE (iP 0 .(bc) (.tail _ (.head _)) .(O)) (aE (iP 0 .(bc) (.tail _ (.tail _ (.head _))) .(O)) (aE (iP 0 .(bc) .(i) .(O)) (aE (iP 0 .(bc) (.tail _ .(i)) .(O)) (aE (iP 0 .(bc) .(ag) .(O)) (aE (iP 0 .(bc) (.tail _ .(ag)) (cj 7)) (aE (iP 0 .(bc) (.tail _ (.tail _ .(ag))) (gq (nV rfl (cq hr)) rfl V.z_dict ja (ci (DO.de (lcN ["row"] (m6 (tU 0 .(bc) (.head _))))) cB))) (aE (iP 0 .(bc) (.tail _ (.tail _ (.tail _ .(ag)))) (gq (nV rfl (cq hr)) rfl V.z_dict ja (ci (DO.de (lcN ["row"] (m6 (tU 0 .(bc) (.tail _ (.head _)))))) cB))) (aE (iP 0 .(bc) (.tail _ (.tail _ (.tail _ (.tail _ .(ag))))) (gq (CT rfl (cq hr)) rfl V.z_dict ja (ci (DO.de (lcN ["row"] (m6 (tU 0 .(bc) .(i))))) cB))) (aE (Nd 0 .(bc) (.tail _ (.tail _ (.tail _ (.tail _ (.tail _ .(ag))))))) (bB (dy dJ rfl (m6 (tU 0 .(bc) (.tail _ (.tail _ (.head _))))) (by right) (bB (dy dJ rfl (by left) (by right) (bB (Hm 0 (cq hr) .(bc) (.tail _ (.tail _ (.tail _ (.tail _ (.tail _ .(ag)))))) (cj 10) (cj 9))))))))))))))))))))
theorem GY:.(g) "_law_shop" 1 11 xB:=
 V.d58.cl KF fun nd f cdv A outer s H E hr=>
  (bB (cQ (G9 (HX V) hr .(f) rfl .(ah) ln7)))
theorem Jp:.(g) "start_ahead" 3 1 mZ:=
 V.d59.cl Iu fun nd f cdv A outer s H E hr=>
  (aE (dy dJ rfl (GZ rfl V.z_reversed (cj 0)) (by right) .(u)) .(u))
theorem G8:.(E) "has_kept" 1 1 vD:=
 DfnM.cl V.O_Facts V.d60 Qj (by split)
theorem Pn:.(E) "kept_place" 2 2 vS:=
 DfnM.cl V.O_Facts V.d61 J7 fun nd f cdv A outer s H E hr=>
  have:=G8 V;(bB (cQ (wH (by exfalso) (vG (cq hr) .(O) (cj 1)) vz)))
theorem vR:.(E) "is_barred" 4 3 pz:=
 DfnM.cl V.O_Facts V.d62 Rg fun nd f cdv A outer s H E hr=>
  have:=Pn V;(bB (cQ (uf (pp (BK (cq hr)) (cj 1) .(O) (by rfl)) .(O))))
theorem OW:.(E) "greatest_on" 3 4 uD:=
 DfnM.cl V.O_Facts V.d63 Jv (have:=yh V;have:=vR V;have:=Jp V;by split)
theorem wC:.(E) "is_in_window" 4 2 kI:=
 DfnM.cl V.O_Facts V.d64 Q2 (have:=yh V;by split)
theorem DR:.(E) "greatest_start" 2 5 jQ:=
 DfnM.cl V.O_Facts V.d65 KS fun nd f cdv A outer s H E hr=>
  have:=OW V;have:=wC V;(aE (iM 2 nd ["bench","step","self"] (by left)) (bB (cQ (z4 rfl rfl V.z_max (DO.de (lcN ["bench","start","step","self"] (by left)))))))
theorem Aa:.(g) "start_behind" 3 1 lQ:=
 V.d66.cl Gf (by split)
theorem PM:.(E) "least_on" 3 4 uB:=
 DfnM.cl V.O_Facts V.d67 Gz (have:=vR V;have:=Aa V;by split)
theorem CA:.(E) "least_start" 2 5 jL:=
 DfnM.cl V.O_Facts V.d68 Ly fun nd f cdv A outer s H E hr=>
  have:=wC V;have:=PM V;(aE (iM 2 nd ["bench","step","self"] (by left)) (bB (cQ (D4 rfl rfl V.z_min (DO.de (lcN ["bench","start","step","self"] (by left)))))))
theorem Dk:.(E) "last_of" 2 1 nh:=
 DfnM.cl V.O_Facts V.d69 NX (by split)
theorem CD:.(E) "first_of" 2 1 nk:=
 DfnM.cl V.O_Facts V.d70 QE (by split)
theorem NT:CalU .(a) P w K mg base "_law_put" "Facts" 4 2 oV:=
 Dfn.calU (k:=1) V.d71 o6 .(bo) fun f y cdv A outer s H E hr=>
  have nd:=o6.nd;have:=((CD V).re y);have:=((Dk V).re y);have:=((gK V).re y);(aE (fZ 5 o6.nd (oe 0 .(O))) (aE .(U) (aE .(U) (aE .(U) (aE .(U) (aE (cS (by exfalso) (bB (O0 10 11 rfl o6.nd (v7 0 .(ah)))) c7) (aE (cS (by exfalso) (bB (fZ 10 o6.nd (oe 0 .(O)))) c7) (aE (cS (by exfalso) (bB (mq 0 ((wd V).re y) hr .(f) .(ah) ln3)) c7) (aE (iM 13 nd ["_law_k","_law_ways","_law_cell"] (by left)) (aE (mq 0 ((vM V).re y) hr .(f) (ci (cj 3) (ci (DO.de (lcN ["_law_bench","_law_length"] (by left))) cB)) ln2) .(u)))))))))))
theorem Du:.(g) "_law_whole" 2 1 g8:=
 V.d72.cl Rb (by split)
theorem Pp:CalMU .(a) P w K mg base "Facts" "put_note" 1 1 oQ:=
 DfnM.calU (k:=0) V.O_Facts V.d73 BU .(bo) fun f y cdv A outer s H E hr=>
  have nd:=BU.nd;(bB (kM 0 (cq hr) (V.cf_Facts.re y) .(ag) (cj 1) Ax))
theorem Po:.(g) "_law_job" 2 1 wP:=
 V.d74.cl IE (by split)
theorem PL:.(g) "_law_mark" 3 2 si:=
 V.d75.cl Ny (have:=Po V;by split)
theorem Lv:.(g) "_law_at" 2 1 gX:=
 V.d76.cl Pq (by split)
theorem Px:.(g) "_law_least" 4 1 pM:=
 V.d77.cl Ad fun nd f cdv A outer s H E hr=>
  (aE .(U) (aE (dy dJ rfl (by left) (by right) (aE .(U) (bB (fZ 4 Ad.nd (xj (cj 4) (gq AR rfl V.z_int xp .(ah))))))) .(u)))
theorem MT:.(g) "_law_greatest" 4 1 o4:=
 V.d78.cl Bd fun nd f cdv A outer s H E hr=>
  (aE .(U) (aE (dy dJ rfl (by left) (by right) (aE .(U) (bB (fZ 4 Bd.nd (BY (cj 4) (gq AR rfl V.z_int xp .(ah))))))) .(u)))
theorem uG:.(g) "_law_some" 2 2 io:=
 V.d79.cl Np (have:=Du V;by split)
theorem Qq:.(E) "can_start" 4 4 kx:=
 DfnM.cl V.O_Facts V.d80 JO (have:=vR V;have:=wC V;have:=Aa V;by split)
theorem KI:.(g) "_law_can" 5 1 kr:=
 V.d81.cl K4 fun nd f cdv A outer s H E hr=>
  (aE .(U) (bB (cQ (pp (tJ (lX hr)) (DO.de (lcN ["_law_one","_law_start","_law_length"] (by left))) .(O) (ni _)))))
theorem Nl:.(E) "open_to" 2 1 w8:=
 DfnM.cl V.O_Facts V.d82 Ky fun nd f cdv A outer s H E hr=>
  (bB (cQ (gq K' rfl V.z_list x9 .(ah))))
theorem P1:.(g) "_law_right" 6 6 pZ:=
 V.d83.cl sr fun nd f cdv A outer s H E hr=>
  have:=Qq V;have:=DR V;have:=CA V;have:=Nl V;have:=Lv V;have:=KI V;have:=MT V;have:=Px V;have:=PL V;(aE (AZ (cj 4) (by right)) (aE .(U) (aE (fZ 10 sr.nd (gq (nV rfl (cq hr)) rfl V.z_dict ja .(ah))) (aE .(U) (aE .(U) (aE (dy dJ rfl (by left) (by right) (aE (pc 11 .(O)) (bB (pc 12 .(O))))) (aE (cS (AL 11 (gb (gm (dC (uG V) hr (ci .(O) (ci (o7 (dL tP rfl V.z_sorted uC .(ah)) nG (nc nT)) cB)) ln2)))) .(u) c7) (aE (cS (AL 12 (gb (gm (dC (uG V) hr (ci .(O) (ci (o7 (xL (dL tP rfl V.z_sorted uC .(ah))) nG (nc nT)) cB)) ln2)))) .(u) c7) (aE (dy dJ rfl (by left) (by right) (aE (fZ 14 sr.nd (vG (cq hr) (gq (nV rfl (cq hr)) rfl V.z_dict ja .(ah)) (cj 13))) (aE (Ej 16 sr.nd (JM .(O) (DO.de (lcN ["_law_begin","_law_end"] (by left))))) (aE .(U) (sP 16 (bB (dy dJ rfl (m6 (xj (cj 16) (DO.de (lcN ["_law_begin","_law_end"] (by left))))) (by right) .(u)))))))) (bB (cQ (pp (tJ (lX hr)) .(O) (DO.de (lcN ["_law_bench","_law_length"] (by left))) (ni _)))))))))))))
theorem Jk:.(E) "greatest_of" 2 2 uw:=
 DfnM.cl V.O_Facts V.d84 Qr fun nd f cdv A outer s H E hr=>
  have:=Do V;(bB (cQ (z4 rfl rfl V.z_max .(O))))
theorem ND  (f:au) (cdv:av) (A:cR) (outer:ac cG) (s:aI) (H:Hp) (E:XK) (hr:Room 15 (A.deeper (dI "law" (aG (top 82)) s.heap.objs.size f cdv))):DSs .(a) (dX CX0 P w K mg base ["_law_script","_law_horizon_here","_law_lists_here","_law_cell","_law_limit","_law_kept_here","_law_facts","_law_puts","_law_places","_law_k","_law_row","_law_asked","_law_first","_law_last","_law_own","_law_place","_law_lengths"] "law" (aG (top 82)) f cdv A outer s H E).nox (cv (top 82)) vH:=
  have nd:=kN.nd;have:=CD V;have:=Jk V;have:=DR V;have:=Dk V;have:=zP V;have:=CA V;have:=tp V;have:=gK V;have:=M5 V;have:=Jg V;have:=MN V;have:=P1 V;have:=GY V;have:=Du V;(aE .(U) (aE .(U) (aE .(U) (aE .(U) (aE .(U) (aE (MY 6 kN.nd (Q8 V) hr .(f) rfl .(ah) ln4 rfl) (aE (yf 7 kN.nd) (aE (yf 8 kN.nd) (aE (dy dJ rfl (by left) (by right) (aE .(U) (aE (fZ 11 kN.nd (oe 6 .(O))) (aE (NW 7 6 (cq hr) (NT V) hr .(f) rfl .(O) .(ah) ln4) (aE (fZ 11 kN.nd (oe 6 .(O))) (aE (cS (t9 (xw (lX hr)) (DO.de (lcN ["_law_told"] (by left))) .(O) (ni _)) .(u) c7) (bB (cS (by exfalso) (aE (mq 6 (Pp V) hr .(f) .(ah) ln1) (bB (nX 8 (cq hr) .(O) .(O)))) c7)))))))) (aE (dy dJ rfl (by left) (by right) (aE (AZ (NR 7 (cq hr) .(O)) (by right)) (aE (fZ 15 kN.nd (Og 8 (cq hr) .(O))) (aE (cS (OY 7 (oP 6 (by exfalso))) .(u) c7) (aE (cS (oP 6 (by exfalso)) .(u) c7) (aE (cS (oP 6 (by exfalso)) .(u) c7) (aE (iM 16 nd ["_law_bench","_law_length"] (by left)) (aE (cS (oP 6 (gb (gm (dC (uG V) hr (ci .(O) (ci (o7 (dL tP rfl V.z_sorted uC .(ah)) nG (nc nT)) cB)) ln2)))) .(u) c7) (bB (cS (oP 6 (gb (gm (dC (uG V) hr (ci .(O) (ci (o7 (xL (dL tP rfl V.z_sorted uC .(ah))) nG (nc nT)) cB)) ln2)))) .(u) c7)))))))))) .(u)))))))))))
end
theorem i2:fE "int" "int"=aa aj:=rfl
theorem i3:fE "int" "bool"=aa ar:=rfl
theorem i5:fE "bool" "bool"=aa aj:=rfl
theorem j1:fE "str" "str"=aa aj:=rfl
theorem k1:fE "list" "list"=aa aj:=rfl
theorem k2:fE "tuple" "list"=aa ar:=rfl
theorem k3:fE "tuple" "tuple"=aa aj:=rfl
theorem k4:fE "str" "list"=aa ar:=rfl
theorem k5:fE "str" "tuple"=aa ar:=rfl
theorem k6:fE "int" "list"=aa ar:=rfl
theorem k7:fE "int" "tuple"=aa ar:=rfl
theorem k8:fE "bool" "list"=aa ar:=rfl
theorem k9:fE "bool" "tuple"=aa ar:=rfl
theorem k10:fE "NoneType" "list"=aa ar:=rfl
theorem k11:fE "NoneType" "tuple"=aa ar:=rfl
theorem sz2:(1+1<=aH)=True:=by simp[aH]
theorem sz3:(1+1+1<=aH)=True:=by simp[aH]
section
variable {x0 x1 x2 x3 x4:D} {r:ac D}
theorem gz (l:ac α) (n:ao):atI l (n:ah)=l[n]?:=by
 unfold atI ixN;rw[qX .(b)];by_cases h:n<l.length
 .rw[qX .(b)];simp
 .rw[qY .(b)];simp;omega
theorem cb:ixD (.tup (x0::r)) (.int 0)=aa x0:=gz _ 0
theorem eB:ixD (.tup (x0::x1::r)) (.int 1)=aa x1:=gz _ 1
theorem fT:ixD (.tup (x0::x1::x2::r)) (.int 2)=aa x2:=gz _ 2
theorem sX:ixD (.tup (x0::x1::x2::x3::r)) (.int 3)=aa x3:=gz _ 3
theorem lH:ixD (.tup (x0::x1::x2::x3::x4::r)) (.int 4)=aa x4:=gz _ 4
end
theorem xQ {fe:FE} {r:bo} {f:D->D}:∀{xs:ac D} {a:aq Slot},(∀x∈xs,fe (oS x::r)=aa (f x))->bT (ay 0) tT fe xs (a::r)=aa (xs.map f)
 |[],_,_=>rfl
 |x::xs,a,h=>by have h1:=h x qg;have ih:=xQ (xs:=xs) (a:=oS x) fun y hy=>h y (qh _ hy);simp only[bT,ay,mT,qb,tT,cy,h1,ih,qe,qm]
theorem BM {fe:FE} {ft:FT} {r:bo} {f:D->D} {p:D->aP}:∀{xs:ac D} {a:aq Slot},(∀x∈xs,ft (oS x::r)=aa (p x)/\(p x=aj->fe (oS x::r)=aa (f x)))->bT (ay 0) ft fe xs (a::r)=aa ((xs.filter p).map f)
 |[],_,_=>rfl
 |x::xs,a,h=>by
  have h1:=h x qg;have ih:=BM (xs:=xs) (a:=oS x) fun y hy=>h y (qh _ hy);simp only[bT,ay,mT,qb,h1.1,ih,j8];cases e:p x
  .simp
  .simp[h1.2 e]
theorem Bs:∀{l:ac D},(∀x∈l,x=.bl aj)->∃bs:ac aP,mW l=aa bs/\bs.all id=aj
 |[],_=>⟨[],rfl,rfl⟩
 |x::r,h=>by obtain⟨bs,h1,h2⟩:=Bs (l:=r) fun y hy=>h y (qh _ hy);have hx:=h x qg;subst hx;exact⟨aj::bs,by simp[mW,h1],by simpa using h2⟩
theorem gW {a:aq Slot} {xs:ac D} (h1:fi ρ=aa xs) (h2:xs.length<=aH) (h3:eS fv ρ=a::r) (h:∀x∈xs,fe (oS x::r)=aa (.bl aj)) :
  cF fu (ag (aK (aR fi (ay 0) tT fe fv)) ak) ρ=aa (.bl aj):=by
 have c:=xQ (a:=a) (f:=fun _=>.bl aj) h;obtain⟨bs,e1,e2⟩:=Bs (l:=xs.map fun _=>D.bl aj) (by simp);simp only[cF,ag,ak,aK,aR,h1,qb,qX h2,h3,c,qe,fu,e1];simpa using e2
theorem jA {a:aq Slot} {xs:ac D} {f:D->D} (h1:fi ρ=aa xs) (h2:xs.length<=aH) (h3:eS fv ρ=a::r) (h:∀x∈xs,fe (oS x::r)=aa (f x)) :
  aK (aR fi (ay 0) tT fe fv) ρ=aa (.lst (xs.map f)):=by
 simp only[aK,aR,h1,qb,qX h2,h3,xQ (a:=a) h,qe]
theorem o3 {body:FS} {xs:ac D} (I:ao->bo->Prop) (h0:I 0 ρ) (hs:∀i x ρ,xs[i]?=aa x->I i ρ->∃ρ1 ρ2,gg x ρ=aa ρ1/\body ρ1=aa (.nx,ρ2)/\I (i+1) ρ2) :
  ∃ρ',dO gg body xs ρ=aa (.nx,ρ')/\I xs.length ρ':=by
 have key:∀(ys:ac D) (k:ao) (ρ:bo),xs.drop k=ys->I k ρ->∃ρ',dO gg body ys ρ=aa (.nx,ρ')/\I (k+ys.length) ρ':=by
  intro ys
  induction ys with
  |nil=>intro k ρ _ hk;exact⟨ρ,rfl,hk⟩
  |cons y r ih=>
   intro k ρ hd hk;have hy:xs[k]?=aa y:=by
    have:(xs.drop k)[0]?=aa y:=by rw[hd];rfl
    simpa using this
   obtain⟨ρ1,ρ2,h1,h2,h3⟩:=hs k y ρ hy hk;have hd':xs.drop (k+1)=r:=by rw[←List.drop_drop,hd];rfl
   obtain⟨ρ',h4,h5⟩:=ih (k+1) ρ2 hd' h3;refine⟨ρ',?_,by rw[qi];rwa [show k+1+r.length=k+(r.length+1) by omega] at h5⟩;simp only[dO,h1,qb,h2,h4]
 obtain⟨ρ',h1,h2⟩:=key xs 0 ρ rfl h0;exact⟨ρ',h1,by rwa [lz] at h2⟩
theorem AX:(2:ah) ^ 62=4611686018427387904:=by decide +kernel
theorem Le {i j:ah} (h:0<=i/\i<=1000000/\0<=j/\j<=1000000):mw [.int i,.int j]=aa ((cx (j-i).toNat).map fun k:ao=>D.int (i+k)):=by unfold mw;rw[AX];exact qX ⟨by omega,by omega,by omega,by omega⟩
theorem tE {j:ah} (h:0<=j/\j<=1000000):dN [.int j]=aa ((cx j.toNat).map fun i:ao=>D.int (0+i)):=by unfold dN;rw[AX];exact qX ⟨by omega,by omega⟩
theorem tN {g:ac D->aq (ac D)} {r:ac D} (h1:fr ρ=aa ds) (h2:g ds=aa r):itR g fr ρ=aa r:=by unfold itR;rw[h1];exact h2
theorem aA {g:D->D->aq D} {x y:D} (h1:fa ρ=aa x) (h2:fb ρ=aa y) (h3:g x y=aa z):b2 g fa fb ρ=aa z:=by unfold b2;rw[h1,qb,h2,qb];exact h3
theorem aU {g:FQ} (h1:fr ρ=aa ds) (h2:g ds=aa z):cF g fr ρ=aa z:=by unfold cF;rw[h1];exact h2
theorem ax (h1:f ρ=aa d) (h2:fr ρ=aa ds):ag f fr ρ=aa (d::ds):=by unfold ag;rw[h1,qb,h2];rfl
theorem aJ :ak ρ=aa []:=rfl
theorem Dm (h:g (ds.map .(X)++bM n af)=aa (.rt d,ρ')):aT n g ds=aa d:=by unfold aT;rw[h];rfl
theorem ca (ρ:bo) (e:ds.map .(X)++bM n af=ρ) (h:g ρ=aa (.rt d,ρ')):aT n g ds=aa d:=by subst e;exact Dm h
theorem bZ (h:f ρ=aa d):aC f ρ=aa (.rt d,ρ):=by unfold aC;rw[h];rfl
theorem bF {b:aP} (h:f ρ=aa (.bl b)):toB f ρ=aa b:=by unfold toB;rw[h];rfl
theorem lM {A:FE} {X E:FS} (hA:A ρ=aa (.bl aj)):aw (sIf (aY (toB A)) X aV) E ρ=E ρ:=by simp only[aw,sIf,aY,bF hA,qe,qb,ii,qq,cH,aV]
theorem iz {A B:FE} {X E:FS} (hA:A ρ=aa (.bl aj)) (hB:B ρ=aa (.bl aj)):aw (sIf (orT (aY (toB A)) (aY (toB B))) X aV) E ρ=E ρ:=by simp only[aw,sIf,orT,aY,bF hA,bF hB,qe,qb,ii,qq,cH,aV]
theorem JV {A B C:FE} {X E:FS} (hA:A ρ=aa (.bl aj)) (hB:B ρ=aa (.bl aj)) (hC:C ρ=aa (.bl aj)):aw (sIf (orT (aY (toB A)) (orT (aY (toB B)) (aY (toB C)))) X aV) E ρ=E ρ:=by simp only[aw,sIf,orT,aY,bF hA,bF hB,bF hC,qe,qb,ii,qq,cH,aV]
theorem AM {A B:FE} (hA:A ρ=aa (.bl aj)) (hB:B ρ=aa (.bl aj)):cc A B ρ=aa (.bl aj):=by simp only[cc,hA,hB,qb]
theorem kO (h:f ρ=aa d):aw (aL i f) g ρ=g (ρ.set i (oS d)):=by simp only[aw,aL,h,qe,qb]
theorem KJ (i:ah):um [.int i]=aa (.bl aj):=by simp only[um,aT,aC,cc,p8,cF,ag,ak,vSh,vC,cV,tyD,qm,qP,qp,qS,bM,qc,qb,qe,oI,i2,i3]
theorem im (i a b:ah) (h:a<=i/\i<=b):fX [.int i,.int a,.int b]=aa (.bl aj):=by simp only[fX,KJ,aT,aC,cc,cF,ag,ak,vSh,chD,leD,qm,qP,qp,qS,bM,qc,qd,qb,qe,qT h.1,qT h.2]
theorem iI (l:ac D) (a b:ah) (h:a<=l.length/\(l.length:ah)<=b):gx [.lst l,.int a,.int b]=aa (.bl aj):=by simp only[gx,aT,aC,cc,cF,ag,ak,vSh,vC,chD,cV,tyD,bR,leD,qm,qP,qp,qS,bM,qc,qd,qb,qe,k1,qT h.1,qT h.2]
theorem sC (l:ac D) (n:ah) (h:(l.length:ah)=n):fJ [.tup l,.int n]=aa (.bl aj):=by simp only[fJ,aT,aC,cc,cF,ag,ak,vSh,vC,b2,cV,tyD,bR,eqD,eqS,qm,qP,qp,qS,bM,qc,qd,qb,qe,k3,qT h]
section
variable {a b c e:D}
theorem uI:fJ [.tup [a,b],.int 2]=aa (.bl aj):=sC _ _ rfl
theorem zX:fJ [.tup [a,b,c],.int 3]=aa (.bl aj):=sC _ _ rfl
theorem Mv:fJ [.tup [a,b,c,d],.int 4]=aa (.bl aj):=sC _ _ rfl
theorem BI:fJ [.tup [a,b,c,d,e],.int 5]=aa (.bl aj):=sC _ _ rfl
end
noncomputable def dIv (p:ah×ah):D:=.tup [.int p.1,.int p.2]
theorem Pm (p:ah×ah) (h:ah) (h1:0<=p.1) (h2:p.1<p.2) (h3:p.2<=h):sO [dIv p,.int h]=aa (.bl aj):=by simp only[sO,dIv,aT,aw,sIf,aC,aV,orT,aY,toB,cF,ag,ak,vSh,vC,b2,ltD,cb,eB,qm,qP,qp,qS,bM,qc,qd,qb,qe,cH,ii,qq,uI,im p.1 0 h ⟨h1,by omega⟩,im p.2 0 h ⟨by omega,h3⟩,qT h2]
def az (c:ao):aP:=!ltS ⟨#[c]⟩ "a" && !ltS "z" ⟨#[c]⟩
theorem Gh {c:ao} (h:az c=aj):c<=122:=by
 have z:("z":ai)=⟨#[122]⟩:=by decide +kernel
 unfold az ltS at h;rw[z] at h;simp only[fU,Bool.not_eq_true',decide_eq_false_iff_not] at h;have h2:=h.2;rcases mN 122 c with q|q
 .exact bA (show([122]:ac ao) < [c] from List.Lex.rel q) h2
 .exact q
theorem F6 (c:ao) (r:bo):chD leD leD (vC (.str "a")) (vSh 0) (vC (.str "z")) (oS (.str ⟨#[c]⟩)::r)=aa (.bl (az c)):=by simp only[chD,vC,vSh,qc,qb,leD,az];cases ltS ⟨#[c]⟩ "a"<;>simp
def bh (x:ai):aP:=decide (1<=x.length) && decide (x.length<=8) && x.cps.toList.all az
theorem KN (h:bh x=aj):1<=x.length/\x.length<=8:=by unfold bh at h;simp only[fU,u9] at h;exact h.1
theorem zu (h:bh x=aj):∀c∈x.cps.toList,az c=aj:=by unfold bh at h;simp only[fU,ic] at h;exact h.2
theorem kg (h:bh x=aj):iL [.str x]=aa (.bl aj):=by
 obtain⟨h1,h2⟩:=KN h;have hz:x.length<=aH:=by unfold aH;omega
 have hl:(x.cps.toList.map fun c=>D.str ⟨#[c]⟩).length<=aH:=by simpa[rF] using hz
 have e1:decide ((1:ah)<=(x.length:ao))=aj:=qT .(b);have e2:decide (((x.length:ao):ah)<=8)=aj:=qT .(b);have ha:=gW (fi:=itS (vSh 0)) (fe:=chD leD leD (vC (.str "a")) (vSh 0) (vC (.str "z"))) (fv:=[af]) (ρ:=[oS (.str x)]) (r:=[]) (a:=af) (xs:=x.cps.toList.map fun c=>D.str ⟨#[c]⟩)
  (by simp[itS,vSh,wB]) hl rfl (fun y hy=>by obtain⟨c,hc,rfl⟩:=bJ.mp hy;rw[F6,zu h c hc])
 refine Dm (ρ':=[oS (.str x)]) ((iz ?_ ?_).trans (bZ ha))
 .rfl
 .show chD leD leD .(h) (cF bR .(ac)) (vC (.int 8)) [oS (.str x)]=_;simp only[cF,ag,ak,vSh,vC,chD,bR,leD,qc,qb,qe,qX hz,e1,e2]
theorem xX (h:bh x=aj):Ua x=aj:=by unfold Ua;rw[Array.all_eq_true'];intro c hc;have:=Gh (zu h c (by simpa using hc));exact qT .(b)
theorem Cp:∀(ns:ac ai),em (ns.map D.str)=aa (ns.map oJ):=by
 intro xs0
 induction xs0 with
 |nil=>
  simp[em]
 |cons x r ih=>
  simp[em,pdD,ih]
theorem Eh:∀{ns:ac ai},(∀x∈ns,bh x=aj)->lv (ns.map oJ)=aj:=by
 intro xs0
 induction xs0 with
 |nil=>
  intro _;simp[lv]
 |cons x r ih=>
  intro h;simp only[qm,lv,jj,xX (h x qg),vm];exact ih fun y hy=>h y (qh _ hy)
theorem Ow (x:ai):∀(ns:ac ai),((ns.map oJ).any fun z=>eZ z (.str x))=decide (x∈ns):=by
 intro xs0
 induction xs0 with
 |nil=>
  simp
 |cons y r ih=>
  have ih:=ih;rw[qm,jZ,ih];simp only[eZ];by_cases e:y=x
  .subst e;simp
  .have:x≠y:=fun z=>e z.symm;simp[e,this]
theorem uy {ns:ac ai} (hx:bh x=aj) (hn:∀y∈ns,bh y=aj):f9 (.str x) (.lst (ns.map D.str))=aa (.bl (decide (x∈ns))):=by
 have sh:fV (.str x)=aj:=by simp[fV,jj,xX hx,jk]
 simp only[f9,inX,pdD,Cp,qe,qb,sh,Eh hn,and_self,cy,Ow]
theorem nr {ns:ac ai} (hx:x∈ns) (hn:∀y∈ns,bh y=aj):jE [.str x,.lst (ns.map D.str)]=aa (.bl aj):=by simp only[jE,aT,aC,cc,cF,ag,ak,vSh,b2,qm,qP,qp,qS,bM,qc,qd,qb,qe,kg (hn x hx),uy (hn x hx) hn,qT hx]
theorem AF [dG κ] {l:ac κ} (h:l.Nodup):ST.dd l=l:=by
 have key:∀(l a:ac κ),(a++l).Nodup->l.foldl (fun a k=>if k∈a then a else a++[k]) a=a++l:=by
  intro l
  induction l with
  |nil=>intro a _;simp
  |cons x r ih=>
   intro a hn;have hx:x∉a:=by intro z;rw[mS] at hn;exact hn.2.2 x z x qg rfl
   rw[fQ,qY hx,ih (a++[x]) (by simpa using hn)];simp
 simpa[ST.dd] using key l [] (by simpa using h)
theorem nv:∀(ns:ac ai),eE (ns.map D.str)=aa (ns.map cD):=by
 intro xs0
 induction xs0 with
 |nil=>
  simp[eE]
 |cons x r ih=>
  simp[eE,fS,ih]
theorem lP {ns:ac ai} (h:ns.Nodup) (hl:ns.length<=300):e7 [.lst (ns.map D.str)]=aa (.bl aj):=by have hd:(ns.map (cD:ai->Key)).Nodup:=vq _ (fun a b hab z=>hab (hG z)) h;simp only[e7,aT,aC,cF,ag,ak,vSh,b1,b2,bR,eqD,eqS,qm,qP,qp,qS,bM,qc,qb,qe,n9,qf,qX hl,nv,AF hd];simp
theorem Ko:∀(ts:ac (ac ai)),lV (ts.map fun t=>.tup (t.map D.str))=aa (ts.map fun t=>t.map cD):=by
 intro xs0
 induction xs0 with
 |nil=>
  simp[lV]
 |cons t r ih=>
  simp[lV,nv,ih]
theorem CM {ts:ac (ac ai)} (h:ts.Nodup) (hl:ts.length<=300):e7 [.lst (ts.map fun t=>.tup (t.map D.str))]=aa (.bl aj):=by
 have inj:∀a b:ac ai,a.map (cD:ai->Key)=b.map cD->a=b:=fun a b z=>(FP (fun x y q=>hG q)).mp z;have hd:(ts.map fun t=>t.map (cD:ai->Key)).Nodup:=vq _ (fun a b hab z=>hab (inj a b z)) h;cases ts with
 |nil=>simp only[e7,aT,aC,cF,ag,ak,vSh,b1,b2,bR,eqD,eqS,qm,qP,qp,qS,bM,qc,qb,qe,ql,n9,eE,ST.dd];simp
 |cons t r=>
  have e:eE ((t::r).map fun t=>D.tup (t.map D.str))=af:=by simp[eE,fS]
  simp only[e7,aT,aC,b2,b1,vSh,qm,qP,qp,qS,bM,qc,qb,n9,cF,ag,ak,bR,qe];rw[qX (by simpa using hl)];have e':=e;rw[qm] at e';rw[e'];have t':=Ko (t::r);rw[qm] at t';rw[t'];rw[qe,AF hd];simp[eqD,eqS]
structure BenchT where
 nm:ai
 br:ac (ah×ah)
structure StepT where
 nm:ai
 kd:ai
 ws:ac (ai×ah)
structure JobT where
 nm:ai
 ea:ah
 du:ah
 od:aP
 ms:ac ai
structure SetT where
 b:ai
 p:ai
 q:ai
 n:ah
structure LinkT where
 a:ai
 b:ai
 g:ah
structure StockT where
 nm:ai
 lo:ah
 hi:ah
 tk:ac (ai×ah)
 pt:ac (ai×ah)
noncomputable def dW (w:ai×ah):D:=.tup [.str w.1,.int w.2]
def bK (b:BenchT):D:=.tup [.str b.nm,.lst (b.br.map dIv)]
def bw (s:StepT):D:=.tup [.str s.nm,.str s.kd,.lst (s.ws.map dW)]
noncomputable def bf (j:JobT):D:=.tup [.str j.nm,.int j.ea,.int j.du,.bl j.od,.lst (j.ms.map D.str)]
noncomputable def cY (u:SetT):D:=.tup [.str u.b,.str u.p,.str u.q,.int u.n]
noncomputable def c0 (l:LinkT):D:=.tup [.str l.a,.str l.b,.int l.g]
def dc (k:StockT):D:=.tup [.str k.nm,.int k.lo,.int k.hi,.lst (k.tk.map dW),.lst (k.pt.map dW)]
structure GoodB (h:ah) (b:BenchT):Prop where
 nm:bh b.nm=aj
 len:b.br.length<=10
 iv:∀p∈b.br,0<=p.1/\p.1<p.2/\p.2<=h
 gap:∀(i:ao) p q,b.br[i]?=aa p->b.br[i+1]?=aa q->p.2<q.1
structure GoodS (bn:ac ai) (h:ah) (s:StepT):Prop where
 nm:bh s.nm=aj
 kd:bh s.kd=aj
 l1:1<=s.ws.length
 l4:s.ws.length<=4
 ws:∀w∈s.ws,w.1∈bn/\1<=w.2/\w.2<=h
 nd:(s.ws.map (·.1)).Nodup
structure GoodJ (sn:ac ai) (h:ah) (j:JobT):Prop where
 nm:bh j.nm=aj
 ea:0<=j.ea/\j.ea<=h
 du:0<=j.du/\j.du<=h
 l1:1<=j.ms.length
 ln:j.ms.length<=sn.length
 ms:∀m∈j.ms,m∈sn
structure GoodU (bn:ac ai) (h:ah) (u:SetT):Prop where
 b:u.b∈bn
 p:bh u.p=aj
 q:bh u.q=aj
 n:1<=u.n/\u.n<=h
structure GoodL (sn:ac ai) (h:ah) (l:LinkT):Prop where
 a:l.a∈sn
 b:l.b∈sn
 ne:l.a≠l.b
 g:0<=l.g/\l.g<=h
structure GoodA (sn:ac ai) (am:ac (ai×ah)):Prop where
 ln:am.length<=sn.length
 ws:∀w∈am,w.1∈sn/\1<=w.2/\w.2<=1000000
 nd:(am.map (·.1)).Nodup
structure GoodK (sn:ac ai) (k:StockT):Prop where
 nm:bh k.nm=aj
 lo:0<=k.lo/\k.lo<=k.hi
 hi:0<=k.hi/\k.hi<=1000000
 tk:GoodA sn k.tk
 pt:GoodA sn k.pt
structure Good (bs:ac BenchT) (ss:ac StepT) (js:ac JobT) (us:ac SetT) (ls:ac LinkT) (ks:ac StockT) (hz:ah):Prop where
 hh:1<=hz/\hz<=1000000
 bl:1<=bs.length/\bs.length<=8
 b:∀x∈bs,GoodB hz x
 bn:(bs.map (·.nm)).Nodup
 sl:1<=ss.length/\ss.length<=40
 s:∀x∈ss,GoodS (bs.map (·.nm)) hz x
 sn:(ss.map (·.nm)).Nodup
 jl:js.length<=40
 j:∀x∈js,GoodJ (ss.map (·.nm)) hz x
 jn:(js.map (·.nm)).Nodup
 jm:(js.flatMap (·.ms)).Nodup
 ul:us.length<=100
 u:∀x∈us,GoodU (bs.map (·.nm)) hz x
 un:(us.map fun u=>[u.b,u.p,u.q]).Nodup
 ll:ls.length<=100
 l:∀x∈ls,GoodL (ss.map (·.nm)) hz x
 ln:(ls.map fun l=>[l.a,l.b]).Nodup
 kl:ks.length<=6
 k:∀x∈ks,GoodK (ss.map (·.nm)) x
 kn:(ks.map (·.nm)).Nodup
theorem ixL (l:ac D) (n:ao):ixD (.lst l) (.int (n:ah))=l[n]?:=gz l n
theorem szN {k:ao} (h:n<=k) (hk:k<=1000):n<=aH:=by unfold aH;omega
variable {ss:ac StepT}
section
variable {bn:ac ai}
theorem ME (len:br.length<=10) (gap:∀(i:ao) p q,br[i]?=aa p->br[i+1]?=aa q->p.2<q.1) :
  cF fu Xa [oS (.lst .(aO)),oS (.int h)]=aa (.bl aj):=by
 have e0:itR mw (ag .(h) (ag (cF bR .(ac)) ak)) [oS (.lst .(aO)),oS (.int h)]=aa ((cx ((.(aO).length:ah)-1).toNat).map fun k:ao=>D.int (1+k)):=by exact tN rfl (Le (i:=1) (j:=(.(aO).length:ao)) (by rw[qf];omega))
 refine gW (r:=[oS (.lst .(aO))]) (a:=af) e0 ?_ rfl fun x hx=>?_
 .simp only[qf,qV];exact szN (k:=10) .(b) .(f)
 .obtain⟨k,hk,rfl⟩:=bJ.mp hx;rw[fN,qf] at hk;have hk1:k<br.length:=by omega
  have hk2:k+1<br.length:=by omega
  have e1:br[k]?=aa br[k]:=by simp[hk1]
  have e2:br[k+1]?=aa br[k+1]:=by simp[hk2]
  have g:=gap k _ _ e1 e2;have a1:ixD (.lst .(aO)) (.int (1+(k:ah)-1))=aa (dIv br[k]):=by
   have:(1+(k:ah)-1)=((k:ao):ah):=by omega
   rw[this,ixL,qk,e1];rfl
  have a2:ixD (.lst .(aO)) (.int (1+(k:ah)))=aa (dIv br[k+1]):=by
   have:(1+(k:ah))=((k+1:ao):ah):=by omega
   rw[this,ixL,qk,e2];rfl
  simp only[vSh,vC,b2,ltD,cN,qc,qd,qb,a1,a2];simp only[dIv,cb,eB,qb,qT g]
theorem Je (len:br.length<=10) (iv:∀p∈br,0<=p.1/\p.1<p.2/\p.2<=h) (gap:∀(i:ao) p q,br[i]?=aa p->br[i+1]?=aa q->p.2<q.1) :
  xn [.lst .(aO),.int h]=aa (.bl aj):=by
 refine ca [oS (.lst .(aO)),oS (.int h)] rfl ((iz ?_ (gW (r:=[oS (.int h)]) (a:=af) (xs:=br.map dIv) rfl (by rw[qf];exact szN len .(f)) rfl fun x hx=>?_)).trans (bZ (ME len gap)))
 .exact iI _ 0 10 ⟨by omega,by rw[qf];omega⟩
 .obtain⟨p,hp,rfl⟩:=bJ.mp hx;obtain⟨h1,h2,h3⟩:=iv p hp;exact Pm p h h1 h2 h3
theorem LX {b:BenchT} (g:GoodB h b):sJ [bK b,.int h]=aa (.bl aj):=by simp only[sJ,bK,aT,aC,cc,cF,ag,ak,vSh,vC,b2,cb,eB,qm,qP,qp,qS,bM,qc,qd,qb,qe,uI,kg g.nm,Je g.len g.iv g.gap]
theorem j9 {f:α->D} {nm:α->ai} {xs:ac α} (hf:∀x,∃r,f x=.tup (.str (nm x)::r)) (h1:vSh i ρ=aa (.lst (xs.map f))) (h2:xs.length<=aH) (h3:eS fv ρ=[af]) :
  aK (aR (itF (vSh i)) (ay 0) tT .(p) fv) ρ=aa (.lst ((xs.map nm).map D.str)):=by
 have hc:=jA (fi:=itF (vSh i)) (fe:=b2 ixD (vSh 0) .(e)) (fv:=fv) (ρ:=ρ) (r:=[]) (a:=af) (xs:=xs.map f) (f:=fun d=>match d with|.tup (x::_)=>x|_=>.non) (by unfold itF;rw[h1];rfl) (by rw[qf];exact h2) h3 (fun x hx=>by obtain⟨y,_,rfl⟩:=bJ.mp hx;obtain⟨r,e⟩:=hf y;simp only[b2,vSh,vC,qc,qb,e,cb])
 rw[hc]
 congr 2
 rw[qo,qo];refine ik fun x _=>?_;obtain⟨r,e⟩:=hf x;simp[e]
theorem Ox {bs:ac BenchT} (l1:1<=bs.length) (l8:bs.length<=8) (g:∀x∈bs,GoodB h x) (nd:(bs.map (·.nm)).Nodup):wv [.lst (bs.map bK),.int h]=aa (.bl aj):=by
 refine ca [oS .(aB),oS (.int h)] rfl ((iz ?_ (gW (r:=[oS (.int h)]) (a:=af) (xs:=bs.map bK) rfl (by rw[qf];exact szN l8 .(f)) rfl fun x hx=>?_)).trans (bZ ?_))
 .exact iI _ 1 8 ⟨by rw[qf];omega,by rw[qf];omega⟩
 .obtain⟨p,hp,rfl⟩:=bJ.mp hx;exact LX (g p hp)
 .have:=j9 (i:=0) (fv:=[af]) (ρ:=[oS .(aB),oS (.int h)]) (f:=bK) (nm:=(·.nm)) (xs:=bs) .(aZ) rfl (szN l8 .(f)) rfl;simp only[cF,ag,ak,this,qb,qe];exact lP nd (by rw[qf];omega)
theorem Gv {w:ai×ah} (hb:∀y∈bn,bh y=aj) (g:w.1∈bn/\1<=w.2/\w.2<=h):sv [dW w,.lst (bn.map D.str),.int h]=aa (.bl aj):=by simp only[sv,dW,aT,aC,cc,cF,ag,ak,vSh,vC,b2,cb,eB,qm,qP,qp,qS,bM,qc,qd,qb,qe,uI,nr g.1 hb,im w.2 1 h g.2]
theorem JS {ws:ac (ai×ah)} (hb:∀y∈bn,bh y=aj) (l1:1<=ws.length) (l4:ws.length<=4) (g:∀w∈ws,w.1∈bn/\1<=w.2/\w.2<=h) (nd:(ws.map (·.1)).Nodup):x8 [.lst (ws.map dW),.lst (bn.map D.str),.int h]=aa (.bl aj):=by
 refine ca [oS (.lst (ws.map dW)),oS .(aC),oS (.int h)] rfl ((iz ?_ (gW (r:=[oS .(aC),oS (.int h)]) (a:=af) (xs:=ws.map dW) rfl (by rw[qf];exact szN l4 .(f)) rfl fun x hx=>?_)).trans (bZ ?_))
 .exact iI _ 1 4 ⟨by rw[qf];omega,by rw[qf];omega⟩
 .obtain⟨p,hp,rfl⟩:=bJ.mp hx;exact Gv hb (g p hp)
 .have:=j9 (i:=0) (fv:=[af]) (ρ:=[oS (.lst (ws.map dW)),oS .(aC),oS (.int h)]) (f:=dW) (nm:=(·.1)) (xs:=ws) .(aZ) rfl (szN l4 .(f)) rfl;simp only[cF,ag,ak,this,qb,qe];exact lP nd (by rw[qf];omega)
theorem L1 {s:StepT} (hb:∀y∈bn,bh y=aj) (g:GoodS bn h s):uh [bw s,.lst (bn.map D.str),.int h]=aa (.bl aj):=by simp only[uh,bw,aT,aw,sIf,aC,aV,orT,aY,toB,cF,ag,ak,vSh,vC,b2,cb,eB,fT,qm,qP,qp,qS,bM,qc,qd,qb,qe,cH,ii,qq,zX,kg g.nm,kg g.kd,JS hb g.l1 g.l4 g.ws g.nd]
theorem Gd (hb:∀y∈bn,bh y=aj) (l1:1<=ss.length) (l4:ss.length<=40) (g:∀s∈ss,GoodS bn h s) (nd:(ss.map (·.nm)).Nodup):wS [.lst (ss.map bw),.lst (bn.map D.str),.int h]=aa (.bl aj):=by
 refine ca [oS .(as),oS .(aC),oS (.int h)] rfl ((iz ?_ (gW (r:=[oS .(aC),oS (.int h)]) (a:=af) (xs:=ss.map bw) rfl (by rw[qf];exact szN l4 .(f)) rfl fun x hx=>?_)).trans (bZ ?_))
 .exact iI _ 1 40 ⟨by rw[qf];omega,by rw[qf];omega⟩
 .obtain⟨p,hp,rfl⟩:=bJ.mp hx;exact L1 hb (g p hp)
 .have:=j9 (i:=0) (fv:=[af]) (ρ:=[oS .(as),oS .(aC),oS (.int h)]) (f:=bw) (nm:=(·.nm)) (xs:=ss) .(aZ) rfl (szN l4 .(f)) rfl;simp only[cF,ag,ak,this,qb,qe];exact lP nd (by rw[qf];omega)
end
theorem Db (a b:ai):neA (.str a) (.str b)=aa (.bl (!decide (a=b))):=rfl
theorem CV {a b c:D} :jr af (aa 3) (.tup [a,b,c,d])=aa (.tup [a,b,c]):=rfl
theorem QT {a b c:D} :jr af (aa 2) (.tup [a,b,c])=aa (.tup [a,b]):=rfl
theorem xM {α β:Type} {f:α->ac β} {m:ao}:∀{l:ac α},(∀x∈l,(f x).length<=m)->(l.flatMap f).length<=l.length*m
 |[],_=>by simp
 |x::r,h=>by have h1:=h x qg;have h2:=xM (l:=r) fun y hy=>h y (qh _ hy);rw[jo,qj,qi,oz];omega
variable {js:ac JobT} {us:ac SetT} {ls:ac LinkT} {ks:ac StockT}
section
variable {bn:ac ai}
theorem Js {j:JobT} (hs:∀y∈sn,bh y=aj) (hl:sn.length<=40) (g:GoodJ sn h j):vO [bf j,.lst (sn.map D.str),.int h]=aa (.bl aj):=by
 refine ca [oS (bf j),oS .(V),oS (.int h)] rfl ((JV ?_ ?_ ?_).trans ((iz ?_ ?_).trans (bZ (AM ?_ (gW (r:=[oS .(V)]) (a:=af) (xs:=j.ms.map D.str) ?_ ?_ rfl fun x hx=>?_)))))
 .exact BI
 .simp only[bf,cF,ag,ak,vSh,vC,b2,cb,qc,qb,qe,kg g.nm]
 .simp only[bf,cF,ag,ak,vSh,vC,b2,cV,tyD,sX,qc,qb,qe,i5]
 .simp only[bf,cF,ag,ak,vSh,vC,b2,eB,qc,qd,qb,qe,im _ 0 h g.ea]
 .simp only[bf,cF,ag,ak,vSh,vC,b2,fT,qc,qd,qb,qe,im _ 0 h g.du]
 .simp only[bf,cF,ag,ak,vSh,vC,b2,bR,lH,qc,qd,qb,qe];exact iI _ _ _ ⟨by rw[qf];have:=g.l1;omega,by rw[qf,qf];have:=g.ln;omega⟩
 .simp only[bf,vSh,vC,b2,itF,pV,lH,qc,qb]
 .rw[qf];exact szN (qN g.ln hl) .(f)
 .obtain⟨m,hm,rfl⟩:=bJ.mp hx;simp only[cF,ag,ak,vSh,qc,qd,qb,qe,nr (g.ms m hm) hs]
theorem Q4 {H:aq Slot} (hl:js.length<=40) (g:∀j∈js,j.ms.length<=40) :
  ∃z,dO (ay 4) (eP 3 (b2 ixD (vSh 4) .(C))) (js.map bf) [oS .(aj),S,H,aa (.own []),af]=aa (.nx,[oS .(aj),S,H,aa (.own ((js.flatMap (·.ms)).map D.str)),z]):=by
 obtain⟨ρ',h1,z,h2⟩:=o3 (gg:=ay 4) (body:=eP 3 (b2 ixD (vSh 4) .(C))) (xs:=js.map bf) (ρ:=[oS .(aj),S,H,aa (.own []),af])
  (fun i ρ=>∃z,ρ=[oS .(aj),S,H,aa (.own (((js.take i).flatMap (·.ms)).map D.str)),z]) ⟨af,by simp⟩ (fun i x ρ hx hI=>by
   obtain⟨z,rfl⟩:=hI;rw[qk] at hx;obtain⟨j,hj,rfl⟩:=oMd hx;have hm:j∈js:=qQ hj;have t1:((js.take i).flatMap (·.ms)).length<=(js.take i).length*40:=xM fun y hy=>g y (rP hy);have t2:(js.take i).length<=40:=by rw[qE];omega
   have t3:=g j hm;have tk:js.take (i+1)=js.take i++[j]:=by rw[zj,hj];rfl
   have sz:(((js.take i).flatMap (·.ms)).map D.str).length+(j.ms.map D.str).length<=aH:=by rw[qf,qf];unfold aH;omega
   refine⟨_,[oS .(aj),S,H,aa (.own (((js.take (i+1)).flatMap (·.ms)).map D.str)),oS (bf j)],rfl,?_,_,rfl⟩;have e:b2 ixD (vSh 4) .(C) [oS .(aj),S,H,aa (.own (((js.take i).flatMap (·.ms)).map D.str)),oS (bf j)]=aa (.lst (j.ms.map D.str)):=by simp only[bf,vSh,vC,b2,lH,qc,qd,qb]
   simp only[eP,mT,FR,qc,qd,e,qb,qX sz,tk];simp)
 refine⟨z,?_⟩;rw[h1,h2,qf,ij]
theorem Ji (hs:∀y∈sn,bh y=aj) (hl:sn.length<=40) (l4:js.length<=40) (g:∀j∈js,GoodJ sn h j) (nd:(js.map (·.nm)).Nodup) (nm:(js.flatMap (·.ms)).Nodup) (ml:(js.flatMap (·.ms)).length<=300):ya [.lst (js.map bf),.lst (sn.map D.str),.int h]=aa (.bl aj):=by
 obtain⟨z,hz⟩:=Q4 (js:=js) (S:=oS .(V)) (H:=oS (.int h)) l4 fun j hj=>qN (g j hj).ln hl;refine ca [oS .(aj),oS .(V),oS (.int h),af,af] (ρ':=[oS .(aj),oS .(V),oS (.int h),oS (.lst ((js.flatMap (·.ms)).map D.str)),z]) rfl ((iz ?_ (gW (r:=[oS .(V),oS (.int h)]) (a:=af) (xs:=js.map bf) rfl (by rw[qf];exact szN l4 .(f)) rfl fun x hx=>?_)).trans ?_)
 .exact iI _ 0 40 ⟨by omega,by rw[qf];omega⟩
 .obtain⟨p,hp,rfl⟩:=bJ.mp hx;simp only[cF,ag,ak,vSh,qc,qd,qb,qe,Js hs hl (g p hp)]
 .have nn:=j9 (i:=0) (fv:=[af]) (ρ:=[oS .(aj),oS .(V),oS (.int h),oS (.lst ((js.flatMap (·.ms)).map D.str)),z]) (f:=bf) (nm:=(·.nm)) (xs:=js) .(aZ) rfl (szN l4 .(f)) rfl;have u1:cF e7 Xh [oS .(aj),oS .(V),oS (.int h),oS (.lst ((js.flatMap (·.ms)).map D.str)),z]=aa (.bl aj):=
   aU (ax nn aJ) (lP nd (by rw[qf];omega))
  have u2:cF e7 .(aI) [oS .(aj),oS .(V),oS (.int h),oS (.lst ((js.flatMap (·.ms)).map D.str)),z]=aa (.bl aj):=
   aU .(D) (lP nm ml)
  have r:=bZ (AM u1 u2);have z0:(0<=aH)=True:=by simp
  simp only[aw,dQ,szF,ak,qb,qe,ql,z0,cy,mT,FR,bE,itF,vSh,qc,pV];rw[hz];simp only[qb,dY,qc,qd,mT,FR];exact r
theorem Ol {u:SetT} (hb:∀y∈bn,bh y=aj) (g:GoodU bn h u):sS [cY u,.lst (bn.map D.str),.int h]=aa (.bl aj):=by simp only[sS,cY,aT,aw,sIf,aC,aV,cc,orT,aY,toB,cF,ag,ak,vSh,vC,b2,cb,eB,fT,sX,qm,qP,qp,qS,bM,qc,qd,qb,qe,cH,ii,qq,Mv,nr g.b hb,kg g.p,kg g.q,im _ 1 h g.n]
theorem GX (hb:∀y∈bn,bh y=aj) (l4:us.length<=100) (g:∀u∈us,GoodU bn h u) (nd:(us.map fun u=>[u.b,u.p,u.q]).Nodup):wy [.lst (us.map cY),.lst (bn.map D.str),.int h]=aa (.bl aj):=by
 refine ca [oS (.lst (us.map cY)),oS .(aC),oS (.int h)] rfl ((iz ?_ (gW (r:=[oS .(aC),oS (.int h)]) (a:=af) (xs:=us.map cY) rfl (by rw[qf];exact szN l4 .(f)) rfl fun x hx=>?_)).trans (bZ (aU (ax (jA (r:=[]) (a:=af) (xs:=us.map cY) (f:=fun d=>match d with|.tup [a,b,c,d]=>.tup [a,b,c]|_=>.non) rfl (by rw[qf];exact szN l4 .(f)) rfl fun x hx=>?_) aJ) ?_)))
 .exact iI _ 0 100 ⟨by omega,by rw[qf];omega⟩
 .obtain⟨p,hp,rfl⟩:=bJ.mp hx;simp only[cF,ag,ak,vSh,qc,qd,qb,qe,Ol hb (g p hp)]
 .obtain⟨p,hp,rfl⟩:=bJ.mp hx;simp only[vSh,vC,slF,pN,pS,qc,qb,cY,CV]
 .have:=CM nd (by rw[qf];omega);rw[qo] at this ⊢;exact this
theorem OZ {l:LinkT} (hs:∀y∈sn,bh y=aj) (g:GoodL sn h l):uj [c0 l,.lst (sn.map D.str),.int h]=aa (.bl aj):=by have:=g.ne;simp only[uj,c0,aT,aw,sIf,aC,aV,cc,orT,aY,toB,cF,ag,ak,vSh,vC,b2,cb,eB,fT,qm,qP,qp,qS,bM,qc,qd,qb,qe,cH,ii,oI,qq,zX,nr g.a hs,nr g.b hs,Db,qO g.ne,im _ 0 h g.g]
theorem Lk (hs:∀y∈sn,bh y=aj) (l4:ls.length<=100) (g:∀l∈ls,GoodL sn h l) (nd:(ls.map fun l=>[l.a,l.b]).Nodup):xg [.lst (ls.map c0),.lst (sn.map D.str),.int h]=aa (.bl aj):=by
 refine ca [oS (.lst (ls.map c0)),oS .(V),oS (.int h)] rfl ((iz ?_ (gW (r:=[oS .(V),oS (.int h)]) (a:=af) (xs:=ls.map c0) rfl (by rw[qf];exact szN l4 .(f)) rfl fun x hx=>?_)).trans (bZ (aU (ax (jA (r:=[]) (a:=af) (xs:=ls.map c0) (f:=fun d=>match d with|.tup [a,b,c]=>.tup [a,b]|_=>.non) rfl (by rw[qf];exact szN l4 .(f)) rfl fun x hx=>?_) aJ) ?_)))
 .exact iI _ 0 100 ⟨by omega,by rw[qf];omega⟩
 .obtain⟨p,hp,rfl⟩:=bJ.mp hx;simp only[cF,ag,ak,vSh,qc,qd,qb,qe,OZ hs (g p hp)]
 .obtain⟨p,hp,rfl⟩:=bJ.mp hx;simp only[vSh,vC,slF,pN,pS,qc,qb,c0,QT]
 .have:=CM nd (by rw[qf];omega);rw[qo] at this ⊢;exact this
theorem L7 {w:ai×ah} (hs:∀y∈sn,bh y=aj) (g:w.1∈sn/\1<=w.2/\w.2<=1000000):tV [dW w,.lst (sn.map D.str)]=aa (.bl aj):=by simp only[tV,dW,aT,aC,cc,cF,ag,ak,vSh,vC,b2,cb,eB,qm,qP,qp,qS,bM,qc,qd,qb,qe,uI,nr g.1 hs,im w.2 1 1000000 g.2]
theorem BA {ws:ac (ai×ah)} (hs:∀y∈sn,bh y=aj) (hl:sn.length<=40) (g:GoodA sn ws):sd [.lst (ws.map dW),.lst (sn.map D.str)]=aa (.bl aj):=by
 have l4:ws.length<=40:=qN g.ln hl;refine ca [oS (.lst (ws.map dW)),oS .(V)] rfl ((iz ?_ (gW (r:=[oS .(V)]) (a:=af) (xs:=ws.map dW) rfl (by rw[qf];exact szN l4 .(f)) rfl fun x hx=>?_)).trans (bZ ?_))
 .have e:=iI (ws.map dW) 0 ((sn.map D.str).length:ao) ⟨by omega,by rw[qf,qf];have:=g.ln;omega⟩;simp only[cF,ag,ak,vSh,vC,bR,qc,qd,qb,qe];exact e
 .obtain⟨p,hp,rfl⟩:=bJ.mp hx;simp only[cF,ag,ak,vSh,qc,qd,qb,qe,L7 hs (g.ws p hp)]
 .have:=j9 (i:=0) (fv:=[af]) (ρ:=[oS (.lst (ws.map dW)),oS .(V)]) (f:=dW) (nm:=(·.1)) (xs:=ws) .(aZ) rfl (szN l4 .(f)) rfl;exact aU (ax this aJ) (lP g.nd (by rw[qf];omega))
theorem R1 {k:StockT} (hs:∀y∈sn,bh y=aj) (hl:sn.length<=40) (g:GoodK sn k):sL [dc k,.lst (sn.map D.str)]=aa (.bl aj):=by simp only[sL,dc,aT,aw,sIf,aC,aV,cc,orT,aY,toB,cF,ag,ak,vSh,vC,b2,cb,eB,fT,sX,lH,qm,qP,qp,qS,bM,qc,qd,qb,qe,cH,ii,qq,BI,kg g.nm,im _ 0 1000000 g.hi,im _ 0 _ g.lo,BA hs hl g.tk,BA hs hl g.pt]
theorem Jh (hs:∀y∈sn,bh y=aj) (hl:sn.length<=40) (l4:ks.length<=6) (g:∀k∈ks,GoodK sn k) (nd:(ks.map (·.nm)).Nodup):wW [.lst (ks.map dc),.lst (sn.map D.str)]=aa (.bl aj):=by
 refine ca [oS (.lst (ks.map dc)),oS .(V)] rfl ((iz ?_ (gW (r:=[oS .(V)]) (a:=af) (xs:=ks.map dc) rfl (by rw[qf];exact szN l4 .(f)) rfl fun x hx=>?_)).trans (bZ ?_))
 .exact iI _ 0 6 ⟨by omega,by rw[qf];omega⟩
 .obtain⟨p,hp,rfl⟩:=bJ.mp hx;simp only[cF,ag,ak,vSh,qc,qd,qb,qe,R1 hs hl (g p hp)]
 .have:=j9 (i:=0) (fv:=[af]) (ρ:=[oS (.lst (ks.map dc)),oS .(V)]) (f:=dc) (nm:=(·.nm)) (xs:=ks) .(aZ) rfl (szN l4 .(f)) rfl;exact aU (ax this aJ) (lP nd (by rw[qf];omega))
end
section
variable {bs:ac BenchT}
theorem Good.bnn (g:Good bs ss js us ls ks h):∀y∈bs.map (·.nm),bh y=aj:=fun y hy=>by obtain⟨b,hb,rfl⟩:=bJ.mp hy;exact(g.b b hb).nm
theorem Good.snn (g:Good bs ss js us ls ks h):∀y∈ss.map (·.nm),bh y=aj:=fun y hy=>by obtain⟨b,hb,rfl⟩:=bJ.mp hy;exact(g.s b hb).nm
theorem Ru (g:Good bs ss js us ls ks h) (ml:(js.flatMap (·.ms)).length<=300):vF [.lst (bs.map bK),.lst (ss.map bw),.lst (js.map bf),.lst (us.map cY),.lst (ls.map c0),.lst (ks.map dc),.int h]=aa .non:=by
 have hb:=g.bnn;have hs:=g.snn;have hl:(ss.map (·.nm)).length<=40:=by rw[qf];exact g.sl.2
 have n1:∀z:aq Slot,aK (aR (itF (vSh 0)) (ay 0) tT .(p) [af]) [oS .(aB),oS .(as),oS .(aj),oS (.lst (us.map cY)),oS (.lst (ls.map c0)),oS (.lst (ks.map dc)),oS (.int h),af,af]=aa (.lst ((bs.map (·.nm)).map D.str)):=fun z=>
  j9 (f:=bK) (nm:=(·.nm)) (xs:=bs) .(aZ) rfl (szN g.bl.2 .(f)) rfl
 have n2:aK (aR (itF (vSh 1)) (ay 0) tT .(p) [af]) [oS .(aB),oS .(as),oS .(aj),oS (.lst (us.map cY)),oS (.lst (ls.map c0)),oS (.lst (ks.map dc)),oS (.int h),oS (.lst ((bs.map (·.nm)).map D.str)),af]=aa (.lst ((ss.map (·.nm)).map D.str)):=
  j9 (f:=bw) (nm:=(·.nm)) (xs:=ss) .(aZ) rfl (szN g.sl.2 .(f)) rfl
 refine ca [oS .(aB),oS .(as),oS .(aj),oS (.lst (us.map cY)),oS (.lst (ls.map c0)),oS (.lst (ks.map dc)),oS (.int h),af,af] rfl ((lM ?_).trans ((lM ?_).trans ((kO (n1 af)).trans ((lM ?_).trans ((kO n2).trans ((lM ?_).trans ((lM ?_).trans ((lM ?_).trans ((lM ?_).trans (bZ rfl))))))))))
 .exact im h 1 1000000 g.hh
 .exact Ox g.bl.1 g.bl.2 g.b g.bn
 .exact Gd hb g.sl.1 g.sl.2 g.s g.sn
 .exact Ji hs hl g.jl g.j g.jn g.jm ml
 .exact GX hb g.ul g.u g.un
 .exact Lk hs g.ll g.l g.ln
 .exact Jh hs hl g.kl g.k g.kn
end
noncomputable def Pl:ao->D->Prop
 |0,_=>False
 |n+1,.lst l=>l.length<=aH/\∀x∈l,Pl n x
 |n+1,.tup l=>l.length<=aH/\∀x∈l,Pl n x
 |_+1,.non=>True
 |_+1,.bl _=>True
 |_+1,.int _=>True
 |_+1,.str _=>True
 |_+1,_=>False
theorem iY {X E:FS} (h:ft ρ=aa ar):aw (sIf ft X aV) E ρ=E ρ:=by simp only[aw,sIf,h,qb,qq,cH,aV]
theorem CL {A B E:FS} (h:ft ρ=aa aj) (h2:A ρ=aa (.rt d,ρ')):aw (sIf ft A B) E ρ=aa (.rt d,ρ'):=by simp only[aw,sIf,h,qb,cy,h2]
theorem xD:∀(n:ao) (d:D),Pl n d->iU n [d]=aa d
 |0,_,h=>h.elim
 |n+1,.lst l,h=>by
  refine ca [oS (.lst l)] rfl (CL (bF (b:=aj) ?_) (bZ ?_))
  .simp only[cF,ag,ak,vSh,vC,cV,tyD,qc,qb,qe,k1]
  .have:=jA (fi:=itF (vSh 0)) (fe:=cF (iU n) .(ac)) (fv:=[af]) (ρ:=[oS (.lst l)]) (r:=[]) (a:=af) (xs:=l) (f:=fun x=>x) rfl h.1 rfl (fun x hx=>by simp only[cF,ag,ak,vSh,qc,qb,qe,xD n x (h.2 x hx)]);rw[Ub] at this;exact this
 |n+1,.tup l,h=>by
  refine ca [oS (.tup l)] rfl ((iY (bF (b:=ar) ?_)).trans (CL (bF (b:=aj) ?_) (bZ (aU (ax (d:=.lst l) ?_ aJ) rfl))))
  .simp only[cF,ag,ak,vSh,vC,cV,tyD,qc,qb,qe,k2]
  .simp only[cF,ag,ak,vSh,vC,cV,tyD,qc,qb,qe,k3]
  .have:=jA (fi:=itF (vSh 0)) (fe:=cF (iU n) .(ac)) (fv:=[af]) (ρ:=[oS (.tup l)]) (r:=[]) (a:=af) (xs:=l) (f:=fun x=>x) rfl h.1 rfl (fun x hx=>by simp only[cF,ag,ak,vSh,qc,qb,qe,xD n x (h.2 x hx)]);rw[Ub] at this;exact this
 |n+1,.non,h=>by
  show iV (iU n) [.non]=aa .non;unfold iV;refine ca [oS .non] rfl ((iY (bF (b:=ar) ?_)).trans ((iY (bF (b:=ar) ?_)).trans (bZ (f:=vSh 0) rfl)))<;>simp only[cF,ag,ak,vSh,vC,cV,tyD,qc,qb,qe,k10,k11]
 |n+1,.bl b,h=>by
  show iV (iU n) [.bl b]=aa (.bl b);unfold iV;refine ca [oS (.bl b)] rfl ((iY (bF (b:=ar) ?_)).trans ((iY (bF (b:=ar) ?_)).trans (bZ (f:=vSh 0) rfl)))<;>simp only[cF,ag,ak,vSh,vC,cV,tyD,qc,qb,qe,k8,k9]
 |n+1,.int b,h=>by
  show iV (iU n) [.int b]=aa (.int b);unfold iV;refine ca [oS (.int b)] rfl ((iY (bF (b:=ar) ?_)).trans ((iY (bF (b:=ar) ?_)).trans (bZ (f:=vSh 0) rfl)))<;>simp only[cF,ag,ak,vSh,vC,cV,tyD,qc,qb,qe,k6,k7]
 |n+1,.str b,h=>by show iV (iU n) [.str b]=aa (.str b);unfold iV;refine ca [oS (.str b)] rfl ((iY (bF (b:=ar) ?_)).trans ((iY (bF (b:=ar) ?_)).trans (bZ (f:=vSh 0) rfl)))<;>simp only[cF,ag,ak,vSh,vC,cV,tyD,qc,qb,qe,k4,k4,k5]
theorem iA (h:Pl 8 d):eK [d]=aa d:=xD 8 d h
theorem gQ {f:α->D} {xs:ac α} (hl:xs.length<=1000) (h:∀x∈xs,Pl n (f x)):Pl (n+1) (.lst (xs.map f)):=
 ⟨by rw[qf];exact szN hl .(f),fun x hx=>by obtain⟨y,hy,rfl⟩:=bJ.mp hx;exact h y hy⟩
theorem GV {xs:ac ai} (hl:xs.length<=1000):Pl (n+2) (.lst (xs.map D.str)):=gQ hl fun x _=>(trivial:Pl (n+1) (.str x))
theorem ux {xs:ac (ai×ah)} (hl:xs.length<=1000):Pl (n+3) (.lst (xs.map dW)):=gQ hl fun x _=>⟨by simp[aH],by intro y hy;simp only[qM,qJ,or_false] at hy;rcases hy with rfl|rfl<;>trivial⟩
theorem AE {b:BenchT} (g:GoodB h b):Pl (n+4) (bK b):=⟨by simp[aH],by
 intro y hy;simp only[qM,qJ,or_false] at hy;rcases hy with rfl|rfl
 .trivial
 .exact gQ (by have:=g.len;omega) fun x _=>⟨by simp[aH],by intro y hy;simp only[qM,qJ,or_false] at hy;rcases hy with rfl|rfl<;>trivial⟩⟩
theorem GU {bn:ac ai} {s:StepT} (g:GoodS bn h s):Pl (n+4) (bw s):=⟨by simp[aH],by
 intro y hy;simp only[qM,qJ,or_false] at hy;rcases hy with rfl|rfl|rfl
 .trivial
 .trivial
 .exact ux (by have:=g.l4;omega)⟩
theorem wR {j:JobT} (hl:sn.length<=40) (g:GoodJ sn h j):Pl (n+3) (bf j):=⟨by simp[aH],by
 intro y hy;simp only[qM,qJ,or_false] at hy;rcases hy with rfl|rfl|rfl|rfl|rfl
 .trivial
 .trivial
 .trivial
 .trivial
 .exact GV (by have:=g.ln;omega)⟩
theorem Ms {u:SetT} :Pl (n+2) (cY u):=⟨by simp[aH],by intro y hy;simp only[qM,qJ,or_false] at hy;rcases hy with rfl|rfl|rfl|rfl<;>trivial⟩
theorem AB {u:LinkT} :Pl (n+2) (c0 u):=⟨by simp[aH],by intro y hy;simp only[qM,qJ,or_false] at hy;rcases hy with rfl|rfl|rfl<;>trivial⟩
theorem Ir {k:StockT} (hl:sn.length<=40) (g:GoodK sn k):Pl (n+4) (dc k):=⟨by simp[aH],by
 intro y hy;simp only[qM,qJ,or_false] at hy;rcases hy with rfl|rfl|rfl|rfl|rfl
 .trivial
 .trivial
 .trivial
 .exact ux (by have:=g.tk.ln;omega)
 .exact ux (by have:=g.pt.ln;omega)⟩
theorem Bv {nm:α->ai} {f:α->D} :∀(xs:ac α),nW (xs.map fun x=>.tup [.str (nm x),f x])=aa (xs.map fun x=>(.inr (nm x),f x)):=by
 intro xs0
 induction xs0 with
 |nil=>
  exact rfl
 |cons x r ih=>
  simp only[qm,nW,fS,qb,ih,qe]
theorem BL {t:α->ac ai} {f:α->D} :∀(xs:ac α),lG (xs.map fun x=>.tup [.tup ((t x).map D.str),f x])=aa (xs.map fun x=>((t x).map cD,f x)):=by
 intro xs0
 induction xs0 with
 |nil=>
  exact rfl
 |cons x r ih=>
  simp only[qm,lG,nv,qb,ih,qe]
theorem xY [dG κ] {ps:ac (κ×D)} (h:(ps.map (·.1)).Nodup):o0 ps=ps:=by
 have key:∀(l a:ac (κ×D)),((a++l).map (·.1)).Nodup->l.foldl (fun acc kv=>bW acc kv.1 kv.2) a=a++l:=by
  intro l
  induction l with
  |nil=>intro a _;simp
  |cons x r ih=>
   intro a hn;have hx:(a.any fun kv=>decide (kv.1=x.1))=ar:=by rw[Sj];intro y hy z;rw[dZ,mS] at hn;exact hn.2.2 y.1 (qW hy) x.1 (by simp) (dh z)
   rw[fQ];have e:bW a x.1 x.2=a++[x]:=by unfold bW;rw[hx];rfl
   rw[e,ih (a++[x]) (by simpa using hn)];simp
 simpa[o0] using key ps [] (by simpa using h)
theorem nj {β:Type}:∀{fs:ac (ai×β)} {i:ao} {k:ai} {d:β},(fs.map (·.1)).Nodup->fs[i]?=aa (k,d)->fs.lookup k=aa d
 |[],i,k,d,_,h=>by simp at h
 |(a,b)::r,0,k,d,_,h=>by
  simp only[qc,zh,Uc] at h;obtain⟨rfl,rfl⟩:=h;simp[cX]
 |(a,b)::r,i+1,k,d,nd,h=>by
  rw[qd] at h;rw[qm,eA] at nd;have ne:k≠a:=by intro z;subst z;exact nd.1 (qW (f:=(·.1)) (qQ h))
  have hb:(k==a)=ar:=by simpa using ne
  simp only[cX,hb];exact nj nd.2 h
theorem ma :∀{fs:ac (ai×β)} {k:ai},k∉fs.map (·.1)->fs.lookup k=af:=by
 intro xs0
 induction xs0 with
 |nil=>
  intro _ _;exact rfl
 |cons x0 r ih=>
  obtain⟨a,b⟩:=x0;intro k h;rw[qm,qM,rR] at h;have hb:(k==a)=ar:=by simpa using h.1
  simp only[cX,hb];exact ih h.2
def gF (j:JobT) (acc:ac (Key×D)) (m:ai):ac (Key×D):=bW acc (.inr m) (bf j)
def jkv (js:ac JobT):ac (Key×D):=js.foldl (fun acc j=>j.ms.foldl (gF j) acc) []
theorem jq [dG κ] (kvs:ac (κ×D)) (k:κ) (v:D):(bW kvs k v).length<=kvs.length+1:=by
 unfold bW;split
 .rw[qf];omega
 .rw[qj];simp
theorem Dq (j:JobT):∀(ms:ac ai) (acc:ac (Key×D)),(ms.foldl (gF j) acc).length<=acc.length+ms.length:=by
 intro xs0
 induction xs0 with
 |nil=>
  intro acc;simp
 |cons m r ih=>
  intro acc;rw[fQ];have h1:=ih (gF j acc m);have h2:(gF j acc m).length<=acc.length+1:=jq _ _ _;rw[qi];omega
theorem AU {m:ao}:∀{js:ac JobT} (acc:ac (Key×D)),(∀j∈js,j.ms.length<=m)->(js.foldl (fun acc j=>j.ms.foldl (gF j) acc) acc).length<=acc.length+js.length*m
 |[],acc,_=>by simp
 |j::r,acc,h=>by rw[fQ];have h1:=AU (js:=r) (j.ms.foldl (gF j) acc) fun y hy=>h y (qh _ hy);have h2:=Dq j j.ms acc;have h3:=h j qg;rw[qi,oz];omega
def ir (bs:ac BenchT) (ss:ac StepT) (js:ac JobT) (us:ac SetT) (ls:ac LinkT) (ks:ac StockT) (h:ah):ac (ai×D):=
 [("benches",.lst (bs.map bK)),("steps",.lst (ss.map bw)),("jobs",.lst (js.map bf)),("setups",.lst (us.map cY)),("links",.lst (ls.map c0)),("stocks",.lst (ks.map dc)),("horizon",.int h),
 ("bench_by_name",.dk (bs.map fun b=>(.inr b.nm,bK b))),("step_by_name",.dk (ss.map fun s=>(.inr s.nm,bw s))),("setup_by_names",.dt (us.map fun u=>([u.b,u.p,u.q].map cD,.int u.n)))]
def nO (bs:ac BenchT) (ss:ac StepT) (js:ac JobT) (us:ac SetT) (ls:ac LinkT) (ks:ac StockT) (h:ah):ac (ai×D):=ir bs ss js us ls ks h++[(("job_by_step":ai),D.dk (jkv js))]
def bQ (bs:ac BenchT) (ss:ac StepT) (js:ac JobT) (us:ac SetT) (ls:ac LinkT) (ks:ac StockT) (h:ah):D:=.ins "Shop" (nO bs ss js us ls ks h)
noncomputable def ky:ac ai:=["benches","steps","jobs","setups","links","stocks","horizon","bench_by_name","step_by_name","setup_by_names","job_by_step"]
theorem tI:ky.Nodup:=by decide +kernel
theorem wN {l:ac α} (h:l.Nodup) (n:ao):(l.take n).Nodup:=oK (mH n l) h
section
variable {fs:ac (ai×D)} {f:ai} {fv:FE}
theorem iG (n:ao) (hk:ky[n]?=aa f) (hf:fs.map (·.1)=ky.take n) (h:fv (aa (.obj "Shop" fs)::r)=aa d):aw (gj "Shop" f 0 fv) g (aa (.obj "Shop" fs)::r)=g (aa (.obj "Shop" (fs++[(f,d)]))::r):=by
 have hno:fs.lookup f=af:=ma (by
  rw[hf];intro z;obtain⟨i,hi⟩:=FU z;have hin:i<n:=by
   rcases mN i n with q|q
   .exact q
   .rw[yL (by rw[qE];omega)] at hi;cases hi
  rw[uU hin] at hi;have:=(List.getElem?_inj (df.mp hi).1 tI).mp (hi.trans hk.symm);omega)
 have hlen:fs.length<100:=by have:=bU c8 hf;rw[qf,qE] at this;have k:ky.length=11:=rfl;omega
 simp only[aw,gj,h,qb,qc,hno,hlen,and_self,cy,mT]
theorem wq (n i:ao) (hf:fs.map (·.1)=ky.take n) (h:fs[i]?=aa (f,d)):iS "Shop" f 0 (aa (.obj "Shop" fs)::r)=aa d:=by have e:fs.lookup f=aa d:=nj (by rw[hf];exact wN tI n) h;show(if aa ("Shop":ai)=aa ("Shop":ai) then fs.lookup f else af)=aa d;rw[qX rfl,e]
end
theorem B8 {f:α->D} {nm:α->ai} {xs:ac α} (hf:∀x,∃r,f x=.tup (.str (nm x)::r)) (h1:fo ρ=aa (.lst (xs.map f))) (h2:xs.length<=1000) (nd:(xs.map nm).Nodup) :
  cF ip (ag (aK (aR (itF fo) (ay 0) tT (bm (szF (ag .(p) .(ac)))) [af])) ak) ρ=aa (.dk (xs.map fun x=>(.inr (nm x),f x))):=by
 have hc:=jA (fi:=itF fo) (fe:=bm (szF (ag .(p) .(ac)))) (fv:=[af]) (ρ:=ρ) (r:=[]) (a:=af) (xs:=xs.map f) (f:=fun d=>.tup [match d with|.tup (x::_)=>x|_=>.non,d]) (by unfold itF;rw[h1];rfl) (by rw[qf];exact szN h2 .(f)) rfl (fun x hx=>by obtain⟨y,_,rfl⟩:=bJ.mp hx;obtain⟨r,e⟩:=hf y;simp only[ag,ak,vSh,vC,b2,bm,szF,cb,qc,qb,qe,cy,qi,ql,lz,sz2,e])
 have e:(xs.map f).map (fun d=>D.tup [match d with|.tup (x::_)=>x|_=>.non,d])=xs.map fun x=>.tup [.str (nm x),f x]:=by rw[qo];refine ik fun x _=>?_;obtain⟨r,e⟩:=hf x;simp[e]
 rw[e] at hc;have kn:((xs.map fun x=>((.inr (nm x):Key),f x)).map (·.1)).Nodup:=by rw[qo];have:=vq (S:=fun a b:Key=>a≠b) (cD:ai->Key) (fun a b hab z=>hab (hG z)) nd;rw[qo] at this;exact this
 refine aU (ax hc aJ) ?_;show(if _ then _ else _)=_;rw[qX (by rw[qf];exact h2),Bv,qe,xY kn]
theorem Hg (h1:fo ρ=aa (.lst (us.map cY))) (h2:us.length<=1000) (nd:(us.map fun u=>[u.b,u.p,u.q]).Nodup) :
  cF ng (ag (aK (aR (itF fo) (ay 0) tT (bm (szF (ag (slF (vSh 0) pN (pS .(L))) (ag (b2 ixD (vSh 0) .(L)) ak)))) [af])) ak) ρ=aa (.dt (us.map fun u=>([u.b,u.p,u.q].map cD,.int u.n))):=by
 have hc:=jA (fi:=itF fo) (fe:=bm (szF (ag (slF (vSh 0) pN (pS .(L))) (ag (b2 ixD (vSh 0) .(L)) ak)))) (fv:=[af]) (ρ:=ρ) (r:=[]) (a:=af) (xs:=us.map cY) (f:=fun d=>match d with|.tup [a,b,c,d]=>.tup [.tup [a,b,c],d]|_=>.non) (by unfold itF;rw[h1];rfl) (by rw[qf];exact szN h2 .(f)) rfl (fun x hx=>by obtain⟨y,_,rfl⟩:=bJ.mp hx;simp only[ag,ak,vSh,vC,b2,bm,szF,slF,pN,pS,sX,qc,qb,qe,cy,qi,ql,lz,sz2,cY,CV])
 rw[qo] at hc;have kn:((us.map fun u=>([u.b,u.p,u.q].map (cD:ai->Key),D.int u.n)).map (·.1)).Nodup:=by rw[qo];have inj:∀a b:ac ai,a.map (cD:ai->Key)=b.map cD->a=b:=fun a b z=>(FP (fun x y q=>hG q)).mp z;have:=vq (S:=fun a b:ac Key=>a≠b) (yP (cD:ai->Key)) (fun a b hab z=>hab (inj a b z)) nd;rw[qo] at this;exact this
 refine aU (ax hc aJ) ?_;show(if _ then _ else _)=_;have e:=BL (t:=fun u:SetT=>[u.b,u.p,u.q]) (f:=fun u=>.int u.n) us;rw[qX (by rw[qf];omega)];have e2:lG (us.map ((fun d=>match d with|.tup [a,b,c,d]=>D.tup [.tup [a,b,c],d]|_=>.non) ∘ cY))=aa (us.map fun u=>([u.b,u.p,u.q].map cD,.int u.n)):=e;rw[e2,qe,xY kn]
section
variable {bs:ac BenchT}
theorem xA:.(bq).map (·.1)=ky.take 10:=rfl
theorem De:(nO bs ss js us ls ks h).map (·.1)=ky:=rfl
abbrev r9 (bs:ac BenchT) (ss:ac StepT) (js:ac JobT) (us:ac SetT) (ls:ac LinkT) (ks:ac StockT) (h:ah) (a b:aq Slot):bo:=[oS .(aB),oS .(as),oS .(aj),oS (.lst (us.map cY)),oS (.lst (ls.map c0)),oS (.lst (ks.map dc)),oS (.int h),oS .non,a,b]
abbrev ob (bs:ac BenchT) (ss:ac StepT) (js:ac JobT) (us:ac SetT) (ls:ac LinkT) (ks:ac StockT) (h:ah) (kvs:ac (Key×D)):aq Slot:=aa (.objd "Shop" .(bq) "job_by_step" kvs)
theorem Py {j:JobT} {kvs:ac (Key×D)} (hl:kvs.length<100000):iX "Shop" "job_by_step" 0 (vSh 10) (vSh 9) (ob bs ss js us ls ks h kvs::r9 bs ss js us ls ks h (oS (bf j)) (oS (.str m)))=aa (.nx,ob bs ss js us ls ks h (gF j kvs m)::r9 bs ss js us ls ks h (oS (bf j)) (oS (.str m))):=by have hno:.(bq).lookup ("job_by_step":ai)=af:=ma (by rw[xA];decide +kernel);simp only[iX,vSh,qc,qd,qb,fS,hno,hl,and_self,cy,mT,gF]
theorem JE {j:JobT} {acc:ac (Key×D)} {z:aq Slot} (hl:acc.length+j.ms.length<100000):∃z',bE (itF (b2 ixD (vSh 9) .(C))) (ay 10) (iX "Shop" "job_by_step" 0 (vSh 10) (vSh 9)) (ob bs ss js us ls ks h acc::r9 bs ss js us ls ks h (oS (bf j)) z)=aa (.nx,ob bs ss js us ls ks h (j.ms.foldl (gF j) acc)::r9 bs ss js us ls ks h (oS (bf j)) z'):=by
 obtain⟨ρ',h1,z',h2⟩:=o3 (gg:=ay 10) (body:=iX "Shop" "job_by_step" 0 (vSh 10) (vSh 9)) (xs:=j.ms.map D.str) (ρ:=ob bs ss js us ls ks h acc::r9 bs ss js us ls ks h (oS (bf j)) z)
  (fun i ρ=>∃z,ρ=ob bs ss js us ls ks h ((j.ms.take i).foldl (gF j) acc)::r9 bs ss js us ls ks h (oS (bf j)) z) ⟨z,by simp⟩ (fun i x ρ hx hI=>by
   obtain⟨z,rfl⟩:=hI;rw[qk] at hx;obtain⟨m,hm,rfl⟩:=oMd hx;have tk:j.ms.take (i+1)=j.ms.take i++[m]:=by rw[zj,hm];rfl
   have hlen:=Dq j (j.ms.take i) acc;rw[qE] at hlen;refine⟨_,_,rfl,Py .(b),oS (.str m),?_⟩;rw[tk,yZ];rfl)
 refine⟨z',?_⟩;have e:itF (b2 ixD (vSh 9) .(C)) (ob bs ss js us ls ks h acc::r9 bs ss js us ls ks h (oS (bf j)) z)=aa (j.ms.map D.str):=by simp only[vSh,vC,b2,itF,pV,lH,qc,qd,qb,bf]
 unfold bE;rw[e,qb,h1,h2,qf,ij]
theorem IB (hj:js.length<=40) (hm:∀j∈js,j.ms.length<=40):∃z z',dO (ay 9) Xf (js.map bf) (ob bs ss js us ls ks h []::r9 bs ss js us ls ks h af af)=aa (.nx,ob bs ss js us ls ks h (jkv js)::r9 bs ss js us ls ks h z z'):=by
 obtain⟨ρ',h1,z,z',h2⟩:=o3 (gg:=ay 9) (body:=bE (itF (b2 ixD (vSh 9) .(C))) (ay 10) (iX "Shop" "job_by_step" 0 (vSh 10) (vSh 9))) (xs:=js.map bf) (ρ:=ob bs ss js us ls ks h []::r9 bs ss js us ls ks h af af)
  (fun i ρ=>∃z z',ρ=ob bs ss js us ls ks h (jkv (js.take i))::r9 bs ss js us ls ks h z z') ⟨af,af,by simp[jkv]⟩ (fun i x ρ hx hI=>by
   obtain⟨z,z',rfl⟩:=hI;rw[qk] at hx;obtain⟨j,hjm,rfl⟩:=oMd hx;have tk:js.take (i+1)=js.take i++[j]:=by rw[zj,hjm];rfl
   have hlen:=AU (m:=40) (js:=js.take i) [] fun y hy=>hm y (rP hy);rw[qE,ql] at hlen;have h4:=hm j (qQ hjm);obtain⟨w,hw⟩:=JE (bs:=bs) (ss:=ss) (js:=js) (us:=us) (ls:=ls) (ks:=ks) (h:=h) (j:=j) (acc:=jkv (js.take i)) (z:=z') (by unfold jkv;omega);refine⟨_,_,rfl,hw,oS (bf j),w,?_⟩;rw[tk];unfold jkv;rw[yZ];rfl)
 refine⟨z,z',?_⟩;rw[h1,h2,qf,ij]
theorem HJ (g:Good bs ss js us ls ks h) (ml:(js.flatMap (·.ms)).length<=300):xq [.lst (bs.map bK),.lst (ss.map bw),.lst (js.map bf),.lst (us.map cY),.lst (ls.map c0),.lst (ks.map dc),.int h]=aa .(l):=by
 have hl:(ss.map (·.nm)).length<=40:=by rw[qf];exact g.sl.2
 have f1:=iA (d:=.lst (bs.map bK)) (gQ (by have:=g.bl.2;omega) fun x hx=>AE (g.b x hx));have f2:=iA (d:=.lst (ss.map bw)) (gQ (by have:=g.sl.2;omega) fun x hx=>GU (g.s x hx));have f3:=iA (d:=.lst (js.map bf)) (gQ (by have:=g.jl;omega) fun x hx=>wR hl (g.j x hx));have f4:=iA (d:=.lst (us.map cY)) (gQ (by have:=g.ul;omega) fun x hx=>Ms);have f5:=iA (d:=.lst (ls.map c0)) (gQ (by have:=g.ll;omega) fun x hx=>AB);have f6:=iA (d:=.lst (ks.map dc)) (gQ (by have:=g.kl;omega) fun x hx=>Ir hl (g.k x hx));obtain⟨z,z',ho⟩:=IB (bs:=bs) (ss:=ss) (us:=us) (ls:=ls) (ks:=ks) (h:=h) g.jl fun j hj=>qN (g.j j hj).ln hl;have key:∀(G:FS) (ρ':bo),G (aa (.obj "Shop" [])::[oS .(aB),oS .(as),oS .(aj),oS (.lst (us.map cY)),oS (.lst (ls.map c0)),oS (.lst (ks.map dc)),oS (.int h),af,af,af])=aa (.nx,ob bs ss js us ls ks h (jkv js)::ρ')->
   mX 3 "Shop" G [.lst (bs.map bK),.lst (ss.map bw),.lst (js.map bf),.lst (us.map cY),.lst (ls.map c0),.lst (ks.map dc),.int h]=aa .(l):=fun G ρ' e=>by
  unfold mX;show(G (aa (.obj "Shop" [])::[oS .(aB),oS .(as),oS .(aj),oS (.lst (us.map cY)),oS (.lst (ls.map c0)),oS (.lst (ks.map dc)),oS (.int h),af,af,af])).bind _=_;rw[e];rfl
 refine key _ (r9 bs ss js us ls ks h z z') ((kO (aU rfl (Ru g ml))).trans ?_);show aw _ _ (aa (.obj "Shop" [])::r9 bs ss js us ls ks h af af)=_;refine(iY (bF (b:=ar) rfl)).trans ?_;refine(iG 0 rfl rfl (aU rfl f1)).trans ?_;refine(iG 1 rfl rfl (aU rfl f2)).trans ?_;refine(iG 2 rfl rfl (aU rfl f3)).trans ?_;refine(iG 3 rfl rfl (aU rfl f4)).trans ?_;refine(iG 4 rfl rfl (aU rfl f5)).trans ?_;refine(iG 5 rfl rfl (aU rfl f6)).trans ?_;refine(iG 6 rfl rfl (d:=.int h) rfl).trans ?_;refine(iG 7 rfl rfl (B8 (f:=bK) (nm:=(·.nm)) (xs:=bs) .(aZ) (wq 7 0 rfl rfl) (by have:=g.bl.2;omega) g.bn)).trans ?_;refine(iG 8 rfl rfl (B8 (f:=bw) (nm:=(·.nm)) (xs:=ss) .(aZ) (wq 8 1 rfl rfl) (by have:=g.sl.2;omega) g.sn)).trans ?_;refine(iG 9 rfl rfl (Hg (us:=us) (wq 9 3 rfl rfl) (by have:=g.ul;omega) g.un)).trans ?_;have hno:.(bq).lookup ("job_by_step":ai)=af:=ma (by rw[xA];decide +kernel);have hle:.(bq).length<100:=by simp[ir]
 have e1:nU "Shop" "job_by_step" 0 (aa (.obj "Shop" .(bq))::r9 bs ss js us ls ks h af af)=aa (.nx,ob bs ss js us ls ks h []::r9 bs ss js us ls ks h af af):=by simp only[nU,qc,hno,hle,and_self,cy,mT]
 have e2:itF (iS "Shop" "jobs" 0) (ob bs ss js us ls ks h []::r9 bs ss js us ls ks h af af)=aa (js.map bf):=by
  have lk:.(bq).lookup ("jobs":ai)=aa .(aj):=nj (i:=2) (by rw[xA];exact wN tI 10) rfl;have n1:("jobs":ai)≠"job_by_step":=by decide +kernel
  have e:iS "Shop" "jobs" 0 (ob bs ss js us ls ks h []::r9 bs ss js us ls ks h af af)=aa .(aj):=by show(if aa ("Shop":ai)=aa ("Shop":ai) then (if ("jobs":ai)="job_by_step" then af else .(bq).lookup ("jobs":ai)) else af)=_;rw[qX rfl,qY n1,lk]
  unfold itF;rw[e];rfl
 show aw (nU "Shop" "job_by_step" 0) (bE (itF (iS "Shop" "jobs" 0)) (ay 9) Xf) (aa (.obj "Shop" .(bq))::r9 bs ss js us ls ks h af af)=_;unfold aw;rw[e1,qb];show bE _ _ _ _=_;unfold bE;rw[e2,qb];exact ho
end
noncomputable def Wp (o:aq α) (P:α->Prop):Prop:=∃a,o=aa a/\P a
section
variable {o:aq α} {P Q:α->Prop}
theorem Wp.imp (h:Wp o P) (k:∀a,P a->Q a):Wp o Q:=let ⟨a,e,p⟩:=h;⟨a,e,k a p⟩
theorem dM {f:α->aq β} {P:β->Prop} (h:Wp o fun a=>Wp (f a) P):Wp (o.bind f) P:=by obtain⟨a,rfl,b,e,p⟩:=h;exact⟨b,e,p⟩
theorem nz {f:α->β} {P:β->Prop} (h:Wp o fun a=>P (f a)):Wp (o.map f) P:=by obtain⟨a,rfl,p⟩:=h;exact⟨_,rfl,p⟩
theorem aB {a:α} (e:o=aa a) (p:P a):Wp o P:=⟨a,e,p⟩
theorem w_2 {G:D->D->aq D} {P:D->Prop} (h:Wp (fa ρ) fun x=>Wp (fb ρ) fun y=>Wp (G x y) P):Wp (b2 G fa fb ρ) P:=dM (h.imp fun _ k=>dM k)
theorem w_1 {G:D->aq D} {P:D->Prop} (h:Wp (fa ρ) fun x=>Wp (G x) P):Wp (b1 G fa ρ) P:=dM h
theorem w_c {P:D->Prop} (p:P d):Wp (vC d ρ) P:=⟨d,rfl,p⟩
theorem aX {P:D->Prop} (h:ρ[i]?=aa (oS d)) (p:P d):Wp (vSh i ρ) P:=⟨d,by unfold vSh;rw[h],p⟩
theorem aS {P:ac D->Prop} (h:Wp (fa ρ) fun x=>Wp (fr ρ) fun l=>P (x::l)):Wp (ag fa fr ρ) P:=dM (h.imp fun _ k=>nz k)
theorem bS {P:ac D->Prop} (p:P []):Wp (ak ρ) P:=⟨_,rfl,p⟩
theorem Dv {P:ac D->Prop} (h:Wp (fr ρ) fun l=>l.length<=1000/\P l):Wp (szF fr ρ) P:=dM (h.imp fun l k=>⟨l,qX (by unfold aH;omega),k.2⟩)
theorem f8 {P:D->Prop} (h:Wp (fr ρ) fun l=>l.length<=1000/\P (.tup l)):Wp (bm (szF fr) ρ) P:=nz (Dv h)
theorem kJ {P:D->Prop} (h:Wp (fr ρ) fun l=>l.length<=1000/\P (.lst l)):Wp (aK (szF fr) ρ) P:=nz (Dv h)
theorem gL {F:FQ} {P:D->Prop} (h:Wp (fr ρ) fun l=>Wp (F l) P):Wp (cF F fr ρ) P:=dM h
theorem fH {a b:ah} {P:D->Prop} (p:P (.int (a+b))):Wp (aN (.int a) (.int b)) P:=⟨_,rfl,p⟩
theorem lU {a b:ah} {P:D->Prop} (h:0<b) (p:∀n,0<=n->n<b->n=a%b->P (.int n)):Wp (eC (.int a) (.int b)) P:=⟨_,qX h,p _ (S' _ .(b)) (Ta _ h) rfl⟩
theorem tD {a b:ah} {P:D->Prop} (h:0<b/\b<1073741824) (p:P (.int (a / b))):Wp (iO (.int a) (.int b)) P:=⟨_,qX h,p⟩
theorem i9 {P:aP->Prop} (h:Wp (f ρ) fun d=>∃b,d=.bl b/\P b):Wp (toB f ρ) P:=dM (h.imp fun d ⟨b,e,p⟩=>by subst e;exact⟨b,rfl,p⟩)
theorem Lr {a b:ah} {P:D->Prop} (p:P (.bl (decide (a<=b)))):Wp (leD (.int a) (.int b)) P:=⟨_,rfl,p⟩
theorem Nj {a b:ah} {P:D->Prop} (p:P (.bl (decide (a<b)))):Wp (ltD (.int a) (.int b)) P:=⟨_,rfl,p⟩
theorem OF {a b:ah} {P:D->Prop} (p:P (.bl (decide (b<a)))):Wp (gtD (.int a) (.int b)) P:=⟨_,rfl,p⟩
theorem Lx {a b:ah} {P:D->Prop} (p:P (.bl (decide (b<=a)))):Wp (geD (.int a) (.int b)) P:=⟨_,rfl,p⟩
theorem sK {a b:ah} {P:D->Prop} (p:∀c:aP,(c=aj↔a=b)->P (.bl c)):Wp (eqD (.int a) (.int b)) P:=⟨_,rfl,p _ (by simp)⟩
theorem Cw {P:aP->Prop} (h:Wp (ft ρ) fun b=>if b=aj then Wp (gt ρ) P else P ar):Wp (fK ft gt ρ) P:=dM (h.imp fun b k=>by
 cases b with
 |true=>exact k
 |false=>exact⟨_,rfl,k⟩)
theorem nK {P:aP->Prop} (h:Wp (ft ρ) fun b=>if b=aj then P aj else Wp (gt ρ) P):Wp (orT ft gt ρ) P:=dM (h.imp fun b k=>by
 cases b with
 |false=>exact k
 |true=>exact⟨_,rfl,k⟩)
theorem bX (h:Wp (g ρ) fun r=>r.1=.nx/\Wp (g' r.2) R):Wp (aw g g' ρ) R:=dM (h.imp fun⟨fl,ρ'⟩ ⟨e,k⟩=>by have e:fl=.nx:=e;subst e;exact k)
theorem fg (h:Wp (f ρ) fun d=>R (.nx,ρ.set j (oS d))):Wp (aL j f ρ) R:=nz h
theorem bp (h:Wp (f ρ) fun d=>Wp (g (ρ.set j (oS d))) R):Wp (aw (aL j f) g ρ) R:=bX (fg (h.imp fun _ k=>⟨rfl,k⟩))
theorem Gp (h:Wp (fr ρ) fun d=>R (.nx,ρ.set j (aa (.own d)))):Wp (dQ j fr ρ) R:=nz h
theorem AG (h:Wp (fr ρ) fun d=>Wp (g (ρ.set j (aa (.own d)))) R):Wp (aw (dQ j fr) g ρ) R:=bX (Gp (h.imp fun _ k=>⟨rfl,k⟩))
theorem kH (h:Wp (g (ρ.set j (aa (.own [])))) R):Wp (aw (dQ j (szF ak)) g ρ) R:=AG ⟨[],rfl,h⟩
theorem Ap (hs:ρ[j]?=aa (aa (.own ds))) (hl:ds.length<=1000) (h:Wp (f ρ) fun d=>R (.nx,ρ.set j (aa (.own (ds++[d]))))):Wp (fM j f ρ) R:=by unfold fM;rw[hs];exact dM (h.imp fun d k=>⟨_,qX (by unfold aH;omega),k⟩)
theorem me (hs:ρ[j]?=aa (aa (.own ds))) (h:Wp (g (ρ.set j (oS (.lst ds)))) R):Wp (dY j g ρ) R:=by unfold dY;rw[hs];exact h
theorem cP (h:Wp (f ρ) fun d=>R (.rt d,ρ)):Wp (aC f ρ) R:=nz h
theorem dD (h:R (.nx,ρ)):Wp (aV ρ) R:=⟨_,rfl,h⟩
theorem dz (I:ao->bo->Prop) (h:Wp (fi ρ) fun xs=>I 0 ρ/\(∀i x ρ,xs[i]?=aa x->I i ρ->Wp (gg x ρ) fun ρ1=>Wp (g ρ1) fun r=>r.1=.nx/\I (i+1) r.2)/\∀ρ,I xs.length ρ->R (.nx,ρ)):Wp (bE fi gg g ρ) R:=dM (h.imp fun xs ⟨h0,hs,he⟩=>by
 have key:∀(n i:ao) (ρ:bo),i+n=xs.length->I i ρ->Wp (dO gg g (xs.drop i) ρ) fun r=>r.1=.nx/\I xs.length r.2:=by
  intro n
  induction n with
  |zero=>
   intro i ρ hi hI;have e:i=xs.length:=by omega
   subst e;rw[u7];exact⟨_,rfl,rfl,hI⟩
  |succ n ih=>
   intro i ρ hi hI;have hlt:i<xs.length:=by omega
   rw[rM hlt];unfold dO;refine dM ((hs i xs[i] ρ (by simp[hlt]) hI).imp fun ρ1 k=>dM (k.imp fun⟨fl,ρ2⟩ ⟨e,hI2⟩=>?_));have e:fl=.nx:=e;subst e;exact ih (i+1) ρ2 .(b) hI2
 have:=key xs.length 0 ρ .(b) h0;rw[oE] at this;exact this.imp fun⟨fl,ρ'⟩ ⟨e,k⟩=>by have e:fl=.nx:=e;subst e;exact he ρ' k)
theorem cW {P:D->Prop} (h:Wp (g (ds.map .(X)++bM n af)) fun r=>∃d,r.1=.rt d/\P d):Wp (aT n g ds) P:=dM (h.imp fun⟨fl,ρ'⟩ ⟨d,e,p⟩=>by have e:fl=.rt d:=e;subst e;exact⟨d,rfl,p⟩)
theorem iN {P:ac D->Prop} (h:Wp (fr ρ) fun l=>∃n:ah,l=[.int n]/\0<=n/\n<=1000/\P ((cx n.toNat).map fun i:ao=>D.int (0+i))):Wp (itR dN fr ρ) P:=by unfold itR;exact dM (h.imp fun l ⟨n,e,h0,h1,k⟩=>⟨_,by rw[e];exact tE ⟨h0,by omega⟩,k⟩)
theorem kq {x:D} (h:((cx n).map fun i:ao=>D.int (0+(i:ah)))[i]?=aa x):i<n/\x=.int i:=by rw[qk] at h;obtain⟨k,hk,rfl⟩:=oMd h;obtain⟨hlt,e⟩:=df.mp hk;rw[List.getElem_range] at e;rw[qV] at hlt;subst e;exact⟨hlt,by rw[vt]⟩
end
theorem ff (h:Wp (ft ρ) fun b=>if b=aj then Wp (f ρ) fun d=>R (.rt d,ρ) else Wp (g' ρ) R):Wp (aw (sIf ft (aC f) aV) g' ρ) R:=by
 obtain⟨b,e,k⟩:=h;unfold aw sIf;rw[e];cases b with
 |true=>
  obtain⟨d,e2,k⟩:=k;refine⟨(.rt d,ρ),?_,k⟩;show((aC f ρ).bind _)=_;unfold aC;rw[e2];rfl
 |false=>exact k
theorem mm {a b:ah} {P:D->Prop} (h:(-(2 ^ 64)<a/\a<2 ^ 64)\/(-(2 ^ 64)<b/\b<2 ^ 64)) (p:P (.int (a*b))):Wp (cT (.int a) (.int b)) P:=⟨_,qX h,p⟩
theorem PV {P:D->Prop} (p:P (.int ns.length)):Wp (bR [.scr ns]) P:=⟨_,rfl,p⟩
theorem kF:(2:ah) ^ 64=18446744073709551616:=by decide +kernel
theorem MM {n:ah} {P:D->Prop} (h0:0<=n) (h1:n<ns.length) (p:∀m,P (.int m)):Wp (ixD (.scr ns) (.int n)) P:=by
 obtain⟨k,rfl⟩:=oM h0;refine⟨.int (ns.getD k 0),?_,p _⟩;show(atI ns (k:ah)).map D.int=_;rw[gz];have:k<ns.length:=by omega
 simp[yO,this]
theorem AO {a:ah} {P:D->Prop} (h:n<=1000000) (h2:a.natAbs<2 ^ 64) (p:P (.int (a ^ n))):Wp (jK (.int a) (.int n)) P:=⟨_,by show(if 0<=(n:ah)/\(n:ah)<=1000000/\a.natAbs<2 ^ 64 then aa (D.int (a ^ (n:ah).toNat)) else af)=_;rw[qX ⟨by omega,by omega,h2⟩,gO],p⟩
theorem cO (h:Wp (ft ρ) fun b=>(b=aj->Wp (g ρ) R)/\(b=ar->Wp (g' ρ) R)):Wp (sIf ft g g' ρ) R:=dM (h.imp fun b k=>by
 cases b with
 |true=>exact k.1 rfl
 |false=>exact k.2 rfl)
theorem xT {m:α->D} {xs:ac α} (x:α) (hs:ρ[j]?=aa (aa (.own (xs.map m)))) (hl:xs.length<=1000) (h:Wp (f ρ) fun d=>d=m x/\R (.nx,ρ.set j (aa (.own ((xs++[x]).map m))))):Wp (fM j f ρ) R:=
 Ap hs (by rw[qf];exact hl) (h.imp fun d ⟨e,k⟩=>by subst e;rw[dZ] at k;exact k)
structure GoodI (h f:ah) (br:ac (ah×ah)):Prop where
 iv:∀p∈br,0<=p.1/\p.1<p.2/\p.2<=h/\p.2<f
 gap:∀(i:ao) p q,br[i]?=aa p->br[i+1]?=aa q->p.2<q.1
theorem GoodI.snoc {f b e:ah} (g:GoodI h f br) (h0:0<=f) (h1:f<=b) (h2:b<e) (h3:e<=h):GoodI h (e+1) (br++[(b,e)]):=by
 refine⟨fun p hp=>?_,fun i p q hp hq=>?_⟩
 .rcases dA.mp hp with hp|hp
  .have:=g.iv p hp;exact⟨this.1,this.2.1,this.2.2.1,by omega⟩
  .rw[bL.mp hp];exact⟨by show 0<=b;omega,h2,h3,by show e<e+1;omega⟩
 .by_cases hi:i+1<br.length
  .rw[qz .(b)] at hp;rw[qz hi] at hq;exact g.gap i p q hp hq
  .by_cases hi2:i+1=br.length
   .rw[qz .(b)] at hp;rw[qL .(b),show i+1-br.length=0 by omega] at hq;cases hq;have:=(g.iv p (qQ hp)).2.2.2;show p.2<b;omega
   .rw[yL (by simp;omega)] at hq;cases hq
noncomputable def bnm (bs:ac BenchT) (i:ao):ai:=(bs.map (·.nm)).getD i ⟨#[]⟩
theorem Jy {bs:ac BenchT} (h:i<bs.length):bnm bs i∈bs.map (·.nm):=by unfold bnm;rw[j0,qk,qD h];exact qW (oF h)
theorem DQ {m:α->D} {nm:α->ai} (hm:∀x,∃r,m x=.tup (.str (nm x)::r)) {xs:ac α} {g:FE} {P:D->Prop} (hf:f ρ=aa (.lst (xs.map m))) (hg:Wp (g ρ) fun d=>∃n:ah,d=.int n/\0<=n/\n<xs.length/\P (.str ((xs.map nm).getD n.toNat ⟨#[]⟩))):Wp (b2 ixD (b2 ixD f g) .(e) ρ) P:=by
 obtain⟨_,e0,n,rfl,h0,h1,p⟩:=hg;obtain⟨k,rfl⟩:=oM h0;have hk:k<xs.length:=by omega
 obtain⟨r,e⟩:=hm xs[k];refine⟨.str (nm xs[k]),?_,?_⟩
 .unfold b2;rw[hf,e0];show(((ixD (.lst (xs.map m)) (.int (k:ah))).bind fun x=>(vC (.int 0) ρ).bind fun y=>ixD x y))=_;rw[ixL,qk,qD hk];show ixD (m xs[k]) (.int 0)=_;rw[e];exact cb
 .rw[gO,j0,qk,qD hk] at p;exact p
theorem Oe {bs:ac BenchT} {g:FE} {P:D->Prop} (hf:f ρ=aa .(aB)) (hg:Wp (g ρ) fun d=>∃n:ah,d=.int n/\0<=n/\n<bs.length/\P (.str (bnm bs n.toNat))):Wp (b2 ixD (b2 ixD f g) .(e) ρ) P:=DQ (m:=bK) (nm:=fun b=>b.nm) (fun x=>⟨[.lst (x.br.map dIv)],rfl⟩) hf hg
theorem Eb {l:ac α} {x:α} (f:α->β) (h:l[i]?=aa x):(l.take (i+1)).map f=(l.take i).map f++[f x]:=by rw[j5,h,dZ];rfl
noncomputable def snm (ss:ac StepT) (i:ao):ai:=(ss.map (·.nm)).getD i ⟨#[]⟩
theorem xm {g:FE} {P:D->Prop} (hf:f ρ=aa .(as)) (hg:Wp (g ρ) fun d=>∃n:ah,d=.int n/\0<=n/\n<ss.length/\P (.str (snm ss n.toNat))):Wp (b2 ixD (b2 ixD f g) .(e) ρ) P:=DQ (m:=bw) (nm:=fun b=>b.nm) .(aZ) hf hg
theorem LI:∀(ns:ac ai),lw (ns.map oJ)=0:=by
 intro xs0
 induction xs0 with
 |nil=>
  simp[lw]
 |cons x r ih=>
  simp[lw,jk,ih]
theorem IF {ns:ac ai} (h:∀x∈ns,bh x=aj):fV (.list (ns.map oJ))=aj:=by simp[fV,jj,Eh h,jk,LI]
theorem BH {ns:ac ai} (h:∀x∈ns,bh x=aj):neA (.lst (ns.map D.str)) (.lst [])=aa (.bl (!ns.isEmpty)):=by
 have e0:neA (.lst (ns.map D.str)) (.lst [])=pI (.lst (ns.map D.str)) (.lst []):=rfl;have s1:=IF h;have s2:fV (.list [])=aj:=by simp[fV,jj,lv,jk,lw]
 have p1:pdD (.lst (ns.map D.str))=aa (.list (ns.map oJ)):=by simp[pdD,Cp]
 have p2:pdD (.lst [])=aa (.list []):=by simp[pdD,em]
 have q:eZ (.list (ns.map oJ)) (.list [])=ns.isEmpty:=by cases ns<;>simp[eZ,oN]
 rw[e0];unfold pI eqX;rw[p1,p2,qb,qb,qX ⟨s1,s2⟩,q];rfl
theorem Cu (h:i<ss.length):snm ss i∈ss.map (·.nm):=by unfold snm;rw[j0,qk,qD h];exact qW (oF h)
theorem oU {l:ac D} {n:ah} {P:D->Prop} (h0:0<=n) (h1:n<l.length) (p:∀d∈l,P d):Wp (ixD (.lst l) (.int n)) P:=by
 obtain⟨k,rfl⟩:=oM h0;have hk:k<l.length:=by omega
 exact⟨l[k],by rw[ixL,qD hk],p _ (oF hk)⟩
theorem wD {a b:D} {P:D->Prop} (h1:P a) (h2:P b):∀d∈[a,b],P d:=by
 intro d hd;simp only[qM,qJ,or_false] at hd;rcases hd with rfl|rfl
 .exact h1
 .exact h2
theorem Pk {a b c:D} {P:D->Prop} (h1:P a) (h2:P b) (h3:P c):∀d∈[a,b,c],P d:=by
 intro d hd;simp only[qM,qJ,or_false] at hd;rcases hd with rfl|rfl|rfl
 .exact h1
 .exact h2
 .exact h3
theorem uq {m:α->D} {xs:ac α} (hs:ρ[j]?=aa (aa (.own (xs.map m)))) (hl:xs.length<=1000) (h:Wp (f ρ) fun d=>∃x,d=m x/\R (.nx,ρ.set j (aa (.own ((xs++[x]).map m))))):Wp (fM j f ρ) R:=
 Ap hs (by rw[qf];exact hl) (h.imp fun d ⟨x,e,k⟩=>by subst e;rw[dZ] at k;exact k)
theorem Ez (Q:bo->Prop) (h2:∀ρ,Q ρ->Wp (g' ρ) R) (h:Wp (g ρ) fun r=>(r.1=.nx/\Q r.2)\/(∃d,r.1=.rt d)/\R r):Wp (aw g g' ρ) R:=by
 obtain⟨⟨fl,ρ'⟩,e,k⟩:=h;unfold aw;rw[e];rcases k with⟨e2,k⟩|⟨⟨d,e2⟩,k⟩
 .have e2:fl=.nx:=e2;subst e2;exact h2 _ k
 .have e2:fl=.rt d:=e2;subst e2;exact⟨_,rfl,k⟩
theorem p18 {P:D->Prop} (p:P (.int (10 ^ 18))):Wp (b2 jK (vC (.int 10)) (vC (.int 18)) ρ) P:=w_2 (w_c (w_c (AO (n:=18) .(f) .(f) p)))
theorem p7 {P:D->Prop} (p:P (.int 10000000)):Wp (b2 jK (vC (.int 10)) (vC (.int 7)) ρ) P:=w_2 (w_c (w_c (AO (n:=7) .(f) .(f) p)))
abbrev drE (c k m:ah) (a b e:aq Slot):bo:=[oS (.int c),oS (.int k),oS (.int m),a,b,e]
theorem Mc (c:ah) {k m:ah} (h0:0<=k) (h1:k<=1000) (hm:0<m):Wp (bz [.int c,.int k,.int m]) fun d=>∃n,d=.int n/\0<=n/\n<m:=by
 unfold bz;refine cW (Ez (fun ρ=>∃a b,ρ=drE c k m a b af) ?_ ?_)
 .rintro _ ⟨a,b,rfl⟩;refine bp (w_2 (w_2 (w_2 (w_2 (w_2 (w_2 (aX rfl (w_c (lU .(f) fun r _ _ _=>w_2 (w_2 (w_c (aX rfl (mm (.inl (by rw[kF];omega)) (aX rfl (mm (.inr (by rw[kF];omega)) (fH (w_2 (w_c (aX rfl (mm (.inl (by rw[kF];omega)) (fH (w_c (fH (w_c (mm (.inr (by rw[kF];omega)) (w_c (lU .(f) fun x x0 x1 _=>?_)))))))))))))))))))))))))));refine bp (w_2 (w_2 (w_2 (w_2 (aX rfl (aX rfl (mm (.inl (by rw[kF];omega)) (w_2 (w_c (aX rfl (mm (.inl (by rw[kF];omega)) (fH (w_c (fH (w_c (lU .(f) fun y y0 y1 _=>?_))))))))))))))));exact cP (w_2 (w_2 (w_2 (aX rfl (aX rfl (mm (.inl (by rw[kF];omega)) (w_c (lU .(f) fun z _ _ _=>aX rfl (lU hm fun n n0 n1 _=>⟨_,rfl,n,rfl,n0,n1⟩)))))))))
 .refine cO (i9 (w_2 (aX rfl (p18 (Lx ⟨_,rfl,fun _=>?_,fun _=>?_⟩)))))
  .refine bp (aX rfl (bX (dz (fun _ ρ=>∃x b,ρ=drE c k m (oS (.int x)) b af) (iN (aS (aX rfl (bS ⟨k,rfl,h0,h1,⟨c,af,rfl⟩,?_,?_⟩)))))))
   .rintro i x ρ hx ⟨x,b,rfl⟩;obtain⟨_,rfl⟩:=kq hx;exact aB rfl (fg (w_2 (aX rfl (p7 (tD .(f) ⟨rfl,_,_,rfl⟩)))))
   .rintro ρ ⟨x,b,rfl⟩;refine⟨rfl,cO (i9 (w_2 (aX rfl (w_c (OF ⟨_,rfl,fun _=>?_,fun _=>?_⟩))))) ⟩
    .exact cP (w_2 (w_2 (aX rfl (p7 (lU .(f) fun z _ _ _=>aX rfl (lU hm fun n n0 n1 _=>.inr ⟨⟨_,rfl⟩,_,rfl,n,rfl,n0,n1⟩))))))
    .exact dD (.inl ⟨rfl,_,_,rfl⟩)
  .exact dD (.inl ⟨rfl,_,_,rfl⟩)
def drw (c k m:ah):ah:=match bz [.int c,.int k,.int m] with
 |some (.int n)=>n
 |_=>0
theorem eV (c:ah) {k m:ah} (h0:0<=k) (h1:k<=1000) (hm:0<m):bz [.int c,.int k,.int m]=aa (.int (drw c k m))/\0<=drw c k m/\drw c k m<m:=by obtain⟨_,e,n,rfl,h⟩:=Mc c h0 h1 hm;unfold drw;rw[e];exact⟨rfl,h⟩
theorem gU {a b:ah} (h : -(2 ^ 64)<a/\a<2 ^ 64:=by decide):cT (.int a) (.int b)=aa (.int (a*b)):=qX (.inl h)
theorem O3 {a b:ah} (h : -(2 ^ 64)<b/\b<2 ^ 64:=by decide):cT (.int a) (.int b)=aa (.int (a*b)):=qX (.inr h)
theorem cJ {c k m:ah} {P:D->Prop} (ha:fa ρ=aa (.int c)) (eb:fb ρ=aa (.int k)) (ec:fc ρ=aa (.int m)) (h0:0<=k) (h1:k<=1000) (hm:0<m) (p:0<=drw c k m->drw c k m<m->P (.int (drw c k m))):Wp (cF bz (ag fa (ag fb (ag fc ak))) ρ) P:=by obtain⟨e,q0,q1⟩:=eV c h0 h1 hm;exact gL (aS (aB ha (aS (aB eb (aS (aB ec (bS (aB e (p q0 q1)))))))))
theorem uk (ns:ac ah) (k:ao):Wp (e9 [.scr ns,.int k]) fun d=>∃n,d=.int n:=by
 unfold e9;refine cW (ff (i9 (w_2 (aX rfl (gL (aS (aX rfl (bS (PV (Nj ⟨_,rfl,?_⟩))))))))));by_cases hk:(k:ah)<ns.length
 .rw[qX (qT hk)];exact w_2 (aX rfl (aX rfl (MM .(b) hk fun m=>⟨_,rfl,m,rfl⟩)))
 .rw[qY (by rw[qO hk];exact qr)];exact cP (w_c ⟨_,rfl,_,rfl⟩)
theorem mj {k:ao} {P:D->Prop} (hf:f ρ=aa (.scr ns)) (p:∀n,P (.int n)):Wp (cF e9 (ag f (ag (vC (.int k)) ak)) ρ) P:=
 gL (aS (aB hf (aS (w_c (bS ((uk ns k).imp fun d ⟨n,e⟩=>by subst e;exact p n))))))
theorem xW {a b:ah} :(if b<a then b else a)<=a/\(if b<a then b else a)<=b/\((if b<a then b else a)=a\/(if b<a then b else a)=b):=by split<;>omega
theorem HZ (c:ah) {k m:ah} (h0:0<=k) (h1:k<=900) (hm:0<=m):Wp (kC [.int c,.int k,.int m]) fun d=>∃n,d=.int n/\0<=n/\n<=m:=by
 unfold kC;refine cW (ff (i9 (w_2 (cJ (k:=k) (m:=4) rfl rfl rfl h0 .(b) .(f) fun _ _=>w_c (sK fun b _=>⟨b,rfl,?_⟩)))));cases b with
 |true=>exact cJ (k:=k+1) (m:=m+1) rfl rfl rfl .(b) .(b) .(b) fun q0 q1=>⟨_,rfl,_,rfl,q0,by omega⟩
 |false=>
  have e:=xW (a:=m) (b:=12);exact cP (cJ (k:=k+1) (m:=(if 12<m then 12 else m)+1) rfl rfl rfl .(b) .(b) .(b) fun q0 q1=>⟨_,rfl,_,rfl,q0,by omega⟩)
theorem wO {c k m:ah} {P:D->Prop} (ha:fa ρ=aa (.int c)) (eb:fb ρ=aa (.int k)) (ec:fc ρ=aa (.int m)) (h0:0<=k) (h1:k<=900) (hm:0<=m) (p:∀n,0<=n->n<=m->P (.int n)):Wp (cF kC (ag fa (ag fb (ag fc ak))) ρ) P:=by exact gL (aS (aB ha (aS (aB eb (aS (aB ec (bS ((HZ c h0 h1 hm).imp fun d ⟨n,e,q0,q1⟩=>by subst e;exact p n q0 q1))))))))
theorem Oy (ns:ac ah):Wp (tQ [.scr ns]) fun d=>∃h,d=.int h/\1<=h/\h<=1000000:=by unfold tQ;refine cW (bp (mj (k:=0) rfl fun c=>cP (w_2 (kJ (aS (w_2 (w_c (cJ (k:=80) (m:=21) rfl rfl rfl .(f) .(f) .(f) fun a0 a1=>fH (aS (w_2 (w_c (cJ (k:=81) (m:=1000000) rfl rfl rfl .(f) .(f) .(f) fun b0 b1=>fH (bS ⟨by simp,?_⟩)))))))))))));exact w_2 (cJ (k:=82) (m:=4) rfl rfl rfl .(f) .(f) .(f) fun q0 q1=>w_c (tD .(f) (oU .(b) (by simp;omega) (wD ⟨_,rfl,_,rfl,by omega,by omega⟩ ⟨_,rfl,_,rfl,by omega,by omega⟩))))
abbrev kE (n k h:ah) (br:ac (ah×ah)) (f:ah) (a b c:aq Slot):bo:=[oS (.int n),oS (.int k),oS (.int h),aa (.own .(aO)),oS (.int f),a,b,c]
theorem JP (n:ah) (hh:0<=h):Wp (uH [.int n,.int 0,.int h]) fun d=>∃br:ac (ah×ah),d=.lst .(aO)/\br.length<=3/\∃f,GoodI h f br:=by
 unfold uH;refine cW (kH (bp (w_c (bX (dz (fun i ρ=>∃(br:ac (ah×ah)) (f:ah) (a b c:aq Slot),ρ=kE n 0 h br f a b c/\br.length<=i/\0<=f/\GoodI h f br) (iN (aS (cJ (k:=0) (m:=4) rfl rfl rfl .(f) .(f) .(f) fun q0 q1=>bS ⟨_,rfl,q0,by omega,?_,?_,?_⟩))))))))
 .exact⟨[],0,af,af,af,rfl,qv _,lD _,⟨(fun _ z=>nomatch z),fun _ _ _ z=>by simp at z⟩⟩
 .rintro i x ρ hx ⟨br,f,a,b,c,rfl,hl,f0,g⟩;obtain⟨hi,rfl⟩:=kq hx;refine aB rfl (bp (w_2 (aX rfl (wO (k:=0+1+4*(i:ah)) (m:=h) rfl .(av) rfl .(b) .(b) hh fun x x0 x1=>fH (bp (w_2 (w_2 (aX rfl (w_c (fH (cJ (k:=0+3+4*(i:ah)) (m:=4) rfl .(av) rfl .(b) .(b) .(f) fun y0 y1=>fH (cO (i9 (w_2 (aX rfl (aX rfl (Lr ⟨_,rfl,fun hc=>?_,fun hc=>?_⟩)))))))))))))))))
  .have hc:=dh hc;refine bX (xT (m:=dIv) (xs:=br) (f+x,f+x+1+drw n (0+3+4*(i:ah)) 4) rfl .(b) (f8 (aS (aX rfl (aS (aX rfl (bS ⟨by simp,rfl,rfl,?_⟩)))))));exact fg (w_2 (aX rfl (w_c (fH ⟨rfl,br++[(f+x,f+x+1+drw n (0+3+4*(i:ah)) 4)],_,_,_,_,rfl,by rw[qj];simp;omega,by omega,g.snoc f0 .(b) .(b) hc⟩))))
  .exact dD ⟨rfl,br,_,_,_,_,rfl,by omega,f0,g⟩
 .rintro ρ ⟨br,f,a,b,c,rfl,hl,f0,g⟩;exact⟨rfl,me (ds:=br.map dIv) rfl (cP (aX rfl ⟨_,rfl,br,rfl,by simp at hl;omega,f,g⟩))⟩
theorem lF (h:g ρ=aa (.nx,ρ1)):aw g g' ρ=g' ρ1:=by unfold aw;rw[h];rfl
theorem C3 :aw (dQ i (szF ak)) g ρ=g (ρ.set i (aa (.own []))):=by
 have z0:(0<=aH)=True:=by simp
 simp only[aw,dQ,szF,ak,qb,qe,ql,z0,cy]
theorem Et (h1:ρ[i]?=aa (aa (.own ds))):dY i g ρ=g (ρ.set i (oS (.lst ds))):=by unfold dY;rw[h1]
theorem na {body:FS} {xs:ac D} (h:fi ρ=aa xs):bE fi gg body ρ=dO gg body xs ρ:=by unfold bE;rw[h];rfl
theorem zF {xs:ac D} (h:(xs.mapIdx fun i d=>D.tup [.int i,d])[i]?=aa d):∃x,xs[i]?=aa x/\d=.tup [.int i,x]:=by rw[Fh] at h;obtain⟨x,hx,rfl⟩:=oMd h;exact⟨x,hx,rfl⟩
theorem mo {g:FE} {x y:D} (h1:f ρ=aa x) (h2:g ρ=aa y):bm (szF (ag f (ag g ak))) ρ=aa (.tup [x,y]):=by simp only[bm,szF,ag,ak,h1,h2,qb,qe,qi,ql,lz,sz2,cy]
theorem Q3 {g e:FE} {x y:D} (h1:f ρ=aa x) (h2:g ρ=aa y) (h3:e ρ=aa z):bm (szF (ag f (ag g (ag e ak)))) ρ=aa (.tup [x,y,z]):=by simp only[bm,szF,ag,ak,h1,h2,h3,qb,qe,qi,ql,lz,sz3,cy]
theorem Gx {xs:ac D} {d:ah} (h:0<=d):jr af (aa d) (.lst xs)=aa (.lst (xs.take d.toNat)):=by
 show aa (D.lst (dn xs af (aa d)))=_;unfold dn HT.sIx;simp only;rw[qY .(b),oE,Ud]
 congr 2
 rw[zk];split
 .rfl
 .rw[mO (qv _),mO .(b)]
theorem JC {xs:ac D} {d:ah} (h:0<=d):jr (aa d) af (.lst xs)=aa (.lst (xs.drop d.toNat)):=by
 show aa (D.lst (dn xs (aa d) af))=_;unfold dn HT.sIx;simp only;rw[qY .(b)]
 congr 2
 rw[zk];split
 .rw[mO (by rw[jg];omega)]
 .rw[zl (qv _),zl .(b)];simp
theorem Dp {g:FE} {xs:ac D} {d:ah} (h1:f ρ=aa (.lst xs)) (h2:g ρ=aa (.int d)) (h:0<=d):slF f pN (pS g) ρ=aa (.lst (xs.take d.toNat)):=by unfold slF pN pS;rw[h1,h2];exact Gx h
theorem Eo {g:FE} {xs:ac D} {d:ah} (h1:f ρ=aa (.lst xs)) (h2:g ρ=aa (.int d)) (h:0<=d):slF f (pS g) pN ρ=aa (.lst (xs.drop d.toNat)):=by unfold slF pN pS;rw[h1,h2];exact JC h
section
variable {bs:ac BenchT}
def cw (bs:ac BenchT) (ss:ac StepT) (js:ac JobT) (us:ac SetT) (ls:ac LinkT) (ks:ac StockT) (h:ah):D:=.tup [.lst (bs.map bK),.lst (ss.map bw),.lst (js.map bf),.lst (us.map cY),.lst (ls.map c0),.lst (ks.map dc),.int h]
theorem ixT (l:ac D) (n:ao):ixD (.tup l) (.int (n:ah))=l[n]?:=gz l n
theorem PD (g:Good bs ss js us ls ks h) (ml:(js.flatMap (·.ms)).length<=300):xB [cw bs ss js us ls ks h]=aa .(l):=
 ca [oS .(t)] rfl (bZ (aU (ax (aA rfl rfl (ixT _ 0)) (ax (aA rfl rfl (ixT _ 1)) (ax (aA rfl rfl (ixT _ 2)) (ax (aA rfl rfl (ixT _ 3)) (ax (aA rfl rfl (ixT _ 4)) (ax (aA rfl rfl (ixT _ 5)) (ax (aA rfl rfl (ixT _ 6)) aJ))))))) (HJ g ml)))
theorem lN {f:ai} (i:ao) (h1:fo ρ=aa .(l)) (h2:(nO bs ss js us ls ks h)[i]?=aa (f,d)):bC "Shop" f fo ρ=aa d:=by unfold bC;rw[h1];show(if ("Shop":ai)="Shop" then (nO bs ss js us ls ks h).lookup f else af)=aa d;rw[qX rfl];exact nj (by rw[De];exact tI) h2
theorem iK {F:FQ} (hm:m∉ky) (h1:fo ρ=aa .(l)) (h2:fr ρ=aa ds) (h3:F (bQ bs ss js us ls ks h::ds)=aa d):bq "Shop" m F fo fr ρ=aa d:=by have hno:(nO bs ss js us ls ks h).lookup m=af:=ma (by rw[De];exact hm);unfold bq;rw[h1];show(if ("Shop":ai)="Shop"/\(nO bs ss js us ls ks h).lookup m=af then (fr ρ).bind fun ds=>F (bQ bs ss js us ls ks h::ds) else af)=_;rw[qX ⟨rfl,hno⟩,h2];exact h3
theorem Gn {f:α->D} {nm:α->ai} {xs:ac α} (hf:∀x,∃r,f x=.tup (.str (nm x)::r)) (h1:fo ρ=aa (.lst (xs.map f))) (h2:xs.length<=aH) (h3:eS fv ρ=[af]) :
  aK (aR (itF fo) (ay 0) tT .(p) fv) ρ=aa (.lst ((xs.map nm).map D.str)):=by
 have hc:=jA (fi:=itF fo) (fe:=b2 ixD (vSh 0) .(e)) (fv:=fv) (ρ:=ρ) (r:=[]) (a:=af) (xs:=xs.map f) (f:=fun d=>match d with|.tup (x::_)=>x|_=>.non) (by unfold itF;rw[h1];rfl) (by rw[qf];exact h2) h3 (fun x hx=>by obtain⟨y,_,rfl⟩:=bJ.mp hx;obtain⟨r,e⟩:=hf y;simp only[b2,vSh,vC,qc,qb,e,cb])
 rw[hc]
 congr 2
 rw[qo,qo];refine ik fun x _=>?_;obtain⟨r,e⟩:=hf x;simp[e]
theorem wL (hl:ss.length<=40):oX [bQ bs ss js us ls ks h]=aa (.lst ((ss.map (·.nm)).map D.str)):=
 ca [oS .(l)] rfl (bZ (Gn (f:=bw) (nm:=(·.nm)) (xs:=ss) .(aZ) (lN 1 rfl rfl) (szN hl .(f)) rfl))
theorem jO [dG κ] (kvs:ac (κ×D)) (k k':κ) (v:D):bc (bW kvs k v) k'=if k'=k then aa v else bc kvs k':=by
 unfold bW;split
 .rename_i hany;by_cases e:k'=k
  .subst e;rw[qX rfl];unfold bc
   induction kvs with
   |nil=>simp at hany
   |cons x r ih=>
    rw[qm,fB];by_cases ex:x.1=k'
    .simp[ex]
    .simp only[qY ex,qO ex];rw[jZ,qO ex,Fa] at hany;exact ih hany
  .rw[qY e];unfold bc
   induction kvs with
   |nil=>rfl
   |cons x r ih=>
    rw[qm,fB,fB];by_cases ex:x.1=k
    .have:¬x.1=k':=fun z=>e (z.symm.trans ex);simp only[qX ex,qO this];by_cases ha:(r.any fun kv=>decide (kv.1=k))=aj
     .exact ih ha
     .have hmap:r.map (fun kv=>if kv.1=k then (kv.1,v) else kv)=r:=by
       conv=>rhs;rw[←Ue r]
       refine ik fun y hy=>?_;have:¬y.1=k:=fun z=>ha (zm.mpr ⟨y,hy,qT z⟩);simp[this]
      rw[hmap]
    .simp only[qY ex];by_cases ex':x.1=k'
     .simp[ex']
     .simp only[qO ex'];rw[jZ,qO ex,Fa] at hany;exact ih hany
 .rename_i hany;have hno:∀x∈kvs,¬x.1=k:=fun x hx z=>hany (zm.mpr ⟨x,hx,qT z⟩);unfold bc;rw[List.find?_append];by_cases e:k'=k
  .subst e;rw[qX rfl];have:kvs.find? (fun kv=>decide (kv.1=k'))=af:=by rw[ve];intro x hx z;exact hno x hx (dh z)
   rw[this];simp
  .rw[qY e];have:¬k=k':=fun z=>e z.symm;simp[this]
noncomputable def prS:ac StepT->ac (StepT×StepT)
 |[]=>[]
 |s::r=>r.map (fun t=>(s,t))++prS r
noncomputable def dP (p:StepT×StepT):D:=.tup [.str p.1.nm,.str p.2.nm]
theorem xo:∀{ss:ac StepT} {n:ao},ss.length<=n->(prS ss).length<=ss.length*n
 |[],_,_=>by simp[prS]
 |s::r,n,h=>by rw[qi] at h;have:=xo (ss:=r) (n:=n) .(b);show(r.map (fun t=>(s,t))++prS r).length<=_;rw[qj,qf,qi,oz];omega
theorem AV {g:α->D} {xs ys:ac α} (h1:ρ[i]?=aa (aa (.own (xs.map g)))) (h2:f ρ=aa (.lst (ys.map g))) (h3:xs.length+ys.length<=10000):eP i f ρ=aa (.nx,ρ.set i (aa (.own ((xs++ys).map g)))):=by unfold eP;rw[h1];show(f ρ).bind _=_;rw[h2,qb];show(if _ then _ else _)=_;rw[qX (by rw[qf,qf];unfold aH;omega),dZ]
theorem Rx {l:ac α} {x:α} (h:l[i]?=aa x):l.drop i=x::l.drop (i+1):=by obtain⟨h1,h2⟩:=df.mp h;rw[rM h1,h2]
abbrev prE (ss:ac StepT) (ps:ac (StepT×StepT)) (a b:aq Slot):bo:=[oS (.lst ((ss.map (·.nm)).map D.str)),aa (.own (ps.map dP)),a,b]
theorem NE (ss:ac StepT) (hl:ss.length<=40):nR [.lst ((ss.map (·.nm)).map D.str)]=aa (.lst ((prS ss).map dP)):=by
 have hpl:=xo (ss:=ss) (n:=40) hl;obtain⟨ρ',h1,ps,a,b,h2,h3⟩:=o3 (gg:=bG 2 (aM (ay 2) (aM (ay 3) bH))) (body:=(eP 1 (aK Xc))) (xs:=((ss.map (·.nm)).map D.str).mapIdx fun i d=>D.tup [.int i,d]) (ρ:=prE ss [] af af)
  (fun i ρ=>∃ps a b,ρ=prE ss ps a b/\ps++prS (ss.drop i)=prS ss) ⟨[],af,af,rfl,rfl⟩ (fun i x ρ hx hI=>by
   obtain⟨ps,a,b,rfl,hps⟩:=hI;obtain⟨y,hy,rfl⟩:=zF hx;rw[qo,qk] at hy;obtain⟨s,hsi,rfl⟩:=oMd hy;have hi:i<ss.length:=(df.mp hsi).1;have hdr:=Rx hsi;have hlen:ps.length+(ss.drop (i+1)).length<=10000:=by have:=bU c8 hps;rw[qj] at this;rw[jg];omega
   have e:aK Xc (prE ss ps (oS (.int i)) (oS .(bg)))=aa (.lst (((ss.drop (i+1)).map fun t=>(s,t)).map dP)):=by
    have e0:itF (slF (vSh 0) (pS (b2 aN (vSh 2) .(h))) pN) (prE ss ps (oS (.int i)) (oS .(bg)))=aa ((ss.drop (i+1)).map fun t=>D.str t.nm):=by have:=Eo (f:=vSh 0) (g:=b2 aN (vSh 2) .(h)) (ρ:=prE ss ps (oS (.int i)) (oS .(bg))) (d:=(i:ah)+1) rfl (aA rfl rfl rfl) .(b);unfold itF;rw[this];show aa _=_;rw[show((i:ah)+1).toNat=i+1 by omega,qo,Uf];rfl
    refine(jA (r:=[oS .(bg)]) (a:=af) (f:=fun d=>.tup [.str s.nm,d]) e0 (by rw[qf,jg];exact szN (k:=40) .(b) .(f)) rfl fun x hx=>mo rfl rfl).trans ?_;rw[qo,qo];rfl
   refine⟨_,_,rfl,AV rfl e (by rw[qf];exact hlen),ps++(ss.drop (i+1)).map (fun t=>(s,t)),_,_,rfl,?_⟩;rw[←hps,hdr,rG];rfl)
 rw[rL,qf,qf,u7] at h3;have h4:ps=prS ss:=by rw[←h3];simp[prS]
 rw[h4] at h2;exact ca [oS (.lst ((ss.map (·.nm)).map D.str)),af,af,af] rfl (C3.trans ((lF ((na (xs:=((ss.map (·.nm)).map D.str).mapIdx fun i d=>D.tup [.int i,d]) rfl).trans (h1.trans (by rw[h2])))).trans ((Et rfl).trans (bZ (f:=vSh 1) rfl))))
end
noncomputable def su (ls:ac LinkT) (a b:ai):aq LinkT:=ls.find? fun l=>decide (l.a=a/\l.b=b)
noncomputable def wrp (m:ai):StepT:=⟨m,m,[]⟩
def uF (ms:ac ai) (a b:ai):aP:=(prS (ms.map wrp)).any fun p=>decide (p.1.nm=a/\p.2.nm=b)
def eJ (js:ac JobT) (ls:ac LinkT) (a b:ai):aq ah:=match su ls a b with
 |some l=>aa l.g
 |none=>if (js.any fun j=>j.od && uF j.ms a b)=aj then aa 0 else af
theorem wb {body:FS} {x:D} {xs:ac D} {ρ2:bo} {R:aq (Fl×bo)} (h1:gg x ρ=aa ρ1) (h2:body ρ1=aa (.nx,ρ2)) (h3:dO gg body xs ρ2=R):dO gg body (x::xs) ρ=R:=by rw[←h3];unfold dO;rw[h1,qb,h2,qb];cases xs<;>rfl
noncomputable abbrev kk (a b:ai):ac Key:=[.inr a,.inr b]
theorem nB {a b d:ai} :kk a b=kk c d↔a=c/\b=d:=by simp[kk]
def iJ (acc:ac .(aG)) (p:StepT×StepT):ac .(aG):=bW acc (kk p.1.nm p.2.nm) (.int 0)
def gV (acc:ac .(aG)) (j:JobT):ac .(aG):=if j.od=aj then (prS (j.ms.map wrp)).foldl iJ acc else acc
def mY (acc:ac .(aG)) (l:LinkT):ac .(aG):=bW acc (kk l.a l.b) (.int l.g)
theorem Ro:∀(ps:ac (StepT×StepT)) (acc:ac .(aG)),(ps.foldl iJ acc).length<=acc.length+ps.length:=by
 intro xs0
 induction xs0 with
 |nil=>
  intro acc;exact qv _
 |cons p r ih=>
  intro acc;have:=ih (iJ acc p);have:=jq acc (kk p.1.nm p.2.nm) (.int 0);rw[fQ,qi];unfold iJ at *;omega
theorem vP (a b:ai):∀(ps:ac (StepT×StepT)) (acc:ac .(aG)),bc (ps.foldl iJ acc) (kk a b)=if (ps.any fun p=>decide (p.1.nm=a/\p.2.nm=b))=aj then aa (.int 0) else bc acc (kk a b):=by
 intro xs0
 induction xs0 with
 |nil=>
  intro acc;exact rfl
 |cons p r ih=>
  intro acc;rw[fQ,ih,jZ];unfold iJ;rw[jO];by_cases h:p.1.nm=a/\p.2.nm=b
  .rw[qX (nB.mpr ⟨h.1.symm,h.2.symm⟩),qT h];show(if _ then _ else _)=aa (D.int 0);split<;>rfl
  .rw[qY (fun z=>h ⟨(nB.mp z).1.symm,(nB.mp z).2.symm⟩),qO h];rfl
theorem vJ (a b:ai):∀(js:ac JobT) (acc:ac .(aG)),bc (js.foldl gV acc) (kk a b)=if (js.any fun j=>j.od && uF j.ms a b)=aj then aa (.int 0) else bc acc (kk a b):=by
 intro xs0
 induction xs0 with
 |nil=>
  intro acc;exact rfl
 |cons j r ih=>
  intro acc;rw[fQ,ih,jZ];unfold gV uF;by_cases h:j.od=aj
  .rw[qX h,vP,h,vm];cases((prS (j.ms.map wrp)).any fun p=>decide (p.1.nm=a/\p.2.nm=b))
   .rfl
   .show(if _ then _ else aa (D.int 0))=aa (D.int 0);split<;>rfl
  .have h':j.od=ar:=by simpa using h
   rw[qY h,h'];rfl
theorem vL (a b:ai):∀(ls:ac LinkT) (acc:ac .(aG)),(ls.map fun l=>[l.a,l.b]).Nodup->bc (ls.foldl mY acc) (kk a b)=match su ls a b with|some l=>aa (.int l.g)|none=>bc acc (kk a b):=by
 intro xs0
 induction xs0 with
 |nil=>
  intro acc _;exact rfl
 |cons l r ih=>
  intro acc nd;rw[qm,eA] at nd;rw[fQ,ih _ nd.2];unfold mY su;rw[jO,fB];by_cases h:l.a=a/\l.b=b
  .rw[qX (nB.mpr ⟨h.1.symm,h.2.symm⟩),qT h];have:r.find? (fun l=>decide (l.a=a/\l.b=b))=af:=by rw[ve];intro x hx z;have z:=dh z;exact nd.1 (bJ.mpr ⟨x,hx,by rw[z.1,z.2,h.1,h.2]⟩)
   rw[this]
  .rw[qY (fun z=>h ⟨(nB.mp z).1.symm,(nB.mp z).2.symm⟩),qO h]
section
variable {bs:ac BenchT}
theorem OL (g:Good bs ss js us ls ks h):uv [bQ bs ss js us ls ks h]=aa .(aj):=by
 have hl:(ss.map (·.nm)).length<=40:=by rw[qf];exact g.sl.2
 have hp:Pl 8 .(aj):=gQ (by have:=g.jl;omega) fun x hx=>wR (n:=4) hl (g.j x hx);exact ca [oS .(l)] rfl (bZ (aU (ax (lN 2 rfl rfl) aJ) (iA hp)))
theorem Gg (g:Good bs ss js us ls ks h):sR [bQ bs ss js us ls ks h]=aa (.lst (ls.map c0)):=by have hp:Pl 8 (.lst (ls.map c0)):=gQ (by have:=g.ll;omega) fun x hx=>AB (n:=5);exact ca [oS .(l)] rfl (bZ (aU (ax (lN 4 rfl rfl) aJ) (iA hp)))
theorem GJ (ms:ac ai):(ms.map wrp).map (·.nm)=ms:=by rw[qo];exact Ue _
theorem Jb (ms:ac ai) (hl:ms.length<=40):nR [.lst (ms.map D.str)]=aa (.lst ((prS (ms.map wrp)).map dP)):=by have:=NE (ms.map wrp) (by rw[qf];exact hl);rw[GJ] at this;exact this
theorem Rm {acc:ac .(aG)} {p:StepT×StepT} (hl:acc.length<100000):eR 1 (vSh 3) .(e) [S,aa (.odt acc),x2,oS (dP p),x4,x5,x6]=aa (.nx,[S,aa (.odt (iJ acc p)),x2,oS (dP p),x4,x5,x6]):=qX hl
theorem zM {S x2 x4 x5 x6:aq Slot}:∀(ps:ac (StepT×StepT)) (acc:ac .(aG)) (z:aq Slot),acc.length+ps.length<100000->∃z',dO (ay 3) (eR 1 (vSh 3) .(e)) (ps.map dP) [S,aa (.odt acc),x2,z,x4,x5,x6]=aa (.nx,[S,aa (.odt (ps.foldl iJ acc)),x2,z',x4,x5,x6])
 |[],acc,z,_=>⟨z,rfl⟩
 |p::r,acc,z,hl=>by rw[qi] at hl;have h1:=jq acc (kk p.1.nm p.2.nm) (.int 0);obtain⟨z',hz⟩:=zM (S:=S) (x2:=x2) (x4:=x4) (x5:=x5) (x6:=x6) r (iJ acc p) (oS (dP p)) (by unfold iJ;omega);exact⟨z',wb rfl (Rm .(b)) hz⟩
def gjB:FS:=sIf (toB (b2 ixD (vSh 2) .(L))) (bE (itF (cF nR (ag (b2 ixD (vSh 2) .(C)) ak))) (ay 3) (eR 1 (vSh 3) .(e))) aV
theorem Cg {A B:FS} (h:ft ρ=aa ar):sIf ft A B ρ=B ρ:=by unfold sIf;rw[h,qb,qY qr]
theorem Ci {A B:FS} (h:ft ρ=aa aj):sIf ft A B ρ=A ρ:=by unfold sIf;rw[h,qb,qX rfl]
theorem Mm {a b c e:D} :ixD (.tup [a,b,c,d,e]) (.int 3)=aa d:=rfl
theorem DL {S x4 x5 x6:aq Slot}:∀(js:ac JobT) (acc:ac .(aG)) (y z:aq Slot),(∀j∈js,j.ms.length<=40)->acc.length+js.length*1600<90000->∃y' z',dO (ay 2) gjB (js.map bf) [S,aa (.odt acc),y,z,x4,x5,x6]=aa (.nx,[S,aa (.odt (js.foldl gV acc)),y',z',x4,x5,x6])/\(js.foldl gV acc).length<=acc.length+js.length*1600
 |[],acc,y,z,_,_=>⟨y,z,rfl,yS _ _⟩
 |j::r,acc,y,z,hm,hl=>by
  rw[qi,oz] at hl;have hj:=hm j qg;have hpl:=xo (ss:=j.ms.map wrp) (n:=40) (by rw[qf];exact hj);rw[qf] at hpl;have h40:j.ms.length*40<=1600:=by omega
  have eT:toB (b2 ixD (vSh 2) .(L)) [S,aa (.odt acc),oS (bf j),z,x4,x5,x6]=aa j.od:=bF (aA rfl rfl Mm);have key:∃z1,gjB [S,aa (.odt acc),oS (bf j),z,x4,x5,x6]=aa (.nx,[S,aa (.odt (gV acc j)),oS (bf j),z1,x4,x5,x6])/\(gV acc j).length<=acc.length+1600:=by
   by_cases ho:j.od=aj
   .rw[ho] at eT;obtain⟨z1,hz⟩:=zM (S:=S) (x2:=oS (bf j)) (x4:=x4) (x5:=x5) (x6:=x6) (prS (j.ms.map wrp)) acc z .(b);have eI:itF (cF nR (ag (b2 ixD (vSh 2) .(C)) ak)) [S,aa (.odt acc),oS (bf j),z,x4,x5,x6]=aa ((prS (j.ms.map wrp)).map dP):=by unfold itF;rw[aU (ax (aA rfl rfl lH) aJ) (Jb j.ms hj)];rfl
    have hP:=Ro (prS (j.ms.map wrp)) acc;unfold gV;rw[qX ho];exact⟨z1,(Ci eT).trans ((na eI).trans hz),by omega⟩
   .have ho':j.od=ar:=by simpa using ho
    rw[ho'] at eT;unfold gV;rw[qY ho];exact⟨z,Cg eT,by omega⟩
  obtain⟨z1,hk,hkl⟩:=key;obtain⟨y',z',hr,hrl⟩:=DL (S:=S) (x4:=x4) (x5:=x5) (x6:=x6) r (gV acc j) (oS (bf j)) z1 (fun x hx=>hm x (qh _ hx)) .(b);exact⟨y',z',wb rfl hk hr,by rw[fQ,qi,oz];omega⟩
theorem BZ {S x2 x3:aq Slot}:∀(ls:ac LinkT) (acc:ac .(aG)) (a b c:aq Slot),acc.length+ls.length<100000->∃a' b' c',dO (bG 3 (aM (ay 4) (aM (ay 5) (aM (ay 6) bH)))) (eR 1 (bm (szF (ag (vSh 4) (ag (vSh 5) ak)))) (vSh 6)) (ls.map c0) [S,aa (.odt acc),x2,x3,a,b,c]=aa (.nx,[S,aa (.odt (ls.foldl mY acc)),x2,x3,a',b',c'])
 |[],acc,a,b,c,_=>⟨a,b,c,rfl⟩
 |l::r,acc,a,b,c,hl=>by rw[qi] at hl;have h1:=jq acc (kk l.a l.b) (.int l.g);obtain⟨a',b',c',hz⟩:=BZ (S:=S) (x2:=x2) (x3:=x3) r (mY acc l) (oS (.str l.a)) (oS (.str l.b)) (oS (.int l.g)) (by unfold mY;omega);refine⟨a',b',c',wb (ρ1:=[S,aa (.odt acc),x2,x3,oS (.str l.a),oS (.str l.b),oS (.int l.g)]) rfl ?_ hz⟩;have e1:bm (szF (ag (vSh 4) (ag (vSh 5) ak))) [S,aa (.odt acc),x2,x3,oS (.str l.a),oS (.str l.b),oS (.int l.g)]=aa (.tup [.str l.a,.str l.b]):=mo rfl rfl;unfold eR;rw[e1];exact qX .(b)
theorem JQ (g:Good bs ss js us ls ks h):∃kvs,yi [bQ bs ss js us ls ks h]=aa (.dt kvs)/\∀a b,bc kvs (kk a b)=(eJ js ls a b).map D.int:=by
 have hm:∀j∈js,j.ms.length<=40:=fun j hj=>by have:=(g.j j hj).ln;rw[qf] at this;have:=g.sl.2;omega
 have hjl:=g.jl;have hll:=g.ll;obtain⟨y',z',h1,hl1⟩:=DL (S:=oS .(l)) (x4:=af) (x5:=af) (x6:=af) js [] af af hm (by rw[ql];omega);rw[ql] at hl1;obtain⟨a',b',c',h2⟩:=BZ (S:=oS .(l)) (x2:=y') (x3:=z') ls (js.foldl gV []) af af af .(b);refine⟨ls.foldl mY (js.foldl gV []),?_,fun a b=>?_⟩
 .have e1:itF (bq "Shop" "job_rows" uv (vSh 0) ak) [oS .(l),aa (.odt []),af,af,af,af,af]=aa (js.map bf):=by unfold itF;rw[iK .(P) rfl aJ (OL g)];rfl
  have e2:itF (bq "Shop" "link_rows" sR (vSh 0) ak) [oS .(l),aa (.odt (js.foldl gV [])),y',z',af,af,af]=aa (ls.map c0):=by unfold itF;rw[iK .(P) rfl aJ (Gg g)];rfl
  exact ca [oS .(l),af,af,af,af,af,af] rfl ((lF (ρ1:=[oS .(l),aa (.odt []),af,af,af,af,af]) rfl).trans ((lF ((na e1).trans h1)).trans ((lF ((na e2).trans h2)).trans (bZ (f:=vSh 1) rfl))))
 .rw[vL a b ls _ g.ln,vJ];unfold eJ;cases su ls a b with
  |some l=>rfl
  |none=>
   show(if _ then _ else _)=_;cases(js.any fun j=>j.od && uF j.ms a b)<;>rfl
end
noncomputable abbrev GT:=ai×ai×ah
noncomputable def dGp (t:GT):D:=.tup [.str t.1,.str t.2.1,.int t.2.2]
def gS (js:ac JobT) (ls:ac LinkT) (nms:ac ai) (a:ai):ac GT:=nms.filterMap fun b=>(eJ js ls a b).map fun g=>(a,b,g)
theorem Ek (js:ac JobT) (ls:ac LinkT) (nms:ac ai) (a:ai):(gS js ls nms a).length<=nms.length:=List.length_filterMap_le _ _
theorem vN (js:ac JobT) (ls:ac LinkT) (nms:ac ai):∀xs:ac ai,(xs.flatMap (gS js ls nms)).length<=xs.length*nms.length:=by
 intro xs0
 induction xs0 with
 |nil=>
  simp
 |cons x r ih=>
  have:=ih;have:=Ek js ls nms x;rw[jo,qj,qi,oz];omega
def pG (js:ac JobT) (ls:ac LinkT) (a:ai):D->aP
 |.str b=>(eJ js ls a b).isSome
 |_=>ar
def fG (js:ac JobT) (ls:ac LinkT) (a:ai):D->D
 |.str b=>.tup [.str a,.str b,.int ((eJ js ls a b).getD 0)]
 |_=>.non
theorem Km (js:ac JobT) (ls:ac LinkT) (a:ai):∀nms:ac ai,((nms.map D.str).filter (pG js ls a)).map (fG js ls a)=(gS js ls nms a).map dGp:=by
 intro xs0
 induction xs0 with
 |nil=>
  exact rfl
 |cons b r ih=>
  have ih:=ih;unfold gS at ih ⊢;rw[qm,j8,yj];cases e:eJ js ls a b with
  |none=>
   have e1:pG js ls a (.str b)=ar:=by show(eJ js ls a b).isSome=ar;rw[e];rfl
   rw[e1];exact ih
  |some q=>
   have e1:pG js ls a (.str b)=aj:=by show(eJ js ls a b).isSome=aj;rw[e];rfl
   have e2:fG js ls a (.str b)=dGp (a,b,q):=by show D.tup [.str a,.str b,.int ((eJ js ls a b).getD 0)]=_;rw[e];rfl
   rw[e1];show fG js ls a (.str b)::_=dGp (a,b,q)::_;rw[e2];exact bU _ ih
section
variable {bs:ac BenchT}
theorem Jf {a:aq Slot} {xs:ac D} {f:D->D} {p:D->aP} (h1:fi ρ=aa xs) (h2:xs.length<=aH) (h3:eS fv ρ=a::r) (h:∀x∈xs,ft (oS x::r)=aa (p x)/\(p x=aj->fe (oS x::r)=aa (f x))) :
  aR fi (ay 0) ft fe fv ρ=aa ((xs.filter p).map f):=by
 simp only[aR,h1,qb,qX h2,h3,BM (a:=a) h]
theorem fD {ys:ac D} (h:fr ρ=aa ys):aK fr ρ=aa (.lst ys):=by unfold aK;rw[h];rfl
theorem koT (hv:∀a b,bc kvs (kk a b)=(eJ js ls a b).map D.int) {a:ai} {nms:ac ai} {o:aq Slot} (hl:nms.length<=40) :
  aK X9 [S,oS (.lst (nms.map D.str)),oS (.dt kvs),o,oS (.str a)]=aa (.lst ((gS js ls nms a).map dGp)):=by
 rw[←Km];refine fD (Jf (r:=[oS (.str a),oS (.dt kvs)]) (a:=af) rfl (by rw[qf];exact szN hl .(f)) rfl fun x hx=>?_);obtain⟨b,_,rfl⟩:=bJ.mp hx;have e1:bm (szF (ag (vSh 1) .(ac))) [oS (.str b),oS (.str a),oS (.dt kvs)]=aa (.tup [.str a,.str b]):=mo rfl rfl;refine⟨bF (aA e1 rfl ?_),fun hp=>?_⟩
 .show aa (D.bl (bc kvs (kk a b)).isSome)=aa (.bl (eJ js ls a b).isSome);rw[hv,yG]
 .have hp':(eJ js ls a b).isSome=aj:=hp;obtain⟨q,hq⟩:=yw.mp hp';refine Q3 rfl rfl (aA rfl e1 ?_);show(aa (bc kvs (kk a b))).bind id=aa (.int ((eJ js ls a b).getD 0));rw[hv,hq];rfl
theorem L3 (g:Good bs ss js us ls ks h):wA [bQ bs ss js us ls ks h]=aa (.lst (((ss.map (·.nm)).flatMap (gS js ls (ss.map (·.nm)))).map dGp)):=by
 obtain⟨kvs,hk,hv⟩:=JQ g;have hl:(ss.map (·.nm)).length<=40:=by rw[qf];exact g.sl.2
 have hN:=wL (bs:=bs) (ss:=ss) (js:=js) (us:=us) (ls:=ls) (ks:=ks) (h:=h) g.sl.2;obtain⟨ρ',h1,z,h2⟩:=o3 (gg:=ay 4) (body:=(eP 3 (aK X9))) (xs:=(ss.map (·.nm)).map D.str) (ρ:=[oS .(l),oS (.lst ((ss.map (·.nm)).map D.str)),oS (.dt kvs),aa (.own []),af])
  (fun i ρ=>∃z,ρ=[oS .(l),oS (.lst ((ss.map (·.nm)).map D.str)),oS (.dt kvs),aa (.own ((((ss.map (·.nm)).take i).flatMap (gS js ls (ss.map (·.nm)))).map dGp)),z]) ⟨af,rfl⟩ (fun i x ρ hx hI=>by
   obtain⟨z,rfl⟩:=hI;rw[qk] at hx;obtain⟨a,hp,rfl⟩:=oMd hx;have tk:((ss.map (·.nm)).take (i+1)).flatMap (gS js ls (ss.map (·.nm)))=((ss.map (·.nm)).take i).flatMap (gS js ls (ss.map (·.nm)))++gS js ls (ss.map (·.nm)) a:=by rw[zj,hp,zn];simp
   have r1:=vN js ls (ss.map (·.nm)) ((ss.map (·.nm)).take i);have r2:=Ek js ls (ss.map (·.nm)) a;have r3:((ss.map (·.nm)).take i).length<=40:=qN (List.length_take_le' _ _) hl;have r4:((ss.map (·.nm)).take i).length*(ss.map (·.nm)).length<=40*40:=yM r3 hl;refine⟨_,_,rfl,AV rfl (koT hv hl) .(b),oS (.str a),?_⟩;rw[tk];rfl)
 rw[qf,ij] at h2;subst h2;exact ca [oS .(l),af,af,af,af] rfl ((kO (iK .(P) rfl aJ hN)).trans ((kO (aU .(D) hk)).trans (C3.trans ((lF ((na rfl).trans h1)).trans ((Et rfl).trans (bZ rfl))))))
end
section
variable {bs:ac BenchT}
theorem gC {nm:α->ai} {f:α->D} :∀{xs:ac α} {s:α},(xs.map nm).Nodup->s∈xs->bc (xs.map fun x=>((.inr (nm x):Key),f x)) (.inr (nm s))=aa (f s):=by
 intro xs0
 induction xs0 with
 |nil=>
  intro s _ hs;cases hs
 |cons x r ih=>
  intro s nd hs;rw[qm,eA] at nd;unfold bc;rw[qm,fB];by_cases e:nm x=nm s
  .have hxs:s=x:=by
    rcases cr.mp hs with q|q
    .exact q
    .exact bA (qW (f:=nm) q) (by rw[←e];exact nd.1)
   subst hxs;simp
  .have hs':s∈r:=by
    rcases cr.mp hs with q|q
    .subst q;exact bA rfl e
    .exact q
   have hne:¬((.inr (nm x):Key)=.inr (nm s)):=fun z=>e (hG z);simp only[qO hne];exact ih nd.2 hs'
theorem QG {s:StepT} (g:Good bs ss js us ls ks h) (hs:s∈ss):wY [bQ bs ss js us ls ks h,.str s.nm]=aa (.lst (s.ws.map dW)):=by have gs:=g.s s hs;refine ca [oS .(l),oS .(bg)] rfl (bZ (aU (ax (aA (aA (x:=.dk (ss.map fun s=>(.inr s.nm,bw s))) (z:=bw s) (lN 8 rfl rfl) rfl ?_) rfl fT) aJ) (iA (ux (by have:=gs.l4;omega)))));show bc (ss.map fun s=>((.inr s.nm:Key),bw s)) .(an)=_;exact gC g.sn hs
theorem NV (j:JobT) (m:ai):∀(ms:ac ai) (acc:ac (Key×D)),bc (ms.foldl (gF j) acc) (.inr m)=if m∈ms then aa (bf j) else bc acc (.inr m):=by
 intro xs0
 induction xs0 with
 |nil=>
  intro acc;simp
 |cons x r ih=>
  intro acc;rw[fQ,ih];by_cases h1:m∈r
  .rw[qX h1,qX (qh _ h1)]
  .rw[qY h1];unfold gF;rw[jO];by_cases h2:m=x
   .subst h2;rw[qX rfl,qX qg]
   .have:¬((.inr m:Key)=.inr x):=fun z=>h2 (hG z);rw[qY this,qY];intro z;rcases cr.mp z with q|q
    .exact h2 q
    .exact h1 q
noncomputable def di (js:ac JobT) (m:ai):aq JobT:=js.find? fun j=>decide (m∈j.ms)
theorem L9 (m:ai):∀(js:ac JobT) (acc:ac (Key×D)),(js.flatMap (·.ms)).Nodup->bc (js.foldl (fun acc j=>j.ms.foldl (gF j) acc) acc) (.inr m)=match di js m with|some j=>aa (bf j)|none=>bc acc (.inr m):=by
 intro xs0
 induction xs0 with
 |nil=>
  intro acc _;exact rfl
 |cons j r ih=>
  intro acc nd;rw[jo,mS] at nd;rw[fQ,ih _ nd.2.1,NV];unfold di;rw[fB];by_cases h1:m∈j.ms
  .have:r.find? (fun j=>decide (m∈j.ms))=af:=by rw[ve];intro x hx z;exact nd.2.2 m h1 m (FV.mpr ⟨x,hx,dh z⟩) rfl
   simp only[qT h1,this,qX h1]
  .simp only[qO h1,qY h1]
def pr:aq JobT->D
 |some j=>bf j
 |none=>.non
theorem L8 {j:JobT} (h:di js m=aa j):j∈js/\m∈j.ms:=⟨Ti h,by have:=Tj h;exact dh this⟩
theorem Gr (g:Good bs ss js us ls ks h) (m:ai):v6 [bQ bs ss js us ls ks h,.str m]=aa (pr (di js m)):=by
 have hl:(ss.map (·.nm)).length<=40:=by rw[qf];exact g.sl.2
 have hp:Pl 8 (pr (di js m)):=by
  cases e:di js m with
  |none=>trivial
  |some j=>exact wR hl (g.j j (L8 e).1)
 refine ca [oS .(l),oS (.str m)] rfl (bZ (aU (ax (aA (x:=.dk (jkv js)) (lN 10 rfl rfl) rfl ?_) aJ) (iA hp)));show aa ((bc (jkv js) (.inr m)).getD .non)=_;unfold jkv;rw[L9 m js [] g.jm];cases di js m<;>rfl
theorem B9:pf [bQ bs ss js us ls ks h]=aa (.int h):=by unfold pf;exact ca [oS .(l)] rfl (bZ (lN (bs:=bs) (ss:=ss) (js:=js) (us:=us) (ls:=ls) (ks:=ks) (h:=h) (fo:=vSh 0) 6 rfl rfl))
end
noncomputable def tx (l:ac ao):ai:=⟨l.toArray⟩
theorem vX (a b:ac ao):tx a++tx b=tx (a++b):=by show(⟨a.toArray++b.toArray⟩:ai)=⟨(a++b).toArray⟩;rw[List.append_toArray]
theorem pq (l:ac ao):(tx l).length=l.length:=by show l.toArray.size=_;simp
theorem OO:∀n:ao,n<26->("abcdefghijklmnopqrstuvwxyz":ai).cps.toList[n]?=aa (97+n):=by decide +kernel
theorem AY:∀n:ao,n<26->az (97+n)=aj:=by decide +kernel
theorem zE {i:ah} (h0:0<=i) (h:i<26):ixD (.str "abcdefghijklmnopqrstuvwxyz") (.int i)=aa (.str (tx [97+i.toNat])):=by obtain⟨n,rfl⟩:=oM h0;show(if ("abcdefghijklmnopqrstuvwxyz":ai).length<=aH then (atI ("abcdefghijklmnopqrstuvwxyz":ai).cps.toList (n:ah)).map _ else af)=_;rw[qX .(P),gz,OO n .(b)];rfl
theorem BP:∀cs:ac ao,Str.join "" (cs.map fun c=>tx [c])=tx cs
 |[]=>rfl
 |[c]=>rfl
 |c::d::r=>by show tx [c]++tx []++Str.join "" ((d::r).map fun c=>tx [c])=_;rw[BP (d::r),vX,vX];rfl
theorem OR:∀cs:ac ao,lI (cs.map fun c=>.str (tx [c]))=aa (cs.map fun c=>tx [c]):=by
 intro xs0
 induction xs0 with
 |nil=>
  exact rfl
 |cons c r ih=>
  show(lI (r.map fun c=>.str (tx [c]))).map (tx [c]::·)=_;rw[ih];rfl
theorem QU {cs:ac ao} (h:cs.length<=100):pT (.str "") [.lst (cs.map fun c=>.str (tx [c]))]=aa (.str (tx cs)):=by
 show((lI (cs.map fun c=>.str (tx [c]))).bind fun ys=>if (ys.map (·.length)).sum+ys.length*("":ai).length<=16777216 then aa (D.str (Fg "" ys)) else af)=_;have h1:=StrLaws.sumLen_le (B:=1) (cs.map fun c=>tx [c]) (fun y hy=>by obtain⟨c,_,rfl⟩:=bJ.mp hy;exact qv _);rw[OR,qb,qX (by rw[qf] at h1 ⊢;show _+cs.length*0<=_;omega)]
 show aa (D.str (U3 "" _))=_;rw[StrLaws.glued_eq_join,BP]
theorem zS {xs:ac α} {d:ah} (h:0<=d):dn xs af (aa d)=xs.take d.toNat:=by
 unfold dn HT.sIx;simp only;rw[qY .(b),oE,Ud,zk];split
 .rfl
 .rw[mO (qv _),mO .(b)]
theorem RO {xs:ac α} {d:ah} (h:0<=d):dn xs (aa d) af=xs.drop d.toNat:=by
 unfold dn HT.sIx;simp only;rw[qY .(b),zk];split
 .rw[mO (by rw[jg];omega)]
 .rw[zl (qv _),zl .(b)];simp
theorem C1 {l:ac ao} (hl:l.length<=100) (lo hi:aq ah):jr lo hi (.str (tx l))=aa (.str (tx (dn l lo hi))):=by show(if (tx l).length<=aH then aa (D.str (kQ (tx l) lo hi)) else af)=_;rw[qX (by rw[pq];unfold aH;omega)];unfold kQ tx;rfl
theorem l5 {fl:bo->aq (aq ah)} {l h:aq ah} (h1:f ρ=aa d) (h2:fl ρ=aa l) (h3:fh ρ=aa h) (h4:jr l h d=aa z):slF f fl fh ρ=aa z:=by unfold slF;rw[h1,h2,h3];exact h4
theorem yd {a b:ac ao} (h:a.length+b.length<=100):aN (.str (tx a)) (.str (tx b))=aa (.str (tx (a++b))):=by show(if (tx a).length+(tx b).length<=aH then _ else _)=_;rw[qX (by rw[pq,pq];unfold aH;omega),vX]
noncomputable def qK (k:ao):ac ao:=if k<26 then [] else [113]
theorem xS (k:ao):(qK k).length<=1:=by unfold qK;split<;>simp
theorem Gk (k:ao):∀c∈qK k,az c=aj:=by
 unfold qK;split
 .intro c hc;cases hc
 .intro c hc;rw[bL.mp hc];decide
def nmK (l:ac ao) (a k:ao):ai:=tx (l.take a++[97+k*7%26]++qK k++l.drop a)
theorem HY {l:ac ao} {a:ao} (hl:l.length<=6) (hz:∀c∈l,az c=aj) (k:ao):bh (nmK l a k)=aj:=by
 have h0:(l.take a).length+(l.drop a).length=l.length:=by rw[←qj,yW]
 have hq:=xS k;unfold bh nmK;rw[pq];simp only[fU,u9];refine⟨⟨by simp only[qj,qi,ql];omega,by simp only[qj,qi,ql];omega⟩,?_⟩;show(l.take a++[97+k*7%26]++qK k++l.drop a).all az=aj;rw[ic];intro c hc;rcases dA.mp hc with hc|hc
 .rcases dA.mp hc with hc|hc
  .rcases dA.mp hc with hc|hc
   .exact hz c (rP hc)
   .rw[bL.mp hc];exact AY _ .(b)
  .exact Gk k c hc
 .exact hz c (Th hc)
theorem Qm {l:ac ao} {a:ao} (ha:a<=l.length) (h:nmK l a i=nmK l a j):i*7%26=j*7%26/\(i<26↔j<26):=by
 unfold nmK tx at h;have h:=bU (fun s:ai=>s.cps.toList) h;simp only[rG] at h;have h:=List.append_cancel_left h;have hl:=bU c8 h;simp only[qj,qi,ql] at hl;simp at h;refine⟨by omega,?_⟩;unfold qK at hl;constructor
 .intro h1;rw[qX h1] at hl;by_cases h2:j<26
  .exact h2
  .rw[qY h2] at hl;simp at hl
 .intro h1;rw[qX h1] at hl;by_cases h2:i<26
  .exact h2
  .rw[qY h2] at hl;simp at hl
theorem Qx {l:ac ao} {a m:ao} (ha:a<=l.length) (hm:m<=52):((cx m).map (nmK l a)).Nodup:=by refine vf.mpr (Fw ?_ (Tr (n:=m)));intro i j hi hj hlt e;have:=Qm ha e;have:=fN.mp hj;omega
theorem DY {α:Type} {fe:FE} {r:bo} {m:α->D} {Q:ao->α->Prop}:∀(n s:ao) (a:aq Slot),(∀i,s<=i->i<s+n->Wp (fe (oS (.int (0+(i:ah)))::r)) fun d=>∃x,d=m x/\Q i x)->Wp (bT (ay 0) tT fe ((vw s n).map fun i:ao=>D.int (0+(i:ah))) (a::r)) fun l=>∃xs:ac α,l=xs.map m/\xs.length=n/\∀i x,xs[i]?=aa x->Q (s+i) x
 |0,s,a,_=>⟨[],rfl,[],rfl,rfl,fun i x h=>by simp at h⟩
 |n+1,s,a,h=>by
  obtain⟨_,e,x,rfl,q⟩:=h s (qv _) .(b);obtain⟨_,e2,xs,rfl,hl,hq⟩:=DY (m:=m) (Q:=Q) n (s+1) (oS (.int (0+(s:ah)))) fun i h1 h2=>h i .(b) .(b);refine⟨(x::xs).map m,?_,x::xs,rfl,by rw[qi,hl],fun i y hy=>?_⟩
  .rw[zo,qm];show((fe (oS (.int (0+(s:ah)))::r)).bind fun d=>(bT (ay 0) tT fe _ (oS (.int (0+(s:ah)))::r)).map (d::·))=_;rw[e,qb,e2];rfl
  .cases i with
   |zero=>simp at hy;subst hy;exact q
   |succ i=>
    have:=hq i y (by simpa using hy);rw[show s+1+i=s+(i+1) by omega] at this;exact this
theorem Eu {m:α->D} (Q:ao->α->Prop) {P:D->Prop} (hf:Wp (fr ρ) fun l=>l=[.int (n:ah)]) (hn:n<=1000) (hv:eS fv ρ=af::r) (h:∀i,i<n->Wp (fe (oS (.int (i:ah))::r)) fun d=>∃x,d=m x/\Q i x) (p:∀xs:ac α,xs.length=n->(∀i x,xs[i]?=aa x->Q i x)->P (.lst (xs.map m))):Wp (aK (aR (itR dN fr) (ay 0) tT fe fv) ρ) P:=by
 obtain⟨_,e,rfl⟩:=hf;obtain⟨_,e2,xs,rfl,hl,hq⟩:=DY (fe:=fe) (r:=r) (m:=m) (Q:=Q) n 0 af fun i _ h2=>by rw[vt];exact h i .(b)
 refine⟨.lst (xs.map m),?_,p xs hl fun i x hx=>by have:=hq i x hx;rw[lz] at this;exact this⟩;unfold aK aR;rw[tN e (tE ⟨by omega,by omega⟩),qb,qX (by rw[qf,qV];unfold aH;omega),hv,gO,FW,e2];rfl
abbrev nmE (c m:ah) (l:ac ao) (a:ah) (ns:ac ai) (k:aq Slot):bo:=[oS (.int c),oS (.int m),oS (.str "abcdefghijklmnopqrstuvwxyz"),oS (.str (tx l)),oS (.int a),aa (.own (ns.map D.str)),k]
theorem LK (c:ah) {m:ao} (hm:m<=40):Wp (uz [.int c,.int m]) fun d=>∃ns:ac ai,d=.lst (ns.map D.str)/\ns.length=m/\ns.Nodup/\∀x∈ns,bh x=aj:=by
 obtain⟨e0,a0,a1⟩:=eV c (k:=0) (m:=7) .(f) .(f) .(f);unfold uz;refine cW (bp (w_c (bp (dM (w_c (dM (aS (Eu (m:=fun c:ao=>.str (tx [c])) (n:=(drw c 0 7).toNat) (fun _ c=>az c=aj) ⟨_,ax (aU rfl e0) aJ,by rw[Int.toNat_of_nonneg a0]⟩ .(b) rfl ?_ fun cs cl cz=>bS ?_))))))))
 .intro i hi;refine w_2 (aX rfl (cJ (k:=3+(i:ah)) (m:=26) rfl rfl rfl .(b) .(b) .(f) fun q0 q1=>aB (zE q0 q1) ⟨_,rfl,AY _ .(b)⟩))
 refine aB (QU .(b)) ?_;have cz:∀c∈cs,az c=aj:=fun c hc=>by obtain⟨i,hi⟩:=FU hc;exact cz i c hi
 have l6:cs.length<=6:=by omega
 refine bp (cJ (k:=1) (m:=(cs.length:ah)+1) rfl rfl (aA (x:=.int cs.length) (aU .(D) ?_) rfl rfl) .(f) .(f) .(b) fun q0 q1=>kH ?_)
 .show(if (tx cs).length<=aH then aa (D.int ((tx cs).length:ao)) else af)=_;rw[pq,qX (by unfold aH;omega)]
 obtain⟨a,ha⟩:=oM q0;rw[ha] at q1;rw[ha];refine bX (dz (fun i ρ=>∃k,ρ=nmE c m cs a ((cx i).map (nmK cs a)) k/\i<=m) (iN (aS (aX rfl (bS ⟨m,rfl,by omega,by omega,⟨af,rfl,fA _⟩,?_,?_⟩)))))
 .rintro k x ρ hx ⟨z,rfl,_⟩;obtain⟨hk,rfl⟩:=kq hx;rw[gO] at hk;have t0:(cs.take a).length+(cs.drop a).length=cs.length:=by rw[←qj,yW]
  refine aB rfl (xT (m:=D.str) (xs:=(cx k).map (nmK cs a)) (nmK cs a k) rfl (by rw[qf,qV];omega) (aB (aA (z:=.str (nmK cs a k)) (aA (z:=.str (tx (cs.take a++[97+k*7%26]++qK k))) (aA (z:=.str (tx (cs.take a++[97+k*7%26]))) (l5 rfl rfl rfl (C1 .(b) _ _)) (aA rfl (aA (x:=.int ((k:ah)*7)) (aA rfl rfl O3) rfl rfl) (zE .(b) .(b))) ?_) (aA (x:=.lst [.str "",.str "q"]) (y:=.int ((k:ah) / 26)) (z:=.str (tx (qK k))) rfl (aA rfl rfl rfl) ?_) ?_) (l5 rfl rfl rfl (C1 .(b) _ _)) ?_) ⟨rfl,rfl,oS (.int k),?_,by omega⟩))
  .rw[zS .(b),gO,show((k:ah)*7%26).toNat=k*7%26 by omega];exact yd (by simp only[qi,ql];omega)
  .unfold qK;by_cases hk2:k<26
   .rw[qX hk2,show(k:ah) / 26=0 by omega];rfl
   .rw[qY hk2,show(k:ah) / 26=1 by omega];rfl
  .exact yd (by have:=xS k;simp only[qj,qi,ql];omega)
  .rw[RO .(b),gO];exact yd (by have:=xS k;simp only[qj,qi,ql];omega)
  .rw[show cx (k+1)=cx k++[k] from List.range_succ,dZ (f:=nmK cs a)];rfl
 .rintro ρ ⟨k,rfl,hl⟩;refine⟨rfl,me (ds:=((cx _).map (nmK cs a)).map D.str) rfl (cP (aX rfl ⟨_,rfl,_,rfl,by simp,Qx .(b) (by simp;omega),fun x hx=>?_⟩))⟩;obtain⟨k,_,rfl⟩:=bJ.mp hx;exact HY l6 cz k
theorem vA {l:ac ai} {n:ah} {P:D->Prop} (h0:0<=n) (h1:n<l.length) (p:∀s∈l,P (.str s)):Wp (ixD (.lst (l.map D.str)) (.int n)) P:=
 oU h0 (by rw[qf];exact h1) fun d hd=>by obtain⟨s,hs,rfl⟩:=bJ.mp hd;exact p s hs
theorem HD {a b:ah} {P:D->Prop} (p:P (.int (if b > a then b else a))):Wp (jM [.int a,.int b]) P:=⟨_,rfl,p⟩
noncomputable def kd3:ac ai:=["cut","glue","paint"]
theorem N3:∀s∈kd3,bh s=aj:=by decide +kernel
abbrev seE (c:ah) (nm:ai) (bs:ac BenchT) (h:ah) (kd:ai) (a:ah) (rt:ac BenchT) (ws:ac (ai×ah)) (x y z:aq Slot):bo:=[oS (.int c),oS (.str nm),oS .(aB),oS (.int h),oS (.str kd),oS (.int a),oS (.lst (rt.map bK)),aa (.own (ws.map dW)),x,y,z]
theorem lL {m:α->D} {x y:ac α} (h:x.length+y.length<=1000):aN (.lst (x.map m)) (.lst (y.map m))=aa (.lst ((x++y).map m)):=by rw[dZ];exact qX (by rw[qf,qf];unfold aH;omega)
theorem B0 {a b:ah} (a0:0<=a) (a1:a<2) (b0:0<=b) (b1:b<4):0<=a*b/\a*b<=3:=by rcases(show a=0\/a=1 by omega) with rfl|rfl<;>omega
theorem RH (c:ah) {nm:ai} {bs:ac BenchT} (hn:bh nm=aj) (hb:1<=bs.length/\bs.length<=8) (nd:(bs.map (·.nm)).Nodup) (hh:1<=h):Wp (ur [.int c,.str nm,.lst (bs.map bK),.int h]) fun d=>∃s:StepT,d=bw s/\s.nm=nm/\GoodS (bs.map (·.nm)) h s:=by
 have bl:bR [.lst (bs.map bK)]=aa (.int bs.length):=by show aa (D.int (bs.map bK).length)=_;rw[qf]
 unfold ur;refine cW (bp (w_2 (aB (a:=.lst (kd3.map D.str)) rfl (cJ (k:=0) (m:=3) rfl rfl rfl .(f) .(f) .(f) fun q0 q1=>vA q0 q1 fun kd hk=>?_))));refine bp (cJ (k:=1) (m:=bs.length) rfl rfl (aU rfl bl) .(f) .(f) .(b) fun q2 q3=>?_);obtain⟨a,ha⟩:=oM q2;rw[ha] at q3 ⊢;obtain⟨e4,a0,a1⟩:=eV c (k:=2) (m:=2) .(f) .(f) .(f);obtain⟨e5,b0,b1⟩:=eV c (k:=3) (m:=4) .(f) .(f) .(f);obtain⟨n,hn4⟩:∃n:ao,1+drw c 2 2*drw c 3 4=n:=⟨(1+drw c 2 2*drw c 3 4).toNat,by have:=B0 a0 a1 b0 b1;omega⟩;have n4:1<=n/\n<=4:=by have:=B0 a0 a1 b0 b1;omega
 have len:(bs.drop a++bs.take a).length=bs.length:=by rw[qj,jg,qE];omega
 have pm:(bs.drop a++bs.take a).Perm bs:=by have:=List.perm_append_comm (l₁:=bs.drop a) (l₂:=bs.take a);rw[yW] at this;exact this
 refine bp ⟨.lst (((bs.drop a++bs.take a).take n).map bK),?_,kH ?_⟩
 .refine(Dp (xs:=(bs.drop a++bs.take a).map bK) (d:=n) (aA (x:=.lst ((bs.drop a).map bK)) (y:=.lst ((bs.take a).map bK)) ?_ ?_ (lL (by rw[←qj,len];omega))) (aA rfl (aA (aU rfl e4) (aU rfl e5) (qX (.inl (by rw[kF];omega)))) (bU (fun x=>aa (D.int x)) hn4)) .(b)).trans ?_
  .refine(Eo (xs:=bs.map bK) (d:=a) rfl rfl .(b)).trans ?_;rw[gO,Uf]
  .refine(Dp (xs:=bs.map bK) (d:=a) rfl rfl .(b)).trans ?_;rw[gO,vx]
  .rw[gO,vx]
 have rl:((bs.drop a++bs.take a).take n).length<=4/\1<=((bs.drop a++bs.take a).take n).length:=by rw[qE,len];omega
 have rn:(((bs.drop a++bs.take a).take n).map (·.nm)).Nodup:=by refine oK ((mH _ _).map _) ?_;exact((pm.map (·.nm)).nodup_iff).mpr nd
 have rm:∀b∈(bs.drop a++bs.take a).take n,b∈bs:=fun b hb=>pm.subset (rP hb);generalize (bs.drop a++bs.take a).take n=rt at rl rn rm ⊢;refine bX (dz (fun i ρ=>∃(ws:ac (ai×ah)) (x y z:aq Slot),ρ=seE c nm bs h kd a rt ws x y z/\ws.map (·.1)=(rt.take i).map (·.nm)/\∀w∈ws,1<=w.2/\w.2<=h) (aB (a:=(rt.map bK).mapIdx fun i d=>D.tup [.int i,d]) rfl ⟨⟨[],af,af,af,rfl,by simp,fun _ z=>nomatch z⟩,?_,?_⟩))
 .rintro i x ρ hx ⟨ws,x',y,z,rfl,hw,hg⟩;obtain⟨_,hy,rfl⟩:=zF hx;rw[qk] at hy;obtain⟨b,hb',rfl⟩:=oMd hy;have hi:i<rt.length:=(df.mp hb').1;have wl:ws.length<=4:=by have:=bU c8 hw;rw[qf,qf,qE] at this;omega
  have mn:=xW (a:=5) (b:=h);have fin:∀m:ah,1<=m->m<=h->Wp (fM 7 (bm (szF (ag (b2 ixD (vSh 9) .(e)) (ag (cF jM (ag .(h) (ag (cF kC (ag (vSh 0) (ag (b2 aN .(C) (b2 cT .(J) (vSh 8))) (ag (vSh 10) ak)))) ak))) ak)))) (seE c nm bs h kd a rt ws (oS (.int i)) (oS (bK b)) (oS (.int m)))) fun r=>r.1=.nx/\∃(ws:ac (ai×ah)) (x y z:aq Slot),r.2=seE c nm bs h kd a rt ws x y z/\ws.map (·.1)=(rt.take (i+1)).map (·.nm)/\∀w∈ws,1<=w.2/\w.2<=h:=by
   intro m m1 mh;refine uq (m:=dW) (xs:=ws) rfl .(b) (f8 (aS (aB .(am) (aS (gL (aS (w_c (aS (wO (k:=4+2*(i:ah)) (m:=m) rfl .(av) rfl .(b) .(b) .(b) fun v v0 v1=>bS (HD (bS ⟨by simp,(b.nm,if v > 1 then v else 1),rfl,rfl,ws++[(b.nm,if v > 1 then v else 1)],_,_,_,rfl,?_,fun w hw=>?_⟩)))))))))))
   .rw[dZ,hw,Eb _ hb'];rfl
   .rcases dA.mp hw with hw|hw
    .exact hg w hw
    .rw[bL.mp hw];show 1<=(if v > 1 then v else 1)/\(if v > 1 then v else 1)<=h;split<;>omega
  exact aB rfl (bp (w_2 (aB (a:=.lst [.int h,.int (if h<5 then h else 5)]) rfl (cJ (k:=13) (m:=2) rfl rfl rfl .(f) .(f) .(f) fun q0 q1=>oU q0 q1 (wD (fin _ hh (lD _)) (fin _ .(b) .(b)))))))
 .rintro ρ ⟨ws,x,y,z,rfl,hw,hg⟩;rw[rL,qf,ij] at hw;have wl:ws.length=rt.length:=by have:=bU c8 hw;simpa using this
  refine⟨rfl,me (ds:=ws.map dW) rfl (cP (f8 (aS (aX rfl (aS (aX rfl (aS (aX rfl (bS ⟨by simp,_,rfl,⟨nm,kd,ws⟩,rfl,rfl,hn,N3 kd hk,by show 1<=ws.length;omega,by show ws.length<=4;omega,fun w hw'=>⟨?_,hg w hw'⟩,by rw[hw];exact rn⟩))))))))) ⟩;have:w.1∈ws.map (·.1):=qW hw';rw[hw] at this;obtain⟨b,hb2,e⟩:=bJ.mp this;rw[←e];exact qW (rm b hb2)
noncomputable abbrev Es:=ac (ac ai×ah)
noncomputable def dKV (es:Es):ac .(aG):=es.map fun e=>(e.1.map cD,.int e.2)
theorem tu {a b:ac ai} :a.map (cD:ai->Key)=b.map cD↔a=b:=FP fun _ _=>hG
theorem zC {es:Es} {t:ac ai} {n:ah} {A:ac ai->Prop} {B:ah->Prop} (nd:(es.map (·.1)).Nodup) (al:∀e∈es,A e.1/\B e.2) (pt:A t) (pn:B n):∃es':Es,bW (dKV es) (t.map cD) (.int n)=dKV es'/\(es'.map (·.1)).Nodup/\(∀e∈es',A e.1/\B e.2)/\es'.length<=es.length+1:=by
 unfold bW;split
 .refine⟨es.map fun e=>if e.1=t then (e.1,n) else e,?_,?_,fun e he=>?_,by rw[qf];omega⟩
  .unfold dKV;rw[qo,qo];refine ik fun e _=>?_;show(if e.1.map cD=t.map cD then _ else _)=_;by_cases h:e.1=t
   .rw[qX (tu.mpr h)];simp[h]
   .rw[qY (fun z=>h (tu.mp z))];simp[h]
  .rw[qo];have:es.map ((·.1) ∘ fun e=>if e.1=t then (e.1,n) else e)=es.map (·.1):=ik fun e _=>by show(if e.1=t then (e.1,n) else e).1=e.1;split<;>rfl
   rw[this];exact nd
  .obtain⟨e0,h0,rfl⟩:=bJ.mp he;split
   .exact⟨(al e0 h0).1,pn⟩
   .exact al e0 h0
 .rename_i hno;refine⟨es++[(t,n)],by unfold dKV;rw[dZ];rfl,?_,fun e he=>?_,by rw[qj];exact qv _⟩
  .rw[dZ];refine mS.mpr ⟨nd,by simp,fun x hx y hy e=>hno ?_⟩;obtain⟨z,hz,rfl⟩:=bJ.mp hx;have hy:y=t:=by simpa using hy
   exact zm.mpr ⟨_,qW hz,qT (tu.mpr (e.trans hy))⟩
  .rcases dA.mp he with he|he
   .exact al e he
   .rw[bL.mp he];exact⟨pt,pn⟩
theorem Ei:∀{es:Es} {e:ac ai×ah},(es.map (·.1)).Nodup->e∈es->bc (dKV es) (e.1.map cD)=aa (.int e.2):=by
 intro xs0
 induction xs0 with
 |nil=>
  intro _ _ h;exact nomatch h
 |cons x r ih=>
  intro e nd he;rw[qm,eA] at nd;unfold bc dKV;rw[qm,fB];rcases cr.mp he with rfl|he
  .simp
  .have hne:¬(x.1.map (cD:ai->Key)=e.1.map cD):=fun z=>nd.1 (by rw[tu.mp z];exact qW he);simp only[qO hne];exact ih nd.2 he
theorem xZ {k m:α->D} :∀{xs:ac α} {a:aq Slot},(∀x∈xs,fe (oS (k x)::r)=aa (m x))->bT (ay 0) tT fe (xs.map k) (a::r)=aa (xs.map m):=by
 intro xs0
 induction xs0 with
 |nil=>
  intro _ _;exact rfl
 |cons x xs ih=>
  intro a h;show((fe (oS (k x)::r)).bind fun d=>(bT (ay 0) tT fe (xs.map k) (oS (k x)::r)).map (d::·))=_;rw[h x qg,qb,ih fun y hy=>h y (qh _ hy)];rfl
theorem Al {es:Es} (v:ah->ah) (h:ρ[i]?=aa (oS (.dt (dKV es)))) (hl:es.length<=1000) (hs:∀e∈es,0<e.1.length/\e.1.length<=10) (hv:eS fv ((ρ.map kR).set i (oS (.fdt (dKV es))))=af::r)
  (he:∀e∈es,fe (oS (.tup (e.1.map D.str))::r)=aa (.int (v e.2))):nE i (aK (aR (kD (vSh i)) (ay 0) tT (b2 jN (vSh 0) (bm (szF (ag fe ak)))) fv)) ρ=aa (.lst (es.map fun e=>.tup (e.1.map D.str++[.int (v e.2)]))):=by
 have hi:i < ρ.length:=(df.mp h).1;have e1:kD (vSh i) ((ρ.map kR).set i (oS (.fdt (dKV es))))=aa (es.map fun e=>.tup (e.1.map D.str)):=by unfold kD vSh;rw[oj (by rw[qf];exact hi)];show aa ((dKV es).map fun kv=>D.tup (kv.1.map gE))=_;unfold dKV;rw[qo];refine bU aa (ik fun e _=>?_);show D.tup ((e.1.map cD).map gE)=_;rw[qo];rfl
 unfold nE;rw[h];show(if ((dKV es).map (·.2)).all gr=aj then _ else _)=_;rw[qX (by unfold dKV;rw[qo,vy,ic];intro x _;rfl)]
 have e2:aK (aR (kD (vSh i)) (ay 0) tT (b2 jN (vSh 0) (bm (szF (ag fe ak)))) fv) ((ρ.map kR).set i (oS (.fdt (dKV es))))=aa (.lst (es.map fun e=>.tup (e.1.map D.str++[.int (v e.2)]))):=by
  unfold aK aR;rw[e1,qb,qX (by rw[qf];unfold aH;omega),hv];rw[xZ (k:=fun e:ac ai×ah=>D.tup (e.1.map D.str)) (m:=fun e=>.tup (e.1.map D.str++[.int (v e.2)]))]
  .rfl
  .intro e hm;show b2 jN (vSh 0) (bm (szF (ag fe ak))) (oS (.tup (e.1.map D.str))::r)=aa (.tup (e.1.map D.str++[.int (v e.2)]));refine aA (y:=.tup [.int (v e.2)]) rfl ?_ ?_
   .unfold bm szF;rw[ax (he e hm) aJ];rfl
   .refine qX ⟨?_,by simp,by rw[qf];have:=hs e hm;simp only[qi,ql];unfold aH;omega⟩;intro z;have:=hs e hm;rw[List.map_eq_nil_iff] at z;rw[z] at this;simp at this
 rw[e2,qb,qX];show(es.map fun e=>D.tup (e.1.map D.str++[.int (v e.2)])).all tfD=aj;rw[vy,ic];intro e _;show(e.1.map D.str++[D.int (v e.2)]).all gr=aj;rw[List.all_append,vy];simp only[fU,ic];exact⟨fun _ _=>rfl,fun x hx=>by rw[bL.mp hx];rfl⟩
theorem BV {es:Es} {t:ac ai} {fv:FE} (hs:ρ[i]?=aa (aa (.odt (dKV es)))) (hl:es.length<=1000) (hk:fk ρ=aa (.tup (t.map D.str))) (hv:Wp (fv ρ) fun d=>∃n,d=.int n/\R (.nx,ρ.set i (aa (.odt (bW (dKV es) (t.map cD) (.int n)))))):Wp (eR i fk fv ρ) R:=by obtain⟨_,e,n,rfl,k⟩:=hv;refine⟨_,?_,k⟩;unfold eR;rw[e,hk,hs];show((eE (t.map D.str)).bind _)=_;rw[nv];exact qX (by unfold dKV;rw[qf];omega)
theorem IC {P:aP->Prop} (h:ρ[i]?=aa (aa (.odt kvs))) (k:Wp (ft (ρ.set i (oS (.dt kvs)))) P):Wp (pQ i ft ρ) P:=by unfold pQ;rw[h];exact k
noncomputable def LkA (ss:ac StepT) (t:ac ai):Prop:=∃a b,t=[a,b]/\a∈ss.map (·.nm)/\b∈ss.map (·.nm)/\a≠b
abbrev prW (c:ah) (ss:ac StepT) (es:Es) (x y z:aq Slot):bo:=[oS (.int c),oS (.int 50),oS .(as),aa (.odt (dKV es)),x,y,z]
theorem Pd (c:ah) (hs:1<=ss.length/\ss.length<=40):Wp (sF [.int c,.int 50,.lst (ss.map bw)]) fun d=>∃es:Es,d=.dt (dKV es)/\es.length<=5/\(es.map (·.1)).Nodup/\∀e∈es,LkA ss e.1/\0<=e.2/\e.2<5:=by
 have sl:bR [.lst (ss.map bw)]=aa (.int ss.length):=by show aa (D.int (ss.map bw).length)=_;rw[qf]
 unfold sF;refine cW (bX (aB (a:=(.nx,prW c ss [] af af af)) rfl ⟨rfl,bX (dz (fun i ρ=>∃(es:Es) (x y z:aq Slot),ρ=prW c ss es x y z/\es.length<=i/\(es.map (·.1)).Nodup/\∀e∈es,LkA ss e.1/\0<=e.2/\e.2<5) (iN (aS (cJ (k:=50) (m:=6) rfl rfl rfl .(f) .(f) .(f) fun q0 q1=>bS ⟨_,rfl,q0,by omega,⟨[],af,af,af,rfl,qv _,lq,fun _ z=>nomatch z⟩,?_,?_⟩))))⟩))
 .rintro i x ρ hx ⟨es,x',y,z,rfl,hl,nd,al⟩;obtain⟨hi,rfl⟩:=kq hx;refine aB rfl (bp (xm rfl (cJ (k:=50+1+3*(i:ah)) (m:=ss.length) rfl .(av) (aU rfl sl) .(b) .(b) .(b) fun a0 a1=>⟨_,rfl,a0,a1,?_⟩)));refine bp (xm rfl (cJ (k:=50+2+3*(i:ah)) (m:=ss.length) rfl .(av) (aU rfl sl) .(b) .(b) .(b) fun b0 b1=>⟨_,rfl,b0,b1,?_⟩));have m1:=Cu (ss:=ss) (i:=(drw c (50+1+3*(i:ah)) ss.length).toNat) .(b);have m2:=Cu (ss:=ss) (i:=(drw c (50+2+3*(i:ah)) ss.length).toNat) .(b);generalize snm ss (drw c (50+1+3*(i:ah)) ss.length).toNat=o1 at m1 ⊢;generalize snm ss (drw c (50+2+3*(i:ah)) ss.length).toNat=o2 at m2 ⊢;refine cO (IC (kvs:=dKV es) rfl (Cw (i9 (w_2 (aX rfl (aX rfl (aB (Db _ _) ⟨_,rfl,?_⟩)))))));by_cases e:o1=o2
  .rw[qT e];exact⟨.(F),fun _=>dD ⟨rfl,es,_,_,_,rfl,by omega,nd,al⟩⟩
  .rw[qO e];refine i9 (w_2 (aB (mo rfl rfl) (aX rfl (aB (a:=.bl (!(bc (dKV es) (kk o1 o2)).isSome)) rfl ⟨_,rfl,fun _=>?_,fun _=>dD ⟨rfl,es,_,_,_,rfl,by omega,nd,al⟩⟩))));refine BV (t:=[o1,o2]) rfl .(b) (mo rfl rfl) (cJ (k:=50+3+3*(i:ah)) (m:=5) rfl .(av) rfl .(b) .(b) .(f) fun g0 g1=>⟨_,rfl,rfl,?_⟩);obtain⟨es',e1,e2,e3,e4⟩:=zC (A:=LkA ss) (B:=fun n=>0<=n/\n<5) nd al ⟨o1,o2,rfl,m1,m2,e⟩ ⟨g0,g1⟩;rw[e1];exact⟨es',_,_,_,rfl,by omega,e2,e3⟩
 .rintro ρ ⟨es,x,y,z,rfl,hl,nd,al⟩;exact⟨rfl,cP (ρ:=[oS (.int c),oS (.int 50),oS .(as),oS (.dt (dKV es)),x,y,z]) (aX rfl ⟨_,rfl,es,rfl,by simp at hl;omega,nd,al⟩)⟩
noncomputable def kd4:ac ai:=["cut","glue","paint","rest"]
theorem DJ:∀s∈kd4,bh s=aj:=by decide +kernel
noncomputable def vT (bs:ac BenchT) (t:ac ai):Prop:=∃b p q,t=[b,p,q]/\b∈bs.map (·.nm)/\bh p=aj/\bh q=aj
abbrev sxE (c:ah) (bs:ac BenchT) (h:ah) (es:Es) (x y:aq Slot):bo:=[oS (.int c),oS .(aB),oS (.int h),oS (.lst (kd4.map D.str)),aa (.odt (dKV es)),x,y]
theorem PH (c:ah) {bs:ac BenchT} (hh:1<=h) (hb:1<=bs.length/\bs.length<=8):Wp (uE [.int c,.lst (bs.map bK),.int h]) fun d=>∃es:Es,d=.lst (es.map fun e=>.tup (e.1.map D.str++[.int e.2]))/\es.length<=11/\(es.map (·.1)).Nodup/\∀e∈es,vT bs e.1/\1<=e.2/\e.2<=h:=by
 have bl:bR [.lst (bs.map bK)]=aa (.int bs.length):=by show aa (D.int (bs.map bK).length)=_;rw[qf]
 have mn:=xW (a:=h) (b:=4);unfold uE;refine cW (bp (aB (a:=.lst (kd4.map D.str)) rfl (bX (aB (a:=(.nx,sxE c bs h [] af af)) rfl ⟨rfl,bX (dz (fun i ρ=>∃(es:Es) (x y:aq Slot),ρ=sxE c bs h es x y/\es.length<=i/\(es.map (·.1)).Nodup/\∀e∈es,vT bs e.1/\1<=e.2/\e.2<=h) (iN (aS (cJ (k:=0) (m:=12) rfl rfl rfl .(f) .(f) .(f) fun q0 q1=>bS ⟨_,rfl,q0,by omega,⟨[],af,af,rfl,qv _,lq,fun _ z=>nomatch z⟩,?_,?_⟩))))⟩))))
 .rintro i x ρ hx ⟨es,x',y,rfl,hl,nd,al⟩;obtain⟨hi,rfl⟩:=kq hx;refine aB rfl (bp (f8 (aS (Oe rfl (cJ (k:=1+4*(i:ah)) (m:=bs.length) rfl .(av) (aU rfl bl) .(b) .(b) .(b) fun a0 a1=>⟨_,rfl,a0,a1,aS (w_2 (aX rfl (cJ (k:=2+4*(i:ah)) (m:=4) rfl .(av) rfl .(b) .(b) .(f) fun b0 b1=>vA b0 b1 fun p hp=>bS ⟨by simp,?_⟩)))⟩)))));have m1:=Jy (bs:=bs) (i:=(drw c (1+4*(i:ah)) bs.length).toNat) .(b);generalize bnm bs (drw c (1+4*(i:ah)) bs.length).toNat=b at m1 ⊢;refine bp (w_2 (aX rfl (f8 (aS (w_2 (aX rfl (cJ (k:=3+4*(i:ah)) (m:=4) rfl .(av) rfl .(b) .(b) .(f) fun b0 b1=>vA b0 b1 fun q hq=>bS ⟨by simp,aB (a:=.tup ([b,p,q].map D.str)) rfl ?_⟩)))))));refine BV (es:=es) (t:=[b,p,q]) rfl .(b) rfl (w_2 (w_c (cJ (k:=4+4*(i:ah)) (m:=if 4<h then 4 else h) rfl .(av) rfl .(b) .(b) .(b) fun g0 g1=>fH ⟨_,rfl,rfl,?_⟩)));obtain⟨es',e1,e2,e3,e4⟩:=zC (A:=vT bs) (B:=fun n=>1<=n/\n<=h) nd al ⟨b,p,q,rfl,m1,DJ p hp,DJ q hq⟩ (show 1<=1+drw c (4+4*(i:ah)) (if 4<h then 4 else h)/\_<=h from⟨by omega,by omega⟩);rw[e1];exact⟨es',_,_,rfl,by omega,e2,e3⟩
 .rintro ρ ⟨es,x,y,rfl,hl,nd,al⟩;have hl2:es.length<=11:=by simp at hl;omega
  refine⟨rfl,cP (ρ:=[oS (.int c),oS .(aB),oS (.int h),oS (.lst (kd4.map D.str)),oS (.dt (dKV es)),x,y]) (aB (Al (fun n=>n) rfl .(b) (fun e he=>?_) rfl fun e he=>?_) ⟨_,rfl,es,rfl,hl2,nd,al⟩)⟩
  .obtain⟨⟨b,p,q,e0,_⟩,_⟩:=al e he;rw[e0];exact⟨by simp,by simp⟩
  .refine aA rfl rfl ?_;show((eE (e.1.map D.str)).map (bc (dKV es))).bind id=_;rw[nv,qe,Ei nd he];rfl
noncomputable def en:ao->ac D->ac D
 |_,[]=>[]
 |s,x::r=>.tup [.int s,x]::en (s+1) r
theorem La:∀(xs:ac D) (s:ao),xs.mapIdx (fun i d=>D.tup [.int ((s+i:ao):ah),d])=en s xs:=by
 intro xs0
 induction xs0 with
 |nil=>
  intro _;exact rfl
 |cons x r ih=>
  intro s;rw[List.mapIdx_cons];show _::_=_::en (s+1) r;rw[←ih (s+1)]
  congr 1
  congr 1
  funext i d
  rw[show s+(i+1)=s+1+i by omega]
theorem en0 (xs:ac D):(xs.mapIdx fun i d=>D.tup [.int (i:ah),d])=en 0 xs:=by
 rw[←La xs 0]
 congr 1
 funext i d
 rw[lz]
theorem B2 {fe:FE} {ft:FT} {r:bo} {v:ao->ah} (hv:∀i,1<=v i/\v i<=3) (h1:∀(i:ao) s,∃b,ft (oS (.int i)::oS (bw s)::r)=aa b) (h2:∀(i:ao) s,fe (oS (.int i)::oS (bw s)::r)=aa (dW (s.nm,v i))):∀(ss:ac StepT) (k:ao) (a b:aq Slot),∃am:ac (ai×ah),bT Xi ft fe (en k (ss.map bw)) (a::b::r)=aa (am.map dW)/\(am.map (·.1)).Sublist (ss.map (·.nm))/\∀w∈am,1<=w.2/\w.2<=3
 |[],k,a,b=>⟨[],rfl,FX _,fun _ z=>nomatch z⟩
 |s::ss,k,a,b=>by
  obtain⟨am,e,sb,g⟩:=B2 hv h1 h2 ss (k+1) (oS (.int k)) (oS (bw s));obtain⟨t,ht⟩:=h1 k s;have e1:bT Xi ft fe (en k ((s::ss).map bw)) (a::b::r)=(ft (oS (.int k)::oS (bw s)::r)).bind fun t=>if t=aj then (fe (oS (.int k)::oS (bw s)::r)).bind fun d=>(bT Xi ft fe (en (k+1) (ss.map bw)) (oS (.int k)::oS (bw s)::r)).map (d::·) else bT Xi ft fe (en (k+1) (ss.map bw)) (oS (.int k)::oS (bw s)::r):=rfl
  rw[e1,ht,qb,e,h2,qb];cases t with
  |false=>exact⟨am,rfl,U4 _ sb,g⟩
  |true=>exact⟨(s.nm,v k)::am,rfl,U5 _ sb,fun w hw=>(cr.mp hw).elim (fun e=>by rw[e];exact hv k) (g w)⟩
theorem zr {n:ah} {fi:FE} {P:D->Prop} (v:ao->ah) (hf:fi ρ=aa .(as)) (hs:ss.length<=40) (nd:(ss.map (·.nm)).Nodup) (hr:eS fv ρ=af::af::r) (hv:∀i,1<=v i/\v i<=3) (h1:∀(i:ao) s,∃b,ft (oS (.int i)::oS (bw s)::r)=aa b) (h2:∀(i:ao) s,fe (oS (.int i)::oS (bw s)::r)=aa (dW (s.nm,v i))) (p:∀am,GoodA (ss.map (·.nm)) am->P (.lst (am.map dW))):Wp (aK (aR (itE fi) Xi ft fe fv) ρ) P:=by
 obtain⟨am,e,sb,g⟩:=B2 hv h1 h2 ss 0 af af;refine⟨.lst (am.map dW),?_,p am ⟨by have:=sb.length_le;simpa using this,fun w hw=>⟨sb.subset (qW hw),(g w hw).1,by have:=(g w hw).2;omega⟩,sb.nodup nd⟩⟩;have i0:itE fi ρ=aa (en 0 (ss.map bw)):=by unfold itE;rw[hf,←en0];rfl
 have el:(en 0 (ss.map bw)).length<=aH:=by rw[←en0,rL,qf];unfold aH;omega
 unfold aK aR;rw[i0,qb,qX el,hr,e];rfl
def sN2:ac ai:=["sa","sb"]
theorem Bo:(∀x∈sN2,bh x=aj)/\sN2.Nodup:=by decide +kernel
theorem LH:∀{k:ao},k<2->∃x:ai,sN2[k]?=aa x/\(ixD (.str "ab") (.int (k:ah))).bind (fun y=>aN (.str "s") y)=aa (.str x)
 |0,_=>⟨"sa",rfl,rfl⟩
 |1,_=>⟨"sb",rfl,rfl⟩
 |n+2,h=>by omega
abbrev skE (c:ah) (ss:ac StepT) (ks:ac StockT) (a b x y:aq Slot):bo:=[oS (.int c),oS .(as),aa (.own (ks.map dc)),a,b,x,y]
theorem Ry (c:ah) (hs:ss.length<=40) (nd:(ss.map (·.nm)).Nodup):Wp (tm [.int c,.lst (ss.map bw)]) fun d=>∃ks:ac StockT,d=.lst (ks.map dc)/\ks.length<=2/\(ks.map (·.nm)).Nodup/\∀k∈ks,GoodK (ss.map (·.nm)) k:=by
 unfold tm;refine cW (kH (bX (dz (fun i ρ=>i<=2/\∃(ks:ac StockT) (a b x y:aq Slot),ρ=skE c ss ks a b x y/\ks.map (·.nm)=sN2.take i/\∀k∈ks,GoodK (ss.map (·.nm)) k) (iN (aS (cJ (k:=0) (m:=3) rfl rfl rfl .(f) .(f) .(f) fun q0 q1=>bS ⟨_,rfl,q0,by omega,⟨by decide,[],af,af,af,af,rfl,rfl,fun _ z=>nomatch z⟩,?_,?_⟩))))))
 .rintro i x ρ hx ⟨_,ks,a,b,x',y,rfl,hn,hg⟩;obtain⟨hi,rfl⟩:=kq hx;have kl:ks.length<=2:=by have:=bU c8 hn;rw[qf,qE] at this;have:sN2.length=2:=rfl;omega
  obtain⟨nm,e1,e2⟩:=LH (k:=i) .(b);refine aB rfl (bp (cJ (k:=1+(i:ah)) (m:=9) rfl rfl rfl .(b) .(b) .(f) fun r0 r1=>?_));refine bp (zr (n:=0) (fun i=>1+(i:ah)%3) rfl hs nd rfl (fun i=>by omega) (fun j s=>?_) (fun j s=>?_) fun tk gt=>?_)
  .obtain⟨e,_⟩:=eV c (k:=4+(i:ah)) (m:=7) .(b) .(b) .(f);exact⟨_,bF (aA (aU .(ak) e) rfl rfl)⟩
  .exact mo .(am) rfl
  refine bp (zr (n:=0) (fun i=>1+(i:ah)%2) rfl hs nd rfl (fun i=>by omega) (fun j s=>?_) (fun j s=>?_) fun pt gp=>?_)
  .obtain⟨e,_⟩:=eV c (k:=8+(i:ah)) (m:=7) .(b) .(b) .(f);exact⟨_,bF (aA (aU .(ak) e) rfl rfl)⟩
  .exact mo .(am) rfl
  refine uq (m:=dc) (xs:=ks) rfl .(b) (f8 (aS (aB (aA (y:=(ixD (.str "ab") (.int (i:ah))).getD .non) (z:=.str nm) rfl ?_ ?_) (aS (cJ (k:=12+(i:ah)) (m:=drw c (1+(i:ah)) 9+1) rfl rfl rfl .(b) .(b) .(b) fun f0 f1=>aS (aX rfl (aS (aX rfl (aS (aX rfl (bS ⟨by simp,⟨nm,drw c (12+(i:ah)) (drw c (1+(i:ah)) 9+1),drw c (1+(i:ah)) 9,tk,pt⟩,rfl,rfl,by omega,_,_,_,_,_,rfl,?_,fun k hk=>?_⟩)))))))))))
  .rcases(show i=0\/i=1 by omega) with rfl|rfl<;>rfl
  .rw[←e2];rcases(show i=0\/i=1 by omega) with rfl|rfl<;>rfl
  .rw[dZ,hn,j5,e1];rfl
  .rcases dA.mp hk with hk|hk
   .exact hg k hk
   .rw[bL.mp hk];exact⟨Bo.1 nm (qQ e1),⟨f0,Int.le_of_lt_add_one f1⟩,⟨r0,by show drw c (1+(i:ah)) 9<=_;omega⟩,gt,gp⟩
 .rintro ρ ⟨_,ks,a,b,x,y,rfl,hn,hg⟩;refine⟨rfl,me (ds:=ks.map dc) rfl (cP (aX rfl ⟨_,rfl,ks,rfl,?_,?_,hg⟩))⟩
  .have:=bU c8 hn;rw[qf,qE] at this;have:sN2.length=2:=rfl;omega
  .rw[hn];exact oK (mH _ _) Bo.2
noncomputable def jN3:ac ai:=["ja","jb","jc"]
theorem D8:(∀x∈jN3,bh x=aj)/\jN3.Nodup:=by decide +kernel
theorem GP:∀{k:ao},k<3->∃x:ai,jN3[k]?=aa x/\(ixD (.str "abc") (.int (k:ah))).bind (fun y=>aN (.str "j") y)=aa (.str x)
 |0,_=>⟨"ja",rfl,rfl⟩
 |1,_=>⟨"jb",rfl,rfl⟩
 |2,_=>⟨"jc",rfl,rfl⟩
 |n+3,h=>by omega
def grp (cs:ac ah) (j:ao):ah:=drw (cs.getD (j%cs.length) 0) 12 4
def mem (cs:ac ah) (ss:ac StepT) (k n s:ao):ac ai:=((vw s n).filter fun j=>decide (grp cs j=k)).map (snm ss)
theorem Kc (h:j<ss.length) {g:FE} (hf:f ρ=aa .(as)) (hg:g ρ=aa (.int (j:ah))):b2 ixD (b2 ixD f g) .(e) ρ=aa (.str (snm ss j)):=by obtain⟨_,e,rfl⟩:=xm (P:=fun d=>d=.str (snm ss j)) hf (aB hg ⟨j,rfl,by omega,by omega,by rw[gO]⟩);exact e
theorem IR (hc:0<cs.length) (j:ao) {g:FE} (hf:f ρ=aa (.lst (cs.map D.int))) (hg:g ρ=aa (.int (j:ah))):b2 ixD f (b2 eC g (cF bR (ag f ak))) ρ=aa (.int (cs.getD (j%cs.length) 0)):=by
 have hj:j%cs.length<cs.length:=yR _ hc;refine aA (y:=.int ((j%cs.length:ao):ah)) hf (aA (y:=.int cs.length) hg (aU (ax hf aJ) ?_) ?_) ?_
 .show aa (D.int (cs.map D.int).length)=_;rw[qf]
 .show(if (0:ah)<cs.length then aa (D.int ((j:ah)%cs.length)) else af)=_;rw[qX .(b)];rfl
 .rw[ixL,qk,j0,qD hj];rfl
theorem nJ {x:D} {xs:ac D} {a:aq Slot} {b:aP} (ht:ft (oS x::r)=aa b):bT (ay 0) ft fe (x::xs) (a::r)=if b=aj then (fe (oS x::r)).bind fun d=>(bT (ay 0) ft fe xs (oS x::r)).map (d::·) else bT (ay 0) ft fe xs (oS x::r):=by show((ft (oS x::r)).bind fun t=>if t=aj then (fe (oS x::r)).bind fun d=>(bT (ay 0) ft fe xs (oS x::r)).map (d::·) else bT (ay 0) ft fe xs (oS x::r))=_;rw[ht,qb]
theorem An {cs:ac ah} {ss:ac StepT} {k:ao} (hc:0<cs.length):∀(n s:ao) (a:aq Slot),s+n<=ss.length->bT (ay 0) (toB Xe) (b2 ixD (b2 ixD (vSh 1) (vSh 0)) .(e)) ((vw s n).map fun i:ao=>D.int (0+(i:ah))) [a,oS .(as),oS (.int k),oS (.lst (cs.map D.int))]=aa ((mem cs ss k n s).map D.str)
 |0,_,_,_=>rfl
 |n+1,s,a,h=>by
  obtain⟨e,_⟩:=eV (cs.getD (s%cs.length) 0) (k:=12) (m:=4) .(f) .(f) .(f);have ih:=An (k:=k) hc n (s+1) (oS (.int (0+(s:ah)))) (ss:=ss) .(b);have t:toB Xe [oS (.int (0+(s:ah))),oS .(as),oS (.int k),oS (.lst (cs.map D.int))]=aa (decide (grp cs s=k)):=
   bF (aA (aU (ax (IR hc s rfl (by rw[vt];rfl)) (ax rfl .(D))) e) rfl rfl)
  have v:b2 ixD (b2 ixD (vSh 1) (vSh 0)) .(e) [oS (.int (0+(s:ah))),oS .(as),oS (.int k),oS (.lst (cs.map D.int))]=aa (.str (snm ss s)):=Kc .(b) rfl (by rw[vt];rfl);rw[zo,qm,nJ t,v,ih];unfold mem;rw[zo,j8];cases decide (grp cs s=k)<;>rfl
theorem C0 (cs:ac ah) (ss:ac StepT) (k:ao):(mem cs ss k ss.length 0).Sublist (ss.map (·.nm)):=by
 have e:ss.map (·.nm)=(vw 0 ss.length).map (snm ss):=by refine S9 (by simp) fun i h1 h2=>?_;unfold snm;simp at h1;simp[h1]
 unfold mem;rw[e];exact List.filter_sublist.map _
theorem Ce {k:ao} (h:x∈mem cs ss k ss.length 0):∃j,j<ss.length/\x=snm ss j/\grp cs j=k:=by obtain⟨j,hj,rfl⟩:=bJ.mp h;obtain⟨h1,h2⟩:=EH.mp hj;have:=List.mem_range'_1.mp h1;exact⟨j,by omega,rfl,dh h2⟩
structure StJ (cs:ac ah) (ss:ac StepT) (h:ah) (i:ao) (js:ac JobT):Prop where
 nm:(js.map (·.nm)).Sublist (jN3.take i)
 nd:(js.flatMap (·.ms)).Nodup
 ms:∀x∈js.flatMap (·.ms),∃j,j<ss.length/\x=snm ss j/\grp cs j<i
 gd:∀j∈js,GoodJ (ss.map (·.nm)) h j
 ln:js.length<=i
theorem Hv (nd:(ss.map (·.nm)).Nodup) {a b:ao} (ha:a<ss.length) (hb:b<ss.length) (h:snm ss a=snm ss b):a=b:=by unfold snm at h;rw[j0,j0,qD (by simpa using ha),qD (by simpa using hb)] at h;exact(EJ nd).mp h
theorem StJ.add (st:StJ cs ss h i js) (nd:(ss.map (·.nm)).Nodup) {j:JobT} (hn:jN3[i]?=aa j.nm) (pm:j.ms.Perm (mem cs ss i ss.length 0)) (he:0<=j.ea/\j.ea<=h) (hd:0<=j.du/\j.du<=h) (h1:j.ms≠[]):StJ cs ss h (i+1) (js++[j]):=by
 have sb:=C0 cs ss i;refine⟨?_,?_,fun x hx=>?_,fun y hy=>?_,by have:=st.ln;rw[qj];exact Nat.succ_le_succ this⟩
 .rw[dZ,j5,hn];exact st.nm.append (FX _)
 .rw[zn];refine mS.mpr ⟨st.nd,?_,fun x hx y hy e=>?_⟩
  .simp only[jo,FY,jf];exact pm.nodup_iff.mpr (sb.nodup nd)
  .obtain⟨a,ha,e1,g1⟩:=st.ms x hx;simp only[jo,FY,jf] at hy;obtain⟨b,hb,e2,g2⟩:=Ce (pm.subset hy);have:=Hv nd ha hb (by rw[←e1,←e2,e]);subst this;omega
 .rw[zn] at hx;rcases dA.mp hx with hx|hx
  .obtain⟨a,ha,e1,g1⟩:=st.ms x hx;exact⟨a,ha,e1,by omega⟩
  .simp only[jo,FY,jf] at hx;obtain⟨b,hb,e2,g2⟩:=Ce (pm.subset hx);exact⟨b,hb,e2,by omega⟩
 .rcases dA.mp hy with hy|hy
  .exact st.gd y hy
  .rw[bL.mp hy];exact⟨D8.1 _ (qQ hn),he,hd,FZ.mpr h1,by rw[pm.length_eq];exact sb.length_le,fun m hm=>sb.subset (pm.subset hm)⟩
theorem StJ.skip (st:StJ cs ss h i js):StJ cs ss h (i+1) js:=
 ⟨st.nm.trans (List.take_sublist_take_left .(b)),st.nd,fun x hx=>by obtain⟨a,ha,e1,g1⟩:=st.ms x hx;exact⟨a,ha,e1,by omega⟩,st.gd,by have:=st.ln;omega⟩
abbrev jbE (c:ah) (cs:ac ah) (ss:ac StepT) (h:ah) (js:ac JobT) (a b x y:aq Slot):bo:=[oS (.int c),oS (.lst (cs.map D.int)),oS .(as),oS (.int h),aa (.own (js.map bf)),a,b,x,y]
theorem NO (c:ah) (hc:0<cs.length) (hh:1<=h/\h<=1000000) (hs:ss.length<=40) (nd:(ss.map (·.nm)).Nodup) (nb:∀x∈ss.map (·.nm),bh x=aj):Wp (pi [.int c,.lst (cs.map D.int),.lst (ss.map bw),.int h]) fun d=>∃js:ac JobT,d=.lst (js.map bf)/\js.length<=3/\(js.map (·.nm)).Nodup/\(js.flatMap (·.ms)).Nodup/\∀j∈js,GoodJ (ss.map (·.nm)) h j:=by
 unfold pi;refine cW (kH (bX (dz (fun i ρ=>∃(js:ac JobT) (a b x y:aq Slot),ρ=jbE c cs ss h js a b x y/\StJ cs ss h i js) (iN (aS (w_c (bS ⟨3,rfl,by decide,by decide,⟨[],af,af,af,af,rfl,Ug _,lq,(fun _ z=>nomatch z),(fun _ z=>nomatch z),qv _⟩,?_,?_⟩)))))))
 .rintro i x ρ hx ⟨js,a,b,x',y,rfl,st⟩;obtain⟨hi,rfl⟩:=kq hx;have hi:i<3:=hi;obtain⟨nm,e1,e2⟩:=GP hi;refine aB rfl (bp (aB (a:=.lst ((mem cs ss i ss.length 0).map D.str)) ?_ ?_))
  .unfold aK aR;rw[tN (ax (aU (z:=.int ss.length) .(D) (by show aa (D.int (ss.map bw).length)=_;rw[qf])) aJ) (tE ⟨by omega,by omega⟩),qb,qX (by rw[qf,qV];unfold aH;omega),gO,FW];exact bU (lu D.lst) (An hc ss.length 0 af .(b))
  refine Ez (fun ρ=>∃ms:ac ai,ρ=jbE c cs ss h js (oS (.int i)) (oS (.lst (ms.map D.str))) x' y/\ms.Perm (mem cs ss i ss.length 0)) ?_ (cO (i9 (w_2 (cJ (k:=20+(i:ah)) (m:=3) rfl rfl rfl .(b) .(b) .(f) fun _ _=>w_c (sK fun b _=>⟨b,rfl,fun _=>?_,fun _=>?_⟩)))))
  rotate_left
  .exact fg (w_1 (aX rfl (aB (a:=.lst ((mem cs ss i ss.length 0).reverse.map D.str)) (by rw[zp];rfl) (.inl ⟨rfl,_,rfl,List.reverse_perm _⟩))))
  .exact dD (.inl ⟨rfl,_,rfl,List.Perm.refl _⟩)
  .rintro _ ⟨ms,rfl,pm⟩;have mb:∀x∈ms,bh x=aj:=fun x hx=>nb x ((C0 cs ss i).subset (pm.subset hx));refine bp (wO (k:=24+4*(i:ah)) (m:=h / 2) rfl .(av) (aA rfl rfl rfl) .(b) .(b) .(b) fun ea ea0 ea1=>?_);have fin:∀du:ah,0<=du->du<=h->Wp (X4 (jbE c cs ss h js (oS (.int i)) (oS (.lst (ms.map D.str))) (oS (.int ea)) (oS (.int du)))) fun r=>r.1=.nx/\∃(js:ac JobT) (a b x y:aq Slot),r.2=jbE c cs ss h js a b x y/\StJ cs ss h (i+1) js:=by
    intro du d0 d1;refine cO (i9 (w_2 (aX rfl (aB (a:=.lst []) rfl (aB (BH mb) ⟨_,rfl,fun hm=>?_,fun _=>dD ⟨rfl,js,_,_,_,_,rfl,st.skip⟩⟩)))));have hm:ms≠[]:=by intro z;rw[z] at hm;simp at hm
    have jl:=st.ln;refine uq (m:=bf) (xs:=js) rfl .(b) (f8 (aS (aB (aA (y:=(ixD (.str "abc") (.int (i:ah))).getD .non) (z:=.str nm) rfl ?_ ?_) (aS (aX rfl (aS (aX rfl (aS (w_2 (cJ (k:=44+(i:ah)) (m:=2) rfl rfl rfl .(b) .(b) .(f) fun _ _=>w_c (sK fun od _=>aS (aX rfl (bS ⟨by simp,⟨nm,ea,du,od,ms⟩,rfl,rfl,_,_,_,_,_,rfl,st.add nd e1 pm ⟨ea0,by show ea<=h;omega⟩ ⟨d0,d1⟩ hm⟩)))))))))))))
    .rcases(show i=0\/i=1\/i=2 by omega) with rfl|rfl|rfl<;>rfl
    .rw[←e2];rcases(show i=0\/i=1\/i=2 by omega) with rfl|rfl|rfl<;>rfl
   refine bp (w_2 (kJ (aS (aX rfl (aS (cJ (k:=37+(i:ah)) (m:=h+1) rfl rfl rfl .(b) .(b) .(b) fun d0 d1=>bS ⟨by simp,?_⟩))))));exact w_2 (cJ (k:=40+(i:ah)) (m:=3) rfl rfl rfl .(b) .(b) .(f) fun q0 q1=>w_c (tD .(f) (oU .(b) (by simp;omega) (wD (fin h .(b) (lD _)) (fin _ d0 .(b))))))
 .rintro ρ ⟨js,a,b,x,y,rfl,st⟩;have st:StJ cs ss h 3 js:=st;exact⟨rfl,me (ds:=js.map bf) rfl (cP (aX rfl ⟨_,rfl,js,rfl,st.ln,oK (st.nm.trans (mH _ _)) D8.2,st.nd,st.gd⟩))⟩
noncomputable def bN8:ac ai:=["bea","beb","bec","bed","bee","bef","beg","beh"]
theorem Dc:(∀x∈bN8,bh x=aj)/\bN8.Nodup:=by decide +kernel
theorem Rw:("none":ai)∉bN8:=by decide +kernel
theorem JT:∀{k:ao},k<8->∃x:ai,bN8[k]?=aa x/\∃y,ixD (.str "abcdefgh") (.int (k:ah))=aa y/\aN (.str "be") y=aa (.str x)
 |0,_=>⟨_,rfl,_,rfl,rfl⟩
 |1,_=>⟨_,rfl,_,rfl,rfl⟩
 |2,_=>⟨_,rfl,_,rfl,rfl⟩
 |3,_=>⟨_,rfl,_,rfl,rfl⟩
 |4,_=>⟨_,rfl,_,rfl,rfl⟩
 |5,_=>⟨_,rfl,_,rfl,rfl⟩
 |6,_=>⟨_,rfl,_,rfl,rfl⟩
 |7,_=>⟨_,rfl,_,rfl,rfl⟩
 |n+8,h=>by omega
theorem Ay (ns:ac ah):(dn ns (aa 4) (aa 44)).length=min (ns.length-4) 40:=by
 show(vd (min 44 ns.length-min 4 ns.length) (List.drop (min 4 ns.length) ns)).length=_;rw[qE,jg];generalize ns.length=n;rcases Uh n 4 with h|h
 .rw[Ui h,Nat.sub_self,Nat.min_zero,Nat.sub_eq_zero_of_le h,Nat.zero_min]
 .rw[vc h];rcases Uh n 44 with k|k
  .rw[Ui k,Nat.min_self,vc (Nat.sub_le_sub_right k 4)]
  .rw[vc k,Nat.min_comm]
abbrev liE (ns:ac ah) (h c:ah) (cs:ac ah) (m:ao) (b:aq Slot) (r:bo):bo:=oS (.scr ns)::oS (.int 40)::oS (.int h)::oS (.int c)::oS (.lst (cs.map D.int))::oS (.int m)::b::r
theorem Nt {ns:ac ai} {nm:α->ai} {xs:ac α} (hl:xs.length=ns.length) (h:∀(i:ao) x,xs[i]?=aa x->ns[i]?=aa (nm x)):xs.map nm=ns:=by
 refine S6 fun i=>?_;rw[qk];cases e:xs[i]? with
 |none=>
  have:=List.getElem?_eq_none_iff.mp e;rw[yL .(b)];rfl
 |some x=>rw[h i x e];rfl
theorem Mp (ns:ac ah) (hns:ns.length<=63) (hh:1<=h/\h<=1000000):Wp (sD [.scr ns,.int 40,.int h]) fun d=>∃(bs:ac BenchT) (ss:ac StepT) (js:ac JobT) (us:ac SetT) (ls:ac LinkT) (ks:ac StockT),d=cw bs ss js us ls ks h/\Good bs ss js us ls ks h/\ss.length<=40/\js.length<=3/\("none":ai)∉bs.map (·.nm):=by
 unfold sD;refine cW (bp (mj (k:=0) rfl fun c=>?_));refine bp (w_2 (aB (l5 (z:=.lst ((dn ns (aa 4) (aa 44)).map D.int)) rfl rfl rfl rfl) (kJ (aS (mj (k:=3) rfl fun c3=>bS ⟨by simp,aB (lL (y:=[c3]) (by rw[Ay];simp;omega)) ?_⟩)))));obtain⟨cs,hcs⟩:∃cs,cs=dn ns (aa 4) (aa 44)++[c3]:=⟨_,rfl⟩;have csl:cs.length=min (ns.length-4) 40+1:=by rw[hcs,qj,Ay];rfl
 rw[←hcs];clear hcs;obtain⟨m,hm⟩:∃m:ao,m=min (max 1 (ns.length-4)) 40:=⟨_,rfl⟩;refine bp (aB (a:=.int m) (aU (ax (aU (z:=.int (max 1 (ns.length-4):ao)) (ax rfl (ax (aA (aU rfl rfl) rfl rfl) aJ)) ?_) .(D)) ?_) ?_)
 .show aa (D.int (if (ns.length:ah)-4 > 1 then (ns.length:ah)-4 else 1))=_
  congr 2
  split<;>omega
 .show aa (D.int (if (40:ah)<(max 1 (ns.length-4):ao) then 40 else (max 1 (ns.length-4):ao)))=_
  congr 2
  split<;>omega
 have m12:1<=m/\m<=40:=by omega
 have mc:m<=cs.length:=by omega
 clear hm;have e2:=eV c (k:=0) (m:=2) .(f) .(f) .(f);have e3:=eV c (k:=0) (m:=3) .(f) .(f) .(f);have e8:=eV c (k:=0) (m:=8) .(f) .(f) .(f);have many:Wp (b2 aN .(h) (cF bz (ag (vSh 3) (ag .(e) (ag (b2 ixD (aK (szF (ag .(J) (ag .(L) (ag (vC (.int 8)) ak))))) (cF bz (ag (vSh 3) (ag .(h) (ag .(L) ak))))) ak)))) (liE ns h c cs m (aa (.own [])) [af,af,af,af,af,af])) fun d=>∃n:ao,d=.int n/\1<=n/\n<=8:=by
  refine w_2 (w_c (gL (aS (aX rfl (aS (w_c (aS (w_2 (aB (a:=.lst [.int 2,.int 3,.int 8]) rfl (cJ (k:=1) (m:=3) rfl rfl rfl .(f) .(f) .(f) fun q0 q1=>oU q0 q1 (Pk ?_ ?_ ?_)))))))))))
  .exact bS (aB e2.1 (fH ⟨(1+drw c 0 2).toNat,by congr 1;omega,by omega,by omega⟩))
  .exact bS (aB e3.1 (fH ⟨(1+drw c 0 3).toNat,by congr 1;omega,by omega,by omega⟩))
  .exact bS (aB e8.1 (fH ⟨(1+drw c 0 8).toNat,by congr 1;omega,by omega,by omega⟩))
 obtain⟨_,enb,nb,rfl,n1,n8⟩:=many;clear e2 e3 e8;refine kH (bX (dz (fun i ρ=>i<=8/\∃(bs:ac BenchT) (k:aq Slot),ρ=liE ns h c cs m (aa (.own (bs.map bK))) [k,af,af,af,af,af]/\bs.map (·.nm)=bN8.take i/\∀b∈bs,GoodB h b) (iN (aS (aB enb (bS ⟨nb,rfl,by omega,by omega,⟨by decide,[],af,rfl,rfl,fun _ z=>nomatch z⟩,?_,?_⟩))))))
 .rintro i x ρ hx ⟨_,bs,k,rfl,hn,hg⟩;obtain⟨hi,rfl⟩:=kq hx;have hi:i<8:=by omega
  have bl:bs.length=i:=by have:=bU c8 hn;rw[qf,qE] at this;have:bN8.length=8:=rfl;omega
  obtain⟨nm,e1,y,e2,e3⟩:=JT hi;refine aB rfl (uq (m:=bK) (xs:=bs) rfl .(b) (f8 (aS (aB (aA rfl (aA rfl rfl e2) e3) (aS (gL (aS (w_2 (mj (k:=1) rfl fun c1=>aB (aA rfl rfl gU) (fH (aS (w_c (aS (aX rfl (bS ((JP (c1+2*(i:ah)) (h:=h) .(b)).imp fun d ⟨br,e,bl2,f,gi⟩=>?_))))))))))))))));subst e;refine bS ⟨by simp,⟨nm,br⟩,rfl,rfl,by omega,_,_,rfl,?_,fun b hb=>?_⟩
  .rw[dZ,hn,j5,e1];rfl
  .rcases dA.mp hb with hb|hb
   .exact hg b hb
   .rw[bL.mp hb];exact⟨Dc.1 nm (qQ e1),by show br.length<=10;omega,fun p hp=>by have:=gi.iv p hp;exact⟨this.1,this.2.1,this.2.2.1⟩,gi.gap⟩
 .rintro ρ ⟨_,bs,k,rfl,hn,hg⟩;rw[qf,qV,gO] at hn;have bl:bs.length=nb:=by have:=bU c8 hn;rw[qf,qE] at this;have:bN8.length=8:=rfl;omega
  have bdn:(bs.map (·.nm)).Nodup:=by rw[hn];exact oK (mH _ _) Dc.2
  have bno:("none":ai)∉bs.map (·.nm):=by rw[hn];exact fun z=>Rw (rP z)
  clear hn;refine⟨rfl,bp (gL (aS (mj (k:=2) rfl fun c2=>aS (aX rfl (bS ((LK c2 m12.2).imp fun d ⟨sn,e,sl,snd,snb⟩=>?_)))))) ⟩;subst e;refine me (ds:=bs.map bK) rfl ?_;refine bp (Eu (m:=bw) (n:=m) (fun i s=>sn[i]?=aa s.nm/\GoodS (bs.map (·.nm)) h s) ⟨_,ax rfl aJ,rfl⟩ .(b) rfl (fun i hi=>?_) fun ss ssl ssq=>?_)
  .have e1:b2 ixD (vSh 3) (vSh 0) [oS (.int (i:ah)),oS .(aB),oS (.int h),oS (.lst (cs.map D.int)),oS .(V)]=aa (.int (cs[i]'.(b))):=aA rfl rfl (by rw[ixL,qk,qD .(b)];rfl);have e2:b2 ixD (vSh 4) (vSh 0) [oS (.int (i:ah)),oS .(aB),oS (.int h),oS (.lst (cs.map D.int)),oS .(V)]=aa (.str (sn[i]'.(b))):=aA rfl rfl (by rw[ixL,qk,qD .(b)];rfl);exact gL (aS (aB e1 (aS (aB e2 (aS (aX rfl (aS (aX rfl (bS ((RH _ (snb _ (oF _)) .(b) bdn hh.1).imp fun d ⟨s,e,en,gs⟩=>⟨s,e,by rw[en,qD .(b)],gs⟩))))))))))
  have hsn:ss.map (·.nm)=sn:=Nt .(b) fun i x hx=>(ssq i x hx).1;have gss:∀s∈ss,GoodS (bs.map (·.nm)) h s:=fun s hs=>by obtain⟨i,hi⟩:=FU hs;exact(ssq i s hi).2
  have sdn:(ss.map (·.nm)).Nodup:=by rw[hsn];exact snd
  have snb':∀x∈ss.map (·.nm),bh x=aj:=by rw[hsn];exact snb
  refine bp (gL (aS (aX rfl (aS (w_c (aS (aX rfl (bS ((Pd c (ss:=ss) .(b)).imp fun d ⟨es,e,el,end',eg⟩=>?_)))))))));subst e;refine bp (gL (aS (mj (k:=3) rfl fun c3=>aS (aX rfl (aS (aX rfl (bS ((PH c3 (bs:=bs) hh.1 .(b)).imp fun d ⟨eu,e,ul,und,ug⟩=>?_))))))));subst e;refine bp (aB (Al (es:=es) (fun n=>if h<n then h else n) rfl .(b) (fun e he=>?_) rfl fun e he=>?_) ?_)
  .obtain⟨⟨a,b,e0,_⟩,_⟩:=eg e he;rw[e0];exact⟨by simp,by simp⟩
  .refine aU (ax (aA (z:=.int e.2) rfl rfl ?_) .(D)) rfl;show((eE (e.1.map D.str)).map (bc (dKV es))).bind id=_;rw[nv,qe,Ei end' he];rfl
  obtain⟨ls,els⟩:∃ls:ac LinkT,ls=es.map fun e=>⟨e.1.getD 0 "",e.1.getD 1 "",if h<e.2 then h else e.2⟩:=⟨_,rfl⟩;obtain⟨us,eus⟩:∃us:ac SetT,us=eu.map fun e=>⟨e.1.getD 0 "",e.1.getD 1 "",e.1.getD 2 "",e.2⟩:=⟨_,rfl⟩;have l1:(es.map fun e=>D.tup (e.1.map D.str++[.int (if h<e.2 then h else e.2)]))=ls.map c0:=by rw[els,qo];refine ik fun e he=>?_;obtain⟨⟨a,b,e0,_⟩,_⟩:=eg e he;rw[e0];show _=c0 ⟨e.1.getD 0 "",e.1.getD 1 "",_⟩;rw[e0];rfl
  have u1:(eu.map fun e=>D.tup (e.1.map D.str++[.int e.2]))=us.map cY:=by rw[eus,qo];refine ik fun e he=>?_;obtain⟨⟨a,b,q,e0,_⟩,_⟩:=ug e he;rw[e0];show _=cY ⟨e.1.getD 0 "",e.1.getD 1 "",e.1.getD 2 "",_⟩;rw[e0];rfl
  have l2:(ls.map fun l=>[l.a,l.b])=es.map (·.1):=by rw[els,qo];refine ik fun e he=>?_;obtain⟨⟨a,b,e0,_⟩,_⟩:=eg e he;show[e.1.getD 0 "",e.1.getD 1 ""]=e.1;rw[e0];rfl
  have u2:(us.map fun u=>[u.b,u.p,u.q])=eu.map (·.1):=by rw[eus,qo];refine ik fun e he=>?_;obtain⟨⟨a,b,q,e0,_⟩,_⟩:=ug e he;show[e.1.getD 0 "",e.1.getD 1 "",e.1.getD 2 ""]=e.1;rw[e0];rfl
  have l3:∀l∈ls,GoodL (ss.map (·.nm)) h l:=fun l hl=>by rw[els] at hl;obtain⟨e,he,rfl⟩:=bJ.mp hl;obtain⟨⟨a,b,e0,h1,h2,h3⟩,h4,h5⟩:=eg e he;rw[e0];refine⟨h1,h2,h3,?_⟩;show 0<=(if h<e.2 then h else e.2)/\(if h<e.2 then h else e.2)<=h;split<;>omega
  have u3:∀u∈us,GoodU (bs.map (·.nm)) h u:=fun u hu=>by rw[eus] at hu;obtain⟨e,he,rfl⟩:=bJ.mp hu;obtain⟨⟨a,b,q,e0,h1,h2,h3⟩,h4⟩:=ug e he;rw[e0];exact⟨h1,h2,h3,h4⟩
  have l4:ls.length<=5:=by rw[els,qf];exact el
  have u4:us.length<=11:=by rw[eus,qf];exact ul
  rw[l1,u1];rw[←l2] at end';rw[←u2] at und;clear l1 u1 els eus l2 u2 eg ug;have gok:∀js ks,js.length<=3->(js.map (·.nm)).Nodup->(js.flatMap (·.ms)).Nodup->(∀j∈js,GoodJ (ss.map (·.nm)) h j)->ks.length<=2->(ks.map (·.nm)).Nodup->(∀k∈ks,GoodK (ss.map (·.nm)) k)->Good bs ss js us ls ks h:=fun js ks h1 h2 h3 h4 h5 h6 h7=>
   ⟨hh,by omega,hg,bdn,by omega,gss,sdn,by omega,h4,h2,h3,by omega,u3,und,by omega,l3,end',by omega,h7,h6⟩
  have fin:∀ks:ac StockT,ks.length<=2->(ks.map (·.nm)).Nodup->(∀k∈ks,GoodK (ss.map (·.nm)) k)->Wp ((aC (bm (szF (ag (vSh 6) (ag (vSh 9) (ag (cF pi (ag (vSh 3) (ag (vSh 4) (ag (vSh 9) .(T))))) (ag (vSh 11) (ag (vSh 10) (ag (vSh 12) .(T)))))))))) (liE ns h c cs m (oS .(aB)) [k,oS .(V),oS .(as),oS (.lst (ls.map c0)),oS (.lst (us.map cY)),oS (.lst (ks.map dc))])) fun r=>∃d,r.1=.rt d/\∃(bs:ac BenchT) (ss:ac StepT) (js:ac JobT) (us:ac SetT) (ls:ac LinkT) (ks:ac StockT),d=cw bs ss js us ls ks h/\Good bs ss js us ls ks h/\ss.length<=40/\js.length<=3/\("none":ai)∉bs.map (·.nm):=by intro ks k1 k2 k3;refine cP (f8 (aS (aX rfl (aS (aX rfl (aS (gL (aS (aX rfl (aS (aX rfl (aS (aX rfl (aS (aX rfl (bS ((NO c (cs:=cs) (ss:=ss) .(b) hh .(b) sdn snb').imp fun d ⟨js,e,j1,j2,j3,j4⟩=>?_)))))))))))))))));subst e;exact aS (aX rfl (aS (aX rfl (aS (aX rfl (aS (aX rfl (bS ⟨by simp,_,rfl,bs,ss,js,us,ls,ks,rfl,gok js ks j1 j2 j3 j4 k1 k2 k3,by omega,j1,bno⟩))))))))
  refine bp (aB (a:=.lst (([]:ac StockT).map dc)) rfl (bX (cO (i9 (w_2 (cJ (k:=70) (m:=3) rfl rfl rfl .(f) .(f) .(f) fun _ _=>w_c (sK fun b _=>⟨b,rfl,fun _=>?_,fun _=>dD ⟨rfl,fin [] (by simp) lq fun _ z=>nomatch z⟩⟩)))))));refine fg (gL (aS (mj (k:=1) rfl fun c1=>aS (aX rfl (bS ((Ry c1 (ss:=ss) .(b) sdn).imp fun d ⟨ks,e,k1,k2,k3⟩=>?_))))));subst e;exact⟨rfl,fin ks k1 k2 k3⟩
theorem t7 {l:ac α} (nd:l.Nodup) {x:α} (h:l[i]?=aa x):x∉l.take i:=fun hm=>by obtain⟨j,hj,e⟩:=u5.mp hm;rw[qE] at hj;obtain⟨hi,e2⟩:=df.mp h;rw[List.getElem_take] at e;have:=(EJ nd).mp (e.trans e2.symm);omega
theorem Af:∀{fs:Fo} {j:ao} {f:ai} {x y:Fld},(fs.map (·.1)).Nodup->fs[j]?=aa (f,y)->gn f x fs=fs.set j (f,x)
 |[],j,f,x,y,_,h=>by simp at h
 |(g,z)::r,0,f,x,y,_,h=>by
  simp only[qc,zh,Uc] at h;obtain⟨rfl,rfl⟩:=h;unfold gn;rw[qX rfl];rfl
 |(g,z)::r,j+1,f,x,y,nd,h=>by rw[qm,eA] at nd;rw[qd] at h;have hne:¬f=g:=fun e=>nd.1 (by rw[←e];exact qW (f:=(·.1)) (qQ h));unfold gn;rw[qY hne,Af nd.2 h];rfl
section
variable {f k:ai} {fs:Fo} {b:aP} {fv:FE} {kvs:ac (Key×D)} {kts:ac .(aG)} {y:Fld}
theorem kP (j:ao) (hs:ρ[i]?=aa (aa (.fo b c fs))) (nd:(fs.map (·.1)).Nodup) (hj:fs[j]?=aa (f,.k kvs)) (hk:fk ρ=aa (.str k)) (hv:fv ρ=aa d) (hl:kvs.length<100000):gR c f i fk fv ρ=aa (.nx,ρ.set i (aa (.fo b c (fs.set j (f,.k (bW kvs (.inr k) d)))))):=by unfold gR;rw[hv,hk,hs];show(if c=c then match fs.lookup f with|some (.k kvs)=>_|some (.t kvs)=>_|_=>_ else af)=_;rw[qX rfl,nj nd hj,←Af nd hj];exact qX hl
theorem AD {ks:ac ai} (nd:ks.Nodup) (n:ao) (hk:ks[n]?=aa f) (hf:fs.map (·.1)=ks.take n) (hn:n<100):fs.lookup f=af/\fs.length<100:=by refine⟨ma (by rw[hf];exact t7 nd hk),?_⟩;have:=bU c8 hf;rw[qf,qE] at this;omega
theorem nu {ks:ac ai} (nd:ks.Nodup) (n:ao) (hs:ρ[i]?=aa (aa (.fo b c fs))) (hk:ks[n]?=aa f) (hf:fs.map (·.1)=ks.take n) (hv:fv ρ=aa d) (hn:n<100:=by decide):iW c f i fv ρ=aa (.nx,ρ.set i (aa (.fo b c (fs++[(f,.d d)])))):=by unfold iW;rw[hv,hs];exact qX ⟨rfl,AD nd n hk hf hn⟩
theorem jp {ks:ac ai} (nd:ks.Nodup) (n:ao) (hs:ρ[i]?=aa (aa (.fo b c fs))) (hk:ks[n]?=aa f) (hf:fs.map (·.1)=ks.take n) (hn:n<100:=by decide):fR c f i y ρ=aa (.nx,ρ.set i (aa (.fo b c (fs++[(f,y)])))):=by unfold fR;rw[hs];exact qX ⟨rfl,AD nd n hk hf hn⟩
theorem zy (j:ao) (nd:(fs.map (·.1)).Nodup) (hj:fs[j]?=aa (f,y)) (h1:fo ρ=aa (foD c fs)):bC c f fo ρ=aa (foF y):=by unfold bC;rw[h1];show(if c=c then (fs.map fun z=>(z.1,foF z.2)).lookup f else af)=_;rw[qX rfl];refine nj (i:=j) (by rw[qo];exact nd) ?_;rw[qk,hj];rfl
theorem sB {F:FQ} (hm:m∉fs.map (·.1)) (h1:fo ρ=aa (foD c fs)) (h2:fr ρ=aa ds) (h3:F (foD c fs::ds)=aa d):bq c m F fo fr ρ=aa d:=by have hno:(fs.map fun z=>(z.1,foF z.2)).lookup m=af:=ma (by rw[qo];exact hm);unfold bq;rw[h1];show(if c=c/\(fs.map fun z=>(z.1,foF z.2)).lookup m=af then (fr ρ).bind fun ds=>F (foD c fs::ds) else af)=_;rw[qX ⟨rfl,hno⟩,h2];exact h3
theorem By {P:Fo->Prop} (h:Wp (g (aa (.fo aj c [])::(ds.map .(X)++bM n af))) fun r=>r.1=.nx/\∃fs,r.2[0]?=aa (aa (.fo aj c fs))/\P fs):Wp (jt n c g ds) P:=by obtain⟨⟨fl,ρ'⟩,e,e1,fs,e2,p⟩:=h;have e1:fl=.nx:=e1;subst e1;refine⟨fs,?_,p⟩;unfold jt;rw[e,qb];show(match ρ'[0]? with|some (aa (Slot.fo aj c' fs))=>if c'=c then aa fs else af|_=>af)=_;rw[e2];exact qX rfl
theorem cZ (e:g ρ=aa (.nx,ρ1)) (h:Wp (g' ρ1) R):Wp (aw g g' ρ) R:=bX (aB e ⟨rfl,h⟩)
end
section
variable {bs:ac BenchT}
noncomputable abbrev kvS (f:StepT->D) (xs:ac StepT):ac (Key×D):=xs.map fun s=>(.inr s.nm,f s)
theorem PU [dG κ] {kvs:ac (κ×D)} {k:κ} {v:D} (h:k∉kvs.map (·.1)):bW kvs k v=kvs++[(k,v)]:=by unfold bW;rw[qY];intro z;obtain⟨x,hx,e⟩:=zm.mp z;exact h (dh e▸qW hx)
theorem ko (nd:(ss.map (·.nm)).Nodup) {s:StepT} (hs:ss[i]?=aa s) (f:StepT->D):bW (kvS f (ss.take i)) .(an) (f s)=kvS f (ss.take (i+1)):=by have e:kvS f (ss.take (i+1))=kvS f (ss.take i)++[(.inr s.nm,f s)]:=Eb _ hs;rw[PU,e];intro z;obtain⟨p,hp,e⟩:=bJ.mp z;obtain⟨t,ht,rfl⟩:=bJ.mp hp;have e:t.nm=s.nm:=hG e;refine t7 nd (i:=i) (x:=s.nm) (by rw[qk,hs];rfl) ?_;rw[←e,←vx];exact qW ht
theorem kf (f:StepT->D) (hl:ss.length<=40) (i:ao):(kvS f (ss.take i)).length<100000:=by rw[qf,qE];omega
noncomputable def lwD (s:StepT):D:=.dk (s.ws.map fun w=>(.inr w.1,.int w.2))
def jnD (js:ac JobT) (m:ai):D:=match di js m with
 |some j=>.str j.nm
 |none=>.non
def eaI (js:ac JobT) (m:ai):ah:=match di js m with
 |some j=>j.ea
 |none=>0
def duI (js:ac JobT) (h:ah) (m:ai):ah:=match di js m with
 |some j=>j.du
 |none=>h
def mkI (js:ac JobT) (lm h:ah) (m:ai):ah:=if h<lm then (if duI js h m<h then duI js h m else h) else (if duI js h m<lm then duI js h m else lm)
abbrev gF4 (S:D) (js:ac JobT) (h lm:ah) (kp:ac (Key×D)) (l j e m:ac StepT):Fo:=[("told_shop",.d S),("kept_plan",.d (.dk kp)),("kept_most",.d (.int 0)),("lengths",.k (kvS lwD l)),("job_names",.k (kvS (fun s=>jnD js s.nm) j)),("early_moments",.k (kvS (fun s=>.int (eaI js s.nm)) e)),("end_marks",.k (kvS (fun s=>.int .(r)) m))]
theorem iq:wK.Nodup:=by decide +kernel
abbrev grE (fs:Fo) (S:D) (lm:ah) (kp:ac (Key×D)) (a b c:aq Slot):bo:=[aa (.fo aj "Grounds" fs),oS S,oS (.int lm),oS (.dk kp),oS (.int 0),a,b,c]
theorem sW {nm:α->ai} {f:α->D} {xs:ac α} (hl:xs.length<=1000) (nd:(xs.map nm).Nodup):ip [.lst (xs.map fun x=>.tup [.str (nm x),f x])]=aa (.dk (xs.map fun x=>(.inr (nm x),f x))):=by
 have kn:((xs.map fun x=>((.inr (nm x):Key),f x)).map (·.1)).Nodup:=by rw[qo];have:=vq (S:=fun a b:Key=>a≠b) (cD:ai->Key) (fun a b hab z=>hab (hG z)) nd;rw[qo] at this;exact this
 show(if _ then _ else _)=_;rw[qX (by rw[qf];exact hl),Bv,qe,xY kn]
theorem Ob [dG κ] {F:κ->aq D} {k:κ} :∀{ps:ac (κ×D)} {acc:ac (κ×D)},(∀p∈ps,F p.1=aa p.2)->(F k≠af->k∈ps.map (·.1)\/bc acc k=F k)->(F k=af->bc acc k=af)->bc (ps.foldl (fun acc kv=>bW acc kv.1 kv.2) acc) k=F k:=by
 intro xs0
 induction xs0 with
 |nil=>
  intro acc _ h2 h3;cases e:F k with
  |none=>exact h3 e
  |some d=>
   rcases h2 (by rw[e];exact fun z=>nomatch z) with h|h
   .cases h
   .exact h.trans e
 |cons p r ih=>
  intro acc h1 h2 h3;rw[fQ];have hp:=h1 p qg;refine ih (fun q hq=>h1 q (qh _ hq)) (fun hk=>?_) fun hk=>?_
  .rw[jO];by_cases e:k=p.1
   .rw[qX e,e,hp];exact .inr rfl
   .rw[qY e];rcases h2 hk with h|h
    .exact .inl ((cr.mp h).resolve_left e)
    .exact .inr h
  .rw[jO,qY (fun e=>by rw[e,hp] at hk;cases hk)];exact h3 hk
def ON (js:ac JobT) (ls:ac LinkT):ac Key->aq D
 |[.inr a,.inr b]=>(eJ js ls a b).map D.int
 |_=>af
theorem QH (g:Good bs ss js us ls ks h):∃kvs,ng [.lst ((((ss.map (·.nm)).flatMap (gS js ls (ss.map (·.nm)))).map fun t=>.tup [.tup ([t.1,t.2.1].map D.str),.int t.2.2]))]=aa (.dt kvs)/\∀a∈ss.map (·.nm),∀b∈ss.map (·.nm),bc kvs (kk a b)=(eJ js ls a b).map D.int:=by
 have hl:=vN js ls (ss.map (·.nm)) (ss.map (·.nm));rw[qf] at hl;have h2:ss.length*ss.length<=40*40:=yM g.sl.2 g.sl.2;refine⟨o0 ((((ss.map (·.nm)).flatMap (gS js ls (ss.map (·.nm)))).map fun t=>([t.1,t.2.1].map cD,.int t.2.2))),?_,fun a ha b hb=>?_⟩
 .show(if _ then _ else _)=_;rw[qX (by rw[qf];omega),BL (t:=fun t:GT=>[t.1,t.2.1]) (f:=fun t=>.int t.2.2)];rfl
 .refine Ob (F:=ON js ls) (fun p hp=>?_) (fun hk=>.inl ?_) fun _=>rfl
  .obtain⟨t,ht,rfl⟩:=bJ.mp hp;obtain⟨x,_,hx⟩:=FV.mp ht;obtain⟨y,_,hy⟩:=ro.mp hx;obtain⟨q,hq,rfl⟩:=oMd hy;show(eJ js ls x y).map D.int=_;rw[hq];rfl
  .have hk:(eJ js ls a b).map D.int≠af:=hk;cases e:eJ js ls a b with
   |none=>rw[e] at hk;exact bA rfl hk
   |some q=>exact bJ.mpr ⟨_,bJ.mpr ⟨(a,b,q),FV.mpr ⟨a,ha,ro.mpr ⟨b,hb,by rw[e];rfl⟩⟩,rfl⟩,rfl⟩
theorem GQ:∀(os:ac GT) (a b c:aq Slot),bT (bG 3 (aM (ay 0) (aM (ay 1) (aM (ay 2) bH)))) tT (bm (szF (ag (bm (szF (ag (vSh 0) .(H)))) .(T)))) (os.map dGp) [a,b,c]=aa (os.map fun t=>.tup [.tup ([t.1,t.2.1].map D.str),.int t.2.2]):=by
 intro xs0
 induction xs0 with
 |nil=>
  intro _ _ _;exact rfl
 |cons t r ih=>
  intro a b c;have e:bT (bG 3 (aM (ay 0) (aM (ay 1) (aM (ay 2) bH)))) tT (bm (szF (ag (bm (szF (ag (vSh 0) .(H)))) .(T)))) ((t::r).map dGp) [a,b,c]=(bT (bG 3 (aM (ay 0) (aM (ay 1) (aM (ay 2) bH)))) tT (bm (szF (ag (bm (szF (ag (vSh 0) .(H)))) .(T)))) (r.map dGp) [oS (.str t.1),oS (.str t.2.1),oS (.int t.2.2)]).map (D.tup [.tup ([t.1,t.2.1].map D.str),.int t.2.2]::·):=rfl;rw[e,ih];rfl
theorem RY (g:Good bs ss js us ls ks h):wX [bQ bs ss js us ls ks h]=aa .(aB):=by have hp:Pl 8 .(aB):=gQ (by have:=g.bl;omega) fun x hx=>AE (n:=3) (g.b x hx);exact ca [oS .(l)] rfl (bZ (aU (ax (lN 0 rfl rfl) aJ) (iA hp)))
abbrev gFo (bs:ac BenchT) (ss:ac StepT) (js:ac JobT) (us:ac SetT) (ls:ac LinkT) (ks:ac StockT) (h lm:ah) (kp:ac (Key×D)) (kvs:ac .(aG)):Fo:=gF4 .(l) js h lm kp ss ss ss ss++([("breaks",.d (.dk (bs.map fun b=>(.inr b.nm,.lst (b.br.map dIv))))),("known_gaps",.d (.dt kvs))]:Fo)
structure Gaps (ss:ac StepT) (js:ac JobT) (ls:ac LinkT) (kvs:ac .(aG)):Prop where
 at':∀a∈ss.map (·.nm),∀b∈ss.map (·.nm),bc kvs (kk a b)=(eJ js ls a b).map D.int
theorem wa (js:ac JobT) (m:ai) {x:D} {F:JobT->D} (hs:ρ[i]?=aa (oS (pr (di js m)))) (ha:fa ρ=aa x) (hb:∀j,ρ[i]?=aa (oS (bf j))->fb ρ=aa (F j)):ifD (toB (b2 isD (vSh i) (vC .non))) fa fb ρ=aa (match di js m with|some j=>F j|none=>x):=by
 unfold ifD;cases e:di js m with
 |none=>
  rw[e] at hs;have:toB (b2 isD (vSh i) (vC .non)) ρ=aa aj:=bF (aA (x:=.non) (by unfold vSh;rw[hs];rfl) rfl rfl);rw[this,qb,qX rfl,ha]
 |some j=>
  rw[e] at hs;have:toB (b2 isD (vSh i) (vC .non)) ρ=aa ar:=bF (aA (x:=bf j) (by unfold vSh;rw[hs];rfl) rfl rfl);rw[this,qb,qY qr];exact hb j hs
theorem IW (g:Good bs ss js us ls ks h):Wp (pO [bQ bs ss js us ls ks h,.int lm,.dk kp,.int 0]) fun fs=>∃kvs,fs=gFo bs ss js us ls ks h lm kp kvs/\Gaps ss js ls kvs:=by
 have hN:=wL (bs:=bs) (ss:=ss) (js:=js) (us:=us) (ls:=ls) (ks:=ks) (h:=h) g.sl.2;obtain⟨kvs,hk,hv⟩:=QH g;unfold pO;refine By (cZ (nu iq 0 rfl rfl rfl rfl) (cZ (nu iq 1 rfl rfl rfl rfl) (cZ (nu iq 2 rfl rfl rfl rfl) (cZ (jp iq 3 rfl rfl rfl) (cZ (jp iq 4 rfl rfl rfl) (cZ (jp iq 5 rfl rfl rfl) (cZ (jp iq 6 rfl rfl rfl) ?_)))))));show Wp (aw _ _ (grE (gF4 .(l) js h lm kp (ss.take 0) (ss.take 0) (ss.take 0) (ss.take 0)) .(l) lm kp af af af)) _;refine bX (dz (fun i ρ=>∃a b c,ρ=grE (gF4 .(l) js h lm kp (ss.take i) (ss.take i) (ss.take i) (ss.take i)) .(l) lm kp a b c) (dM (aB (iK .(P) rfl aJ hN) (aB rfl ⟨⟨af,af,af,rfl⟩,?_,?_⟩))))
 .rintro i x ρ hx ⟨a,b,c,rfl⟩;rw[qo,qk] at hx;obtain⟨s,hs,rfl⟩:=oMd hx;have hm:=qQ hs;have gs:=g.s s hm;have nd:∀l j e m:ac StepT,((gF4 .(l) js h lm kp l j e m).map (·.1)).Nodup:=fun l j e m=>wN iq 7;refine aB rfl (cZ (kP (fs:=gF4 .(l) js h lm kp (ss.take i) (ss.take i) (ss.take i) (ss.take i)) (k:=s.nm) (d:=lwD s) 3 rfl (nd _ _ _ _) rfl rfl (aU (ax (iK .(P) rfl .(D) (QG g hm)) aJ) (sW (by have:=gs.l4;omega) gs.nd)) (kf _ g.sl.2 _)) ?_);rw[ko g.sn hs lwD];refine bp (aB (iK .(P) rfl .(D) (Gr g s.nm)) ?_);refine cZ (kP (fs:=gF4 .(l) js h lm kp (ss.take (i+1)) (ss.take i) (ss.take i) (ss.take i)) (k:=s.nm) (d:=jnD js s.nm) 4 rfl (nd _ _ _ _) rfl rfl (wa js s.nm (F:=fun j=>.str j.nm) rfl rfl fun j hj=>aA (x:=bf j) (by unfold vSh;rw[hj]) rfl cb) (kf _ g.sl.2 _)) ?_;rw[ko g.sn hs fun s=>jnD js s.nm];have e5:∀fs:Fo,ifD (toB (b2 isD (vSh 6) (vC .non))) .(e) (b2 ixD (vSh 6) .(h)) (grE fs .(l) lm kp (oS .(bg)) (oS (pr (di js s.nm))) c)=aa (.int (eaI js s.nm)):=fun fs=>by refine(wa js s.nm (F:=fun j=>.int j.ea) rfl rfl fun j hj=>aA (x:=bf j) (by unfold vSh;rw[hj]) rfl eB).trans ?_;unfold eaI;cases di js s.nm<;>rfl
  refine cZ (kP (fs:=gF4 .(l) js h lm kp (ss.take (i+1)) (ss.take (i+1)) (ss.take i) (ss.take i)) (k:=s.nm) (d:=.int (eaI js s.nm)) 5 rfl (nd _ _ _ _) rfl rfl (e5 _) (kf _ g.sl.2 _)) ?_;rw[ko g.sn hs fun s=>.int (eaI js s.nm)];refine bp (aB (a:=.int (duI js h s.nm)) ?_ ?_)
  .refine(wa js s.nm (x:=.int h) (F:=fun j=>.int j.du) rfl (iK .(P) rfl aJ B9) fun j hj=>aA (x:=bf j) (by unfold vSh;rw[hj]) rfl fT).trans ?_;unfold duI;cases di js s.nm<;>rfl
  refine aB (kP (fs:=gF4 .(l) js h lm kp (ss.take (i+1)) (ss.take (i+1)) (ss.take (i+1)) (ss.take i)) (k:=s.nm) (d:=.int .(r)) 6 rfl (nd _ _ _ _) rfl rfl (aU (ax rfl (ax (iK .(P) rfl aJ B9) .(D))) rfl) (kf _ g.sl.2 _)) ⟨rfl,?_⟩;rw[ko g.sn hs fun s=>.int .(r)];exact⟨_,_,_,rfl⟩
 .rintro ρ ⟨a,b,c,rfl⟩;rw[qf,qf,ij];refine⟨rfl,cZ (nu (fs:=gF4 .(l) js h lm kp ss ss ss ss) iq 7 rfl rfl rfl (aU (ax (iK .(P) rfl aJ (RY g)) aJ) (sW (nm:=fun b:BenchT=>b.nm) (f:=fun b=>.lst (b.br.map dIv)) (by have:=g.bl;omega) g.bn))) (aB (nu iq 8 rfl rfl rfl (aU (ax ?_ aJ) hk)) ⟨rfl,_,rfl,kvs,rfl,⟨hv⟩⟩)⟩
  .have hl:=vN js ls (ss.map (·.nm)) (ss.map (·.nm));rw[qf] at hl;have h2:ss.length*ss.length<=40*40:=yM g.sl.2 g.sl.2;refine fD ?_;unfold aR itF;rw[aU .(D) (L3 g)];show(if _ then _ else _)=_;rw[qX (by rw[qf];unfold aH;omega)];exact GQ _ _ _ _
end
end Law
variable {L l:ah} {O B A' B' pu:ac (Key×D)} {nt:aP} {q:ai×ah} {T:D} {Y a14 a16 a7 a8 a9 a6 a12 a11 a13 a15:aq Slot}
namespace Law
noncomputable def sb:ac (ah×ah)->ah->ah->ah
 |[],_,s=>s
 |p::r,L,s=>sb r L (if s<p.2/\p.1<s+L then p.2 else s)
noncomputable def sa:ac (ah×ah)->ah->ah->ah
 |[],_,s=>s
 |p::r,L,s=>sa r L (if s<p.2/\p.1<s+L then p.1-L else s)
noncomputable def frI (L s:ah) (p:ah×ah):Prop:=¬(s<p.2/\p.1<s+L)
theorem nP:∀(br:ac (ah×ah)) (L s:ah),s<=sb br L s:=by
 intro xs0
 induction xs0 with
 |nil=>
  intro _ _;exact lD _
 |cons p r ih=>
  intro L s;unfold sb;split
  .rename_i h;exact zi (Int.le_of_lt h.1) (ih L _)
  .exact ih L s
theorem pe:∀(br:ac (ah×ah)) (L s:ah),sa br L s<=s:=by
 intro xs0
 induction xs0 with
 |nil=>
  intro _ _;exact lD _
 |cons p r ih=>
  intro L s;unfold sa;split
  .rename_i h;exact zi (ih L _) .(b)
  .exact ih L s
theorem ye:∀{br:ac (ah×ah)} {L s:ah},(∀p∈br,frI L s p)->sb br L s=s:=by
 intro xs0
 induction xs0 with
 |nil=>
  intro _ _ _;exact rfl
 |cons p r ih=>
  intro L s h;unfold sb;rw[qY (h p qg)];exact ih fun q hq=>h q (qh _ hq)
theorem CU:∀{br:ac (ah×ah)} {L s:ah},(∀p∈br,frI L s p)->sa br L s=s:=by
 intro xs0
 induction xs0 with
 |nil=>
  intro _ _ _;exact rfl
 |cons p r ih=>
  intro L s h;unfold sa;rw[qY (h p qg)];exact ih fun q hq=>h q (qh _ hq)
theorem GS:∀{br:ac (ah×ah)} {L s:ah},sb br L s=s->∀p∈br,frI L s p:=by
 intro xs0
 induction xs0 with
 |nil=>
  intro _ _ _ _ hp;cases hp
 |cons p r ih=>
  intro L s h q hq;unfold sb at h;split at h
  .rename_i hh;have:=nP r L p.2;omega
  .rename_i hh;rcases cr.mp hq with rfl|hq
   .exact hh
   .exact ih h q hq
noncomputable def Brk:ac (ah×ah)->Prop
 |[]=>True
 |p::r=>p.1<p.2/\(∀q∈r,p.2<=q.1)/\Brk r
theorem Rj:∀{br:ac (ah×ah)} {L s:ah},0<=L->Brk br->∀p∈br,frI L (sb br L s) p:=by
 intro xs0
 induction xs0 with
 |nil=>
  intro _ _ _ _ _ hp;cases hp
 |cons p r ih=>
  intro L s hL h q hq;unfold sb;rcases cr.mp hq with rfl|hq
  .split
   .rename_i hh;have:=nP r L q.2;unfold frI;omega
   .rename_i hh;by_cases h2:s<q.2
    .have h3:s+L<=q.1:=by omega
     rw[ye fun p hp=>by have:=h.2.1 p hp;have:=h.1;unfold frI;omega]
     exact hh
    .have:=nP r L s;unfold frI;omega
  .exact ih hL h.2.2 q hq
theorem Hn {s:ah} (hL:0<=L) (h:Brk br):sb br L (sb br L s)=sb br L s:=ye (Rj hL h)
noncomputable def Bck:ac (ah×ah)->Prop
 |[]=>True
 |p::r=>p.1<p.2/\(∀q∈r,q.2<=p.1)/\Bck r
theorem QN:∀{br:ac (ah×ah)} {L s:ah},0<=L->Bck br->∀p∈br,frI L (sa br L s) p:=by
 intro xs0
 induction xs0 with
 |nil=>
  intro _ _ _ _ _ hp;cases hp
 |cons p r ih=>
  intro L s hL h q hq;unfold sa;rcases cr.mp hq with rfl|hq
  .split
   .rename_i hh;have:=pe r L (q.1-L);unfold frI;omega
   .rename_i hh;by_cases h2:q.1<s+L
    .have h3:q.2<=s:=by omega
     rw[CU fun p hp=>by have:=h.2.1 p hp;have:=h.1;unfold frI;omega]
     exact hh
    .have:=pe r L s;unfold frI;omega
  .exact ih hL h.2.2 q hq
theorem P' {s:ah} (hL:0<=L) (h:Bck br):sa br L (sa br L s)=sa br L s:=CU (QN hL h)
theorem F8:∀{xs:ac (ah×ah)} {p:ah×ah},Bck xs->p.1<p.2->(∀q∈xs,p.2<=q.1)->Bck (xs++[p]):=by
 intro xs0
 induction xs0 with
 |nil=>
  intro p _ h _;exact⟨h,(fun _ z=>nomatch z),trivial⟩
 |cons x xs ih=>
  intro p hb h hq;exact⟨hb.1,fun q hq'=>by
    rcases dA.mp hq' with z|z
    .exact hb.2.1 q z
    .rw[bL.mp z];exact hq x qg,ih hb.2.2 h fun q hq'=>hq q (qh _ hq')⟩
theorem Brk.rev:∀{br:ac (ah×ah)},Brk br->Bck br.reverse
 |[],_=>trivial
 |p::r,h=>by rw[uW];exact F8 (Brk.rev h.2.2) h.1 fun q hq=>h.2.1 q (F1.mp hq)
noncomputable def shP (s:ah) (o:aq ah):ah:=if o=aa s then 1 else 0
def ls2 (br:ac (ah×ah)) (L s:ah) (o:aq ah):ah:=
 let s1:=sb br L s
 let s2:=s1+shP s1 o
 let s3:=sb br L s2
 s3+shP s3 o
def gs2 (br:ac (ah×ah)) (L s:ah) (o:aq ah):ah:=
 let s1:=sa br.reverse L s
 let s2:=s1-shP s1 o
 let s3:=sa br.reverse L s2
 s3-shP s3 o
def jH (br:ac (ah×ah)) (L s:ah) (o:aq ah):ah:=if o=aa (sb br L s) then sb br L (sb br L s+1) else sb br L s
def go1 (br:ac (ah×ah)) (L s:ah) (o:aq ah):ah:=if o=aa (sa br.reverse L s) then sa br.reverse L (sa br.reverse L s-1) else sa br.reverse L s
theorem PJ {s:ah} {o:aq ah} (hL:0<=L) (h:Brk br):ls2 br L s o=jH br L s o:=by
 unfold ls2 jH shP;by_cases e:o=aa (sb br L s)
 .have:=nP br L (sb br L s+1);simp only[qX e];rw[qY (fun z=>by rw[e] at z;have:=qH z;omega)];omega
 .simp only[qY e,Int.add_zero,Hn hL h]
theorem K3 {s:ah} {o:aq ah} (hL:0<=L) (h:Brk br):gs2 br L s o=go1 br L s o:=by
 unfold gs2 go1 shP;by_cases e:o=aa (sa br.reverse L s)
 .have:=pe br.reverse L (sa br.reverse L s-1);simp only[qX e];rw[qY (fun z=>by rw[e] at z;have:=qH z;omega)];omega
 .simp only[qY e,Int.sub_zero,P' hL h.rev]
theorem OB (br:ac (ah×ah)) (L s:ah) (o:aq ah):s<=jH br L s o:=by unfold jH;have h1:=nP br L s;have h2:=nP br L (sb br L s+1);split<;>omega
theorem Iz (br:ac (ah×ah)) (L s:ah) (o:aq ah):go1 br L s o<=s:=by unfold go1;have h1:=pe br.reverse L s;have h2:=pe br.reverse L (sa br.reverse L s-1);split<;>omega
noncomputable def stB (L t:ah) (p:ah×ah):ah:=if t<p.2/\p.1<t+L then p.2 else t
noncomputable def stA (L t:ah) (p:ah×ah):ah:=if t<p.2/\p.1<t+L then p.1-L else t
theorem B3:∀(br:ac (ah×ah)) (L s:ah),br.foldl (stB L) s=sb br L s:=by
 intro xs0
 induction xs0 with
 |nil=>
  intro _ _;exact rfl
 |cons p r ih=>
  intro L s;exact ih L _
theorem Ak:∀(br:ac (ah×ah)) (L s:ah),br.foldl (stA L) s=sa br L s:=by
 intro xs0
 induction xs0 with
 |nil=>
  intro _ _;exact rfl
 |cons p r ih=>
  intro L s;exact ih L _
theorem pF {a b c d:ah} {P:aP->Prop} (h1:ft ρ=aa (decide (a<b))) (h2:gt ρ=aa (decide (c<d))) (p:P (decide (a<b/\c<d))):Wp (fK ft gt ρ) P:=by
 refine Cw (aB h1 ?_);by_cases h:a<b
 .rw[qX (qT h)];refine aB h2 ?_;simpa[h] using p
 .rw[qY (by simpa using h)];simpa[h] using p
theorem uu {E:ah->aq Slot->aq Slot->bo} {st:ah->ah×ah->ah} (s:ah) (a b:aq Slot) (hf:fi (E s a b)=aa .(aO))
  (h1:∀p∈br,∀t a b,Wp (gg (dIv p) (E t a b)) fun ρ1=>Wp (g ρ1) fun r=>r.1=.nx/\∃a b,r.2=E (st t p) a b) (h2:∀a b,R (.nx,E (br.foldl st s) a b)):Wp (bE fi gg g (E s a b)) R:=by
 refine dz (fun i ρ=>∃t a b,ρ=E t a b/\(br.drop i).foldl st t=br.foldl st s) (aB hf ⟨⟨s,a,b,rfl,rfl⟩,?_,?_⟩)
 .rintro i x ρ hx ⟨t,a,b,rfl,e⟩;rw[qk] at hx;obtain⟨p,hp,rfl⟩:=oMd hx;have hi:i<br.length:=(df.mp hp).1;have hd:br.drop i=p::br.drop (i+1):=by rw[rM hi];rw[qD hi] at hp;rw[qH hp]
  rw[hd,fQ] at e;exact(h1 p (qQ hp) t a b).imp fun ρ1 k=>k.imp fun r ⟨e1,a,b,e2⟩=>⟨e1,_,a,b,e2,e⟩
 .rintro ρ ⟨t,a,b,rfl,e⟩;rw[qf,u7] at e;have e:t=br.foldl st s:=e;subst e;exact h2 a b
theorem Kg (br:ac (ah×ah)) (L s:ah):Wp (lQ [.lst .(aO),.int L,.int s]) fun d=>d=.int (sb br L s):=by
 unfold lQ;refine cW (bX (uu (br:=br) (E:=fun t a b=>[oS (.lst .(aO)),oS (.int L),oS (.int t),a,b]) (st:=stB L) s af af rfl (fun p _ t a b=>?_) fun a b=>⟨rfl,cP (aX rfl ⟨_,rfl,by rw[B3]⟩)⟩));refine aB rfl (cO (pF (a:=t) (b:=p.2) (c:=p.1) (d:=t+L) rfl rfl ⟨fun z=>?_,fun z=>?_⟩))
 .exact fg (aX rfl ⟨rfl,_,_,by unfold stB;rw[qX (dh z)];rfl⟩)
 .exact dD ⟨rfl,_,_,by unfold stB;rw[qY (oG z)];rfl⟩
theorem LU (br:ac (ah×ah)) (L s:ah):Wp (mZ [.lst .(aO),.int L,.int s]) fun d=>d=.int (sa br.reverse L s):=by
 unfold mZ;refine cW (bX (uu (br:=br.reverse) (E:=fun t a b=>[oS (.lst .(aO)),oS (.int L),oS (.int t),a,b]) (st:=stA L) s af af (by rw[zp];rfl) (fun p _ t a b=>?_) fun a b=>⟨rfl,cP (aX rfl ⟨_,rfl,by rw[Ak]⟩)⟩));refine aB rfl (cO (pF (a:=t) (b:=p.2) (c:=p.1) (d:=t+L) rfl rfl ⟨fun z=>?_,fun z=>?_⟩))
 .exact fg (aB (aA rfl rfl rfl) ⟨rfl,_,_,by unfold stA;rw[qX (dh z)];rfl⟩)
 .exact dD ⟨rfl,_,_,by unfold stA;rw[qY (oG z)];rfl⟩
theorem zx:∀l:ac ai,ge (l.map D.str)=aj:=by
 intro xs0
 induction xs0 with
 |nil=>
  exact rfl
 |cons x r ih=>
  show(plD (.str x) && ge (r.map D.str))=aj;rw[ih];rfl
variable {ss:ac StepT} {js:ac JobT} {us:ac SetT} {ls:ac LinkT} {ks:ac StockT}
section
variable {bs:ac BenchT} {A P:ac (Key×D)} {s:StepT}
noncomputable abbrev fF (G:D) (O A B P:ac (Key×D)):Fo:=[("grounds",.d G),("open_benches",.k O),("firsts",.k A),("lasts",.k B),("put_pairs",.t []),("notes",.k P)]
theorem lS:cu.Nodup:=by decide +kernel
theorem oY (G:D) (O A B P:ac (Key×D)):((fF G O A B P).map (·.1)).Nodup:=lS
abbrev gD (bs:ac BenchT) (ss:ac StepT) (js:ac JobT) (us:ac SetT) (ls:ac LinkT) (ks:ac StockT) (h lm:ah) (kp:ac (Key×D)) (kvs:ac .(aG)):D:=foD "Grounds" (gFo bs ss js us ls ks h lm kp kvs)
abbrev fcD (bs:ac BenchT) (ss:ac StepT) (js:ac JobT) (us:ac SetT) (ls:ac LinkT) (ks:ac StockT) (h lm:ah) (kp:ac (Key×D)) (kvs:ac .(aG)) (O A B P:ac (Key×D)):D:=foD "Facts" .(bm)
theorem gA {f:ai} {y:Fld} (j:ao) (h1:fo ρ=aa .(d)) (hj:.(bm)[j]?=aa (f,y)):bC "Facts" f fo ρ=aa (foF y):=zy j (oY _ _ _ _ _) hj h1
theorem nI {f:ai} {y:Fld} (j:ao) (h1:fo ρ=aa .(d)) (hj:(gFo bs ss js us ls ks h lm kp kvs)[j]?=aa (f,y)):bC "Grounds" f (bC "Facts" "grounds" fo) ρ=aa (foF y):=zy (c:="Grounds") (fs:=gFo bs ss js us ls ks h lm kp kvs) j iq hj (gA 0 h1 rfl)
noncomputable def wn (s:StepT):ac ai:=s.ws.map (·.1)
theorem xF {fs:Fo} (h:g (aa (.fo aj c fs)::(ds.map .(X)++bM n af))=aa (.nx,aa (.fo aj c fs')::ρ')):g9 n c g fs ds=aa (.non,fs'):=by unfold g9;rw[h,qb];exact qX rfl
theorem mV {b:aP} {fs:Fo} (h1:ρ[i]?=aa (aa (.fo b c fs))) (h2:f (ρ.set i (oS (foD c fs)))=aa d) (h3:plD d=aj):bwF i f ρ=aa d:=by unfold bwF;rw[h1];show(f _).bind _=_;rw[h2];exact qX h3
theorem xE {f:FA} {b:aP} {fs:Fo} (h1:ρ[i]?=aa (aa (.fo b c fs))) (h2:f (ρ.set i (oS (foD c fs)))=aa ds) (h3:ge ds=aj):jD i f ρ=aa ds:=by unfold jD;rw[h1];show(f _).bind _=_;rw[h2];exact qX h3
theorem Pz {bn:ac ai} (hb:∀x∈bn,bh x=aj):∀(ws:ac ai) (a:aq Slot),(∀x∈ws,bh x=aj)->bT (ay 0) (toB (b2 f9 (vSh 0) (vSh 1))) (vSh 0) (ws.map D.str) [a,oS .(aC)]=aa ((ws.filter fun x=>decide (x∈bn)).map D.str):=by
 intro xs0
 induction xs0 with
 |nil=>
  intro _ _;exact rfl
 |cons x r ih=>
  intro a hw;have ih:=ih (oS (.str x)) fun y hy=>hw y (qh _ hy);have t:toB (b2 f9 (vSh 0) (vSh 1)) [oS (.str x),oS .(aC)]=aa (decide (x∈bn)):=bF (aA rfl rfl (uy (hw x qg) hb));rw[qm,nJ t,ih,j8];cases decide (x∈bn)<;>rfl
theorem mv (g:Good bs ss js us ls ks h) (hs:s∈ss):∀x∈wn s,bh x=aj:=fun x hx=>by obtain⟨w,hw,rfl⟩:=bJ.mp hx;exact g.bnn _ ((g.s s hs).ws w hw).1
theorem pE (g:Good bs ss js us ls ks h) (hs:s∈ss) (h1:fo ρ=aa .(d)) (hk:fk ρ=aa .(bg)):b2 bN (bC "Grounds" "lengths" (bC "Facts" "grounds" fo)) fk ρ=aa (lwD s):=
 aA (nI 3 h1 rfl) hk (show((aa (bc (kvS lwD ss) .(an))).bind id)=_ by rw[gC (nm:=fun s:StepT=>s.nm) g.sn hs];rfl)
theorem z5:.(ar).map (fun kv=>gE kv.1)=(wn s).map D.str:=by unfold wn;rw[qo,qo];rfl
theorem AN (g:Good bs ss js us ls ks h) (hs:s∈ss) {bn:ac ai} (hb:∀x∈bn,bh x=aj) (hl:O.length<100000):ku .(bm) [.str s.nm,.lst (bn.map D.str)]=aa (.non,fF .(k) (bW O .(an) (.lst (((wn s).filter fun x=>decide (x∈bn)).map D.str))) A B P):=by
 unfold ku;refine xF (ρ':=[oS .(bg),oS .(aC)]) (kP 1 rfl (oY _ _ _ _ _) rfl rfl (mV rfl (fD ?_) (zx _)) hl);unfold tq;rw[pE g hs (kvs:=kvs) (O:=O) (A:=A) (B:=B) (P:=P) rfl rfl];have hfl:lfS (oS .(aC))=oS .(aC):=qX (by show(bn.map D.str).all gr=aj;rw[vy,ic];exact fun _ _=>rfl)
 show(if .(ar).length<=aH then (bT _ _ _ (.(ar).map fun kv=>gE kv.1) [af,lfS (oS .(aC))]).bind _ else af)=_;rw[qX (by rw[qf];have:=(g.s s hs).l4;unfold aH;omega),hfl,z5,Pz hb (wn s) af (mv g hs),qb,qX];rw[vy,ic];exact fun _ _=>rfl
theorem vY {k:ai} {x y:D} {G:D} (ha:A.length<100000) (hb:B.length<100000):nL (fF G O A B P) [.str k,x,y]=aa (.non,fF G O (bW A (.inr k) x) (bW B (.inr k) y) P):=by unfold nL;exact xF (ρ':=[oS (.str k),oS x,oS y]) ((lF (kP 2 rfl (oY _ _ _ _ _) rfl rfl rfl ha)).trans (kP 3 rfl (oY _ _ _ _ _) rfl rfl rfl hb))
theorem xC (g:Good bs ss js us ls ks h) (hs:s∈ss):p5 [fcD bs ss js us ls ks h lm kp kvs O A B P,.str s.nm]=aa (.int .(r)):=
 ca [oS .(d),oS .(bg)] rfl (bZ (aA (nI 6 rfl rfl) rfl (show((aa (bc (kvS (fun s=>.int .(r)) ss) .(an))).bind id)=_ by rw[gC (nm:=fun s:StepT=>s.nm) g.sn hs];rfl)))
def lnO (s:StepT) (b:ai):ah:=match bc .(ar) (.inr b) with
 |some (.int n)=>n
 |_=>0
theorem Dl (nd:(s.ws.map (·.1)).Nodup) {w:ai×ah} (hw:w∈s.ws):bc .(ar) (.inr w.1)=aa (.int w.2):=gC (nm:=fun w:ai×ah=>w.1) (f:=fun w=>.int w.2) nd hw
theorem ph (nd:(s.ws.map (·.1)).Nodup) {w:ai×ah} (hw:w∈s.ws):lnO s w.1=w.2:=by unfold lnO;rw[Dl nd hw]
theorem xh (nd:(s.ws.map (·.1)).Nodup) {b:ai} (hb:b∈wn s):bN (lwD s) (.str b)=aa (.int (lnO s b)):=by obtain⟨w,hw,rfl⟩:=bJ.mp hb;rw[ph nd hw];show(aa (bc .(ar) (.inr w.1))).bind id=_;rw[Dl nd hw];rfl
theorem Rq (nd:(s.ws.map (·.1)).Nodup):∀(l:ac ai) (a:aq Slot),(∀b∈l,b∈wn s)->bT (ay 0) tT (b2 bN (vSh 1) (vSh 0)) (l.map D.str) [a,oS (lwD s)]=aa ((l.map (lnO s)).map D.int):=by
 intro xs0
 induction xs0 with
 |nil=>
  intro _ _;exact rfl
 |cons x r ih=>
  intro a hl;have e:=ih (oS (.str x)) fun b hb=>hl b (qh _ hb);rw[qm,nJ (b:=aj) rfl,qX rfl,e];have:b2 bN (vSh 1) (vSh 0) [oS (.str x),oS (lwD s)]=aa (.int (lnO s x)):=aA rfl rfl (xh nd (hl x qg));rw[this];rfl
theorem pj:∀l:ac ah,gJ (l.map D.int)=aa l:=by
 intro xs0
 induction xs0 with
 |nil=>
  exact rfl
 |cons x r ih=>
  show(gJ (r.map D.int)).map _=_;rw[ih];rfl
theorem AQ (g:Good bs ss js us ls ks h) (hs:s∈ss) {o:ac ai} (ho:bc O .(an)=aa (.lst (o.map D.str))) (hw:∀b∈o,b∈wn s) (hl:o.length<=1000):sH [fcD bs ss js us ls ks h lm kp kvs O A B P,.str s.nm]=aa (.lst ((o.map (lnO s)).map D.int)):=by refine ca [oS .(d),oS .(bg),af] rfl ((kO (pE g hs rfl rfl)).trans (bZ (fD ?_)));unfold aR itF;rw[aA (gA 1 rfl rfl) rfl (show((aa (bc O .(an))).bind id)=_ by rw[ho];rfl)];show(if (o.map D.str).length<=aH then _ else _)=_;rw[qX (by rw[qf];unfold aH;omega)];exact Rq (g.s s hs).nd o af hw
theorem least_of (g:Good bs ss js us ls ks h) (hs:s∈ss) {o:ac ai} (ho:bc O .(an)=aa (.lst (o.map D.str))) (hw:∀b∈o,b∈wn s) (hl:o.length<=1000):mi [fcD bs ss js us ls ks h lm kp kvs O A B P,.str s.nm]=aa (kA (o.map (lnO s))):=by refine ca [oS .(d),oS .(bg)] rfl (bZ ?_);unfold b1;rw[sB (c:="Facts") (show("open_lengths":ai)∉cu by decide +kernel) rfl .(D) (AQ g hs ho hw hl)];show(gJ ((o.map (lnO s)).map D.int)).map kA=_;rw[pj];rfl
def lsI (s:StepT):ah:=((wn s).map (lnO s)).getD (ck (i6 ((wn s).map (lnO s))) (((wn s).map (lnO s)).length-1)) 0
theorem Oc (g:Good bs ss js us ls ks h) (hs:s∈ss) (ho:bc O .(an)=aa (.lst ((wn s).map D.str))):mi [fcD bs ss js us ls ks h lm kp kvs O A B P,.str s.nm]=aa (.int (lsI s)):=by
 rw[least_of g hs ho (fun _ h=>h) (by unfold wn;rw[qf];have:=(g.s s hs).l4;omega)];unfold kA;rw[qY]
 .rfl
 intro z;have h1:=bU c8 z;rw[qf] at h1;have h2:(wn s).length=s.ws.length:=qf ..;have h3:=(g.s s hs).l1;simp only[ql] at h1;omega
abbrev opD (s:StepT):D:=.lst ((wn s).map D.str)
abbrev fiE (fs:Fo) (S:D) (lm:ah) (kp:ac (Key×D)) (a b c:aq Slot):bo:=[aa (.fo aj "Facts" fs),oS S,oS (.int lm),oS .non,oS (.dk kp),oS (.int 0),oS (.int 0),a,b,c]
def fi0 (js:ac JobT) (m:ai):ah:=if eaI js m > 0 then eaI js m else 0
def la0 (js:ac JobT) (lm h:ah) (s:StepT):ah:=mkI js lm h s.nm-lsI s
theorem nQ {F:Fo->ac D->aq (D×Fo)} {b:aP} {fs:Fo} (h1:ρ[i]?=aa (aa (.fo b c fs))) (hm:m∉fs.map (·.1)) (h2:fr ρ=aa ds) (h3:F fs ds=aa (d,fs')):gf c m i F fr ρ=aa (.nx,ρ.set i (aa (.fo b c fs'))):=by unfold gf;rw[h1];show(if c=c/\fs.lookup m=af then _ else af)=_;rw[qX ⟨rfl,ma hm⟩,h2,qb,h3];rfl
theorem PX (l:ac ai):l.filter (fun x=>decide (x∈l))=l:=List.filter_eq_self.mpr fun x hx=>qT hx
theorem O8 (g:Good bs ss js us ls ks h):Wp (sg [bQ bs ss js us ls ks h,.int lm,.non,.dk kp,.int 0,.int 0]) fun fs=>∃kvs,fs=fF .(k) (kvS opD ss) (kvS (fun s=>.int (fi0 js s.nm)) ss) (kvS (fun s=>.int (la0 js lm h s)) ss) []/\Gaps ss js ls kvs:=by
 have hN:=wL (bs:=bs) (ss:=ss) (js:=js) (us:=us) (ls:=ls) (ks:=ks) (h:=h) g.sl.2;obtain⟨_,hg,kvs,rfl,hk⟩:=IW (lm:=lm) (kp:=kp) g;have nm:∀{m:ai},m∉cu->∀{G:D} {O A B P:ac (Key×D)},m∉(fF G O A B P).map (·.1):=fun hm=>hm;unfold sg;refine By (cZ (nu (d:=gD bs ss js us ls ks h lm kp kvs) lS 0 rfl rfl rfl (aU (ax rfl .(ak)) (show(pO _).map _=_ by rw[show([bQ bs ss js us ls ks h,D.int lm,.dk kp,.int 0]++[]:ac D)=[bQ bs ss js us ls ks h,.int lm,.dk kp,.int 0] from rfl,hg];rfl))) (cZ (jp lS 1 rfl rfl rfl) (cZ (jp lS 2 rfl rfl rfl) (cZ (jp lS 3 rfl rfl rfl) (cZ (jp lS 4 rfl rfl rfl) (cZ (jp lS 5 rfl rfl rfl) ?_))))));show Wp (bE _ _ _ (fiE (fF .(k) (kvS opD (ss.take 0)) (kvS (fun s=>.int (fi0 js s.nm)) (ss.take 0)) (kvS (fun s=>.int (la0 js lm h s)) (ss.take 0)) []) .(l) lm kp af af af)) _;refine dz (fun i ρ=>∃a b c,ρ=fiE (fF .(k) (kvS opD (ss.take i)) (kvS (fun s=>.int (fi0 js s.nm)) (ss.take i)) (kvS (fun s=>.int (la0 js lm h s)) (ss.take i)) []) .(l) lm kp a b c) (dM (aB (iK .(P) rfl aJ hN) (aB rfl ⟨⟨af,af,af,rfl⟩,?_,?_⟩)))
 .rintro i x ρ hx ⟨a,b,c,rfl⟩;rw[qo,qk] at hx;obtain⟨s,hs,rfl⟩:=oMd hx;have hm:=qQ hs;have hi:i<ss.length:=(df.mp hs).1;refine aB rfl (bp (aB (mV (d:=.int (eaI js s.nm)) rfl (aA (nI 5 rfl rfl) rfl (show((aa (bc (kvS (fun s=>.int (eaI js s.nm)) ss) .(an))).bind id)=_ by rw[gC (nm:=fun s:StepT=>s.nm) g.sn hm];rfl)) rfl) ?_));refine cO (aB (a:=ar) rfl ⟨.(F),fun _=>?_⟩);refine cZ (nQ rfl (nm .(P)) (xE rfl (ax rfl (ax (aU (z:=.lst ((wn s).map D.str)) (ax (pE g hm rfl rfl) aJ) ?_) aJ)) ?_) (AN g hm (mv g hm) (kf _ g.sl.2 _))) ?_
  .show aa (D.lst (.(ar).map fun kv=>gE kv.1))=_;rw[z5]
  .show(plD .(bg) && (ge ((wn s).map D.str) && aj))=aj;rw[zx];rfl
  rw[PX,ko g.sn hs opD];have hn:=Oc (lm:=lm) (kp:=kp) (kvs:=kvs) (O:=kvS opD (ss.take (i+1))) (A:=kvS (fun s=>.int (fi0 js s.nm)) (ss.take i)) (B:=kvS (fun s=>.int (la0 js lm h s)) (ss.take i)) (P:=[]) g hm (by refine gC (nm:=fun s:StepT=>s.nm) (f:=opD) (oK ((mH _ _).map _) g.sn) ?_;rw[j5,hs];simp)
  refine aB (nQ rfl (nm .(P)) (xE rfl (ax rfl (ax (aU (ax rfl .(D)) rfl) (ax (aA (sB (c:="Facts") (nm .(P)) rfl .(D) (xC g hm)) (sB (c:="Facts") (nm .(P)) rfl .(D) hn) rfl) aJ))) rfl) (vY (kf _ g.sl.2 _) (kf _ g.sl.2 _))) ⟨rfl,?_⟩;refine⟨oS .(bg),oS (.int (eaI js s.nm)),c,?_⟩;rw[←ko g.sn hs fun s=>.int (fi0 js s.nm),←ko g.sn hs fun s=>.int (la0 js lm h s)];rfl
 .rintro ρ ⟨a,b,c,rfl⟩;rw[qf,qf,ij];exact⟨rfl,_,rfl,kvs,rfl,hk⟩
end
noncomputable def cC:aq ah->D
 |some n=>.int n
 |none=>.non
theorem wT (s:ah) (o:aq ah):eqA (.int s) (cC o)=aa (.bl (decide (o=aa s))):=by
 cases o with
 |none=>rfl
 |some n=>
  show aa (D.bl _)=_
  congr 2
  by_cases h:s=n<;>simp[h,eq_comm]
def tL (br:ac (ah×ah)) (L:ah) (o:aq ah) (t:ah):ah:=sb br L t+shP (sb br L t) o
def tG (br:ac (ah×ah)) (L:ah) (o:aq ah) (t:ah):ah:=sa br.reverse L t-shP (sa br.reverse L t) o
theorem BX (s:ah) (o:aq ah):(if decide (o=aa s)=aj then (1:ah) else 0)=shP s o:=by unfold shP;by_cases h:o=aa s<;>simp[h]
abbrev llE (br:ac (ah×ah)) (w:D) (L:ah) (o:aq ah) (t:ah) (a b c:aq Slot):bo:=[oS (.lst .(aO)),oS w,oS (.int L),oS (cC o),oS (.int t),a,b,c]
noncomputable def fj (c:Prop) [Decidable c] (n:ah):ac ah:=if c then [] else [n]
theorem LS (br:ac (ah×ah)) (f l m L:ah) (o:aq ah):Wp (pM [.lst .(aO),.tup [.int f,.int l,.int m],.int L,cC o]) fun d=>d=.lst ((fj (ls2 br L f o > l\/ls2 br L f o+L > m) (ls2 br L f o)).map D.int):=by
 unfold pM;refine cW (bp (aB .(am) ?_));refine bX (dz (fun i ρ=>∃t a b c,ρ=llE br (.tup [.int f,.int l,.int m]) L o t a b c/\t=Nat.repeat (tL br L o) i f) (iN (aS (w_c (bS ⟨2,rfl,by decide,by decide,⟨f,af,af,af,rfl,rfl⟩,?_,?_⟩)))))
 .rintro i x ρ hx ⟨t,a,b,c,rfl,et⟩;refine aB rfl (bX (uu (br:=br) (E:=fun t b c=>llE br (.tup [.int f,.int l,.int m]) L o t (oS x) b c) (st:=stB L) t b c rfl (fun p _ t b c=>?_) fun b c=>⟨rfl,fg (aB (aA rfl (aU (ax (aA rfl rfl (wT _ o)) aJ) rfl) rfl) ⟨rfl,_,_,_,_,rfl,?_⟩)⟩))
  .refine aB rfl (cO (pF (a:=t) (b:=p.2) (c:=p.1) (d:=t+L) rfl rfl ⟨fun z=>?_,fun z=>?_⟩))
   .exact fg (aX rfl ⟨rfl,_,_,by unfold stB;rw[qX (dh z)];rfl⟩)
   .exact dD ⟨rfl,_,_,by unfold stB;rw[qY (oG z)];rfl⟩
  .rw[B3,BX,et];rfl
 .rintro ρ ⟨t,a,b,c,rfl,et⟩;have et:t=ls2 br L f o:=et;subst et;refine⟨rfl,ff (nK (aB (a:=decide (l<ls2 br L f o)) (bF (aA rfl (aA rfl rfl eB) rfl)) ?_))⟩;by_cases h1:l<ls2 br L f o
  .rw[qX (qT h1),qX rfl];exact⟨_,rfl,_,rfl,by unfold fj;rw[qX (.inl h1)];rfl⟩
  .rw[qY (by simpa using h1)];refine aB (a:=decide (m<ls2 br L f o+L)) (bF (aA (aA rfl rfl rfl) (aA rfl rfl fT) rfl)) ?_;by_cases h2:m<ls2 br L f o+L
   .rw[qX (qT h2)];exact⟨_,rfl,_,rfl,by unfold fj;rw[qX (.inr h2)];rfl⟩
   .rw[qY (by simpa using h2)];exact⟨_,rfl,_,rfl,by unfold fj;rw[qY .(b)];rfl⟩
theorem Iw (br:ac (ah×ah)) (f l m L:ah) (o:aq ah):Wp (o4 [.lst .(aO),.tup [.int f,.int l,.int m],.int L,cC o]) fun d=>d=.lst ((fj (gs2 br L (if m-L<l then m-L else l) o<f) (gs2 br L (if m-L<l then m-L else l) o)).map D.int):=by
 unfold o4;refine cW (bp (aB (aU (ax (aA rfl rfl eB) (ax (aA (aA rfl rfl fT) rfl rfl) aJ)) rfl) ?_));obtain⟨s,hs⟩:∃s,s=(if m-L<l then m-L else l):=⟨_,rfl⟩;rw[←hs];clear hs;refine bX (dz (fun i ρ=>∃t a b c,ρ=llE br (.tup [.int f,.int l,.int m]) L o t a b c/\t=Nat.repeat (tG br L o) i s) (iN (aS (w_c (bS ⟨2,rfl,by decide,by decide,⟨s,af,af,af,rfl,rfl⟩,?_,?_⟩)))))
 .rintro i x ρ hx ⟨t,a,b,c,rfl,et⟩;refine aB rfl (bX (uu (br:=br.reverse) (E:=fun t b c=>llE br (.tup [.int f,.int l,.int m]) L o t (oS x) b c) (st:=stA L) t b c (by rw[zp];rfl) (fun p _ t b c=>?_) fun b c=>⟨rfl,fg (aB (aA rfl (aU (ax (aA rfl rfl (wT _ o)) aJ) rfl) rfl) ⟨rfl,_,_,_,_,rfl,?_⟩)⟩))
  .refine aB rfl (cO (pF (a:=t) (b:=p.2) (c:=p.1) (d:=t+L) rfl rfl ⟨fun z=>?_,fun z=>?_⟩))
   .exact fg (aB (aA rfl rfl rfl) ⟨rfl,_,_,by unfold stA;rw[qX (dh z)];rfl⟩)
   .exact dD ⟨rfl,_,_,by unfold stA;rw[qY (oG z)];rfl⟩
  .rw[Ak,BX,et];rfl
 .rintro ρ ⟨t,a,b,c,rfl,et⟩;have et:t=gs2 br L s o:=et;subst et;refine⟨rfl,ff (aB (a:=decide (gs2 br L s o<f)) (bF (aA rfl .(am) rfl)) ?_)⟩;by_cases h1:gs2 br L s o<f
  .rw[qX (qT h1)];exact⟨_,rfl,_,rfl,by unfold fj;rw[qX h1];rfl⟩
  .rw[qY (by simpa using h1)];exact⟨_,rfl,_,rfl,by unfold fj;rw[qY h1];rfl⟩
noncomputable def Az (br:ac (ah×ah)) (f l m L s:ah) (o:aq ah):Prop:=f<=s/\s<=l/\s+L<=m/\o≠aa s/\∀p∈br,frI L s p
theorem EF {L s:ah}:∀(br:ac (ah×ah)) (a:aq Slot),bT (ay 0) (fK (toB (b2 ltD (vSh 1) .(ao))) (toB (b2 ltD .(p) (b2 aN (vSh 1) (vSh 2))))) (vSh 0) .(aO) [a,oS (.int s),oS (.int L)]=aa ((br.filter fun p=>decide (s<p.2/\p.1<s+L)).map dIv)
 |[],_=>rfl
 |p::r,a=>by have ih:=EF (L:=L) (s:=s) r (oS (dIv p));obtain⟨b,e,hb⟩:=pF (ρ:=[oS (dIv p),oS (.int s),oS (.int L)]) (ft:=toB (b2 ltD (vSh 1) .(ao))) (gt:=toB (b2 ltD .(p) (b2 aN (vSh 1) (vSh 2)))) (a:=s) (b:=p.2) (c:=p.1) (d:=s+L) (P:=fun b=>b=decide (s<p.2/\p.1<s+L)) (bF (aA rfl (aA rfl rfl eB) rfl)) (bF (aA .(am) (aA rfl rfl rfl) rfl)) rfl;subst hb;rw[qm,nJ e,ih,j8];cases decide (s<p.2/\p.1<s+L)<;>rfl
def Sm:ao->PyData->Prop
 |_,.int _=>True
 |_,.bool _=>True
 |_,.str x=>bh x=aj
 |n+1,.list l=>∀x∈l,Sm n x
 |n+1,.tuple l=>∀x∈l,Sm n x
 |_,_=>False
theorem Di:∀{l:ac PyData},(∀x∈l,jj x=aj)->lv l=aj:=by
 intro xs0
 induction xs0 with
 |nil=>
  intro _;simp[lv]
 |cons x l ih=>
  intro h;simp only[lv,h x qg,ih fun y hy=>h y (qh _ hy),Uj]
theorem Bq :∀{l:ac PyData},(∀x∈l,jk x<=n)->lw l<=n:=by
 intro xs0
 induction xs0 with
 |nil=>
  intro _;simp[lw]
 |cons x l ih=>
  intro h;have h1:=h x qg;have h2:=ih fun y hy=>h y (qh _ hy);simp only[lw];omega
theorem AH:∀{l:ac PyData},(∀x∈l,eZ x x=aj)->oN l l=aj:=by
 intro xs0
 induction xs0 with
 |nil=>
  intro _;simp[oN]
 |cons x l ih=>
  intro h;simp only[oN,h x qg,ih fun y hy=>h y (qh _ hy),Uj]
theorem kh:∀(n:ao) (p:PyData),Sm n p->jj p=aj/\jk p<=n/\eZ p p=aj
 |n,.int i,_=>by simp[jj,jk,eZ]
 |n,.bool i,_=>by simp[jj,jk,eZ]
 |n,.str x,h=>by
  have h:bh x=aj:=by cases n<;>exact h
  simp[jj,jk,eZ,xX h]
 |n+1,.list l,h=>by
  have h:∀x∈l,Sm n x:=h;refine⟨?_,?_,?_⟩
  .simp only[jj];exact Di fun x hx=>(kh n x (h x hx)).1
  .simp only[jk];have:=Bq fun x hx=>(kh n x (h x hx)).2.1;omega
  .simp only[eZ];exact AH fun x hx=>(kh n x (h x hx)).2.2
 |n+1,.tuple l,h=>by
  have h:∀x∈l,Sm n x:=h;refine⟨?_,?_,?_⟩
  .simp only[jj];exact Di fun x hx=>(kh n x (h x hx)).1
  .simp only[jk];have:=Bq fun x hx=>(kh n x (h x hx)).2.1;omega
  .simp only[eZ];exact AH fun x hx=>(kh n x (h x hx)).2.2
 |0,.list l,h=>by exact h.elim
 |0,.tuple l,h=>by exact h.elim
 |0,.none,h=>by exact h.elim
 |n+1,.none,h=>by exact h.elim
 |0,.dict _,h=>by exact h.elim
 |n+1,.dict _,h=>by exact h.elim
theorem ub {f:α->D} {g:α->PyData} (h:∀x,pdD (f x)=aa (g x)):∀xs:ac α,em (xs.map f)=aa (xs.map g):=by
 intro xs0
 induction xs0 with
 |nil=>
  exact rfl
 |cons x xs ih=>
  rw[qm,qm,em,h x,qb,ih];rfl
theorem sG {l:ac D} {ps:ac PyData} (h:em l=aa ps):pdD (.lst l)=aa (.list ps):=by rw[pdD,h];rfl
theorem R7:em []=aa []:=rfl
theorem zJ (i:ai):pdD (.str i)=aa (.str i):=rfl
theorem wp {g:α->PyData} {xs:ac α} (h:∀x∈xs,Sm n (g x)):Sm (n+1) (.list (xs.map g)):=fun y hy=>by obtain⟨x,hx,rfl⟩:=bJ.mp hy;exact h x hx
theorem yc {a b:PyData} (h1:Sm n a) (h2:Sm n b):Sm (n+1) (.tuple [a,b]):=fun y hy=>by simp only[qM,qJ,or_false] at hy;rcases hy with rfl|rfl<;>assumption
theorem pR (n:ao) (i:ah):Sm (n+1) (.int i):=trivial
theorem wV (h:bh x=aj):Sm (n+1) (.str x):=h
theorem Mf {x y:D} {p:PyData} (h0:eqD x y=af) (hx:pdD x=aa p) (hy:pdD y=aa p) (hs:Sm 8 p):eqA x y=aa (.bl aj):=by
 obtain⟨h1,h2,h3⟩:=kh 8 p hs;have sh:fV p=aj:=by show(p.canLay0 && decide (p.depth<=64))=aj;rw[h1,qT .(b)];rfl
 have e0:eqA x y=jR x y:=by unfold eqA orG;rw[h0]
 rw[e0];unfold jR eqX;rw[hx,hy,qb,qb,qX ⟨sh,sh⟩,h3];rfl
theorem oR {a b:aP} (h1:fa ρ=aa (.bl a)) (h2:a=aj->fb ρ=aa (.bl b)):cc fa fb ρ=aa (.bl (a && b)):=by
 unfold cc;rw[h1];cases a with
 |true=>exact h2 rfl
 |false=>rfl
theorem Dd {p:PyData} (hs:Sm 8 p):fV p=aj:=by obtain⟨h1,h2,h3⟩:=kh 8 p hs;show(p.canLay0 && decide (p.depth<=64))=aj;rw[h1,qT .(b)];rfl
theorem DF {x y:D} {p q:PyData} (hx:pdD x=aa p) (hy:pdD y=aa q) (hp:Sm 8 p) (hq:Sm 8 q):eqX x y=aa (eZ p q):=by unfold eqX;rw[hx,hy,qb,qb,qX ⟨Dd hp,Dd hq⟩]
theorem Ae {l:ac D} {ps:ac PyData} (hp:em l=aa ps) (hs:Sm 8 (.list ps)):eqA (.lst l) (.lst [])=aa (.bl l.isEmpty):=by
 have e0:eqA (.lst l) (.lst [])=jR (.lst l) (.lst []):=rfl;rw[e0];unfold jR;rw[DF (sG hp) (sG R7) hs (show Sm 8 (.list []) from fun x hx=>by cases hx)];cases l with
 |nil=>cases hp;simp[eZ,oN]
 |cons d l=>
  unfold em at hp;obtain⟨p,h1,hp⟩:=oBd hp;obtain⟨r,h2,rfl⟩:=oMd hp;simp[eZ,oN]
noncomputable def pIv (p:ah×ah):PyData:=.tuple [.int p.1,.int p.2]
theorem OI (p:ah×ah):pdD (dIv p)=aa (pIv p):=rfl
theorem HL (br:ac (ah×ah)):Sm 8 (.list (br.map pIv)):=wp (n:=7) fun p _=>yc (n:=6) (pR _ _) (pR _ _)
theorem Ga (hb:br.length<=1000) (f l m L s:ah) (o:aq ah):Wp (kr [.lst .(aO),.tup [.int f,.int l,.int m],.int L,.int s,cC o]) fun d=>∃b,d=.bl b/\(b=aj↔Az br f l m L s o):=by
 unfold kr;have no:∀{P:Prop},¬P->∃b:aP,D.bl ar=.bl b/\(b=aj↔P):=fun h=>⟨ar,rfl,⟨.(F),fun z=>bA z h⟩⟩;refine cW (ff (nK (aB (a:=decide (s<f)) (bF (aA rfl .(am) rfl)) ?_)));by_cases h1:s<f
 .rw[qX (qT h1),qX rfl];exact⟨_,rfl,_,rfl,no fun z=>by have:=z.1;omega⟩
 rw[qY (by simpa using h1)];refine nK (aB (a:=decide (l<s)) (bF (aA rfl (aA rfl rfl eB) rfl)) ?_);by_cases h2:l<s
 .rw[qX (qT h2),qX rfl];exact⟨_,rfl,_,rfl,no fun z=>by have:=z.2.1;omega⟩
 rw[qY (by simpa using h2)];refine nK (aB (a:=decide (m<s+L)) (bF (aA (aA rfl rfl rfl) (aA rfl rfl fT) rfl)) ?_);by_cases h3:m<s+L
 .rw[qX (qT h3),qX rfl];exact⟨_,rfl,_,rfl,no fun z=>by have:=z.2.2.1;omega⟩
 rw[qY (by simpa using h3)];refine aB (bF (aA rfl rfl (wT s o))) ?_;by_cases h4:o=aa s
 .rw[qX (qT h4)];exact⟨_,rfl,_,rfl,no fun z=>z.2.2.2.1 h4⟩
 rw[qY (by simpa using h4)];refine cP (aB (aA (x:=.lst ((br.filter fun p=>decide (s<p.2/\p.1<s+L)).map dIv)) (y:=.lst []) (fD ?_) rfl (Ae (ub OI _) (HL _))) ⟨_,rfl,_,rfl,?_⟩)
 .unfold aR itF;show(if .(aO).length<=aH then bT _ _ _ .(aO) [af,oS (.int s),oS (.int L)] else af)=_;rw[qX (by rw[qf];unfold aH;omega)];exact EF br af
 .rw[List.isEmpty_map,List.isEmpty_iff,List.filter_eq_nil_iff];constructor
  .exact fun z=>⟨by omega,by omega,by omega,h4,fun p hp y=>z p hp (qT y)⟩
  .exact fun z p hp y=>z.2.2.2.2 p hp (dh y)
noncomputable def tw:aq (ai×ah)->D
 |some q=>.tup [.str q.1,.int q.2]
 |none=>.non
noncomputable def atO:aq (ai×ah)->ai->aq ah
 |some q,b=>if q.1=b then aa q.2 else af
 |none,_=>af
theorem xK (q:aq (ai×ah)) (b:ai):Wp (gX [tw q,.str b]) fun d=>d=cC (atO q b):=by
 unfold gX;cases q with
 |none=>exact cW (ff (nK (aB (a:=aj) rfl (by rw[qX rfl,qX rfl];exact⟨_,rfl,_,rfl,rfl⟩))))
 |some q=>
  refine cW (ff (nK (aB (a:=ar) rfl ?_)));rw[qY qr];refine aB (a:=!decide (q.1=b)) (bF (aA .(am) rfl rfl)) ?_;have ea:atO (aa q) b=if q.1=b then aa q.2 else af:=rfl
  rw[ea];by_cases h:q.1=b
  .rw[qY (by simp[h]),qX h];exact cP (aB (aA rfl rfl eB) ⟨_,rfl,rfl⟩)
  .rw[qX (by simp[h]),qY h];exact⟨_,rfl,_,rfl,rfl⟩
theorem sQ (k n:ah):g8 [.int k,.int n]=aa (.bl (decide (k=n))):=by refine ca [oS (.int k),oS (.int n)] rfl (bZ ?_);exact(oR (a:=aj) (b:=decide (k=n)) rfl fun _=>(oR (a:=aj) (b:=decide (k=n)) rfl fun _=>aA rfl rfl rfl).trans rfl).trans rfl
theorem QL:∀l:ac ah,em (l.map D.int)=aa (l.map Fi):=ub fun _=>rfl
theorem sx (o:aq ah) (l:ac ah) (h:l.head?=o):Wp (io [cC o,.lst (l.map D.int)]) fun d=>d=.bl aj:=by
 unfold io;refine cW (ff (aB (bF (aA rfl rfl (Ae (QL l) (wp (n:=7) fun _ _=>pR _ _)))) ?_));cases l with
 |nil=>
  cases h;exact(qX (show(yP D.int ([]:ac ah)).isEmpty=aj from rfl)).mpr ⟨_,rfl,_,rfl,rfl⟩
 |cons n l=>
  cases h;refine(qY (show ¬(yP D.int (n::l)).isEmpty=aj from qr)).mpr ?_;refine cP (aB (aU (ax rfl (ax (aA rfl rfl (show ixD (.lst (D.int n::l.map D.int)) (.int 0)=aa (.int n) from gz _ 0)) aJ)) (sQ n n)) ⟨_,rfl,by rw[qT rfl]⟩)
theorem dj {o:aq α} {a:α} (h:Wp o fun d=>d=a):o=aa a:=by obtain⟨d,e,rfl⟩:=h;exact e
theorem i7 {b:aP} (h:ft ρ=aa b):aY ft ρ=aa (!b):=by unfold aY;rw[h];rfl
theorem EE {a b:aP} (h1:ft ρ=aa a) (h2:a=ar->gt ρ=aa b):orT ft gt ρ=aa (a || b):=by
 unfold orT;rw[h1];cases a with
 |true=>rfl
 |false=>exact h2 rfl
theorem Hf {a b c:ah} (h1:fa ρ=aa (.int a)) (h2:fb ρ=aa (.int b)) (h3:fc ρ=aa (.int c)):chD leD leD fa fb fc ρ=aa (.bl (decide (a<=b/\b<=c))):=by
 unfold chD;rw[h1,qb,h2,qb];show(aa (D.bl (decide (a<=b)))).bind _=_;by_cases h:a<=b
 .rw[qT h,qb];show(fc ρ).bind _=_;rw[h3];show aa (D.bl (decide (b<=c)))=_;simp[h]
 .rw[qO h,qb];simp[h]
theorem JA {ns:ac ai} (hx:bh x=aj) (hn:∀y∈ns,bh y=aj):o9 (.str x) (.lst (ns.map D.str))=aa (.bl (!decide (x∈ns))):=by
 have e:=uy hx hn;unfold f9 at e;unfold o9;obtain⟨b,h1,h2⟩:=oMd e;have h2:b=decide (x∈ns):=by injection h2
 rw[h1,h2];rfl
section
variable {bs:ac BenchT} {A P:ac (Key×D)} {s:StepT} {o:ac ai} {f:ah}
theorem cU {F:FQ} (hm:m∉cu) (h1:fo ρ=aa .(d)) (h2:fr ρ=aa ds) (h3:F (fcD bs ss js us ls ks h lm kp kvs O A B P::ds)=aa d):bq "Facts" m F fo fr ρ=aa d:=sB (c:="Facts") (fs:=fF .(k) O A B P) hm h1 h2 h3
structure StP (O A B P kp:ac (Key×D)) (s:StepT) (o:ac ai) (f l:ah) (nt:aP) (q:ai×ah):Prop where
 hO:bc O .(an)=aa (.lst (o.map D.str))
 hw:∀b∈o,b∈wn s
 hl:o.length<=1000
 hA:bc A .(an)=aa (.int f)
 hB:bc B .(an)=aa (.int l)
 hP:(bc P .(an)).isSome=nt
 hK:bc kp .(an)=aa (.tup [.str q.1,.int q.2])
 hN:bh q.1=aj
def shO (nt:aP) (q:ai×ah) (b:ai):aq ah:=atO (if nt=aj then aa q else af) b
theorem RZ (S:StP O A B P kp s o f l nt q):vS [fcD bs ss js us ls ks h lm kp kvs O A B P,.str s.nm]=aa (.tup [.str q.1,.int q.2]):=by have hk:vD [fcD bs ss js us ls ks h lm kp kvs O A B P]=aa (.bl aj):=ca [oS .(d)] rfl (bZ (aA (nI 1 rfl rfl) rfl rfl));refine ca [oS .(d),oS .(bg)] rfl (bZ ?_);unfold ifD;rw[bF (cU (show("has_kept":ai)∉cu by decide +kernel) rfl aJ hk),qb,qX rfl];refine aA (nI 1 rfl rfl) rfl ?_;show aa ((bc kp .(an)).getD .non)=_;rw[S.hK];rfl
theorem HW {a b:ai} {m n:ah} (ha:bh a=aj) (hb:bh b=aj):eqA (.tup [.str a,.int m]) (.tup [.str b,.int n])=aa (.bl (decide (a=b/\m=n))):=by
 have e0:eqA (.tup [.str a,.int m]) (.tup [.str b,.int n])=jR (.tup [.str a,.int m]) (.tup [.str b,.int n]):=rfl;rw[e0];unfold jR;rw[DF (p:=.tuple [.str a,.int m]) (q:=.tuple [.str b,.int n]) rfl rfl (yc (n:=7) (wV ha) (pR _ _)) (yc (n:=7) (wV hb) (pR _ _))];have e1:(a==b)=decide (a=b):=by by_cases h:a=b<;>simp[h]
 have e2:(m==n)=decide (m=n):=by by_cases h:m=n<;>simp[h]
 simp[eZ,oN,e1,e2]
theorem v9 (S:StP O A B P kp s o f l nt q) {b:ai} (hb:bh b=aj) (t:ah):pz [fcD bs ss js us ls ks h lm kp kvs O A B P,.str s.nm,.str b,.int t]=aa (.bl (decide (shO nt q b=aa t))):=by
 refine ca [oS .(d),oS .(bg),oS (.str b),oS (.int t)] rfl (bZ ?_);refine(oR (a:=nt) (b:=decide (q.1=b/\q.2=t)) (aA rfl (gA 5 rfl rfl) ?_) fun _=>aA (cU (show("kept_place":ai)∉cu by decide +kernel) rfl .(D) (RZ S)) rfl (HW S.hN hb)).trans ?_
 .show aa (D.bl (bc P .(an)).isSome)=_;rw[S.hP]
 .unfold shO;cases nt with
  |false=>simp[atO]
  |true=>
   show aa (D.bl _)=aa (D.bl (decide ((if q.1=b then aa q.2 else af)=aa t)));by_cases e:q.1=b<;>simp[e]
theorem BG (g:Good bs ss js us ls ks h) (hs:s∈ss) (S:StP O A B P kp s o f l nt q) {b:ai} (hb:bh b=aj) (t:ah):kI [fcD bs ss js us ls ks h lm kp kvs O A B P,.str s.nm,.str b,.int t]=aa (.bl (decide (b∈o/\f<=t/\t<=l/\t+lnO s b<=mkI js lm h s.nm))):=by
 refine dj ?_;unfold kI;have hon:∀y∈o,bh y=aj:=fun y hy=>mv g hs y (S.hw y hy);refine cW (ff (aB (a:=!decide (b∈o) || !decide (f<=t/\t<=l)) (EE (bF (aA rfl (aA (gA 1 rfl rfl) rfl (show((aa (bc O .(an))).bind id)=_ by rw[S.hO];rfl)) (JA hb hon))) fun _=>i7 (bF (Hf (aA (gA 2 rfl rfl) rfl (show((aa (bc A .(an))).bind id)=_ by rw[S.hA];rfl)) rfl (aA (gA 3 rfl rfl) rfl (show((aa (bc B .(an))).bind id)=_ by rw[S.hB];rfl))))) ?_));by_cases h1:b∈o
 .by_cases h2:f<=t/\t<=l
  .rw[qY (by simp[h1,h2])];refine cP (aB (aA (aA rfl (aA (pE g hs rfl rfl) rfl (xh (g.s s hs).nd (S.hw b h1))) rfl) (cU (show("end_mark":ai)∉cu by decide +kernel) rfl .(D) (xC g hs)) rfl) ⟨_,rfl,?_⟩)
   congr 1
   simp[h1,h2]
  .rw[qX (by simp only[h1,h2];rfl)];exact⟨_,rfl,_,rfl,by rw[qO fun z=>h2 ⟨z.2.1,z.2.2.1⟩]⟩
 .rw[qX (by simp[h1])];exact⟨_,rfl,_,rfl,by rw[qO fun z=>h1 z.1]⟩
end
theorem Pi {nm:α->ai} :∀{xs:ac α} {x:α},(xs.map nm).Nodup->x∈xs->xs.find? (fun y=>decide (nm y=nm x))=aa x:=by
 intro xs0
 induction xs0 with
 |nil=>
  intro _ _ h;exact nomatch h
 |cons y r ih=>
  intro x nd h;rw[qm,eA] at nd;rw[fB];rcases cr.mp h with rfl|h
  .rw[qT rfl]
  .rw[qO (show ¬nm y=nm x from fun e=>nd.1 (by rw[e];exact qW h))];exact ih nd.2 h
theorem O4:∀{br:ac (ah×ah)},(∀p∈br,p.1<p.2)->(∀(i:ao) p q,br[i]?=aa p->br[i+1]?=aa q->p.2<q.1)->Brk br:=by
 intro xs0
 induction xs0 with
 |nil=>
  intro _ _;exact trivial
 |cons p r ih=>
  intro h1 h2;have hr:Brk r:=ih (fun q hq=>h1 q (qh _ hq)) fun i p q e1 e2=>h2 (i+1) p q (by simpa using e1) (by simpa using e2);refine⟨h1 p qg,fun q hq=>?_,hr⟩;cases r with
  |nil=>cases hq
  |cons y r=>
   have g0:=h2 0 p y rfl rfl;rcases cr.mp hq with rfl|hq
   .omega
   .have:=hr.1;have:=hr.2.1 q hq;omega
noncomputable def brO (bs:ac BenchT) (b:ai):ac (ah×ah):=((bs.find? fun x=>decide (x.nm=b)).map (·.br)).getD []
section
variable {bs:ac BenchT} {A P:ac (Key×D)} {s:StepT} {o:ac ai} {f:ah}
theorem tf (g:Good bs ss js us ls ks h) {x:BenchT} (hx:x∈bs):brO bs x.nm=x.br:=by unfold brO;rw[Pi (nm:=fun x:BenchT=>x.nm) g.bn hx];rfl
theorem zZ (g:Good bs ss js us ls ks h) (hs:s∈ss) {b:ai} (hb:b∈wn s):∃x∈bs,x.nm=b:=by obtain⟨w,hw,rfl⟩:=bJ.mp hb;obtain⟨x,hx,e⟩:=bJ.mp ((g.s s hs).ws w hw).1;exact⟨x,hx,e⟩
theorem z6 (g:Good bs ss js us ls ks h) (hs:s∈ss) {b:ai} (hb:b∈wn s):Brk (brO bs b):=by obtain⟨x,hx,rfl⟩:=zZ g hs hb;rw[tf g hx];exact O4 (fun p hp=>((g.b x hx).iv p hp).2.1) (g.b x hx).gap
theorem xN (g:Good bs ss js us ls ks h) (hs:s∈ss) {b:ai} (hb:b∈wn s) (h1:fo ρ=aa .(d)) (hk:fk ρ=aa (.str b)):b2 bN (bC "Grounds" "breaks" (bC "Facts" "grounds" fo)) fk ρ=aa (.lst ((brO bs b).map dIv)):=by obtain⟨x,hx,rfl⟩:=zZ g hs hb;rw[tf g hx];exact aA (nI 7 h1 rfl) hk (show((aa (bc (bs.map fun b=>((.inr b.nm:Key),D.lst (b.br.map dIv))) (.inr x.nm))).bind id)=_ by rw[gC (nm:=fun b:BenchT=>b.nm) (f:=fun b:BenchT=>.lst (b.br.map dIv)) g.bn hx];rfl)
theorem yb (g:Good bs ss js us ls ks h) (hs:s∈ss) {b:ai} (hb:b∈wn s) {fl:FE} (h1:fo ρ=aa .(d)) (hk:fk ρ=aa .(bg)) (hl:fl ρ=aa (.str b)):b2 bN (b2 bN (bC "Grounds" "lengths" (bC "Facts" "grounds" fo)) fk) fl ρ=aa (.int (lnO s b)):=
 aA (pE g hs h1 hk) hl (xh (g.s s hs).nd hb)
theorem xR (br:ac (ah×ah)) (L s:ah):lQ [.lst .(aO),.int L,.int s]=aa (.int (sb br L s)):=dj (Kg br L s)
theorem Dr (br:ac (ah×ah)) (L s:ah):mZ [.lst .(aO),.int L,.int s]=aa (.int (sa br.reverse L s)):=dj (LU br L s)
theorem RI (g:Good bs ss js us ls ks h) (hs:s∈ss) (S:StP O A B P kp s o f l nt q) {b:ai} (hb:bh b=aj) (t:ah):Wp (kx [fcD bs ss js us ls ks h lm kp kvs O A B P,.str s.nm,.str b,.int t]) fun d=>∃c,d=.bl c/\(c=aj↔b∈o/\Az (brO bs b) f l .(r) (lnO s b) t (shO nt q b)):=by
 unfold kx;have no:∀{P:Prop},¬P->∃b:aP,D.bl ar=.bl b/\(b=aj↔P):=fun h=>⟨ar,rfl,⟨.(F),fun z=>bA z h⟩⟩;refine cW (ff (aB (EE (i7 (bF (cU (show("is_in_window":ai)∉cu by decide +kernel) rfl .(ak) (BG g hs S hb t)))) fun _=>bF (cU (show("is_barred":ai)∉cu by decide +kernel) rfl .(ak) (v9 S hb t))) ?_));by_cases h1:b∈o/\f<=t/\t<=l/\t+lnO s b<=mkI js lm h s.nm
 .by_cases h2:shO nt q b=aa t
  .rw[qX (by rw[qT h2,FM])];exact⟨_,rfl,_,rfl,no fun z=>z.2.2.2.2.1 h2⟩
  .rw[qY (by rw[qO h2,qT h1];exact qr)];have hw:=S.hw b h1.1;refine cP (aB (aA (aU (ax (xN g hs hw rfl rfl) (ax (yb g hs hw rfl rfl rfl) .(D))) (xR _ _ _)) rfl rfl) ⟨_,rfl,_,rfl,?_⟩);constructor
   .exact fun z=>⟨h1.1,h1.2.1,h1.2.2.1,h1.2.2.2,h2,GS (by simpa using z)⟩
   .exact fun z=>by simpa using ye z.2.2.2.2.2
 .rw[qX (by rw[qO h1];rfl)];exact⟨_,rfl,_,rfl,no fun z=>h1 ⟨z.1,z.2.1,z.2.2.1,z.2.2.2.1⟩⟩
theorem JG (g:Good bs ss js us ls ks h) (hs:s∈ss) (S:StP O A B P kp s o f l nt q) {b:ai} (hb:b∈o):uB [fcD bs ss js us ls ks h lm kp kvs O A B P,.str s.nm,.str b]=aa (.int (jH (brO bs b) (lnO s b) f (shO nt q b))):=by
 refine dj ?_;unfold uB;have hw:=S.hw b hb;have hn:=mv g hs b hw;refine cW (bp (aB (xN g hs hw rfl rfl) (bp (aB (yb g hs hw rfl rfl rfl) (bp (aB (aU (ax rfl (ax rfl (ax (aA (gA 2 rfl rfl) rfl (show((aa (bc A .(an))).bind id)=_ by rw[S.hA];rfl)) aJ))) (xR _ _ _)) ?_))))));refine bX (cO (aB (bF (cU (show("is_barred":ai)∉cu by decide +kernel) rfl .(ak) (v9 S hn _))) ⟨fun z=>?_,fun z=>?_⟩))
 .refine fg (aB (aU (ax rfl (ax rfl (ax (aA rfl rfl rfl) aJ))) (xR _ _ _)) ⟨rfl,cP (aX rfl ⟨_,rfl,?_⟩)⟩);unfold jH;rw[qX (dh z)]
 .refine dD ⟨rfl,cP (aX rfl ⟨_,rfl,?_⟩)⟩;unfold jH;rw[qY (oG z)]
theorem Ou (g:Good bs ss js us ls ks h) (hs:s∈ss) (S:StP O A B P kp s o f l nt q) {b:ai} (hb:b∈o):uD [fcD bs ss js us ls ks h lm kp kvs O A B P,.str s.nm,.str b]=aa (.int (go1 (brO bs b) (lnO s b) (if mkI js lm h s.nm-lnO s b<l then mkI js lm h s.nm-lnO s b else l) (shO nt q b))):=by
 refine dj ?_;unfold uD;have hw:=S.hw b hb;have hn:=mv g hs b hw;refine cW (bp (aB (xN g hs hw rfl rfl) (bp (aB (yb g hs hw rfl rfl rfl) (bp (aB (aU (ax rfl (ax rfl (ax (aU (ax (aA (gA 3 rfl rfl) rfl (show((aa (bc B .(an))).bind id)=_ by rw[S.hB];rfl)) (ax (aA (cU (show("end_mark":ai)∉cu by decide +kernel) rfl .(D) (xC g hs)) rfl rfl) aJ)) rfl) aJ))) (Dr _ _ _)) ?_))))));refine bX (cO (aB (bF (cU (show("is_barred":ai)∉cu by decide +kernel) rfl .(ak) (v9 S hn _))) ⟨fun z=>?_,fun z=>?_⟩))
 .refine fg (aB (aU (ax rfl (ax rfl (ax (aA rfl rfl rfl) aJ))) (Dr _ _ _)) ⟨rfl,cP (aX rfl ⟨_,rfl,?_⟩)⟩);unfold go1;rw[qX (dh z)]
 .refine dD ⟨rfl,cP (aX rfl ⟨_,rfl,?_⟩)⟩;unfold go1;rw[qY (oG z)]
end
theorem ED (ns:ac ah):(dE ns).Pairwise (·<=·):=(T8 (le:=leZ) (fun a b c h1 h2=>qT (zi (dh h1) (dh h2))) (fun a b=>by
   rcases T9 a b with h|h
   .rw[show leZ a b=aj from qT h];rfl
   .rw[show leZ b a=aj from qT h];exact FM _) ns).imp fun h=>dh h
theorem tz {x:ah} :x∈dE ns↔x∈ns:=(FN ns leZ).mem_iff
theorem Ks {m:ah} (hm:m∈ns) (h:∀y∈ns,m<=y):(dE ns).head?=aa m:=by
 have pw:=ED ns;have m1:=tz.mpr hm;cases e:dE ns with
 |nil=>rw[e] at m1;cases m1
 |cons x r=>
  rw[e] at pw m1;have h1:m<=x:=h x (tz.mp (by rw[e];exact qg));rcases cr.mp m1 with rfl|h2
  .rfl
  .have h3:=(Fu.mp pw).1 m h2;have:x=m:=by omega
   rw[this];rfl
theorem M4 {m:ah} (hm:m∈ns) (h:∀y∈ns,y<=m):(dE ns).reverse.head?=aa m:=by
 have pw:(dE ns).reverse.Pairwise (fun a b=>b<=a):=List.pairwise_reverse.mpr (ED ns);have m1:m∈(dE ns).reverse:=F1.mpr (tz.mpr hm);cases e:(dE ns).reverse with
 |nil=>rw[e] at m1;cases m1
 |cons x r=>
  rw[e] at pw m1;have h1:x<=m:=h x (tz.mp (F1.mp (by rw[e];exact qg)));rcases cr.mp m1 with rfl|h2
  .rfl
  .have h3:=(Fu.mp pw).1 m h2;have:x=m:=by omega
   rw[this];rfl
theorem AI (ns:ac ah):∀k,ck (i6 ns) k<=k/\∀j,j<=k->ns.getD (ck (i6 ns) k) 0<=ns.getD j 0
 |0=>⟨qv _,fun j hj=>by
   obtain rfl:j=0:=by omega
   exact lD _⟩
 |k+1=>by
  obtain⟨h1,h2⟩:=AI ns k;unfold ck;by_cases e:i6 ns (k+1) (ck (i6 ns) k)=aj
  .rw[qX e];have e:=dh e;refine⟨qv _,fun j hj=>?_⟩;by_cases hj2:j=k+1
   .rw[hj2];exact lD _
   .have:=h2 j .(b);omega
  .rw[qY e];refine⟨by omega,fun j hj=>?_⟩;by_cases hj2:j=k+1
   .rw[hj2];have:¬ns.getD (k+1) 0<ns.getD (ck (i6 ns) k) 0:=fun z=>e (qT z);omega
   .exact h2 j .(b)
theorem A7 (ns:ac ah):∀k,ck (btI ns) k<=k/\∀j,j<=k->ns.getD j 0<=ns.getD (ck (btI ns) k) 0
 |0=>⟨qv _,fun j hj=>by
   obtain rfl:j=0:=by omega
   exact lD _⟩
 |k+1=>by
  obtain⟨h1,h2⟩:=A7 ns k;unfold ck;by_cases e:btI ns (k+1) (ck (btI ns) k)=aj
  .rw[qX e];have e:=dh e;refine⟨qv _,fun j hj=>?_⟩;by_cases hj2:j=k+1
   .rw[hj2];exact lD _
   .have:=h2 j .(b);omega
  .rw[qY e];refine⟨by omega,fun j hj=>?_⟩;by_cases hj2:j=k+1
   .rw[hj2];have:¬ns.getD (k+1) 0 > ns.getD (ck (btI ns) k) 0:=fun z=>e (qT z);omega
   .exact h2 j .(b)
theorem AJ (h:i<ns.length):ns.getD i 0∈ns:=by rw[j0,qD h];exact oF h
theorem zq {x:ah} (h:x∈ns):∃i,i<ns.length/\ns.getD i 0=x:=by obtain⟨i,hi,e⟩:=u5.mp h;exact⟨i,hi,by rw[j0,qD hi,←e];rfl⟩
theorem zQ:dE []=[]:=by unfold dE;simp
theorem Dj (ns:ac ah):kA ns=cC (dE ns).head?:=by
 unfold kA;by_cases e:ns=[]
 .rw[qX e,e,zQ];rfl
 .have hp:0<ns.length:=FZ.mpr e;obtain⟨h1,h2⟩:=AI ns (ns.length-1);rw[qY e,Ks (m:=ns.getD (ck (i6 ns) (ns.length-1)) 0) (AJ .(b)) fun y hy=>?_]
  .rfl
  .obtain⟨i,hi,rfl⟩:=zq hy;exact h2 i .(b)
theorem D1 (ns:ac ah):mxI ns=cC (dE ns).reverse.head?:=by
 unfold mxI;by_cases e:ns=[]
 .rw[qX e,e,zQ];rfl
 .have hp:0<ns.length:=FZ.mpr e;obtain⟨h1,h2⟩:=A7 ns (ns.length-1);rw[qY e,M4 (m:=ns.getD (ck (btI ns) (ns.length-1)) 0) (AJ .(b)) fun y hy=>?_]
  .rfl
  .obtain⟨i,hi,rfl⟩:=zq hy;exact h2 i .(b)
section
variable {bs:ac BenchT} {A P:ac (Key×D)} {s:StepT} {o:ac ai} {f:ah}
noncomputable def gP (o:ac ai) (f l m:ah) (L F:ai->ah):ac ah:=(o.filter fun b=>decide (f<=F b/\F b<=l/\F b+L b<=m)).map F
theorem BO (g:Good bs ss js us ls ks h) (hs:s∈ss) (S:StP O A B P kp s o f l nt q) (F:ai->ah):∀(o':ac ai) (a b:aq Slot),(∀x∈o',x∈o)->bT Xi (toB Xg) (vSh 1) (o'.map fun b=>.tup [.str b,.int (F b)]) [a,b,oS .(bg),oS .(d)]=aa ((gP o' f l .(r) (lnO s) F).map D.int):=by
 intro xs0
 induction xs0 with
 |nil=>
  intro _ _ _;exact rfl
 |cons x r ih=>
  intro a b hx;have ih:=ih (oS (.str x)) (oS (.int (F x))) fun y hy=>hx y (qh _ hy);have hxo:=hx x qg;have e:toB Xg [oS (.str x),oS (.int (F x)),oS .(bg),oS .(d)]=aa (decide (x∈o/\f<=F x/\F x<=l/\F x+lnO s x<=mkI js lm h s.nm)):=bF (cU (show("is_in_window":ai)∉cu by decide +kernel) rfl .(ak) (BG g hs S (mv g hs x (S.hw x hxo)) (F x)));rw[show decide (x∈o/\f<=F x/\F x<=l/\F x+lnO s x<=mkI js lm h s.nm)=decide (f<=F x/\F x<=l/\F x+lnO s x<=mkI js lm h s.nm) by simp[hxo]] at e;unfold gP at ih ⊢;rw[qm,j8];show(((toB _ [oS (.str x),oS (.int (F x)),oS .(bg),oS .(d)]).bind fun c=>_):aq (ac D))=_;rw[e,qb];cases hc:decide (f<=F x/\F x<=l/\F x+lnO s x<=mkI js lm h s.nm) with
  |true=>
   exact(bU (lu fun y=>D.int (F x)::y) ih).trans rfl
  |false=>exact ih
end
theorem pP {g:D->aq D} {x:D} (h1:fa ρ=aa x) (h2:g x=aa z):b1 g fa ρ=aa z:=by unfold b1;rw[h1];exact h2
section
variable {bs:ac BenchT} {A P:ac (Key×D)} {s:StepT} {o:ac ai} {f:ah}
abbrev loF (bs:ac BenchT) (s:StepT) (f:ah) (nt:aP) (q:ai×ah) (b:ai):ah:=jH (brO bs b) (lnO s b) f (shO nt q b)
abbrev goF (bs:ac BenchT) (s:StepT) (l m:ah) (nt:aP) (q:ai×ah) (b:ai):ah:=go1 (brO bs b) (lnO s b) (if m-lnO s b<l then m-lnO s b else l) (shO nt q b)
theorem Ef (g:Good bs ss js us ls ks h) (hs:s∈ss) (S:StP O A B P kp s o f l nt q):jL [fcD bs ss js us ls ks h lm kp kvs O A B P,.str s.nm]=aa (cC (dE (gP o f l .(r) (lnO s) (loF bs s f nt q))).head?):=by
 refine ca [oS .(d),oS .(bg),af] rfl ((kO (d:=.lst (o.map fun b=>.tup [.str b,.int (loF bs s f nt q b)])) (fD ?_)).trans (bZ (pP (fD (ys:=(gP o f l .(r) (lnO s) (loF bs s f nt q)).map D.int) ?_) ?_)))
 .unfold aR itF;rw[aA (gA 1 rfl rfl) rfl (show((aa (bc O .(an))).bind id)=_ by rw[S.hO];rfl)];show(if (o.map D.str).length<=aH then _ else _)=_;rw[qX (by rw[qf];have:=S.hl;unfold aH;omega)];exact xZ (k:=D.str) (m:=fun b=>.tup [.str b,.int (loF bs s f nt q b)]) fun b hb=>dj (f8 (aS (aX rfl (aS (aB (cU (show("least_on":ai)∉cu by decide +kernel) rfl (ax rfl .(D)) (JG g hs S hb)) (bS ⟨by simp,rfl⟩))))))
 .unfold aR itF;show(if (o.map fun b=>D.tup [.str b,.int (loF bs s f nt q b)]).length<=aH then bT _ _ _ _ [af,af,oS .(bg),oS .(d)] else af)=_;rw[qX (by rw[qf];have:=S.hl;unfold aH;omega)];exact BO g hs S _ o af af fun _ h=>h
 .show(gJ _).map kA=_;rw[pj,←Dj];rfl
theorem Ct (g:Good bs ss js us ls ks h) (hs:s∈ss) (S:StP O A B P kp s o f l nt q):jQ [fcD bs ss js us ls ks h lm kp kvs O A B P,.str s.nm]=aa (cC (dE (gP o f l .(r) (lnO s) (goF bs s l .(r) nt q))).reverse.head?):=by
 refine ca [oS .(d),oS .(bg),af] rfl ((kO (d:=.lst (o.map fun b=>.tup [.str b,.int (goF bs s l .(r) nt q b)])) (fD ?_)).trans (bZ (pP (fD (ys:=(gP o f l .(r) (lnO s) (goF bs s l .(r) nt q)).map D.int) ?_) ?_)))
 .unfold aR itF;rw[aA (gA 1 rfl rfl) rfl (show((aa (bc O .(an))).bind id)=_ by rw[S.hO];rfl)];show(if (o.map D.str).length<=aH then _ else _)=_;rw[qX (by rw[qf];have:=S.hl;unfold aH;omega)];exact xZ (k:=D.str) (m:=fun b=>.tup [.str b,.int (goF bs s l .(r) nt q b)]) fun b hb=>dj (f8 (aS (aX rfl (aS (aB (cU (show("greatest_on":ai)∉cu by decide +kernel) rfl (ax rfl .(D)) (Ou g hs S hb)) (bS ⟨by simp,rfl⟩))))))
 .unfold aR itF;show(if (o.map fun b=>D.tup [.str b,.int (goF bs s l .(r) nt q b)]).length<=aH then bT _ _ _ _ [af,af,oS .(bg),oS .(d)] else af)=_;rw[qX (by rw[qf];have:=S.hl;unfold aH;omega)];exact BO g hs S _ o af af fun _ h=>h
 .show(gJ _).map mxI=_;rw[pj,←D1];rfl
theorem Qo (g:Good bs ss js us ls ks h) (hs:s∈ss) (S:StP O A B P kp s o f l nt q):mi [fcD bs ss js us ls ks h lm kp kvs O A B P,.str s.nm]=aa (cC (dE (o.map (lnO s))).head?):=by rw[least_of g hs S.hO S.hw S.hl,Dj]
theorem Jt (g:Good bs ss js us ls ks h) (hs:s∈ss) (S:StP O A B P kp s o f l nt q):uw [fcD bs ss js us ls ks h lm kp kvs O A B P,.str s.nm]=aa (cC (dE (o.map (lnO s))).reverse.head?):=by refine ca [oS .(d),oS .(bg)] rfl (bZ (pP (cU (show("open_lengths":ai)∉cu by decide +kernel) rfl .(D) (AQ g hs S.hO S.hw S.hl)) ?_));show(gJ _).map mxI=_;rw[pj,←D1];rfl
theorem wc (S:StP O A B P kp s o f l nt q):nk [fcD bs ss js us ls ks h lm kp kvs O A B P,.str s.nm]=aa (.int f):=
 ca [oS .(d),oS .(bg)] rfl (bZ (aA (gA 2 rfl rfl) rfl (show((aa (bc A .(an))).bind id)=_ by rw[S.hA];rfl)))
theorem vU (S:StP O A B P kp s o f l nt q):nh [fcD bs ss js us ls ks h lm kp kvs O A B P,.str s.nm]=aa (.int l):=
 ca [oS .(d),oS .(bg)] rfl (bZ (aA (gA 3 rfl rfl) rfl (show((aa (bc B .(an))).bind id)=_ by rw[S.hB];rfl)))
theorem KB (S:StP O A B P kp s o f l nt q):w8 [fcD bs ss js us ls ks h lm kp kvs O A B P,.str s.nm]=aa (.lst (o.map D.str)):=
 ca [oS .(d),oS .(bg)] rfl (bZ (aU (ax (aA (gA 1 rfl rfl) rfl (show((aa (bc O .(an))).bind id)=_ by rw[S.hO];rfl)) aJ) rfl))
theorem Nr {k:ai} {G:D} (hp:P.length<100000):oQ (fF G O A B P) [.str k]=aa (.non,fF G O A B (bW P (.inr k) (.bl aj))):=by unfold oQ;exact xF (ρ':=[oS (.str k)]) (kP 5 rfl (oY _ _ _ _ _) rfl rfl rfl hp)
theorem MH (m:ah) (L F:ai->ah):∀{o:ac ai},(∀b∈o,f<=F b)->gP o f l m L F=o.flatMap fun b=>fj (F b > l\/F b+L b > m) (F b):=by
 intro xs0
 induction xs0 with
 |nil=>
  intro _;exact rfl
 |cons b r ih=>
  intro h;have ih:=ih fun x hx=>h x (qh _ hx);have hb:=h b qg;unfold gP at ih ⊢;rw[j8,jo,←ih];unfold fj;by_cases e:F b > l\/F b+L b > m
  .rw[qX e,qY (by simp only[u9];omega)];rfl
  .rw[qY e,qX (qT ⟨hb,by omega,by omega⟩)];rfl
theorem Nh (m:ah) (L F:ai->ah):∀{o:ac ai},(∀b∈o,F b<=l/\F b+L b<=m)->gP o f l m L F=o.flatMap fun b=>fj (F b<f) (F b):=by
 intro xs0
 induction xs0 with
 |nil=>
  intro _;exact rfl
 |cons b r ih=>
  intro h;have ih:=ih fun x hx=>h x (qh _ hx);have hb:=h b qg;unfold gP at ih ⊢;rw[j8,jo,←ih];unfold fj;by_cases e:F b<f
  .rw[qX e,qY (by simp only[u9];omega)];rfl
  .rw[qY e,qX (qT ⟨by omega,hb.1,hb.2⟩)];rfl
end
section
variable {bs:ac BenchT} {A P:ac (Key×D)} {s:StepT} {o:ac ai} {f:ah}
theorem HH {JL:D} (hm:bh m=aj):∀(js:ac JobT) (a:aq Slot),(∀j∈js,∀x∈j.ms,bh x=aj)->∃a',dO (ay 2) (sIf (toB (b2 f9 (vSh 1) (b2 ixD (vSh 2) .(C)))) (aC (vSh 2)) aV) (js.map bf) [oS JL,oS (.str m),a]=aa ((match di js m with|some j=>Fl.rt (bf j)|none=>Fl.nx),[oS JL,oS (.str m),a']):=by
 intro xs0
 induction xs0 with
 |nil=>
  intro a _;exact⟨a,rfl⟩
 |cons j r ih=>
  intro a hn;have hT:toB (b2 f9 (vSh 1) (b2 ixD (vSh 2) .(C))) [oS JL,oS (.str m),oS (bf j)]=aa (decide (m∈j.ms)):=
   bF (aA rfl (aA rfl rfl lH) (uy hm (hn j qg)))
  have hg:ay 2 (bf j) [oS JL,oS (.str m),a]=aa [oS JL,oS (.str m),oS (bf j)]:=rfl;by_cases hj:m∈j.ms
  .refine⟨oS (bf j),?_⟩;have e:di (j::r) m=aa j:=by unfold di;rw[fB,qT hj]
   rw[qT hj] at hT;rw[e,qm];unfold dO;rw[hg,qb,Ci hT];rfl
  .have e:di (j::r) m=di r m:=by unfold di;rw[fB,qO hj]
   rw[qO hj] at hT;obtain⟨a',ha⟩:=ih (oS (bf j)) (fun x hx=>hn x (qh _ hx));refine⟨a',?_⟩;rw[e,qm];unfold dO;rw[hg,qb,Cg hT];exact ha
theorem Pc (hm:bh m=aj) (hn:∀j∈js,∀x∈j.ms,bh x=aj):wP [cw bs ss js us ls ks h,.str m]=aa (pr (di js m)):=by
 obtain⟨a',e⟩:=HH (JL:=cw bs ss js us ls ks h) hm js af hn;have e2:bE (itF (b2 ixD (vSh 0) .(J))) (ay 2) (sIf (toB (b2 f9 (vSh 1) (b2 ixD (vSh 2) .(C)))) (aC (vSh 2)) aV) [oS .(t),oS (.str m),af]=_:=(na (xs:=js.map bf) (show itF _ _=_ by unfold itF;rw[aA rfl rfl (ixT _ 2)];rfl)).trans e;cases hj:di js m with
 |none=>
  rw[hj] at e2;exact ca [oS .(t),oS (.str m),af] rfl ((lF e2).trans (bZ rfl))
 |some j=>
  rw[hj] at e2;refine ca [oS .(t),oS (.str m),af] (ρ':=[oS .(t),oS (.str m),a']) rfl ?_;unfold aw;rw[e2];rfl
theorem KD (g:Good bs ss js us ls ks h):∀j∈js,∀x∈j.ms,bh x=aj:=fun j hj x hx=>by obtain⟨s,hs,rfl⟩:=bJ.mp ((g.j j hj).ms x hx);exact(g.s s hs).nm
theorem NL (g:Good bs ss js us ls ks h) (hm:bh m=aj):si [cw bs ss js us ls ks h,.int lm,.str m]=aa (.int (mkI js lm h m)):=by
 refine dj ?_;unfold si;refine cW (bp (aB (aU (ax rfl (ax (aA rfl rfl (ixT _ 6)) aJ)) rfl) (bp (aB (aU (ax rfl .(D)) (Pc hm (KD g))) ?_))));unfold mkI duI;cases e:di js m with
 |none=>
  refine bX (cO (aB (a:=ar) rfl ⟨.(F),fun _=>dD ⟨rfl,cP (aX rfl ⟨_,rfl,?_⟩)⟩⟩))
  congr 1
  show(if h<lm then h else lm)=if h<lm then (if h<h then h else h) else (if h<lm then h else lm)
  split<;>simp[*]
 |some j=>
  refine bX (cO (aB (a:=aj) rfl ⟨fun _=>fg (aB (aU (ax rfl (ax (aA rfl rfl fT) aJ)) rfl) ⟨rfl,cP (aX rfl ⟨_,rfl,?_⟩)⟩),.(F)⟩))
  congr 1
  show(if j.du<(if h<lm then h else lm) then j.du else (if h<lm then h else lm))=if h<lm then (if j.du<h then j.du else h) else (if j.du<lm then j.du else lm)
  split<;>simp[*]
end
theorem CO {xs ys:ac ah} (hs:ρ[i]?=aa (aa (.own (xs.map D.int)))) (hf:Wp (fe ρ) fun d=>d=.lst (ys.map D.int)) (hl:xs.length+ys.length<=1000) (k:R (.nx,ρ.set i (aa (.own ((xs++ys).map D.int))))):Wp (eP i fe ρ) R:=by obtain⟨_,e,rfl⟩:=hf;unfold eP;rw[hs];show Wp ((fe ρ).bind _) _;rw[e,qb];show Wp (if _ then _ else _) _;rw[qX (by rw[qf,qf];unfold aH;omega),←dZ];exact⟨_,rfl,k⟩
theorem nY (c:Prop) [Decidable c] (n:ah):(fj c n).length<=1:=by unfold fj;split<;>simp
section
variable {bs:ac BenchT} {A P:ac (Key×D)} {s:StepT} {own:ac (ai×ah)} {f m:ah} {pl:aq (ai×ah)}
abbrev bkD (bs:ac BenchT):D:=.dk (bs.map fun b=>(.inr b.nm,.lst (b.br.map dIv)))
noncomputable abbrev wnD (f l m:ah):D:=.tup [.int f,.int l,.int m]
def gY (bs:ac BenchT) (f l m:ah) (pl:aq (ai×ah)) (w:ai×ah):ac ah:=fj (ls2 (brO bs w.1) w.2 f (atO pl w.1) > l\/ls2 (brO bs w.1) w.2 f (atO pl w.1)+w.2 > m) (ls2 (brO bs w.1) w.2 f (atO pl w.1))
def gM (bs:ac BenchT) (f l m:ah) (pl:aq (ai×ah)) (w:ai×ah):ac ah:=fj (gs2 (brO bs w.1) w.2 (if m-w.2<l then m-w.2 else l) (atO pl w.1)<f) (gs2 (brO bs w.1) w.2 (if m-w.2<l then m-w.2 else l) (atO pl w.1))
theorem tS {F:ai×ah->ac ah} (hF:∀w,(F w).length<=1):∀(xs:ac (ai×ah)),(xs.flatMap F).length<=xs.length:=by
 intro xs0
 induction xs0 with
 |nil=>
  exact qv _
 |cons x r ih=>
  rw[jo,qj,qi];have:=hF x;have:=ih;omega
theorem Bw (g:Good bs ss js us ls ks h) {b:ai} (hb:b∈bs.map (·.nm)) {fd:FE} (h1:fd ρ=aa (bkD bs)) (hk:fk ρ=aa (.str b)):b2 bN fd fk ρ=aa (.lst ((brO bs b).map dIv)):=by obtain⟨x,hx,rfl⟩:=bJ.mp hb;rw[tf g hx];exact aA h1 hk (show((aa (bc (bs.map fun b=>((.inr b.nm:Key),D.lst (b.br.map dIv))) (.inr x.nm))).bind id)=_ by rw[gC (nm:=fun b:BenchT=>b.nm) (f:=fun b:BenchT=>.lst (b.br.map dIv)) g.bn hx];rfl)
abbrev rgE (F T:D) (lm:ah) (nm:ai) (f l m:ah) (own:ac (ai×ah)) (pl:aq (ai×ah)) (bk:D) (x y:aq Slot) (r:bo):bo:=oS F::oS T::oS (.int lm)::oS (.str nm)::oS (.tup [.int f,.int l,.lst (own.map dW)])::oS (tw pl)::oS (.int f)::oS (.int l)::oS (.lst (own.map dW))::oS (wnD f l m)::oS bk::x::y::r
theorem KG (g:Good bs ss js us ls ks h) {F:D} {nm:ai} {a b:aq Slot} (hw:∀w∈own,w.1∈bs.map (·.nm)) (hl:own.length<=4) (k:∀a b,R (.nx,rgE F T lm nm f l m own pl (bkD bs) (aa (.own ((own.flatMap (gY bs f l m pl)).map D.int))) (aa (.own ((own.flatMap (gM bs f l m pl)).map D.int))) (a::b::r))) :
  Wp ((bE (itF (vSh 8)) (bG 2 (aM (ay 13) (aM (ay 14) bH))) (aw (eP 11 (cF pM Xd)) (eP 12 (cF o4 Xd)))) (rgE F T lm nm f l m own pl (bkD bs) (aa (.own [])) (aa (.own [])) (a::b::r))) R:=by
 have l1:∀i,((own.take i).flatMap (gY bs f l m pl)).length<=4:=fun i=>by have h1:=tS (F:=gY bs f l m pl) (fun w=>nY _ _) (own.take i);rw[qE] at h1;omega
 have l2:∀i,((own.take i).flatMap (gM bs f l m pl)).length<=4:=fun i=>by have h1:=tS (F:=gM bs f l m pl) (fun w=>nY _ _) (own.take i);rw[qE] at h1;omega
 refine dz (fun i ρ=>∃a b,ρ=rgE F T lm nm f l m own pl (bkD bs) (aa (.own (((own.take i).flatMap (gY bs f l m pl)).map D.int))) (aa (.own (((own.take i).flatMap (gM bs f l m pl)).map D.int))) (a::b::r)) (aB (a:=own.map dW) rfl ⟨⟨a,b,rfl⟩,?_,?_⟩)
 .rintro i x ρ hx ⟨a,b,rfl⟩;rw[qk] at hx;obtain⟨w,hwi,rfl⟩:=oMd hx;have hb:=hw w (qQ hwi);have t1:∀G:ai×ah->ac ah,(own.take (i+1)).flatMap G=(own.take i).flatMap G++G w:=fun G=>by rw[j5,hwi,zn];simp
  refine aB rfl (bX (CO (ys:=gY bs f l m pl w) rfl (aB (aU (ax (Bw g hb rfl rfl) (ax rfl (ax rfl (ax (aU (ax rfl .(D)) (dj (xK pl w.1))) aJ)))) (dj (LS (brO bs w.1) f l m w.2 (atO pl w.1)))) rfl) (by have:=l1 i;have:=nY (ls2 (brO bs w.1) w.2 f (atO pl w.1) > l\/ls2 (brO bs w.1) w.2 f (atO pl w.1)+w.2 > m) (ls2 (brO bs w.1) w.2 f (atO pl w.1));unfold gY at *;omega) ⟨rfl,?_⟩));refine CO (xs:=(own.take i).flatMap (gM bs f l m pl)) (ys:=gM bs f l m pl w) rfl (aB (aU (ax (Bw g hb rfl rfl) (ax rfl (ax rfl (ax (aU (ax rfl .(D)) (dj (xK pl w.1))) aJ)))) (dj (Iw (brO bs w.1) f l m w.2 (atO pl w.1)))) rfl) (by have:=l2 i;have:=nY (gs2 (brO bs w.1) w.2 (if m-w.2<l then m-w.2 else l) (atO pl w.1)<f) (gs2 (brO bs w.1) w.2 (if m-w.2<l then m-w.2 else l) (atO pl w.1));unfold gM at *;omega) ⟨rfl,oS (.str w.1),oS (.int w.2),?_⟩;rw[t1,t1];rfl
 .rintro ρ ⟨a,b,rfl⟩;rw[qf,ij];exact k a b
end
theorem BB {F G:α->ac β} :∀{xs:ac α},(∀x∈xs,F x=G x)->xs.flatMap F=xs.flatMap G:=by
 intro xs0
 induction xs0 with
 |nil=>
  intro _;exact rfl
 |cons x r ih=>
  intro h;rw[jo,jo,h x qg,ih fun y hy=>h y (qh _ hy)]
theorem t8 (h:ns.length<64):ix [.lst (ns.map D.int)]=aa (.lst ((dE ns).map D.int)):=by show((gJ (ns.map D.int)).bind fun ns=>if ns.length<64 then aa (D.lst ((dE ns).map D.int)) else af)=_;rw[pj,qb,qX h]
theorem tY (ns:ac ah):jr af (aa 1) (.lst (ns.map D.int))=aa (.lst ((ns.take 1).map D.int)):=by show aa (D.lst (dn (ns.map D.int) af (aa 1)))=_;rw[zS .(f),vx];rfl
theorem DC (ns:ac ah):jG (.lst (ns.map D.int))=aa (.lst (ns.reverse.map D.int)):=by rw[zp];rfl
theorem tH (ns:ac ah):(ns.take 1).head?=ns.head?:=by cases ns<;>rfl
section
variable {bs:ac BenchT} {A P:ac (Key×D)} {s:StepT} {own:ac (ai×ah)} {f m:ah}
noncomputable abbrev plO (nt:aP) (q:ai×ah):aq (ai×ah):=if nt=aj then aa q else af
theorem AK (hw:∀w∈own,w∈s.ws) {w:ai×ah} (h:w∈own):w.1∈wn s:=qW (hw w h)
theorem MK (g:Good bs ss js us ls ks h) (hs:s∈ss) (hw:∀w∈own,w∈s.ws):gP (own.map (·.1)) f l m (lnO s) (loF bs s f nt q)=own.flatMap (gY bs f l m .(aU)):=by
 rw[MH m (lnO s) (loF bs s f nt q) fun b _=>OB _ _ _ _,Uk];refine BB fun w h=>?_;have e1:=ph (g.s s hs).nd (hw w h);have e2:loF bs s f nt q w.1=ls2 (brO bs w.1) w.2 f (atO .(aU) w.1):=by rw[PJ (by have:=((g.s s hs).ws w (hw w h)).2.1;omega) (z6 g hs (AK hw h))];show jH (brO bs w.1) (lnO s w.1) f (shO nt q w.1)=_;rw[e1];rfl
 show fj (loF bs s f nt q w.1 > l\/loF bs s f nt q w.1+lnO s w.1 > m) (loF bs s f nt q w.1)=_;unfold gY;simp only[e1,e2]
theorem Nk (g:Good bs ss js us ls ks h) (hs:s∈ss) (hw:∀w∈own,w∈s.ws):gP (own.map (·.1)) f l m (lnO s) (goF bs s l m nt q)=own.flatMap (gM bs f l m .(aU)):=by
 rw[Nh m (lnO s) (goF bs s l m nt q) fun b _=>?_,Uk]
 .refine BB fun w h=>?_;have e1:=ph (g.s s hs).nd (hw w h);have e2:goF bs s l m nt q w.1=gs2 (brO bs w.1) w.2 (if m-w.2<l then m-w.2 else l) (atO .(aU) w.1):=by rw[K3 (by have:=((g.s s hs).ws w (hw w h)).2.1;omega) (z6 g hs (AK hw h))];show go1 (brO bs w.1) (lnO s w.1) (if m-lnO s w.1<l then m-lnO s w.1 else l) (shO nt q w.1)=_;rw[e1];rfl
  show fj (goF bs s l m nt q w.1<f) (goF bs s l m nt q w.1)=_;unfold gM;simp only[e2]
 .have:=Iz (brO bs b) (lnO s b) (if m-lnO s b<l then m-lnO s b else l) (shO nt q b);show go1 (brO bs b) (lnO s b) (if m-lnO s b<l then m-lnO s b else l) (shO nt q b)<=l/\go1 (brO bs b) (lnO s b) (if m-lnO s b<l then m-lnO s b else l) (shO nt q b)+lnO s b<=m;split at this<;>split<;>omega
theorem Ih (g:Good bs ss js us ls ks h) (hs:s∈ss) (hw:∀w∈own,w∈s.ws) (hl:own.length<=4) (S:StP O A B P kp s (own.map (·.1)) f l nt q) {bk:D} {y:aq Slot} :
  (bwT 11 (aY (toB (cF io (ag (bq "Facts" "least_start" jL (vSh 0) .(aI)) (ag (slF (cF ix (ag (vSh 11) ak)) pN (pS .(h))) ak)))))) (rgE .(d) T lm s.nm f l .(r) own .(aU) bk (aa (.own ((own.flatMap (gY bs f l .(r) .(aU))).map D.int))) y r)=aa ar:=by
 have len:(own.flatMap (gY bs f l .(r) .(aU))).length<64:=by have:=tS (F:=gY bs f l .(r) .(aU)) (fun w=>nY _ _) own;omega
 unfold bwT;refine i7 (b:=aj) (bF (aU (ax (cU (show("least_start":ai)∉cu by decide +kernel) rfl .(D) (Ef g hs S)) (ax (l5 (aU .(D) (t8 len)) rfl rfl (tY _)) aJ)) (dj (sx _ _ ?_))));rw[tH,MK g hs hw]
theorem Lf (g:Good bs ss js us ls ks h) (hs:s∈ss) (hw:∀w∈own,w∈s.ws) (hl:own.length<=4) (S:StP O A B P kp s (own.map (·.1)) f l nt q) {bk:D} {x:aq Slot} :
  (bwT 12 (aY (toB (cF io (ag (bq "Facts" "greatest_start" jQ (vSh 0) .(aI)) (ag (slF (b1 jG (cF ix (ag (vSh 12) ak))) pN (pS .(h))) ak)))))) (rgE .(d) T lm s.nm f l .(r) own .(aU) bk x (aa (.own ((own.flatMap (gM bs f l .(r) .(aU))).map D.int))) r)=aa ar:=by
 have len:(own.flatMap (gM bs f l .(r) .(aU))).length<64:=by have:=tS (F:=gM bs f l .(r) .(aU)) (fun w=>nY _ _) own;omega
 unfold bwT;refine i7 (b:=aj) (bF (aU (ax (cU (show("greatest_start":ai)∉cu by decide +kernel) rfl .(D) (Ct g hs S)) (ax (l5 (pP (aU .(D) (t8 len)) (DC _)) rfl rfl (tY _)) aJ)) (dj (sx _ _ ?_))));rw[tH,Nk g hs hw]
end
section
variable {bs:ac BenchT} {A P:ac (Key×D)} {s:StepT} {own:ac (ai×ah)} {f m:ah}
abbrev leO (s:StepT) (own:ac (ai×ah)) (b:ai):aq ah:=if b∈own.map (·.1) then aa (lnO s b) else af
abbrev inE (F T:D) (lm:ah) (nm:ai) (f l m:ah) (own:ac (ai×ah)) (pl:aq (ai×ah)) (bk:D) (X Y:aq Slot) (x:BenchT) (L:aq ah) (st:aq Slot) (r:bo):bo:=rgE F T lm nm f l m own pl bk X Y (oS (.str x.nm)::oS (cC L)::oS (.lst (x.br.map dIv))::st::r)
theorem Rr (g:Good bs ss js us ls ks h) (hs:s∈ss) (S:StP O A B P kp s (own.map (·.1)) f l nt q) {x:BenchT} (hx:bh x.nm=aj) (hbr:x.nm∈own.map (·.1)->brO bs x.nm=x.br) (hl:x.br.length<=10) (t:ah) {bk:D} {X st a b c:aq Slot} :
  Wp ((aw (aL 18 (bq "Facts" "can_start" kx (vSh 0) (ag (vSh 3) (ag (vSh 13) (ag (vSh 17) ak))))) (aw (aL 19 (cF gX (ag (vSh 5) (ag (vSh 13) ak)))) (aw (aL 20 (cc (b2 e6 (vSh 14) (vC .non)) (cF kr (ag (vSh 15) (ag (vSh 9) (ag (vSh 14) (ag (vSh 17) (ag (vSh 19) ak)))))))) (sIf (orT (aY (toB (cF cV (ag (vSh 18) (ag (vC (.ty "bool")) ak))))) (toB (b2 neA (vSh 18) (vSh 20)))) .(z) aV)))) (inE .(d) T lm s.nm f l .(r) own .(aU) bk X Y x (leO s own x.nm) st [oS (.int t),a,b,c])) fun r=>r.1=.nx/\∃a b c,r.2=inE .(d) T lm s.nm f l .(r) own .(aU) bk X Y x (leO s own x.nm) st [oS (.int t),a,b,c]:=by
 obtain⟨_,e1,c1,rfl,hc⟩:=RI (lm:=lm) (kvs:=kvs) g hs S hx t;refine bp (aB (cU (show("can_start":ai)∉cu by decide +kernel) rfl .(ak) e1) (bp (aB (aU (ax rfl .(D)) (dj (xK .(aU) x.nm))) ?_)));refine bp (aB (a:=.bl c1) ?_ (cO (aB (a:=ar) ?_ ⟨.(F),fun _=>dD ⟨rfl,oS (.bl c1),oS (cC (atO .(aU) x.nm)),oS (.bl c1),rfl⟩⟩)))
 .by_cases hm:x.nm∈own.map (·.1)
  .obtain⟨_,e2,c2,rfl,hc2⟩:=Ga (br:=x.br) .(b) f l .(r) (lnO s x.nm) t (atO .(aU) x.nm);have hv:vSh 14 ((inE .(d) T lm s.nm f l .(r) own .(aU) bk X Y x (leO s own x.nm) st [oS (.int t),oS (.bl c1),oS (cC (atO .(aU) x.nm)),c]))=aa (.int (lnO s x.nm)):=by show aa (cC (leO s own x.nm))=_;rw[show leO s own x.nm=aa (lnO s x.nm) from qX hm];rfl
   have ec:c2=c1:=by
    rw[hbr hm] at hc;have:(c2=aj↔c1=aj):=by rw[hc,hc2];exact⟨fun z=>⟨hm,z⟩,fun z=>z.2⟩
    cases c1<;>cases c2<;>simp_all
   subst ec;exact(oR (a:=aj) (b:=c2) (aA hv rfl rfl) fun _=>aU (ax rfl (ax rfl (ax hv (ax rfl .(D))))) e2).trans (by rw[vm])
  .have hv:vSh 14 ((inE .(d) T lm s.nm f l .(r) own .(aU) bk X Y x (leO s own x.nm) st [oS (.int t),oS (.bl c1),oS (cC (atO .(aU) x.nm)),c]))=aa .non:=by show aa (cC (leO s own x.nm))=_;rw[show leO s own x.nm=af from qY hm];rfl
   have ec:c1=ar:=by
    cases c1 with
    |false=>rfl
    |true=>exact bA (hc.mp rfl).1 hm
   subst ec;exact(oR (a:=ar) (b:=ar) (aA hv rfl rfl) fun z=>nomatch z).trans rfl
 .cases c1<;>rfl
end
theorem Q9 [dG κ] {kvs:ac (κ×D)} {k:κ} (h:k∉kvs.map (·.1)):bc kvs k=af:=by
 unfold bc;rw[ve.mpr (fun x hx z=>h (by have e:x.1=k:=dh z;rw[←e];exact qW hx))]
 rfl
theorem GO {x y:D} {z:ac D} (h1:fa ρ=aa x) (h2:fb ρ=aa y) (h3:wg x y=aa z):lR fa fb ρ=aa z:=by unfold lR;rw[h1,qb,h2,qb,h3]
theorem Gu:∀(br:ac (ah×ah)) (a b:aq Slot),bT Xi tT (vSh 1) .(aO) [a,b]=aa ((br.map (·.2)).map D.int):=by
 intro xs0
 induction xs0 with
 |nil=>
  intro _ _;exact rfl
 |cons p r ih=>
  intro a b;exact(bU (lu fun y=>D.int p.2::y) (ih (oS (.int p.1)) (oS (.int p.2)))).trans rfl
theorem MO:∀(br:ac (ah×ah)) (a b:aq Slot),bT Xi tT (b2 cN (vSh 0) .(h)) .(aO) [a,b]=aa ((br.map fun p=>p.1-1).map D.int):=by
 intro xs0
 induction xs0 with
 |nil=>
  intro _ _;exact rfl
 |cons p r ih=>
  intro a b;exact(bU (lu fun y=>D.int (p.1-1)::y) (ih (oS (.int p.1)) (oS (.int p.2)))).trans rfl
section
variable {bs:ac BenchT} {A P:ac (Key×D)} {s:StepT} {own:ac (ai×ah)} {f m:ah}
theorem Jo (nd:(s.ws.map (·.1)).Nodup) (hw:∀w∈own,w∈s.ws) (hnd:(own.map (·.1)).Nodup) (b:ai):lK (.dk (own.map fun w=>(.inr w.1,.int w.2))) (.str b)=aa (cC (leO s own b)):=by
 show aa ((bc (own.map fun w=>((.inr w.1:Key),D.int w.2)) (.inr b)).getD .non)=_;by_cases hb:b∈own.map (·.1)
 .obtain⟨w,h1,rfl⟩:=bJ.mp hb;rw[gC (nm:=fun w:ai×ah=>w.1) (f:=fun w=>.int w.2) hnd h1,show leO s own w.1=aa (lnO s w.1) from qX hb,ph nd (hw w h1)];rfl
 .rw[Q9,show leO s own b=af from qY hb]
  .rfl
  .rw[qo];intro z;obtain⟨w,h1,e⟩:=bJ.mp z;exact hb (bJ.mpr ⟨w,h1,hG e⟩)
theorem Qc (g:Good bs ss js us ls ks h) (hs:s∈ss) (S:StP O A B P kp s (own.map (·.1)) f l nt q) {x:BenchT} (hx:bh x.nm=aj) (hbr:x.nm∈own.map (·.1)->brO bs x.nm=x.br) (hl:x.br.length<=10) {bk:D} {X a b c d:aq Slot} {ts:ac ah} (ht:ts.length<=100) :
  Wp (X0 (inE .(d) T lm s.nm f l .(r) own .(aU) bk X Y x (leO s own x.nm) (aa (.own (ts.map D.int))) [a,b,c,d])) fun r=>r.1=.nx/\∃st a b c d,r.2=inE .(d) T lm s.nm f l .(r) own .(aU) bk X Y x (leO s own x.nm) st [a,b,c,d]:=by
 refine me (ds:=ts.map D.int) rfl (dz (fun i ρ=>∃a b c d,ρ=inE .(d) T lm s.nm f l .(r) own .(aU) bk X Y x (leO s own x.nm) (oS (.lst (ts.map D.int))) [a,b,c,d]) (aB (a:=(ts++x.br.map fun p:ah×ah=>p.1-1).map D.int) ?_ ⟨⟨a,b,c,d,rfl⟩,?_,?_⟩))
 .unfold itF;rw[aA (x:=.lst (ts.map D.int)) (y:=.lst ((x.br.map fun p:ah×ah=>p.1-1).map D.int)) rfl (fD ?_) (lL (by rw[qf];omega))]
  .rfl
  .unfold aR;show(if (x.br.map dIv).length<=aH then bT _ _ _ _ [af,af] else af)=_;rw[qX (by rw[qf];unfold aH;omega)];exact MO x.br af af
 .rintro i y ρ hy ⟨a,b,c,d,rfl⟩;rw[qk] at hy;obtain⟨t,_,rfl⟩:=oMd hy;exact aB rfl ((Rr g hs S hx hbr hl t).imp fun r ⟨e,a,b,c,e2⟩=>⟨e,_,a,b,c,e2⟩)
 .rintro ρ ⟨a,b,c,d,rfl⟩;exact⟨rfl,_,a,b,c,d,rfl⟩
theorem zI (g:Good bs ss js us ls ks h) (hs:s∈ss) (hw:∀w∈own,w∈s.ws) (hnd:(own.map (·.1)).Nodup) (hl4:own.length<=4) (S:StP O A B P kp s (own.map (·.1)) f l nt q) {x:BenchT} (hx:bh x.nm=aj) (hbr:x.nm∈own.map (·.1)->brO bs x.nm=x.br) (hl:x.br.length<=10) {bk:D} {X a b c d:aq Slot} :
  Wp ((aw (aL 14 (b2 lK (cF ip (ag (vSh 8) ak)) (vSh 13))) (aw (dQ 16 Xb) (aw (sIf (toB (b2 e6 (vSh 5) (vC .non))) (fM 16 (b2 ixD (vSh 5) .(h))) aV) X0))) (rgE .(d) T lm s.nm f l .(r) own .(aU) bk X Y [oS (.str x.nm),a14,oS (.lst (x.br.map dIv)),a16,a,b,c,d])) fun r=>r.1=.nx/\∃a13 a14 a15 a16 a b c d,r.2=rgE .(d) T lm s.nm f l .(r) own .(aU) bk X Y [a13,a14,a15,a16,a,b,c,d]:=by
 refine bp (aB (a:=cC (leO s own x.nm)) (aA (aU .(D) (sW (nm:=fun w:ai×ah=>w.1) (f:=fun w=>.int w.2) (xs:=own) .(b) hnd)) rfl (Jo (g.s s hs).nd hw hnd x.nm)) ?_);have fin:∀ts:ac ah,ts.length<=100->Wp (X0 (inE .(d) T lm s.nm f l .(r) own .(aU) bk X Y x (leO s own x.nm) (aa (.own (ts.map D.int))) [a,b,c,d])) fun r=>r.1=.nx/\∃a13 a14 a15 a16 a b c d,r.2=rgE .(d) T lm s.nm f l .(r) own .(aU) bk X Y [a13,a14,a15,a16,a,b,c,d]:=fun ts ht=>(Qc g hs S hx hbr hl ht).imp fun r ⟨e,st,a,b,c,d,e2⟩=>⟨e,_,_,_,st,a,b,c,d,e2⟩;have own0:Xb (inE .(d) T lm s.nm f l .(r) own .(aU) bk X Y x (leO s own x.nm) a16 [a,b,c,d])=aa (([f,f-1,f+1,l,l+1]++x.br.map (·.2)).map D.int):=by
  have e:aK (aR (itF (vSh 15)) Xi tT (vSh 1) [af,af]) (inE .(d) T lm s.nm f l .(r) own .(aU) bk X Y x (leO s own x.nm) a16 [a,b,c,d])=aa (.lst ((x.br.map (·.2)).map D.int)):=fD (by unfold aR itF;show(if (x.br.map dIv).length<=aH then bT _ _ _ _ [af,af] else af)=_;rw[qX (by rw[qf];unfold aH;omega)];exact Gu x.br af af)
  refine GO (x:=.lst ([f,f-1,f+1,l,l+1].map D.int)) rfl e ?_;rw[dZ];exact qX (by rw[qf,qf,qf];simp;unfold aH;omega)
 refine AG (aB own0 ?_);cases nt with
 |false=>exact bX (cO (aB (a:=ar) rfl ⟨.(F),fun _=>dD ⟨rfl,fin _ (by simp;omega)⟩⟩))
 |true=>exact bX (cO (aB (a:=aj) rfl ⟨fun _=>xT (m:=D.int) (xs:=[f,f-1,f+1,l,l+1]++x.br.map (·.2)) q.2 rfl (by simp;omega) (aB (aA rfl rfl eB) ⟨rfl,rfl,fin _ (by simp;omega)⟩),.(F)⟩))
end
theorem BQ:∀(own:ac (ai×ah)) (a b:aq Slot),bT Xi tT (vSh 0) (own.map dW) [a,b]=aa ((own.map (·.1)).map D.str):=by
 intro xs0
 induction xs0 with
 |nil=>
  intro _ _;exact rfl
 |cons p r ih=>
  intro a b;exact(bU (lu fun y=>D.str p.1::y) (ih (oS (.str p.1)) (oS (.int p.2)))).trans rfl
noncomputable def noB:BenchT:=⟨"none",[]⟩
theorem Mn:bh noB.nm=aj:=by decide +kernel
section
variable {bs:ac BenchT} {A P:ac (Key×D)} {s:StepT} {own:ac (ai×ah)} {f m:ah}
theorem IQ (g:Good bs ss js us ls ks h) (hs:s∈ss) (hw:∀w∈own,w∈s.ws) (hnd:(own.map (·.1)).Nodup) (hl4:own.length<=4) (hno:noB.nm∉bs.map (·.nm)) (S:StP O A B P kp s (own.map (·.1)) f l nt q) :
  pZ [fcD bs ss js us ls ks h lm kp kvs O A B P,cw bs ss js us ls ks h,.int lm,.str s.nm,.tup [.int f,.int l,.lst (own.map dW)],tw .(aU)]=aa (.bl aj):=by
 refine dj ?_;unfold pZ;have hb:∀w∈own,w.1∈bs.map (·.nm):=fun w hw'=>((g.s s hs).ws w (hw w hw')).1;refine cW (cZ rfl (bp (f8 (aS (aX rfl (aS (aX rfl (aS (aB (aU .(ak) (NL g (g.s s hs).nm)) (bS ⟨by simp,?_⟩))))))))));refine bp (aB (aU (ax (aA rfl rfl (ixT _ 0)) aJ) (sW (nm:=fun b:BenchT=>b.nm) (f:=fun b=>.lst (b.br.map dIv)) (xs:=bs) (by have:=g.bl;omega) g.bn)) (kH (kH ?_)));refine bX (KG (a:=af) (b:=af) (r:=[af,af,af,af,af,af]) g hb hl4 fun a b=>⟨rfl,?_⟩);refine ff (aB (Ih g hs hw hl4 S) ?_);rw[qY qr];refine ff (aB (Lf g hs hw hl4 S) ?_);rw[qY qr];refine bX (dz (fun i ρ=>∃a13 a14 a15 a16 a b c d,ρ=rgE .(d) .(t) lm s.nm f l .(r) own .(aU) (bkD bs) (aa (.own ((own.flatMap (gY bs f l .(r) .(aU))).map D.int))) (aa (.own ((own.flatMap (gM bs f l .(r) .(aU))).map D.int))) [a13,a14,a15,a16,a,b,c,d]) (aB (a:=(bs++[noB]).map bK) ?_ ⟨⟨_,_,_,_,_,_,_,_,rfl⟩,?_,?_⟩))
 .unfold itF;rw[aA (aA rfl rfl (ixT _ 0)) rfl (lL (m:=bK) (x:=bs) (y:=[noB]) (by have:=g.bl;simp;omega))];rfl
 .rintro i y ρ hy ⟨a13,a14,a15,a16,a,b,c,d,rfl⟩;rw[qk] at hy;obtain⟨z,hz,rfl⟩:=oMd hy;rcases dA.mp (qQ hz) with hm|hm
  .exact aB rfl (zI g hs hw hnd hl4 S (g.b z hm).nm (fun _=>tf g hm) (g.b z hm).len)
  .rw[bL.mp hm];refine aB rfl (zI (x:=noB) g hs hw hnd hl4 S Mn (fun z=>?_) (fA _));obtain⟨w,h1,e⟩:=bJ.mp z;exact bA (e▸hb w h1) hno
 .rintro ρ ⟨a13,a14,a15,a16,a,b,c,d,rfl⟩;refine⟨rfl,cP (aB (aA (cU (show("open_to":ai)∉cu by decide +kernel) rfl .(D) (KB S)) (fD (ys:=(own.map (·.1)).map D.str) ?_) (Mf rfl (sG (ub zJ _)) (sG (ub zJ _)) (wp (n:=7) fun b hb'=>wV (mv g hs b (S.hw b hb'))))) ⟨_,rfl,rfl⟩)⟩;unfold aR itF;show(if (own.map dW).length<=aH then bT _ _ _ _ [af,af] else af)=_;rw[qX (by rw[qf];unfold aH;omega)];exact BQ own af af
end
noncomputable def plP (p:ai×ah):D:=.tup [.str p.1,.int p.2]
theorem DV {xs:ac D} {x:D} (h:(xs.mapIdx fun i d=>D.tup [.int (i:ah),d])[i]?=aa x):∃d,xs[i]?=aa d/\x=.tup [.int (i:ah),d]:=by rw[Fh] at h;obtain⟨d,h1,h2⟩:=oMd h;exact⟨d,h1,h2.symm⟩
theorem Ai {kvs:ac (Key×D)} {k:ai} {fv:FE} (hs:ρ[i]?=aa (aa (.odk kvs))) (hl:kvs.length<100000) (hk:fk ρ=aa (.str k)) (hv:fv ρ=aa d) (p:R (.nx,ρ.set i (aa (.odk (bW kvs (.inr k) d))))):Wp (eR i fk fv ρ) R:=by unfold eR;rw[hv,qb,hk,qb,hs];show Wp (if kvs.length<100000 then _ else _) R;rw[qX hl];exact⟨_,rfl,p⟩
section
variable {bs:ac BenchT} {s:StepT}
abbrev keE (ns:ac ah) (T:D) (kvs:ac (Key×D)) (a:aq Slot) (s:StepT) (c:ah) (es:ac ah) (r:bo):bo:=oS (.scr ns)::oS T::aa (.odk kvs)::a::oS (bw s)::oS (.int c)::oS (.lst (es.map D.int))::r
theorem QO (g:Good bs ss js us ls ks h) (hs:s∈ss) {kvs:ac (Key×D)} {a:aq Slot} {c:ah} {a10:aq Slot} :
  Wp (X6 (keE ns .(t) kvs a s c [0,1,2] [a7,a8,a9,a10])) fun r=>r.1=.nx/\∃es a7 a8 a9 a10,r.2=keE ns .(t) kvs a s c es [a7,a8,a9,a10]/\0<es.length/\es.length<=1000:=by
 obtain⟨w0,wr,hws⟩:∃w0 wr,s.ws=w0::wr:=by
  have:=(g.s s hs).l1;cases e:s.ws with
  |nil=>rw[e] at this;simp at this
  |cons x r=>exact⟨x,r,rfl⟩
 have b8:=g.bl;refine dz (fun i ρ=>i<=8/\∃es a7 a8 a9 a10,ρ=keE ns .(t) kvs a s c es [a7,a8,a9,a10]/\0<es.length/\es.length<=3+20*i) (aB (a:=bs.map bK) (show itF _ _=_ by unfold itF;rw[aA rfl rfl (ixT _ 0)];rfl) ⟨⟨by omega,_,_,_,_,_,rfl,by decide,by decide⟩,?_,?_⟩)
 .rintro i x ρ hx ⟨_,es,a7,a8,a9,a10,rfl,e0,e1⟩;rw[qk] at hx;obtain⟨b,hb,rfl⟩:=oMd hx;have hi:i<bs.length:=(df.mp hb).1;have b10:=(g.b b (qQ hb)).len;refine aB rfl (dz (fun j ρ=>∃es a7 a9 a10,ρ=keE ns .(t) kvs a s c es [a7,oS (.lst (b.br.map dIv)),a9,a10]/\0<es.length/\es.length<=3+20*i+2*j) (aB (a:=b.br.map dIv) rfl ⟨⟨_,_,_,_,rfl,e0,by omega⟩,?_,?_⟩))
  .rintro j x ρ hx ⟨es,a7,a9,a10,rfl,e0,e1⟩;rw[qk] at hx;obtain⟨p,hp,rfl⟩:=oMd hx;have hj:j<b.br.length:=(df.mp hp).1;refine aB rfl (fg (aB (aA (y:=.lst ([p.2,p.1-w0.2].map D.int)) rfl (dj (kJ (aS (aX rfl (aS (aB (aA rfl (aA (aA (aA rfl rfl fT) rfl (show ixD (.lst (s.ws.map dW)) (.int 0)=aa (dW w0) by rw[hws];exact gz _ 0)) rfl eB) rfl) (bS ⟨by simp,rfl⟩))))))) (lL (m:=D.int) (x:=es) (by simp;omega))) ⟨rfl,es++[p.2,p.1-w0.2],_,_,_,rfl,by simp,by simp;omega⟩))
  .rintro ρ ⟨es,a7,a9,a10,rfl,e0,e1⟩;rw[qf] at e1;exact⟨rfl,by omega,es,_,_,_,_,rfl,e0,by omega⟩
 .rintro ρ ⟨h8,es,a7,a8,a9,a10,rfl,e0,e1⟩;rw[qf] at e1;exact⟨rfl,es,_,_,_,_,rfl,e0,by omega⟩
end
theorem Kl:bh ("a":ai)=aj:=by decide +kernel
theorem wf {m:α->D} {xs:ac α} {n:ah} (h0:0<=n) (h1:n<xs.length):∃x∈xs,ixD (.lst (xs.map m)) (.int n)=aa (m x):=by
 obtain⟨k,rfl⟩:=oM h0;have hk:k<xs.length:=by omega
 refine⟨xs[k],oF hk,?_⟩;show ixD (.lst (xs.map m)) (.int (k:ah))=_;rw[ixL,qk,qD hk];rfl
section
variable {bs:ac BenchT} {s:StepT}
theorem QJ {f f':StepT->D} {xs:ac StepT} (h:∀x∈xs,f x=f' x):kvS f xs=kvS f' xs:=ik fun x hx=>by rw[h x hx]
theorem PK (ns:ac ah) (g:Good bs ss js us ls ks h):Wp (tO [.scr ns,cw bs ss js us ls ks h]) fun d=>∃Q:ai->ai×ah,d=.dk (kvS (fun s=>plP (Q s.nm)) ss)/\∀m,bh (Q m).1=aj:=by
 unfold tO;refine cW (cZ rfl (bX (dz (fun i ρ=>∃(Q:ai->ai×ah) (a3 a4 a5 a6 a7 a8 a9 a10:aq Slot),ρ=[oS (.scr ns),oS .(t),aa (.odk (kvS (fun s=>plP (Q s.nm)) (ss.take i))),a3,a4,a5,a6,a7,a8,a9,a10]/\∀m,bh (Q m).1=aj) (aB (a:=(ss.map bw).mapIdx fun i d=>D.tup [.int (i:ah),d]) (show itE _ _=_ by unfold itE;rw[aA rfl rfl (ixT _ 1)];rfl) ⟨⟨fun _=>("a",0),af,af,af,af,af,af,af,af,rfl,fun _=>Kl⟩,?_,?_⟩))))
 .rintro i x ρ hx ⟨Q,a3,a4,a5,a6,a7,a8,a9,a10,rfl,hQ⟩;obtain⟨d,hd,rfl⟩:=DV hx;rw[qk] at hd;obtain⟨s,hs,rfl⟩:=oMd hd;have hm:=qQ hs;have gs:=g.s s hm;obtain⟨_,ec,c,rfl⟩:=uk ns (4+i);refine aB rfl (bp (aB (aU (ax rfl (ax (aA rfl rfl rfl) aJ)) (show e9 [.scr ns,.int ((4:ah)+(i:ah))]=aa (.int c) by rw[show(4:ah)+(i:ah)=((4+i:ao):ah) by omega];exact ec)) (bp (aB (a:=.lst ([0,1,2].map D.int)) rfl (bX ((QO g hm).imp fun r ⟨e,es,b7,b8,b9,b10,er,e0,e1⟩=>⟨e,?_⟩))))));rw[er];obtain⟨d45,p0,p1⟩:=eV c (k:=45) (m:=(s.ws.length:ah)) .(f) .(f) (by have:=gs.l1;omega);obtain⟨d46,q0,q1⟩:=eV c (k:=46) (m:=(es.length:ah)) .(f) .(f) .(b);obtain⟨w,hw,ew⟩:=wf (m:=dW) p0 p1;obtain⟨n,_,en⟩:=wf (m:=D.int) q0 q1;have l1:bR [.lst (s.ws.map dW)]=aa (.int s.ws.length):=by show aa (D.int ((s.ws.map dW).length:ao))=_;rw[qf]
  have l2:bR [.lst (es.map D.int)]=aa (.int es.length):=by show aa (D.int ((es.map D.int).length:ao))=_;rw[qf]
  refine bp (aB (a:=.str w.1) (aA (aA (aA rfl rfl fT) (aU (ax rfl (ax rfl (ax (aU (ax (aA rfl rfl fT) aJ) l1) aJ))) d45) ew) rfl cb) ?_);refine Ai (k:=s.nm) (d:=plP (w.1,if n > 0 then n else 0)) rfl (kf _ g.sl.2 _) .(am) (dj (f8 (aS (aX rfl (aS (aB (aU (ax rfl (ax (aA rfl (aU (ax rfl (ax rfl (ax (aU .(D) l2) aJ))) d46) en) aJ)) rfl) (bS ⟨by simp,rfl⟩))))))) ⟨rfl,fun m=>if m=s.nm then (w.1,if n > 0 then n else 0) else Q m,oS (.int (i:ah)),oS (bw s),oS (.int c),oS (.lst (es.map D.int)),oS (.str w.1),b8,b9,b10,?_,fun m=>?_⟩
  .have e:kvS (fun s=>plP (Q s.nm)) (ss.take i)=kvS (fun t=>plP (if t.nm=s.nm then (w.1,if n > 0 then n else 0) else Q t.nm)) (ss.take i):=QJ fun t ht=>by rw[qY fun z=>t7 g.sn (i:=i) (x:=s.nm) (by rw[qk,hs];rfl) (by rw[←z,←vx];exact qW ht)]
   have e2:=ko g.sn hs fun t=>plP (if t.nm=s.nm then (w.1,if n > 0 then n else 0) else Q t.nm);rw[qX rfl] at e2;rw[←e2,←e];rfl
  .show bh (if m=s.nm then (w.1,if n > 0 then n else 0) else Q m).1=aj;by_cases z:m=s.nm
   .rw[qX z];exact g.bnn _ (gs.ws w hw).1
   .rw[qY z];exact hQ m
 .rintro ρ ⟨Q,a3,a4,a5,a6,a7,a8,a9,a10,rfl,hQ⟩;refine⟨rfl,?_⟩;rw[rL,qf,ij];exact⟨_,rfl,_,rfl,Q,rfl,hQ⟩
end
theorem wu {α:Type} [dG α]:∀{xs ys:ac α},ys.Sublist xs->xs.Nodup->xs.filter (fun x=>decide (x∈ys))=ys
 |_,_,.slnil,_=>rfl
 |_,_,.cons x (l₁:=ys) (l₂:=xs) h,nd=>by
  rw[eA] at nd;rw[j8,qY (by simpa using fun z=>nd.1 (h.subset z))];exact wu h nd.2
 |_,_,.cons_cons x (l₁:=ys) (l₂:=xs) h,nd=>by
  rw[eA] at nd;rw[j8,qX (by simp)];have e:xs.filter (fun y=>decide (y∈x::ys))=xs.filter (fun y=>decide (y∈ys)):=List.filter_congr fun y hy=>by have:y≠x:=fun z=>nd.1 (z▸hy);simp[this]
  rw[e,wu h nd.2]
theorem B7 (c:ah) (ws:ac (ai×ah)) (hw:ws.length<=100):∀(n st:ao) (a:aq Slot),st+n=ws.length->∃own:ac (ai×ah),own.Sublist (ws.drop st)/\bT (ay 0) (toB (b2 gtD (cF bz (ag (vSh 2) (ag (b2 aN (vC (.int 35)) (vSh 0)) (ag (vC (.int 5)) ak)))) .(e))) (b2 ixD (vSh 1) (vSh 0)) ((vw st n).map fun i:ao=>D.int (0+(i:ah))) [a,oS (.lst (ws.map dW)),oS (.int c)]=aa (own.map dW)
 |0,st,a,_=>⟨[],Ug _,rfl⟩
 |n+1,st,a,e=>by
  have hs:st<ws.length:=by omega
  obtain⟨own,h1,h2⟩:=B7 c ws hw n (st+1) (oS (.int (0+(st:ah)))) .(b);obtain⟨d,_,_⟩:=eV c (k:=35+(0+(st:ah))) (m:=5) .(b) .(b) .(f);have t:toB (b2 gtD (cF bz (ag (vSh 2) (ag (b2 aN (vC (.int 35)) (vSh 0)) (ag (vC (.int 5)) ak)))) .(e)) [oS (.int (0+(st:ah))),oS (.lst (ws.map dW)),oS (.int c)]=aa (decide (0<drw c (35+(0+(st:ah))) 5)):=bF (aA (aU (ax rfl (ax (aA rfl rfl rfl) .(D))) d) rfl rfl);have f:b2 ixD (vSh 1) (vSh 0) [oS (.int (0+(st:ah))),oS (.lst (ws.map dW)),oS (.int c)]=aa (dW ws[st]):=aA rfl rfl (by rw[vt,ixL,qk,qD hs];rfl)
  rw[zo,qm,nJ t,rM hs];by_cases b:0<drw c (35+(0+(st:ah))) 5
  .rw[qX (qT b),f,qb,h2];exact⟨ws[st]::own,h1.cons_cons _,rfl⟩
  .rw[qY (by simpa using b),h2];exact⟨own,h1.cons _,rfl⟩
section
variable {bs:ac BenchT} {s:StepT}
abbrev puE (fs:Fo) (T:D) (c:ah) (s:StepT) (es:ac ah) (r:bo):bo:=aa (.fo aj "Facts" fs)::oS T::oS (.int c)::oS .(bg)::oS (.lst (s.ws.map dW))::oS (.lst (es.map D.int))::r
theorem MQ (g:Good bs ss js us ls ks h) (hs:s∈ss) {fs:Fo} {c:ah} {e0 e1 e2:ah} :
  Wp (X3 (puE fs .(t) c s [e0,e1,e2] (a6::a7::a8::a9::r))) fun z=>z.1=.nx/\∃es a6 a7 a8 a9,z.2=puE fs .(t) c s es (a6::a7::a8::a9::r)/\0<es.length/\es.length<=1000:=by
 obtain⟨w0,wr,hws⟩:∃w0 wr,s.ws=w0::wr:=by
  have:=(g.s s hs).l1;cases e:s.ws with
  |nil=>rw[e] at this;simp at this
  |cons x r=>exact⟨x,r,rfl⟩
 have b8:=g.bl;refine dz (fun i ρ=>i<=8/\∃es a6 a7 a8 a9,ρ=puE fs .(t) c s es (a6::a7::a8::a9::r)/\0<es.length/\es.length<=3+40*i) (aB (a:=bs.map bK) (show itF _ _=_ by unfold itF;rw[aA rfl rfl (ixT _ 0)];rfl) ⟨⟨by omega,_,_,_,_,_,rfl,by simp,by simp⟩,?_,?_⟩)
 .rintro i x ρ hx ⟨_,es,a6,a7,a8,a9,rfl,e0,e1⟩;rw[qk] at hx;obtain⟨b,hb,rfl⟩:=oMd hx;have hi:i<bs.length:=(df.mp hb).1;have b10:=(g.b b (qQ hb)).len;refine aB rfl (dz (fun j ρ=>∃es a6 a8 a9,ρ=puE fs .(t) c s es (a6::oS (.lst (b.br.map dIv))::a8::a9::r)/\0<es.length/\es.length<=3+40*i+4*j) (aB (a:=b.br.map dIv) rfl ⟨⟨_,_,_,_,rfl,e0,by omega⟩,?_,?_⟩))
  .rintro j x ρ hx ⟨es,a6,a8,a9,rfl,e0,e1⟩;rw[qk] at hx;obtain⟨p,hp,rfl⟩:=oMd hx;have hj:j<b.br.length:=(df.mp hp).1;refine aB rfl (fg (aB (aA (y:=.lst ([p.1,p.2,p.1-w0.2,p.2+1].map D.int)) rfl (dj (kJ (aS (aX rfl (aS (aX rfl (aS (aB (aA rfl (aA (aA rfl rfl (show ixD (.lst (s.ws.map dW)) (.int 0)=aa (dW w0) by rw[hws];exact gz _ 0)) rfl eB) rfl) (aS (aB (aA rfl rfl rfl) (bS ⟨by simp,rfl⟩))))))))))) (lL (m:=D.int) (x:=es) (by simp;omega))) ⟨rfl,es++[p.1,p.2,p.1-w0.2,p.2+1],_,_,_,rfl,by simp,by simp;omega⟩))
  .rintro ρ ⟨es,a6,a8,a9,rfl,e0,e1⟩;rw[qf] at e1;exact⟨rfl,by omega,es,_,_,_,_,rfl,e0,by omega⟩
 .rintro ρ ⟨h8,es,a6,a7,a8,a9,rfl,e0,e1⟩;rw[qf] at e1;exact⟨rfl,es,_,_,_,_,rfl,e0,by omega⟩
end
theorem LZ {fs:Fo} {R:D×Fo->Prop} (h:Wp (g (aa (.fo aj c fs)::(ds.map .(X)++bM n af))) fun r=>∃d fs' ρ',r=(.rt d,aa (.fo aj c fs')::ρ')/\R (d,fs')):Wp (g9 n c g fs ds) R:=by obtain⟨r,e,d,fs',ρ',rfl,k⟩:=h;refine⟨(d,fs'),?_,k⟩;unfold g9;rw[e,qb];exact qX rfl
structure Pt (A A':ac (Key×D)) (k:ai) (n:ah):Prop where
 at':bc A' (.inr k)=aa (.int n)
 other:∀m,m≠k->bc A' (.inr m)=bc A (.inr m)
 len:A'.length<=A.length+1
theorem Pt.put (A:ac (Key×D)) (k:ai) (n:ah):Pt A (bW A (.inr k) (.int n)) k n:=⟨by rw[jO,qX rfl],fun m hm=>by rw[jO,qY fun z=>hm (hG z)],jq _ _ _⟩
theorem Pt.same {A:ac (Key×D)} {k:ai} {n:ah} (h:bc A (.inr k)=aa (.int n)):Pt A A k n:=⟨h,fun _ _=>rfl,mC _⟩
section
variable {bs:ac BenchT} {A P:ac (Key×D)} {s:StepT} {o:ac ai} {f:ah}
theorem J4 (g:Good bs ss js us ls ks h) (hs:s∈ss) (lO:O.length<100000) {c f' l':ah} {es:ac ah} :
  Wp (X1 (puE (fF .(k) O A' B' P) T c s es [a6,a7,a8,a9,oS (.int f'),oS (.int l'),a12,af])) fun r=>∃d fs' ρ',r=(.rt d,aa (.fo aj "Facts" fs')::ρ')/\∃own:ac (ai×ah),own.Sublist s.ws/\(d,fs')=(D.tup [.int f',.int l',.lst (own.map dW)],fF .(k) (bW O .(an) (.lst ((own.map (·.1)).map D.str))) A' B' P):=by
 have gs:=g.s s hs;have w4:=gs.l4;obtain⟨own,o1,o2⟩:=B7 c s.ws .(b) s.ws.length 0 af .(b);rw[oE] at o1;have l1:bR [.lst (s.ws.map dW)]=aa (.int s.ws.length):=by show aa (D.int ((s.ws.map dW).length:ao))=_;rw[qf]
 have ol:own.length<=4:=qN o1.length_le w4;refine bp (aB (fD (ys:=own.map dW) ?_) ?_)
 .unfold aR;rw[tN (ax (aU .(D) l1) aJ) (tE ⟨by omega,by omega⟩),qb,qX (by rw[qf,qV];unfold aH;omega),gO,FW];exact o2
 have hn:∀x∈own.map (·.1),bh x=aj:=fun x hx=>by obtain⟨w,h1,rfl⟩:=bJ.mp hx;exact g.bnn _ (gs.ws w (o1.subset h1)).1
 refine cZ (nQ rfl (show("set_open":ai)∉cu by decide +kernel) (ax rfl (ax (fD (ys:=(own.map (·.1)).map D.str) ?_) aJ)) (AN g hs hn lO)) ?_
 .unfold aR itF;show(if (own.map dW).length<=aH then bT _ _ _ _ [af,af] else af)=_;rw[qX (by rw[qf];unfold aH;omega)];exact BQ own af af
 rw[show(wn s).filter (fun x=>decide (x∈own.map (·.1)))=own.map (·.1) from wu (o1.map _) gs.nd];exact cP (f8 (aS (aX rfl (aS (aX rfl (aS (aX rfl (bS ⟨by simp,_,_,_,rfl,own,o1,rfl⟩))))))))
end
section
variable {bs:ac BenchT} {A P:ac (Key×D)} {s:StepT} {o:ac ai} {f:ah}
theorem Bl (c:ah) {es:ac ah} (k j:ah) (h0:0<=k) (h1:k<=900) (h2:0<=j) (h3:j<=900) (he:0<es.length) (hc:vSh 2 ρ=aa (.int c)) (hes:vSh 5 ρ=aa (.lst (es.map D.int))):∃n:ah,b2 cN (b2 aN (b2 ixD (vSh 5) (cF bz (ag (vSh 2) (ag (vC (.int k)) (ag (cF bR (ag (vSh 5) ak)) ak))))) (cF bz (ag (vSh 2) (ag (vC (.int j)) (ag .(L) ak))))) .(h) ρ=aa (.int n):=by
 obtain⟨d1,p0,p1⟩:=eV c (k:=k) (m:=(es.length:ah)) h0 .(b) .(b);obtain⟨d2,_,_⟩:=eV c (k:=j) (m:=3) h2 .(b) .(f);obtain⟨n,_,en⟩:=wf (m:=D.int) p0 p1;have l2:bR [.lst (es.map D.int)]=aa (.int es.length):=by show aa (D.int ((es.map D.int).length:ao))=_;rw[qf]
 exact⟨_,aA (aA (aA hes (aU (ax hc (ax rfl (ax (aU (ax hes aJ) l2) aJ))) d1) en) (aU (ax hc (ax rfl .(D))) d2) rfl) rfl rfl⟩
theorem IV (g:Good bs ss js us ls ks h) (hs:s∈ss) (S:StP O A B P kp s o f l nt q) (lO:O.length<100000) (lA:A.length<100000) (lB:B.length<100000) (c:ah) :
  Wp (oV .(bm) [cw bs ss js us ls ks h,.int c,.str s.nm,.lst (s.ws.map dW)]) fun z=>∃(f' l':ah) (own:ac (ai×ah)) (A' B':ac (Key×D)),own.Sublist s.ws/\Pt A A' s.nm f'/\Pt B B' s.nm l'/\z=(D.tup [.int f',.int l',.lst (own.map dW)],fF .(k) (bW O .(an) (.lst ((own.map (·.1)).map D.str))) A' B' P):=by
 unfold oV;have nm:∀{m:ai},m∉cu->∀{G:D} {O A B P:ac (Key×D)},m∉(fF G O A B P).map (·.1):=fun hm=>hm;refine LZ (bp (aB (mV (d:=.lst ([0,h,l].map D.int)) rfl (dj (kJ (aS (w_c (aS (aB (aA rfl rfl (ixT _ 6)) (aS (aB (cU (show("last_of":ai)∉cu by decide +kernel) rfl .(D) (vU S)) (bS ⟨by simp,rfl⟩))))))))) rfl) (bX ((MQ (r:=[af,af,af,af]) g hs).imp fun z ⟨e,es,a6,a7,a8,a9,er,p0,p1⟩=>⟨e,?_⟩))));rw[er];obtain⟨F0,eF⟩:=Bl c (es:=es) 30 31 .(f) .(f) .(f) .(f) p0 (ρ:=puE .(bm) .(t) c s es [a6,a7,a8,a9,af,af,af,af]) rfl rfl;obtain⟨L0,eL⟩:=Bl c (es:=es) 32 33 .(f) .(f) .(f) .(f) p0 (ρ:=puE .(bm) .(t) c s es [a6,a7,a8,a9,oS (.int F0),af,af,af]) rfl rfl;obtain⟨d34,_,_⟩:=eV c (k:=34) (m:=4) .(f) .(f) .(f);obtain⟨y,hy⟩:∃y,y=drw c 34 4:=⟨_,rfl⟩;rw[←hy] at d34;refine bp (aB eF (bp (aB eL (bp (aB (aU .(ak) d34) ?_)))));have fin:∀{f' l':ah} {A' B':ac (Key×D)},Pt A A' s.nm f'->Pt B B' s.nm l'->Wp (X1 (puE (fF .(k) O A' B' P) .(t) c s es [a6,a7,a8,a9,oS (.int f'),oS (.int l'),oS (.int y),af])) fun r=>∃d fs' ρ',r=(.rt d,aa (.fo aj "Facts" fs')::ρ')/\∃(f' l':ah) (own:ac (ai×ah)) (A' B':ac (Key×D)),own.Sublist s.ws/\Pt A A' s.nm f'/\Pt B B' s.nm l'/\(d,fs')=(D.tup [.int f',.int l',.lst (own.map dW)],fF .(k) (bW O .(an) (.lst ((own.map (·.1)).map D.str))) A' B' P):=fun h1 h2=>(J4 g hs lO).imp fun r ⟨d,fs',ρ',e,own,o1,e2⟩=>⟨d,fs',ρ',e,_,_,own,_,_,o1,h1,h2,e2⟩;by_cases y0:y=0
 .subst y0;refine bX (cO (aB (a:=aj) rfl ⟨fun _=>aB (show pd 10 11 _ _=_ by unfold pd;rw[xE (ds:=[.int f,.int l]) rfl (ax (cU (show("first_of":ai)∉cu by decide +kernel) rfl .(D) (wc S)) (ax (cU (show("last_of":ai)∉cu by decide +kernel) rfl .(D) (vU S)) aJ)) rfl];rfl) ⟨rfl,?_⟩,.(F)⟩));refine bX (cO (aB (a:=ar) rfl ⟨.(F),fun _=>dD ⟨rfl,?_⟩⟩));refine bX (cO (aB (a:=ar) rfl ⟨.(F),fun _=>dD ⟨rfl,?_⟩⟩));exact fin (.same S.hA) (.same S.hB)
 .have t0:∀{r:bo},toB (b2 eqD (vSh 12) .(e)) (puE .(bm) .(t) c s es (a6::a7::a8::a9::oS (.int F0)::oS (.int L0)::oS (.int y)::r))=aa ar:=fun {r}=>bF (aA rfl rfl (by show aa (D.bl (decide (y=0)))=_;rw[qO y0]));have t2:∀{x:ah} {r:bo},toB (b2 neD (vSh 12) .(e)) (puE .(bm) .(t) c s es (a6::a7::a8::a9::oS (.int x)::oS (.int L0)::oS (.int y)::r))=aa aj:=fun {x r}=>bF (aA rfl rfl (by show aa (D.bl (!decide (y=0)))=_;rw[qO y0];rfl));refine bX (cO (aB t0 ⟨.(F),fun _=>dD ⟨rfl,?_⟩⟩));by_cases y1:y=1
  .have t1:toB (b2 eqD (vSh 12) .(h)) (puE .(bm) .(t) c s es [a6,a7,a8,a9,oS (.int F0),oS (.int L0),oS (.int y),af])=aa aj:=bF (aA rfl rfl (by show aa (D.bl (decide (y=1)))=_;rw[qT y1]));refine bX (cO (aB t1 ⟨fun _=>fg (aB (mV (d:=.int f) rfl (cU (show("first_of":ai)∉cu by decide +kernel) rfl .(D) (wc S)) rfl) ⟨rfl,?_⟩),.(F)⟩));refine bX (cO (aB t2 ⟨fun _=>aB (nQ rfl (nm .(P)) .(ak) (vY lA lB)) ⟨rfl,?_⟩,.(F)⟩));exact fin (.put A s.nm f) (.put B s.nm L0)
  .have t1:toB (b2 eqD (vSh 12) .(h)) (puE .(bm) .(t) c s es [a6,a7,a8,a9,oS (.int F0),oS (.int L0),oS (.int y),af])=aa ar:=bF (aA rfl rfl (by show aa (D.bl (decide (y=1)))=_;rw[qO y1]));refine bX (cO (aB t1 ⟨.(F),fun _=>dD ⟨rfl,?_⟩⟩));refine bX (cO (aB t2 ⟨fun _=>aB (nQ rfl (nm .(P)) .(ak) (vY lA lB)) ⟨rfl,?_⟩,.(F)⟩));exact fin (.put A s.nm F0) (.put B s.nm L0)
end
section
variable {A P pl:ac (Key×D)} {s:StepT} {f:ah} {Q:ai->ai×ah}
noncomputable def Ps (O A B P kp pu pl:ac (Key×D)) (Q:ai->ai×ah) (ss:ac StepT) (i:ao):Prop:=∀(j:ao) s,ss[j]?=aa s->∃(own:ac (ai×ah)) (f l:ah) (nt:aP),own.Sublist s.ws/\StP O A B P kp s (own.map (·.1)) f l nt (Q s.nm)/\(j<i->bc pu .(an)=aa (.tup [.int f,.int l,.lst (own.map dW)]))/\bc pl .(an)=(if nt=aj then aa (plP (Q s.nm)) else af)/\(i<=j->nt=ar)
theorem BF (nd:(ss.map (·.nm)).Nodup) {k:ao} {t:StepT} (h1:ss[j]?=aa s) (h2:ss[k]?=aa t) (e:s.nm=t.nm):j=k:=by have key:∀{j k:ao} {s t:StepT},ss[j]?=aa s->ss[k]?=aa t->s.nm=t.nm->¬j<k:=fun {j k s t} h1 h2 e hl=>t7 nd (i:=k) (x:=t.nm) (by rw[qk,h2];rfl) (qQ (i:=j) (by rw[uU hl,qk,h1,←e];rfl));have h3:=key h1 h2 e;have h4:=key h2 h1 e.symm;omega
theorem tt {k:ai} {v:D} (h:m≠k):bc (bW A (.inr k) v) (.inr m)=bc A (.inr m):=by rw[jO,qY fun z=>h (hG z)]
theorem ud {k:ai} {v:D} :bc (bW A (.inr k) v) (.inr k)=aa v:=by rw[jO,qX rfl]
theorem Ps.put (nd:(ss.map (·.nm)).Nodup) (wl:∀s∈ss,s.ws.length<=4) (H:Ps O A B P kp pu pl Q ss i) (hs:ss[i]?=aa s) {own:ac (ai×ah)} (o1:own.Sublist s.ws) (pA:Pt A A' s.nm f) (pB:Pt B B' s.nm l) :
  Ps (bW O .(an) (.lst ((own.map (·.1)).map D.str))) A' B' P kp (bW pu .(an) (.tup [.int f,.int l,.lst (own.map dW)])) pl Q ss (i+1):=fun j t ht=>by
 obtain⟨own0,f0,l0,nt,c1,S,c2,c3,c4⟩:=H j t ht;by_cases e:t.nm=s.nm
 .have ej:j=i:=BF nd ht hs e;subst ej;rw[hs] at ht;cases ht;have hf:nt=ar:=c4 (qv _);subst hf;have w4:=wl s (qQ hs);exact⟨own,f,l,ar,o1,⟨ud,fun b hb=>by obtain⟨w,h1,rfl⟩:=bJ.mp hb;exact qW (o1.subset h1),by rw[qf];have:=o1.length_le;omega,pA.at',pB.at',S.hP,S.hK,S.hN⟩,fun _=>ud,c3,fun _=>rfl⟩
 .refine⟨own0,f0,l0,nt,c1,⟨by rw[tt e];exact S.hO,S.hw,S.hl,by rw[pA.other _ e];exact S.hA,by rw[pB.other _ e];exact S.hB,S.hP,S.hK,S.hN⟩,fun hj=>?_,c3,fun hj=>c4 .(b)⟩;rw[tt e];exact c2 (by have:j≠i:=fun z=>e (by rw[z,hs] at ht;cases ht;rfl);omega)
theorem Ps.note (nd:(ss.map (·.nm)).Nodup) (H:Ps O A B P kp pu pl Q ss (i+1)) (hs:ss[i]?=aa s):Ps O A B (bW P .(an) (.bl aj)) kp pu (bW pl .(an) (plP (Q s.nm))) Q ss (i+1):=fun j t ht=>by
 obtain⟨own0,f0,l0,nt,c1,S,c2,c3,c4⟩:=H j t ht;by_cases e:t.nm=s.nm
 .have ej:j=i:=BF nd ht hs e;subst ej;rw[hs] at ht;cases ht;exact⟨own0,f0,l0,aj,c1,⟨S.hO,S.hw,S.hl,S.hA,S.hB,by rw[ud];rfl,S.hK,S.hN⟩,c2,by rw[ud,qX rfl],fun hj=>by omega⟩
 .exact⟨own0,f0,l0,nt,c1,⟨S.hO,S.hw,S.hl,S.hA,S.hB,by rw[tt e];exact S.hP,S.hK,S.hN⟩,c2,by rw[tt e];exact c3,c4⟩
end
section
variable {bs:ac BenchT} {Q:ai->ai×ah}
theorem Ps.init (g:Good bs ss js us ls ks h) (hQ:∀m,bh (Q m).1=aj):Ps (kvS opD ss) (kvS (fun s=>.int (fi0 js s.nm)) ss) (kvS (fun s=>.int (la0 js lm h s)) ss) [] (kvS (fun s=>plP (Q s.nm)) ss) [] [] Q ss 0:=fun j s hs=>by have hm:=qQ hs;have w4:=(g.s s hm).l4;exact⟨s.ws,fi0 js s.nm,la0 js lm h s,ar,FX _,⟨gC (nm:=fun s:StepT=>s.nm) (f:=opD) g.sn hm,fun b hb=>hb,by rw[qf];omega,gC (nm:=fun s:StepT=>s.nm) (f:=fun s=>.int (fi0 js s.nm)) g.sn hm,gC (nm:=fun s:StepT=>s.nm) (f:=fun s=>.int (la0 js lm h s)) g.sn hm,rfl,gC (nm:=fun s:StepT=>s.nm) (f:=fun s=>plP (Q s.nm)) g.sn hm,hQ _⟩,fun z=>by omega,rfl,fun _=>rfl⟩
end
theorem pJ {b:aP} {fs:Fo} {t:aP} (h1:ρ[i]?=aa (aa (.fo b c fs))) (h2:ft (ρ.set i (oS (foD c fs)))=aa t):gc i ft ρ=aa t:=by unfold gc;rw[h1];exact h2
theorem KO {kvs:ac (Key×D)} {t:aP} (h1:ρ[i]?=aa (aa (.odk kvs))) (h2:ft (ρ.set i (oS (.dk kvs)))=aa t):oa i ft ρ=aa t:=by unfold oa;rw[h1];exact h2
theorem L5 {kvs:ac (Key×D)} {k:ai} (h1:ρ[i]?=aa (aa (.odk kvs))) (h2:fk ρ=aa (.str k)) (h3:bc kvs (.inr k)=aa d):m8 i fk ρ=aa d:=by unfold m8;rw[h1];show(fk ρ).bind _=_;rw[h2];exact h3
theorem G7 {kvs:ac (Key×D)} {k:ai} (h1:ρ[i]?=aa (aa (.odk kvs))) (h2:fk ρ=aa (.str k)):ny i fk ρ=aa ((bc kvs (.inr k)).getD .non):=by unfold ny;rw[h1];show(fk ρ).bind _=_;rw[h2];rfl
theorem HR:∀(own:ac (ai×ah)) (a b:aq Slot),bT Xi tT (vSh 1) (own.map dW) [a,b]=aa ((own.map (·.2)).map D.int):=by
 intro xs0
 induction xs0 with
 |nil=>
  intro _ _;exact rfl
 |cons p r ih=>
  intro a b;exact(bU (lu fun y=>D.int p.2::y) (ih (oS (.str p.1)) (oS (.int p.2)))).trans rfl
section
variable {bs:ac BenchT} {A P pl:ac (Key×D)} {s:StepT} {Q:ai->ai×ah}
abbrev maE (S0:D) (T:D) (c:ah) (h lm:ah) (kp:ac (Key×D)) (fs:Fo) (pu pl:ac (Key×D)) (r:bo):bo:=oS S0::oS (.int h)::oS T::oS (.int c)::oS (.int lm)::oS (.dk kp)::aa (.fo ar "Facts" fs)::aa (.odk pu)::aa (.odk pl)::r
theorem Ij (nt:aP) (q:ai×ah):((if nt=aj then aa (plP q) else af:aq D).getD .non)=tw .(aU):=by cases nt<;>rfl
theorem RT (g:Good bs ss js us ls ks h) (hno:noB.nm∉bs.map (·.nm)) (H:Ps O A B P kp pu pl Q ss ss.length) (hs:ss[i]?=aa s) {S0:D} {c:ah} :
  Wp (X5 (maE S0 .(t) c h lm kp .(bm) pu pl [a9,oS (bw s),a11,a12,a13,a14,a15,a16])) fun r=>r.1=.nx/\∃a9 a10 a11 a12 a13 a14 a15 a16,r.2=maE S0 .(t) c h lm kp .(bm) pu pl [a9,a10,a11,a12,a13,a14,a15,a16]:=by
 have hm:=qQ hs;have gs:=g.s s hm;obtain⟨own,f,l,nt,o1,S,c2,c3,_⟩:=H i s hs;have hpu:=c2 (df.mp hs).1;have ol:own.length<=4:=qN o1.length_le gs.l4;have hw:∀w∈own,w∈s.ws:=fun w hw=>o1.subset hw;have hnd:(own.map (·.1)).Nodup:=oK (o1.map _) gs.nd;have eln:(own.map (·.1)).map (lnO s)=own.map (·.2):=by rw[qo];exact ik fun w h1=>ph gs.nd (hw w h1)
 refine cZ (show lJ _ _ _=_ by unfold lJ;rw[L5 rfl .(am) hpu];rfl) (bp (aB (G7 rfl .(am)) ?_));rw[c3,Ij];refine ff (aB (a:=ar) (KO rfl (pJ rfl (i7 (b:=aj) (bF (aU (ax rfl (ax rfl (ax rfl (ax .(am) (ax (aA rfl .(am) (show((aa (bc pu .(an))).bind id)=_ by rw[hpu];rfl)) .(D)))))) (IQ g hm hw hnd ol hno S)))))) ?_);rw[qY qr];refine ff (aB (a:=ar) (pJ rfl (i7 (b:=aj) (bF (aU (ax (cU (show("first_of":ai)∉cu by decide +kernel) rfl (ax .(am) aJ) (wc S)) .(D)) ((sQ f f).trans (by rw[qT rfl])))))) ?_);rw[qY qr];refine ff (aB (a:=ar) (pJ rfl (i7 (b:=aj) (bF (aU (ax (cU (show("last_of":ai)∉cu by decide +kernel) rfl (ax .(am) aJ) (vU S)) .(D)) ((sQ l l).trans (by rw[qT rfl])))))) ?_);rw[qY qr];refine bp (aB (fD (ys:=(own.map (·.2)).map D.int) ?_) ?_)
 .unfold aR itF;show(if (own.map dW).length<=aH then bT _ _ _ _ [af,af] else af)=_;rw[qX (by rw[qf];unfold aH;omega)];exact HR own af af
 have len:(own.map (·.2)).length<64:=by rw[qf];omega
 refine ff (aB (a:=ar) (pJ rfl (i7 (b:=aj) (bF (aU (ax (cU (show("least_of":ai)∉cu by decide +kernel) rfl (ax .(am) aJ) (Qo g hm S)) (ax (l5 (aU .(D) (t8 len)) rfl rfl (tY _)) aJ)) (dj (sx _ _ (by rw[tH,eln]))))))) ?_);rw[qY qr];refine cO (aB (a:=ar) (pJ rfl (i7 (b:=aj) (bF (aU (ax (cU (show("greatest_of":ai)∉cu by decide +kernel) rfl (ax .(am) aJ) (Jt g hm S)) (ax (l5 (pP (aU .(D) (t8 len)) (DC _)) rfl rfl (tY _)) aJ)) (dj (sx _ _ (by rw[tH,eln]))))))) ⟨.(F),fun _=>dD ⟨rfl,_,_,_,_,_,_,_,_,rfl⟩⟩)
end
theorem MF {F:Fo->ac D->aq (D×Fo)} {b:aP} {fs:Fo} {kvs:ac (Key×D)} {k:ai} (h1:ρ[i]?=aa (aa (.fo b c fs))) (h2:fr ρ=aa ds) (h3:F fs ds=aa (d,fs')) (h4:fk (ρ.set i (aa (.fo b c fs')))=aa (.str k)) (h5:(ρ.set i (aa (.fo b c fs')))[j]?=aa (aa (.odk kvs))) (hl:kvs.length<100000):nF c j i F fk fr ρ=aa (.nx,(ρ.set i (aa (.fo b c fs'))).set j (aa (.odk (bW kvs (.inr k) d)))):=by unfold nF;rw[h1];show(if c=c then _ else af)=_;rw[qX rfl,h2,qb,h3,qb,h4,qb,h5];show(if kvs.length<100000 then _ else af)=_;rw[qX hl]
theorem Hl:∀(os:ac (aq ah)) (a:aq Slot),bT (ay 0) (fK (toB (b2 e6 (vSh 0) (vC .non))) (aY (toB (cF g8 (ag (vSh 0) .(ac)))))) (vSh 0) (os.map cC) [a]=aa []:=by
 intro xs0
 induction xs0 with
 |nil=>
  intro _;exact rfl
 |cons o r ih=>
  intro a;have ih:=ih (oS (cC o));have t:fK (toB (b2 e6 (vSh 0) (vC .non))) (aY (toB (cF g8 (ag (vSh 0) .(ac))))) [oS (cC o)]=aa ar:=by
   cases o with
   |none=>rfl
   |some n=>
    have e:aY (toB (cF g8 (ag (vSh 0) .(ac)))) [oS (.int n)]=aa ar:=i7 (b:=aj) (bF (aU (ax rfl .(D)) ((sQ n n).trans (by rw[qT rfl]))));exact e
  rw[qm,nJ t];exact ih
theorem z8:∀os:ac (aq ah),ge (os.map cC)=aj:=by
 intro xs0
 induction xs0 with
 |nil=>
  exact rfl
 |cons o r ih=>
  show(plD (cC o) && ge (r.map cC))=aj;rw[ih];cases o<;>rfl
section
variable {bs:ac BenchT} {A P pl:ac (Key×D)} {s:StepT} {Q:ai->ai×ah}
theorem D6 (g:Good bs ss js us ls ks h) (hs:s∈ss) {o:ac ai} {f:ah} (S:StP O A B P kp s o f l nt q):∃x y:aq ah,jL [fcD bs ss js us ls ks h lm kp kvs O A B P,.str s.nm]=aa (cC x)/\jQ [fcD bs ss js us ls ks h lm kp kvs O A B P,.str s.nm]=aa (cC y):=⟨_,_,Ef g hs S,Ct g hs S⟩
theorem Hk (ns:ac ah) (g:Good bs ss js us ls ks h) (H:Ps O A B P kp pu pl Q ss i) (hs:ss[i]?=aa s) (n1:O.length<=1000+i) (n2:A.length<=1000+i) (n3:B.length<=1000+i) (n4:P.length<=1000+i) (n5:pu.length<=1000+i) (n6:pl.length<=1000+i) {c:ah} :
  Wp (X2 (maE (.scr ns) .(t) c h lm kp .(bm) pu pl [oS (.int (i:ah)),oS (bw s),a11,a12,a13,a14,a15,a16])) fun r=>r.1=.nx/\∃c O A B P pu pl a9 a10 a11 a12 a13 a14 a15 a16,r.2=maE (.scr ns) .(t) c h lm kp .(bm) pu pl [a9,a10,a11,a12,a13,a14,a15,a16]/\Ps O A B P kp pu pl Q ss (i+1)/\O.length<=1000+(i+1)/\A.length<=1000+(i+1)/\B.length<=1000+(i+1)/\P.length<=1000+(i+1)/\pu.length<=1000+(i+1)/\pl.length<=1000+(i+1):=by
 have hm:=qQ hs;have hi:i<ss.length:=(df.mp hs).1;have s40:=g.sl.2;have gs:=g.s s hm;obtain⟨own0,f0,l0,nt0,_,S0,_,_,_⟩:=H i s hs;obtain⟨_,ec,c1,rfl⟩:=uk ns (4+i);obtain⟨x1,y1,q1,q2⟩:=D6 (lm:=lm) (kvs:=kvs) g hm S0;obtain⟨⟨d,fs'⟩,eF,f',l',own,A',B',o1,pA,pB,ez⟩:=IV (lm:=lm) (kvs:=kvs) g hm S0 .(b) .(b) .(b) c1;cases ez;have H1:=H.put g.sn (fun s hs=>(g.s s hs).l4) hs o1 pA pB;obtain⟨own2,f2,l2,nt2,_,S2,_,_,_⟩:=H1 i s hs;obtain⟨x2,y2,q3,q4⟩:=D6 (lm:=lm) (kvs:=kvs) g hm S2;have w1:=jq O .(an) (.lst ((own.map (·.1)).map D.str));have w2:=jq pu .(an) (D.tup [.int f',.int l',.lst (own.map dW)]);have w3:=pA.len;have w4:=pB.len;refine bp (aB (aU (ax rfl (ax (aA rfl rfl rfl) aJ)) (show e9 [.scr ns,.int ((4:ah)+(i:ah))]=aa (.int c1) by rw[show(4:ah)+(i:ah)=((4+i:ao):ah) by omega];exact ec)) (bp (aB (mV (d:=.lst ([x1,y1].map cC)) rfl (dj (kJ (aS (aB (cU (show("least_start":ai)∉cu by decide +kernel) rfl (ax .(am) aJ) q1) (aS (aB (cU (show("greatest_start":ai)∉cu by decide +kernel) rfl (ax .(am) aJ) q2) (bS ⟨by simp,rfl⟩))))))) (z8 _)) ?_)));refine cZ (MF (k:=s.nm) (kvs:=pu) rfl (ax rfl (ax rfl (ax .(am) (ax (aA rfl rfl fT) aJ)))) eF .(am) rfl .(b)) ?_;refine bp (aB (mV (d:=.lst (([x1,y1]++[x2,y2]).map cC)) rfl (aA rfl (dj (kJ (aS (aB (cU (show("least_start":ai)∉cu by decide +kernel) rfl (ax .(am) aJ) q3) (aS (aB (cU (show("greatest_start":ai)∉cu by decide +kernel) rfl (ax .(am) aJ) q4) (bS ⟨by simp,rfl⟩))))))) (lL (m:=cC) (x:=[x1,y1]) (y:=[x2,y2]) (by simp))) (z8 _)) ?_);refine ff (aB (a:=ar) (bF (aA (fD (ys:=[]) ?_) rfl ((BH (ns:=[]) fun _ z=>nomatch z).trans rfl))) ?_)
 .unfold aR itF;show(if (([x1,y1]++[x2,y2]).map cC).length<=aH then bT _ _ _ (([x1,y1]++[x2,y2]).map cC) [af] else af)=_;rw[qX (by simp[aH])];exact Hl _ af
 rw[qY qr];obtain⟨d47,_,_⟩:=eV c1 (k:=47) (m:=3) .(f) .(f) .(f);refine cO (aB (a:=decide (drw c1 47 3=1)) (bF (aA (aU .(ak) d47) rfl rfl)) ⟨fun _=>?_,fun _=>?_⟩)
 .have w5:=jq P .(an) (.bl aj);have w6:=jq pl .(an) (plP (Q s.nm));refine cZ (nQ rfl (show("put_note":ai)∉cu by decide +kernel) (ax .(am) aJ) (Nr .(b))) ?_;refine Ai (k:=s.nm) (d:=plP (Q s.nm)) rfl .(b) .(am) (aA rfl .(am) (show((aa (bc kp .(an))).bind id)=_ by rw[S0.hK];rfl)) ⟨rfl,c1,_,_,_,_,_,_,_,_,_,_,_,_,_,_,rfl,H1.note g.sn hs,by omega,by omega,by omega,by omega,by omega,by omega⟩
 .exact dD ⟨rfl,c1,_,_,_,_,_,_,_,_,_,_,_,_,_,_,rfl,H1,by omega,by omega,by omega,by omega,by omega,by omega⟩
end
theorem GD {F:ac D->aq Fo} {dd:ac D} {fs:Fo} (h1:fr ρ=aa ds) (h2:F (ds++dd)=aa fs):oO c j F dd fr ρ=aa (.nx,ρ.set j (aa (.fo ar c fs))):=by unfold oO;rw[h1,qb,h2];rfl
theorem NI (ns:ac ah) (hns:ns.length<=63):tM [.scr ns]=aa (.bl aj):=by
 obtain⟨_,e,rfl⟩:Wp (tM [.scr ns]) fun d=>d=.bl aj:=by
  unfold tM vH;obtain⟨_,eh,h,rfl,hh⟩:=Oy ns;obtain⟨_,el,bs,ss,js,us,ls,ks,rfl,g,s40,j3,hno⟩:=Mp ns hns hh;obtain⟨_,ec,c,rfl⟩:=uk ns 0;obtain⟨d84,_,_⟩:=eV c (k:=84) (m:=h / 3+1) .(f) .(f) .(b);obtain⟨_,ek,Q,rfl,hQ⟩:=PK ns g;have ml:(js.flatMap (·.ms)).length<=300:=by
   have:=xM (f:=fun j:JobT=>j.ms) (m:=40) (l:=js) fun j hj=>by have:=(g.j j hj).ln;rw[qf] at this;omega
   omega
  refine cW (bp (aB (aU .(D) eh) (bp (aB (aU .(ak) el) (bp (aB (aU (ax rfl .(D)) ec) ?_))))));refine bp (aB (a:=.int (h-drw c 84 (h / 3+1))) (aA rfl (aU (ax rfl (ax rfl (ax (aA (aA rfl rfl (show iO (.int h) (.int 3)=aa (.int (h / 3)) from dj (tD .(f) rfl))) rfl rfl) aJ))) d84) rfl) (bp (aB (aU (ax rfl .(D)) ek) ?_)));obtain⟨lm,hlm⟩:∃lm,lm=h-drw c 84 (h / 3+1):=⟨_,rfl⟩;rw[←hlm];obtain⟨_,e4,kvs,rfl,k4⟩:=O8 (lm:=lm) (kp:=kvS (fun s=>plP (Q s.nm)) ss) g;have kl:∀f:StepT->D,(kvS f ss).length<=1000:=fun f=>by unfold kvS;rw[qf];omega
  refine cZ (GD (ax (aU .(D) (PD g ml)) .(ak)) e4) (cZ rfl (cZ rfl ?_));refine bX (dz (fun i ρ=>∃c O A B P pu pl a9 a10 a11 a12 a13 a14 a15 a16,ρ=maE (.scr ns) .(t) c h lm (kvS (fun s=>plP (Q s.nm)) ss) (fF (gD bs ss js us ls ks h lm (kvS (fun s=>plP (Q s.nm)) ss) kvs) O A B P) pu pl [a9,a10,a11,a12,a13,a14,a15,a16]/\Ps O A B P (kvS (fun s=>plP (Q s.nm)) ss) pu pl Q ss i/\O.length<=1000+i/\A.length<=1000+i/\B.length<=1000+i/\P.length<=1000+i/\pu.length<=1000+i/\pl.length<=1000+i) (aB (a:=(ss.map bw).mapIdx fun i d=>D.tup [.int (i:ah),d]) (show itE _ _=_ by unfold itE;rw[aA rfl rfl (ixT _ 1)];rfl) ⟨⟨c,_,_,_,_,_,_,af,af,af,af,af,af,af,af,rfl,Ps.init g hQ,kl _,kl _,kl _,fA _,fA _,fA _⟩,?_,?_⟩))
  .rintro i x ρ hx ⟨c,O,A,B,P,pu,pl,a9,a10,a11,a12,a13,a14,a15,a16,rfl,H,n1,n2,n3,n4,n5,n6⟩;obtain⟨d,hd,rfl⟩:=DV hx;rw[qk] at hd;obtain⟨s,hs,rfl⟩:=oMd hd;exact aB rfl (Hk ns g H hs n1 n2 n3 n4 n5 n6)
  rintro ρ ⟨c,O,A,B,P,pu,pl,a9,a10,a11,a12,a13,a14,a15,a16,rfl,H,_⟩;rw[rL,qf] at H;refine⟨rfl,bX (dz (fun i ρ=>∃a9 a10 a11 a12 a13 a14 a15 a16,ρ=maE (.scr ns) .(t) c h lm (kvS (fun s=>plP (Q s.nm)) ss) (fF (gD bs ss js us ls ks h lm (kvS (fun s=>plP (Q s.nm)) ss) kvs) O A B P) pu pl [a9,a10,a11,a12,a13,a14,a15,a16]) (dM (aB (aA rfl rfl (ixT _ 1)) (aB rfl ⟨⟨_,_,_,_,_,_,_,_,rfl⟩,?_,?_⟩))))⟩
  .rintro i x ρ hx ⟨a9,a10,a11,a12,a13,a14,a15,a16,rfl⟩;rw[qk] at hx;obtain⟨s,hs,rfl⟩:=oMd hx;exact aB rfl (RT g hno H hs)
  rintro ρ ⟨a9,a10,a11,a12,a13,a14,a15,a16,rfl⟩;exact⟨rfl,cP (aB rfl ⟨_,rfl,rfl⟩)⟩
 exact e
def wF (K:aW):Sp:=fun vs H Q _=>∃(a:au) (ns:ac ah),vs=[.ref a]/\SqL K H a (ns.map V.int)/\ns.length<=63/\∀H',Q (.bl aj) H'
theorem all_mk {l:Fd} {h:Heap} {fa:au} (X:K.In h) (G:h.Ns eX mg) (hfa:mg "law"=aa (.ref fa))
  (aC_Facts:rN K eX "Facts"=aa (aa (.ref C_Facts)))
  (aC_Grounds:rN K eX "Grounds"=aa (aa (.ref C_Grounds)))
  (aC_Shop:rN K eX "Shop"=aa (aa (.ref C_Shop)))
  (pg_Facts:oo K C_Facts uR=aj) (hd_Facts:rz K C_Facts=aj) (po_Facts:uQ K C_Facts=aj) (sa_Facts:ce K (.ref C_Facts) "__setattr__"=aa (aa (.builtin "object.__setattr__"))) (mk_Facts:rA K C_Facts=aj) (kc_Facts:fP K (.ref C_Facts)=aj)
  (n0_Facts:ce K (.ref C_Facts) "grounds"=aa af)
  (n1_Facts:ce K (.ref C_Facts) "open_benches"=aa af)
  (n2_Facts:ce K (.ref C_Facts) "firsts"=aa af)
  (n3_Facts:ce K (.ref C_Facts) "lasts"=aa af)
  (n4_Facts:ce K (.ref C_Facts) "put_pairs"=aa af)
  (n5_Facts:ce K (.ref C_Facts) "notes"=aa af)
  (pg_Grounds:oo K C_Grounds uR=aj) (hd_Grounds:rz K C_Grounds=aj) (po_Grounds:uQ K C_Grounds=aj) (sa_Grounds:ce K (.ref C_Grounds) "__setattr__"=aa (aa (.builtin "object.__setattr__"))) (mk_Grounds:rA K C_Grounds=aj) (kc_Grounds:fP K (.ref C_Grounds)=aj)
  (n0_Grounds:ce K (.ref C_Grounds) "told_shop"=aa af)
  (n1_Grounds:ce K (.ref C_Grounds) "kept_plan"=aa af)
  (n2_Grounds:ce K (.ref C_Grounds) "kept_most"=aa af)
  (n3_Grounds:ce K (.ref C_Grounds) "lengths"=aa af)
  (n4_Grounds:ce K (.ref C_Grounds) "job_names"=aa af)
  (n5_Grounds:ce K (.ref C_Grounds) "early_moments"=aa af)
  (n6_Grounds:ce K (.ref C_Grounds) "end_marks"=aa af)
  (n7_Grounds:ce K (.ref C_Grounds) "breaks"=aa af)
  (n8_Grounds:ce K (.ref C_Grounds) "known_gaps"=aa af)
  (pg_Shop:oo K C_Shop uR=aj) (hd_Shop:rz K C_Shop=aj) (po_Shop:uQ K C_Shop=aj) (sa_Shop:ce K (.ref C_Shop) "__setattr__"=aa (aa (.builtin "object.__setattr__"))) (mk_Shop:rA K C_Shop=aj) (kc_Shop:fP K (.ref C_Shop)=aj)
  (n0_Shop:ce K (.ref C_Shop) "benches"=aa af)
  (n1_Shop:ce K (.ref C_Shop) "steps"=aa af)
  (n2_Shop:ce K (.ref C_Shop) "jobs"=aa af)
  (n3_Shop:ce K (.ref C_Shop) "setups"=aa af)
  (n4_Shop:ce K (.ref C_Shop) "links"=aa af)
  (n5_Shop:ce K (.ref C_Shop) "stocks"=aa af)
  (n6_Shop:ce K (.ref C_Shop) "horizon"=aa af)
  (n7_Shop:ce K (.ref C_Shop) "bench_by_name"=aa af)
  (n8_Shop:ce K (.ref C_Shop) "step_by_name"=aa af)
  (n9_Shop:ce K (.ref C_Shop) "setup_by_names"=aa af)
  (n10_Shop:ce K (.ref C_Shop) "job_by_step"=aa af)
  (a85:rN K eX "law"=aa (aa (.ref f85))) (l85:K.lookup f85=aa ⟨oc85,od85,.func (dS "law" "law" (dU (top 82)) (cv (top 82)) (aG (top 82)) .none kV85 dc85 pm85 an85 cd85 ct85),sl85⟩) (c85:mI K cd85 "law"=aj) (k85:fP K (.ref f85)=aj)
  (V:Vd K mg C_Facts C_Grounds C_Shop)
 : ∃fd:lg,(∀(s:aI) (v:av),rC s fd ⟨[v],[]⟩ [("_law_script",v)])/\∀base:Heap,K.In base->base.Ns eX mg->FnOk l.prog w K mg base CX0 16 fa fd ["_law_script"] (wF K):=by
 have e:=hfa.symm.trans (rO X G a85);have e2:=Value.ref.inj (qH e);subst e2;have O_Facts:ClsOk .(a) K mg "Facts" C_Facts:=⟨by unfold Gam;rfl,⟨pg_Facts,hd_Facts,po_Facts,sa_Facts⟩,rO X G aC_Facts,mk_Facts,kc_Facts⟩;have cf_Facts:CF .(a) K "Facts" cu:=O_Facts.cf (dv.mpr ⟨n0_Facts,(dv.mpr ⟨n1_Facts,(dv.mpr ⟨n2_Facts,(dv.mpr ⟨n3_Facts,(dv.mpr ⟨n4_Facts,(dv.mpr ⟨n5_Facts,(F2 _)⟩)⟩)⟩)⟩)⟩)⟩);have O_Grounds:ClsOk .(a) K mg "Grounds" C_Grounds:=⟨by unfold Gam;rfl,⟨pg_Grounds,hd_Grounds,po_Grounds,sa_Grounds⟩,rO X G aC_Grounds,mk_Grounds,kc_Grounds⟩;have cf_Grounds:CF .(a) K "Grounds" wK:=O_Grounds.cf (dv.mpr ⟨n0_Grounds,(dv.mpr ⟨n1_Grounds,(dv.mpr ⟨n2_Grounds,(dv.mpr ⟨n3_Grounds,(dv.mpr ⟨n4_Grounds,(dv.mpr ⟨n5_Grounds,(dv.mpr ⟨n6_Grounds,(dv.mpr ⟨n7_Grounds,(dv.mpr ⟨n8_Grounds,(F2 _)⟩)⟩)⟩)⟩)⟩)⟩)⟩)⟩)⟩);have O_Shop:ClsOk .(a) K mg "Shop" C_Shop:=⟨by unfold Gam;rfl,⟨pg_Shop,hd_Shop,po_Shop,sa_Shop⟩,rO X G aC_Shop,mk_Shop,kc_Shop⟩;have cf_Shop:CF .(a) K "Shop" B5:=O_Shop.cf (dv.mpr ⟨n0_Shop,(dv.mpr ⟨n1_Shop,(dv.mpr ⟨n2_Shop,(dv.mpr ⟨n3_Shop,(dv.mpr ⟨n4_Shop,(dv.mpr ⟨n5_Shop,(dv.mpr ⟨n6_Shop,(dv.mpr ⟨n7_Shop,(dv.mpr ⟨n8_Shop,(dv.mpr ⟨n9_Shop,(dv.mpr ⟨n10_Shop,(F2 _)⟩)⟩)⟩)⟩)⟩)⟩)⟩)⟩)⟩)⟩)⟩);have V:Vw K mg C_Facts C_Grounds C_Shop:={V with O_Facts,cf_Facts,O_Grounds,cf_Grounds,O_Shop,cf_Shop};refine⟨dS "law" "law" (dU (top 82)) (cv (top 82)) (aG (top 82)) .none kV85 dc85 pm85 an85 cd85 ct85,fun s v=>.of_eq rfl,fun base _ _=>?_⟩;have FL:=wk (st:=top 82) l85 c85 k85;have ok:FnOk l.prog w K mg base CX0 16 fa _ ["_law_script"] (spF .(a) K 1 tM):=FL.okD (k:=15) kN (ND V fa);refine ok.imp fun vs H Q E hq=>?_;obtain⟨a,ns,rfl,hS,hlen,k⟩:=hq;exact⟨H,[.scr ns],.bl aj,ba.refl H,.cons (.scr hS) .nil,rfl,NI ns hlen,fun v G' H' _ r=>by rw[r.bl_inv];exact k H'⟩
theorem walk {l:Fd} {q:dF} {d:DefRec} {K:yH->aW} (hn:l.most=aa 63) (hdf:d.params.defaults=[])
  (hY:∀(w:cL) (h:Heap),YP w h->(K w.params).In h)
  (F:∀(w:cL) (mg:ai->aq av) (fa:au) (h:Heap),(K w.params).In h->h.Ns eX mg->mg d.name=aa (.ref fa)->
   ∃fd:lg,(∀(s:aI) (u:av),rC s fd ⟨[u],[]⟩ [("_law_script",u)])/\∀base:Heap,(K w.params).In base->base.Ns eX mg->FnOk l.prog w (K w.params) mg base CX0 16 fa fd ["_law_script"] (wF (K w.params))) :
  S1 q loose XP YP l.row.toRowW d [] (fun f vs=>Fc f vs):=
 L2.walk_of (n:=63) (k:=16) (x:="_law_script") (CX:=fun _=>CX0) (sp:=fun w=>wF (K w.params)) hn .(f) hdf ⟨rfl,by decide,by decide⟩ hY F (fun _ _ a ns hl _ hS=>⟨a,ns,rfl,hS,hl,fun _=>rfl⟩) fun _ _ _ _ _ z=>z
end Law
end L2
noncomputable def Zq:=()
namespace PySem.W.Fast
def tw12492595753865214194:=Zq
def tw5475949175005804799:=Zq
def tw16639028454782373912:=Zq
def tw1133872457504361270:=Zq
def tw13653106502282307239:=Zq
def tw1712901125240533159:=Zq
def tw322636288524406874:=Zq
def tw12159508667521188741:=Zq
def tw2761420841371738451:=Zq
def tw5813599913519811776:=Zq
def tw11300290935426373728:=Zq
def tw7543451241996542059:=Zq
def tw7855395197364973251:=Zq
def tw12374267871917602198:=Zq
def tw12209817664880491400:=Zq
def tw17914752859417513751:=Zq
def tw11820640666526990493:=Zq
def tw12610378308193901330:=Zq
def tw15610681622759905963:=Zq
def tw4807228805368578610:=Zq
def tw8803272291877113831:=Zq
def tw1112606247207097593:=Zq
def tw18004778544531606718:=Zq
def tw16730641932127593187:=Zq
def tw18292036569999626202:=Zq
def tw18320338821344934984:=Zq
def tw9907550247568282736:=Zq
def tw3634673053158127692:=Zq
def tw4012876167679072918:=Zq
def tw9116215449751964117:=Zq
def tw12781245061939181012:=Zq
def tw8097458231563285448:=Zq
def tw5919803871664827919:=Zq
def tw14567103378134106286:=Zq
def tw17267447896111971548:=Zq
def tw11633288936059618963:=Zq
def tw16469540639739022823:=Zq
def tw16819806689280835210:=Zq
def tw17468751108652076749:=Zq
def tw9509526552877856181:=Zq
def tw16458744024985057739:=Zq
def tw6106741165744370340:=Zq
def tw3938186008915172675:=Zq
def tw9004470264482825952:=Zq
def tw14140362277916976202:=Zq
def tw13188831761233751320:=Zq
def tw2685119937051497058:=Zq
def tw8684595033510254090:=Zq
def tw3483240014418975814:=Zq
def tw10803314579734548769:=Zq
def tw5164573276390112153:=Zq
def tw16641304130210597624:=Zq
def tw16896583826514245652:=Zq
def tw18299956191009556180:=Zq
def tw14698861138600644935:=Zq
def tw6956543482790571204:=Zq
def tw18234507981372666606:=Zq
def tw3676706664944749566:=Zq
def tw14311533807924621265:=Zq
def tw13953347350160923794:=Zq
def tw2151134729995350923:=Zq
def tw7953997341056010858:=Zq
def tw15575883830549660579:=Zq
def tw10366649820672481942:=Zq
def tw228684557621866234:=Zq
def tw14419300975710654862:=Zq
def tw12080035918419390300:=Zq
def tw10920541663961569535:=Zq
def tw14351629974173930913:=Zq
def tw3231922553423528964:=Zq
def tw12938171364535076100:=Zq
def tw15217597232433671711:=Zq
def tw15757376259253954533:=Zq
def tw2349856941955431037:=Zq
def tw585351066934389439:=Zq
def tw5477733479934795000:=Zq
def tw11638891534921294968:=Zq
def tw3207067887227209695:=Zq
def tw3341629414309254539:=Zq
def tw14435590419803136620:=Zq
def tw4843431146017460431:=Zq
def tw67317606098266326:=Zq
def tw2860961081917603942:=Zq
def tw15059405631205725512:=Zq
def tw15912334119997872989:=Zq
def tw10755275437244140249:=Zq
def tw13298969993019912928:=Zq
def tw569541138306400566:=Zq
def tw13848276157241640997:=Zq
def tw6881798672191756976:=Zq
def tw1263219008403453508:=Zq
def tw12469777560533563543:=Zq
def tw7876276686851357767:=Zq
def tw11503377093685142501:=Zq
def tw3284575762031330424:=Zq
def tw1868625961760900461:=Zq
def tw10151342895248070687:=Zq
def tw9175980016574863315:=Zq
def tw17132224559267112386:=Zq
def tw2785768354172367762:=Zq
def tw16979602068438626025:=Zq
def tw8350697221265593050:=Zq
def tw4248098523904182209:=Zq
def tw18301252476099210330:=Zq
def tw15147074951085982533:=Zq
def tw11590652804878879801:=Zq
def tw118031456832767584:=Zq
def tw6162652627231366273:=Zq
def tw15829910545199172894:=Zq
def tw5482723630034296424:=Zq
def tw1841831295603388525:=Zq
def tw4411452818058191131:=Zq
def tw6829674956360420767:=Zq
def tw8215405577992612074:=Zq
def tw18381267506174156728:=Zq
def tw2010264204860133492:=Zq
def tw5976408580526529224:=Zq
def tw37789376763437420:=Zq
def tw5932123803599821216:=Zq
def tw13202587875421369962:=Zq
def tw8015435630875736769:=Zq
def tw8018336026438023787:=Zq
def tw7064346195606212794:=Zq
def tw7434901461830190882:=Zq
def tw7855413568428577780:=Zq
def tw17745520711483694049:=Zq
def tw12700325833739109643:=Zq
def tw16441487091995577258:=Zq
def tw1966173896700738044:=Zq
def tw7417945577909847911:=Zq
def tw5920861180366601618:=Zq
def tw17462941480919924701:=Zq
def tw9446312301736013574:=Zq
def tw9894561104201347635:=Zq
def tw8991261286551950838:=Zq
def tw13077596918122585322:=Zq
def tw1606324385972979744:=Zq
def tw3495510297658898712:=Zq
def tw14268239629780456020:=Zq
def tw3868675685432242781:=Zq
def tw16347380179806336707:=Zq
def tw18238819441537274113:=Zq
def tw1799206211340513827:=Zq
def tw17989644329207902029:=Zq
def tw6206442788270699599:=Zq
def tw2050198571299777978:=Zq
def tw1473548792267922814:=Zq
def tw15213442022072134348:=Zq
def tw12533675173705436448:=Zq
def tw10417903952803905257:=Zq
def tw17727445474598456609:=Zq
def tw10502593016917811867:=Zq
def tw13999705518116394808:=Zq
def tw14840553459030941274:=Zq
def tw15336505111812495496:=Zq
def tw106380063521447808:=Zq
def tw4205294930489381882:=Zq
def tw6478106085298908783:=Zq
def tw1604631947600827789:=Zq
def tw5737033836481146847:=Zq
def tw5877164887838595625:=Zq
def tw16365786851678177424:=Zq
def tw10514508404522377167:=Zq
def tw10184987772597369213:=Zq
def tw8514128012085762440:=Zq
def tw6409910707875719451:=Zq
def tw14385934047809652843:=Zq
def tw1429648941103814924:=Zq
def tw10773675556996442454:=Zq
def tw10051938542501842578:=Zq
def tw13824143414439271217:=Zq
def tw3555634083547167004:=Zq
def tw10825099943223144996:=Zq
def tw1637410369623761019:=Zq
def tw13963050923888545952:=Zq
def tw3724575873007833338:=Zq
def tw16229436034488357095:=Zq
def tw11780557961922977154:=Zq
def tw17175942018980261949:=Zq
def tw3936695088498089008:=Zq
def tw15067418768031667589:=Zq
def tw11271757448965345039:=Zq
def tw7428446276790990066:=Zq
def tw6039829119195894506:=Zq
def tw8193172700965899134:=Zq
def tw10628798468925510302:=Zq
def tw3065303130082454856:=Zq
def tw1368340095162855916:=Zq
def tw5540259878670550638:=Zq
def tw10615464862469854797:=Zq
def tw2710802127033456035:=Zq
def tw15370432386382444959:=Zq
def tw6157107668684198242:=Zq
def tw5852025530328161054:=Zq
def tw5155249488362283440:=Zq
def tw5666638432531023303:=Zq
def tw6151166001407783836:=Zq
def tw13702988668403641375:=Zq
def tw8228913472723836588:=Zq
def tw14162490808085455710:=Zq
def tw14904993471164695165:=Zq
def tw2372836909437133796:=Zq
def tw863983558054492834:=Zq
def tw1308003198453317981:=Zq
def tw109352948638736301:=Zq
def tw12557333202686284819:=Zq
def tw16832161278926427855:=Zq
def tw10816380169544570806:=Zq
def tw3830183275186042858:=Zq
def tw8919801700063526814:=Zq
def tw15021209752050127524:=Zq
def tw8598829981036974562:=Zq
def tw3318815202799863077:=Zq
def tw8883151945194546128:=Zq
def tw2630060857283773675:=Zq
def tw13365133819012283384:=Zq
def tw1648889117424490944:=Zq
def tw3491619375304149051:=Zq
def tw3858364838240557666:=Zq
def tw3383204489738720230:=Zq
def tw10477218770588885843:=Zq
def tw3123523547503736227:=Zq
def tw14468064581013666905:=Zq
def tw1357339781585591039:=Zq
def tw13129718609416152170:=Zq
def tw17572136841129985507:=Zq
def tw5506165805956684079:=Zq
def tw17594879474924554565:=Zq
def tw577802954561862923:=Zq
def tw9831752728810815882:=Zq
def tw18130429828757296301:=Zq
def tw18213710522578537162:=Zq
def tw12634037482255367921:=Zq
def tw10784903194240993582:=Zq
def tw1413563110703827331:=Zq
def tw2119161390417285520:=Zq
def tw11228608707686850441:=Zq
def tw11449427608938570330:=Zq
def tw5460959455948593962:=Zq
def tw13945163761912458003:=Zq
def tw621936236881184195:=Zq
def tw9649172445991940635:=Zq
def tw15191587131485333658:=Zq
def tw13208676318099478975:=Zq
def tw14676097690311033367:=Zq
def tw9447074413041108447:=Zq
def tw4818520167692622772:=Zq
def tw14730837397512030815:=Zq
def tw14473037606132314685:=Zq
def tw11231943198901432886:=Zq
def tw3373519387772074334:=Zq
def tw7427869963208699348:=Zq
def tw12358626571833632222:=Zq
def tw9301183022799024388:=Zq
def tw9889393965572240042:=Zq
def tw9141903458127825124:=Zq
def tw14954109221059850846:=Zq
def tw392991712879560452:=Zq
def tw8660675681419513028:=Zq
def tw14099602756177088455:=Zq
def tw11201138205695968199:=Zq
def tw216093681183569935:=Zq
def tw7261856809912504461:=Zq
def tw7504003821000339428:=Zq
def tw2783161350858251705:=Zq
def tw13124323169007257980:=Zq
def tw1320915461939993381:=Zq
def tw1565035548681876546:=Zq
def tw12210225773889923970:=Zq
def tw7901036099323556930:=Zq
def tw15632976535330524811:=Zq
def tw4539111572382074416:=Zq
def tw4588750080677432827:=Zq
def tw2531963021079794829:=Zq
def tw3368872140194581969:=Zq
def tw617399682037394430:=Zq
def tw1400671924491005928:=Zq
def tw4087659807560116974:=Zq
def tw8851962635996591569:=Zq
def tw11068337646623277163:=Zq
def tw17726697181187577349:=Zq
def tw6970815821032672334:=Zq
def tw15978618329420451256:=Zq
def tw15390952213438150557:=Zq
def tw4129328021042430809:=Zq
def tw4606308951881468137:=Zq
def tw5855588653600432756:=Zq
def tw3142438597117080946:=Zq
def tw14362337740098660148:=Zq
def tw18019907681785420244:=Zq
def tw390100116262463951:=Zq
def tw15159341981757451361:=Zq
def tw4918116938620063940:=Zq
def tw881573175270049642:=Zq
def tw11787454639253882100:=Zq
def tw11394255715195502494:=Zq
def tw14379814326439255813:=Zq
def tw7523363603835167218:=Zq
def tw17966666352264822760:=Zq
def tw2161516989551398629:=Zq
def tw9926982041068227455:=Zq
def tw16414726937975472815:=Zq
def tw11474757550092318944:=Zq
def tw8817665215937180870:=Zq
def tw5103043774759905662:=Zq
def tw369172536180386662:=Zq
def tw3072950812635247471:=Zq
def tw11230974655331738612:=Zq
def tw7724431563676319794:=Zq
def tw11995700564587753939:=Zq
def tw1972245727592473684:=Zq
def tw10496324831476554039:=Zq
def tw7171470735434572656:=Zq
def tw13571923684732512969:=Zq
def tw11053595094751958974:=Zq
def tw14772514564178329921:=Zq
def tw8044911288658506667:=Zq
def tw18121056803535517381:=Zq
def tw3370803461231556609:=Zq
def tw16417564549295436940:=Zq
def tw12427581129059589946:=Zq
def tw12949194104524415179:=Zq
def tw4236658314094613210:=Zq
def tw6385469379305815101:=Zq
def tw6475054593364694445:=Zq
def tw15667892179053302166:=Zq
def tw16629113117306405045:=Zq
def tw7704898046674183137:=Zq
def tw17501331952780245002:=Zq
def tw220583991380623874:=Zq
def tw4864169303162538528:=Zq
def tw15207908195414009943:=Zq
def tw7189271421525458760:=Zq
def tw202153232194166006:=Zq
def tw10342715383443198381:=Zq
def tw14713368481230851813:=Zq
def tw16231405497649613080:=Zq
def tw7096261031920709051:=Zq
def tw2801092230955757266:=Zq
def tw1485332087482982396:=Zq
def tw1906540389534852771:=Zq
def tw15450892270618526879:=Zq
def tw4023689867476804090:=Zq
def tw10823357641186330652:=Zq
def tw14262773370993980983:=Zq
def tw12532316168172631530:=Zq
def tw14398582028614276561:=Zq
def tw3511011873860970196:=Zq
def tw13269107939109323509:=Zq
def tw8751336427215168189:=Zq
def tw4664217800915180633:=Zq
def tw4341521508542971671:=Zq
def tw14897815684432638445:=Zq
def tw6914465641209008024:=Zq
def tw319752553339109372:=Zq
def tw16090095690115665129:=Zq
def tw15431899189985032437:=Zq
def tw9341416841540216787:=Zq
def tw4435035205677130402:=Zq
def tw3934030720236934308:=Zq
def tw11470457687436238447:=Zq
def tw11866230689189519438:=Zq
def tw13210313035567079114:=Zq
def tw1436375821314160169:=Zq
def tw2909600633139316165:=Zq
def tw16248281174232796152:=Zq
def tw16926876181547983599:=Zq
def tw17800471803191945142:=Zq
def tw10737719754079972152:=Zq
def tw7845563204859956088:=Zq
def tw15089760333329227464:=Zq
def tw8792697123560828603:=Zq
def tw14474695447984640637:=Zq
def tw6168508601937520551:=Zq
def tw6155743010291934909:=Zq
def tw5146559041220793557:=Zq
def tw3369371675731395480:=Zq
def tw7098074097138000705:=Zq
def tw12914332151499605176:=Zq
def tw16455392551078892429:=Zq
def tw9572256124418532076:=Zq
def tw4819822104315542102:=Zq
def tw1044755281973764362:=Zq
def tw6666178867078605427:=Zq
def tw12001956696892508451:=Zq
def tw11747269818090811401:=Zq
def tw2253610216935669219:=Zq
def tw10405302379325214320:=Zq
def tw14200287565931178856:=Zq
def tw7837101127740972231:=Zq
def tw8382228298087676381:=Zq
def tw17335476406078979929:=Zq
def tw4459315384997027456:=Zq
def tw2868186316316080861:=Zq
def tw1466550576461585840:=Zq
def tw815518553387759567:=Zq
def tw14946589576731396596:=Zq
def tw748981604847186355:=Zq
def tw370595463271359332:=Zq
def tw14654563570493442166:=Zq
def tw5645320220872324357:=Zq
def tw15329814055530269144:=Zq
def tw14446167160017535131:=Zq
def tw4933795196324277104:=Zq
def tw12571792850881779774:=Zq
def tw9084265139460718354:=Zq
def tw2228749756640462750:=Zq
def tw5479366801648344116:=Zq
def tw11937648936972536699:=Zq
def tw14454070357569171498:=Zq
def tw4343488503925985938:=Zq
def tw5681018749816517469:=Zq
def tw9012337697368494405:=Zq
def tw6412032188288357184:=Zq
def tw17994139906153646840:=Zq
def tw3015242304819183759:=Zq
def tw13287688871884091289:=Zq
def tw16723504810219929219:=Zq
def tw7783435720164296453:=Zq
def tw12870341043527353415:=Zq
def tw5479362185004534524:=Zq
def tw3954599323614945511:=Zq
def tw2658698748896505770:=Zq
def tw17200252425256653264:=Zq
def tw1233964951963156725:=Zq
def tw2503684292577874190:=Zq
def tw18273908421810903803:=Zq
def tw17271135251072624273:=Zq
def tw10808955329658602301:=Zq
def tw4511798675924227262:=Zq
def tw13043330510921516834:=Zq
def tw3140303094737757685:=Zq
def tw15576151090956617495:=Zq
def tw13726523225631203653:=Zq
def tw17230212796175835090:=Zq
def tw8934808449482011668:=Zq
def tw15356346765065578270:=Zq
def tw10629341327534071378:=Zq
def tw9357616936470988827:=Zq
def tw6117567728816713456:=Zq
def tw12092487912080875425:=Zq
def tw5854788294189323716:=Zq
def tw4825662465965310777:=Zq
def tw1991313736176524111:=Zq
def tw6273754222902930778:=Zq
def tw9908958294482477446:=Zq
def tw16730213313634156509:=Zq
def tw111477432577088807:=Zq
def tw6879445763644264288:=Zq
def tw11937368151792225515:=Zq
def tw9780060582192006789:=Zq
def tw2513142723574833063:=Zq
def tw7096050645259155857:=Zq
def tw13279374268293902397:=Zq
def tw15950017982833540945:=Zq
def tw17870891987629509026:=Zq
def tw16529642887761402548:=Zq
def tw8278958657391946327:=Zq
def tw17106050886245218034:=Zq
def tw4668885254823514420:=Zq
def tw14237503403275663672:=Zq
def tw13723369736895096017:=Zq
def tw18067555358302689507:=Zq
def tw4408849937361175178:=Zq
def tw16068612417559013313:=Zq
def tw5473002575456882198:=Zq
def tw9840501031244823116:=Zq
def tw1809014216434958610:=Zq
def tw9145135486877992543:=Zq
def tw6556506448612016550:=Zq
def tw9221681066590592300:=Zq
def tw3347130139961228001:=Zq
def tw10897520909121760089:=Zq
def tw8726622130061510882:=Zq
def tw5657281132736143273:=Zq
def tw10126429491524495845:=Zq
def tw1900374749276600115:=Zq
def tw106098087679301338:=Zq
def tw14177970079904458597:=Zq
def tw8342765179769083640:=Zq
def tw6530789771709862103:=Zq
def tw729146960994493782:=Zq
def tw4940881474011164809:=Zq
def tw8907920964355472536:=Zq
def tw13686420765875121512:=Zq
def tw9491078254457563893:=Zq
def tw17848649750176397943:=Zq
def tw7872030040024394654:=Zq
def tw8594958284804459839:=Zq
def tw18233287663729519227:=Zq
def tw11368297144737187823:=Zq
def tw6042906058429983832:=Zq
def tw14548739825641622774:=Zq
def tw16867966162241218071:=Zq
def tw10590009453346295786:=Zq
def tw1200208569991197538:=Zq
def tw6235847324915076731:=Zq
def tw2857727868907300808:=Zq
def tw4955161886915906892:=Zq
def tw14259319018825818833:=Zq
def tw10484275852470774092:=Zq
def tw3435418490459084517:=Zq
def tw15823991011349010406:=Zq
def tw11491183643508932650:=Zq
def tw13541756780657104842:=Zq
def tw1460483572676426787:=Zq
def tw15412718223766652106:=Zq
def tw4557897739122264795:=Zq
def tw14451493888504540111:=Zq
def tw4267172096098415161:=Zq
def tw12216027569419133023:=Zq
def tw2210991672623718770:=Zq
def tw8544642712682931022:=Zq
def tw6242761540362282934:=Zq
def tw11989053286461923160:=Zq
def tw3462875201891627096:=Zq
def tw5910131876732195387:=Zq
def tw3865525726263184216:=Zq
def tw2709077804143155721:=Zq
def tw2781011737680170035:=Zq
def tw13293503531790101016:=Zq
def tw17926445465624523155:=Zq
def tw9359660993563218725:=Zq
def tw5042762281402475986:=Zq
def tw15750351446769932716:=Zq
def tw10483861477123699633:=Zq
def tw1404148490196765284:=Zq
def tw4217890687845498337:=Zq
def tw867564158958306576:=Zq
def tw9957933274298167005:=Zq
def tw11805389114690895610:=Zq
def tw17065544001482298598:=Zq
def tw15822742369806369740:=Zq
def tw783840106768999485:=Zq
def tw1470790999505797991:=Zq
def tw7111990601611174112:=Zq
def tw12151665827427454663:=Zq
def tw2453853394927013305:=Zq
def tw2383532866280279291:=Zq
def tw9253566263506408085:=Zq
end PySem.W.Fast
open PySem PySem.W PyProof.Rows L2
set_option maxRecDepth 100000 in
set_option maxHeartbeats 0 in
theorem PySem.Challenge.cw_shopbound_k32_possible_starts_holds : PySem.Challenge.rw_shopbound_k32_possible_starts.Holds := by
 w_on;o_law;k_head;(case hw=>w_witness2)
 k_fill
 refine Law.walk (l:=U6) rfl rfl (fun w h Y=>PySem.W.kIn_of Y) ?F
 case F=>
  intro w mg fa h KX G hmg
  refine' Law.all_mk KX G hmg ?aC_Facts ?aC_Grounds ?aC_Shop ?pg_Facts ?hd_Facts ?po_Facts ?sa_Facts ?mk_Facts ?kc_Facts ?n0_Facts ?n1_Facts ?n2_Facts ?n3_Facts ?n4_Facts ?n5_Facts ?pg_Grounds ?hd_Grounds ?po_Grounds ?sa_Grounds ?mk_Grounds ?kc_Grounds ?n0_Grounds ?n1_Grounds ?n2_Grounds ?n3_Grounds ?n4_Grounds ?n5_Grounds ?n6_Grounds ?n7_Grounds ?n8_Grounds ?pg_Shop ?hd_Shop ?po_Shop ?sa_Shop ?mk_Shop ?kc_Shop ?n0_Shop ?n1_Shop ?n2_Shop ?n3_Shop ?n4_Shop ?n5_Shop ?n6_Shop ?n7_Shop ?n8_Shop ?n9_Shop ?n10_Shop ?a85 ?l85 ?c85 ?k85 ?V
  (case aC_Facts=>k_is)
  (case aC_Grounds=>k_is)
  (case aC_Shop=>k_is)
  (case pg_Facts=>k_is)
  (case hd_Facts=>k_is)
  (case po_Facts=>k_is)
  (case sa_Facts=>k_is)
  (case mk_Facts=>k_is)
  (case kc_Facts=>k_is)
  (case n0_Facts=>k_is)
  (case n1_Facts=>k_is)
  (case n2_Facts=>k_is)
  (case n3_Facts=>k_is)
  (case n4_Facts=>k_is)
  (case n5_Facts=>k_is)
  (case pg_Grounds=>k_is)
  (case hd_Grounds=>k_is)
  (case po_Grounds=>k_is)
  (case sa_Grounds=>k_is)
  (case mk_Grounds=>k_is)
  (case kc_Grounds=>k_is)
  (case n0_Grounds=>k_is)
  (case n1_Grounds=>k_is)
  (case n2_Grounds=>k_is)
  (case n3_Grounds=>k_is)
  (case n4_Grounds=>k_is)
  (case n5_Grounds=>k_is)
  (case n6_Grounds=>k_is)
  (case n7_Grounds=>k_is)
  (case n8_Grounds=>k_is)
  (case pg_Shop=>k_is)
  (case hd_Shop=>k_is)
  (case po_Shop=>k_is)
  (case sa_Shop=>k_is)
  (case mk_Shop=>k_is)
  (case kc_Shop=>k_is)
  (case n0_Shop=>k_is)
  (case n1_Shop=>k_is)
  (case n2_Shop=>k_is)
  (case n3_Shop=>k_is)
  (case n4_Shop=>k_is)
  (case n5_Shop=>k_is)
  (case n6_Shop=>k_is)
  (case n7_Shop=>k_is)
  (case n8_Shop=>k_is)
  (case n9_Shop=>k_is)
  (case n10_Shop=>k_is)
  (case a85=>k_is)
  (case l85=>k_is)
  (case c85=>k_is)
  (case k85=>k_is)
  (case V=>constructor;(case d30=>refine' DfnMD.mk' ?xa ?xi ?xl ?xc ?xk ?xt ?xd ?xv;(case xa=>k_is);(case xi=>k_is);(case xl=>k_is);(case xc=>k_is);(case xk=>k_is);(case xt=>k_is);(case xd=>rfl);(case xv=>exact .cons rfl (.cons rfl (.cons ⟨_,rfl⟩ (.cons ⟨_,rfl⟩ .nil)))));all_goals first|(refine' Dfn.mk' KX G ?a ?l ?c ?k;(case a=>k_is);(case l=>k_is);(case c=>k_is);(case k=>k_is))|(refine' DfnM.mk' ?a ?i ?l ?c ?k;(case a=>k_is);(case i=>k_is);(case l=>k_is);(case c=>k_is);(case k=>k_is))|(refine' PySem.W.mg_none_of KX G ?a;(case a=>k_is))|(refine' Law.tkI_of KX G ?a;(case a=>k_is)))
end
end
end
