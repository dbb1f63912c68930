import PyProof.Rows.All
import Wide.All
import OpenK.AllK
import Wide.FinOn
import Lean
import PyProof.EqAt
import PyProof.EqKinds
import PyProof.TupleCall
import PySem.SetOps
import KE.KDictOf
import PyProof.AttrMiss
import PyProof.IsiH_list
import PyProof.WalkInts
import KE.KMinBuiltin
import PyProof.Rows.CallKwBuiltin
import KE.KEqDict
import KE.KItemsList
import KE.KDictSum
import KE.KRevSl
import PyProof.Rows.SortStr
import PyProof.Rows.SortWalk
import KE.KTryMore
import PyProof.NsDelKeeps
import PyProof.ExcAttrAll.ValueError
import PyProof.StrReplace2
import PyProof.ReprStr
import PyProof.Rows.RuleU_int
import PyProof.InstStoreFacts
import PyProof.ExcInit
import PyProof.Rows.StrIntSpec
import PyProof.MinMaxWalk
import KE.KIntText
import PyProof.ListRange
import PyProof.StrLawsTight
import PySem.Challenge.RW_shopbound_k13_rows_that_are_none
set_option Elab.async false
set_option linter.all false
set_option maxRecDepth 100000
open Option renaming some->aa,none->ae,map->o8,isSome_iff_exists->zG,getD_none->Tf,join_some->TL,getD_some->TM
open _root_ renaming List->ac,Int->ag,Nat->ah,Option->ar,Bool->ba,absurd->bB,Array->b7,if_true->cr,congrArg->cC,String->cM,if_false->dv,DecidableEq->fU,Unit->jk,beq_iff_eq->jq,beq_eq_false_iff_ne->oO,not_or->pf,of_decide_eq_true->sL,decide_eq_true_eq->vK,ne_true_of_eq_false->Hg,instBEqOfDecidableEq->T3,decide_eq_false_iff_not->Uw
open PySem renaming Str->aj,Addr->av,wpAny->aG,Shared->aH,model->aI,sizeLine->aL,starEach->bc,tupleKeyHash->bH,Env->cN,World->cT,backTo->cW,Pos->dh,cLine->di,mainGlobals->dL,Program->ef,compareOp->eF,sizeLine_eq->eI,Around->eU,wpAny_mono->e7,swapsWith->e8,Sem->fu,assignEach->gd,binaryOp->gH,codeAny->gW,holding->ij,NameKind->iF,assign->iU,attributeBase->jr,Keyword->jt,wpAny_call->kj,Model->kZ,codeAny_mono->lf,sysModules->lV,bootBuiltins->lW,behindInMarks->lX,wpAny_truthy_bool->lY,foldedSetIterable->lZ,FuncData->l6,bindArgs->l9,backToKw->l',keywordEach->ma,atKey->me,SetTable->mh,tupleKind->nt,pyNext->nz,bindL->nB,bindC->nC,mem_of_lookup->nD,IsPart->nF,getItem->nG,evalEach->nQ,standAt->oT,wpAny_passesOwn->oU,sliceBounds->o3,call_meets->o4,valueAt->o5,callerA->o6,codeAny_call_builtin->pe,GenState->sw,wpAny_execs_nil->sx,wpAny_standAt->sy,BindsTo->sD,wpAny_Call_Name_kw->sE,typeIs_str->sI,codeAny_builtin->sO,getAttrByItsOwn->sQ,PassesOwn->vf,letOwnedTupleGo->vg,pyIter->vh,getAttr->vn,getMethod->vo,wpAny_typeOf->vw,wpAny_newObj_type->vx,typeLookup->vy,wpAny_pyIter_list->vE,PyData->vI,setAdd->vP,wpAny_setState_of->vQ,wpAny_attempt->vT,boundAndCalled->vU,wpAny_loadPart_at->vW,setItem->zx,lastMarks->zA,pick_run->zK,subscripted->zO,typeOf->zQ,Params->zU,relabel->zW,setSearchFrom->Aj,getAttr?->Am,isInstance->Ao,ClassData->Aq,intText?->Aw,Within->FZ,builtinsNs->F0,wpAny_Name->F4,wpAny_execs_cons->F7,swapsWithSole->F8,swappedStores->F9,wpAny_loadPart->Gf,callWith->Gi,cellsFrom->Gk,wpAny_field->Gn,seqIndex_of->Gs,slot_list_getitem->Gu,typeIs_int->Gx,wpAny_specialOf->GB,call->GC,noteFrame->GE,compEnvC->GF,plainId_quiet->G6,wpAny_seqItems->G7,wpAny_forIn_list->G8,ofAClassStatement->G9,scanBound->Hb,wpAny_mkText->Hc,getAttrBy->Hd,wpAny_of_eq->He,hookBefore->Hf,setField->Hl,frameOf->Hm,wpAny_Compare1->SJ,wpAny_Expr_any->SL,wpAny_assign_Name->SM,wpAny_pyNext_list_item->SN,wpAny_pyNext_list_end->SO,wpAny_lookBehind->SW,pastItsLine_dict->SX,plainObj_wpAny_Assign_Attribute->SZ,noFill_tuple_add->S7,sliceRange_one->Tg,wpAny_getItem_list_slice->Ti,tupleKind_room_in1->Tp,wpAny_comprehension_free->Tu,wpAny_pyIter_enum->Tv,codeAny_of_tree->TW,carriedByValue->TY,searchCouldBeSeen->TZ,wpAny_eqIsQuiet_tuple->T0,wpAny_storeSet_of->T1,typeLookup_type->T4,builtinLookup_eq_fast->T5,getattributeRaised->T6,wpAny_isInstance->T7,checkBuiltinCall->Uc,wpAny_isSubtype_exc->Uk,refuseLoop_ref->Um
open Bool renaming true->al,false->aq,and_eq_true->ge,not_true->iY,not_false->ph,eq_iff_iff->vi,eq_false_iff->vO,true_and->Ak,and_false->Gz,or_eq_true->GJ,not_eq_true'->Hs,or_true->Us
open PySem.W renaming Frag->aV,findIn->cO,keepIn->gI,fnOf->ik,mg_of->il,nsIn->iX,kia_one->ki,kitOne->lc,emptyDict->l5,instObj->nv,hasDictIn->oW,isFn->oX,codeIn->sG,hideAll_get->ve,plainGet->vm,specialIn->vq,hideAll->zu,lookIn->zB,makesIn->zC,mroIn->zE,callWith_K->zF,excIn->Ar,plainGet_of->Gc,plainOver->Gd,takerIn->Ge,OpenLaw->GD,kitAny->Hj,readsIn->Hq,findCls->Hr,exmOne->Ht,of_hideAll->SD,hideAll_none->SE,handedIn->SS,takesIn->S0,kitx_list->S1,kitx_dict->S3,methodCall_KW->S5,cellsFrom_some->S6,WalkO->Tt,clsIn->Uq
open Pure renaming pure->bq
open List renaming mem_map->bQ,replicate->bS,mem_singleton->b8,mem_cons->cy,range->cz,mem_append->cD,getElem?_eq_some_iff->db,lookup->dQ,map_append->dS,nodup_cons->eJ,mem_range->fV,length->fW,length_drop->gY,mem_of_mem_take->im,append_nil->iV,all_eq_true->ko,forall_mem_cons->kt,take_of_length_le->lg,nodup_nil->lh,nodup_append->lj,replicate_succ->md,drop_zero->mf,getElem?_range->mj,take_length->mm,getElem?_set_self->ny,flatten_cons->nI,foldl_cons->nJ,find?_cons->nK,any_cons->nL,set_cons_zero->nR,mem_filter->oR,mem_filterMap->oV,take_sublist->oZ,lookup_cons->o7,take_succ->pi,take_append_drop->sM,countP_append->sT,getElem?_take_of_lt->vt,getElem_mem->vD,length_mapIdx->vF,drop_eq_getElem_cons->vG,mem_iff_getElem?->vH,getElem?_drop->vL,mem_of_mem_drop->vM,take->vN,mem_map_of_mem->vZ,getElem?_of_mem->v5,drop_of_length_le->v7,take_append_of_le_length->wa,mem_append_left->zw,getElem?_replicate->zH,reverse_cons->zR,getElem?_eq_none->zY,drop_length->z4,pairwise_map->Ad,foldl_append->Ai,take_succ_cons->Av,find?->Ax,map_congr_left->Ay,take_take->Az,map_take->AE,map_drop->AF,filterMap_cons->F2,of_mem_zip->Gj,length_set->Gw,foldl->Gy,length_eq_zero_iff->GL,mem_iff_getElem->GM,getD->GN,map->GP,pairwise_iff_getElem->GS,nodup_range->GX,nodup_iff_pairwise_ne->GZ,drop_drop->Hy,take_add_one->HA,set_cons_succ->HB,map_reverse->HC,filter_cons_of_pos->HE,filter_cons_of_neg->HF,length_filter_le->HG,drop_length_add_append->HH,any_eq_false->SQ,ext_getElem?->Tw,getElem?_mapIdx->Tx,filterMap_cons_some->TQ,length_reverse->Ua,find?_cons_of_pos->Uu,find?_cons_of_neg->Uv,map_inj_right->Uy,map_id'->Uz,getElem_map->UF,perm_middle->UG,map_set->UH,reverse_perm->UI,take_left->UJ,drop_left->UM,drop_append_of_le_length->UP,filter_append->UQ,countP_cons->UR,countP_cons_of_pos->US,countP_cons_of_neg->UT,countP_eq_zero->UU
open PySem.Txt renaming join->bV,split->cP,slice->GK
open PySem.Value renaming ref->cj,bool->lT,type->lU,none->oP,int->u9,str->vc,isInt->SB,isStrOf->SC
open PySem.SetTable renaming below->cJ,runEnd->dF,insertAt->dG,bits->gi,leap->jw,turns->nN,sizeAbove->pd,tooFull->vR,fresh->vS,Probe->Ab,grown->Ae,has->GV,fits->GW,slot->TF,fill->TH,layClean->TN
open Sum renaming inr->cL,inl->oN
open PyProof.Rows renaming envOfC->cX,AllBare->kY,IsTup->vd,IntsAre->vA,callWith_type1->zz,Subscript_->zM,subscriptTail->zN,slot_tuple_getitem->Go,tail_any->Gq,digits10_le->Hv,slicePart_none->Ta,subscriptTail_builtinR->Te,joinParts_cons->T',callWith_builtin1->Vk,boot_enumerate->Vq,digit_range->VF,tDigits_len_ge->VG
open Ne renaming symm->eh
open PySem.Str renaming join->eK,length_append->gj,length->gZ,empty->la,ofString->sH,append_assoc->AB
open PySem.PassesOwn renaming never->eV
open PySem.SeqAt renaming shaped->fy
open False renaming elim->fL
open PySem.PyData renaming eqv->fM,canLayAll0->gf,str->g8,canLay0->iH,depthAll->jv,depth->jz,eqvAll->mq,int->o9,strOk->Hz,tuple->Tz
open Nat renaming zero_le->gX,zero_add->g0,toDigits->jx,lt_or_ge->km,mod_lt->kq,min_eq_left->kr,lt_irrefl->oQ,lt_succ_self->oY,le_of_lt->sv,le_succ->sF,lt_trans->sJ,lt_succ_of_lt->sP,le_add_right->vJ,sub_self->v6,le_succ_of_le->v8,ne_of_gt->zy,le_of_eq->zD,min_le_right->zI,not_lt->zX,add_assoc->z6,succ_pos->z8,add_zero->Ac,min_eq_right->AD,succ_mul->GA,mul_le_mul->GI,lt_succ_iff->GR,not_lt_zero->GT,lt_trichotomy->GU,eq_zero_or_pos->Hw,log2_lt->Hx,mul_le_mul_right->HD,mul_comm->To,strongRecOn->TC,sub_zero->UA,min_def->UB,one_mul->UC,sub_mod_eq_zero_of_mod_eq->UD,mod_eq_of_lt->UE,add_sub_cancel'->UL
open Array renaming length_toList->iD,getElem?_eq_some_iff->iG,getD_eq_getD_getElem?->Aa,mem_toList_iff->Gb,toList->SK,replicate->TJ,filterMap->TR,forIn_toList->TX,append_empty->Ur,toList_append->UK
open True renaming intro->iE
open Int renaming toNat_natCast->iW,le_trans->sS,eq_ofNat_of_zero_le->As,fdiv_eq_ediv_of_nonneg->Ga,toNat_of_nonneg->UO
open PySem.Heap renaming SameBut->jp,size_push->nA,FlyingW->vV,get?_update_self->zP,dictOf_iff->An,get?_none_of_le->F3,get?_update_other->Gv,get?_push_at->Ho,get?_some_iff->Uf,MadeExcOf->Uj,get?_update_ne->Up,ExtBut->Ut
open List.cons renaming inj->ju
open PySem.F renaming plainAttrs_str->jy,called_set->nO,slot_str_split->nP,slot_str_join->pj,type_str_join->pk,type_str_split->vY,slot_list_append->zT,plainAttrs_list->z5,slot_list_getattribute->Al,attr_ValueError->Ap,type_list_append->GQ,entry_str_split->Hh,args_str_split_2->Hi,excBase_ValueError->Hn,slot_tuple_add->S8,entry_tuple_add->S9,args_tuple_add_2->S',slot_list_extend->Tl,slot_int_rmul->Tn,entry_bexc_ga->Ud,store_ValueError->Ul
open PySem.StrLaws renaming glued_eq_join->lm,At->v9,found_one->UN
open PySem.NameKind renaming free->nM,cell->zV
open Function renaming comp_def->pp
open Sum.inr renaming inj->su
open ToString renaming toString->sC
open ForInStep renaming yield->sK
open PySem.SetTable.layClean renaming free->sN
open PySem.Builtin.Str renaming strKind->sR,occurrences->vj,strSliceIndices->zZ,glued->AA,strSub->AC,partsBetween->T9,tooLong->Vr
open PySem.Obj renaming mapSeq->vz,putSet->Ha,mapFields->Uh
open ForIn renaming forIn->vB
open List.Pairwise renaming map->vX,imp_of_mem->TK,nil->Vp,filterMap->Vs
open PySem.Builtin.Slice renaming slicePlaces->zJ,sliceAdjust->Gm,sliceApplied->Tc,slicePartIndex->Vl,sliceFields->Vm
open PySem.Builtin.Tuple renaming tupleExact->zL,tupleItemsOf->Vn
open PySem.Builtin.List renaming listTooLong->zS,listFitsIndex->Vo
open PySem.SetTable.below renaming go->z9
open PySem.Around renaming under_plainId->Af,under->Gg
open PySem.Code renaming quiet_builtin->Ag,isFrame->Gh,frames->S4
open PySem.Shared renaming TypeIs->Ah
open Char renaming toNat->Au
open LawfulBEq renaming eq_of_beq->Gp
open PyProof.Rows.IsTup renaming new->Gr
open PySem.Heap.SameBut renaming refl->GG,update->T2
open Prod.mk renaming inj->GH
open PySem.Walks renaming list->GO
open PySem.SetTable.probe renaming go->GY
open PyProof.Rows.F renaming plain_set_update_loop->G0,entry_set_update_loop->TU
open PySem.Sem renaming wp->Hk,wp_mono->Ug
open PySem.W.KIN renaming signs_num->Hu,call_text->VB,num_reads->VH
open PySem.Calls renaming Name_function_global->SG,callWith_builtin->Tj,evalArgs_plain->Tk
open PySem.CmpOp renaming In->SH,NotIn->SI
open PySem.W.Looks renaming here->SU,ld->Ub
open PySem.Within renaming cons->SV
open PySem.Heap.Ns1 renaming of_empty->SY
open PySem.Heap.IsSliceOf renaming new->Td
open PySem.Heap.DictOf renaming new->Tq
open PySem.W.WData renaming int->Tr
open PySem.W.WShape renaming has->Ts
open PySem.Moved renaming trans->TV
open PySem.Builtin.Dict renaming updateFrom->T8,addKeywords->Vu,pairItems->Vv,selfAndRest->Vx
open PySem.Value.ref renaming inj->Ue
open PySem.EntryCells renaming newEntry->Ui
open PySem.Builtin.ObjectAttr renaming storeInOwnDict->Uo,find->Vy,getOf->Vz,dataDescriptor?->VA
open List.Lex renaming rel->Ux
open Option.some renaming inj->UW,injEq->VD
open PySem.Builtin.Range renaming rangeSize->UX
open PySem.EqNone renaming eq_none_none->UY,eq_none_bool->UZ,eq_none_int->U0,eq_none_str->U1,eq_bool_none->U2,eq_int_none->U4,eq_str_none->U6,ne_none_none->U9,ne_none_bool->U',ne_none_int->Va,ne_none_str->Vb,ne_bool_none->Vc,ne_int_none->Vf,ne_str_none->Vh
open PySem.EqMixed renaming eq_bool_str->U3,eq_int_str->U5,eq_str_bool->U7,eq_str_int->U8,ne_bool_str->Ve,ne_int_str->Vg,ne_str_bool->Vi,ne_str_int->Vj
open PySem.Builtin.Frozenset renaming updateFrom->Vt
open PySem.Challenge renaming pw_shopbound_k13_rows_that_are_none->VC,rw_shopbound_k13_rows_that_are_none->VI
open List.Sublist renaming nodup->VE
set_option hygiene false
set_option compiler.extract_closed false
local macro_rules
|`(.(a))=>`(by omega)
|`(.(b))=>`(b2 bY (vC (.int 10)) (vC (.int 6)))
|`(.(c))=>`(by decide)
|`(.(d))=>`(bn fun _ _ _ _ _ _ _=>rfl)
|`(.(e))=>`(vC (.int 1))
|`(.(f))=>`(vC (.int 0))
|`(.(g))=>`(dC (kH V) hr (ak (DO.de (c8 rfl .(o) .(aF) (b9 (ai 0)) ⟨fun _ _ _ _ _=>⟨.(ab),cu,.(h)⟩⟩)) ax) ln1)
|`(.(h))=>`(aK (ai 0) au)
|`(.(i))=>`(bF cH rfl V.z_len (by rfl) (ak (ai 0) ax))
|`(.(j))=>`(by decide +kernel)
|`(.(k))=>`(aI X.prog X.w)
|`(.(l))=>`(aZ 1 cK.nd (aR (ai 1) aT))
|`(.(m))=>`(b2 ixD (vSh 0) .(f))
|`(.(n))=>`(af (vSh 0) ao)
|`(.(o))=>`(CompScope.of rfl rfl)
|`(.(q))=>`(vC (.int 2))
|`(.(t))=>`(J t.mask (bH knd k) n0)
|`(.(u))=>`(Gam C_Shop)
|`(.(v))=>`(s.heap.push {cls:=.type "set",dict:=ae,data:=.set #[] 0 (.fresh 0 0 led)})
|`(.(w))=>`(af (vSh 1) ao)
|`(.(x))=>`(x==("__debug__":aj))
|`(.(y))=>`(.lst (fF bs ss js us ls ks h))
local macro_rules
|`(.(z))=>`(.ListComp elt [⟨tg,iter,ifs,0⟩] scope pos)
|`(.(A))=>`(by kernel_rfl)
|`(.(B))=>`(aI prog w)
|`(.(C))=>`(eS (CXD P w base) P w K mg base N qual scope f cd A outer s₀ H₀ E)
|`(.(F))=>`(vC (.int 3))
|`(.(G))=>`(.tail _ (.tail _ (.tail _ (.tail _ (.tail _ (.tail _ (.head _)))))))
|`(.(H))=>`(cJ t.place (J t.mask h n0))
|`(.(I))=>`(b2 ixD (vSh 0) .(e))
|`(.(J))=>`(suE ns bs p h us (oS (.int (k:ag))) (oS (.str x)) (oS (.int (m1:ag))) (oS (.int (m2:ag))) (oS (.int d3)) (oS (.int d4)) (oS (.tup [.str x,.str (nm (p / 2) m1),.str (nm (p / 2) m2)])))
|`(.(K))=>`(.lst (ss.map bD))
|`(.(L))=>`(ak (ai 1) ax)
|`(.(N))=>`(lp M h r)
|`(.(P))=>`(vC (.int 4))
|`(.(Q))=>`(aN (vC (.bl aq)))
|`(.(R))=>`(dN bs ss js us ls ks)
|`(.(S))=>`(aC rfl aS)
|`(.(T))=>`(iB.trans ((dH ((f8 (xs:=(bs.map D.int).mapIdx fun i d=>D.tup [.int i,d]) rfl).trans (h1.trans (by rw[h2])))).trans ((iK rfl).trans (cg (f:=vSh 6) rfl))))
|`(.(U))=>`(.builtin "object.__class__")
|`(.(W))=>`(dC (kJ V) hr (ak (ai 0) (ak au ax)) ln2)
|`(.(X))=>`(.Name x vp)
local macro_rules
|`(.(Y))=>`(cQ I q (by simp))
|`(.(Z))=>`(.lst (js.map bN))
|`(.(aa))=>`(k==nM && env.scope.kind==.function && env.kindOf n==aa .cell)
|`(.(ab))=>`(aP 0 (show(["row"]:ac aj).Nodup by decide +kernel))
|`(.(ad))=>`((G.take a).filter fun r=>!hz r)
|`(.(ae))=>`(fun _ z=>nomatch z)
|`(.(af))=>`(.lst (sn.map D.str))
|`(.(ag))=>`(.Call (.Name x p) (e::es) [] pos)
|`(.(ai))=>`((ins G a (.b x)).map (rtD h))
|`(.(aj))=>`(aoE S P ss F K B sz rm fi tk pt raw a b (oS (.int (t:ag))) (oS (bD s)) (oS (.int n)) r)
|`(.(ak))=>`(.lst (bs.map cc))
|`(.(al))=>`(aP 0 (show(["word"]:ac aj).Nodup by decide +kernel))
|`(.(am))=>`(dC (iw V) hr (ak .(h) ax) ln1)
|`(.(an))=>`(s.heap.objs.size+1)
|`(.(ao))=>`(bV "\n" (L.map (rt h)))
|`(.(ap))=>`(.refl gh)
|`(.(aq))=>`(.inl rfl)
|`(.(ar))=>`(.builtin "getset_descriptor.__get__")
|`(.(as))=>`(A.deeper (cX qual (aW st) s.heap.objs.size f cdv))
|`(.(au))=>`(.own (acc.map D.str))
|`(.(av))=>`(.lst (L.map (rtD h)))
|`(.(aw))=>`(cY jK rfl V.z_int (by rfl) (ak .(h) ax))
|`(.(ax))=>`((cU (bU (b:=aq) ?_)).trans ((cU (bU (b:=aq) ?_)).trans (cg (f:=vSh 0) rfl)))
local macro_rules
|`(.(az))=>`(eS CX0 P w K mg base N qual (aW st) f cdv A outer s H E)
|`(.(aA))=>`(bO (szF (af (vSh 6) (af (vSh 7) ao))))
|`(.(aB))=>`((eX hk .(j)).trans ((eX hk .(j)).trans ((eX hk .(j)).trans (mL hk h))))
|`(.(aC))=>`(x==("__classdict__":aj))
|`(.(aE))=>`([e].length+([]:ac jt).length+(if ([]:ac jt).isEmpty then 0 else 1)<30)
|`(.(aF))=>`(FvOk.of (N':=["row"]) (fv:=[ae]) rfl)
|`(.(aG))=>`(bF cH rfl V.z_len (by rfl) .(L))
|`(.(aH))=>`(.Call (.Attribute (.Subscript .(X) ek sp) "append" apos) [e] [] cpos)
|`(.(aI))=>`(DO.de (c8 rfl .(o) (FvOk.of (N':=["part"]) (fv:=[ae]) rfl) (b9 (ai 0)) ⟨fun _ _ _ _ _=>⟨(aP 0 (show(["part"]:ac aj).Nodup by decide +kernel)),cu,(i6 kz hr (qv _) rfl (ak (ai 0) ax) ln1)⟩⟩))
|`(.(aJ))=>`(dP rfl .(c))
|`(.(aK))=>`(cF bw (af (b2 df (vSh 2) (vC (.str "horizon"))) ao))
|`(.(aM))=>`((items.toList.drop (sIx items.size 0 lo)).take (sIx items.size items.size hi-sIx items.size 0 lo))
|`(.(aN))=>`(ha pins s σ H _ I h)
|`(.(aO))=>`(cW pos (bc es X.env))
|`(.(aP))=>`(aa (.builtin "object.__setattr__"))
|`(.(aQ))=>`(dC (ji V) hr (ak .(h) (ak au (ak (ai 2) ax))) ln3)
|`(.(aU))=>`(cF bw .(n))
|`(.(aV))=>`(show(["_law_step","_law_amount"]:ac aj).Nodup by decide +kernel)
|`(.(aW))=>`(af (vSh 2) ao)
local macro_rules|`(tactic|omega)=>`(tactic|lia)
local macro_rules|`(tactic|ac_nf)=>`(tactic|first|exact Or.inl rfl|exact Or.inr rfl|exact Or.inr (Or.inl rfl)|exact Or.inr (Or.inr rfl)|assumption)
set_option bootstrap.genMatcherCode false
set_option genSizeOf false
set_option genSizeOfSpec false
noncomputable section
theorem oBd {α:Type u} {β:Type v} {o:ar α} {f:α->ar β} {b:β} (h:o.bind f=aa b):∃a,o=aa a/\f a=aa b:=Option.bind_eq_some_iff.mp h
theorem oMd {α:Type u} {β:Type v} {o:ar α} {f:α->β} {b:β} (h:o.map f=aa b):∃a,o=aa a/\f a=b:=Option.map_eq_some_iff.mp h
noncomputable section
section
open PySem PySem.Spec PyProof.Rows
noncomputable def qa:=@Option.bind_some
noncomputable def qb:=@List.getElem?_cons_zero
noncomputable def qc:=@List.getElem?_cons_succ
noncomputable def qd:=@Option.map_some
noncomputable def qe:=@List.length_map
noncomputable def qf:=@List.mem_cons_self
noncomputable def qg:=@List.mem_cons_of_mem
noncomputable def qh:=@List.length_cons
noncomputable def qi:=@List.length_append
noncomputable def qj:=@List.getElem?_map
noncomputable def qk:=@List.length_nil
noncomputable def qm:=@List.map_cons
noncomputable def qo:=@List.map_map
noncomputable def qp:=@List.cons_append
noncomputable def qq:=@Bool.false_eq_true
noncomputable def qr:=@Bool.false_ne_true
noncomputable def qt:=@Heap.get?_push_of_some
noncomputable def qu:=@Heap.lt_size
noncomputable def qv:=@Nat.le_refl
noncomputable def qw:=@List.append_assoc
noncomputable def qx:=@wpAny_bind
noncomputable def qy:=@List.getElem?_set_ne
noncomputable def qz:=@List.getElem?_append_left
noncomputable def qA:=@wpAny_pure
noncomputable def qB:=@List.size_toArray
noncomputable def qC:=@Nat.ne_of_lt
noncomputable def qD:=@List.getElem?_eq_getElem
noncomputable def qE:=@List.length_take
noncomputable def qF:=@Nat.lt_of_lt_of_le
noncomputable def qG:=@Heap.get?_push_size
noncomputable def qH:=@UW
noncomputable def qI:=@Array.getElem?_toList
noncomputable def qJ:=@List.not_mem_nil
noncomputable def qK:=@List.getElem?_append_right
noncomputable def qL:=@cy
noncomputable def qM:=@Nat.le_trans
noncomputable def qN:=@decide_eq_false
noncomputable def qO:=@List.map_nil
noncomputable def qP:=@List.mem_of_getElem?
noncomputable def qQ:=@List.mem_append_right
noncomputable def qR:=@List.nil_append
noncomputable def qS:=@decide_eq_true
noncomputable def qT:=@wpAny_holding
noncomputable def qU:=@List.length_range
noncomputable def qV:=@Int.emod_lt_of_pos
noncomputable def qW:=@List.length_singleton
noncomputable def qX:=@Int.emod_nonneg
noncomputable def qY:=@if_pos
noncomputable def qZ:=@if_neg
end
section
namespace L2
open PySem PySem.Spec PyProof.Rows
noncomputable abbrev Key:=Sum ag aj
def oC:Key->Value->ba
 |.inl k,v=>SB k v
 |.inr x,v=>SC x v
def KR (w:cT):Key->ag
 |.inl k=>hashInt k
 |.inr x=>hashStr w x
theorem jV:∀{k:Key} {v:Value},oC k v=al->(∃i t,k=oN i/\v=u9 i t)\/(∃x t,k=cL x/\v=vc x t)
 |.inl i,v,h=>by
  obtain⟨t,e⟩:=Value.isInt_shape (k:=i) (v:=v) h;exact .inl ⟨i,t,rfl,e⟩
 |.inr x,v,h=>by obtain⟨t,e⟩:=Value.isStrOf_shape (x:=x) (v:=v) h;exact .inr ⟨x,t,rfl,e⟩
theorem O9 (i:ag) (t:Tok):oC (.inl i) (.int i t)=al:=by simp[oC,SB]
theorem LG (x:aj) (t:Tok):oC (.inr x) (.str x t)=al:=by simp[oC,SC]
theorem O3 (a b:ag):decide ((oN a:Key)=oN b)=(a==b):=by
 by_cases e:a=b
 .subst e;simp
 .have h:¬(oN a:Key)=oN b:=fun q=>e (Sum.inl.inj q);rw[qN h];exact(oO.mpr e).symm
theorem Pb (a b:aj):decide ((cL a:Key)=cL b)=decide (a=b):=by
 by_cases e:a=b
 .subst e;simp
 .have h:¬(cL a:Key)=cL b:=fun q=>e (su q);rw[qN h,qN e]
theorem No (a:ag) (b:aj):decide ((oN a:Key)=cL b)=aq:=qN (fun q=>nomatch q)
theorem Mf (a:aj) (b:ag):decide ((cL a:Key)=oN b)=aq:=qN (fun q=>nomatch q)
def dB (prog:ef) (w:cT):PySem.KeyKind prog w Key where
 is:=oC
 hash:=KR w
 inj:=fun v a b ha hb=>by
  rcases jV ha with⟨i,t,rfl,rfl⟩|⟨x,t,rfl,rfl⟩
  .rcases jV hb with⟨j,u,rfl,e⟩|⟨y,u,rfl,e⟩
   .injection e with e1 _;rw[e1]
   .exact nomatch e
  .rcases jV hb with⟨j,u,rfl,e⟩|⟨y,u,rfl,e⟩
   .exact nomatch e
   .injection e with e1 _;rw[e1]
 byValue:=fun k v h=>by rcases jV h with⟨i,t,rfl,rfl⟩|⟨x,t,rfl,rfl⟩<;>rfl
 pyHash:=fun hv h=>by
  rcases jV hv with⟨i,t,rfl,rfl⟩|⟨x,t,rfl,rfl⟩
  .exact wpAny_pyHash_int h
  .exact wpAny_pyHash_str h
 eqBool:=fun hu hv h=>by
  rcases jV hu with⟨i,t,rfl,rfl⟩|⟨x,t,rfl,rfl⟩
  .rcases jV hv with⟨j,u,rfl,rfl⟩|⟨y,u,rfl,rfl⟩
   .rw[O3] at h;exact wpAny_eqBool_int h
   .rw[No] at h;exact SeqAt.EqAt.int_str i t y u _ _ _ _ h
  .rcases jV hv with⟨j,u,rfl,rfl⟩|⟨y,u,rfl,rfl⟩
   .rw[Mf] at h;exact SeqAt.EqAt.str_int x t j u _ _ _ _ h
   .rw[Pb] at h;exact wpAny_eqBool_str h
 «strs»:=fun k x t v h=>by
  rcases jV h with⟨i,u,rfl,e⟩|⟨y,u,rfl,e⟩
  .exact nomatch e
  .injection e with e1 _;subst e1;cases v<;>rfl
theorem OW (prog:ef) (w:cT) (i:ag) (t:Tok):(dB prog w).is (.inl i) (.int i t)=al:=O9 i t
theorem JF (prog:ef) (w:cT) (x:aj) (t:Tok):(dB prog w).is (.inr x) (.str x t)=al:=LG x t
inductive V where
 |non|bl (b:ba)|int (i:ag)|str (x:aj)|ref (a:av)|ty (n:cM)
 deriving fU
noncomputable def bC:V->Value->Prop
 |.non,u=>u=oP
 |.bl b,u=>u=lT b
 |.int i,u=>∃t,u=u9 i t
 |.str x,u=>∃t,u=vc x t
 |.ref a,u=>u=cj a
 |.ty n,u=>u=lU n
noncomputable abbrev bp:ac V->ac Value->Prop:=Paired bC
theorem bp.length {xs:ac V} {us:ac Value} (r:bp xs us):xs.length=us.length:=Paired.length r
theorem bp.get:∀{xs:ac V} {us:ac Value} {i:ah} {x:V},bp xs us->xs[i]?=aa x->∃u,us[i]?=aa u/\bC x u
 |_,_,_,_,.nil,e=>by simp at e
 |_,_,0,_,.cons r _,e=>by simp at e;subst e;exact⟨_,rfl,r⟩
 |_,_,i+1,x,.cons _ t,e=>by obtain⟨u,h1,h2⟩:=bp.get (i:=i) (x:=x) t (by simpa using e);exact⟨u,by simpa using h1,h2⟩
theorem bp.set {x:V} {u:Value} (r:bC x u):∀{xs:ac V} {us:ac Value} (i:ah),bp xs us->bp (xs.set i x) (us.set i u)
 |_,_,_,.nil=>.nil
 |_,_,0,.cons _ t=>.cons r t
 |_,_,i+1,.cons q t=>.cons q (bp.set r i t)
theorem bp.append:∀{xs ys:ac V} {us ws:ac Value},bp xs us->bp ys ws->bp (xs++ys) (us++ws)
 |_,_,_,_,.nil,s=>s
 |_,_,_,_,.cons r t,s=>.cons r (bp.append t s)
theorem bp.take:∀{xs:ac V} {us:ac Value} (n:ah),bp xs us->bp (xs.take n) (us.take n)
 |_,_,0,_=>.nil
 |_,_,_+1,.nil=>.nil
 |_,_,n+1,.cons r t=>.cons r (bp.take n t)
theorem bp.drop:∀{xs:ac V} {us:ac Value} (n:ah),bp xs us->bp (xs.drop n) (us.drop n)
 |_,_,0,r=>r
 |_,_,_+1,.nil=>.nil
 |_,_,n+1,.cons _ t=>bp.drop n t
def fJ:ar V->ar Value->Prop
 |some v,aa u=>bC v u
 |none,ae=>True
 |_,_=>False
variable {κ:Type}
noncomputable def KV :ac (κ×V)->ac (κ×Value)->Prop:=Paired fun(p:κ×V) (q:κ×Value)=>p.1=q.1/\bC p.2 q.2
def kV:Key->V
 |.inl i=>.int i
 |.inr x=>.str x
inductive HO where
 |lst (xs:ac V)
 |tup (xs:ac V)
 |dK (kvs:ac (Key×V))|dT (kvs:ac (ac Key×V))
 |set (S:ag->ba) (n:ah)
 |ins (C dx:av) (fs:ac (aj×V))
 |own (x:av)
 |xd (fs:ac (aj×V))
 |frz (o:Obj) (u:HO)
 |tbl (ps:b7 Value)
 |ext (φ:Heap->Prop)
noncomputable abbrev Hp:=av->ar HO
noncomputable def upd (H:Hp) (a:av) (o:HO):Hp:=fun b=>if b=a then aa o else H b
variable {H:Hp} {a:av}
theorem bK {o:HO} :upd H a o a=aa o:=by unfold upd;rw[qY rfl]
theorem aO {b:av} {o:HO} (h:b≠a):upd H a o b=H b:=by unfold upd;rw[qZ h]
theorem xP {b:av} {o u:HO} (h:H a=aa o) (h':H b=aa u) (d:o≠u):a≠b:=by intro e;subst e;rw[h] at h';exact d (qH h')
theorem ce {b:av} {o:HO} (h:H a=aa o) (h':H b=ae):a≠b:=by intro e;subst e;rw[h] at h';cases h'
section
variable (P:ef) (w:cT)
def cI (H:Hp) (h:Heap) (a:av):HO->Prop
 |.lst xs=>xs.length<=aL/\∃(its:ac Value) (n:ah),bp xs its/\h.get? a=aa {cls:=.type "list",data:=.seq its.toArray n}
 |.tup xs=>xs.length<=aL/\∃its:ac Value,bp xs its/\vd h a its.toArray
 |.dK kvs=>kvs.length<=aL/\(a==lV)=aq/\∃vs,KV kvs vs/\h.DictOf (dB P w) a vs
 |.dT kvs=>kvs.length<=aL/\(a==lV)=aq/\∃xs:ac (ac Key×av×Value),
   Paired (fun(p:ac Key×V) (q:ac Key×av×Value)=>p.1=q.1/\H q.2.1=aa (.tup (p.1.map kV))/\bC p.2 q.2.2) kvs xs /\
   ∃o es ep,h.get? a=aa o/\o.ExactDict/\o.data=.dict es ep/\es.toList=xs.map (entryOfKey (nt (dB P w)))/\(xs.map (·.1)).Nodup
 |.set S n=>h.SetOf (intKind P w) a S n
 |.ins C dx fs=>H dx=aa (.own a)/\fs.length<=1000/\dx≠a/\h.get? a=aa (nv C dx) /\
   ∃mA,h.Ns1 dx mA/\(∀f,fJ (fs.lookup f) (mA f))/\FZ mA (fs.map (·.1))
 |.own _=>∃o,h.get? a=aa o
 |.xd fs=>∃mA,h.Ns1 a mA/\∀f,fJ (fs.lookup f) (mA f)
 |.frz o u=>h.get? a=aa o/\cI H h a u
 |.tbl ps=>h.get? a=aa {cls:=.none,data:=.fields ps}
 |.ext φ=>φ h/\(∃o,h.get? a=aa o)/\∀h1 h2:Heap,φ h1->(∀o,h1.get? a=aa o->h2.get? a=aa o)->φ h2
noncomputable def HOk (H:Hp) (h:Heap):Prop:=∀a o,H a=aa o->cI P w H h a o
end
variable {P:ef} {w:cT} {H':Hp} {h':Heap}
section
variable {h:Heap} {o:HO}
theorem cI.lt (x:cI P w H h a o):a<h.objs.size:=by
 cases o with
 |lst xs=>obtain⟨_,_,_,_,e⟩:=x;exact qu e
 |tup xs=>obtain⟨_,_,_,p⟩:=x;exact p.lt
 |dK kvs=>obtain⟨_,_,_,_,o,_,_,e,_⟩:=x;exact qu e
 |dT kvs=>obtain⟨_,_,_,_,o,_,_,e,_⟩:=x;exact qu e
 |set S n=>obtain⟨o,_,_,_,e,_⟩:=x;exact qu e
 |ins C dx fs=>obtain⟨_,_,_,e,_⟩:=x;exact qu e
 |own y=>obtain⟨_,e⟩:=x;exact qu e
 |xd fs=>obtain⟨_,⟨_,_,_,e,_⟩,_⟩:=x;exact qu e
 |frz ob u=>obtain⟨e,_⟩:=x;exact qu e
 |tbl ps=>exact qu (show h.get? a=aa _ from x)
 |ext φ=>obtain⟨_,⟨_,e⟩,_⟩:=x;exact qu e
theorem Paired.mapP {α β:Type} {F G:α->β->Prop}:∀{l₁:ac α} {l₂:ac β},Paired F l₁ l₂->(∀a b,F a b->G a b)->Paired G l₁ l₂
 |_,_,.nil,_=>.nil
 |_,_,.cons r t,f=>.cons (f _ _ r) (Paired.mapP t f)
theorem cI.stay (x:cI P w H h a o) (k:∀b u,(b=a\/H b=aa (.own a))->h.get? b=aa u->h'.get? b=aa u)
  (ho:∀b,H b=aa (.own a)->H' b=aa (.own a)) (ht:∀b xs,H b=aa (.tup xs)->H' b=aa (.tup xs)):cI P w H' h' a o:=by
 induction o with
 |lst xs=>obtain⟨z,its,n,r,e⟩:=x;exact⟨z,its,n,r,k _ _ .(aq) e⟩
 |tup xs=>obtain⟨z,its,r,ob,e,c⟩:=x;exact⟨z,its,r,ob,k _ _ .(aq) e,c⟩
 |dK kvs=>obtain⟨z,y,vs,r,ob,es,ep,e,c⟩:=x;exact⟨z,y,vs,r,ob,es,ep,k _ _ .(aq) e,c⟩
 |dT kvs=>
  obtain⟨z,y,xs,r,ob,es,ep,e,c⟩:=x;exact⟨z,y,xs,Paired.mapP r fun p q z=>⟨z.1,ht _ _ z.2.1,z.2.2⟩,ob,es,ep,k _ _ .(aq) e,c⟩
 |set S n=>obtain⟨ob,es,ep,t,e,c⟩:=x;exact⟨ob,es,ep,t,k _ _ .(aq) e,c⟩
 |ins C dx fs=>
  obtain⟨d,z,ne,e,mA,⟨od,es,ep,e2,c⟩,r⟩:=x;exact⟨ho _ d,z,ne,k _ _ .(aq) e,mA,⟨od,es,ep,k _ _ (.inr d) e2,c⟩,r⟩
 |own y=>obtain⟨ob,e⟩:=x;exact⟨ob,k _ _ .(aq) e⟩
 |xd fs=>obtain⟨mA,⟨od,es,ep,e,c⟩,r⟩:=x;exact⟨mA,⟨od,es,ep,k _ _ .(aq) e,c⟩,r⟩
 |frz ob u ih=>obtain⟨e,q⟩:=x;exact⟨k _ _ .(aq) e,ih q⟩
 |tbl ps=>
  have e:h.get? a=aa {cls:=.none,data:=.fields ps}:=x;show h'.get? a=aa {cls:=.none,data:=.fields ps};exact k a _ .(aq) e
 |ext φ=>obtain⟨p,⟨o,e⟩,st⟩:=x;exact⟨st _ _ p fun o q=>k _ _ .(aq) q,⟨o,k _ _ .(aq) e⟩,st⟩
theorem HOk.lt (x:HOk P w H h) (e:H a=aa o):a<h.objs.size:=(x a o e).lt
theorem HOk.fresh (x:HOk P w H h) (e:h.objs.size<=a):H a=ae:=by
 cases q:H a with
 |none=>rfl
 |some u=>exact bB (qF (x.lt q) e) (oQ _)
theorem HOk.kept (x:HOk P w H h) (k:∀b u,h.get? b=aa u->h'.get? b=aa u):HOk P w H h':=fun a o e=>
 (x a o e).stay (fun b u _ q=>k b u q) (fun _ q=>q) fun _ _ q=>q
theorem HOk.laid (x:HOk P w H h) (k:∀b u,h.get? b=aa u->h'.get? b=aa u) (hp:h.objs.size<=a) (new:cI P w (upd H a o) h' a o):HOk P w (upd H a o) h':=fun b u e=>by
 have hn:=x.fresh hp;by_cases hb:b=a
 .subst hb;rw[bK] at e;cases e;exact new
 .rw[aO hb] at e;exact(x b u e).stay (fun c v _ q=>k c v q) (fun c q=>by rw[aO (ce q hn)];exact q) fun c xs q=>by rw[aO (ce q hn)];exact q
end
noncomputable def Rd (H:Hp) (a:av) (u:HO):Prop:=H a=aa u\/∃o,H a=aa (.frz o u)
theorem Rd.ok {h:Heap} {u:HO} (r:Rd H a u) (x:HOk P w H h):cI P w H h a u:=by
 rcases r with r|⟨o,r⟩
 .exact x a u r
 .obtain⟨_,q⟩:=x a _ r;exact q
def Mut:ar HO->Prop
 |some (.lst _)=>True
 |some (.dK _)=>True
 |some (.dT _)=>True
 |some (.set _ _)=>True
 |some (.ins _ _ _)=>True
 |some (.ext _)=>True
 |_=>False
section
variable {h:Heap} {x e:av} {o':HO}
theorem HOk.write (ok:HOk P w H h) (mu:Mut (H x)) (he:e=x\/H e=aa (.own x)) (k:∀b u,b≠e->h.get? b=aa u->h'.get? b=aa u) (heo:∃u,h'.get? e=aa u)
  (new:cI P w (upd H x o') h' x o'):HOk P w (upd H x o') h':=fun b u q=>by
 have nown:∀c y,H c=aa (.own y)->c≠x:=fun c y r z=>by subst z;rw[r] at mu;exact mu
 have ntup:∀c xs,H c=aa (.tup xs)->c≠x:=fun c xs r z=>by subst z;rw[r] at mu;exact mu
 by_cases hb:b=x
 .subst hb;rw[bK] at q;cases q;exact new
 .rw[aO hb] at q;by_cases hbe:b=e
  .have q':H b=aa (.own x):=by
    rcases he with z|z
    .exact bB (hbe.trans z) hb
    .rw[hbe];exact z
   rw[q] at q';cases q';obtain⟨v,hv⟩:=heo;exact⟨v,by rw[hbe];exact hv⟩
  .refine(ok b u q).stay (fun c v hc r=>k c v ?_ r) (fun c r=>by rw[aO (nown c b r)];exact r) fun c xs r=>by rw[aO (ntup c xs r)];exact r
   rcases hc with rfl|hc
   .exact hbe
   .rintro rfl;rcases he with z|z
    .exact nown c b hc z
    .rw[hc] at z;cases z;exact hb rfl
end
structure Un (fs ex:ac av) (H H':Hp) (h h':Heap):Prop where
 keep:∀b o,h.get? b=aa o->H b=ae->b∉fs->b∉ex->h'.get? b=aa o
 slot:∀b o,h.get? b=aa o->H b=ae->b∈fs->b∉ex->∃sl,h'.get? b=aa {o with slots:=sl}
 free:∀b o,h.get? b=aa o->H b=ae->b∉ex->H' b=ae
 there:∀b o,h.get? b=aa o->b∉ex->∃o',h'.get? b=aa o'
 tups:∀b xs,H b=aa (.tup xs)->H' b=aa (.tup xs)
 frzs:∀b o u,H b=aa (.frz o u)->H' b=aa (.frz o u)
 tbls:∀b ps,H b=aa (.tbl ps)->∃more,H' b=aa (.tbl (ps++more))
variable {H1 H2:Hp} {h1 h2:Heap}
section
variable {fs fs' ex ex':ac av} {h:Heap} {x e:av} {o:HO}
theorem Un.any (u:Un fs ex H H1 h h1) {b:av} {ob:Obj} (q:h.get? b=aa ob) (n:H b=ae) (hx:b∉ex):∃sl,h1.get? b=aa {ob with slots:=sl}:=by
 by_cases hb:b∈fs
 .exact u.slot b ob q n hb hx
 .exact⟨ob.slots,u.keep b ob q n hb hx⟩
theorem Un.kept (k:∀b u,h.get? b=aa u->h'.get? b=aa u):Un fs ex H H h h':=
 ⟨fun b ob q _ _ _=>k b ob q,fun b ob q _ _ _=>⟨ob.slots,k b ob q⟩,fun _ _ _ n _=>n,fun b ob q _=>⟨ob,k b ob q⟩,fun _ _ q=>q,fun _ _ _ q=>q,fun _ ps q=>⟨#[],by rw[q];simp⟩⟩
theorem Un.refl:Un fs ex H H h h:=Un.kept fun _ _ q=>q
theorem Un.laid (k:∀b u,h.get? b=aa u->h'.get? b=aa u) (hp:h.objs.size<=a) (hn:H a=ae):Un fs ex H (upd H a o) h h' where
 keep:=fun b u q _ _ _=>k b u q
 slot:=fun b u q _ _ _=>⟨u.slots,k b u q⟩
 free:=fun b u q n _=>by rw[aO (qC (qF (qu q) hp))];exact n
 there:=fun b u q _=>⟨u,k b u q⟩
 tups:=fun b xs q=>by rw[aO (ce q hn)];exact q
 frzs:=fun b u xs q=>by rw[aO (ce q hn)];exact q
 tbls:=fun b ps q=>⟨#[],by rw[aO (ce q hn),q];simp⟩
theorem Un.write (mu:Mut (H x)) (he:e=x\/H e=aa (.own x)) (k:∀b u,b≠e->h.get? b=aa u->h'.get? b=aa u) (heo:∃u,h'.get? e=aa u):Un fs ex H (upd H x o) h h':=by
 have hx:∀b,H b=ae->b≠x:=fun b n z=>by subst z;rw[n] at mu;exact mu
 have hb:∀b,H b=ae->b≠e:=fun b n z=>by
  subst z;rcases he with r|r
  .exact hx b n r
  .rw[n] at r;cases r
 have hm:∀b u,H b=aa u->¬Mut (aa u)->b≠x:=fun b u q nm z=>by subst z;rw[q] at mu;exact nm mu
 refine⟨fun b u q n _ _=>k b u (hb b n) q,fun b u q n _ _=>⟨u.slots,k b u (hb b n) q⟩,fun b u q n _=>by rw[aO (hx b n)];exact n,fun b u q _=>?_,
  fun b xs q=>by rw[aO (hm b _ q fun z=>z)];exact q,fun b u xs q=>by rw[aO (hm b _ q fun z=>z)];exact q,fun b ps q=>⟨#[],by rw[aO (hm b _ q fun z=>z),q];simp⟩⟩
 by_cases hbe:b=e
 .subst hbe;exact heo
 .exact⟨u,k b u hbe q⟩
end
noncomputable def trk (h:Heap) (H:Hp):ac av:=(cz h.objs.size).filter fun a=>(H a).isSome
def kT (h:Heap) (H:Hp):Heap:=zu h (trk h H)
theorem LP (h:Heap) (H:Hp):(kT h H).objs.size=h.objs.size:=PySem.W.hideAll_size _ _
theorem Jq {h:Heap} {b:av} {o:Obj} (e:h.get? b=aa o) (n:H b=ae):(kT h H).get? b=aa o:=
 ve _ e fun hm=>by have q:(H b).isSome=al:=(oR.mp hm).2;rw[n] at q;simp at q
theorem J9 {h:Heap} {b:av} {o:Obj} (e:(kT h H).get? b=aa o):h.get? b=aa o/\H b=ae:=by
 have e':h.get? b=aa o:=SD (trk h H) e;refine⟨e',?_⟩;cases q:H b with
 |none=>rfl
 |some x=>
  have hm:b∈trk h H:=oR.mpr ⟨fV.mpr (qu e'),by simp[q]⟩;have z:(kT h H).get? b=ae:=SE (trk h H) hm;rw[z] at e;cases e
noncomputable def Nu (g h:Heap) (L:av):ac (av×Obj):=(cz h.objs.size).filterMap fun a=>if a=L\/(g.get? a).isSome=al then ae else (h.get? a).map fun o=>(a,o)
def bz (g h:Heap) (L d:av):ac (av×Obj):=(Nu g h L).filter fun p=>decide (p.1≠d)
structure Mod (K:aV) (mg:aj->ar Value) (base:Heap):Prop where
 kin:K.In base
 glob:base.Ns dL mg
 blt:∃mb,base.Ns F0 mb/\∀x:aj,x≠"__name__"->mb x=lW x
 nolimit:base.NoLimit
structure Cx where
 prog:ef
 w:cT
 K:aV
 mg:aj->ar Value
 base:Heap
 A:eU
 N:ac aj
 s₀:aH
 H₀:Hp
 env:cN
 outer:ac cN
 stack:ac cN
 ex:ac av
 fn:aj->ba
 calm:ba
 pn:ac (av×Obj)
 xe:Value->aH->Prop
noncomputable def frs (l:ac cN):ac av:=l.filterMap (·.frame)
abbrev Cx.fs (X:Cx):ac av:=frs X.outer
noncomputable def Vis (sc:Scope) (x:aj):Prop:=sc.names.lookup x=aa .local\/sc.names.lookup x=aa .cell\/sc.names.lookup x=aa .free
noncomputable def Loc (sc:Scope) (x:aj):Prop:=sc.names.lookup x=aa .local\/sc.names.lookup x=aa .cell
noncomputable def Ro (env:cN) (h:Heap) (m:aj->ar Value) (x:aj) (u:Value):Prop:=
 (env.kindOf x=aa .local/\m x=aa u)\/((env.kindOf x=aa .cell\/env.kindOf x=aa .free)/\∃c,env.cells.lookup x=aa c/\h.IsCell c (aa u))
structure Cx.Ok (X:Cx):Prop where
 mod:Mod X.K X.mg X.base
 kind:X.env.scope.kind=.function
 glob:X.env.globals=dL
 blt:X.env.builtins=F0
 above:X.s₀.heap.objs.size<=X.env.locals
 inj:∀x y c,X.env.cells.lookup x=aa c->X.env.cells.lookup y=aa c->x=y
 has:∀x,(X.env.kindOf x=aa .cell\/X.env.kindOf x=aa .free)->∃c,X.env.cells.lookup x=aa c
 cab:∀x c,X.fn x=al->X.env.cells.lookup x=aa c->X.s₀.heap.objs.size<=c
 hd:X.calm=al->X.A.handled=ae
 frames:X.A.frames=aa X.stack
 stk:X.stack=X.outer\/(X.stack=X.env::X.outer/\X.env.frame=aa X.env.locals)
 exf:∀b∈X.ex,b≠X.env.locals/\∀x c,X.env.cells.lookup x=aa c->c≠b
 bs:∀b o,X.base.get? b=aa o->X.s₀.heap.get? b=aa o/\X.H₀ b=ae
 bsz:X.base.objs.size<=X.s₀.heap.objs.size
 noex:∀b o,X.base.get? b=aa o->b∉X.ex
 exfs:∀b∈X.ex,b∉X.fs
 funs:X.s₀.heap.FunFrames X.base X.outer
 frf:∀b∈X.fs,X.H₀ b=ae
structure Inv (X:Cx) (pins:ac (av×Obj)) (σ:ac (ar V)) (H:Hp) (s:aH):Prop where
 ok:X.Ok
 os:s.os=X.s₀.os
 bare:kY s.gens
 base:Un X.fs X.ex X.H₀ H X.s₀.heap s.heap
 loc:∃m,s.heap.Ns X.env.locals m/\∀(i:ah) (x:aj) (v:V),X.N[i]?=aa x->σ[i]?=aa (aa v)->Vis X.env.scope x->∃u,bC v u/\Ro X.env s.heap m x u
 cell:∀x c,X.env.cells.lookup x=aa c->∃v,s.heap.IsCell c v
 free:H X.env.locals=ae
 freeC:∀x c,X.env.cells.lookup x=aa c->H c=ae
 pin:∀p∈X.pn++pins,s.heap.get? p.1=aa p.2/\H p.1=ae/\p.1≠X.env.locals/\p.1∉X.fs/\∀v,p.2.data≠.cell v
 hok:HOk X.prog X.w H s.heap
 len:σ.length=X.N.length
variable {X:Cx} {pins:ac (av×Obj)} {s s':aH} {t' i j:ah} {d':Drawn} {N:ac aj} {x:aj} {A:eU} {E:Value->aH->Prop} {v:V} {u:Value}
section
variable {σ:ac (ar V)}
theorem Cx.Ok.nofr (ok:X.Ok) {b:av} {o:Obj} (e:X.base.get? b=aa o):b∉X.fs:=fun hb=>by have:=(ok.funs.mem hb).1;rw[e] at this;cases this
theorem Inv.bs (I:Inv X pins σ H s):∀b o,X.base.get? b=aa o->s.heap.get? b=aa o/\H b=ae:=fun b o e=>
 ⟨I.base.keep b o (I.ok.bs b o e).1 (I.ok.bs b o e).2 (I.ok.nofr e) (I.ok.noex b o e),I.base.free b o (I.ok.bs b o e).1 (I.ok.bs b o e).2 (I.ok.noex b o e)⟩
theorem Inv.bk (I:Inv X pins σ H s):∀b o,X.base.get? b=aa o->s.heap.get? b=aa o:=fun b o e=>(I.bs b o e).1
theorem Inv.mod (I:Inv X pins σ H s):Mod X.K X.mg X.base:=I.ok.mod
theorem Inv.kIn (I:Inv X pins σ H s):X.K.In s.heap:=I.ok.mod.kin.keeps I.bk
theorem Inv.lt (I:Inv X pins σ H s):X.env.locals<s.heap.objs.size:=let ⟨_,hn,_⟩:=I.loc;hn.lt
theorem Inv.sz (I:Inv X pins σ H s):X.s₀.heap.objs.size<=s.heap.objs.size:=qM I.ok.above (sv I.lt)
theorem Inv.nofs (I:Inv X pins σ H s) (h:s.heap.objs.size<=a):a∉X.fs:=fun hb=>by obtain⟨_,o,ho,_⟩:=I.ok.funs.mem hb;exact bB (qF (qu ho) (qM I.sz h)) (oQ _)
theorem Inv.cne (I:Inv X pins σ H s):∀x c,X.env.cells.lookup x=aa c->c≠X.env.locals:=fun x c e z=>by obtain⟨v,o,ho,hd⟩:=I.cell x c e;obtain⟨m,⟨o',es,ep,ho',hd',_⟩,_⟩:=I.loc;rw[z,ho'] at ho;cases ho;rw[hd'] at hd;cases hd
theorem Inv.funs (I:Inv X pins σ H s):s.heap.FunFrames X.base X.outer:=by
 have all:∀(l:ac cN),(∀b∈frs l,b∈X.fs)->X.s₀.heap.FunFrames X.base l->s.heap.FunFrames X.base l:=by
  intro l
  induction l with
  |nil=>intro _ _;trivial
  |cons env r ih=>
   intro hs hl;obtain⟨hk,⟨L,o,hf,hn,ho,hd⟩,hr⟩:=hl;have hL:L∈X.fs:=hs L (by unfold frs;rw[F2,hf];exact qf);obtain⟨sl,e⟩:=I.base.slot L o ho (I.ok.frf L hL) hL fun z=>I.ok.exfs L z hL;exact⟨hk,⟨L,_,hf,hn,e,hd⟩,ih (fun b hb=>hs b (by unfold frs;rw[F2,hf];exact qg _ hb)) hr⟩
 exact all X.outer (fun _ hb=>hb) I.ok.funs
theorem Inv.stack (I:Inv X pins σ H s):s.heap.FunFrames X.base X.stack:=by
 rcases I.ok.stk with e|⟨e,hf⟩
 .rw[e];exact I.funs
 .rw[e];obtain⟨m,hn,_⟩:=I.loc;refine .cons (by rw[I.ok.kind];decide) hf hn ?_ I.funs;exact F3 (qM I.ok.bsz I.ok.above)
theorem Inv.stkSub (I:Inv X pins σ H s):∀b∈frs X.stack,b∈X.env.locals::X.fs:=fun b hb=>by
 rcases I.ok.stk with e|⟨e,hf⟩
 .rw[e] at hb;exact qg _ hb
 .rw[e] at hb;unfold frs at hb;rw[F2,hf] at hb;exact hb
theorem Inv.stkFree (I:Inv X pins σ H s):∀b∈frs X.stack,H b=ae:=fun b hb=>by
 rcases cy.mp (I.stkSub b hb) with e|hb
 .rw[e];exact I.free
 .obtain⟨_,o,ho,_⟩:=I.ok.funs.mem hb;exact I.base.free b o ho (I.ok.frf b hb) fun z=>I.ok.exfs b z hb
theorem Inv.step {g':b7 sw} {ch:ac av} (I:Inv X pins σ H s)
  (hch:∀b∈ch,(b∈X.ex\/X.s₀.heap.objs.size<=b)/\b≠X.env.locals/\(∀x c,X.env.cells.lookup x=aa c->c≠b)/\∀p∈X.pn++pins,p.1≠b)
  (keep:∀b o,b≠X.env.locals->b∉X.fs->b∉ch->s.heap.get? b=aa o->H b=ae->h'.get? b=aa o)
  (slot:∀b o,b≠X.env.locals->b∈X.fs->b∉ch->s.heap.get? b=aa o->H b=ae->∃sl,h'.get? b=aa {o with slots:=sl}) (free:∀b o,b∉ch->s.heap.get? b=aa o->H b=ae->H' b=ae)
  (there:∀b o,b∉ch->s.heap.get? b=aa o->∃o',h'.get? b=aa o')
  (tups:∀b xs,H b=aa (.tup xs)->H' b=aa (.tup xs)) (frzs:∀b o u,H b=aa (.frz o u)->H' b=aa (.frz o u)) (tbls:∀b ps,H b=aa (.tbl ps)->∃more,H' b=aa (.tbl (ps++more)))
  (ns:∀m,s.heap.Ns X.env.locals m->h'.Ns X.env.locals m) (hok:HOk X.prog X.w H' h') (hg:kY g') :
  Inv X pins σ H' {s with heap:=h',gens:=g',drawn:=d',toks:=t'}:=by
 have neL:∀b o,X.s₀.heap.get? b=aa o->b≠X.env.locals:=fun b o e=>qC (qF (qu e) I.ok.above);have neC:∀b o,X.s₀.heap.get? b=aa o->b∉X.ex->b∉ch:=fun b o e hx hb=>by
  rcases(hch b hb).1 with z|z
  .exact hx z
  .exact bB (qF (qu e) z) (oQ _)
 have cellK:∀x c,X.env.cells.lookup x=aa c->∀v,s.heap.IsCell c v->h'.IsCell c v:=fun x c e v ⟨o,ho,hd⟩=>by
  have nch:c∉ch:=fun z=>(hch c z).2.2.1 x c e rfl;by_cases hc:c∈X.fs
  .obtain⟨sl,q⟩:=slot c o (I.cne x c e) hc nch ho (I.freeC x c e);exact⟨_,q,hd⟩
  .exact⟨o,keep c o (I.cne x c e) hc nch ho (I.freeC x c e),hd⟩
 refine⟨I.ok,I.os,hg,⟨fun b o e n hb hx=>?_,fun b o e n hb hx=>?_,fun b o e n hx=>?_,fun b o e hx=>?_,fun b xs e=>tups b xs (I.base.tups b xs e),fun b o xs e=>frzs b o xs (I.base.frzs b o xs e),fun b ps e=>?_⟩,?_,fun x c e=>?_,?_,fun x c e=>?_,fun p hp=>?_,hok,I.len⟩
 .exact keep b o (neL b o e) hb (neC b o e hx) (I.base.keep b o e n hb hx) (I.base.free b o e n hx)
 .obtain⟨sl,e1⟩:=I.base.slot b o e n hb hx;obtain⟨sl',e2⟩:=slot b _ (neL b o e) hb (neC b o e hx) e1 (I.base.free b o e n hx);exact⟨sl',e2⟩
 .obtain⟨o',e1⟩:=I.base.there b o e hx;exact free b o' (neC b o e hx) e1 (I.base.free b o e n hx)
 .obtain⟨o',e1⟩:=I.base.there b o e hx;exact there b o' (neC b o e hx) e1
 .obtain⟨m1,e1⟩:=I.base.tbls b ps e;obtain⟨m2,e2⟩:=tbls b _ e1;exact⟨m1++m2,by rw[e2,Array.append_assoc]⟩
 .obtain⟨m,hn,hl⟩:=I.loc;refine⟨m,ns m hn,fun i x v e1 e2 e3=>?_⟩;obtain⟨u,r,l⟩:=hl i x v e1 e2 e3;refine⟨u,r,?_⟩;rcases l with l|⟨k,c,e,z⟩
  .exact .inl l
  .exact .inr ⟨k,c,e,cellK x c e _ z⟩
 .obtain⟨v,z⟩:=I.cell x c e;exact⟨v,cellK x c e v z⟩
 .obtain⟨m,⟨o,_,_,ho,_⟩,_⟩:=I.loc;exact free _ o (fun z=>(hch _ z).2.1 rfl) ho I.free
 .obtain⟨v,o,ho,hd⟩:=I.cell x c e;exact free c o (fun z=>(hch c z).2.2.1 x c e rfl) ho (I.freeC x c e)
 .obtain⟨e,n,ne,nf,d⟩:=I.pin p hp;have nch:p.1∉ch:=fun z=>(hch p.1 z).2.2.2 p hp rfl;exact⟨keep p.1 p.2 ne nf nch e n,free p.1 p.2 nch e n,ne,nf,d⟩
theorem Inv.un (I:Inv X pins σ H s) (u:Un X.fs [] H H' s.heap h') (hok:HOk X.prog X.w H' h'):Inv X pins σ H' {s with heap:=h',toks:=t'}:=by
 obtain⟨m,⟨o,es,ep,ho,r⟩,_⟩:=id I.loc;obtain⟨sl,hL⟩:=u.any ho I.free (by simp);exact I.step (g':=s.gens) (d':=s.drawn) (ch:=[]) .(ae) (fun b o _ hb _ e n=>u.keep b o e n hb (by simp)) (fun b o _ hb _ e n=>u.slot b o e n hb (by simp)) (fun b o _ e n=>u.free b o e n (by simp)) (fun b o _ e=>u.there b o e (by simp)) u.tups u.frzs u.tbls (fun m' hm=>by obtain⟨o',es',ep',ho',r'⟩:=hm;rw[ho] at ho';cases ho';exact⟨_,es',ep',hL,r'⟩) hok I.bare
theorem Inv.call {g':b7 sw} {ch:ac av} (I:Inv X pins σ H s) (u:Un (frs X.stack) ch H H' s.heap h') (hok:HOk X.prog X.w H' h') (hg:kY g')
  (hch:∀b∈ch,(b∈X.ex\/X.s₀.heap.objs.size<=b)/\b≠X.env.locals/\(∀x c,X.env.cells.lookup x=aa c->c≠b)/\∀p∈X.pn++pins,p.1≠b) :
  Inv X pins σ H' {s with heap:=h',gens:=g',drawn:=d',toks:=t'}:=by
 obtain⟨m,⟨o,es,ep,ho,r⟩,_⟩:=id I.loc;obtain⟨sl,hL⟩:=u.any ho I.free fun z=>(hch _ z).2.1 rfl;exact I.step (ch:=ch) hch (fun b o hL hb hc e n=>u.keep b o e n (fun z=>(cy.mp (I.stkSub b z)).elim hL hb) hc) (fun b o _ _ hc e n=>u.any e n hc) (fun b o hc e n=>u.free b o e n hc) (fun b o hc e=>u.there b o e hc) u.tups u.frzs u.tbls (fun m' hm=>by obtain⟨o',es',ep',ho',r'⟩:=hm;rw[ho] at ho';cases ho';exact⟨_,es',ep',hL,r'⟩) hok hg
theorem Inv.turned {it:av} (I:Inv X pins σ H s) (k:∀b o,b≠it->s.heap.get? b=aa o->h'.get? b=aa o) (hn:H it=ae) (hL:it≠X.env.locals)
  (h1:it∈X.ex\/X.s₀.heap.objs.size<=it) (h2:∀x c,X.env.cells.lookup x=aa c->c≠it) (h3:∀p∈X.pn++pins,p.1≠it):Inv X pins σ H {s with heap:=h',toks:=t'}:=by
 have nit:∀b u,H b=aa u->b≠it:=fun b u e z=>by rw[z,hn] at e;cases e
 refine I.step (g':=s.gens) (d':=s.drawn) (ch:=[it]) (fun b hb=>?_) (fun b o _ _ hc e _=>k b o (fun z=>hc (by simp[z])) e) (fun b o _ _ hc e _=>⟨o.slots,k b o (fun z=>hc (by simp[z])) e⟩) (fun _ _ _ _ n=>n)
  (fun b o hc e=>⟨o,k b o (fun z=>hc (by simp[z])) e⟩) (fun _ _ e=>e) (fun _ _ _ e=>e) (fun b ps e=>⟨#[],by rw[e];simp⟩) (fun m hm=>?_) (fun b u e=>?_) I.bare
 .have e:b=it:=by simpa using hb
  subst e;exact⟨h1,hL,h2,h3⟩
 .obtain⟨o,es,ep,ho,r⟩:=hm;exact⟨o,es,ep,k _ o (eh hL) ho,r⟩
 .refine(I.hok b u e).stay (fun c v hc q=>k c v ?_ q) (fun _ q=>q) fun _ _ q=>q;rcases hc with z|z
  .rw[z];exact nit b u e
  .exact nit c _ z
theorem Inv.tok (I:Inv X pins σ H s) (t:ah):Inv X pins σ H {s with toks:=t}:=I.un (h':=s.heap) (t':=t) Un.refl I.hok
theorem Inv.kept {t':ah} (I:Inv X pins σ H s) (k:∀b u,s.heap.get? b=aa u->h'.get? b=aa u):Inv X pins σ H {s with heap:=h',toks:=t'}:=I.un (Un.kept k) (I.hok.kept k)
theorem Inv.laid {a:av} {o:HO} {t':ah} (I:Inv X pins σ H s) (k:∀b u,s.heap.get? b=aa u->h'.get? b=aa u) (hp:s.heap.objs.size<=a) (new:cI X.prog X.w (upd H a o) h' a o) :
  Inv X pins σ (upd H a o) {s with heap:=h',toks:=t'}:=I.un (Un.laid k hp (I.hok.fresh hp)) (I.hok.laid k hp new)
theorem Inv.write {x e:av} {o:HO} {t':ah} (I:Inv X pins σ H s) (mu:Mut (H x)) (he:e=x\/H e=aa (.own x)) (k:∀b u,b≠e->s.heap.get? b=aa u->h'.get? b=aa u) (heo:∃u,h'.get? e=aa u)
  (new:cI X.prog X.w (upd H x o) h' x o):Inv X pins σ (upd H x o) {s with heap:=h',toks:=t'}:=I.un (Un.write mu he k heo) (I.hok.write mu he k heo new)
theorem Inv.pins_of {pins':ac (av×Obj)} (I:Inv X pins σ H s) (h:∀p∈pins',s.heap.get? p.1=aa p.2/\H p.1=ae/\p.1≠X.env.locals/\p.1∉X.fs/\∀v,p.2.data≠.cell v):Inv X pins' σ H s:=
 ⟨I.ok,I.os,I.bare,I.base,I.loc,I.cell,I.free,I.freeC,fun p hp=>(cD.mp hp).elim (fun z=>I.pin p (zw _ z)) (h p),I.hok,I.len⟩
theorem wv (hN:N.Nodup) (a:N[i]?=aa x) (b:N[j]?=aa x):i=j:=by obtain⟨h1,e1⟩:=db.mp a;obtain⟨h2,e2⟩:=db.mp b;exact(List.getElem_inj hN).mp (e1.trans e2.symm)
theorem Bs {M:kZ} {Q:jk->aH->Prop} (I:Inv X pins σ H s) (hN:X.N.Nodup) (hi:X.N[i]?=aa x) (hx:Loc X.env.scope x) (r:bC v u)
  (h:∀s',Inv X pins (σ.set i (aa v)) H s'->(∃a,jp a s.heap s'.heap/\(a=X.env.locals\/X.env.cells.lookup x=aa a))->Q () s') (hf:X.fn x=al\/X.env.scope.names.lookup x=aa .local:=by ac_nf):aG M A (storeName X.env x u) Q E s:=by
 obtain⟨m,hn,hl⟩:=id I.loc;have hcls:(X.env.scope.kind==.class || (X.env.scope.kind==.module && X.env.locals != X.env.globals))=aq:=by rw[I.ok.kind];rfl
 have hiσ:i < σ.length:=by rw[I.len];exact(db.mp hi).1
 have cne:=I.cne;have tracked:∀{a:av} {h':Heap},(∃o,s.heap.get? a=aa o/\H a=ae)->jp a s.heap h'->HOk X.prog X.w H h':=fun {a h'} ha hs b ob e=>by
  obtain⟨_,_,hfree⟩:=ha;refine(I.hok b ob e).stay (fun c w' hc q=>(hs.2 c ?_).trans q) (fun _ q=>q) fun _ _ q=>q;rintro rfl;rcases hc with rfl|hc
  .rw[hfree] at e;cases e
  .rw[hfree] at hc;cases hc
 rcases hx with hk|hk
 .refine wpAny_storeName_local hk hn (fun h' hn' hs=>?_) hcls;obtain⟨oL,_,_,hoL,_⟩:=id hn;refine h _ ⟨I.ok,I.os,I.bare,⟨fun b o e n hb hx=>?_,fun b o e n hb hx=>?_,I.base.free,fun b o e hx=>?_,I.base.tups,I.base.frzs,I.base.tbls⟩,⟨_,hn',fun j y v' e1 e2 e3=>?_⟩,fun y c e=>?_,I.free,I.freeC,fun p hp=>?_,tracked ⟨oL,hoL,I.free⟩ hs,by simpa using I.len⟩ ⟨_,hs,.inl rfl⟩
  .exact(hs.2 b (qC (qF (qu e) I.ok.above))).trans (I.base.keep b o e n hb hx)
  .obtain⟨sl,e1⟩:=I.base.slot b o e n hb hx;exact⟨sl,(hs.2 b (qC (qF (qu e) I.ok.above))).trans e1⟩
  .obtain⟨o',e1⟩:=I.base.there b o e hx;exact⟨o',(hs.2 b (qC (qF (qu e) I.ok.above))).trans e1⟩
  .by_cases hj:j=i
   .subst hj;rw[hi] at e1;cases e1;rw[ny hiσ] at e2;cases e2;exact⟨u,r,.inl ⟨hk,by simp⟩⟩
   .rw[qy (eh hj)] at e2;obtain⟨u',r',q⟩:=hl j y v' e1 e2 e3;refine⟨u',r',?_⟩;rcases q with⟨k,e⟩|⟨k,c,e,z⟩
    .refine .inl ⟨k,?_⟩;have:y≠x:=fun e=>hj (wv hN e1 (e▸hi));simp[this,e]
    .exact .inr ⟨k,c,e,z.sameBut hs (cne y c e)⟩
  .obtain⟨w',z⟩:=I.cell y c e;exact⟨w',z.sameBut hs (cne y c e)⟩
  .obtain⟨e,n,ne,nf,d⟩:=I.pin p hp;exact⟨(hs.2 p.1 ne).trans e,n,ne,nf,d⟩
 .have hfn:X.fn x=al:=by
   rcases hf with z|z
   .exact z
   .rw[z] at hk;cases hk
  obtain⟨c,hc⟩:=I.ok.has x (.inl hk);obtain⟨w',z⟩:=I.cell x c hc;refine wpAny_storeName_cell I.ok.kind hk hc z (fun h' hc' hs=>?_);obtain⟨oc,hoc,hocd⟩:=id z;refine h {s with heap:=h'} ⟨I.ok,I.os,I.bare,⟨fun b o e n hb hx=>?_,fun b o e n hb hx=>?_,I.base.free,fun b o e hx=>?_,I.base.tups,I.base.frzs,I.base.tbls⟩,⟨m,hn.sameBut hs (eh (cne x c hc)),fun j y v' e1 e2 e3=>?_⟩,fun y c' e=>?_,I.free,I.freeC,fun p hp=>?_,tracked ⟨oc,hoc,I.freeC x c hc⟩ hs,by simpa using I.len⟩ ⟨c,hs,.inr hc⟩
  .exact(hs.2 b (qC (qF (qu e) (I.ok.cab x c hfn hc)))).trans (I.base.keep b o e n hb hx)
  .obtain⟨sl,e1⟩:=I.base.slot b o e n hb hx;exact⟨sl,(hs.2 b (qC (qF (qu e) (I.ok.cab x c hfn hc)))).trans e1⟩
  .obtain⟨o',e1⟩:=I.base.there b o e hx;exact⟨o',(hs.2 b (qC (qF (qu e) (I.ok.cab x c hfn hc)))).trans e1⟩
  .by_cases hj:j=i
   .subst hj;rw[hi] at e1;cases e1;rw[ny hiσ] at e2;cases e2;exact⟨u,r,.inr ⟨.inl hk,c,hc,hc'⟩⟩
   .rw[qy (eh hj)] at e2;obtain⟨u',r',q⟩:=hl j y v' e1 e2 e3;refine⟨u',r',?_⟩;rcases q with q|⟨k,c',e,z'⟩
    .exact .inl q
    .refine .inr ⟨k,c',e,z'.sameBut hs ?_⟩;rintro rfl;exact hj (wv hN e1 (I.ok.inj _ _ _ e hc▸hi))
  .by_cases hcc:c'=c
   .subst hcc;exact⟨_,hc'⟩
   .obtain⟨w2,z2⟩:=I.cell y c' e;exact⟨w2,z2.sameBut hs hcc⟩
  .obtain⟨e,n,ne,nf,d⟩:=I.pin p hp;refine⟨(hs.2 p.1 ?_).trans e,n,ne,nf,d⟩;intro q;rw[q,hoc] at e;have q':oc=p.2:=qH e;exact d w' (by rw[←q'];exact hocd)
theorem yZ {M:kZ} {Q:jk->aH->Prop} (I:Inv X pins σ H s) (hN:X.N.Nodup) (hi:X.N[i]?=aa x) (hx:Loc X.env.scope x) (r:bC v u)
  (h:∀s',Inv X pins (σ.set i (aa v)) H s'->Q () s') (hf:X.fn x=al\/X.env.scope.names.lookup x=aa .local:=by ac_nf):aG M A (storeName X.env x u) Q E s:=
 Bs I hN hi hx r (fun s' I' _=>h s' I') hf
theorem Inv.call' {ch:ac av} (I:Inv X pins σ H s) (ho:s'.os=s.os) (u:Un (frs X.stack) ch H H' s.heap s'.heap) (hok:HOk X.prog X.w H' s'.heap) (hg:kY s'.gens)
  (hch:∀b∈ch,(b∈X.ex\/X.s₀.heap.objs.size<=b)/\b≠X.env.locals/\(∀x c,X.env.cells.lookup x=aa c->c≠b)/\∀p∈X.pn++pins,p.1≠b):Inv X pins σ H' s':=by
 obtain⟨h',g',d',t',o'⟩:=s';have e:o'=s.os:=ho;subst e;exact I.call (g':=g') (t':=t') (d':=d') u hok hg hch
end
abbrev XK:=Value->ar av->Hp->Prop
noncomputable abbrev St:=ac (ar V)
abbrev VK:=V->Hp->Prop
abbrev TE:=St->Hp->VK->Prop
abbrev TT:=St->Hp->(ba->Hp->Prop)->Prop
abbrev TA:=St->Hp->(ac V->Hp->Prop)->Prop
structure Ends where
 nx:St->Hp->Prop
 rt:VK
 bk:St->Hp->Prop:=fun _ _=>False
 ct:St->Hp->Prop:=fun _ _=>False
abbrev TS:=Ends->St->Hp->Prop
noncomputable def EP (X:Cx) (pins:ac (av×Obj)) (σ:St) (Q:VK) (u:Value) (s':aH):Prop:=∃v H',Inv X pins σ H' s'/\bC v u/\Q v H'
noncomputable def TP (X:Cx) (pins:ac (av×Obj)) (σ:St) (Q:ba->Hp->Prop) (b:ba) (s':aH):Prop:=∃H',Inv X pins σ H' s'/\Q b H'
noncomputable def AP (X:Cx) (pins:ac (av×Obj)) (σ:St) (Q:ac V->Hp->Prop) (us:ac Value) (s':aH):Prop:=∃vs H',Inv X pins σ H' s'/\bp vs us/\Q vs H'
noncomputable def SP (X:Cx) (pins:ac (av×Obj)) (D:Ends) (f:Flow) (s':aH):Prop:=
 match f with
 |.next=>∃σ' H',Inv X pins σ' H' s'/\D.nx σ' H'
 |.brk=>∃σ' H',Inv X pins σ' H' s'/\D.bk σ' H'
 |.cont=>∃σ' H',Inv X pins σ' H' s'/\D.ct σ' H'
 |.ret u=>∃v σ' H',Inv X pins σ' H' s'/\bC v u/\D.rt v H'
noncomputable def PE (X:Cx) (e:Expr) (t:TE):Prop:=
 ∀(pins:ac (av×Obj)) (s:aH) (σ:St) (H:Hp) (Q:VK),Inv X pins σ H s->t σ H Q->aG .(k) X.A (eval e X.env) (EP X pins σ Q) X.xe s
noncomputable def PT (X:Cx) (e:Expr) (t:TT):Prop:=
 ∀(pins:ac (av×Obj)) (s:aH) (σ:St) (H:Hp) (Q:ba->Hp->Prop),Inv X pins σ H s->t σ H Q->aG .(k) X.A (isTrue e X.env (eval e X.env)) (TP X pins σ Q) X.xe s
noncomputable def PW (X:Cx) (e:Expr) (t:TT):Prop:=
 ∀(whole:fu Value) (pins:ac (av×Obj)) (s:aH) (σ:St) (H:Hp) (Q:ba->Hp->Prop),Inv X pins σ H s->t σ H Q->aG .(k) X.A (isTrue e X.env whole) (TP X pins σ Q) X.xe s
variable {e:Expr}
theorem PW.pt {t:TT} (h:PW X e t):PT X e t:=h _
noncomputable def PA (X:Cx) (es:ac Expr) (t:TA):Prop:=
 ∀(pos:dh) (pins:ac (av×Obj)) (s:aH) (σ:St) (H:Hp) (Q:ac V->Hp->Prop),Inv X pins σ H s->t σ H Q->aG .(k) X.A (spliced .(aO)) (AP X pins σ Q) X.xe s
noncomputable def PS (X:Cx) (st:Stmt) (t:TS):Prop:=
 ∀(pins:ac (av×Obj)) (s:aH) (σ:St) (H:Hp) (D:Ends),Inv X pins σ H s->t D σ H->aG .(k) X.A (exec st X.env) (SP X pins D) X.xe s
noncomputable def PSs (X:Cx) (st:ac Stmt) (t:TS):Prop:=
 ∀(pins:ac (av×Obj)) (s:aH) (σ:St) (H:Hp) (D:Ends),Inv X pins σ H s->t D σ H->aG .(k) X.A (execs st X.env) (SP X pins D) X.xe s
variable {α:Type}
theorem thn {t:fu α} {Q Q':α->aH->Prop} {M:kZ} (h:aG M A t Q E s) (hQ:∀a s,Q a s->Q' a s):aG M A t Q' E s:=e7 h hQ fun _ _ x=>x
variable {b:Expr} {ta tb:TE} {σ:St} {pos:dh} {Q:Value->aH->Prop} {op:CmpOp}
section
theorem bin {a:Expr} (ha:PE X a ta) (hb:PE X b tb) {R:V->V->Hp->Prop} (I:Inv X pins σ H s) (h:ta σ H fun x H1=>tb σ H1 fun y H2=>R x y H2)
  {Q:α->aH->Prop} {f:Value->Value->fu α} 
  (hf:∀v u s2 x y H2,Inv X pins σ H2 s2->bC x v->bC y u->R x y H2->aG .(k) X.A (f v u) Q X.xe s2) :
  aG .(k) X.A (eval a X.env) (fun v s₁=>aG .(k) X.A (eval b X.env) (fun u s₂=>aG .(k) X.A (f v u) Q X.xe s₂) X.xe s₁) X.xe s:=by
 refine thn .(aN) fun v s1 ⟨x,H1,I1,r1,q1⟩=>?_;refine thn (hb pins s1 σ H1 _ I1 q1) fun u s2 ⟨y,H2,I2,r2,q2⟩=>?_;exact hf v u s2 x y H2 I2 r1 r2 q2
noncomputable def xv (i:ah):TE:=fun σ H Q=>∃v,σ[i]?=aa (aa v)/\Q v H
noncomputable def tC (v:V):TE:=fun _ H Q=>Q v H
theorem eC (hN:X.N[i]?=aa x) (hv:Vis X.env.scope x) (hd:.(x)=aq:=by decide) (hcd:.(aC)=aq:=by decide):PE X (.Name x pos) (xv i):=by
 intro pins s σ H Q I h;obtain⟨v,e,h⟩:=h;obtain⟨m,hn,hl⟩:=I.loc;obtain⟨u,r,l⟩:=hl i x v hN e hv;have fin:EP X pins σ Q u s:=⟨v,H,I,r,h⟩;rcases l with⟨hk,hm⟩|⟨hk,c,hc,hcell⟩
 .exact F4 (wpAny_loadName_local I.ok.kind hk hn hm fin) hd
 .rcases hk with hk|hk
  .exact F4 (wpAny_loadName_cell I.ok.kind hk hc hcell fin) hd
  .exact F4 (wpAny_loadName_free I.ok.kind hk hc hcell fin hcd) hd
theorem BA {i j pos}:PE X (.Constant (.int i) j pos) (tC (.int i)):=fun _ _ _ H _ I h=>wpAny_Constant_int ⟨.int i,H,I.tok _,⟨_,rfl⟩,h⟩
theorem Da {b j pos}:PE X (.Constant (.bool b) j pos) (tC (.bl b)):=fun _ _ _ H _ I h=>Constant_bool ⟨.bl b,H,I,rfl,h⟩
theorem Df {j pos}:PE X (.Constant .none j pos) (tC .non):=fun _ _ _ H _ I h=>Constant_none ⟨.non,H,I,rfl,h⟩
theorem wW {x j pos}:PE X (.Constant (.str x) j pos) (tC (.str x)):=fun _ _ _ H _ I h=>Calls.Constant_str ⟨.str x,H,I.tok _,⟨_,rfl⟩,h⟩
noncomputable def Gl (X:Cx) (x:aj):Prop:=X.env.kindOf x=aa .globalImplicit
theorem nk (I:Inv X pins σ H s) (hg:Gl X x) (hm:X.mg x=aa u) (h:Q u s)
  (hd:.(x)=aq:=by decide):aG .(k) X.A (eval (.Name x pos) X.env) Q E s:=
 SG I.ok.kind hg (Calls.loadGlobal_global (by rw[I.ok.glob];exact I.mod.glob.keeps I.bk) hm h) hd
theorem oB (I:Inv X pins σ H s) (hg:Gl X x) (hm:X.mg x=ae) (hv:lW x=aa u) (h:Q u s)
  (hn:x≠"__name__":=by decide) (hd:.(x)=aq:=by decide):aG .(k) X.A (eval (.Name x pos) X.env) Q E s:=by
 obtain⟨mb,h1,h2⟩:=I.mod.blt;exact SG I.ok.kind hg (Calls.loadGlobal_builtin (by rw[I.ok.glob];exact I.mod.glob.keeps I.bk) hm (by rw[I.ok.blt];exact h1.keeps I.bk) ((h2 x hn).trans hv) h) hd
theorem jR (hg:Gl X x) (hm:X.mg x=aa u) (r:bC v u) (hd:.(x)=aq:=by decide):PE X (.Name x pos) (tC v):=
 fun _ _ _ H _ I h=>nk I hg hm ⟨v,H,I,r,h⟩ hd
theorem xn (hg:Gl X x) (hm:X.mg x=ae) (hv:lW x=aa u) (r:bC v u) (hn:x≠"__name__":=by decide) (hd:.(x)=aq:=by decide):PE X (.Name x pos) (tC v):=
 fun _ _ _ H _ I h=>oB I hg hm hv ⟨v,H,I,r,h⟩ hn hd
noncomputable def t2I (ta tb:TE) (k:ag->ag->Hp->Prop):St->Hp->Prop:=fun σ H=>ta σ H fun x H1=>tb σ H1 fun y H2=>∃i j,x=.int i/\y=.int j/\k i j H2
variable {a:Expr}
noncomputable def PC (X:Cx) (op:CmpOp) (a b:Expr) (t:TE):Prop:=
 ∀(pins:ac (av×Obj)) (s:aH) (σ:St) (H:Hp) (Q:VK),Inv X pins σ H s->t σ H Q->
  aG .(k) X.A (eval a X.env) (fun v s₁=>aG .(k) X.A (eval b X.env) (fun u s₂=>aG .(k) X.A (eF op v u) (EP X pins σ Q) X.xe s₂) X.xe s₁) X.xe s
theorem HI (b:Expr) (h:op≠.In) (h2:op≠.NotIn):lX op b=aq:=by
 have e1:(op==SH)=aq:=by cases op<;>first|rfl|exact bB rfl h
 have e2:(op==SI)=aq:=by cases op<;>first|rfl|exact bB rfl h2
 cases b<;>simp[lX,e1,e2]
def CA (p:ag->ag->ba) (ta tb:TE):TE:=fun σ H Q=>t2I ta tb (fun i j H2=>Q (.bl (p i j)) H2) σ H
abbrev JY:TE->TE->TE:=CA fun i j=>decide (i=j)
theorem Py {p:ag->ag->ba} (ha:PE X a ta) (hb:PE X b tb)
  (rule:∀(i j:ag) (t u:Tok) (Q:Value->aH->Prop) (s:aH),Q (.bool (p i j)) s->aG .(k) X.A (eF op (.int i t) (.int j u)) Q X.xe s):PC X op a b (CA p ta tb):=by
 intro pins s σ H Q I h;refine bin ha hb I h fun v u s2 x y H2 I2 rx ry q=>?_;obtain⟨i,j,rfl,rfl,q⟩:=q;obtain⟨t,rfl⟩:=rx;obtain⟨t',rfl⟩:=ry;exact rule i j t t' _ s2 ⟨.bl _,H2,I2,rfl,q⟩
theorem KS (ha:PE X a ta) (hb:PE X b tb):PC X .Eq a b (JY ta tb):=Py ha hb fun _ _ _ _ _ _ h=>eq_int (by rw[Bool.beq_eq_decide_eq];exact h)
noncomputable def tB (t:TE):TT:=fun σ H Q=>t σ H fun x H1=>∃c,x=.bl c/\Q c H1
theorem Jm {t:TE} (h:PC X op a b t) (h1:lX op b=aq:=by first|exact HI _ .(c) .(c)|rfl):PE X (.Compare a [op] [b] pos) t:=fun pins s σ H Q I hw=>SJ (h pins s σ H Q I hw) h1
theorem Ew {t:TE} (h:PE X e t) (he:∀whole,isTrue e X.env whole=(do let v ←whole;oT e.pos;ij [v] (truthy v)):=by intro _;rfl):PT X e (tB t):=by intro pins s σ H Q I hw;refine isTrue_plain (thn (h pins s σ H _ I hw) fun v s1 ⟨x,H1,I1,r1,q1⟩=>?_) (he _);obtain⟨d,rfl,q⟩:=q1;cases r1;exact lY ⟨H1,I1,q⟩
variable {tA tB':TT} {bz:ac Expr}
noncomputable def Nv (t u:TT):TT:=fun σ H Q=>t σ H fun c H1=>if c=al then u σ H1 Q else Q aq H1
noncomputable def tOr (t u:TT):TT:=fun σ H Q=>t σ H fun c H1=>if c=al then Q al H1 else u σ H1 Q
noncomputable def MM (t:TT):TT:=fun σ H Q=>t σ H fun c H1=>Q (!c) H1
theorem Oq (ha:PT X a tA):PW X (.BoolOp .And [a] pos) tA:=by
 intro wh pins s σ H Q I h;refine isTrue_and (thn (ha pins s σ H Q I h) fun c s1 e=>?_);cases c with
 |true=>exact isTrue_and_nil e
 |false=>exact e
theorem PD (ha:PT X a tA):PW X (.BoolOp .Or [a] pos) tA:=by
 intro wh pins s σ H Q I h;refine isTrue_or (thn (ha pins s σ H Q I h) fun c s1 e=>?_);cases c with
 |false=>exact isTrue_or_nil e
 |true=>exact e
theorem QQ (ha:PT X a tA) (hb:PW X (.BoolOp .And (b::bz) pos) tB'):PW X (.BoolOp .And (a::b::bz) pos) (Nv tA tB'):=by
 intro wh pins s σ H Q I h;refine isTrue_and (thn .(aN) fun c s1 ⟨H1,I1,q1⟩=>?_);cases c with
 |true=>exact hb wh pins s1 σ H1 Q I1 q1
 |false=>exact⟨H1,I1,q1⟩
theorem Kz (ha:PT X a tA) (hb:PW X (.BoolOp .Or (b::bz) pos) tB'):PW X (.BoolOp .Or (a::b::bz) pos) (tOr tA tB'):=by
 intro wh pins s σ H Q I h;refine isTrue_or (thn .(aN) fun c s1 ⟨H1,I1,q1⟩=>?_);cases c with
 |true=>exact⟨H1,I1,q1⟩
 |false=>exact hb wh pins s1 σ H1 Q I1 q1
theorem Ln (ha:PT X a tA):PT X (.UnaryOp .Not a pos) (MM tA):=by intro pins s σ H Q I h;exact isTrue_not (ha pins s σ H (fun c H1=>Q (!c) H1) I h)
noncomputable def Si (ta tb:TE):TE:=fun σ H Q=>ta σ H fun x H1=>∃c,x=.bl c/\if c=al then tb σ H1 Q else Q (.bl aq) H1
noncomputable def J7 (ta tb:TE):TE:=fun σ H Q=>ta σ H fun x H1=>∃c,x=.bl c/\if c=al then Q (.bl al) H1 else tb σ H1 Q
noncomputable def IL (ta:TE):TE:=fun σ H Q=>ta σ H fun x H1=>∃c,x=.bl c/\Q (.bl (!c)) H1
theorem yr {op} {t:TE} (h:PE X a t):PE X (.BoolOp op [a] pos) t:=fun pins s σ H Q I hw=>BoolOp_one (h pins s σ H Q I hw)
theorem pP (ha:PE X a ta) (hb:PE X (.BoolOp .And (b::bz) pos) tb):PE X (.BoolOp .And (a::b::bz) pos) (Si ta tb):=by
 intro pins s σ H Q I h;refine BoolOp_and (thn .(aN) fun v s1 ⟨x,H1,I1,r1,q1⟩=>?_);obtain⟨c,rfl,q1⟩:=q1;cases r1;refine lY ?_;cases c with
 |true=>exact hb pins s1 σ H1 Q I1 q1
 |false=>exact⟨.bl aq,H1,I1,rfl,q1⟩
theorem ML (ha:PE X a ta) (hb:PE X (.BoolOp .Or (b::bz) pos) tb):PE X (.BoolOp .Or (a::b::bz) pos) (J7 ta tb):=by
 intro pins s σ H Q I h;refine BoolOp_or (thn .(aN) fun v s1 ⟨x,H1,I1,r1,q1⟩=>?_);obtain⟨c,rfl,q1⟩:=q1;cases r1;refine lY ?_;cases c with
 |false=>exact hb pins s1 σ H1 Q I1 q1
 |true=>exact⟨.bl al,H1,I1,rfl,q1⟩
theorem DU (ha:PE X a ta):PE X (.UnaryOp .Not a pos) (IL ta):=by intro pins s σ H Q I h;refine UnaryOp_ (thn .(aN) fun v s1 ⟨x,H1,I1,r1,q1⟩=>?_);obtain⟨c,rfl,q1⟩:=q1;cases r1;exact not_of (lY ⟨.bl (!c),H1,I1,rfl,q1⟩)
end
noncomputable def SqL (K:aV) (H:Hp) (a:av) (xs:ac V):Prop:=
 Rd H a (.lst xs) \/
  ∃(o:Obj) (its:b7 Value) (n:ah),K.lookup a=aa o/\o.cls=.type "list"/\o.dict=ae/\o.data=.seq its n/\its.size<=aL/\bp xs its.toList
noncomputable def SqT (K:aV) (H:Hp) (a:av) (xs:ac V):Prop:=
 Rd H a (.tup xs) \/
  ∃(o:Obj) (its:b7 Value) (n:ah),K.lookup a=aa o/\o.cls=.type "tuple"/\o.data=.seq its n/\its.size<=aL/\bp xs its.toList
noncomputable def Mc:Value->ar V
 |.none=>aa .non
 |.bool b=>aa (.bl b)
 |.int i _=>aa (.int i)
 |.str x _=>aa (.str x)
 |.ref a=>aa (.ref a)
 |.type n=>aa (.ty n)
 |_=>ae
theorem bC.abs {x:V} (r:bC x u):Mc u=aa x:=by
 cases x with
 |non=>cases r;rfl
 |bl _=>cases r;rfl
 |int _=>obtain⟨t,rfl⟩:=r;rfl
 |str _=>obtain⟨t,rfl⟩:=r;rfl
 |ref _=>cases r;rfl
 |ty _=>cases r;rfl
theorem bC.inj {x y:V} (r:bC x u) (q:bC y u):x=y:=qH (r.abs.symm.trans q.abs)
theorem bp.inj:∀{xs ys:ac V} {us:ac Value},bp xs us->bp ys us->xs=ys
 |_,_,_,.nil,.nil=>rfl
 |_,_,_,.cons r t,.cons r' t'=>by rw[r.inj r',bp.inj t t']
section
variable {xs ys:ac V}
theorem Inv.list (I:Inv X pins σ H s) (h:SqL X.K H a xs):∃its:ac Value,bp xs its/\PlainL s.heap a its.toArray/\xs.length<=aL:=by
 rcases h with h|⟨o,its,n,hk,hc,hd,hs,hz,r⟩
 .obtain⟨z,its,n,r,e⟩:=h.ok I.hok;exact⟨its,r,⟨_,n,e,rfl,rfl,rfl⟩,z⟩
 .refine⟨its.toList,r,⟨o,n,I.kIn a o hk,hc,hd,by simpa using hs⟩,?_⟩;have e:=r.length;simp only[iD] at e;omega
theorem Inv.tuple (I:Inv X pins σ H s) (h:SqT X.K H a xs):∃its:ac Value,bp xs its/\vd s.heap a its.toArray/\xs.length<=aL:=by
 rcases h with h|⟨o,its,n,hk,hc,hs,hz,r⟩
 .obtain⟨z,its,r,p⟩:=h.ok I.hok;exact⟨its,r,p,z⟩
 .refine⟨its.toList,r,⟨o,I.kIn a o hk,hc,n,by simpa using hs⟩,?_⟩;have e:=r.length;simp only[iD] at e;omega
theorem Inv.list_inj (I:Inv X pins σ H s) (h:SqL X.K H a xs) (h':SqL X.K H a ys):xs=ys:=by
 obtain⟨its,r,⟨o,n,e,_,_,d⟩,_⟩:=I.list h;obtain⟨its',r',⟨o',n',e',_,_,d'⟩,_⟩:=I.list h';rw[e] at e';cases e';rw[d] at d';injection d' with d1 _;have:its=its':=by simpa using cC SK d1
 subst this;exact r.inj r'
theorem Inv.tuple_inj (I:Inv X pins σ H s) (h:SqT X.K H a xs) (h':SqT X.K H a ys):xs=ys:=by
 obtain⟨its,r,⟨o,e,_,n,d⟩,_⟩:=I.tuple h;obtain⟨its',r',⟨o',e',_,n',d'⟩,_⟩:=I.tuple h';rw[e] at e';cases e';rw[d] at d';injection d' with d1 _;have:its=its':=by simpa using cC SK d1
 subst this;exact r.inj r'
end
noncomputable abbrev Cx.wish (X:Cx) (E:Value->aH->Prop):Cx:={X with xe:=E}
noncomputable abbrev Cx.nox (X:Cx):Cx:=X.wish fun _ _=>False
theorem Cx.Ok.wish (ok:X.Ok) (E:Value->aH->Prop):(X.wish E).Ok:=
 ⟨ok.mod,ok.kind,ok.glob,ok.blt,ok.above,ok.inj,ok.has,ok.cab,ok.hd,ok.frames,ok.stk,ok.exf,ok.bs,ok.bsz,ok.noex,ok.exfs,ok.funs,ok.frf⟩
theorem Cx.Ok.unwish (ok:(X.wish E).Ok):X.Ok:=
 ⟨ok.mod,ok.kind,ok.glob,ok.blt,ok.above,ok.inj,ok.has,ok.cab,ok.hd,ok.frames,ok.stk,ok.exf,ok.bs,ok.bsz,ok.noex,ok.exfs,ok.funs,ok.frf⟩
theorem Inv.wish (I:Inv X pins σ H s) (E:Value->aH->Prop):Inv (X.wish E) pins σ H s:=⟨I.ok.wish E,I.os,I.bare,I.base,I.loc,I.cell,I.free,I.freeC,I.pin,I.hok,I.len⟩
theorem Inv.unwish (I:Inv (X.wish E) pins σ H s):Inv X pins σ H s:=⟨I.ok.unwish,I.os,I.bare,I.base,I.loc,I.cell,I.free,I.freeC,I.pin,I.hok,I.len⟩
theorem SP.unwish {D:Ends} {f:Flow} {s':aH} (h:SP (X.wish E) pins D f s'):SP X pins D f s':=by
 cases f with
 |next=>obtain⟨σ',H',I,q⟩:=h;exact⟨σ',H',I.unwish,q⟩
 |brk=>obtain⟨σ',H',I,q⟩:=h;exact⟨σ',H',I.unwish,q⟩
 |cont=>obtain⟨σ',H',I,q⟩:=h;exact⟨σ',H',I.unwish,q⟩
 |ret u=>obtain⟨v,σ',H',I,r,q⟩:=h;exact⟨v,σ',H',I.unwish,r,q⟩
theorem PSs.nox {st:ac Stmt} {t:TS} (h:PSs X.nox st t):PSs X st t:=fun pins s σ H D I hw=>
 e7 (h pins s σ H D (I.wish _) hw) (fun _ _ q=>q.unwish) fun _ _ z=>fL z
variable {st:Stmt} {te:TE} {c:Expr} {tc:TT}
section
variable {bz:ac Stmt} {t u:TS}
noncomputable def ID:TS:=fun D σ H=>D.nx σ H
noncomputable def QP (t u:TS):TS:=fun D σ H=>t {D with nx:=u D} σ H
theorem yM:PSs X [] ID:=fun _ _ σ H _ I h=>sx ⟨σ,H,I,h⟩
theorem oG (h1:PS X st t) (h2:PSs X bz u):PSs X (st::bz) (QP t u):=by
 intro pins s σ H D I h;refine F7 (thn (h1 pins s σ H {D with nx:=u D} I h) fun f s1 q=>?_);cases f with
 |next=>
  obtain⟨σ',H',I',q⟩:=q;exact h2 pins s1 σ' H' D I' q
 |ret v=>exact q
 |brk=>exact q
 |cont=>exact q
theorem mV (h1:PS X st t):PSs X [st] t:=by
 intro pins s σ H D I h;refine F7 (thn (h1 pins s σ H D I h) fun f s1 q=>?_);cases f with
 |next=>exact sx q
 |ret v=>exact q
 |brk=>exact q
 |cont=>exact q
theorem Inv.quiet (I:Inv X pins σ H s):interactive X.env=aq:=by simp[interactive,I.ok.kind]
noncomputable def Kv (te:TE):TS:=fun D σ H=>te σ H fun _ H1=>D.nx σ H1
theorem pO (he:PE X e te) (hs:e8 e ae pos.line X.env=bq aq:=by rfl):PS X (.Expr e pos) (Kv te):=by intro pins s σ H D I h;exact SL (thn (he pins s σ H _ I h) fun v s1 ⟨x,H1,I1,r1,q1⟩=>⟨σ,H1,I1,q1⟩) I.quiet hs
def J8 (te:TE):TS:=fun D σ H=>te σ H D.rt
theorem uW (he:PE X e te):PS X (.Return (aa e) pos) (J8 te):=by intro pins s σ H D I h;exact wpAny_Return_some (thn (he pins s σ H _ I h) fun v s1 ⟨x,H1,I1,r1,q1⟩=>⟨x,σ,H1,I1,r1,q1⟩)
noncomputable def Lj (c:TT) (t u:TS):TS:=fun D σ H=>c σ H fun b H1=>if b=al then t D σ H1 else u D σ H1
theorem wR {a b:ac Stmt} (hc:PT X c tc) (ha:PSs X a t) (hb:PSs X b u):PS X (.If c a b pos) (Lj tc t u):=by
 intro pins s σ H D I h;refine wpAny_If (thn (hc pins s σ H _ I h) fun d s1 ⟨H1,I1,q1⟩=>?_);cases d with
 |true=>exact ha pins s1 σ H1 D I1 q1
 |false=>exact hb pins s1 σ H1 D I1 q1
end
abbrev TG:=V->St->Hp->(St->Hp->Prop)->Prop
abbrev TGs:=ac V->St->Hp->(St->Hp->Prop)->Prop
noncomputable def PG (X:Cx) (target:Expr) (t:TG):Prop:=
 ∀(pins:ac (av×Obj)) (s:aH) (σ:St) (H:Hp) (v:V) (u:Value) (Q:St->Hp->Prop),Inv X pins σ H s->bC v u->t v σ H Q->
  aG .(k) X.A (iU target X.env u) (fun _ s'=>∃σ' H',Inv X pins σ' H' s'/\Q σ' H') X.xe s
noncomputable def PGs (X:Cx) (ts:ac Expr) (t:TGs):Prop:=
 ∀(pins:ac (av×Obj)) (s:aH) (σ:St) (H:Hp) (vs:ac V) (us:ac Value) (Q:St->Hp->Prop),Inv X pins σ H s->bp vs us->t vs σ H Q->
  aG .(k) X.A (assignInOrder ((gd ts X.env).map (·.2)) us) (fun _ s'=>∃σ' H',Inv X pins σ' H' s'/\Q σ' H') X.xe s
abbrev yH:=V->V->V->Hp->(Hp->Prop)->Prop
noncomputable def Eh (X:Cx) (t:yH):Prop:=
 ∀(pins:ac (av×Obj)) (s:aH) (σ:St) (H:Hp) (o i v:V) (ov iv u:Value) (Q:Hp->Prop),Inv X pins σ H s->bC o ov->bC i iv->bC v u->t o i v H Q->
  aG .(k) X.A (zx ov iv u) (fun _ s'=>∃H',Inv X pins σ H' s'/\Q H') X.xe s
variable {es:ac Expr} {n:ah} {o tg:Expr} {to:TE} {pos':dh}
noncomputable def lH (i:ah):TG:=fun v σ H Q=>Q (σ.set i (aa v)) H
theorem JJ (hN:X.N.Nodup) (hi:X.N[i]?=aa x) (hx:Loc X.env.scope x) (hf:X.fn x=al\/X.env.scope.names.lookup x=aa .local:=by ac_nf):PG X (.Name x pos) (lH i):=by intro pins s σ H v u Q I r h;exact SM (yZ I hN hi hx r (fun s' I'=>⟨_,H,I',h⟩) hf)
noncomputable def LN:TGs:=fun vs σ H Q=>vs=[]/\Q σ H
noncomputable def Ii (t:TG) (u:TGs):TGs:=fun vs σ H Q=>∃v r,vs=v::r/\t v σ H fun σ' H'=>u r σ' H' Q
theorem J':PGs X [] LN:=by intro pins s σ H vs us Q I r h;obtain⟨e,h⟩:=h;subst e;cases r;exact assignInOrder_nil ⟨σ,H,I,h⟩
theorem Jy {t:TG} {u:TGs} (h1:PG X e t) (h2:PGs X es u)
  (hs:(gd (e::es) X.env).map (·.2)=iU e X.env::(gd es X.env).map (·.2):=by rfl):PGs X (e::es) (Ii t u):=by
 intro pins s σ H vs us Q I r h;obtain⟨v,vr,e1,h⟩:=h;subst e1;cases r with
 |cons r rr=>
  rw[hs];refine assignInOrder_cons (thn (h1 pins s σ H _ _ _ I r h) fun _ s1 ⟨σ1,H1,I1,q1⟩=>?_);exact h2 pins s1 σ1 H1 _ _ Q I1 rr q1
def Jg (K:aV) (n:ah) (t:TGs):TG:=fun v σ H Q=>∃a xs,v=.ref a/\SqT K H a xs/\xs.length=n/\t xs σ H Q
theorem Od {k:ah} {t:TGs} (hc:X.calm=al) (h:PGs X es t)
  (hn:(gd es X.env).length=n:=by rfl) (hst:(gd es X.env).findIdx? (·.1)=ae:=by rfl):PG X (.Tuple es k pos) (Jg X.K n t):=by
 intro pins s σ H v u Q I r hw;obtain⟨a,xs,e1,hq,hl,hw⟩:=hw;subst e1;cases r;obtain⟨its,rv,ht,hz⟩:=I.tuple hq;refine assign_Tuple_tuple (I.ok.hd hc) ht (by simp[hn,←hl,rv.length]) hst fun h' hx=>?_;have I1:Inv X pins σ H {s with heap:=h'}:=I.kept (t':=s.toks) fun b o e=>hx b o (qC (qu e)) e;exact h pins _ σ H xs _ Q I1 (by simpa using rv) hw
def Sc (to ti:TE) (t:yH):TG:=fun v σ H Q=>to σ H fun o H1=>ti σ H1 fun i H2=>t o i v H2 fun H3=>Q σ H3
theorem R6 {i:Expr} {ti:TE} {t:yH} (ho:PE X o to) (hi:PE X i ti) (hs:Eh X t)
  (ha:∀v,iU (.Subscript o i pos) X.env v=(do
   let ov ←ij [v] (eval o X.env)
   let iv ←ij [v,ov] (eval i X.env)
   oT pos
   ij [v,ov,iv] (zx ov iv v)
   release [v,ov,iv] []):=by intro _;rfl):PG X (.Subscript o i pos) (Sc to ti t):=by
 intro pins s σ H v u Q I r h;rw[ha];refine qx (qT (thn (ho pins s σ H _ I h) fun ov s1 ⟨x,H1,I1,r1,q1⟩=>?_));refine qx (qT (thn (hi pins s1 σ H1 _ I1 q1) fun iv s2 ⟨y,H2,I2,r2,q2⟩=>?_));refine qx (sy (qx (qT (thn (hs pins s2 σ H2 x y v ov iv u _ I2 r1 r2 r q2) fun _ s3 ⟨H3,I3,q3⟩=>?_))));exact wpAny_release ⟨σ,H3,I3,q3⟩
noncomputable def lx (te:TE) (g:TG):TS:=fun D σ H=>te σ H fun x H1=>g x σ H1 D.nx
theorem D9 {g:TG} (he:PE X e te) (hg:PG X tg g) (hs:F8 [tg] e pos.line X.env=bq aq:=by rfl) (hw:F9 [tg] e X.env=bq ae:=by rfl)
  (h1:(gd [tg] X.env).map (·.2)=[iU tg X.env]:=by rfl):PS X (.Assign [tg] e pos) (lx te g):=by
 intro pins s σ H D I h;refine wpAny_Assign_stores (thn (he pins s σ H _ I h) fun v s1 ⟨x,H1,I1,r1,q1⟩=>?_) hs hw;rw[h1];exact thn (hg pins s1 σ H1 x v _ I1 r1 q1) fun _ s2 q=>q
theorem oz (hN:X.N.Nodup) (hi:X.N[i]?=aa x) (hx:Loc X.env.scope x) (he:PE X e te) (hs:e8 e (aa (.Name x pos')) pos.line X.env=bq aq:=by rfl) (hf:X.fn x=al\/X.env.scope.names.lookup x=aa .local:=by ac_nf) :
  PS X (.Assign [.Name x pos'] e pos) (lx te (lH i)):=by
 intro pins s σ H D I h;refine wpAny_Assign_Name (thn (he pins s σ H _ I h) fun v s1 ⟨y,H1,I1,r1,q1⟩=>?_) hs;exact yZ I1 hN hi hx r1 (fun s2 I2=>⟨_,H1,I2,q1⟩) hf
variable {body:ac Stmt}
def OC (c:TT) (tb:TS):TS:=fun D σ H=>∃W:ah->St->Hp->Prop,(∃m,W m σ H)/\∀m σ H,W m σ H->
 c σ H fun b H1=>if b=al then ∃N:St->Hp->Prop,(∀σ' H',N σ' H'->∃m',m'<m/\W m' σ' H')/\tb {D with nx:=N,ct:=N,bk:=D.nx} σ H1 else D.nx σ H1
theorem M1 {tb:TS} (hp:vf .(k) X.A X.env X.xe) (hc:PT X c tc) (hb:PSs X body tb):PS X (.While c body [] pos) (OC tc tb):=by
 intro pins s σ H D I h;obtain⟨W,⟨m0,w0⟩,turn⟩:=h;refine wpAny_While (codeAny_whileLoop (fun n s'=>∃σ' H',Inv X pins σ' H' s'/\W n σ' H') ?_ m0 ⟨σ,H,I,w0⟩);rintro n s1 ⟨σ1,H1,I1,w1⟩;refine oU hp (thn (hc pins s1 σ1 H1 _ I1 (turn n σ1 H1 w1)) fun b s2 ⟨H2,I2,q2⟩=>?_);cases b with
 |true=>
  obtain⟨N,hN,q2⟩:=q2;rw[qY rfl];refine oU hp (thn (hb pins s2 σ1 H2 _ I2 q2) fun f s3 q3=>?_);cases f with
  |next=>
   obtain⟨σ3,H3,I3,n3⟩:=q3;obtain⟨m',hm,w3⟩:=hN σ3 H3 n3;exact⟨m',hm,σ3,H3,I3,w3⟩
  |cont=>
   obtain⟨σ3,H3,I3,n3⟩:=q3;obtain⟨m',hm,w3⟩:=hN σ3 H3 n3;exact⟨m',hm,σ3,H3,I3,w3⟩
  |brk=>exact q3
  |ret v=>exact q3
 |false=>
  rw[qZ qr];exact sx ⟨σ1,H2,I2,q2⟩
structure It where
 go:ah->Hp->Prop
 yld:ah->Hp->V->Hp->Prop
 stop:ah->Hp->Prop
noncomputable def ix (X:Cx) (pins:ac (av×Obj)) (H:Hp) (b:av):Prop:=
 H b=ae/\b≠X.env.locals/\b∉X.fs/\(b∈X.ex\/X.s₀.heap.objs.size<=b)/\(∀x c,X.env.cells.lookup x=aa c->c≠b)/\∀p∈X.pn++pins,p.1≠b
theorem Inv.fpOk {b:av} (I:Inv X pins σ H s) (hb:s.heap.objs.size<=b) (hn:H' b=ae):ix X pins H' b:=by
 refine⟨hn,zy (qF I.lt hb),I.nofs hb,.inr (qM I.sz hb),fun x c e z=>?_,fun p hp z=>?_⟩
 .obtain⟨v,q⟩:=I.cell x c e;exact bB (qF q.lt (by rw[z];exact hb)) (oQ _)
 .exact bB (qF (qu (I.pin p hp).1) (by rw[z];exact hb)) (oQ _)
structure Turn (P:ef) (w:cT) (K:aV) (tg:Expr) (J:It) (fp:ac av) (it:av) (tn:ah->Heap->Prop):Prop where
 mem:it∈fp
 obj:∀i h,tn i h->∀b∈fp,∃o,h.get? b=aa o/\∀v,o.data≠.cell v
 keep:∀i h h',tn i h->(∀b∈fp,∀o,h.get? b=aa o->h'.get? b=aa o)->tn i h'
 item:∀(X:Cx),X.prog=P->X.w=w->X.K=K->X.calm=al->∀(i:ah) (pins:ac (av×Obj)) (s:aH) (σ:St) (H:Hp) (E:Value->aH->Prop),Inv X pins σ H s->(∀b∈fp,ix X pins H b)->tn i s.heap->J.go i H->
  aG (aI P w) X.A (nz (.ref it)) (fun r s1=>∃u,r=aa u /\
   aG (aI P w) X.A (vg tg (.ref it) u) (fun _ s2=>∃x H',Inv X pins σ H' s2/\bC x u/\J.yld i H x H'/\tn (i+1) s2.heap/\∀b∈fp,H' b=ae) E s1) E s
 done:∀(X:Cx),X.prog=P->X.w=w->X.K=K->X.calm=al->∀(i:ah) (pins:ac (av×Obj)) (s:aH) (σ:St) (H:Hp) (E:Value->aH->Prop),Inv X pins σ H s->(∀b∈fp,ix X pins H b)->tn i s.heap->J.stop i H->
  aG (aI P w) X.A (nz (.ref it)) (fun r s1=>r=ae/\Inv X pins σ H s1) E s
 self:∀(A:eU) (i:ah) (s:aH) (Q:Value->aH->Prop) (E:Value->aH->Prop),tn i s.heap->Q (.ref it) s->aG (aI P w) A (vh (.ref it)) Q E s
abbrev TI:=St->Hp->(It->Hp->Prop)->Prop
noncomputable def PIE (X:Cx) (pins:ac (av×Obj)) (σ:St) (tg:Expr) (R:It->Hp->Prop) (itv:Value) (s2:aH):Prop:=
 ∃(it:av) (fp:ac av) (tn:ah->Heap->Prop) (J:It) (H':Hp),itv=.ref it/\Inv X pins σ H' s2/\Turn X.prog X.w X.K tg J fp it tn/\tn 0 s2.heap/\(∀b∈fp,ix X pins H' b)/\R J H'
noncomputable def PI (X:Cx) (tg iter:Expr) (wi:TI):Prop:=
 ∀(pins:ac (av×Obj)) (s:aH) (σ:St) (H:Hp) (R:It->Hp->Prop),Inv X pins σ H s->wi σ H R->
  aG .(k) X.A (eval iter X.env) (fun v s1=>aG .(k) X.A (vh v) (PIE X pins σ tg R) X.xe s1) X.xe s
theorem wZ {M:kZ} {it:av} {o:Obj} {n:cM} {vs:b7 Value} {Q:jk->aH->Prop} (ho:s.heap.get? it=aa o) (hc:o.cls=.type n) (hd:o.data=.fields vs)
  (hn:["enumerate","zip","dict_itemiterator","dict_reverseitemiterator","odict_iterator","itertools.zip_longest","itertools.pairwise"].contains n=aq) (hQ:Q () s):aG M A (vg tg (.ref it) u) Q E s:=by
 unfold vg;cases tg<;>first
  |exact qA hQ
  |(cases u<;>first
    |exact qA hQ
    |(refine qx (wpAny_load ho ?_);rw[hc,hd];show aG M A (if (["enumerate","zip","dict_itemiterator","dict_reverseitemiterator","odict_iterator","itertools.zip_longest","itertools.pairwise"].contains n && vs[0]?==aa (rawInt _))=al then _ else _) Q E s;rw[qZ (by intro h;rw[hn,Bool.false_and] at h;cases h)];exact qA hQ))
def Itl (K:aV) (a:av):It:=
 ⟨fun i H=>∃xs x,SqL K H a xs/\xs[i]?=aa x,fun i H x H'=>H'=H/\∀xs,SqL K H a xs->xs[i]?=aa x,fun i H=>∃xs,SqL K H a xs/\xs.length<=i⟩
def Itt (K:aV) (a:av):It:=
 ⟨fun i H=>∃xs x,SqT K H a xs/\xs[i]?=aa x,fun i H x H'=>H'=H/\∀xs,SqT K H a xs->xs[i]?=aa x,fun i H=>∃xs,SqT K H a xs/\xs.length<=i⟩
noncomputable def Itr (lo:ag) (n:ah):It:=⟨fun i _=>i<n,fun i H x H'=>H'=H/\x=.int (lo+i),fun i _=>n<=i⟩
variable {K:aV}
theorem Mu (a it:av):Turn P w K tg (Itl K a) [it] it (fun i h=>h.IsListIter it a i) where
 mem:=by simp
 obj:=fun i h st b hb=>by
  have e:b=it:=by simpa using hb
  subst e;obtain⟨o,e,c,d⟩:=st;exact⟨o,e,fun v z=>by rw[d] at z;cases z⟩
 keep:=fun i h h' st k=>st.at fun o e=>k it (by simp) o e
 item:=by intro X hP hw hK hc i pins s σ H E I hf st hg;subst hP hw hK;obtain⟨xs,x,hq,hx⟩:=hg;obtain⟨its,rv,p,hz⟩:=I.list hq;obtain⟨u,hu,ru⟩:=rv.get hx;obtain⟨f0,f1,f2,f3,f4,f5⟩:=hf it (by simp);refine SN st p.isList (x:=u) (by simpa using hu) fun h' st' sb=>?_;have I1:Inv X pins σ H {s with heap:=h'}:=I.turned (t':=s.toks) (fun b o hb e=>(sb.2 b hb).trans e) f0 f1 f3 f4 f5;obtain⟨o,e,c,d⟩:=id st';exact⟨u,rfl,wZ (s:={s with heap:=h'}) e c d .(c) ⟨x,H,I1,ru,⟨rfl,fun ys hy=>by rw[I.list_inj hy hq];exact hx⟩,st',fun b hb=>(hf b hb).1⟩⟩
 done:=by intro X hP hw hK hc i pins s σ H E I hf st hg;subst hP hw hK;obtain⟨xs,hq,hx⟩:=hg;obtain⟨its,rv,p,hz⟩:=I.list hq;obtain⟨f0,f1,f2,f3,f4,f5⟩:=hf it (by simp);have hl:=rv.length;exact SO (I.ok.hd hc) st p.isList (by simp;omega) fun h' eb=>⟨rfl,I.turned (t':=s.toks) (fun b o hb e=>eb b o hb e) f0 f1 f3 f4 f5⟩
 self:=fun _ _ _ _ _ st h=>wpAny_pyIter_listiter st h
theorem LH (a it:av):Turn P w K tg (Itt K a) [it] it (fun i h=>h.IsTupleIter it a i) where
 mem:=by simp
 obj:=fun i h st b hb=>by
  have e:b=it:=by simpa using hb
  subst e;obtain⟨o,e,c,d⟩:=st;exact⟨o,e,fun v z=>by rw[d] at z;cases z⟩
 keep:=fun i h h' st k=>st.at fun o e=>k it (by simp) o e
 item:=by intro X hP hw hK hc i pins s σ H E I hf st hg;subst hP hw hK;obtain⟨xs,x,hq,hx⟩:=hg;obtain⟨its,rv,p,hz⟩:=I.tuple hq;obtain⟨u,hu,ru⟩:=rv.get hx;obtain⟨f0,f1,f2,f3,f4,f5⟩:=hf it (by simp);refine wpAny_pyNext_tuple_item st (show s.heap.IsTuple a its.toArray from p) (x:=u) (by simpa using hu) fun h' st' sb=>?_;have I1:Inv X pins σ H {s with heap:=h'}:=I.turned (t':=s.toks) (fun b o hb e=>(sb.2 b hb).trans e) f0 f1 f3 f4 f5;obtain⟨o,e,c,d⟩:=id st';exact⟨u,rfl,wZ (s:={s with heap:=h'}) e c d .(c) ⟨x,H,I1,ru,⟨rfl,fun ys hy=>by rw[I.tuple_inj hy hq];exact hx⟩,st',fun b hb=>(hf b hb).1⟩⟩
 done:=by intro X hP hw hK hc i pins s σ H E I hf st hg;subst hP hw hK;obtain⟨xs,hq,hx⟩:=hg;obtain⟨its,rv,p,hz⟩:=I.tuple hq;obtain⟨f0,f1,f2,f3,f4,f5⟩:=hf it (by simp);have hl:=rv.length;exact wpAny_pyNext_tuple_end (I.ok.hd hc) st (show s.heap.IsTuple a its.toArray from p) (by simp;omega) fun h' eb=>⟨rfl,I.turned (t':=s.toks) (fun b o hb e=>eb b o hb e) f0 f1 f3 f4 f5⟩
 self:=fun _ _ _ _ _ st h=>wpAny_pyIter_tupleiter st h
theorem NI (it:av) (lo:ag) (n:ah):Turn P w K tg (Itr lo n) [it] it (fun i h=>IsRangeIter h it (lo+(i:ah)*1) ((n:ag)-(i:ah)) 1) where
 mem:=by simp
 obj:=fun i h st b hb=>by
  have e:b=it:=by simpa using hb
  subst e;exact⟨_,st,fun v z=>by have z':Data.fields _=Data.cell v:=z;cases z'⟩
 keep:=fun i h h' st k=>k it (by simp) _ st
 item:=by intro X hP hw hK hc i pins s σ H E I hf st hg;subst hP hw hK;obtain⟨f0,f1,f2,f3,f4,f5⟩:=hf it (by simp);have W:=Walks.range (prog:=X.prog) (w:=X.w) (I.ok.hd hc) it lo 1 n;refine W.item i s _ _ hg st fun v h' tk hv st' kk=>?_;obtain⟨t,rfl⟩:=hv;have I1:Inv X pins σ H {s with heap:=h',toks:=tk}:=I.turned (fun b o hb e=>kk b o (by simpa using hb) e) f0 f1 f3 f4 f5;refine⟨_,rfl,wZ (s:={s with heap:=h',toks:=tk}) (n:="range_iterator") st' rfl rfl .(c) ⟨.int (lo+i),H,I1,⟨t,?_⟩,⟨rfl,rfl⟩,st',fun b hb=>(hf b hb).1⟩⟩;rw[Int.mul_one]
 done:=by intro X hP hw hK hc i pins s σ H E I hf st hg;subst hP hw hK;obtain⟨f0,f1,f2,f3,f4,f5⟩:=hf it (by simp);exact wpAny_pyNext_range_end (I.ok.hd hc) st (by have:n<=i:=hg;omega) fun h' eb=>⟨rfl,I.turned (t':=s.toks) (fun b o hb e=>eb b o hb e) f0 f1 f3 f4 f5⟩
 self:=fun _ _ _ _ _ st h=>wpAny_pyIter_rangeiter st h
variable {lo:ag} {p:dh} {fp:ac av} {iter:Expr} {wi:TI}
theorem E6 {R:It->Hp->Prop} {hi:ag} {t u v:Tok} {tk:ah} (I:Inv X pins σ H s) (h1 : -(2 ^ 62)<=lo) (h2:lo<2 ^ 62) (h3 : -(2 ^ 62)<=hi) (h4:hi<2 ^ 62)
  (q:R (Itr lo (hi-lo).toNat) H):aG .(k) X.A (vh (.ref s.heap.objs.size)) (PIE X pins σ tg R) E {s with heap:=s.heap.push {cls:=.type "range",data:=.fields #[.int lo t,.int hi u,.int 1 v]},toks:=tk}:=by
 refine wpAny_pyIter_range (IsRange.new ..) (small_one h1 h2 h3 h4) ?_;have I1:Inv X pins σ H {s with heap:=s.heap.push {cls:=.type "range",data:=.fields #[.int lo t,.int hi u,.int 1 v]},toks:=tk}:=I.kept fun b o e=>qt _ e;refine⟨(s.heap.push {cls:=.type "range",data:=.fields #[.int lo t,.int hi u,.int 1 v]}).objs.size,[(s.heap.push {cls:=.type "range",data:=.fields #[.int lo t,.int hi u,.int 1 v]}).objs.size],_,_,H,rfl,
  I1.kept (t':=tk) fun b o e=>qt _ e,NI _ lo (hi-lo).toNat,?_,fun b hb=>?_,q⟩
 .have e1:lo+((0:ah):ag)*1=lo:=by simp
  have e2:(((hi-lo).toNat:ah):ag)-((0:ah):ag)=UX lo hi 1:=by rw[rangeSize_one];split<;>omega
  show IsRangeIter _ _ (lo+((0:ah):ag)*1) ((((hi-lo).toNat:ah):ag)-((0:ah):ag)) 1;rw[e1,e2];exact qG _ rfl
 .have e:b=(s.heap.push {cls:=.type "range",data:=.fields #[.int lo t,.int hi u,.int 1 v]}).objs.size:=by simpa using hb
  subst e;exact I1.fpOk (qv _) (I1.hok.fresh (qv _))
def Lc (ta:TA):TI:=fun σ H R=>ta σ H fun vs H1=>∃j:ag,vs=[.int j] /\ -(2 ^ 62)<=j/\j<2 ^ 62/\R (Itr 0 j.toNat) H1
def JT (ta:TA):TI:=fun σ H R=>ta σ H fun vs H1=>∃i j:ag,vs=[.int i,.int j]/\(-(2 ^ 62)<=i/\i<2 ^ 62 /\ -(2 ^ 62)<=j/\j<2 ^ 62)/\R (Itr i (j-i).toNat) H1
theorem LW {a:Expr} {ta:TA} (hg:Gl X "range") (hm:X.mg "range"=ae) (ha:PA X [a] ta) (hs:bc [a] X.env=[(aq,eval a X.env)]:=by rfl):PI X tg (.Call (.Name "range" p) [a] [] pos) (Lc ta):=by
 intro pins s σ H R I h;refine Call_ (oB I hg hm boot_range (zz (thn (ha pos pins s σ H _ I h) fun us s1 ⟨vs,H1,I1,r1,q1⟩=>?_) hs rfl));obtain⟨j,e,q1,q2,q⟩:=q1;subst e;cases r1 with
 |cons r rr=>
  cases rr;obtain⟨t,rfl⟩:=r;exact call_range_1 (E6 I1 .(a) .(a) q1 q2 (by simpa using q))
theorem Ig {a:Expr} {ta:TA} (hg:Gl X "range") (hm:X.mg "range"=ae) (ha:PA X [a,b] ta) (hs:bc [a,b] X.env=[(aq,eval a X.env),(aq,eval b X.env)]:=by rfl) (hs2:bc [b] X.env=[(aq,eval b X.env)]:=by rfl) :
  PI X tg (.Call (.Name "range" p) [a,b] [] pos) (JT ta):=by
 intro pins s σ H R I h;refine Call_ (oB I hg hm boot_range (zz (thn (ha pos pins s σ H _ I h) fun us s1 ⟨vs,H1,I1,r1,q1⟩=>?_) (by rw[hs,hs2]) (by rw[hs2];rfl)));obtain⟨i,j,e,⟨q1,q2,q3,q4⟩,q⟩:=q1;subst e;cases r1 with
 |cons r rr=>
  cases rr with
  |cons r' rr=>
   cases rr;obtain⟨t,rfl⟩:=r;obtain⟨t',rfl⟩:=r';exact call_range_2 (E6 I1 q1 q2 q3 q4 q)
def RB (wi:TI) (g:TG) (tb:TS):TS:=fun D σ H=>wi σ H fun J H1=>∃W:ah->ah->St->Hp->Prop,(∃m,W 0 m σ H1)/\∀i m σ H,W i m σ H->
 (J.stop i H/\D.nx σ H)\/(J.go i H/\∃N:St->Hp->Prop,(∀σ' H',N σ' H'->∃m',m'<m/\W (i+1) m' σ' H')/\∀x H',J.yld i H x H'->g x σ H' fun σ2 H2=>tb {D with nx:=N,ct:=N,bk:=D.nx} σ2 H2)
noncomputable def rQ (fp:ac av) (h:Heap):ac (av×Obj):=fp.filterMap fun b=>(h.get? b).map fun o=>(b,o)
theorem t7 {h:Heap} {b:av} {o:Obj} (hb:b∈fp) (e:h.get? b=aa o):(b,o)∈rQ fp h:=oV.mpr ⟨b,hb,by rw[e];rfl⟩
theorem KZ {h:Heap} {p:av×Obj} (hp:p∈rQ fp h):p.1∈fp/\h.get? p.1=aa p.2:=by
 obtain⟨b,hb,e⟩:=oV.mp hp;cases q:h.get? b with
 |none=>rw[q] at e;cases e
 |some o=>
  rw[q] at e;have e':(b,o)=p:=qH e;subst e';exact⟨hb,q⟩
theorem Inv.pinned (I:Inv X pins σ H s) (hf:∀b∈fp,ix X pins H b) (ho:∀b∈fp,∃o,s.heap.get? b=aa o/\∀v,o.data≠.cell v):Inv X (pins++rQ fp s.heap) σ H s:=
 I.pins_of fun p hp=>(cD.mp hp).elim (fun z=>I.pin p (qQ _ z)) fun z=>by obtain⟨hb,e⟩:=KZ z;obtain⟨f0,f1,f2,_⟩:=hf p.1 hb;obtain⟨o,e',d⟩:=ho p.1 hb;rw[e] at e';cases e';exact⟨e,f0,f1,f2,d⟩
theorem Inv.unpinned {pl:ac (av×Obj)} (I:Inv X (pins++pl) σ H s):Inv X pins σ H s:=I.pins_of fun p hp=>I.pin p (qQ _ (zw _ hp))
theorem CK {g:TG} {tb:TS} (hp:vf .(k) X.A X.env X.xe) (hc:X.calm=al) (hi:PI X tg iter wi) (hg:PG X tg g) (hb:PSs X body tb)
  (hs:∀x,lZ iter X.env x=bq x:=by intro _;rfl):PS X (.For tg iter body [] pos) (RB wi g tb):=by
 intro pins s σ H D I h;refine wpAny_For (thn (hi pins s σ H _ I h) fun v s1 h1=>thn h1 fun itv s2 h2=>?_) hs;obtain⟨it,fp,tn,J,H2,e,I2,T,st2,f2,W,⟨m0,w0⟩,turn⟩:=h2;subst e;have stat:∀{H':Hp},(∀b∈fp,H' b=ae)->∀b∈fp,ix X pins H' b:=fun hn b hb=>⟨hn b hb,(f2 b hb).2⟩;refine codeAny_forLoop_any (fun n s'=>∃i σ' H',Inv X pins σ' H' s'/\tn i s'.heap/\(∀b∈fp,H' b=ae)/\W i n σ' H') ?_ m0 ⟨0,σ,H2,I2,st2,fun b hb=>(f2 b hb).1,w0⟩;rintro n s3 ⟨i,σ3,H3,I3,st3,fr3,w3⟩;rcases turn i n σ3 H3 w3 with⟨stop,qn⟩|⟨go,N,hN,step⟩
 .refine oU hp (thn (T.done X rfl rfl rfl hc i pins s3 σ3 H3 X.xe I3 (stat fr3) st3 stop) fun r s4 ⟨hr,I4⟩=>?_);subst hr;exact sx ⟨σ3,H3,I4,qn⟩
 .refine oU hp (thn (T.item X rfl rfl rfl hc i pins s3 σ3 H3 X.xe I3 (stat fr3) st3 go) fun r s4 ⟨u,hr,h4⟩=>?_);subst hr;refine oU hp (thn h4 fun _ s5 ⟨x,H5,I5,r5,y5,st5,fr5⟩=>?_);have I5':=I5.pinned (stat fr5) (T.obj _ _ st5);refine oU hp (thn (hg _ s5 σ3 H5 x u _ I5' r5 (step x H5 y5)) fun _ s6 ⟨σ6,H6,I6,q6⟩=>?_);refine oU hp (thn (hb _ s6 σ6 H6 _ I6 q6) fun f s7 q7=>?_);have again:∀{σ7:St} {H7:Hp},Inv X (pins++rQ fp s5.heap) σ7 H7 s7->N σ7 H7->∃m,m<n/\∃i σ' H',Inv X pins σ' H' s7/\tn i s7.heap/\(∀b∈fp,H' b=ae)/\W i m σ' H':=fun {σ7 H7} I7 n7=>by obtain⟨m',hm,w7⟩:=hN σ7 H7 n7;refine⟨m',hm,i+1,σ7,H7,I7.unpinned,T.keep _ _ _ st5 fun b hb o e=>(I7.pin (b,o) (qQ _ (qQ _ (t7 hb e)))).1,fun b hb=>?_,w7⟩;obtain⟨o,e,d⟩:=T.obj _ _ st5 b hb;exact(I7.pin (b,o) (qQ _ (qQ _ (t7 hb e)))).2.1
  cases f with
  |next=>obtain⟨σ7,H7,I7,n7⟩:=q7;exact again I7 n7
  |cont=>obtain⟨σ7,H7,I7,n7⟩:=q7;exact again I7 n7
  |brk=>obtain⟨σ7,H7,I7,q7⟩:=q7;exact⟨σ7,H7,I7.unpinned,q7⟩
  |ret v=>obtain⟨x7,σ7,H7,I7,r7,q7⟩:=q7;exact⟨x7,σ7,H7,I7.unpinned,r7,q7⟩
abbrev R2:=V->V->Hp->VK->Prop
noncomputable def OpR (X:Cx) (f:Value->Value->fu Value) (r:R2):Prop:=
 ∀(pins:ac (av×Obj)) (s:aH) (σ:St) (H:Hp) (x y:V) (v u:Value) (Q:VK),Inv X pins σ H s->bC x v->bC y u->r x y H Q->
  aG .(k) X.A (f v u) (EP X pins σ Q) X.xe s
noncomputable def UnR (X:Cx) (f:Value->fu Value) (r:V->Hp->VK->Prop):Prop:=
 ∀(pins:ac (av×Obj)) (s:aH) (σ:St) (H:Hp) (x:V) (v:Value) (Q:VK),Inv X pins σ H s->bC x v->r x H Q->
  aG .(k) X.A (f v) (EP X pins σ Q) X.xe s
noncomputable def fN (X:Cx) (f:Value) (r:ac V->Hp->VK->Prop):Prop:=
 ∀(pins:ac (av×Obj)) (s:aH) (σ:St) (H:Hp) (xs:ac V) (us:ac Value) (Q:VK),Inv X pins σ H s->bp xs us->r xs H Q->
  aG .(k) X.A (call f us) (EP X pins σ Q) X.xe s
noncomputable def tOp (r:R2) (ta tb:TE):TE:=fun σ H Q=>ta σ H fun x H1=>tb σ H1 fun y H2=>r x y H2 Q
noncomputable def tUn (r:V->Hp->VK->Prop) (ta:TE):TE:=fun σ H Q=>ta σ H fun x H1=>r x H1 Q
noncomputable def rI (C:ag->ag->Prop) (g:ag->ag->V):R2:=fun x y H Q=>∃i j,x=.int i/\y=.int j/\C i j/\Q (g i j) H
noncomputable def rI0 (g:ag->ag->V):R2:=fun x y H Q=>∃i j,x=.int i/\y=.int j/\Q (g i j) H
noncomputable def rU (g:ag->V):V->Hp->VK->Prop:=fun x H Q=>∃i,x=.int i/\Q (g i) H
section
variable {a:Expr} {tc:TE}
theorem yG (ha:PE X a ta) (hb:PE X b tb) {R:V->V->Hp->Prop} (I:Inv X pins σ H s)
  (h:ta σ H fun x H1=>tb σ H1 fun y H2=>R x y H2) {f:Value->Value->fu Value} 
  (hf:∀v u s2 x y H2,Inv X pins σ H2 s2->bC x v->bC y u->R x y H2->aG .(k) X.A (f v u) Q X.xe s2) :
  aG .(k) X.A (eval a X.env) (fun v s₁=>aG .(k) X.A (eval b X.env) (fun u s₂=>aG .(k) X.A (f v u) Q X.xe s₂) X.xe s₁) X.xe s:=by
 refine thn .(aN) fun v s1 ⟨x,H1,I1,r1,q1⟩=>?_;refine thn (hb pins s1 σ H1 _ I1 q1) fun u s2 ⟨y,H2,I2,r2,q2⟩=>?_;exact hf v u s2 x y H2 I2 r1 r2 q2
theorem Cy {op:Operator} {r:R2} (ho:OpR X (gH op) r) (ha:PE X a ta) (hb:PE X b tb):PE X (.BinOp a op b pos) (tOp r ta tb):=by intro pins s σ H Q I h;exact wpAny_BinOp (yG ha hb I h fun v u s2 x y H2 I2 rx ry q=>ho pins s2 σ H2 x y v u Q I2 rx ry q)
theorem QN {op:UnaryOp} {r:V->Hp->VK->Prop} (ho:UnR X (unaryOp op) r) (ha:PE X a ta):PE X (.UnaryOp op a pos) (tUn r ta):=by intro pins s σ H Q I h;exact UnaryOp_ (thn .(aN) fun v s1 ⟨x,H1,I1,r1,q1⟩=>ho pins s1 σ H1 x v Q I1 r1 q1)
theorem opI {f:Value->Value->fu Value} {C:ag->ag->Prop} {g:ag->ag->ag} 
  (rule:∀(i j:ag) (t u:Tok) (s:aH) (Q:Value->aH->Prop) (E:Value->aH->Prop),C i j->Q (.int (g i j) s.toks) {s with toks:=s.toks+1}->aG .(k) X.A (f (.int i t) (.int j u)) Q E s) :
  OpR X f (rI C fun i j=>.int (g i j)):=by
 intro pins s σ H x y v u Q I rx ry h;obtain⟨i,j,rfl,rfl,hc,q⟩:=h;obtain⟨t,rfl⟩:=rx;obtain⟨t',rfl⟩:=ry;exact rule i j t t' s _ _ hc ⟨.int (g i j),H,I.tok _,⟨_,rfl⟩,q⟩
theorem Cs {f:Value->Value->fu Value} {g:ag->ag->ag} 
  (rule:∀(i j:ag) (t u:Tok) (s:aH) (Q:Value->aH->Prop) (E:Value->aH->Prop),Q (.int (g i j) s.toks) {s with toks:=s.toks+1}->aG .(k) X.A (f (.int i t) (.int j u)) Q E s) :
  OpR X f (rI0 fun i j=>.int (g i j)):=by
 intro pins s σ H x y v u Q I rx ry h;obtain⟨i,j,rfl,rfl,q⟩:=h;obtain⟨t,rfl⟩:=rx;obtain⟨t',rfl⟩:=ry;exact rule i j t t' s _ _ ⟨.int (g i j),H,I.tok _,⟨_,rfl⟩,q⟩
theorem zj {f:Value->Value->fu Value} {g:ag->ag->ba} 
  (rule:∀(i j:ag) (t u:Tok) (s:aH) (Q:Value->aH->Prop) (E:Value->aH->Prop),Q (.bool (g i j)) s->aG .(k) X.A (f (.int i t) (.int j u)) Q E s) :
  OpR X f (rI0 fun i j=>.bl (g i j)):=by
 intro pins s σ H x y v u Q I rx ry h;obtain⟨i,j,rfl,rfl,q⟩:=h;obtain⟨t,rfl⟩:=rx;obtain⟨t',rfl⟩:=ry;exact rule i j t t' s _ _ ⟨.bl (g i j),H,I,rfl,q⟩
noncomputable def P8 (i j:ag):Prop:=0<j/\j<1073741824
noncomputable def Nr (i j:ag):Prop:=0<=j/\j<=1000000/\i.natAbs<2 ^ 64
noncomputable def tK (i j:ag):Prop:=(-(2 ^ 64)<i/\i<2 ^ 64)\/(-(2 ^ 64)<j/\j<2 ^ 64)
theorem tK.ok {i j:ag} (h:tK i j):IntMulOk i j:=by
 rcases h with⟨h1,h2⟩|⟨h1,h2⟩
 .exact .of_left (intBits_le_64 h1 h2)
 .exact .of_right (intBits_le_64 h1 h2)
theorem K8 (k:ah):(0:ag)<=2 ^ k:=by rw[two_pow_cast];exact Int.natCast_nonneg _
theorem O7:OpR X (gH .Add) (rI0 fun i j=>.int (i+j)):=Cs fun _ _ _ _ _ _ _ q=>add_int q
theorem Lr:OpR X (gH .Sub) (rI0 fun i j=>.int (i-j)):=Cs fun _ _ _ _ _ _ _ q=>sub_int q
theorem OS:OpR X (gH .Mult) (rI tK fun i j=>.int (i*j)):=opI fun _ _ _ _ _ _ _ hc q=>mul_int q hc.ok
theorem JL:OpR X (gH .FloorDiv) (rI P8 fun i j=>.int (i / j)):=opI fun i j _ _ _ _ _ hc q=>by have h1:(0:ag)<j:=hc.1;have h2:j<1073741824:=hc.2;exact floordiv_int .(a) (by rw[Ga i .(a)];exact q) (.inl (PyProof.noPylong_small .(a)))
theorem RQ:OpR X (gH .Mod) (rI (fun _ j=>0<j) fun i j=>.int (i%j)):=opI fun i j _ _ _ _ _ hc q=>by have h1:(0:ag)<j:=hc;exact mod_int' .(a) (by rw[Int.fmod_eq_emod_of_nonneg i .(a)];exact q)
theorem HS:OpR X (gH .Pow) (rI Nr fun i j=>.int (i ^ j.toNat)):=opI fun _ _ _ _ _ _ _ hc q=>pow_int_small hc.1 hc.2.1 hc.2.2 q
theorem O5:OpR X (gH .RShift) (rI (fun _ j=>0<=j) fun i j=>.int (i / 2 ^ j.toNat)):=opI fun i j _ _ _ _ _ hc q=>
 rshift_int hc (by rw[Ga i (K8 _)];exact q)
theorem unI {f:Value->fu Value} {g:ag->ag} 
  (rule:∀(i:ag) (t:Tok) (s:aH) (Q:Value->aH->Prop) (E:Value->aH->Prop),Q (.int (g i) s.toks) {s with toks:=s.toks+1}->aG .(k) X.A (f (.int i t)) Q E s) :
  UnR X f (rU fun i=>.int (g i)):=by
 intro pins s σ H x v Q I rx h;obtain⟨i,rfl,q⟩:=h;obtain⟨t,rfl⟩:=rx;exact rule i t s _ _ ⟨.int (g i),H,I.tok _,⟨_,rfl⟩,q⟩
theorem Pu:UnR X (unaryOp .USub) (rU fun i=>.int (-i)):=unI fun _ _ _ _ _ q=>neg_int q
end
noncomputable def xJ:V->V->ba
 |.non,.non=>al|.non,.int _=>al|.int _,.non=>al|.non,.bl _=>al|.bl _,.non=>al|.non,.str _=>al|.str _,.non=>al
 |.int _,.int _=>al|.bl _,.bl _=>al|.str _,.str _=>al
 |.int _,.str _=>al|.str _,.int _=>al|.bl _,.str _=>al|.str _,.bl _=>al
 |_,_=>aq
def rEq:R2:=fun x y H Q=>xJ x y=al/\Q (.bl (decide (x=y))) H
def rNe:R2:=fun x y H Q=>xJ x y=al/\Q (.bl (!decide (x=y))) H
theorem B8 {i j:ag} :decide (V.int i=V.int j)=(i==j):=by rw[vi];simp
theorem EO {i j:ba} :decide (V.bl i=V.bl j)=(i==j):=by rw[vi];simp
theorem Cq {i j:aj} :decide (V.str i=V.str j)=(i==j):=by rw[vi];simp
variable {r':R2} {op':CmpOp}
section
variable {a:Expr} {tc:TE}
theorem cQ {Q:VK} {k k':ba} (I:Inv X pins σ H s) (q:Q (.bl k) H) (e:k=k'):EP X pins σ Q (.bool k') s:=by subst e;exact⟨.bl k,H,I,rfl,q⟩
theorem Md:OpR X (eF .Eq) rEq:=by
 intro pins s σ H x y v u Q I rx ry h;obtain⟨hs,q⟩:=h;cases x with
 |non=>
  cases rx;cases y with
  |non=>cases ry;exact UY .(Y)
  |bl j=>cases ry;exact UZ .(Y)
  |int j=>obtain⟨t',rfl⟩:=ry;exact U0 .(Y)
  |str j=>obtain⟨t',rfl⟩:=ry;exact U1 .(Y)
  |_=>exact bB (show aq=al from hs) qr
 |bl i=>
  cases rx;cases y with
  |non=>cases ry;exact U2 .(Y)
  |bl j=>cases ry;exact eq_bool (cQ I q EO)
  |str j=>obtain⟨t',rfl⟩:=ry;exact U3 .(Y)
  |_=>exact bB (show aq=al from hs) qr
 |int i=>
  obtain⟨t,rfl⟩:=rx;cases y with
  |non=>cases ry;exact U4 .(Y)
  |int j=>obtain⟨t',rfl⟩:=ry;exact eq_int (cQ I q B8)
  |str j=>obtain⟨t',rfl⟩:=ry;exact U5 .(Y)
  |_=>exact bB (show aq=al from hs) qr
 |str i=>
  obtain⟨t,rfl⟩:=rx;cases y with
  |non=>cases ry;exact U6 .(Y)
  |bl j=>cases ry;exact U7 .(Y)
  |int j=>obtain⟨t',rfl⟩:=ry;exact U8 .(Y)
  |str j=>obtain⟨t',rfl⟩:=ry;exact eq_str (cQ I q Cq)
  |_=>exact bB (show aq=al from hs) qr
 |_=>cases y<;>exact bB (show aq=al from hs) qr
theorem ME:OpR X (eF .NotEq) rNe:=by
 intro pins s σ H x y v u Q I rx ry h;obtain⟨hs,q⟩:=h;cases x with
 |non=>
  cases rx;cases y with
  |non=>cases ry;exact U9 .(Y)
  |bl j=>cases ry;exact U' .(Y)
  |int j=>obtain⟨t',rfl⟩:=ry;exact Va .(Y)
  |str j=>obtain⟨t',rfl⟩:=ry;exact Vb .(Y)
  |_=>exact bB (show aq=al from hs) qr
 |bl i=>
  cases rx;cases y with
  |non=>cases ry;exact Vc .(Y)
  |bl j=>cases ry;exact ne_bool (cQ I q (cC not EO))
  |str j=>obtain⟨t',rfl⟩:=ry;exact Ve .(Y)
  |_=>exact bB (show aq=al from hs) qr
 |int i=>
  obtain⟨t,rfl⟩:=rx;cases y with
  |non=>cases ry;exact Vf .(Y)
  |int j=>obtain⟨t',rfl⟩:=ry;exact ne_int (cQ I q (cC not B8))
  |str j=>obtain⟨t',rfl⟩:=ry;exact Vg .(Y)
  |_=>exact bB (show aq=al from hs) qr
 |str i=>
  obtain⟨t,rfl⟩:=rx;cases y with
  |non=>cases ry;exact Vh .(Y)
  |bl j=>cases ry;exact Vi .(Y)
  |int j=>obtain⟨t',rfl⟩:=ry;exact Vj .(Y)
  |str j=>obtain⟨t',rfl⟩:=ry;exact ne_str (cQ I q (cC not Cq))
  |_=>exact bB (show aq=al from hs) qr
 |_=>cases y<;>exact bB (show aq=al from hs) qr
theorem Sk:OpR X (eF .Lt) (rI0 fun i j=>.bl (decide (i<j))):=zj fun _ _ _ _ _ _ _ q=>lt_int q
theorem Pn:OpR X (eF .LtE) (rI0 fun i j=>.bl (decide (i<=j))):=zj fun _ _ _ _ _ _ _ q=>le_int q
theorem Sl:OpR X (eF .Gt) (rI0 fun i j=>.bl (decide (j<i))):=zj fun _ _ _ _ _ _ _ q=>gt_int q
theorem Jc:OpR X (eF .Lt) (fun x y H Q=>∃i j,x=.str i/\y=.str j/\Q (.bl (decide (i.cps.toList<j.cps.toList))) H):=by intro pins s σ H x y v u Q I rx ry h;obtain⟨i,j,rfl,rfl,q⟩:=h;obtain⟨t,rfl⟩:=rx;obtain⟨t',rfl⟩:=ry;exact lt_str (cQ I q rfl)
theorem OM:OpR X (eF .In) (fun x y H Q=>∃i j,x=.str i/\y=.str j/\Q (.bl (!(vj j i 0 j.length 1).isEmpty)) H):=by intro pins s σ H x y v u Q I rx ry h;obtain⟨i,j,rfl,rfl,q⟩:=h;obtain⟨t,rfl⟩:=rx;obtain⟨t',rfl⟩:=ry;exact in_str (cQ I q rfl)
theorem OJ:OpR X (eF .Is) (fun x y H Q=>y=.non/\Q (.bl (decide (x=.non))) H):=by
 intro pins s σ H x y v u Q I rx ry h;obtain⟨rfl,q⟩:=h;cases ry;refine is_none_gen (cQ I q ?_);cases x<;>first
  |(cases rx;rfl)
  |(obtain⟨t,rfl⟩:=rx;rfl)
theorem Qk:OpR X (eF .IsNot) (fun x y H Q=>y=.non/\Q (.bl (!decide (x=.non))) H):=by
 intro pins s σ H x y v u Q I rx ry h;obtain⟨rfl,q⟩:=h;cases ry;refine isnot_none_gen (cQ I q ?_);cases x<;>first
  |(cases rx;rfl)
  |(obtain⟨t,rfl⟩:=rx;rfl)
theorem OpR.or {f:Value->Value->fu Value} {r:R2} (h:OpR X f r) (h':OpR X f r'):OpR X f (fun x y H Q=>r x y H Q\/r' x y H Q):=by
 intro pins s σ H x y v u Q I rx ry q;rcases q with q|q
 .exact h pins s σ H x y v u Q I rx ry q
 .exact h' pins s σ H x y v u Q I rx ry q
theorem bP (b:Expr) (h:op≠.In:=by decide) (h2:op≠.NotIn:=by decide):lX op b=aq:=by
 have e1:(op==SH)=aq:=by cases op<;>first|rfl|exact bB rfl h
 have e2:(op==SI)=aq:=by cases op<;>first|rfl|exact bB rfl h2
 cases b<;>simp[lX,e1,e2]
theorem QZ {r:R2} (ho:OpR X (eF op) r) (ha:PE X a ta) (hb:PE X b tb) (hm:lX op b=aq):PE X (.Compare a [op] [b] pos) (tOp r ta tb):=by intro pins s σ H Q I h;exact SJ (yG ha hb I h fun v u s2 x y H2 I2 rx ry q=>ho pins s2 σ H2 x y v u Q I2 rx ry q) hm
noncomputable def Es (t:TE):TT:=fun σ H Q=>t σ H fun x H'=>∃k,x=.bl k/\Q k H'
theorem SA {r:R2} (ho:OpR X (eF op) r) (ha:PE X a ta) (hb:PE X b tb) (hm:lX op b=aq):PT X (.Compare a [op] [b] pos) (Es (tOp r ta tb)):=by
 intro pins s σ H Q I h;refine wpAny_isTrue_Compare1 (thn .(aN) fun v s1 ⟨x,H1,I1,r1,q1⟩=>thn (hb pins s1 σ H1 _ I1 q1) fun u s2 ⟨y,H2,I2,r2,q2⟩=>
  thn (ho pins s2 σ H2 x y v u _ I2 r1 r2 q2) fun c s3 ⟨z,H3,I3,r3,k,e,q3⟩=>?_) hm
 subst e;cases r3;exact lY ⟨H3,I3,q3⟩
noncomputable def yD (r r':R2) (ta tb tc:TE):TE:=fun σ H Q=>ta σ H fun x H1=>tb σ H1 fun y H2=>r x y H2 fun z H3=>∃k,z=.bl k /\
 (if k=al then tc σ H3 fun w' H4=>r' y w' H4 Q else Q (.bl aq) H3)
theorem Kx {r:R2} (ho:OpR X (eF op) r) (ho':OpR X (eF op') r') (ha:PE X a ta) (hb:PE X b tb) (hc:PE X c tc)
  (hm:zA [op,op'] [b,c]=aq:=by with_unfolding_all rfl):PE X (.Compare a [op,op'] [b,c] pos) (yD r r' ta tb tc):=by
 intro pins s σ H Q I h;refine Compare_chain (thn .(aN) fun v s1 ⟨x,H1,I1,r1,q1⟩=>chain_link (thn (hb pins s1 σ H1 _ I1 q1) fun u s2 ⟨y,H2,I2,r2,q2⟩=>
  thn (ho pins s2 σ H2 x y v u _ I2 r1 r2 q2) fun d s3 ⟨z,H3,I3,r3,k,e,q3⟩=>?_)) hm
 subst e;cases r3;refine lY ?_;cases k with
 |false=>exact ite_ff ⟨.bl aq,H3,I3,rfl,q3⟩
 |true=>exact ite_tt (chain_last (thn (hc pins s3 σ H3 _ I3 q3) fun w' s4 ⟨z',H4,I4,r4,q4⟩=>ho' pins s4 σ H4 y z' u w' Q I4 r2 r4 q4))
theorem NG {r:R2} (ho:OpR X (eF op) r) (ho':OpR X (eF op') r') (ha:PE X a ta) (hb:PE X b tb) (hc:PE X c tc)
  (hm:zA [op,op'] [b,c]=aq:=by with_unfolding_all rfl):PT X (.Compare a [op,op'] [b,c] pos) (Es (yD r r' ta tb tc)):=by
 intro pins s σ H Q I h;refine isTrue_chain (thn .(aN) fun v s1 ⟨x,H1,I1,r1,q1⟩=>test_link (thn (hb pins s1 σ H1 _ I1 q1) fun u s2 ⟨y,H2,I2,r2,q2⟩=>
  thn (ho pins s2 σ H2 x y v u _ I2 r1 r2 q2) fun d s3 ⟨z,H3,I3,r3,k,e,q3⟩=>?_)) hm
 subst e;cases r3;refine lY ?_;cases k with
 |false=>
  obtain⟨k',e',q'⟩:=q3;cases e';exact ite_ff ⟨H3,I3,q'⟩
 |true=>
  refine ite_tt (test_last (thn (hc pins s3 σ H3 _ I3 q3) fun w' s4 ⟨z',H4,I4,r4,q4⟩=>thn (ho' pins s4 σ H4 y z' u w' _ I4 r2 r4 q4) fun d' s5 ⟨z2,H5,I5,r5,k2,e2,q5⟩=>?_));subst e2;cases r5;exact lY ⟨H5,I5,q5⟩
theorem rY:(aL:ah)<2 ^ 63:=by rw[eI];decide
theorem L':OpR X (gH .Add) (fun x y H Q=>∃i j,x=.str i/\y=.str j/\i.length+j.length<=aL/\Q (.str (i++j)) H):=by intro pins s σ H x y v u Q I rx ry h;obtain⟨i,j,rfl,rfl,hz,q⟩:=h;obtain⟨t,rfl⟩:=rx;obtain⟨t',rfl⟩:=ry;exact add_str (fun t' tk=>⟨.str (i++j),H,I.tok _,⟨_,rfl⟩,q⟩) hz
theorem gN {x:V} {us:ac Value} (r:bp [x] us):∃u,us=[u]/\bC x u:=by
 cases r with
 |cons r1 r2=>cases r2;exact⟨_,rfl,r1⟩
theorem n8 {x y:V} {us:ac Value} (r:bp [x,y] us):∃u w',us=[u,w']/\bC x u/\bC y w':=by
 cases r with
 |cons r1 r2=>
  cases r2 with
  |cons r3 r4=>cases r4;exact⟨_,_,rfl,r1,r3⟩
theorem Sz (hc:X.calm=al):fN X (.builtin "max") (fun xs H Q=>∃i j,xs=[.int i,.int j]/\Q (.int (if j > i then j else i)) H):=by
 intro pins s σ H xs us Q I r h;obtain⟨i,j,rfl,q⟩:=h;obtain⟨u,w',rfl,⟨t,rfl⟩,⟨t',rfl⟩⟩:=n8 r;refine max_two_ints (I.ok.hd hc) fun h' tk k=>⟨_,H,I.kept k,?_,q⟩;by_cases hj:j > i
 .rw[qY hj,qY hj];exact⟨_,rfl⟩
 .rw[qZ hj,qZ hj];exact⟨_,rfl⟩
theorem OP (hc:X.calm=al):fN X (.builtin "min") (fun xs H Q=>∃i j,xs=[.int i,.int j]/\Q (.int (if j<i then j else i)) H):=by
 intro pins s σ H xs us Q I r h;obtain⟨i,j,rfl,q⟩:=h;obtain⟨u,w',rfl,⟨t,rfl⟩,⟨t',rfl⟩⟩:=n8 r;refine min_two_ints (I.ok.hd hc) fun h' tk k=>⟨_,H,I.kept k,?_,q⟩;by_cases hj:j<i
 .rw[qY hj,qY hj];exact⟨_,rfl⟩
 .rw[qZ hj,qZ hj];exact⟨_,rfl⟩
theorem KO:fN X (.type "int") (fun xs H Q=>(∃i,xs=[.int i]/\Q (.int i) H)\/∃k,xs=[.bl k]/\Q (.int (if k then 1 else 0)) H):=by
 intro pins s σ H xs us Q I r h;rcases h with⟨i,rfl,q⟩|⟨k,rfl,q⟩
 .obtain⟨u,rfl,t,rfl⟩:=gN r;exact call_int_int ⟨.int i,H,I,⟨_,rfl⟩,q⟩
 .obtain⟨u,rfl,r1⟩:=gN r;cases r1;exact call_int_bool ⟨.int (if k then 1 else 0),H,I.tok _,⟨_,rfl⟩,q⟩
theorem MO:fN X (.type "str") (fun xs H Q=>∃i,xs=[.int i]/\i.natAbs.log2<1920/\Q (.str (sC i)) H):=by intro pins s σ H xs us Q I r h;obtain⟨i,rfl,hz,q⟩:=h;obtain⟨u,rfl,t,rfl⟩:=gN r;exact PySem.P.str_of_int hz ⟨.str _,H,I.tok _,⟨_,rfl⟩,q⟩
noncomputable def Lm (K:aV) (x:V) (H:Hp) (n:ah):Prop:=
 match x with
 |.str y=>y.length<=aL/\n=y.length
 |.ref p=>(∃xs,SqL K H p xs/\n=xs.length)\/∃xs,SqT K H p xs/\n=xs.length
 |_=>False
theorem MY:fN X (.builtin "len") (fun xs H Q=>∃x n,xs=[x]/\Lm X.K x H n/\Q (.int n) H):=by
 intro pins s σ H xs us Q I r h;obtain⟨x,n,rfl,e,q⟩:=h;obtain⟨u,rfl,rx⟩:=gN r;have hl:=rY;have hs:aL=16777216:=eI;cases x with
 |str y=>
  obtain⟨t,rfl⟩:=rx;obtain⟨hy,e'⟩:y.length<=aL/\n=y.length:=e;subst e';exact len_str .(a) ⟨.int _,H,I.tok _,⟨_,rfl⟩,q⟩
 |ref p=>
  cases rx;have e':(∃xs,SqL X.K H p xs/\n=xs.length)\/∃xs,SqT X.K H p xs/\n=xs.length:=e;rcases e' with⟨xs,hx,e'⟩|⟨xs,hx,e'⟩
  .subst e';obtain⟨its,r',pl,hz⟩:=I.list hx;have hlen:=r'.length;exact Calls.call_len_list pl.isList (by simp only[qB];omega) ⟨.int xs.length,H,I.tok _,⟨_,by simp only[qB];rw[hlen]⟩,q⟩
  .subst e';obtain⟨its,r',pl,hz⟩:=I.tuple hx;have hlen:=r'.length;exact len_tuple pl (by simp only[qB];omega) ⟨.int xs.length,H,I.tok _,⟨_,by simp only[qB];rw[hlen]⟩,q⟩
 |_=>exact(show False from e).elim
end
structure ObjM (h:Heap) (x dx C:av) (mA:aj->ar Value):Prop where
 obj:h.get? x=aa (nv C dx)
 ns:h.Ns1 dx mA
 ne:dx≠x
variable {dx:av} {mA:aj->ar Value}
theorem Fy {h:Heap} (n:h.Ns1 dx mA):∃od,h.get? dx=aa od/\∀name,zB name od=aa (mA name):=by
 obtain⟨o,es,ep,ho,hd,hk,_,hm⟩:=n;refine⟨o,ho,fun name=>?_⟩;have e:=hm name;unfold nsFind findBy at e;rw[←Array.find?_toList] at e;unfold zB;rw[hd];dsimp only;split
 .rename_i y q;rw[q] at e;exact cC aa e
 .rename_i q;rw[q] at e;have a:es.toList.any (·.refKey)=aq:=by rw[SQ];intro y hy;obtain⟨z,t,hkey⟩:=hk y (Gb.mp hy);simp[DictEntry.refKey,hkey]
  have a':¬es.toList.any (·.refKey)=al:=by rw[a];exact qr
  rw[qZ a'];exact cC aa e
variable {C:av}
theorem ObjM.look {h:Heap} {x:av} (I:ObjM h x dx C mA):∃od,PySem.W.InstAt h x (nv C dx) C (aa od)/\∀name,zB name od=aa (mA name):=
 let ⟨od,ho,hl⟩:=Fy I.ns
 ⟨od,⟨I.obj,rfl,rfl,ho⟩,hl⟩
variable {prog:ef} {name:aj} {expr:ba} {pl:fu ba} {R:Result->aH->Prop}
section
variable {x f:av} {v:Value}
theorem Ll (X:K.In s.heap) (I:ObjM s.heap x dx C mA) (hg:vm K C name=al) (hh:oW K C=al)
  (ha:cO K (.ref C) name=aa ae) (hv:mA name=aa v) (hv':SS v=al) (h:Q v {s with toks:=s.toks+1}) :
  aG .(B) A (vn (.ref x) name expr) Q E s:=by
 obtain⟨od,J,hl⟩:=I.look;exact PySem.W.get_value X J (Gc hg).1 (PySem.W.findObj_own hh ha rfl (by rw[hl,hv])) hv' h
theorem RP {Q:Value×ac Value->aH->Prop} (X:K.In s.heap) (I:ObjM s.heap x dx C mA) (hg:vm K C name=al)
  (hf:cO K (.ref C) name=aa (aa (.ref f))) (ht:oX K (.ref f)=al) (hv:mA name=ae) (h:Q (.ref f,[.ref x]) s) :
  aG .(B) A (vo (.ref x) name pl) Q E s:=by
 obtain⟨od,J,hl⟩:=I.look;exact PySem.W.method_fn X J (Gc hg).1 (Gc hg).2 hf (jq.mp ht) (by show(zB name od).map (·.isSome)=aa aq;rw[hl,hv];rfl) h
theorem Kh {ns:ac aj} {Q:jk->aH->Prop} (X:K.In s.heap) (I:ObjM s.heap x dx C mA)
  (hs:cO K (.ref C) "__setattr__"=aa .(aP)) (hp:Gd K C=al) (ht:Ge K C name=aa ae) (hh:oW K C=al)
  (hw:FZ mA ns) (hsz:ns.length<=aL)
  (h:∀h',ObjM h' x dx C (fun y=>if y=name then aa v else mA y)->jp dx s.heap h'->Q () {s with heap:=h',toks:=s.toks+2}) :
  aG .(B) A (setAttr (.ref x) name v) Q E s:=by
 obtain⟨od,J,hl⟩:=I.look;refine PySem.W.set_plain X J hs (PySem.W.osa_open (s:={s with toks:=s.toks+1}) (r:=ae) X J hp ht fun b=>?_);obtain⟨cd,hc,hd'⟩:=PySem.W.any_some hh;have hx:s.heap.get? x=aa ⟨.ref C,aa dx,.plain,#[]⟩:=I.obj;refine qx (qA (qx (qx (Gf hx (qx (SU (s:={s with toks:=s.toks+1}) (PySem.W.looks_clsIn X hc) ?_))))));rw[hd'];refine qA (a:=aa dx) (qx (qA (qx ?_)));refine wpAny_nsSet1 (s:={s with toks:=s.toks+1}) I.ns fun h' hn2 hs2=>?_;obtain⟨oD,esD,epD,hoD,hdD,hcD⟩:=hn2.count (SV name v hw);refine qx (SW hoD (by rw[hdD];exact SX (qM hcD (by rw[qh];omega))) ?_);exact qA (h _ ⟨(hs2.2 _ (eh I.ne)).trans I.obj,hn2,I.ne⟩ hs2)
theorem Pe {vs:ac Value} {kw:ac (aj×Value)} (X:K.In s.heap) (hm:zC K C=al)
  (hi:cO K (.ref C) "__init__"=aa (aa (.ref f))) (hf:PySem.W.typeIn K (.ref f)=aa (.type "function"))
  (h:gW .(B) (A.under (.builtin "type.__call__" ⟨.ref C::vs,kw⟩)) (.call (.ref f) ⟨.ref .(an)::vs,kw⟩) (PySem.W.InitBack .(an) R)
   {s with heap:=(s.heap.push l5).push (nv C s.heap.objs.size)}) :
  gW .(B) A (.call (.ref C) ⟨vs,kw⟩) R s:=by
 obtain⟨hh,g,d,t,os⟩:=s;exact PySem.W.make_core (PySem.W.makes_of X hm) (PySem.W.looks_findIn X hi) (fun self=>PySem.W.bind_fn X self hf) .(aq) h
end
noncomputable def fT (f:aj) (v:V):ac (aj×V)->ac (aj×V)
 |[]=>[(f,v)]
 |(g,x)::r=>if g=f then (g,v)::r else (g,x)::fT f v r
theorem Er (f g:aj) (v:V):∀fs:ac (aj×V),(fT f v fs).lookup g=if g=f then aa v else fs.lookup g
 |[]=>by
  show dQ g [(f,v)]=_;by_cases h:g=f
  .have hb:(g==f)=al:=jq.mpr h;simp only[dQ,hb,qY h]
  .have hb:(g==f)=aq:=oO.mpr h;simp only[dQ,hb,qZ h]
 |(k,x)::r=>by
  have ih:=Er f g v r;rw[show fT f v ((k,x)::r)=(if k=f then (k,v)::r else (k,x)::fT f v r) from rfl];by_cases hk:k=f
  .rw[qY hk];by_cases h:g=k
   .have hb:(g==k)=al:=jq.mpr h;simp only[dQ,hb,qY (h.trans hk)]
   .have hb:(g==k)=aq:=oO.mpr h;simp only[dQ,hb,qZ (fun e:g=f=>h (e.trans hk.symm))]
  .rw[qZ hk];by_cases h:g=k
   .have hb:(g==k)=al:=jq.mpr h;simp only[dQ,hb,qZ (fun e:g=f=>hk (h.symm.trans e))]
   .have hb:(g==k)=aq:=oO.mpr h;simp only[dQ,hb];exact ih
theorem yv (f:aj) (v:V):∀fs:ac (aj×V),f∈(fT f v fs).map (·.1)/\∀g,g∈fs.map (·.1)->g∈(fT f v fs).map (·.1)
 |[]=>⟨by simp[fT],fun g h=>by simp at h⟩
 |(k,x)::r=>by
  obtain⟨i1,i2⟩:=yv f v r;rw[show fT f v ((k,x)::r)=(if k=f then (k,v)::r else (k,x)::fT f v r) from rfl];by_cases hk:k=f
  .rw[qY hk];subst hk;exact⟨by simp,fun g h=>by simpa using h⟩
  .rw[qZ hk];refine⟨?_,fun g h=>?_⟩
   .rw[qm];exact qg _ i1
   .rw[qm] at h ⊢;rcases cy.mp h with e|e
    .exact cy.mpr (.inl e)
    .exact qg _ (i2 g e)
theorem C5 (f:aj) (v:V):∀fs:ac (aj×V),(fT f v fs).length<=fs.length+1
 |[]=>by simp[fT]
 |(k,x)::r=>by
  have ih:=C5 f v r;rw[show fT f v ((k,x)::r)=(if k=f then (k,v)::r else (k,x)::fT f v r) from rfl];by_cases hk:k=f
  .rw[qY hk,qh,qh];omega
  .rw[qZ hk,qh,qh];omega
theorem fJ.some_of {o:ar Value} (r:fJ (aa v) o):∃u,o=aa u/\bC v u:=by
 cases o with
 |none=>exact(show False from r).elim
 |some u=>exact⟨u,rfl,r⟩
theorem fJ.none_of {o:ar Value} (r:fJ ae o):o=ae:=by
 cases o with
 |none=>rfl
 |some u=>exact(show False from r).elim
theorem Et (r:bC v u):SS u=al:=by
 cases v with
 |non=>cases(show u=oP from r);rfl
 |bl b=>cases(show u=lT b from r);rfl
 |int i=>obtain⟨t,e⟩:=(show ∃t,u=u9 i t from r);cases e;rfl
 |str x=>obtain⟨t,e⟩:=(show ∃t,u=vc x t from r);cases e;rfl
 |ref a=>cases(show u=cj a from r);rfl
 |ty n=>cases(show u=lU n from r);rfl
section
variable {h:Heap} {fs fs':ac (aj×V)}
theorem sW (hok:HOk P w H h) (e:H a=aa (.ins C dx fs)):∃mA,ObjM h a dx C mA/\(∀f,fJ (fs.lookup f) (mA f))/\FZ mA (fs.map (·.1))/\fs.length<=1000/\H dx=aa (.own a):=by obtain⟨d,z,ne,ob,mA,n,r,q⟩:=(show cI P w H h a (.ins C dx fs) from hok a _ e);exact⟨mA,⟨ob,n,ne⟩,r,q,z,d⟩
end
structure Cls (K:aV) (C:av):Prop where
 pg:vm K C la=al
 hd:oW K C=al
 po:Gd K C=al
 sa:cO K (.ref C) "__setattr__"=aa .(aP)
theorem Cls.get (c:Cls K C) (f:aj):vm K C f=al:=c.pg
noncomputable def j9 (K:aV) (C:av) (f:aj):Prop:=cO K (.ref C) f=aa ae
theorem j9.taker {K:aV} {C:av} {f:aj} (n:j9 K C f):Ge K C f=aa ae:=by unfold Ge;rw[show cO K (.ref C) f=aa ae from n];rfl
structure Meth (K:aV) (C:av) (m:aj) (f:av):Prop where
 at_:cO K (.ref C) m=aa (aa (.ref f))
 fn:oX K (.ref f)=al
 kp:gI K (.ref f)=al
variable {env:cN}
section
variable {fs:ac (aj×V)} {f:aj}
theorem L6 {b:ba} (I:Inv X pins σ H s) (e:H a=aa (.ins C dx fs)) (c:Cls X.K C) (n:j9 X.K C f) (l:fs.lookup f=aa v)
  (h:∀u s',Inv X pins σ H s'->bC v u->Q u s'):aG .(k) A (vn (.ref a) f b) Q E s:=by
 obtain⟨mA,O,r,_,_,_⟩:=sW I.hok e;obtain⟨u,hu,ru⟩:=fJ.some_of (v:=v) (o:=mA f) (by rw[←l];exact r f);exact Ll I.kIn O (c.get f) c.hd n hu (Et ru) (h u _ (I.tok _) ru)
theorem LJ {m:aj} {g:av} {Q:Value×ac Value->aH->Prop} (I:Inv X pins σ H s) (e:H a=aa (.ins C dx fs)) (c:Cls X.K C) (k:Meth X.K C m g) (l:fs.lookup m=ae)
  (h:Q (.ref g,[.ref a]) s):aG .(k) A (vo (.ref a) m pl) Q E s:=by
 obtain⟨mA,O,r,_,_,_⟩:=sW I.hok e;have hn:mA m=ae:=fJ.none_of (by rw[←l];exact r m);exact RP I.kIn O (c.get m) k.at_ k.fn hn h
theorem Jj {y:V} {Q:jk->aH->Prop} (I:Inv X pins σ H s) (e:H a=aa (.ins C dx fs)) (c:Cls X.K C) (n:j9 X.K C f) (hl:fs.length<1000) (ry:bC y u)
  (h:∀s',Inv X pins σ (upd H a (.ins C dx (fT f y fs))) s'->Q () s'):aG .(k) A (setAttr (.ref a) f u) Q E s:=by
 obtain⟨mA,O,r,wi,_,ho⟩:=sW I.hok e;have hz:(fs.map (·.1)).length<=aL:=by rw[qe,eI];omega
 refine Kh I.kIn O c.sa c.po n.taker c.hd wi hz fun h' O' sb=>h _ ?_;have hd:∃o,h'.get? dx=aa o:=let ⟨o,_,_,e',_⟩:=O'.ns;⟨o,e'⟩
 refine I.write (x:=a) (e:=dx) (by rw[e];exact iE) (.inr ho) (fun b q hb z=>(sb.2 b hb).trans z) hd ?_;refine⟨by rw[aO O.ne];exact ho,?_,O.ne,O'.obj,_,O'.ns,fun g=>?_,fun g hg=>?_⟩
 .have:=C5 f y fs;omega
 .show fJ ((fT f y fs).lookup g) (if g=f then aa u else mA g);rw[Er];by_cases q:g=f
  .rw[qY q,qY q];exact ry
  .rw[qZ q,qZ q];exact r g
 .by_cases q:g=f
  .rw[q];exact(yv f y fs).1
  .refine(yv f y fs).2 g (wi g fun z=>hg ?_);show(if g=f then aa u else mA g)=ae;rw[qZ q];exact z
theorem Inv.made (I:Inv X pins σ H s):Inv X pins σ (upd (upd H s.heap.objs.size (.own .(an))) .(an) (.ins C s.heap.objs.size []))
  {s with heap:=(s.heap.push l5).push (nv C s.heap.objs.size)}:=by
 have e1:(s.heap.push l5).get? s.heap.objs.size=aa l5:=qG s.heap rfl;have e2:((s.heap.push l5).push (nv C s.heap.objs.size)).get? .(an)=aa (nv C s.heap.objs.size):=by
  have:=qG (s.heap.push l5) (o:=nv C s.heap.objs.size) rfl
  rwa [nA] at this
 have e3:(s.heap.push l5).Ns s.heap.objs.size (fun _=>ae):=⟨l5,#[],_,e1,rfl,(fun e he=>bB he (by simp)),fun _=>rfl⟩;have I1:=I.laid (a:=s.heap.objs.size) (o:=.own .(an)) (h':=s.heap.push l5) (t':=s.toks) (fun b u q=>qt _ q) (qv _) ⟨_,e1⟩;refine I1.laid (a:=s.heap.objs.size+1) (o:=.ins C s.heap.objs.size []) (t':=s.toks) (fun b u q=>qt _ q) (zD (nA _ _)) ?_;have ne:s.heap.objs.size≠s.heap.objs.size+1:=qC (oY _);refine⟨by rw[aO ne,bK],gX _,ne,e2,fun _=>ae,(SY e3).at fun o q=>qt _ q,fun _=>iE,fun y hy=>bB rfl hy⟩
theorem E3 (hb:jr e f env (eval e env)=eval e env)
  (h:aG .(B) A (eval e env) (fun o s₁=>aG .(B) A (vn o f al) Q E s₁) E s):aG .(B) A (eval (.Attribute e f pos) env) Q E s:=
 Attribute_any_ h (by rw[arm_eval_Attribute,hb])
end
def N1 (K:aV) (ta:TE) (f:aj):TE:=fun σ H Q=>ta σ H fun x H1=>∃a C dx fs v,x=.ref a/\H1 a=aa (.ins C dx fs)/\Cls K C/\j9 K C f/\fs.lookup f=aa v/\Q v H1
def IK (K:aV) (ta tv:TE) (f:aj):TS:=fun D σ H=>tv σ H fun y H1=>ta σ H1 fun x H2=>∃a C dx fs,x=.ref a/\H2 a=aa (.ins C dx fs)/\Cls K C/\j9 K C f/\fs.length<1000 /\
 D.nx σ (upd H2 a (.ins C dx (fT f y fs)))
variable {value:Expr} {tpos:dh} {tv:TE}
section
variable {f:aj}
theorem wo (he:PE X e ta) (hb:jr e f X.env (eval e X.env)=eval e X.env):PE X (.Attribute e f pos) (N1 X.K ta f):=by intro pins s σ H Q I h;refine E3 hb (thn (he pins s σ H _ I h) fun u s1 ⟨x,H1,I1,rx,a,C,dx,fs,v,ex,ea,c,n,l,q⟩=>?_);subst ex;obtain rfl:u=cj a:=rx;exact L6 I1 ea c n l fun u' s2 I2 ru=>⟨v,H1,I2,ru,q⟩
theorem DD (ha:PE X o ta) (hv:PE X value tv) (hs:e8 value (aa (.Attribute o f pos')) pos.line X.env=bq aq):PS X (.Assign [.Attribute o f pos'] value pos) (IK X.K ta tv f):=by intro pins s σ H D I h;refine SZ (thn (hv pins s σ H _ I h) fun u s1 ⟨y,H1,I1,ry,q⟩=>thn (ha pins s1 σ H1 _ I1 q) fun ov s2 ⟨x,H2,I2,rx,a,C,dx,fs,ex,ea,c,n,l,q2⟩=>?_) hs;subst ex;obtain rfl:ov=cj a:=rx;exact Jj I2 ea c n l ry fun s3 I3=>⟨σ,_,I3,q2⟩
end
section
variable {c:Value} {b:ba}
inductive TyOf (K:aV) (H:Hp):V->Value->Prop where
 |non:TyOf K H .non (.type "NoneType")
 |bl (x:ba):TyOf K H (.bl x) (.type "bool")
 |int (i:ag):TyOf K H (.int i) (.type "int")
 |str (x:aj):TyOf K H (.str x) (.type "str")
 |lst {a:av} {xs:ac V} (e:H a=aa (.lst xs)):TyOf K H (.ref a) (.type "list")
 |frz {a:av} {o:Obj} {xs:ac V} (e:H a=aa (.frz o (.lst xs))):TyOf K H (.ref a) (.type "list")
 |tup {a:av} {xs:ac V} (e:H a=aa (.tup xs)):TyOf K H (.ref a) (.type "tuple")
 |dK {a:av} {kvs:ac (Key×V)} (e:H a=aa (.dK kvs)):TyOf K H (.ref a) (.type "dict")
 |dT {a:av} {kvs:ac (ac Key×V)} (e:H a=aa (.dT kvs)):TyOf K H (.ref a) (.type "dict")
 |ins {a C dx:av} {fs:ac (aj×V)} (e:H a=aa (.ins C dx fs)) (cl:Cls K C) (ha:cO K (.ref C) "__class__"=aa (aa .(U)))
   (hn:vq K .(U) "__get__"=aa (aa .(ar))) (htk:S0 K .(U)=aa al)
   (hm:zE K C (.type "object")=aa al):TyOf K H (.ref a) (.ref C)
theorem BQ {x:V} {t:Value} (I:Inv X pins σ H s) (rx:bC x u) (ty:TyOf X.K H x t) (e:lc X.K t c=aa b) (h:∀tk,Q (.bool b) {s with toks:=tk}) :
  aG .(k) A (call (.builtin "isinstance") [u,c]) Q E s:=by
 cases ty with
 |non=>cases(show u=oP from rx);exact ki PySem.W.kitx_none I.kIn iE e (fun z=>nomatch z) h
 |bl y=>cases(show u=lT y from rx);exact ki PySem.W.kitx_bool I.kIn iE e (fun z=>nomatch z) h
 |int i=>obtain⟨t,q⟩:=(show ∃t,u=u9 i t from rx);cases q;exact ki PySem.W.kitx_int I.kIn iE e (fun z=>nomatch z) h
 |str y=>obtain⟨t,q⟩:=(show ∃t,u=vc y t from rx);cases q;exact ki PySem.W.kitx_str I.kIn iE e (fun z=>nomatch z) h
 | @lst a xs ea=>
  cases(show u=cj a from rx);obtain⟨_,_,n,_,h1⟩:=(show cI X.prog X.w H s.heap a (.lst xs) from I.hok a _ ea);exact ki S1 I.kIn ⟨_,h1,rfl⟩ e (fun z=>nomatch z) h
 | @frz a ob xs ea=>
  cases(show u=cj a from rx);obtain⟨_,_,_,n,_,h1⟩:=(show cI X.prog X.w H s.heap a (.frz ob (.lst xs)) from I.hok a _ ea);exact ki S1 I.kIn ⟨_,h1,rfl⟩ e (fun z=>nomatch z) h
 | @tup a xs ea=>
  cases(show u=cj a from rx);obtain⟨_,_,_,p⟩:=(show cI X.prog X.w H s.heap a (.tup xs) from I.hok a _ ea);obtain⟨o,h1,h2,_⟩:=p;exact ki PySem.W.kitx_tuple I.kIn ⟨o,h1,h2⟩ e (fun z=>nomatch z) h
 | @dK a kvs ea=>
  cases(show u=cj a from rx);obtain⟨_,_,vs,_,p⟩:=(show cI X.prog X.w H s.heap a (.dK kvs) from I.hok a _ ea);obtain⟨o,es,ep,h1,h2,_⟩:=p;exact ki S3 I.kIn ⟨o,h1,h2.1⟩ e (fun z=>nomatch z) h
 | @dT a kvs ea=>
  cases(show u=cj a from rx);obtain⟨_,_,xs,_,o,es,ep,h1,h2,_⟩:=(show cI X.prog X.w H s.heap a (.dT kvs) from I.hok a _ ea);exact ki S3 I.kIn ⟨o,h1,h2.1⟩ e (fun z=>nomatch z) h
 | @ins a C dx fs ea cl ha hn htk hm=>
  cases(show u=cj a from rx);obtain⟨mA,O,_⟩:=sW I.hok ea;obtain⟨od,J,_⟩:=O.look;exact ki (PySem.W.kitx_own (cl.get _) cl.hd ha hn htk hm) I.kIn J e (fun z=>nomatch z) h
end
structure Room (k:ah) (A:eU):Prop where
 hd:A.handled=ae
 dp:A.depth+3*k+5<recursionLimit
 un:A.units+16*k+200<di
theorem Room.mono {k:ah} (r:Room k A) (h:j<=k):Room j A:=⟨r.hd,by have:=r.dp;omega,by have:=r.un;omega⟩
theorem Room.deeper {k:ah} (r:Room (k+1) A) (env:cN):Room k (A.deeper env):=
 ⟨r.hd,by have:=r.dp;show A.depth+1+3*k+5 < _;omega,by have:=r.un;show A.units+3+16*k+200 < _;omega⟩
theorem PQ {us:ac Value} {kw:ac (aj×Value)} :(A.under (.builtin "type.__call__" ⟨.ref C::us,kw⟩)).depth=A.depth+1:=by
 first|rfl|simp[Gg,Code.weight,Code.isCreation,Code.isGuard,Code.isCaller,S4,Gh,guardIds]
theorem Rj {us:ac Value} {kw:ac (aj×Value)} :(A.under (.builtin "type.__call__" ⟨.ref C::us,kw⟩)).units=A.units+1:=by
 first|rfl|simp[Gg,Code.cUnits,S4,Gh]
theorem Room.make {k:ah} (r:Room (k+1) A) (C:av) (us:ac Value) (kw:ac (aj×Value)):Room k (A.under (.builtin "type.__call__" ⟨.ref C::us,kw⟩)):=
 ⟨r.hd,by have:=r.dp;rw[PQ];omega,by have:=r.un;rw[Rj];omega⟩
theorem Room.depth {k:ah} (r:Room k A):A.depth<recursionLimit:=by have:=r.dp;omega
noncomputable def tu:TA:=fun _ H Q=>Q [] H
noncomputable def xk (ta:TE) (tr:TA):TA:=fun σ H Q=>ta σ H fun x H1=>tr σ H1 fun xs H2=>Q (x::xs) H2
section
variable {t:TA}
theorem fD:PA X [] tu:=fun _ _ _ _ H Q I h=>Calls.spliced_nil ⟨[],H,I,.nil,h⟩
theorem dq (ha:PE X e te) (hr:PA X es t) (hs:bc (e::es) X.env=(aq,eval e X.env)::bc es X.env:=by rfl):PA X (e::es) (xk te t):=by intro pos pins s σ H Q I h;rw[hs];show aG _ _ (spliced ((aq,eval e X.env)::cW pos (bc es X.env))) _ _ s;refine Calls.spliced_cons (thn .(aN) fun u s1 ⟨x,H1,I1,r1,q1⟩=>?_);exact thn (hr pos pins s1 σ H1 _ I1 q1) fun us s2 ⟨xs,H2,I2,r2,q2⟩=>⟨x::xs,H2,I2,.cons r1 r2,q2⟩
def KH (t:TA):TE:=fun σ H Q=>t σ H fun xs H1=>xs.length<=aL/\∀p,H1 p=ae->Q (.ref p) (upd H1 p (.tup xs))
def Bx (t:TA):TE:=fun σ H Q=>t σ H fun xs H1=>xs.length<=aL/\∀p,H1 p=ae->Q (.ref p) (upd H1 p (.lst xs))
theorem EZ {x1} (h:PA X es t):PE X (.Tuple es x1 pos) (KH t):=by intro pins s σ H Q I hq;refine wpAny_Tuple_spliced (thn (h pos pins s σ H _ I hq) fun us s1 ⟨xs,H1,I1,r,z,q⟩=>⟨by rw[←r.length];exact z,?_⟩);have hf:H1 s1.heap.objs.size=ae:=I1.hok.fresh (qv _);refine⟨.ref s1.heap.objs.size,upd H1 s1.heap.objs.size (.tup xs),I1.laid (t':=s1.toks) (fun b u e=>qt _ e) (qv _) ?_,rfl,q _ hf⟩;exact⟨z,us,r,⟨_,qG _ rfl,rfl,_,rfl⟩⟩
theorem xy (h:PA X es t):PE X (.List es pos) (Bx t):=by intro pins s σ H Q I hq;refine wpAny_List_spliced (thn (h pos pins s σ H _ I hq) fun us s1 ⟨xs,H1,I1,r,z,q⟩=>⟨by rw[←r.length];exact z,?_⟩);have hf:H1 s1.heap.objs.size=ae:=I1.hok.fresh (qv _);refine⟨.ref s1.heap.objs.size,upd H1 s1.heap.objs.size (.lst xs),I1.laid (t':=s1.toks) (fun b u e=>qt _ e) (qv _) ?_,rfl,q _ hf⟩;exact⟨z,us,0,r,qG _ rfl⟩
end
abbrev Sp:=ac V->Hp->VK->XK->Prop
abbrev CXT:=ac cN->Hp->aH->XK->Value->aH->Prop
structure Env0 (P:ef) (w:cT) (K:aV) (mg:aj->ar Value) (base:Heap) (A:eU) (outer:ac cN) (s:aH) (H:Hp):Prop where
 frames:A.frames=aa outer
 mod:Mod K mg base
 bs:∀b o,base.get? b=aa o->s.heap.get? b=aa o/\H b=ae
 bsz:base.objs.size<=s.heap.objs.size
 funs:s.heap.FunFrames base outer
 frf:∀b∈frs outer,H b=ae
 hok:HOk P w H s.heap
 bare:kY s.gens
noncomputable def CE (outer:ac cN) (P:ef) (w:cT) (H:Hp) (s:aH) (Q:VK) (u:Value) (s':aH):Prop:=
 ∃v H',s'.os=s.os/\kY s'.gens/\Un (frs outer) [] H H' s.heap s'.heap/\HOk P w H' s'.heap/\bC v u/\Q v H'
noncomputable def CR (CX:CXT) (outer:ac cN) (P:ef) (w:cT) (H:Hp) (s:aH) (Q:VK) (E:XK) (r:Result) (s':aH):Prop:=
 match r with
 |.ok (.ret u)=>CE outer P w H s Q u s'
 |.ok _=>False
 |.error e=>CX outer H s E e s'
structure FnOk (P:ef) (w:cT) (K:aV) (mg:aj->ar Value) (base:Heap) (CX:CXT) (k:ah) (f:av) (fd:l6) (ps:ac aj) (sp:Sp):Prop where
 len:∀vs H Q E,sp vs H Q E->vs.length=ps.length
 run:∀(A:eU) (outer:ac cN) (s:aH) (H:Hp) (args:Args) (us:ac Value) (vs:ac V) (Q:VK) (E:XK),Room k A->Env0 P w K mg base A outer s H->sD s fd args (ps.zip us)->bp vs us->sp vs H Q E->
  gW (aI P w) A (.call (.ref f) args) (CR CX outer P w H s Q E) s
variable {mg:aj->ar Value} {base:Heap} {CX:CXT} {fd:l6} {ps:ac aj} {sp:Sp}
theorem FnOk.imp {k:ah} {f:av} {sp':Sp} (F:FnOk P w K mg base CX k f fd ps sp)
  (h:∀vs H Q E,sp' vs H Q E->sp vs H Q E):FnOk P w K mg base CX k f fd ps sp':=
 ⟨fun vs H Q E q=>F.len vs H Q E (h _ _ _ _ q),fun A outer s H args us vs Q E hr he hb hv hs=>F.run A outer s H args us vs Q E hr he hb hv (h _ _ _ _ hs)⟩
variable {outer:ac cN}
theorem Env0.make (e:Env0 P w K mg base A outer s H) (C:av) (us:ac Value) (kw:ac (aj×Value)) :
  Env0 P w K mg base (A.under (.builtin "type.__call__" ⟨.ref C::us,kw⟩)) outer s H:=⟨by first|exact e.frames|(simpa[Gg,Code.envs,Gh,pushEnvs] using e.frames),e.mod,e.bs,e.bsz,e.funs,e.frf,e.hok,e.bare⟩
theorem Inv.env0 (I:Inv X pins σ H s):Env0 X.prog X.w X.K X.mg X.base X.A X.stack s H:=
 ⟨I.ok.frames,I.ok.mod,I.bs,qM I.ok.bsz I.sz,I.stack,I.stkFree,I.hok,I.bare⟩
theorem Inv.after {Q:VK} (I:Inv X pins σ H s) (h:CE X.stack X.prog X.w H s Q u s'):EP X pins σ Q u s':=by obtain⟨v,H',os,bare,un,hok,r,q⟩:=h;obtain⟨hh,g,d,t,os'⟩:=s';obtain rfl:os'=s.os:=os;exact⟨v,H',I.call (h':=hh) (g':=g) (d':=d) (t':=t) (ch:=[]) un hok bare (fun b z=>bB z (by simp)),r,q⟩
noncomputable def Q0 (sp:Sp) (dvs:ac V) (E:XK) (t:TA):TE:=fun σ H Q=>t σ H fun vs H1=>sp (vs++dvs) H1 Q E
def Nl (C:av) (m:aj) (sp:Sp) (dvs:ac V) (E:XK) (ta:TE) (t:TA):TE:=fun σ H Q=>ta σ H fun x H1=>∃a dx fs,x=.ref a/\H1 a=aa (.ins C dx fs)/\fs.lookup m=ae /\
 t σ H1 fun vs H2=>sp (x::(vs++dvs)) H2 Q E
def JI (C:av) (sp:Sp) (dvs:ac V) (E:XK) (t:TA):TE:=fun σ H Q=>t σ H fun vs H1=>∀x dx,H1 x=ae->H1 dx=ae->dx≠x->
 sp (.ref x::(vs++dvs)) (upd (upd H1 dx (.own x)) x (.ins C dx [])) (fun v H2=>v=.non/\Q (.ref x) H2) E
noncomputable def fS (K:aV) (fd:l6) (ps:ac aj) (ds:ac Value):Prop:=
 ∀(s:aH) (us:ac Value),K.In s.heap->(us++ds).length=ps.length->sD s fd ⟨us,[]⟩ (ps.zip (us++ds))
theorem fS.all (h:∀us:ac Value,us.length=ps.length->l9 fd ⟨us,[]⟩=bq (ps.zip us)):fS K fd ps []:=fun s us _ hl=>by rw[iV] at hl ⊢;exact .of_eq (h us hl)
noncomputable def n4 (CX:CXT) (X:Cx) (E:XK):Prop:=∀(pins:ac (av×Obj)) (σ:St) (H:Hp) (s:aH) (e:Value) (s':aH),Inv X pins σ H s->CX X.stack H s E e s'->X.xe e s'
variable {apos:dh} {vs:ac V}
section
variable {k:ah} {f:av} {dvs:ac V} {ds:ac Value} {E:XK} {m:aj} {t:TA}
theorem BY {Q:VK} {us:ac Value} (F:FnOk X.prog X.w X.K X.mg X.base CX k f fd ps sp) (hr:Room k X.A) (hb:fS X.K fd ps ds) (hd:bp dvs ds) (hx:n4 CX X E)
  (I:Inv X pins σ H s) (r:bp vs us) (h:sp (vs++dvs) H Q E):aG .(k) X.A (call (.ref f) us) (EP X pins σ Q) X.xe s:=by
 have r2:bp (vs++dvs) (us++ds):=r.append hd;have hl:(us++ds).length=ps.length:=by rw[←r2.length];exact F.len _ _ _ _ h
 refine kj (lf (F.run X.A X.stack s H ⟨us,[]⟩ (us++ds) (vs++dvs) Q E hr I.env0 (hb s us I.kIn hl) r2 h) fun r s' hq=>?_);cases r with
 |error e=>exact hx pins σ H s e s' I hq
 |ok fl=>
  cases fl with
  |ret u=>exact I.after hq
  |next=>exact fL hq
  |brk=>exact fL hq
  |cont=>exact fL hq
theorem Ev (F:FnOk X.prog X.w X.K X.mg X.base CX k f fd ps sp) (hr:Room k X.A) (hg:Gl X x) (hm:X.mg x=aa (.ref f)) (hk:gI X.K (.ref f)=al) (hb:fS X.K fd ps ds) (hd:bp dvs ds) (hx:n4 CX X E)
  (ha:PA X (e::es) t) (hdb:.(x)=aq:=by decide) (he:bc (e::es) X.env=(aq,eval e X.env)::bc es X.env:=by rfl) (hpl:.(aO).any (·.1)=aq:=by rfl) :
  PE X .(ag) (Q0 sp dvs E t):=by
 intro pins s σ H Q I h;refine sE (nk I hg hm ?_ hdb);refine zF (h₀:=X.base) I.ok.mod.kin hk (thn (ha pos pins s σ H _ I h) fun us s1 ⟨vs,H1,I1,r,q⟩=>⟨I1.kIn,?_⟩) he hpl;exact BY F hr hb hd hx I1 r q
theorem JE (he:PE X o ta) (c:Cls X.K C) (hm:Meth X.K C m f) (F:FnOk X.prog X.w X.K X.mg X.base CX k f fd ps sp) (hr:Room k X.A) (hb:fS X.K fd ps ds) (hd:bp dvs ds) (hx:n4 CX X E)
  (ht:eval (.Call (.Attribute o m apos) [] [] pos) X.env=(do
   let ov ←eval o X.env
   oT apos.atName
   let (f,first) ←ij [ov] (vo ov m pl)
   Gi pos f first (cW pos (bc [] X.env)) (l' pos (ma [] X.env))):=by rfl) :
  PE X (.Call (.Attribute o m apos) [] [] pos) (Nl C m sp dvs E ta tu):=by
 intro pins s σ H Q I h;refine S5 (pl:=pl) (thn (he pins s σ H _ I h) fun u s1 ⟨x,H1,I1,rx,a,dx,fs,ex,ea,l,q⟩=>?_) ht;subst ex;obtain rfl:u=cj a:=rx;refine LJ I1 ea c hm l ?_;exact PySem.W.callWith_K0 (first:=[.ref a]) I1.kIn hm.kp (BY (us:=[.ref a]) (vs:=[.ref a]) F hr hb hd hx I1 (.cons rfl .nil) q)
structure Mk (K:aV) (C f:av):Prop where
 makes:zC K C=al
 init:cO K (.ref C) "__init__"=aa (aa (.ref f))
 fn:oX K (.ref f)=al
 kp:gI K (.ref C)=al
theorem HK {Q:VK} {us:ac Value} (M:Mk X.K C f) (F:FnOk X.prog X.w X.K X.mg X.base CX k f fd ps sp) (hr:Room (k+1) X.A) (hb:fS X.K fd ps ds) (hd:bp dvs ds)
  (hx:n4 CX X E) (I:Inv X pins σ H s) (r:bp vs us)
  (h:∀x dx,H x=ae->H dx=ae->dx≠x->sp (.ref x::(vs++dvs)) (upd (upd H dx (.own x)) x (.ins C dx [])) (fun v H2=>v=.non/\Q (.ref x) H2) E) :
  aG .(k) X.A (call (.ref C) us) (EP X pins σ Q) X.xe s:=by
 have hq:=h .(an) s.heap.objs.size (I.hok.fresh (sF _)) (I.hok.fresh (qv _)) (qC (oY _));have I2:=Inv.made (C:=C) I;have r2:bp (V.ref .(an)::(vs++dvs)) (cj .(an)::(us++ds)):=.cons rfl (r.append hd);have hl:(cj .(an)::us++ds).length=ps.length:=by have e:=r2.length;rw[F.len _ _ _ _ hq] at e;exact e.symm
 refine kj (Pe (f:=f) I.kIn M.makes M.init (jq.mp M.fn) (lf (F.run _ X.stack _ _ ⟨cj .(an)::us,[]⟩ (cj .(an)::(us++ds)) _ _ E (hr.make C us [])
  (I2.env0.make C us []) (hb _ (cj .(an)::us) I2.kIn hl) r2 hq) fun r s' hq'=>?_))
 cases r with
 |error e=>exact hx pins σ _ _ e s' I2 hq'
 |ok fl=>
  cases fl with
  |ret u=>
   obtain⟨v,H',I3,rv,ev,q3⟩:=I2.after hq';subst ev;exact⟨rv,⟨V.ref .(an),H',I3,rfl,q3⟩⟩
  |next=>exact fL hq'
  |brk=>exact fL hq'
  |cont=>exact fL hq'
theorem RZ (M:Mk X.K C f) (F:FnOk X.prog X.w X.K X.mg X.base CX k f fd ps sp) (hr:Room (k+1) X.A) (hg:Gl X x) (hm:X.mg x=aa (.ref C)) (hb:fS X.K fd ps ds) (hd:bp dvs ds) (hx:n4 CX X E)
  (ha:PA X (e::es) t) (hdb:.(x)=aq:=by decide) (he:bc (e::es) X.env=(aq,eval e X.env)::bc es X.env:=by rfl) (hpl:.(aO).any (·.1)=aq:=by rfl) :
  PE X .(ag) (JI C sp dvs E t):=by
 intro pins s σ H Q I h;refine sE (nk I hg hm ?_ hdb);refine zF (h₀:=X.base) I.ok.mod.kin M.kp (thn (ha pos pins s σ H _ I h) fun us s1 ⟨vs,H1,I1,r,q⟩=>⟨I1.kIn,?_⟩) he hpl;exact HK M F hr hb hd hx I1 r q
end
structure FnScope (N P:ac aj) (sc:Scope):Prop where
 kind:sc.kind=.function
 co:sc.isCoroutine=aq
 gen:sc.isGenerator=aq
 nd:N.Nodup
 pre:N.take P.length=P
 par:∀x∈P,sc.names.lookup x=aa .local\/sc.names.lookup x=aa .cell
 nofree:∀y∈sc.names,y.2≠.free
theorem DC {kindOf:aj->ar iF} {x:aj}:∀{binds:ac (aj×Value)} {m:aj->ar Value},(∀v,(x,v)∉binds)->nB kindOf binds m x=m x
 |[],_,_=>rfl
 |(n,v)::r,m,h=>by
  unfold nB;rw[DC fun w hw=>h w (qg _ hw)];split
  .have:x≠n:=by rintro rfl;exact h v qf
   simp[this]
  .rfl
theorem EY {kindOf:aj->ar iF} {x:aj}:∀{binds:ac (aj×Value)} {m:aj->ar Value},(∀v,(x,v)∉binds)->nC kindOf binds m x=m x
 |[],_,_=>rfl
 |(n,v)::r,m,h=>by
  unfold nC;rw[EY fun w hw=>h w (qg _ hw)];split
  .rfl
  .have:x≠n:=by rintro rfl;exact h v qf
   simp[this]
theorem Br {kindOf:aj->ar iF} {x:aj} {v:Value}:∀{P:ac aj} {vs:ac Value} {i:ah} {m:aj->ar Value},P.Nodup->P[i]?=aa x->vs[i]?=aa v->kindOf x=aa .local->
  nB kindOf (P.zip vs) m x=aa v
 |[],_,_,_,_,h,_,_=>by simp at h
 |_::_,[],_,_,_,_,h,_=>by simp at h
 |p::P,w::vs,0,m,nd,h1,h2,hk=>by
  simp at h1 h2;subst h1;subst h2;show nB kindOf ((p,w)::P.zip vs) m p=_;unfold nB;rw[DC fun v hv=>(eJ.mp nd).1 (Gj hv).1,qY hk];simp
 |p::P,w::vs,i+1,m,nd,h1,h2,hk=>by show nB kindOf ((p,w)::P.zip vs) m x=_;unfold nB;exact Br (i:=i) (eJ.mp nd).2 (by simpa using h1) (by simpa using h2) hk
theorem B7 {kindOf:aj->ar iF} {x:aj} {v:Value}:∀{P:ac aj} {vs:ac Value} {i:ah} {m:aj->ar Value},P.Nodup->P[i]?=aa x->vs[i]?=aa v->kindOf x≠aa .local->
  nC kindOf (P.zip vs) m x=aa v
 |[],_,_,_,_,h,_,_=>by simp at h
 |_::_,[],_,_,_,_,h,_=>by simp at h
 |p::P,w::vs,0,m,nd,h1,h2,hk=>by
  simp at h1 h2;subst h1;subst h2;show nC kindOf ((p,w)::P.zip vs) m p=_;unfold nC;rw[EY fun v hv=>(eJ.mp nd).1 (Gj hv).1,qZ hk];simp
 |p::P,w::vs,i+1,m,nd,h1,h2,hk=>by show nC kindOf ((p,w)::P.zip vs) m x=_;unfold nC;exact B7 (i:=i) (eJ.mp nd).2 (by simpa using h1) (by simpa using h2) hk
noncomputable def ie (N:ac aj) (vs:ac V):St:=vs.map aa++bS (N.length-vs.length) ae
noncomputable def eS (CX:CXT) (P:ef) (w:cT) (K:aV) (mg:aj->ar Value) (base:Heap) (N:ac aj) (qual:aj) (scope:Scope) (f:av) (cd:Value) (A:eU) (outer:ac cN) (s:aH) (H:Hp) (E:XK):Cx where
 prog:=P
 w:=w
 K:=K
 mg:=mg
 base:=base
 A:=A.deeper (cX qual scope s.heap.objs.size f cd)
 N:=N
 s₀:=s
 H₀:=H
 env:=cX qual scope s.heap.objs.size f cd
 outer:=outer
 stack:=cX qual scope s.heap.objs.size f cd::outer
 ex:=[]
 calm:=al
 fn:=fun _=>al
 pn:=[]
 xe:=fun e s'=>aG (aI P w) (A.deeper (cX qual scope s.heap.objs.size f cd)) (leaving (cX qual scope s.heap.objs.size f cd) e) (fun _ s''=>CX outer H s E e s'') (fun e' s''=>CX outer H s E e' s'') s'
variable {sc:Scope}
theorem BZ (h:sc.names.lookup x=aa .cell):∃c,(Gk n sc.names []).lookup x=aa c:=by have q:=S6 sc.names n [] (.inl h);exact zG.mp q
variable {qual:aj} {scope:Scope} {cd:Value}
theorem N7 {f:av} {s1:aH} {E:XK} {us:ac Value} 
  (S:FnScope N ps scope) (hd:A.handled=ae) (e0:Env0 P w K mg base A outer s H) (hl:vs.length=ps.length) (r:bp vs us)
  (x:InCallC s s.heap.objs.size (nB (cX qual scope s.heap.objs.size f cd).kindOf (ps.zip us) fun _=>ae) (Gk .(an) scope.names []) (nC (cX qual scope s.heap.objs.size f cd).kindOf (ps.zip us) fun _=>ae) s1) :
  Inv (eS CX P w K mg base N qual scope f cd A outer s H E) [] (ie N vs) H s1:=by
 have hpl:ps.length<=N.length:=by have:=cC fW S.pre;rw[qE] at this;omega
 obtain⟨h1,tk,rfl,hk⟩:=x.done;have noA:∀b:av,b∉(eS CX P w K mg base N qual scope f cd A outer s H E).ex:=fun b z=>bB (show b∈([]:ac av) from z) (by simp);refine⟨⟨e0.mod,S.kind,rfl,rfl,qv _,fun y z c h1 h2=>?_,fun y hy=>?_,fun y c _ h=>?_,fun _=>hd,Around.frames_deeper e0.frames,.inr ⟨rfl,rfl⟩,fun b z=>bB z (noA b),e0.bs,e0.bsz,fun b _ _=>noA b,fun b z=>bB z (noA b),e0.funs,e0.frf⟩,
  rfl,e0.bare,Un.kept hk,⟨_,x.toInCall.ns,fun i y v h1 h2 h3=>?_⟩,fun y c h=>⟨_,x.cell y c h⟩,e0.hok.fresh (qv _),fun y c h=>?_,fun p hp=>bB (show p∈([]:ac (av×Obj)) from hp) (by simp),e0.hok.kept hk,?_⟩
 .exact name_of_addr x.apart (nD h1) (nD h2)
 .have hy:scope.names.lookup y=aa .cell\/scope.names.lookup y=aa .free:=hy;rcases hy with hy|hy
  .exact BZ hy
  .exact bB rfl (S.nofree _ (nD hy))
 .exact sv (x.above y c (nD h))
 .have hi:i<vs.length:=by
   unfold ie at h2;by_cases hi:i<vs.length
   .exact hi
   .rw[qK (by simpa using hi)] at h2;rw[zH] at h2;split at h2<;>cases h2
  have ha:vs[i]?=aa v:=by
   unfold ie at h2;rw[qz (by simpa using hi),qj] at h2;cases e:vs[i]? with
   |none=>rw[e] at h2;cases h2
   |some a=>rw[e] at h2;cases h2;rfl
  obtain⟨u,hu,rv⟩:=r.get ha;have hp:ps[i]?=aa y:=by rw[←S.pre,vt .(a)];exact h1
  have ndP:ps.Nodup:=by rw[←S.pre];exact S.nd.sublist (oZ _ _)
  refine⟨u,rv,?_⟩;rcases S.par y (qP hp) with k|k
  .exact .inl ⟨k,Br ndP hp hu k⟩
  .obtain⟨c,e⟩:=BZ (n:=s.heap.objs.size+1) k;refine .inr ⟨.inl k,c,e,?_⟩;have q:=x.cell y c e;rw[B7 ndP hp hu (by show scope.names.lookup y≠_;rw[k];decide)] at q;exact q
 .exact e0.hok.fresh (sv (x.above y c (nD h)))
 .unfold ie;show _=N.length;rw[qi,qe,List.length_replicate];omega
variable {doc pm cdv ct oc:Value} {an od:ar av} {osl:b7 (ar Value)}
theorem Eu {k:ah} {f:av} {params:Arguments} {dV kV:Value} 
  (lk:K.lookup f=aa ⟨oc,od,.func (ik name qual params body scope dV kV doc pm an cdv ct),osl⟩) (hcd:sG K cdv qual=al) (S:FnScope N ps scope)
  (len:∀vs H Q E,sp vs H Q E->vs.length=ps.length)
  (hbody:∀(A:eU) (outer:ac cN) (s:aH) (H:Hp) (vs:ac V) (Q:VK) (E:XK),Room k (A.deeper (cX qual scope s.heap.objs.size f cdv))->sp vs H Q E->
   ∃t,PSs (eS CX P w K mg base N qual scope f cdv A outer s H E) body t/\t {nx:=fun _ H'=>Q .non H',rt:=Q} (ie N vs) H) :
  FnOk P w K mg base CX (k+1) f (ik name qual params body scope dV kV doc pm an cdv ct) ps sp:=by
 refine⟨len,fun A outer s H args us vs Q E hr e0 hb r hsp=>?_⟩;have hl:=len _ _ _ _ hsp;have KX:K.In s.heap:=e0.mod.kin.keeps fun b o e=>(e0.bs b o e).1;have lim:s.heap.NoLimit:=e0.mod.nolimit.keeps fun b o e=>(e0.bs b o e).1;have hkind:∀y∈ps.zip us,scope.names.lookup y.1=aa .local\/(scope.names.lookup y.1=aa .cell/\((Gk .(an) scope.names []).lookup y.1).isSome=al):=fun⟨n,v⟩ hy=>by
  rcases S.par n (Gj hy).1 with q|q
  .exact .inl q
  .exact .inr ⟨q,S6 _ _ _ (.inl q)⟩
 refine codeAny_call_function hr.depth (KX _ _ lk) rfl S.co S.gen rfl (PySem.W.codeRec_of KX hcd) (hb _ _ _ _ ?_);refine wpAny_newFunctionEnv_cells S.kind hkind fun env he s1 x=>?_;subst he;refine⟨lim.keeps x.toInCall.keep,codeAny_func ?_⟩;obtain⟨t,ht,hq⟩:=hbody A outer s H vs Q E (hr.deeper _) hsp;have I:Inv (eS CX P w K mg base N qual scope f cdv A outer s H E) [] (ie N vs) H s1:=N7 S hr.hd e0 hl r x;refine e7 (ht [] s1 (ie N vs) H _ I hq) (fun fl s' hs=>?_) fun e s' hs=>hs;have fin:∀{σ':St} {H':Hp} {v:V} {u:Value},Inv (eS CX P w K mg base N qual scope f cdv A outer s H E) [] σ' H' s'->bC v u->Q v H'->CE outer P w H s Q u s':=
  fun {σ' H' v u} J rv q=>⟨v,H',J.os,J.bare,J.base,J.hok,rv,q⟩
 cases fl with
 |ret u=>
  obtain⟨v,σ',H',J,rv,q⟩:=hs;exact fin J rv q
 |next=>
  obtain⟨σ',H',J,q⟩:=hs;exact fin (v:=V.non) (u:=oP) J rfl q
 |brk=>
  obtain⟨_,_,_,q⟩:=hs;exact fL q
 |cont=>
  obtain⟨_,_,_,q⟩:=hs;exact fL q
section
variable {t:TA} {id T:cM} {r:ac V->Hp->VK->Prop}
noncomputable def tCB (r:ac V->Hp->VK->Prop) (t:TA):TE:=fun σ H Q=>t σ H fun vs H1=>r vs H1 Q
theorem mC (hc:fN X (.builtin id) r) (hg:Gl X x) (hm:X.mg x=ae) (hv:lW x=aa (.builtin id)) (ha:PA X (e::es) t) (hn:x≠"__name__":=by decide) (hdb:.(x)=aq:=by decide)
  (he:bc (e::es) X.env=(aq,eval e X.env)::bc es X.env:=by rfl) (hpl:.(aO).any (·.1)=aq:=by rfl):PE X .(ag) (tCB r t):=by
 intro pins s σ H Q I h;refine sE (oB I hg hm hv ?_ hn hdb);exact Vk (thn (ha pos pins s σ H _ I h) fun us s1 ⟨vs,H1,I1,r1,q1⟩=>hc pins s1 σ H1 vs us Q I1 r1 q1) he hpl
theorem Bc (hc:fN X (.type T) r) (hg:Gl X x) (hm:X.mg x=ae) (hv:lW x=aa (.type T)) (ha:PA X (e::es) t) (hn:x≠"__name__":=by decide) (hdb:.(x)=aq:=by decide)
  (he:bc (e::es) X.env=(aq,eval e X.env)::bc es X.env:=by rfl) (hpl:.(aO).any (·.1)=aq:=by rfl):PE X .(ag) (tCB r t):=by
 intro pins s σ H Q I h;refine sE (oB I hg hm hv ?_ hn hdb);exact zz (thn (ha pos pins s σ H _ I h) fun us s1 ⟨vs,H1,I1,r1,q1⟩=>hc pins s1 σ H1 vs us Q I1 r1 q1) he hpl
end
variable {sl:av} {vl vu:Value} {hi:ar ag} {items:b7 Value}
namespace HT
theorem cat_tup {t b:av} {vs ws:ac Value} (ht:vd s.heap t vs.toArray) (hb:vd s.heap b ws.toArray) (hv:vs≠[])
  (h1:ws=[]->Q (.ref t) s) (h2:ws≠[]->Q (.ref s.heap.objs.size) {s with heap:=s.heap.push {cls:=.type "tuple",data:=.seq (vs++ws).toArray} })
  (hsz:vs.length+ws.length<=aL):aG .(B) A (gH .Add (.ref t) (.ref b)) Q E s:=by
 obtain⟨⟨cls,dd,data,sl⟩,ho,hc,n,hd⟩:=id ht;obtain⟨⟨cls2,dd2,data2,sl2⟩,ho2,hc2,n2,hd2⟩:=id hb;simp only at hc hd hc2 hd2;subst hc hd hc2 hd2;have e:vs.toArray++ws.toArray=(vs++ws).toArray:=by simp
 by_cases hw:ws=[]
 .exact concat_meets ⟨_,ho,rfl⟩ ⟨_,ho2,rfl⟩ S7 seq_tuple_add S8 S9 (S' _ _)
   (tuple_addW1 t b vs.toArray ws.toArray n n2 dd dd2 sl sl2 (by simpa using hv) (by simp[hw])) ⟨ho,ho2,h1 hw⟩
 .refine concat_meets ⟨_,ho,rfl⟩ ⟨_,ho2,rfl⟩ S7 seq_tuple_add S8 S9 (S' _ _)
   (tuple_addW2 t b vs.toArray ws.toArray n n2 dd dd2 sl sl2 (by simpa using hv) (by simpa using hw) (by rw[qB,qB];exact hsz)) ⟨ho,ho2,?_⟩
  rw[e];exact h2 hw
noncomputable def sIx (n d:ah):ar ag->ah
 |none=>d
 |some v=>if v<0 then (v+(n:ag)).toNat else min v.toNat n
theorem sIx_none (n d:ah):sIx n d ae=d:=rfl
theorem sIx_nat (n d k:ah):sIx n d (aa (k:ag))=min k n:=by show(if (k:ag)<0 then ((k:ag)+(n:ag)).toNat else min (k:ag).toNat n)=min k n;rw[qZ .(a),iW]
theorem L9 (n d:ah) (hd:d<=n) (o:ar ag):sIx n d o<=n:=by
 cases o with
 |none=>exact hd
 |some v=>
  show(if v<0 then (v+(n:ag)).toNat else min v.toNat n)<=n;by_cases hv:v<0
  .rw[qY hv];omega
  .rw[qZ hv];exact zI _ _
theorem Dv (v:ag) (n d:ah):(if v<0 then max (v+(n:ag)) 0 else min v (n:ag))=((sIx n d (aa v):ah):ag):=by
 show(if v<0 then max (v+(n:ag)) 0 else min v (n:ag))=(((if v<0 then (v+(n:ag)).toNat else min v.toNat n):ah):ag);by_cases hv:v<0
 .simp only[qY hv];omega
 .simp only[qZ hv];omega
theorem Ku (lo hi:ar ag) (n:ah):Gm lo hi 1 (n:ag)=(((sIx n 0 lo:ah):ag),((sIx n n hi:ah):ag)):=by
 have h1:¬((1:ag)<0):=by omega
 unfold Gm;simp only[h1,dv];refine Prod.ext ?_ ?_
 .cases lo with
  |none=>rfl
  |some v=>exact Dv v n 0
 .cases hi with
  |none=>rfl
  |some v=>exact Dv v n n
theorem Iv (i j:ah):zJ (i:ag) (j:ag) 1=j-i:=by
 unfold zJ;have h1:(1:ag) > 0:=by omega
 simp only[h1,cr,Int.ediv_one];split<;>omega
theorem Eb {v:Value} {o:ar ag} {Q:ar ag->aH->Prop} (p:nF v o) (h:Q o s):aG .(B) A (Vl v) Q E s:=by
 cases p with
 |none=>exact Ta h
 |int i t=>exact slicePart_int h
theorem RW {lo:ar ag} {Q:ag×ag×ah->aH->Prop} (hs:s.heap.IsSliceOf sl vl vu .none) (pl:nF vl lo) (pu:nF vu hi)
  (h:Q (((sIx n 0 lo:ah):ag),1,sIx n n hi-sIx n 0 lo) s):aG .(B) A (Tc (.ref sl) (bq (n:ag))) Q E s:=by
 obtain⟨os,hos,hcs,hds⟩:=id hs;unfold Tc Vm;refine qx (qx (Gn hos hds (x:=vl) rfl (qx (Gn hos hds (x:=vu) rfl (qx (Gn hos hds (x:=.none) rfl (qA ?_)))))));refine qx (Ta ?_);show aG _ _ (if ((1:ag)==0)=al then _ else _) _ _ s;rw[qZ .(c)];refine qx (Eb pl (qx (Eb pu (qx (qA ?_)))));show aG _ _ (match Gm lo hi 1 (n:ag) with|(lo,hi)=>bq (lo,(1:ag),zJ lo hi 1)) _ _ s;rw[Ku lo hi n];show aG _ _ (bq (((sIx n 0 lo:ah):ag),(1:ag),zJ ((sIx n 0 lo:ah):ag) ((sIx n n hi:ah):ag) 1)) _ _ s;rw[Iv];exact qA h
theorem QM (xs:b7 Value) (i k:ah):((cz k).filterMap fun(m:ah)=>xs[((i:ag)+(m:ag)*1).toNat]?).toArray=((xs.toList.drop i).take k).toArray:=by
 have e:(fun(m:ah)=>xs[((i:ag)+(m:ag)*1).toNat]?)=fun m=>xs[i+m]?:=by
  funext m
  have:((i:ag)+(m:ag)*1).toNat=i+m:=by omega
  rw[this]
 rw[e];have:=zK xs i k;rw[List.filterMap_map] at this;have e2:((fun x=>xs[x]?) ∘ fun x=>i+x)=fun m=>xs[i+m]?:=rfl;rw[e2] at this;rw[this]
theorem getItem_tuple_cut {t:av} {lo:ar ag} (ht:vd s.heap t items) (hs:s.heap.IsSliceOf sl vl vu .none) (pl:nF vl lo) (pu:nF vu hi)
  (hw:¬(sIx items.size 0 lo=0/\sIx items.size items.size hi=items.size))
  (h:Q (.ref s.heap.objs.size) {s with heap:=s.heap.push {cls:=.type "tuple",data:=.seq .(aM).toArray} })
  (hsz:items.size<=aL):aG .(B) A (nG (.ref t) (.ref sl)) Q E s:=by
 have htake:sizeOk (.seq .(aM).toArray):=by show.(aM).toArray.size<=aL;rw[qB,qE,gY,iD];omega
 have hj:sIx items.size items.size hi<=items.size:=L9 _ _ (qv _) hi;obtain⟨os,hos,hcs,hds⟩:=id hs;have hTs:s.TypeIs (.ref sl) "slice":=⟨os,hos,hcs⟩;unfold nG
 try with_reducible refine qT ?_
 first|refine qx (qA ?_)|skip
 refine qx (wpAny_sequenceKey ht.typeIs .(c) ?_);refine qx (wpAny_callSpecial?_slot (name:=sH "__getitem__") ht.typeIs Go
  (wpAny_call_entry Go ht.typeIs entry_tuple_getitem ?_ (args_tuple_getitem _ _)))
 show aG _ _ (Vn (.ref t) >>= _) _ _ s;refine qx (tupleItemsOf_ ht ?_);refine qx (vw hTs ?_);rw[qY .(c)];refine qx (RW hs pl pu ?_);have hno:¬((((sIx items.size 0 lo:ah):ag)==0 && (1:ag)==1 && (sIx items.size items.size hi-sIx items.size 0 lo)==items.size)=al):=by intro q;rw[ge,ge] at q;have q1:((sIx items.size 0 lo:ah):ag)=0:=Gp q.1.1;have q2:sIx items.size items.size hi-sIx items.size 0 lo=items.size:=Gp q.2;exact hw ⟨by omega,by omega⟩
 show aG _ _ (if (((sIx items.size 0 lo:ah):ag)==0 && (1:ag)==1 && (sIx items.size items.size hi-sIx items.size 0 lo)==items.size)=al then _ else _) _ _ s;rw[qZ hno,QM]
 first
  |exact qx (m:=zL _) (vx (qA ⟨_,rfl,qA h⟩) htake)
  |exact qx (m:=zL _) (vx (qx (qA (qA ⟨_,rfl,qA h⟩))) htake)
  |exact qx (qx (m:=zL _) (vx (qA (qA ⟨_,rfl,qA h⟩)) htake))
  |exact qx (qx (m:=zL _) (vx (qA ⟨_,rfl,qA h⟩) htake))
end HT
abbrev TO:=St->Hp->(ar ag->Hp->Prop)->Prop
noncomputable def PO (X:Cx) (e:ar Expr) (t:TO):Prop:=
 ∀(pins:ac (av×Obj)) (s:aH) (σ:St) (H:Hp) (Q:ar ag->Hp->Prop),Inv X pins σ H s->t σ H Q->
  aG .(k) X.A (evalPart e X.env) (fun u s'=>∃o H',Inv X pins σ H' s'/\nF u o/\Q o H') X.xe s
noncomputable def JM:TO:=fun _ H Q=>Q ae H
noncomputable def K0 (t:TE):TO:=fun σ H Q=>t σ H fun x H1=>∃i,x=.int i/\Q (aa i) H1
variable {p2:dh}
section
variable {lo hi:ar Expr} {tl th:TO}
theorem Sy:PO X ae JM:=by intro pins s σ H Q I h;rw[evalPart_none];exact qA ⟨ae,H,I,.none,h⟩
theorem JQ (h:PE X e te):PO X (aa e) (K0 te):=by intro pins s σ H Q I hw;rw[evalPart_some];refine thn (h pins s σ H _ I hw) fun u s1 ⟨x,H1,I1,r1,q1⟩=>?_;obtain⟨i,rfl,q⟩:=q1;obtain⟨t,rfl⟩:=r1;exact⟨aa i,H1,I1,.int i t,q⟩
noncomputable def SlR (X:Cx) (r:V->ar ag->ar ag->Hp->VK->Prop):Prop:=
 ∀(pins:ac (av×Obj)) (s:aH) (σ:St) (H:Hp) (x:V) (v vl vu:Value) (lo hi:ar ag) (sl:av) (Q:VK),Inv X pins σ H s->bC x v->s.heap.IsSliceOf sl vl vu .none->nF vl lo->nF vu hi->r x lo hi H Q->
  ∃T id,vy (.type T) "__getitem__"=bq (aa (.builtin id))/\s.TypeIs v T/\aG .(k) X.A (nG v (.ref sl)) (EP X pins σ Q) X.xe s
theorem SlR.or {r r':V->ar ag->ar ag->Hp->VK->Prop} (h:SlR X r) (h':SlR X r'):SlR X (fun x lo hi H Q=>r x lo hi H Q\/r' x lo hi H Q):=by
 intro pins s σ H x v vl vu lo hi sl Q I rx hs pl pu q;rcases q with q|q
 .exact h pins s σ H x v vl vu lo hi sl Q I rx hs pl pu q
 .exact h' pins s σ H x v vl vu lo hi sl Q I rx hs pl pu q
noncomputable def tSl (r:V->ar ag->ar ag->Hp->VK->Prop) (te:TE) (tl th:TO):TE:=fun σ H Q=>te σ H fun x H1=>tl σ H1 fun l H2=>th σ H2 fun u H3=>r x l u H3 Q
theorem Qy {r:V->ar ag->ar ag->Hp->VK->Prop} (hr:SlR X r) (he:PE X e te) (hl:PO X lo tl) (hu:PO X hi th):PE X (.Subscript e (.Slice lo hi ae p2) pos) (tSl r te tl th):=by intro pins s σ H Q I h;refine zM (thn (he pins s σ H _ I h) fun v s1 ⟨x,H1,I1,r1,q1⟩=>?_);refine wpAny_Slice (thn (hl pins s1 σ H1 _ I1 q1) fun vl s2 ⟨l,H2,I2,pl,q2⟩=>thn (hu pins s2 σ H2 _ I2 q2) fun vu s3 ⟨u,H3,I3,pu,q3⟩=>?_);rw[evalPart_none];refine qA ?_;have I4:Inv X pins σ H3 {s3 with heap:=s3.heap.push {cls:=.type "slice",data:=.fields #[vl,vu,.none]} }:=I3.kept (t':=s3.toks) fun b ob q=>qt _ q;obtain⟨T,id,hT,ht,hg⟩:=hr pins {s3 with heap:=s3.heap.push {cls:=.type "slice",data:=.fields #[vl,vu,.none]} } σ H3 x v vl vu l u s3.heap.objs.size Q I4 r1 (Td ..) pl pu q3;show aG .(k) X.A (zN e (.Slice lo hi ae p2) v (.ref s3.heap.objs.size)) (EP X pins σ Q) X.xe {s3 with heap:=s3.heap.push {cls:=.type "slice",data:=.fields #[vl,vu,.none]} };exact Gq (ops:=[.ref s3.heap.objs.size,v]) ht hT hg (by with_unfolding_all rfl)
def lG (xs:ac V) (lo hi:ar ag):ac V:=(xs.drop (HT.sIx xs.length 0 lo)).take (HT.sIx xs.length xs.length hi-HT.sIx xs.length 0 lo)
theorem Di (xs:ac V) (lo hi:ar ag):(lG xs lo hi).length<=xs.length:=by unfold lG;rw[qE,gY];omega
noncomputable def Jz (K:aV):V->ar ag->ar ag->Hp->VK->Prop:=fun x lo hi H Q=>∃a xs,x=.ref a/\SqT K H a xs /\
 ¬(HT.sIx xs.length 0 lo=0/\HT.sIx xs.length xs.length hi=xs.length)/\∀p,H p=ae->Q (.ref p) (upd H p (.tup (lG xs lo hi)))
theorem LA:SlR X (Jz X.K):=by
 intro pins s σ H x v vl vu lo hi sl Q I rx hs pl pu h;obtain⟨a,xs,rfl,hx,hw,q⟩:=h;cases rx;obtain⟨its,r,ht,hz⟩:=I.tuple hx;have hlen:its.toArray.size=xs.length:=by rw[qB];exact r.length.symm
 refine⟨"tuple",_,Go.lookup,ht.typeIs,?_⟩;refine HT.getItem_tuple_cut ht hs pl pu (by rw[hlen];exact hw) ?_ (by rw[hlen];exact hz);rw[hlen];refine⟨.ref s.heap.objs.size,_,I.laid (t':=s.toks) (o:=.tup (lG xs lo hi)) (fun b ob q=>qt _ q) (qv _) ?_,rfl,q _ (I.hok.fresh (qv _))⟩;exact⟨qM (Di xs lo hi) hz,_,(r.drop (HT.sIx xs.length 0 lo)).take (HT.sIx xs.length xs.length hi-HT.sIx xs.length 0 lo),Gr _ _⟩
def Bb (K:aV):R2:=fun x y H Q=>∃a b xs ys,x=.ref a/\y=.ref b/\SqT K H a xs/\SqT K H b ys/\xs≠[]/\xs.length+ys.length<=aL /\
 (ys=[]->Q (.ref a) H)/\(ys≠[]->∀p,H p=ae->Q (.ref p) (upd H p (.tup (xs++ys))))
theorem bp.nil_iff {xs:ac V} {us:ac Value} (r:bp xs us):us=[]↔xs=[]:=by
 cases r with
 |nil=>simp
 |cons _ _=>simp
theorem K7:OpR X (gH .Add) (Bb X.K):=by intro pins s σ H x y v u Q I rx ry h;obtain⟨a,b,xs,ys,rfl,rfl,ha,hb,hx,hz,q1,q2⟩:=h;cases rx;cases ry;obtain⟨its,r1,p1,_⟩:=I.tuple ha;obtain⟨its2,r2,p2,_⟩:=I.tuple hb;refine HT.cat_tup p1 p2 (fun z=>hx (r1.nil_iff.mp z)) (fun z=>⟨.ref a,H,I,rfl,q1 (r2.nil_iff.mp z)⟩) (fun z=>?_) (by rw[←r1.length,←r2.length];exact hz);refine⟨.ref s.heap.objs.size,_,I.laid (t':=s.toks) (o:=.tup (xs++ys)) (fun b ob q=>qt _ q) (qv _) ?_,rfl,q2 (fun w=>z (r2.nil_iff.mpr w)) _ (I.hok.fresh (qv _))⟩;exact⟨by rw[qi];exact hz,_,r1.append r2,Gr _ _⟩
end
noncomputable def ixN (n:ah) (i:ag):ar ah:=if 0<=i then (if i<n then aa i.toNat else ae) else if -(n:ag)<=i then aa (i+n).toNat else ae
def atI (xs:ac α) (i:ag):ar α:=(ixN xs.length i).bind fun j=>xs[j]?
theorem EJ {i:ag} (h:ixN n i=aa j):seqIndex? i n=aa j/\j<n /\ -(n:ag)<=i/\i<n:=by
 unfold ixN at h;by_cases h0:0<=i
 .rw[qY h0] at h;by_cases h1:i<n
  .rw[qY h1] at h;have e:i.toNat=j:=qH h;exact⟨by rw[Gs h0 h1,e],by omega,by omega,h1⟩
  .rw[qZ h1] at h;cases h
 .rw[qZ h0] at h;by_cases h1 : -(n:ag)<=i
  .rw[qY h1] at h;have e:(i+n).toNat=j:=qH h;exact⟨by rw[seqIndex_neg .(a) h1,e],by omega,h1,by omega⟩
  .rw[qZ h1] at h;cases h
theorem xl {xs:ac α} {i:ag} {v:α} (h:atI xs i=aa v):∃j,seqIndex? i xs.length=aa j/\xs[j]?=aa v/\j<xs.length /\ -(xs.length:ag)<=i/\i<xs.length:=by
 unfold atI at h;cases e:ixN xs.length i with
 |none=>rw[e] at h;cases h
 |some j=>
  rw[e] at h;obtain⟨h1,h2,h3,h4⟩:=EJ e;exact⟨j,h1,h,h2,h3,h4⟩
theorem ky {xs:ac α} {v:α} (h:xs[j]?=aa v):atI xs (j:ag)=aa v:=by
 have hj:j<xs.length:=(db.mp h).1;have e:ixN xs.length (j:ag)=aa j:=by unfold ixN;rw[qY .(a),qY .(a)];simp
 unfold atI;rw[e];exact h
noncomputable def wC (b:Expr):Prop:=∀o i,zO b aq o i=operate [o,i] (nG o i)
noncomputable def IxR (X:Cx) (r:R2):Prop:=
 ∀(value slice:Expr) (pins:ac (av×Obj)) (s:aH) (σ:St) (H:Hp) (x y:V) (v u:Value) (Q:VK),Inv X pins σ H s->bC x v->bC y u->r x y H Q->
  zO slice aq v u=operate [v,u] (nG v u)->aG .(k) X.A (zN value slice v u) (EP X pins σ Q) X.xe s
noncomputable def MtR (X:Cx) (id:cM) (r:V->ac V->Hp->VK->Prop):Prop:=
 ∀(pins:ac (av×Obj)) (s:aH) (σ:St) (H:Hp) (x:V) (xs:ac V) (v:Value) (us:ac Value) (Q:VK),Inv X pins σ H s->bC x v->bp xs us->r x xs H Q->
  aG .(k) X.A (call (.builtin id) (v::us)) (EP X pins σ Q) X.xe s
variable {its its':ac Value} {cpos:dh}
section
variable {a:Expr}
theorem IxR.or {r:R2} (h:IxR X r) (h':IxR X r'):IxR X (fun x y H Q=>r x y H Q\/r' x y H Q):=by
 intro value slice pins s σ H x y v u Q I rx ry q hs;rcases q with q|q
 .exact h value slice pins s σ H x y v u Q I rx ry q hs
 .exact h' value slice pins s σ H x y v u Q I rx ry q hs
theorem A8 {r:R2} (hr:IxR X r) (ha:PE X a ta) (hb:PE X b tb) (hs:wC b):PE X (.Subscript a b pos) (tOp r ta tb):=by intro pins s σ H Q I h;exact zM (yG ha hb I h fun v u s2 x y H2 I2 rx ry q=>hr a b pins s2 σ H2 x y v u Q I2 rx ry q (hs _ _))
def AR (K:aV):R2:=fun x y H Q=>∃p xs i v,x=.ref p/\y=.int i/\SqL K H p xs/\atI xs i=aa v/\Q v H
def Bv (K:aV):R2:=fun x y H Q=>∃p xs i v,x=.ref p/\y=.int i/\SqT K H p xs/\atI xs i=aa v/\Q v H
def FW:R2:=fun x y H Q=>∃z i c,x=.str z/\y=.int i/\z.length<=aL/\atI z.cps.toList i=aa c/\Q (.str ⟨#[c]⟩) H
theorem P5:IxR X (AR X.K):=by
 intro value slice pins s σ H x y v u Q I rx ry h hs;obtain⟨p,xs,i,z,rfl,rfl,hq,he,q⟩:=h;cases rx;obtain⟨t,rfl⟩:=ry;obtain⟨its,r,pl,hz⟩:=I.list hq;obtain⟨j,h1,h2,h3,h4,h5⟩:=xl he;obtain⟨w,ew,rw'⟩:=r.get h2;have hl:=r.length;have hn:=rY;have fin:EP X pins σ Q w s:=⟨z,H,I,rw',q⟩;by_cases h0:0<=i
 .have hj:i.toNat=j:=by rw[Gs h0 h5] at h1;exact qH h1
  exact item_listR pl.isList h0 .(a) (by rw[hj];simpa using ew) fin hs
 .have hj:(i+(its.toArray.size:ag)).toNat=j:=by rw[seqIndex_neg .(a) h4] at h1;rw[qB,←hl];exact qH h1
  exact Te (x:=w) pl.isList.typeIs Gu.lookup
   (wpAny_getItem_list_neg (Q:=fun r s'=>r=w/\EP X pins σ Q r s') pl.isList .(a) (by rw[qB]<;>omega) .(a) (by rw[hj];simpa using ew) ⟨rfl,fin⟩) hs
theorem QA:IxR X (Bv X.K):=by
 intro value slice pins s σ H x y v u Q I rx ry h hs;obtain⟨p,xs,i,z,rfl,rfl,hq,he,q⟩:=h;cases rx;obtain⟨t,rfl⟩:=ry;obtain⟨its,r,pl,hz⟩:=I.tuple hq;obtain⟨j,h1,h2,h3,h4,h5⟩:=xl he;obtain⟨w,ew,rw'⟩:=r.get h2;have hl:=r.length;have hn:=rY;have fin:EP X pins σ Q w s:=⟨z,H,I,rw',q⟩;exact Te (x:=w) pl.typeIs slot_tuple_getitem.lookup
  (getItem_tuple (j:=j) (Q:=fun r s'=>r=w/\EP X pins σ Q r s') pl .(a) .(a) (by rw[qB,←hl];exact h1) (by simpa using ew) ⟨rfl,fin⟩) hs
theorem NT:IxR X FW:=by
 intro value slice pins s σ H x y v u Q I rx ry h hs;obtain⟨z,i,c,rfl,rfl,hz,he,q⟩:=h;obtain⟨t,rfl⟩:=rx;obtain⟨t',rfl⟩:=ry;obtain⟨j,h1,h2,h3,h4,h5⟩:=xl he;have hl:z.cps.toList.length=z.length:=by simp[gZ]
 rw[hl] at h1 h4 h5;have hn:=rY;exact Gq (sI s z t) slot_str_getitem.lookup (getItem_str (c:=c) (by have e1:decide (i < -(2 ^ 63:ag))=aq:=qN .(a);have e2:decide (i ≥ 2 ^ 63)=aq:=qN .(a);rw[e1,e2,Bool.or_false]) (by rw[h1];simpa using h2) ⟨.str ⟨#[c]⟩,H,I.tok _,⟨_,rfl⟩,q⟩) hs
def rIx (K:aV):R2:=fun x y H Q=>AR K x y H Q\/Bv K x y H Q\/FW x y H Q
theorem Ds:IxR X (rIx X.K):=P5.or (QA.or NT)
theorem KN (its:ac Value) (n j:ah) (u:Value):vz (·.setIfInBounds j u) {cls:=.type "list",data:=.seq its.toArray n}={cls:=.type "list",data:=.seq (its.set j u).toArray n}:=by simp[vz]
theorem Inv.lst {p:av} {xs:ac V} (I:Inv X pins σ H s) (h:H p=aa (.lst xs)) :
  ∃(its:ac Value) (n:ah),bp xs its/\s.heap.get? p=aa {cls:=.type "list",data:=.seq its.toArray n}/\xs.length<=aL:=by
 obtain⟨z,its,n,r,e⟩:=I.hok p _ h;exact⟨its,n,r,e,z⟩
theorem Inv.lstUpd {p:av} {xs ys:ac V} {n':ah} {f:Obj->Obj} (I:Inv X pins σ H s) (h:H p=aa (.lst xs))
  (ho:s.heap.get? p=aa {cls:=.type "list",data:=.seq its.toArray n}) (hf:f {cls:=.type "list",data:=.seq its.toArray n}={cls:=.type "list",data:=.seq its'.toArray n'}) (r:bp ys its') (hz:ys.length<=aL) (t:ah) :
  Inv X pins σ (upd H p (.lst ys)) {s with heap:=s.heap.update p f,toks:=t}:=by
 have e:(s.heap.update p f).get? p=aa {cls:=.type "list",data:=.seq its'.toArray n'}:=by rw[zP f ho (by rw[hf]<;>rfl),hf]
 refine I.write (x:=p) (e:=p) (by rw[h];trivial) .(aq) (fun b u hb q=>(Gv _ _ (eh hb)).trans q) ⟨_,e⟩ ?_;exact⟨hz,its',n',r,e⟩
noncomputable def NM:V->V->V->Hp->(Hp->Prop)->Prop:=fun o i v H Q=>∃p xs k j,o=.ref p/\i=.int k/\H p=aa (.lst xs)/\ixN xs.length k=aa j/\Q (upd H p (.lst (xs.set j v)))
theorem Lx:Eh X NM:=by
 intro pins s σ H o i v ov iv u Q I ro ri rv h;obtain⟨p,xs,k,j,rfl,rfl,hp,hj,q⟩:=h;cases ro;obtain⟨t,rfl⟩:=ri;obtain⟨its,n,r,ho,hz⟩:=I.lst hp;obtain⟨h1,h2,h3,h4⟩:=EJ hj;have hl:=r.length;have hn:=rY;have I':Inv X pins σ (upd H p (.lst (xs.set j v))) {s with heap:=s.heap.update p (vz (·.setIfInBounds j u))} :=
  I.lstUpd hp ho (KN its n j u) (r.set rv j) (by rw[Gw];exact hz) s.toks
 by_cases h0:0<=k
 .have hk:k.toNat=j:=by rw[Gs h0 h4] at h1;exact qH h1
  exact PySem.W.ki_setAt ho h0 .(a) (by rw[qB,←hl];exact h4) (by rw[hk];exact⟨_,I',q⟩)
 .have hk:(k+(its.toArray.size:ag)).toNat=j:=by rw[seqIndex_neg .(a) h3] at h1;rw[qB,←hl];exact qH h1
  exact PySem.W.ki_setBack ho .(a) (by rw[qB,←hl];exact h3) .(a) (by rw[hk];exact⟨_,I',q⟩)
theorem Ib (lo hi:ar ag) (n:ah):(o3 lo hi ae n).1=((HT.sIx n 0 lo:ah):ag)/\(o3 lo hi ae n).2.1=((HT.sIx n n hi:ah):ag)/\(o3 lo hi ae n).2.2=1:=by
 refine⟨?_,?_,rfl⟩
 .cases lo with
  |none=>simp[o3,HT.sIx]
  |some i=>
   simp only[o3,HT.sIx,Tf,show(1:ag) > 0 by decide,cr];by_cases h:i<0
   .simp only[h,cr]<;>omega
   .simp only[h,dv]<;>omega
 .cases hi with
  |none=>simp[o3,HT.sIx]
  |some i=>
   simp only[o3,HT.sIx,Tf,show(1:ag) > 0 by decide,cr];by_cases h:i<0
   .simp only[h,cr]<;>omega
   .simp only[h,dv]<;>omega
theorem Kj (its:ac Value) (lo hi:ar ag):slicePick its.toArray lo hi ae=((its.drop (HT.sIx its.length 0 lo)).take (HT.sIx its.length its.length hi-HT.sIx its.length 0 lo)).toArray:=by obtain⟨h1,h2,h3⟩:=Ib lo hi its.toArray.size;unfold slicePick;rw[h1,h2,h3];simp only[Tg,zK,qB]<;>rfl
noncomputable def Pd (K:aV):V->ar ag->ar ag->Hp->VK->Prop:=fun x lo hi H Q=>∃a xs,x=.ref a/\SqL K H a xs/\∀p,H p=ae->Q (.ref p) (upd H p (.lst (lG xs lo hi)))
theorem QB:SlR X (Pd X.K):=by intro pins s σ H x v vl vu lo hi sl Q I rx hs pl pu h;obtain⟨a,xs,rfl,hx,q⟩:=h;cases rx;obtain⟨its,r,ht,hz⟩:=I.list hx;have hlen:=r.length;refine⟨"list",_,Gu.lookup,ht.isList.typeIs,?_⟩;refine Ti ht.isList hs pl pu .none (by simp) ?_ (by rw[qB]<;>omega);rw[Kj,←hlen];refine⟨.ref s.heap.objs.size,_,I.laid (t':=s.toks) (o:=.lst (lG xs lo hi)) (fun b ob q=>qt _ q) (qv _) ?_,rfl,q _ (I.hok.fresh (qv _))⟩;exact⟨qM (Di xs lo hi) hz,_,0,(r.drop (HT.sIx xs.length 0 lo)).take (HT.sIx xs.length xs.length hi-HT.sIx xs.length 0 lo),qG _ rfl⟩
theorem Oj:fN X (.type "list") (fun xs H Q=>∃p ys,xs=[.ref p]/\(SqL X.K H p ys\/SqT X.K H p ys)/\∀l,H l=ae->Q (.ref l) (upd H l (.lst ys))):=by
 intro pins s σ H xs us Q I r h;obtain⟨p,ys,rfl,hq,q⟩:=h;obtain⟨u,rfl,rx⟩:=gN r;cases rx;have fin:∀(its:ac Value),bp ys its->ys.length<=aL->∀(h':Heap) (c':ah),(∀b o',s.heap.get? b=aa o'->h'.get? b=aa o')->
   h'.get? s.heap.objs.size=aa {cls:=.type "list",dict:=ae,data:=.seq its.toArray c',slots:=#[]}->EP X pins σ Q (.ref s.heap.objs.size) {s with heap:=h'}:=fun its r' hz h' c' kp e=>
  ⟨.ref s.heap.objs.size,_,I.laid (t':=s.toks) kp (qv _) (show cI X.prog X.w _ h' _ (.lst ys) from⟨hz,its,c',r',e⟩),rfl,q _ (I.hok.fresh (qv _))⟩
 rcases hq with hq|hq
 .obtain⟨its,r',pl,hz⟩:=I.list hq;have hlen:=r'.length;obtain⟨o,ho,hc,n,hd⟩:=pl.isList;exact call_list_seq p .(aq) ho hc hd (fun h' c' kp e=>fin its r' hz h' c' kp e) (by simp only[qB]<;>omega)
 .obtain⟨its,r',pl,hz⟩:=I.tuple hq;have hlen:=r'.length;obtain⟨o,ho,hc,n,hd⟩:=pl;exact call_list_seq p (.inr rfl) ho hc hd (fun h' c' kp e=>fin its r' hz h' c' kp e) (by simp only[qB]<;>omega)
theorem Iw:fN X (.type "tuple") (fun xs H Q=>∃p ys,xs=[.ref p]/\((SqL X.K H p ys/\∀l,H l=ae->Q (.ref l) (upd H l (.tup ys)))\/(SqT X.K H p ys/\Q (.ref p) H))):=by
 intro pins s σ H xs us Q I r h;obtain⟨p,ys,rfl,h⟩:=h;obtain⟨u,rfl,rx⟩:=gN r;cases rx;rcases h with⟨hq,q⟩|⟨hq,q⟩
 .obtain⟨its,r',pl,hz⟩:=I.list hq;have hlen:=r'.length;refine call_tuple_list pl.isList (fun h' kp=>?_) (by simp only[qB]<;>omega);have I1:Inv X pins σ H {s with heap:=h'}:=I.kept (t':=s.toks) kp;have I2:Inv X pins σ (upd H h'.objs.size (.tup ys)) {s with heap:=h'.push {cls:=.type "tuple",data:=.seq its.toArray} } :=
   I1.laid (t':=s.toks) (fun b o e=>qt _ e) (qv _) (show cI X.prog X.w _ _ _ (.tup ys) from⟨hz,its,r',Gr _ _⟩)
  exact⟨.ref h'.objs.size,_,I2,rfl,q _ (I1.hok.fresh (qv _))⟩
 .obtain⟨its,r',pl,hz⟩:=I.tuple hq;exact call_tuple_same pl ⟨.ref p,H,I,rfl,q⟩
noncomputable def tyV (K:aV) (T:cM) (x:V) (H:Hp):Prop:=match x with
 |.str _=>T="str"
 |.int _=>T="int"
 |.ref p=>(T="list"/\∃xs,SqL K H p xs)\/(T="tuple"/\∃o,K.lookup p=aa o/\o.cls=.type "tuple"/\o.dict=ae) \/
   (T="dict"/\((∃kvs,H p=aa (.dK kvs))\/∃kvs,H p=aa (.dT kvs)))\/(T="set"/\∃S n,H p=aa (.set S n))
 |_=>False
theorem MQ {T:cM} {x:V} {v:Value} (I:Inv X pins σ H s) (r:bC x v) (ty:tyV X.K T x H) :
  s.TypeIs v T/\∀a,v=.ref a->∃ob,s.heap.get? a=aa ob/\ob.dict=ae:=by
 cases x with
 |str z=>
  obtain⟨t,rfl⟩:=r;cases(show T="str" from ty);exact⟨sI s z t,fun _ e=>nomatch e⟩
 |int i=>
  obtain⟨t,rfl⟩:=r;cases(show T="int" from ty);exact⟨Gx s i t,fun _ e=>nomatch e⟩
 |ref p=>
  cases r;rcases ty with⟨rfl,xs,hq⟩|⟨rfl,o,hk,hc,hd⟩|⟨rfl,hk⟩|⟨rfl,S,n,hk⟩
  .obtain⟨its,_,pl,_⟩:=I.list hq;refine⟨pl.isList.typeIs,fun a e=>?_⟩;cases e;obtain⟨o,n,e,c,hd,_⟩:=pl;exact⟨o,e,hd⟩
  .refine⟨⟨o,I.kIn p o hk,hc⟩,fun a e=>?_⟩;cases e;exact⟨o,I.kIn _ o hk,hd⟩
  .have z:∃o,s.heap.get? p=aa o/\o.ExactDict:=by
    rcases hk with⟨kvs,hk⟩|⟨kvs,hk⟩
    .obtain⟨_,_,_,_,o,_,_,e,ex,_⟩:=I.hok p _ hk;exact⟨o,e,ex⟩
    .obtain⟨_,_,_,_,o,_,_,e,ex,_⟩:=I.hok p _ hk;exact⟨o,e,ex⟩
   obtain⟨o,e,ex⟩:=z;refine⟨⟨o,e,ex.1⟩,fun a e2=>?_⟩;cases e2;exact⟨o,e,ex.2.1⟩
  .obtain⟨o,_,_,_,e,ex,_⟩:=I.hok p _ hk;refine⟨⟨o,e,ex.1⟩,fun a e2=>?_⟩;cases e2;exact⟨o,e,ex.2.1⟩
 |_=>exact fL ty
def tBM (K:aV) (T:cM) (r:V->ac V->Hp->VK->Prop) (to:TE) (t:TA):TE:=fun σ H Q=>to σ H fun x H1=>tyV K T x H1/\t σ H1 fun xs H2=>r x xs H2 Q
variable {t:TA} {T id:cM} {r:V->ac V->Hp->VK->Prop}
theorem pQ (pa:PlainAttrs T) (slot:Slot T name id) (hty:zQ (.builtin id)=bq (.type "method_descriptor")) (hm:MtR X id r) (ho:PE X o to) (ha:PA X (e::es) t)
  (hbase:jr o name X.env (eval o X.env)=eval o X.env:=by rfl)
  (hfew:((cW cpos (bc (e::es) X.env)).all (fun x=>!x.1) && (l' cpos (ma [] X.env)).all (fun x=>x.1.isSome)
   && decide ((e::es).length+([]:ac jt).length+(if ([]:ac jt).isEmpty then 0 else 1)<30))=al:=by rfl)
  (hline:(apos.endLine==cpos.line)=al:=by rfl) (hs:bc (e::es) X.env=(aq,eval e X.env)::bc es X.env:=by rfl) (hplain:(cW cpos (bc es X.env)).any (·.1)=aq:=by rfl) :
  PE X (.Call (.Attribute o name apos) (e::es) [] cpos) (tBM X.K T r to t):=by
 intro pins s σ H Q I h;refine wpAny_Call_method_late hbase hfew hline rfl (thn (ho pins s σ H _ I h) fun v s1 ⟨x,H1,I1,r1,ty,q1⟩=>?_);obtain⟨h1,h2⟩:=MQ I1 r1 ty;refine⟨T,id,pa,slot,hty,h1,h2,?_⟩;have hA:=ha cpos pins s1 σ H1 _ I1 q1;rw[hs] at hA ⊢;refine Tj (by show(aq || (cW cpos (bc es X.env)).any (·.1))=aq;rw[hplain]<;>rfl) (Tk ?_);exact thn hA fun us s2 ⟨vs,H2,I2,r2,q2⟩=>hm pins s2 σ H2 x vs v us Q I2 r1 r2 q2
end
noncomputable def MtM (X:Cx) (id:cM) (r:V->ac V->Hp->VK->Prop):Prop:=
 ∀(pins:ac (av×Obj)) (s:aH) (σ:St) (H:Hp) (x:V) (xs:ac V) (v:Value) (us:ac Value) (Q:VK),Inv X pins σ H s->bC x v->bp xs us->r x xs H Q->
  aG .(k) X.A (call (.builtin id) (v::us)) (EP X pins σ Q) X.xe s
theorem bp.one:∀{x:V} {us:ac Value},bp [x] us->∃u,us=[u]/\bC x u
 |_,_,.cons r .nil=>⟨_,rfl,r⟩
theorem bp.reverse {xs:ac V} {us:ac Value} (h:bp xs us):bp xs.reverse us.reverse:=by
 induction h with
 |nil=>exact .nil
 |cons r t ih=>rw[zR,zR];exact bp.append ih (.cons r .nil)
theorem bp.rep {xs:ac V} {us:ac Value} (h:bp xs us):∀k:ah,bp (bS k xs).flatten (bS k us).flatten
 |0=>.nil
 |k+1=>by rw[md,md,nI,nI];exact bp.append h (bp.rep h k)
theorem B9 (its:ac Value):∀(k:ah) (acc:ac Value),
  Gy (fun x1 x2=>x1++x2) acc.toArray (bS k its.toArray)=(acc++(bS k its).flatten).toArray
 |0,acc=>by simp
 |k+1,acc=>by
  have e:acc.toArray++its.toArray=(acc++its).toArray:=by simp
  have e2:(acc++its)++(bS k its).flatten=acc++(bS (k+1) its).flatten:=by rw[md,nI,qw]
  rw[←e2,←B9 its k (acc++its),←e,md,nJ]
section
variable {l b:av} {xs ys zs:ac V}
theorem Inv.lset {f:b7 Value->b7 Value} (I:Inv X pins σ H s) (hH:H l=aa (.lst xs))
  (e:s.heap.get? l=aa {cls:=.type "list",data:=.seq its.toArray n}) (hf:f its.toArray=its'.toArray) (hv:bp ys its') (hz:ys.length<=aL) :
  Inv X pins σ (upd H l (.lst ys)) {s with heap:=s.heap.update l (vz f),toks:=t'}:=by
 have q:=PySem.IsL.update e f;rw[hf] at q;refine I.write (x:=l) (e:=l) (by rw[hH];exact trivial) .(aq) (fun b' u hb hu=>(Gv s.heap (vz f) (eh hb)).trans hu) ⟨_,q⟩ ?_;exact⟨hz,its',_,hv,q⟩
theorem Inv.lnew (I:Inv X pins σ H s) (hv:bp ys its) (hz:ys.length<=aL) :
  Inv X pins σ (upd H s.heap.objs.size (.lst ys)) {s with heap:=s.heap.push {cls:=.type "list",data:=.seq its.toArray},toks:=t'} :=
 I.laid (fun _ _ q=>qt _ q) (qv _) ⟨hz,its,0,hv,qG _ rfl⟩
theorem Inv.fresh (I:Inv X pins σ H s):H s.heap.objs.size=ae:=I.hok.fresh (qv _)
theorem Inv.lstM (I:Inv X pins σ H s) (hH:H l=aa (.lst xs)):xs.length<=aL/\∃(its:ac Value) (n:ah),bp xs its/\xs.length=its.length/\s.heap.get? l=aa {cls:=.type "list",data:=.seq its.toArray n}:=by obtain⟨z,its,n,r,e⟩:=I.hok l _ hH;exact⟨z,its,n,r,r.length,e⟩
theorem E5 (h:n<=aL):zS n=aq:=by unfold zS;exact qN .(a)
end
noncomputable def Ng:V->ac V->Hp->VK->Prop:=fun x vs H Q=>∃l xs y,x=.ref l/\vs=[y]/\H l=aa (.lst xs)/\xs.length<aL/\Q .non (upd H l (.lst (xs++[y])))
theorem sU:MtM X "list.append" Ng:=by intro pins s σ H x vs v us Q I rx rv h;obtain⟨l,xs,y,rfl,rfl,hH,hz,q⟩:=h;cases rx;obtain⟨u,rfl,ru⟩:=rv.one;obtain⟨z,its,n,r,hl,e⟩:=I.lstM hH;refine o4 zT ⟨_,e,rfl⟩ F.entry_list_append (F.args_list_append_2 _ _) (PySem.list_append l its.toArray n u (by rw[qB];omega)) ⟨e,?_⟩;refine⟨.non,_,I.lset (its':=its++[u]) hH e (by simp) (r.append (.cons ru .nil)) ?_,rfl,q⟩;rw[qi,qW];omega
noncomputable def IF:V->ac V->Hp->VK->Prop:=fun x vs H Q=>∃l b xs zs,x=.ref l/\vs=[.ref b]/\H l=aa (.lst xs)/\H b=aa (.lst zs)/\xs.length+zs.length<=aL/\Q .non (upd H l (.lst (xs++zs)))
theorem Rh:MtM X "list.extend" IF:=by
 intro pins s σ H x vs v us Q I rx rv h;obtain⟨l,b,xs,zs,rfl,rfl,hH,hB,hz,q⟩:=h;cases rx;obtain⟨u,rfl,ru⟩:=rv.one;cases ru;obtain⟨z,its,n,r,hl,e⟩:=I.lstM hH;obtain⟨z2,its2,n2,r2,hl2,e2⟩:=I.lstM hB;have hsz:its.toArray.size+its2.toArray.size<=aL:=by rw[qB,qB];omega
 have hlong:¬(!its.toArray.isEmpty && zS (its.toArray.size+its2.toArray.size))=al:=by rw[E5 hsz,Gz];exact qr
 refine o4 Tl ⟨_,e,rfl⟩ F.entry_list_extend (F.args_list_extend_2 _ _)
  (AutoSeq1.list_extend_list_list_0 l its.toArray n b its2.toArray n2 hlong (by rw[qB];omega) .(a)) ⟨e,e2,?_⟩
 refine⟨.non,_,I.lset (its':=its++its2) hH e (by simp) (r.append r2) ?_,rfl,q⟩;rw[qi];omega
def wz:R2:=fun x y H Q=>∃l b xs zs,x=.ref l/\y=.ref b/\H l=aa (.lst xs)/\H b=aa (.lst zs)/\xs.length+zs.length<=aL/\∀p,H p=ae->Q (.ref p) (upd H p (.lst (xs++zs)))
theorem Cj:OpR X (gH .Add) wz:=by
 intro pins s σ H x y v u Q I rx ry h;obtain⟨l,b,xs,zs,rfl,rfl,hH,hB,hz,q⟩:=h;cases rx;cases ry;obtain⟨z,its,n,r,hl,e⟩:=I.lstM hH;obtain⟨z2,its2,n2,r2,hl2,e2⟩:=I.lstM hB;refine PySem.P.add_list e e2 ?_ (by rw[qB,qB];omega);have ea:its.toArray++its2.toArray=(its++its2).toArray:=by simp
 rw[ea];exact⟨.ref _,_,I.lnew (t':=s.toks) (r.append r2) (by rw[qi];omega),rfl,q _ I.fresh⟩
def FP:R2:=fun x y H Q=>∃l k xs,x=.ref l/\y=.int k/\H l=aa (.lst xs) /\ -(2 ^ 63)<=k/\k<2 ^ 63/\xs.length*k.toNat<=aL /\
 ∀p,H p=ae->Q (.ref p) (upd H p (.lst (bS k.toNat xs).flatten))
theorem AX (xs:ac α) (k:ah):(bS k xs).flatten.length=k*xs.length:=by
 induction k with
 |zero=>simp
 |succ k ih=>rw[md,nI,qi,ih,GA,Nat.add_comm]
theorem Mj:OpR X (gH .Mult) FP:=by
 intro pins s σ H x y v u Q I rx ry h;obtain⟨l,k,xs,rfl,rfl,hH,h1,h2,hz,q⟩:=h;cases rx;obtain⟨t,rfl⟩:=ry;obtain⟨z,its,n,r,hl,e⟩:=I.lstM hH;have hlen:its.toArray.size*k.toNat<=aL:=by rw[qB,←hl];exact hz
 have hcap:¬its.toArray.size*k.toNat > (2 ^ 63-1) / 8:=by
  have:(aL:ah)<=(2 ^ 63-1) / 8:=by decide
  omega
 have hfit:¬(!Vo k)=al:=by rw[fitsIndex_both h1 h2];exact qr
 have hlong:¬zS (its.toArray.size*k.toNat)=al:=by rw[E5 hlen];exact qr
 have hnew:Gy (fun x1 x2=>x1++x2) #[] (bS (if its.toArray.isEmpty=al then 0 else k.toNat) its.toArray)=(bS k.toNat its).flatten.toArray:=by
  have f0:∀m:ah,Gy (fun x1 x2=>x1++x2) #[] (bS m its.toArray)=(bS m its).flatten.toArray:=fun m=>by have:=B9 its m [];rw[qR] at this;exact this
  rw[f0];cases its with
  |nil=>simp
  |cons a r'=>rw[qZ (by simp)]
 refine wpAny_binaryOp_repeat_ref (T:="list") (U:="int") .(c) ⟨_,e,rfl⟩ (fun s'=>Gx s' k t) noFill_list_mul F.fills_int_mul Tn repeat_list F.slot_int_index.lookup
  (o4 Tn (Gx s k t) F.entry_int_rmul (F.args_int_rmul_2 _ _) (int___rmul___int_list k t l its.toArray n)
   ⟨e,rfl,⟨_,e,rfl⟩,o4 F.slot_list_mul ⟨_,e,rfl⟩ F.entry_list_mul (F.args_list_mul_2 _ _) (AutoListH.list___mul___list_int_3 l its.toArray n k t hfit hcap hlong) ⟨e,?_⟩⟩)
 rw[hnew];exact⟨.ref _,_,I.lnew (t':=s.toks) (r.rep k.toNat) (by rw[AX,To];exact hz),rfl,q _ I.fresh⟩
section
variable [fU κ]
noncomputable def gR (kvs:ac (κ×V)) (k:κ):ar V:=(kvs.find? fun kv=>decide (kv.1=k)).map (·.2)
noncomputable def dE (kvs:ac (κ×V)) (k:κ) (v:V):ac (κ×V):=
 if (kvs.any fun kv=>decide (kv.1=k))=al then kvs.map (fun kv=>if kv.1=k then (kv.1,v) else kv) else kvs++[(k,v)]
theorem tD {p:κ×V} {r:ac (κ×V)} {k:κ} (e:p.1=k):gR (p::r) k=aa p.2:=by simp[gR,nK,e]
theorem uJ {p:κ×V} {r:ac (κ×V)} {k:κ} (e:¬p.1=k):gR (p::r) k=gR r k:=by simp[gR,nK,e]
theorem Fq (k:κ):∀kvs:ac (κ×V),(kvs.any fun kv=>decide (kv.1=k))=(gR kvs k).isSome
 |[]=>rfl
 |p::r=>by
  rw[nL];by_cases e:p.1=k
  .simp only[tD e,qS e,Bool.true_or,Option.isSome_some]
  .rw[uJ e,qN e,Bool.false_or];exact Fq k r
theorem wg (kvs:ac (κ×V)) (k:κ) (v:V):(dE kvs k v).length<=kvs.length+1:=by
 unfold dE;split
 .rw[qe];omega
 .rw[qi,qh,qk];omega
theorem fJ.isSome_eq {o:ar V} {u:ar Value} (r:fJ o u):o.isSome=u.isSome:=by
 cases o with
 |none=>cases u with
  |none=>rfl
  |some _=>exact(show False from r).elim
 |some _=>cases u with
  |none=>exact(show False from r).elim
  |some _=>rfl
theorem KV.val {kvs:ac (κ×V)} {vs:ac (κ×Value)} (r:KV kvs vs) (k:κ):fJ (gR kvs k) (o5 vs k):=by
 unfold KV at r
 induction r with
 |nil=>exact iE
 | @cons p q ps qs h t ih=>
  obtain⟨h1,h2⟩:=h;by_cases e:p.1=k
  .have e':q.1=k:=h1.symm.trans e;have b:o5 (q::qs) k=aa q.2:=by simp[o5,nK,e']
   rw[tD e,b];exact h2
  .have e':¬q.1=k:=fun z=>e (h1.trans z);have b:o5 (q::qs) k=o5 qs k:=by simp[o5,nK,e']
   rw[uJ e,b];exact ih
theorem KV.any {kvs:ac (κ×V)} {vs:ac (κ×Value)} (r:KV kvs vs) (k:κ):(kvs.any fun kv=>decide (kv.1=k))=vs.any fun kv=>decide (kv.1=k):=by
 unfold KV at r
 induction r with
 |nil=>rfl
 |cons h t ih=>rw[nL,nL,ih,h.1]
theorem KV.repl {kvs:ac (κ×V)} {vs:ac (κ×Value)} (r:KV kvs vs) (k:κ) {y:V} (ry:bC y u) :
  KV (kvs.map fun kv=>if kv.1=k then (kv.1,y) else kv) (vs.map fun kv=>if kv.1=k then (kv.1,u) else kv):=by
 unfold KV at r ⊢
 induction r with
 |nil=>exact .nil
 | @cons p q ps qs h t ih=>
  rw[qm,qm];refine .cons ?_ ih;obtain⟨h1,h2⟩:=h;by_cases e:p.1=k
  .rw[qY e,qY (h1.symm.trans e)];exact⟨h1,ry⟩
  .rw[qZ e,qZ (fun z=>e (h1.trans z))];exact⟨h1,h2⟩
theorem KV.put {kvs:ac (κ×V)} {vs:ac (κ×Value)} (r:KV kvs vs) (k:κ) {y:V} (ry:bC y u):KV (dE kvs k y) (stored vs k u):=by
 unfold dE stored;rw[r.any k];by_cases e:(vs.any fun kv=>decide (kv.1=k))=al
 .rw[qY e,qY e];exact r.repl k ry
 .rw[qZ e,qZ e];exact Paired.snoc r ⟨rfl,ry⟩
theorem KV.length {kvs:ac (κ×V)} {vs:ac (κ×Value)} (r:KV kvs vs):kvs.length=vs.length:=Paired.length r
end
theorem nV {k:Key} (r:bC (kV k) u):(dB P w).is k u=al:=by
 cases k with
 |inl i=>obtain⟨t,e⟩:=(show ∃t,u=u9 i t from r);subst e;exact OW P w i t
 |inr x=>obtain⟨t,e⟩:=(show ∃t,u=vc x t from r);subst e;exact JF P w x t
theorem CD {P:ef} {w:cT}:∀{ks:ac Key} {us:ac Value},bp (ks.map kV) us->ItemsAre (dB P w) ks us
 |[],_,r=>by rw[qO] at r;cases r;exact .nil
 |k::ks,_,r=>by
  rw[qm] at r;cases r with
  |cons h t=>exact .cons (nV h) (CD t)
noncomputable abbrev KT (H:Hp):ac (ac Key×V)->ac (ac Key×av×Value)->Prop:=Paired fun p q=>p.1=q.1/\H q.2.1=aa (.tup (p.1.map kV))/\bC p.2 q.2.2
variable {kvs:ac (ac Key×V)}
theorem KT.val {xs:ac (ac Key×av×Value)} (r:KT H kvs xs) (k:ac Key):fJ (gR kvs k) ((me xs k).map (·.2)):=by
 induction r with
 |nil=>exact iE
 | @cons p q ps qs h t ih=>
  obtain⟨h1,_,h2⟩:=h;by_cases e:p.1=k
  .have e':q.1=k:=h1.symm.trans e;have b:me (q::qs) k=aa q.2:=by simp[me,nK,e']
   rw[tD e,b];exact h2
  .have e':¬q.1=k:=fun z=>e (h1.trans z);have b:me (q::qs) k=me qs k:=by simp[me,nK,e']
   rw[uJ e,b];exact ih
theorem KT.repl {xs:ac (ac Key×av×Value)} (r:KT H kvs xs) (k:ac Key) {y:V} (ry:bC y u) :
  KT H (kvs.map fun kv=>if kv.1=k then (kv.1,y) else kv) (xs.map (putAt k u)):=by
 induction r with
 |nil=>exact .nil
 | @cons p q ps qs h t ih=>
  rw[qm,qm];refine .cons ?_ ih;obtain⟨h1,h2,h3⟩:=h;unfold putAt;by_cases e:p.1=k
  .rw[qY e,qY (h1.symm.trans e)];exact⟨h1,h2,ry⟩
  .rw[qZ e,qZ (fun z=>e (h1.trans z))];exact⟨h1,h2,h3⟩
theorem KT.put {xs:ac (ac Key×av×Value)} (r:KT H kvs xs) (k:ac Key) {b:av} {y:V} (hb:H b=aa (.tup (k.map kV))) (ry:bC y u) :
  KT H (dE kvs k y) (storedH xs k b u):=by
 have e:(kvs.any fun kv=>decide (kv.1=k))=(me xs k).isSome:=by rw[Fq,(r.val k).isSome_eq,Option.isSome_map]
 unfold dE storedH;rw[e];by_cases q:(me xs k).isSome=al
 .rw[qY q,qY q];exact r.repl k ry
 .rw[qZ q,qZ q];exact Paired.snoc r ⟨rfl,hb,ry⟩
theorem KT.keeps {xs:ac (ac Key×av×Value)} (r:KT H kvs xs) (ht:∀b ys,H b=aa (.tup ys)->H' b=aa (.tup ys)):KT H' kvs xs:=
 Paired.mapP r fun _ _ z=>⟨z.1,ht _ _ z.2.1,z.2.2⟩
section
variable {h:Heap}
theorem Fp {u:HO} (ok:HOk P w H h) (e:Rd H a u):cI P w H h a u:=e.ok ok
theorem yR {kvs:ac (Key×V)} (ok:HOk P w H h) (e:Rd H a (.dK kvs)):kvs.length<=aL/\(a==lV)=aq/\∃vs,KV kvs vs/\h.DictOf (dB P w) a vs:=
 show cI P w H h a (.dK kvs) from Fp ok e
theorem Fh {kvs:ac (Key×V)} (ok:HOk P w H h) (e:H a=aa (.dK kvs)):kvs.length<=aL/\(a==lV)=aq/\∃vs,KV kvs vs/\h.DictOf (dB P w) a vs:=yR ok (.inl e)
theorem pH {ks:ac Key} (ok:HOk P w H h) (e:H a=aa (.tup (ks.map kV))):(nt (dB P w)).is h ks a:=by obtain⟨_,its,r,o,h1,h2,n,h3⟩:=(show cI P w H h a (.tup (ks.map kV)) from ok a _ e);exact⟨o,its.toArray,n,h1,h2,h3,by simpa using CD r⟩
theorem wN (ok:HOk P w H h) (e:Rd H a (.dT kvs)):kvs.length<=aL/\(a==lV)=aq /\
  ∃xs,KT H kvs xs/\h.DictOfH (nt (dB P w)) a xs:=by
 obtain⟨z,y,xs,r,o,es,ep,h1,h2,h3,h4,h5⟩:=(show cI P w H h a (.dT kvs) from Fp ok e);refine⟨z,y,xs,r,o,es,ep,h1,h2,h3,h4,fun x hx=>?_,h5⟩;have all:∀{l:ac (ac Key×V)} {m:ac (ac Key×av×Value)},KT H l m->∀x∈m,(nt (dB P w)).is h x.1 x.2.1:=by
  intro l m q
  induction q with
  |nil=>intro x hx;exact nomatch hx
  | @cons p q ps qs hq t ih=>
   intro x hx;rcases cy.mp hx with e|hx
   .subst e;exact pH ok (by rw[←hq.1];exact hq.2.1)
   .exact ih x hx
 exact all r x hx
theorem Pw (ok:HOk P w H h) (e:H a=aa (.dT kvs)):kvs.length<=aL/\(a==lV)=aq /\
  ∃xs,KT H kvs xs/\h.DictOfH (nt (dB P w)) a xs:=wN ok (.inl e)
end
noncomputable def jf (H:Hp) (a:av) (y:V) (r:ar V):Prop:=
 (∃kvs k,Rd H a (.dK kvs)/\y=kV k/\r=gR kvs k)\/∃kvs k b,Rd H a (.dT kvs)/\y=.ref b/\H b=aa (.tup (k.map kV))/\r=gR kvs k
noncomputable def pG (H:Hp) (a:av) (y v:V) (H':Hp):Prop:=
 (∃kvs k,H a=aa (.dK kvs)/\y=kV k/\kvs.length<aL/\H'=upd H a (.dK (dE kvs k v))) \/
 ∃kvs k b,H a=aa (.dT kvs)/\y=.ref b/\H b=aa (.tup (k.map kV))/\kvs.length<aL/\H'=upd H a (.dT (dE kvs k v))
theorem jf.k {kvs:ac (Key×V)} {k:Key} (e:H a=aa (.dK kvs)):jf H a (kV k) (gR kvs k):=.inl ⟨kvs,k,.inl e,rfl,rfl⟩
theorem jf.t {b:av} {k:ac Key} (e:H a=aa (.dT kvs)) (eb:H b=aa (.tup (k.map kV))):jf H a (.ref b) (gR kvs k):=.inr ⟨kvs,k,b,.inl e,rfl,eb,rfl⟩
theorem pG.k {kvs:ac (Key×V)} {k:Key} (e:H a=aa (.dK kvs)) (hl:kvs.length<aL):pG H a (kV k) v (upd H a (.dK (dE kvs k v))):=.inl ⟨kvs,k,e,rfl,hl,rfl⟩
section
variable {y:V} {r:Value} {o:ar V}
theorem Inv.big (I:Inv X pins σ H s):lV<s.heap.objs.size:=by have h:dL<s.heap.objs.size:=(I.mod.glob.keeps I.bk).lt;exact sJ .(c) h
theorem Rk (hu:A.units+1<di) (I:Inv X pins σ H s) (g:jf H a y (aa v)) (ry:bC y u) (h:∀w' s',Inv X pins σ H s'->bC v w'->Q w' s') :
  aG .(k) A (nG (.ref a) u) Q E s:=by
 rcases g with⟨kvs,k,e,ey,l⟩|⟨kvs,k,b,e,ey,eb,l⟩
 .subst ey;obtain⟨z,hd,vs,rel,dd⟩:=yR I.hok e;obtain⟨w',hw,rw'⟩:=fJ.some_of (v:=v) (o:=o5 vs k) (by rw[l];exact rel.val k);exact wpAny_getItem_of (nV ry) dd.mapOf hw (h w' _ (I.tok _) rw')
 .subst ey;cases(show u=cj b from ry);obtain⟨z,hd,xs,rel,dd⟩:=wN I.hok e;obtain⟨w',hw,rw'⟩:=fJ.some_of (v:=v) (o:=(me xs k).map (·.2)) (by rw[l];exact rel.val k);obtain⟨p,hp,hp2⟩:=oMd hw;refine wpAny_getItem_heap (Tp hu) (pH I.hok eb) dd hp ?_;rw[hp2];exact h w' _ (I.tok _) rw'
theorem x8 {ob:HO} (I:Inv X pins σ H s) (mu:Mut (H a)) (hs:jp a s.heap h') (he:∃q,h'.get? a=aa q) (new:cI X.prog X.w (upd H a ob) h' a ob) :
  Inv X pins σ (upd H a ob) {s with heap:=h',toks:=t'} :=
 I.write (x:=a) (e:=a) mu .(aq) (fun b q hb z=>(hs.2 b hb).trans z) he new
theorem BE {kvs:ac (Key×V)} {vs:ac (Key×Value)} (z:kvs.length<=aL) (hd:(a==lV)=aq) (rel:KV kvs vs) (dd:h'.DictOf (dB P w) a vs) :
  cI P w H' h' a (.dK kvs):=⟨z,hd,vs,rel,dd⟩
theorem Qj {Q:jk->aH->Prop} (hu:A.units+1<di) (I:Inv X pins σ H s) (g:pG H a y v H') (ry:bC y u) (rv:bC v r) (h:∀s',Inv X pins σ H' s'->Q () s') :
  aG .(k) A (zx (.ref a) u r) Q E s:=by
 rcases g with⟨kvs,k,e,ey,l,eH⟩|⟨kvs,k,b,e,ey,eb,l,eH⟩
 .subst ey eH;obtain⟨z,hd,vs,rel,dd⟩:=Fh I.hok e;have hz:vs.length<=aL:=by rw[←rel.length];exact z
  have hl:(dE kvs k v).length<=aL:=by have:=wg kvs k v;omega
  refine wpAny_setItem_pairs (hsz:=hz) (nV ry) dd fun h' dd' hs=>h _ ?_;have he:∃q,h'.get? a=aa q:=let ⟨q,_,_,hq,_⟩:=dd';⟨q,hq⟩
  exact x8 I (by rw[e];exact iE) hs he (BE hl hd (rel.put k rv) dd')
 .subst ey eH;cases(show u=cj b from ry);obtain⟨z,hd,xs,rel,dd⟩:=Pw I.hok e;have hz:xs.length<=aL:=by rw[←Paired.length rel];exact z
  have hl:(dE kvs k v).length<=aL:=by have:=wg kvs k v;omega
  refine wpAny_setItem_heap (hsz:=hz) (Tp hu) (pH I.hok eb) dd fun h' dd' hs=>h _ ?_;obtain⟨q,es,ep,hq,h2,h3,h4,_,h5⟩:=dd';refine x8 I (by rw[e];exact iE) hs ⟨q,hq⟩ ⟨hl,hd,_,(rel.put k eb rv).keeps fun c ys ec=>?_,q,es,ep,hq,h2,h3,h4,h5⟩;rw[aO (xP ec e (fun z=>nomatch z))];exact ec
end
noncomputable def sV (i:Expr):Prop:=∀ov iv,zO i aq ov iv=operate [ov,iv] (nG ov iv)
theorem PJ {slice:Expr} {T id:cM} 
  (hl:vy (.type T) "__getitem__"=bq (aa (.builtin id))) (hs:sV slice)
  (h:aG .(B) A (eval value env) (fun o s₁=>aG .(B) A (eval slice env) (fun i s₂=>s₂.TypeIs o T/\aG .(B) A (nG o i) Q E s₂) E s₁) E s) :
  aG .(B) A (eval (.Subscript value slice pos) env) Q E s:=by
 refine zM (e7 h (fun o s₁ h₁=>e7 h₁ (fun i s₂ h₂=>?_) fun _ _ x=>x) fun _ _ x=>x);obtain⟨hT,h₂⟩:=h₂;unfold zN;refine qx ?_;rw[getitemInPython_of_ne hT.not_modules];refine qx (GB hT hl ?_);have fin:aG .(B) A (zO slice aq o i) (fun r s₃=>aG .(B) A (letTemporaryGo value o r >>= fun _=>bq r) Q E s₃) E s₂:=by rw[hs o i];exact wpAny_operating (e7 h₂ (fun r s₃ h₃=>qx (wpAny_letTemporaryGo (qA h₃))) fun _ _ x=>x)
 first
  |exact qA (qx fin)
  |exact qx (qA (qx fin))
  |exact qx fin
theorem LS {y:V} {o:ar V} (I:Inv X pins σ H s) (g:jf H a y o):s.TypeIs (.ref a) "dict":=by
 rcases g with⟨kvs,k,e,_,_⟩|⟨kvs,k,b,e,_,_,_⟩
 .obtain⟨_,_,vs,_,dd⟩:=yR I.hok e;exact dd.typeIs
 .obtain⟨_,_,xs,_,dd⟩:=wN I.hok e;exact dd.typeIs
def Qb (td ty:TE):TE:=fun σ H Q=>td σ H fun x H1=>ty σ H1 fun y H2=>∃a v,x=.ref a/\jf H2 a y (aa v)/\Q v H2
def Lp (td ty tv:TE):TS:=fun D σ H=>tv σ H fun v H1=>td σ H1 fun x H2=>ty σ H2 fun y H3=>∃a H4,x=.ref a/\pG H3 a y v H4/\D.nx σ H4
section
variable {i:Expr} {td ty:TE}
theorem Fs (hu:X.A.units+1<di) (ho:PE X o td) (hi:PE X i ty) (hs:sV i):PE X (.Subscript o i pos) (Qb td ty):=by intro pins s σ H Q I h;refine PJ PySem.F.slot_dict_getitem.lookup hs (thn (ho pins s σ H _ I h) fun u s1 ⟨x,H1,I1,rx,q1⟩=>thn (hi pins s1 σ H1 _ I1 q1) fun iv s2 ⟨y,H2,I2,ry,a,v,ex,g,q2⟩=>?_);subst ex;obtain rfl:u=cj a:=rx;exact⟨LS I2 g,Rk hu I2 g ry fun w' s3 I3 rw'=>⟨v,H2,I3,rw',q2⟩⟩
theorem PU (hu:X.A.units+1<di) (ho:PE X o td) (hi:PE X i ty) (hv:PE X value tv) (hs:e8 value (aa (.Subscript o i pos')) pos.line X.env=bq aq) :
  PS X (.Assign [.Subscript o i pos'] value pos) (Lp td ty tv):=by
 intro pins s σ H D I h;refine wpAny_Assign_Subscript (thn (hv pins s σ H _ I h) fun r s1 ⟨v,H1,I1,rv,q1⟩=>thn (ho pins s1 σ H1 _ I1 q1) fun u s2 ⟨x,H2,I2,rx,q2⟩=>thn (hi pins s2 σ H2 _ I2 q2) fun iv s3 ⟨y,H3,I3,ry,a,H4,ex,g,q3⟩=>?_) hs;subst ex;obtain rfl:u=cj a:=rx;exact Qj hu I3 g ry rv fun s4 I4=>⟨σ,H4,I4,q3⟩
end
theorem ER (h:Heap) (hb:lV<h.objs.size):cI P w H (h.push {cls:=.type "dict",data:=.dict #[]}) h.objs.size (.dK []):=
 ⟨gX _,oO.mpr (eh (qC hb)),[],.nil,Tq h⟩
def IV:TE:=fun _ H Q=>∀p,H p=ae->Q (.ref p) (upd H p (.dK []))
theorem FU:PE X (.Dict [] [] pos) IV:=fun pins s σ H Q I h=>
 wpAny_Dict_empty ⟨.ref s.heap.objs.size,_,I.laid (a:=s.heap.objs.size) (o:=.dK []) (t':=s.toks) (fun _ _ q=>qt _ q) (qv _) (ER s.heap I.big),rfl,h _ (I.hok.fresh (qv _))⟩
def t4:ac (TE×TE)->St->Hp->(ac (V×V)->Hp->Prop)->Prop
 |[],_,H,Q=>Q [] H
 |(tk,tv)::r,σ,H,Q=>tk σ H fun x H1=>tv σ H1 fun y H2=>t4 r σ H2 fun ps H3=>Q ((x,y)::ps) H3
noncomputable abbrev VV:ac (V×V)->ac (Value×Value)->Prop:=Paired fun p q=>bC p.1 q.1/\bC p.2 q.2
noncomputable def PPs (X:Cx) (pos:dh) (keys:ac (ar Expr)) (values:ac Expr) (trs:ac (TE×TE)):Prop:=
 ∀(pins:ac (av×Obj)) (s:aH) (σ:St) (H:Hp) (Q:ac (V×V)->Hp->Prop),Inv X pins σ H s->t4 trs σ H Q->
  aG .(k) X.A (evalPairs (pairTrees keys values X.env pos)) (fun vs s'=>∃ps H',Inv X pins σ H' s'/\VV ps vs/\Q ps H') X.xe s
theorem OK :PPs X pos [] [] []:=fun pins s σ H Q I h=>pairTrees_nil_walk ⟨[],H,I,.nil,h⟩
variable {trs:ac (TE×TE)}
theorem Rl {k v:Expr} {ks:ac (ar Expr)} {vs:ac Expr} {tk:TE} (hk:PE X k tk) (hv:PE X v tv) (hr:PPs X pos ks vs trs) :
  PPs X pos (aa k::ks) (v::vs) ((tk,tv)::trs):=fun pins s σ H Q I h=>
 pairTrees_cons_walk (thn (hk pins s σ H _ I h) fun u s1 ⟨x,H1,I1,rx,q1⟩=>thn (hv pins s1 σ H1 _ I1 q1) fun w2 s2 ⟨y,H2,I2,ry,q2⟩=>
  thn (hr pins s2 σ H2 _ I2 q2) fun ws s3 ⟨ps,H3,I3,rel,q3⟩=>⟨(x,y)::ps,H3,I3,.cons ⟨rx,ry⟩ rel,q3⟩)
def kO (kvs more:ac (Key×V)):ac (Key×V):=more.foldl (fun acc kv=>dE acc kv.1 kv.2) kvs
theorem KV.merge:∀{more:ac (Key×V)} {rs:ac (Key×Value)} {kvs:ac (Key×V)} {vs:ac (Key×Value)},KV more rs->KV kvs vs->KV (kO kvs more) (merged vs rs):=by
 intro more rs kvs vs r;unfold KV at r
 induction r generalizing kvs vs with
 |nil=>intro q;exact q
 | @cons p q ps qs h t ih=>
  intro r0;have e:KV (dE kvs p.1 p.2) (stored vs q.1 q.2):=by have:=r0.put p.1 h.2;rw[←h.1];exact this
  exact ih e
theorem EH:∀(more kvs:ac (Key×V)),(kO kvs more).length<=kvs.length+more.length
 |[],kvs=>by show kvs.length<=kvs.length+0;omega
 |p::r,kvs=>by have h1:=EH r (dE kvs p.1 p.2);have h2:=wg kvs p.1 p.2;show(kO (dE kvs p.1 p.2) r).length<=_;rw[qh];omega
theorem A7 {P:ef} {w:cT}:∀{kvs:ac (Key×V)} {ws:ac (Value×Value)},VV (kvs.map fun kv=>(kV kv.1,kv.2)) ws->∃rs,Carries (dB P w) ws rs/\KV kvs rs
 |[],_,r=>by rw[qO] at r;cases r;exact⟨[],iE,.nil⟩
 |p::kvs,_,r=>by
  rw[qm] at r;cases r with
  | @cons a b as bs h t=>
   obtain⟨rs,c,q⟩:=A7 (P:=P) (w:=w) t;obtain⟨b1,b2⟩:=b;exact⟨(p.1,b2)::rs,⟨nV h.1,rfl,c⟩,.cons ⟨rfl,h.2⟩ q⟩
def Cp (trs:ac (TE×TE)):TE:=fun σ H Q=>∀p,H p=ae->t4 trs σ (upd H p (.dK [])) fun ps H2=>H2 p=aa (.dK [])/\∃kvs:ac (Key×V),ps=kvs.map (fun kv=>(kV kv.1,kv.2))/\kvs.length<=15/\Q (.ref p) (upd H2 p (.dK (kO [] kvs)))
variable {keys:ac (ar Expr)} {values:ac Expr}
theorem Lk (h:PPs X pos keys values trs) (hall:keys.all (·.isSome)=al) (hl:keys.length=values.length) (h0:keys≠[])
  (h15:keys.length<=15):PE X (.Dict keys values pos) (Cp trs):=by
 intro pins s σ H Q I q;have hn:=I.hok.fresh (qv s.heap.objs.size);have I1:=I.laid (a:=s.heap.objs.size) (o:=.dK []) (h':=s.heap.push {cls:=.type "dict",data:=.dict #[]}) (t':=s.toks) (fun _ _ q=>qt _ q) (qv _) (ER s.heap I.big);refine wpAny_Dict_walk (knd:=dB X.prog X.w) hall hl h0 h15 (thn (h pins _ σ _ _ I1 (q _ hn)) fun ws s2 ⟨ps,H2,I2,rel,e,kvs,ep,lk,q2⟩=>?_);subst ep;obtain⟨rs,c,rk⟩:=A7 (P:=X.prog) (w:=X.w) rel;obtain⟨z,hd,vs0,r0,dd⟩:=Fh I2.hok e;cases r0;refine⟨rs,c,dd,fun h' dd' hs=>⟨.ref s.heap.objs.size,_,?_,rfl,q2⟩⟩;have hz:(kO [] kvs).length<=aL:=by have h1:=EH kvs [];rw[qk] at h1;rw[eI];omega
 have he:∃q,h'.get? s.heap.objs.size=aa q:=let ⟨q,_,_,hq,_⟩:=dd';⟨q,hq⟩
 exact x8 I2 (by rw[e];exact iE) hs he (BE hz hd (rk.merge .nil) dd')
variable {q:ef} {loose:ac aj} {XP:(aj->ar Value)->Heap->Prop} {YP:cT->Heap->Prop}
namespace Att
open PySem PySem.W PySem.Calls PyProof.Rows
theorem Qf {P:zU} {h:Heap} :∀(ns:ac ag) (vs:ac Value),WellAll P h vs (ns.map Tr)->vA vs ns:=by
 intro ns
 induction ns with
 |nil=>
  intro vs w;rw[qO] at w;cases w;exact .nil
 |cons n ns ih=>
  intro vs w;rw[qm] at w;cases w with
  |cons a b=>
   cases a;exact .cons _ _ (ih _ b)
theorem Qc {l:OpenLaw} (hn:l.most=aa n) {P:zU} {h:Heap} {args:ac WData} {vals:ac Value} 
  (hpre:l.row.toRowW.claim.pre args=al) (hwl:WellAll P h vals args) :
  ∃a vs ns,vals=[cj a]/\args=[WData.list (ns.map Tr)]/\h.get? a=aa {cls:=.type "list",data:=.seq vs.toArray}/\vA vs ns/\ns.length<=n:=by
 have hsh:WShape.hasAll [] args [.list .int]=al:=(pre_splitW hpre).1;have hc:l.pre.holds [] {args:=args}=al:=(pre_splitW hpre).2;obtain⟨d,r,rfl,h1,h2⟩:=hasAllW_cons hsh;obtain rfl:=hasAllW_nil h2;obtain⟨xs,rfl,h3⟩:=hasW_list h1;obtain⟨ns,rfl⟩:=items_int h3;have hlen:ns.length<=n:=by
  unfold OpenLaw.pre at hc;have h4:(WTm.not (.lt (.lit (.int (n:ag))) (.len (.arg 0)))).holds [] {args:=[.list (ns.map .int)]}=al:=by have h4:=(holds_andW hc).1;rw[hn] at h4;exact h4
  have h5:=condW_of h4 (w_not (w_lt w_lit (w_len_list (w_arg rfl))));rw[qe] at h5;refine Nat.le_of_not_lt fun q=>?_;have q':(n:ag)<((ns.length:ah):ag):=by omega
  first
   |(rw[qS q'] at h5;exact bB h5 .(c))
   |(simp at h5;omega)
 cases hwl with
 |cons w1 w2=>
  cases w2;cases w1 with
  |list ho hall=>exact⟨_,_,ns,rfl,rfl,ho,Qf ns _ hall,hlen⟩
theorem Jr (l:OpenLaw) (args:ac WData):l.row.toRowW.claim.post args (.bool al) args=al:=
 postW_of (r:=l.row.toRowW) (X:=(al==al))
  (show Ts [] (.bool al) .bool=al by first|rfl|decide|simp[Ts,WShape.arms,WShape.armsAll])
  (show(WTm.eq .res (.lit (.bool al))).value [] {args:=args,res:=aa (.bool al),after:=args}=aa (.bool (al==al)) from w_eq_bool (w_res rfl) w_lit) rfl
theorem attach_call {l:OpenLaw} {d:DefRec} 
  (hn:l.most=aa n) (hdf:d.params.defaults=[])
  (call:∀(w:cT) (s₀ s₁:aH) (mg mb:aj->ar Value) (fa:av) (o:Obj) (pm cd doc:Value) (a:av) (vs:ac Value) (ns:ac ag),
   Ground q loose [] XP w s₀ mg mb s₁.heap->YP w s₁.heap->
   s₁.heap.get? fa=aa o->o.data=.func (docDef d.name d.params d.body d.scope pm cd doc)->s₁.heap.CodeRec cd d.name->mg d.name=aa (.ref fa)->
   s₁.heap.get? a=aa {cls:=.type "list",data:=.seq vs.toArray}->vA vs ns->ns.length<=n->s₁.gens=#[]->
   gW (aI l.prog w) o6 (.call (.ref fa) ⟨[.ref a],[]⟩) (fun r s'=>r=.ok (.ret (.bool al))/\OldK s₁.heap s'.heap/\s'.os=s₁.os/\kY s'.gens) s₁) :
  WalkO q loose XP YP l.row.toRowW d [] (fun f vs=>GC f vs):=by
 intro w s₀ s₁ mg mb G Y fa o pm cd doc dV kV ho hd hcd hD hmg hg args vals as hpre hlay hrd hwl hlo;obtain rfl:dV=.none:=Dflts.none hD hdf;obtain rfl:kV=.none:=Dflts.noKw hD;obtain⟨a,vs,ns,rfl,rfl,hobj,hints,hlen⟩:=Qc hn hpre hwl;refine enter_call (lf (call w s₀ s₁ mg mb fa o pm cd doc a vs ns G Y ho (fd_plain hd) hcd hmg hobj hints hlen hg) fun r s' hq=>?_);obtain⟨rfl,h2,h3,h4⟩:=hq;exact⟨.inl ⟨.bool al,.bool al,[],rfl,fun _=>rfl,.bool al,Jr l _,fun _=>⟨Vp,fun _ hm=>(nomatch hm)⟩⟩,h2,h3,h4⟩
section
variable {K:aV}
noncomputable def UV (h:Heap) (L d:av):ac (av×Obj):=(cz h.objs.size).filterMap fun a=>if a=L\/a=d then ae else (h.get? a).map fun o=>(a,o)
end
end Att
theorem Bt:∀{vs:ac Value} {ns:ac ag},vA vs ns->bp (ns.map V.int) vs
 |_,_,.nil=>.nil
 |_,_,.cons n t h=>.cons ⟨t,rfl⟩ (Bt h)
noncomputable def yL (H:Hp):Prop:=∀b,H b=ae\/∃o xs,H b=aa (.frz o (.lst xs))
variable {ns:ac ag}
theorem Nh {mb:aj->ar Value} {k:ah} {fa:av} {s₁:aH} {vs:ac Value} 
  (KX:K.In s₁.heap) (hns:s₁.heap.Ns dL mg) (hb:s₁.heap.Ns F0 mb) (hbb:∀x:aj,x≠"__name__"->mb x=lW x) (hlim:s₁.heap.NoLimit) (hg:s₁.gens=#[])
  (ha:s₁.heap.get? a=aa {cls:=.type "list",data:=.seq vs.toArray}) (hi:vA vs ns) (hl:ns.length<=aL) (hr:Room k o6)
  (F:∀base:Heap,K.In base->base.Ns dL mg->FnOk P w K mg base CX k fa fd [x] sp) (hbind:∀(s:aH) (u:Value),sD s fd ⟨[u],[]⟩ [(x,u)])
  (hsp:∀H:Hp,yL H->SqL K H a (ns.map V.int)->sp [.ref a] H (fun v _=>v=.bl al) fun _ _ _=>False)
  (hCX:∀H e s',CX [] H s₁ (fun _ _ _=>False) e s'->False) :
  gW (aI P w) o6 (.call (.ref fa) ⟨[.ref a],[]⟩) (fun r s'=>r=.ok (.ret (.bool al))/\OldK s₁.heap s'.heap/\s'.os=s₁.os/\kY s'.gens) s₁:=by
 have rv:=Bt hi;have lenV:=hi.length;have core:∀H:Hp,yL H->SqL K H a (ns.map V.int)->HOk P w H s₁.heap->(∀b,H b≠ae->b=a)->(H a≠ae->K.lookup a=ae)->
   gW (aI P w) o6 (.call (.ref fa) ⟨[.ref a],[]⟩) (fun r s'=>r=.ok (.ret (.bool al))/\OldK s₁.heap s'.heap/\s'.os=s₁.os/\kY s'.gens) s₁:=by
  intro H hO hS hok hA hK;have base_of:∀{b:av} {o:Obj},s₁.heap.get? b=aa o->H b=ae->(kT s₁.heap H).get? b=aa o:=fun e n=>Jq e n;have noA:∀{b:av} {o:Obj} {es:b7 DictEntry} {ep:ah},s₁.heap.get? b=aa o->o.data=.dict es ep->H b=ae:=fun {b o es ep} e d=>by
   cases q:H b with
   |none=>rfl
   |some u=>
    have e':b=a:=hA b (by rw[q];simp);subst e';rw[ha] at e;cases e;have d':Data.seq vs.toArray _=Data.dict es ep:=d;cases d'
  have nsK:∀{b:av} {m:aj->ar Value},s₁.heap.Ns b m->(kT s₁.heap H).Ns b m:=fun {b m} ⟨o,es,ep,e,d,r⟩=>⟨o,es,ep,base_of e (noA e d),d,r⟩;have hKb:K.In (kT s₁.heap H):=fun b o e=>base_of (KX b o e) (by
   cases q:H b with
   |none=>rfl
   |some u=>
    have e':b=a:=hA b (by rw[q];simp);subst e';rw[hK (by rw[q];simp)] at e;cases e)
  have hM:Mod K mg (kT s₁.heap H):=⟨hKb,nsK hns,⟨mb,nsK hb,hbb⟩,let ⟨mc,h1,h2⟩:=hlim;⟨mc,nsK h1,h2⟩⟩;have e0:Env0 P w K mg (kT s₁.heap H) o6 [] s₁ H:=⟨rfl,hM,fun b o e=>J9 e,zD (LP _ _),trivial,fun b hb=>bB (show b∈([]:ac av) from hb) (by simp),hok,.of_eq hg⟩;refine lf ((F _ hKb (nsK hns)).run o6 [] s₁ H ⟨[.ref a],[]⟩ [.ref a] [.ref a] _ _ hr e0 (hbind s₁ (.ref a)) (.cons rfl .nil) (hsp H hO hS)) fun r s' h=>?_;cases r with
  |error e=>exact(hCX H e s' h).elim
  |ok fl=>
   cases fl with
   |next=>exact fL h
   |brk=>exact fL h
   |cont=>exact fL h
   |ret u=>
    obtain⟨v,H',os,bare,un,hok',r',q⟩:=h;have q':v=.bl al:=q;subst q';obtain rfl:u=lT al:=r';refine⟨rfl,OldK.of_keep fun b o e=>?_,os,bare⟩;cases q:H b with
    |none=>exact un.keep b o e q (by intro z;exact bB (show b∈([]:ac av) from z) (by simp)) (by simp)
    |some u=>
     rcases hO b with z|⟨ob,xs,z⟩
     .rw[q] at z;cases z
     .have z2:=un.frzs b ob _ z;obtain⟨e1,_⟩:=hok b _ z;obtain⟨e2,_⟩:=hok' b _ z2;rw[e] at e1;cases e1;exact e2
 cases hk:K.lookup a with
 |some o=>
  have e:=KX a o hk;rw[ha] at e;cases e;refine core (fun _=>ae) (fun _=>.inl rfl) (.inr ⟨_,vs.toArray,_,hk,rfl,rfl,rfl,by rw[qB,lenV];exact hl,by simpa using rv⟩) (fun b u z=>by have z':(ae:ar HO)=aa u:=z;cases z') (fun b z=>bB rfl z) fun z=>bB rfl z
 |none=>
  refine core (fun b=>if b=a then aa (.frz {cls:=.type "list",data:=.seq vs.toArray} (.lst (ns.map V.int))) else ae) (fun b=>?_) (.inl (.inr ⟨{cls:=.type "list",data:=.seq vs.toArray},qY rfl⟩)) (fun b u z=>?_) (fun b z=>?_) fun _=>hk
  .by_cases hb:b=a
   .exact .inr ⟨_,_,qY hb⟩
   .exact .inl (qZ hb)
  .by_cases hb:b=a
   .have z':=(qY hb).symm.trans z;cases z';subst hb;exact⟨ha,by rw[qe];exact hl,vs,_,rv,ha⟩
   .have z':=(qZ hb).symm.trans z;cases z'
  .by_cases hb:b=a
   .exact hb
   .exact bB (qZ hb) z
noncomputable abbrev KOf {h:Heap} (_:K.In h):aV:=K
theorem walk_of {l:GD} {k:ah} {d:DefRec} {K:zU->aV} {CX:cT->CXT} {sp:cT->Sp} 
  (hn:l.most=aa n) (hn2:n<=aL) (hdf:d.params.defaults=[]) (hr:Room k o6)
  (hY:∀(w:cT) (h:Heap),YP w h->(K w.params).In h)
  (F:∀(w:cT) (mg:aj->ar Value) (fa:av) (h:Heap),(K w.params).In h->h.Ns dL mg->mg d.name=aa (.ref fa)->
   ∃fd:l6,(∀(s:aH) (u:Value),sD s fd ⟨[u],[]⟩ [(x,u)]) /\
    ∀base:Heap,(K w.params).In base->base.Ns dL mg->FnOk l.prog w (K w.params) mg base (CX w) k fa fd [x] (sp w))
  (hsp:∀(w:cT) (H:Hp) (a:av) (ns:ac ag),ns.length<=n->yL H->SqL (K w.params) H a (ns.map V.int)->sp w [.ref a] H (fun v _=>v=.bl al) fun _ _ _=>False)
  (hCX:∀(w:cT) (H:Hp) (s:aH) (e:Value) (s':aH),CX w [] H s (fun _ _ _=>False) e s'->False) :
  Tt q loose XP YP l.row.toRowW d [] (fun f vs=>GC f vs):=by
 refine Att.attach_call hn hdf fun w s₀ s₁ mg mb fa o pm cd doc a vs ns G Y ho hd hcd hmg hobj hints hlen hg=>?_;have KX:=hY w _ Y;obtain⟨fd,hb,hF⟩:=F w mg fa _ KX G.T.g hmg;exact Nh KX G.T.g G.T.b G.T.builtins G.T.nolimit hg hobj hints (qM hlen hn2) hr hF hb (fun H hO hS=>hsp w H a ns hlen hO hS) fun H e s'=>hCX w H s₁ e s'
noncomputable def nc (s:Stmt) (j:ah):Stmt:=match s with
 |.ClassDef _ _ _ body _ _ _ _ _ _ _=>body.getD j (.Pass ⟨0,0,0,0⟩)
 |_=>.Pass ⟨0,0,0,0⟩
noncomputable def io (s:Stmt):Arguments:=match s with
 |.FunctionDef _ a _ _ _ _ _ _ _ _=>a
 |_=>{posonlyargs:=[],args:=[],vararg:=ae,kwonlyargs:=[],kw_defaults:=[],kwarg:=ae,defaults:=[]}
noncomputable def eN (s:Stmt):ac Stmt:=match s with
 |.FunctionDef _ _ b _ _ _ _ _ _ _=>b
 |_=>[]
noncomputable def aW (s:Stmt):Scope:=match s with
 |.FunctionDef _ _ _ _ _ _ sc _ _ _=>sc
 |_=>{kind:=.function,names:=[],isGenerator:=aq,isCoroutine:=aq}
noncomputable abbrev CX0:CXT:=fun _ _ _ _ _ _=>False
noncomputable abbrev E0:XK:=fun _ _ _=>False
theorem uH :n4 CX0 X E0:=fun _ _ _ _ _ _ _ h=>h.elim
structure Fun (K:aV) (x qual:aj) (st:Stmt) (f:av) (fd:l6):Prop where
 ex:∃(oc:Value) (od:ar av) (kV doc pm:Value) (an:ar av) (cdv ct:Value) (osl:b7 (ar Value)),
  fd=ik x qual (io st) (eN st) (aW st) .none kV doc pm an cdv ct/\K.lookup f=aa ⟨oc,od,.func fd,osl⟩/\sG K cdv qual=al
 kp:gI K (.ref f)=al
theorem Fun.ok {f:av} {k:ah} (F:Fun K x qual st f fd) (S:FnScope N ps (aW st)) (len:∀vs H Q E,sp vs H Q E->vs.length=ps.length)
  (hbody:∀(cdv:Value) (A:eU) (outer:ac cN) (s:aH) (H:Hp) (vs:ac V) (Q:VK) (E:XK),Room k .(as)->sp vs H Q E->
   ∃t,PSs .(az).nox (eN st) t/\t {nx:=fun _ H'=>Q .non H',rt:=Q} (ie N vs) H):FnOk P w K mg base CX0 (k+1) f fd ps sp:=by
 obtain⟨oc,od,kV,doc,pm,an,cdv,ct,osl,rfl,lk,hcd⟩:=F.ex;refine Eu lk hcd S len fun A outer s H vs Q E hr hsp=>?_;obtain⟨t,h,q⟩:=hbody cdv A outer s H vs Q E hr hsp;exact⟨t,h.nox,q⟩
theorem Fun.binds {f:av} (F:Fun K x qual st f fd)
  (h:∀(kV doc pm:Value) (an:ar av) (cdv ct:Value) (us:ac Value),us.length=ps.length->l9 (ik x qual (io st) (eN st) (aW st) .none kV doc pm an cdv ct) ⟨us,[]⟩=bq (ps.zip us)):fS K fd ps []:=by
 obtain⟨oc,od,kV,doc,pm,an,cdv,ct,osl,rfl,lk,hcd⟩:=F.ex;exact .all (h kV doc pm an cdv ct)
theorem yY {f:av} {kV:Value} (l:K.lookup f=aa ⟨oc,od,.func (ik x qual (io st) (eN st) (aW st) .none kV doc pm an cdv ct),osl⟩)
  (c:sG K cdv qual=al) (k:gI K (.ref f)=al):Fun K x qual st f (ik x qual (io st) (eN st) (aW st) .none kV doc pm an cdv ct):=⟨⟨oc,od,kV,doc,pm,an,cdv,ct,osl,rfl,l,c⟩,k⟩
theorem kh {A B:Prop} (h:B):if aq=al then A else B:=by rw[qZ qr];exact h
theorem g9 {A B:Prop} (h:A):if al=al then A else B:=by rw[qY rfl];exact h
noncomputable def bo (H H':Hp):Prop:=∀b o,H b=aa o->H' b=aa o
theorem bo.refl (H:Hp):bo H H:=fun _ _ h=>h
theorem bo.trans (a:bo H H1) (b:bo H1 H2):bo H H2:=fun c o h=>b c o (a c o h)
theorem bo.free (e:bo H H') {l:av} (h:H' l=ae):H l=ae:=by
 cases q:H l with
 |none=>rfl
 |some o=>
  rw[e l o q] at h;cases h
theorem bo.seq {xs:ac V} (e:bo H H') (h:SqL K H a xs):SqL K H' a xs:=by
 rcases h with(h|⟨o,h⟩)|h
 .exact .inl (.inl (e _ _ h))
 .exact .inl (.inr ⟨o,e _ _ h⟩)
 .exact .inr h
variable {elt:Expr} {ifs:ac Expr}
theorem Sw {target:Expr} {it acc:Value} (I:ah->aH->Prop)
  (turn:∀n s,I n s->aG .(B) A (nz it) (fun r s₁=>match r with
   |none=>R (.ok .next) s₁
   |some v=>aG .(B) A (vg target it v) (fun _ s₁'=>aG .(B) A (iU target env v) (fun _ s₂ =>
     aG .(B) A (vB ifs al fun c r=>if r=al then do let ok ←isTrue c env (eval c env);bq (sK ok) else bq (sK r)) (fun ok s₃ =>
      if ok=al then aG .(B) A (eval elt env) (fun x s₄ =>
       aG .(B) A (call (.builtin "list.append") [acc,x]) (fun _ s₅=>∃m,m<n/\I m s₅) (fun _ _=>False) s₄) (fun _ _=>False) s₃
      else ∃m,m<n/\I m s₃) (fun _ _=>False) s₂) (fun _ _=>False) s₁') (fun _ _=>False) s₁) (fun _ _=>False) s)
  (n:ah) (h:I n s) :
  gW .(B) A (.compLoop (.ListComp elt [⟨target,iter,ifs,0⟩] scope pos) 0 it acc env) R s:=by
 refine codeAny_loop rfl I (fun n s hI=>?_) n h;show aG _ A ((compTurn (.ListComp elt [⟨target,iter,ifs,0⟩] scope pos) 0 it acc env).onRaise (fun x=>do GE x env;theTreesLotGoes x)) _ _ s;refine wpAny_noted ?_;rw[compTurn_list];refine qx (sy (qx (e7 (turn n s hI) (fun r s₁ h₁=>?_) fun _ _ h'=>h'.elim)));cases r with
 |none=>exact qA h₁
 |some v=>
  refine qx (e7 h₁ (fun _ s₁' h₁'=>?_) fun _ _ h'=>h'.elim);refine qx (e7 h₁' (fun _ s₂ h₂=>qx (e7 h₂ (fun ok s₃ h₃=>?_) fun _ _ h'=>h'.elim)) fun _ _ h'=>h'.elim);cases ok with
  |false=>exact qA ⟨rfl,h₃⟩
  |true=>
   exact qx (qx (e7 h₃ (fun x s₄ h₄=>qx (e7 h₄ (fun _ s₅ h₅=>qA (qA ⟨rfl,h₅⟩)) fun _ _ h'=>h'.elim)) fun _ _ h'=>h'.elim))
noncomputable def i8 (X:Cx) (N':ac aj) (scope:Scope) (cl:ac (aj×av)) (C:av) (s₀:aH) (H₀:Hp) (fp:ac av):Cx:=
 {X with N:=N',s₀:=s₀,H₀:=H₀,env:=GF scope cl C X.env,outer:=X.stack,stack:=X.stack,ex:=fp,fn:=fun _=>aq,pn:=[],xe:=fun _ _=>False}
noncomputable def fO (env:cN):ac (aj×iF)->ac (aj×av)->ac (aj×av)
 |[],acc=>acc
 |(n,k)::r,acc=>fO env r (if k==.free then (match env.cells.lookup n with|some c=>(n,c)::acc|none=>acc) else acc)
theorem Iu (h:∀y∈scope.names,y.2=.free->∃c,env.cells.lookup y.1=aa c):closureFor scope env=bq (fO env scope.names []):=by
 have all:∀(l:ac (aj×iF)) (acc:ac (aj×av)),(∀y∈l,y.2=.free->∃c,env.cells.lookup y.1=aa c)->
   (vB l acc fun x r=>match x with
    |(name,kind)=>if kind==.free then do let c ←cellOf env name;bq (sK ((name,c)::r)) else bq (sK r):fu (ac (aj×av)))=bq (fO env l acc):=by
  intro l
  induction l with
  |nil=>intro acc _;rfl
  |cons y r ih=>
   intro acc hl;obtain⟨n,k⟩:=y;rw[List.forIn_cons];have hr:∀y∈r,y.2=.free->∃c,env.cells.lookup y.1=aa c:=fun y hy=>hl y (qg _ hy);unfold fO;cases hk:(k==nM) with
   |false=>
    simp only[hk,qq,dv,pure_bind];exact ih acc hr
   |true=>
    obtain⟨c,hc⟩:=hl (n,k) qf (by simpa using hk);have hc':env.cells.lookup n=aa c:=hc;simp only[hk,cr,cellOf,hc',pure_bind];exact ih _ hr
 have e:=all scope.names [] h;exact Eq.trans (bind_pure _) e
theorem xo {env:cN}:∀(l:ac (aj×iF)) (acc:ac (aj×av)),(∀x c,acc.lookup x=aa c->env.cells.lookup x=aa c)->∀x c,(fO env l acc).lookup x=aa c->env.cells.lookup x=aa c
 |[],_,h=>h
 |(n,k)::r,acc,h=>by
  unfold fO;refine xo r _ ?_;split
  .split
   .rename_i c hc;intro x d hx;rw[o7] at hx;cases e:x==n with
    |true=>
     rw[e] at hx;have e':x=n:=by simpa using e
     have e2:c=d:=qH hx;rw[e',←e2];exact hc
    |false=>rw[e] at hx;exact h x d hx
   .exact h
  .exact h
theorem Co {env:cN}:∀(l:ac (aj×iF)) (acc:ac (aj×av)) (x:aj),(acc.lookup x).isSome=al->((fO env l acc).lookup x).isSome=al
 |[],_,_,h=>h
 |(n,k)::r,acc,x,h=>by
  unfold fO;refine Co r _ x ?_;split
  .split
   .rw[o7];split
    .rfl
    .exact h
   .exact h
  .exact h
theorem zt {env:cN}:∀(l:ac (aj×iF)) (acc:ac (aj×av)) (x:aj) (c:av),(x,nM)∈l->env.cells.lookup x=aa c->((fO env l acc).lookup x).isSome=al
 |[],_,_,_,h,_=>nomatch h
 |(n,k)::r,acc,x,c,h,hc=>by
  unfold fO;rcases cy.mp h with e|h
  .injection e with e1 e2;subst e1;subst e2;refine Co r _ _ ?_;rw[qY (by rfl),hc];simp
  .exact zt r _ x c h hc
theorem uP {env:cN}:∀(names:ac (aj×iF)) (x:aj) (k':iF),
  (names.map fun(n,k)=>if .(aa) then (n,zV) else (n,k)).lookup x=aa k'->
  names.lookup x=aa k'\/(k'=.cell/\names.lookup x=aa .free)
 |[],_,_,h=>by simp at h
 |(n,k)::r,x,k',h=>by
  have ih:=@uP env r x k';have h':dQ x ((if .(aa)=al then (n,zV) else (n,k))::(r.map fun(n,k)=>if .(aa) then (n,zV) else (n,k)))=aa k':=h;cases hx:x==n with
  |true=>
   by_cases hc:.(aa)=al
   .rw[qY hc] at h';simp only[o7,hx] at h' ⊢;have hk:k=.free:=by simp only[ge,jq] at hc;exact hc.1.1
    right
    exact⟨(qH h').symm,by rw[hk]⟩
   .rw[qZ hc] at h';simp only[o7,hx] at h' ⊢;exact .inl h'
  |false=>
   have h2:dQ x (r.map fun(n,k)=>if .(aa) then (n,zV) else (n,k))=aa k':=by
    by_cases hc:.(aa)=al
    .rw[qY hc] at h';simpa only[o7,hx] using h'
    .rw[qZ hc] at h';simpa only[o7,hx] using h'
   simp only[o7,hx];exact ih h2
structure CompScope (X:Cx) (scope:Scope):Prop where
 kind:scope.kind=.function
 nocell:∀y∈scope.names,y.2≠.cell
 names:∀y∈scope.names,y.2=.local->scope.names.lookup y.1=aa .local
 free:∀y∈scope.names,y.2=.free->X.env.kindOf y.1=aa .cell\/X.env.kindOf y.1=aa .free
noncomputable def iZ (fv:ac (ar ah)) (σ:St):St:=fv.map fun o=>o.bind fun j=>(σ[j]?).join
variable {N':ac aj} {fv:ac (ar ah)}
theorem Fx (I:Inv X pins σ H s) (S:CompScope X scope):closureFor scope X.env=bq (fO X.env scope.names []):=
 Iu fun y hy hf=>I.ok.has y.1 (S.free y hy hf)
theorem RS (I:Inv X pins σ H s) (S:CompScope X scope) (hf:∀b∈fp,ix X pins H b) (hlt:∀b∈fp,b<s.heap.objs.size) (hC:s.heap.objs.size<=C) :
  (i8 X N' scope (fO X.env scope.names []) C s H fp).Ok:=by
 have sub:=xo (env:=X.env) scope.names [] (fun x c h=>by simp at h);refine⟨I.ok.mod,S.kind,I.ok.glob,I.ok.blt,hC,fun x y c h1 h2=>I.ok.inj x y c (sub x c h1) (sub y c h2),fun x hx=>?_,fun x c h _=>by simp[i8] at h,I.ok.hd,I.ok.frames,.inl rfl,fun b hb=>⟨?_,fun x c e=>?_⟩,I.bs,qM I.ok.bsz I.sz,
  fun b o e hb=>?_,fun b hb=>?_,I.stack,I.stkFree⟩
 .have hx':((zW scope X.env).names.lookup x=aa .cell\/(zW scope X.env).names.lookup x=aa .free):=hx;have hfr:scope.names.lookup x=aa .free:=by
   rcases hx' with h|h
   .rcases uP _ _ _ h with h|⟨_,h⟩
    .exact bB rfl (S.nocell _ (nD h))
    .exact h
   .rcases uP _ _ _ h with h|⟨h,_⟩
    .exact h
    .cases h
  have hm:=nD hfr;obtain⟨c,hc⟩:=I.ok.has x (S.free _ hm rfl);exact zG.mp (zt _ _ x c hm hc)
 .exact qC (qF (hlt b hb) hC)
 .exact(hf b hb).2.2.2.2.1 x c (sub x c e)
 .rcases(hf b hb).2.2.2.1 with z|z
  .exact I.ok.noex b o e z
  .exact bB (qF (qu e) I.ok.bsz) (zX.mpr z)
 .intro z;rcases cy.mp (I.stkSub b z) with e|e
  .exact(hf b hb).2.1 e
  .exact(hf b hb).2.2.1 e
theorem Sh (I:Inv X pins σ H s) (S:CompScope X scope) (hf:∀b∈fp,ix X pins H b) (hlt:∀b∈fp,b<s.heap.objs.size) (hC:C=s.heap.objs.size) (hlen:fv.length=N'.length)
  (hfv:∀(i j:ah) x,N'[i]?=aa x->fv[i]?=aa (aa j)->X.N[j]?=aa x/\(X.env.kindOf x=aa .cell\/X.env.kindOf x=aa .free)/\scope.names.lookup x=aa .free) {m:aj->ar Value} (hn:h'.Ns C m) (hk:∀b o,s.heap.get? b=aa o->h'.get? b=aa o) :
  Inv (i8 X N' scope (fO X.env scope.names []) C s H fp) [] (iZ fv σ) H {s with heap:=h',toks:=t'}:=by
 have ok:=RS (N':=N') I S hf hlt (C:=C) (zD hC.symm);have sub:=xo (env:=X.env) scope.names [] (fun x c h=>by simp at h);refine⟨ok,rfl,I.bare,Un.kept hk,⟨m,hn,fun i x v e1 e2 e3=>?_⟩,fun x c e=>?_,?_,fun x c e=>I.freeC x c (sub x c e),fun p hp=>?_,I.hok.kept hk,?_⟩
 .have e1':N'[i]?=aa x:=e1;have e2':(iZ fv σ)[i]?=aa (aa v):=e2;unfold iZ at e2';rw[qj] at e2';cases q:fv[i]? with
  |none=>rw[q] at e2';cases e2'
  |some o=>
   rw[q] at e2';cases o with
   |none=>cases e2'
   |some j=>
    have e2'':(σ[j]?).join=aa v:=by simpa using e2'
    obtain⟨hN,hkk,hfree⟩:=hfv i j x e1' q;have hσ:σ[j]?=aa (aa v):=by
     cases z:σ[j]? with
     |none=>rw[z] at e2'';cases e2''
     |some w=>rw[z] at e2'';cases w with
      |none=>cases e2''
      |some w'=>simp at e2'';rw[e2'']
    obtain⟨m0,hn0,hl⟩:=I.loc;obtain⟨u,r,l⟩:=hl j x v hN hσ (.inr hkk);refine⟨u,r,.inr ⟨?_,?_⟩⟩
    .rcases e3 with z|z|z
     .have z':(zW scope X.env).names.lookup x=aa .local:=z;rcases uP _ _ _ z' with y|⟨y,_⟩
      .rw[hfree] at y;cases y
      .cases y
     .exact .inl z
     .exact .inr z
    .rcases l with⟨k,_⟩|⟨_,c,hc,hcell⟩
     .rcases hkk with y|y
      .rw[k] at y;cases y
      .rw[k] at y;cases y
     .obtain⟨c',hc'⟩:=zG.mp (zt scope.names [] x c (nD hfree) hc);have e:=sub x c' hc';rw[hc] at e;cases e;obtain⟨oc,ho,hd⟩:=hcell;exact⟨c,hc',oc,hk _ _ ho,hd⟩
 .obtain⟨v,oc,ho,hd⟩:=I.cell x c (sub x c e);exact⟨v,oc,hk _ _ ho,hd⟩
 .exact I.hok.fresh (zD hC.symm)
 .exact bB (show p∈([]:ac (av×Obj)) from hp) (by simp)
 .show(iZ fv σ).length=N'.length;unfold iZ;rw[qe,hlen]
theorem Mt (I:Inv X pins σ H s) {cl:ac (aj×av)} (hf:∀b∈fp,ix X pins H b) (hC:s.heap.objs.size<=C) {σ':St} {pl:ac (av×Obj)} 
  (J:Inv (i8 X N' scope cl C s H fp) pl σ' H' s') (hs:jp C s'.heap h'):Inv X pins σ H' {s' with heap:=h'}:=by
 have hCn:H' C=ae:=J.free;refine I.call' (ch:=fp) (s':={s' with heap:=h'}) J.os ?_ ?_ J.bare fun b hb=>⟨(hf b hb).2.2.2.1,(hf b hb).2.1,(hf b hb).2.2.2.2.1,(hf b hb).2.2.2.2.2⟩
 .have U:Un (frs X.stack) fp H H' s.heap s'.heap:=J.base;have neC:∀b o,s.heap.get? b=aa o->b≠C:=fun b o e=>qC (qF (qu e) hC);refine⟨fun b o e n h1 h2=>?_,fun b o e n h1 h2=>?_,U.free,fun b o e h2=>?_,U.tups,U.frzs,U.tbls⟩
  .exact(hs.2 b (neC b o e)).trans (U.keep b o e n h1 h2)
  .obtain⟨sl,q⟩:=U.slot b o e n h1 h2;exact⟨sl,(hs.2 b (neC b o e)).trans q⟩
  .obtain⟨o',q⟩:=U.there b o e h2;exact⟨o',(hs.2 b (neC b o e)).trans q⟩
 .intro b u e;refine(J.hok b u e).stay (fun c v hc q=>(hs.2 c ?_).trans q) (fun _ q=>q) fun _ _ q=>q;rintro rfl;rcases hc with z|z
  .rw[←z,hCn] at e;cases e
  .rw[hCn] at z;cases z
noncomputable def PTs (X:Cx) (es:ac Expr) (t:TT):Prop:=
 ∀(pins:ac (av×Obj)) (s:aH) (σ:St) (H:Hp) (Q:ba->Hp->Prop),Inv X pins σ H s->t σ H Q->
  aG .(k) X.A (vB es al fun c r=>if r=al then do let ok ←isTrue c X.env (eval c X.env);bq (sK ok) else bq (sK r)) (TP X pins σ Q) X.xe s
noncomputable def OO:TT:=fun _ H Q=>Q al H
theorem KQ :PTs X [] OO:=fun _ _ _ H _ I h=>wpAny_tests_nil ⟨H,I,h⟩
theorem OQ {t:TT} (hc:PT X c t):PTs X [c] t:=fun pins s σ H Q I h=>wpAny_tests_one (hc pins s σ H Q I h)
noncomputable def LcW (J:It) (g:TG) (tc:TT) (te:TE) (acc:av) (Q:V->Hp->Prop) (σ0:St) (H1:Hp):Prop:=
 ∃W:ah->ah->ac V->St->Hp->Prop,(∃m,W 0 m [] σ0 (upd H1 acc (.lst [])))/\∀i m ys σ' H',W i m ys σ' H'->H' acc=aa (.lst ys) /\
  ((J.stop i H'/\Q (.ref acc) H')\/(J.go i H'/\∀x H2,J.yld i H' x H2->g x σ' H2 fun σ2 H3=>tc σ2 H3 fun b H4=>
   if b=al then te σ2 H4 fun v H5=>H5 acc=aa (.lst ys)/\ys.length<aL/\∃m',m'<m/\W (i+1) m' (ys++[v]) σ2 (upd H5 acc (.lst (ys++[v])))
   else ∃m',m'<m/\W (i+1) m' ys σ2 H4))
def tLC (wi:TI) (g:TG) (tc:TT) (te:TE) (fv:ac (ar ah)):TE:=fun σ H Q=>wi σ H fun J H1=>∀acc,H1 acc=ae->LcW J g tc te acc Q (iZ fv σ) H1
noncomputable def PB (X:Cx) (N':ac aj) (scope:Scope) (tg:Expr) (ifs:ac Expr) (elt:Expr) (g:TG) (tc:TT) (te:TE):Prop:=
 ∀(cl:ac (aj×av)) (C:av) (s₀:aH) (H₀:Hp) (fp:ac av),PG (i8 X N' scope cl C s₀ H₀ fp) tg g/\PTs (i8 X N' scope cl C s₀ H₀ fp) ifs tc/\PE (i8 X N' scope cl C s₀ H₀ fp) elt te
structure FvOk (X:Cx) (N':ac aj) (scope:Scope) (fv:ac (ar ah)):Prop where
 len:fv.length=N'.length
 at':∀(i j:ah) x,N'[i]?=aa x->fv[i]?=aa (aa j)->X.N[j]?=aa x/\(X.env.kindOf x=aa .cell\/X.env.kindOf x=aa .free)/\scope.names.lookup x=aa .free
variable {y:aj} {py spos:dh}
section
variable {g:TG}
theorem ES {s2:aH} {it:av} {tn:ah->Heap->Prop} {J:It} {Q:VK} {RR:Value->av->Result->aH->Prop} (hc:X.calm=al) (S:CompScope X scope) (F:FvOk X N' scope fv) (hb:PB X N' scope tg ifs elt g tc te)
  (I2:Inv X pins σ H1 s2) (T:Turn X.prog X.w X.K tg J fp it tn) (st2:tn 0 s2.heap) (f2:∀b∈fp,ix X pins H1 b) (q:∀acc,H1 acc=ae->LcW J g tc te acc Q (iZ fv σ) H1)
  (hRR:∀(a C:av) (H':Hp) (s':aH) (m:aj->ar Value),s'.heap.Ns C m->(∀h',jp C s'.heap h'->Inv X pins σ H' {s' with heap:=h'})->ix X pins H' C->Q (.ref a) H'->RR (.ref a) C (.ok .next) s') :
  aG .(k) X.A (newList []) (fun acc s₃=>aG .(k) X.A (newFunctionEnv scope X.env.globals (fO X.env scope.names []) [] X.env.qual ae .none (aa X.env)) (fun cenv s₄ =>
   gW .(k) X.A (.compStart .(z) 0 (.ref it) acc {cenv with scope:=zW scope X.env}) (RR acc cenv.locals) s₄) X.xe s₃) X.xe s2:=by
 refine vx ?_;have hacc:H1 s2.heap.objs.size=ae:=I2.fresh;have I3:Inv X pins σ (upd H1 s2.heap.objs.size (.lst [])) {s2 with heap:=s2.heap.push {cls:=.type "list",data:=.seq ([]:ac Value).toArray} }:=I2.lnew (t':=s2.toks) .nil (gX _);generalize hs3:({s2 with heap:=s2.heap.push {cls:=.type "list",data:=.seq ([]:ac Value).toArray} }:aH)=s3 at I3 ⊢;have up:∀b o,s2.heap.get? b=aa o->s3.heap.get? b=aa o:=fun b o e=>by rw[←hs3];exact qt _ e
 have lt2:∀b∈fp,b<s2.heap.objs.size:=fun b hb=>by obtain⟨o,e,_⟩:=T.obj 0 _ st2 b hb;exact qu e
 have sz3:s2.heap.objs.size<s3.heap.objs.size:=by rw[←hs3];show _<(s2.heap.push _).objs.size;rw[nA];exact oY _
 have lt3:∀b∈fp,b<s3.heap.objs.size:=fun b hb=>sJ (lt2 b hb) sz3;have f3:∀b∈fp,ix X pins (upd H1 s2.heap.objs.size (.lst [])) b:=fun b hb=>⟨by rw[aO (qC (lt2 b hb))];exact(f2 b hb).1,(f2 b hb).2⟩;have st3:tn 0 s3.heap:=T.keep _ _ _ st2 fun b _ o e=>up b o e;refine wpAny_newFunctionEnv S.nocell (by intro y hy;simp at hy) (fun h4 hn4 sb4=>?_) S.kind;have k4:∀b o,s3.heap.get? b=aa o->h4.get? b=aa o:=fun b o e=>(sb4.2 b (qC (qu e))).trans (qt _ e);have st4:tn 0 h4:=T.keep _ _ _ st3 fun b _ o e=>k4 b o e;have I4:=Sh I3 S f3 lt3 (C:=s3.heap.objs.size) rfl F.len F.at' hn4 k4 (t':=s3.toks+([]:ac (aj×Value)).length);generalize hX:i8 X N' scope (fO X.env scope.names []) s3.heap.objs.size s3 (upd H1 s2.heap.objs.size (.lst [])) fp=X' at I4;obtain⟨bg,bt,be⟩:=hb (fO X.env scope.names []) s3.heap.objs.size s3 (upd H1 s2.heap.objs.size (.lst [])) fp;rw[hX] at bg bt be;have hprog:X'.prog=X.prog:=by rw[←hX];rfl
 have hw:X'.w=X.w:=by rw[←hX];rfl
 have hK:X'.K=X.K:=by rw[←hX];rfl
 have hA:X'.A=X.A:=by rw[←hX];rfl
 have hcalm:X'.calm=al:=by rw[←hX];exact hc
 have hxe:X'.xe=fun _ _=>False:=by rw[←hX];rfl
 have henv:X'.env=GF scope (fO X.env scope.names []) s3.heap.objs.size X.env:=by rw[←hX];rfl
 have stat:∀{H':Hp},(∀b∈fp,H' b=ae)->∀b∈fp,ix X' [] H' b:=fun {H'} hn b hb=>by have f:=f3 b hb;have ok:=I4.ok;refine⟨hn b hb,(ok.exf b (by rw[←hX];exact hb)).1,ok.exfs b (by rw[←hX];exact hb),.inl (by rw[←hX];exact hb),fun x c e=>(ok.exf b (by rw[←hX];exact hb)).2 x c e,fun p hp=>?_⟩;rw[←hX] at hp;exact bB (show p∈([]:ac (av×Obj)) from hp) (by simp)
 obtain⟨W,⟨m0,w0⟩,turn⟩:=q s2.heap.objs.size hacc;have loop:∀s5:aH,s5={s3 with heap:=h4,toks:=s3.toks+([]:ac (aj×Value)).length} ->
   gW .(k) X.A (.compLoop .(z) 0 (.ref it) (.ref s2.heap.objs.size) (GF scope (fO X.env scope.names []) s3.heap.objs.size X.env))
    (RR (.ref s2.heap.objs.size) s3.heap.objs.size) s5:=by
  intro s5 hs5;refine Sw (fun n s'=>∃i ys σ' H',Inv X' [] σ' H' s'/\tn i s'.heap/\(∀b∈fp,H' b=ae)/\W i n ys σ' H') ?_ m0 ⟨0,[],iZ fv σ,_,hs5▸I4,hs5▸st4,fun b hb=>(f3 b hb).1,w0⟩;rintro n s6 ⟨i,ys,σ6,H6,I6,st6,fr6,w6⟩;obtain⟨ha6,turn6⟩:=turn i n ys σ6 H6 w6;rw[←henv];rcases turn6 with⟨stop,qn⟩|⟨go,step⟩
  .have d:=T.done X' hprog hw hK hcalm i [] s6 σ6 H6 (fun _ _=>False) I6 (stat fr6) st6 stop;rw[hA] at d;refine thn d fun r s7 ⟨hr,I7⟩=>?_;subst hr;obtain⟨m7,hn7,_⟩:=I7.loc;have hl:X'.env.locals=s3.heap.objs.size:=by rw[henv];rfl
   refine hRR _ _ H6 s7 m7 (hl▸hn7) (fun h' hs'=>?_) ?_ qn
   .rw[←hX] at I7;exact Mt I3 f3 (qv _) I7 hs'
   .exact I3.fpOk (qv _) (by have:=I7.free;rw[hl] at this;exact this)
  .have d:=T.item X' hprog hw hK hcalm i [] s6 σ6 H6 (fun _ _=>False) I6 (stat fr6) st6 go;rw[hA] at d;refine thn d fun r s7 ⟨u,hr,h7⟩=>?_;subst hr;refine thn h7 fun _ s8 ⟨x,H8,I8,r8,y8,st8,fr8⟩=>?_;have I8':=I8.pinned (stat fr8) (T.obj _ _ st8);have dg:=bg _ s8 σ6 H8 x u _ I8' r8 (step x H8 y8);rw[hprog,hw,hA,hxe] at dg;refine thn dg fun _ s9 ⟨σ9,H9,I9,q9⟩=>?_;have dt:=bt _ s9 σ9 H9 _ I9 q9;rw[hprog,hw,hA,hxe] at dt;refine thn dt fun b s10 ⟨H10,I10,q10⟩=>?_;have again:∀{σ7:St} {H7:Hp} {s7:aH} {ys':ac V},Inv X' ([]++rQ fp s8.heap) σ7 H7 s7->(∃m',m'<n/\W (i+1) m' ys' σ7 H7)->∃m,m<n/\∃i ys σ' H',Inv X' [] σ' H' s7/\tn i s7.heap/\(∀b∈fp,H' b=ae)/\W i m ys σ' H':=fun {σ7 H7 s7 ys'} I7 n7=>by obtain⟨m',hm,w7⟩:=n7;refine⟨m',hm,i+1,ys',σ7,H7,I7.unpinned,T.keep _ _ _ st8 fun b hb o e=>(I7.pin (b,o) (qQ _ (qQ _ (t7 hb e)))).1,fun b hb=>?_,w7⟩;obtain⟨o,e,_⟩:=T.obj _ _ st8 b hb;exact(I7.pin (b,o) (qQ _ (qQ _ (t7 hb e)))).2.1
   cases b with
   |false=>
    rw[qZ qr] at q10 ⊢;exact again I10 q10
   |true=>
    rw[qY rfl] at q10 ⊢;have de:=be _ s10 σ9 H10 _ I10 q10;rw[hprog,hw,hA,hxe] at de;refine thn de fun v s11 ⟨y,H11,I11,r11,ha11,hz11,n11⟩=>?_;have da:=sU _ s11 σ9 H11 (.ref s2.heap.objs.size) [y] (.ref s2.heap.objs.size) [v] (fun _ H'=>H'=upd H11 s2.heap.objs.size (.lst (ys++[y]))) I11 rfl (.cons r11 .nil) ⟨_,ys,y,rfl,rfl,ha11,hz11,rfl⟩;rw[hprog,hw,hA,hxe] at da;refine thn da fun _ s12 ⟨_,H12,I12,_,e12⟩=>?_;subst e12;exact again I12 n11
 exact codeAny_compStart_list (loop _ rfl) (T.self _ 0 _ _ _ st4 (loop _ rfl))
theorem NV (hc:X.calm=al) (S:CompScope X scope) (F:FvOk X N' scope fv) (hi:PI X tg iter wi) (hb:PB X N' scope tg ifs elt g tc te) (hs:∀x,lZ iter X.env x=bq x:=by intro _;rfl) :
  PE X .(z) (tLC wi g tc te fv):=by
 intro pins s σ H Q I h;rw[eval_ListComp];refine Tu (use:=ae) rfl hs (Fx I S) S.kind S.names (thn (hi pins s σ H _ I h) fun x s1 h1=>thn h1 fun itv s2 h2=>?_);obtain⟨it,fp,tn,J,H1,e,I2,T,st2,f2,q⟩:=h2;subst e;refine ES (RR:=fun acc C=>compPost .(k) X.A X.xe ae (EP X pins σ Q) acc C) hc S F hb I2 T st2 f2 q ?_;intro a C H' s' m hn hI hCL hq;exact⟨m,hn,fun h' hs'=>⟨.ref a,H',hI h' hs',rfl,hq⟩⟩
theorem we (hN:X.N.Nodup) (hy:X.N[i]?=aa y) (hyl:X.env.scope.names.lookup y=aa .local) (hc:X.calm=al) (S:CompScope X scope) (F:FvOk X N' scope fv) (hi:PI X tg iter wi) (hb:PB X N' scope tg ifs elt g tc te)
  (hsw:e8 .(z) (aa (.Name y py)) spos.line X.env=bq al)
  (hs:∀x,lZ iter X.env x=bq x:=by intro _;rfl) :
  PS X (.Assign [.Name y py] .(z) spos) (lx (tLC wi g tc te fv) (lH i)):=by
 intro pins s σ H D I h;rw[exec_Assign_Name_used _ _ _ _ hsw];refine qx (sy (qx ?_));show aG _ _ (do let _ ←comprehension .(z) scope X.env _ (newList []) aq (eval iter X.env) (aa (iU (.Name y py) X.env))) _ _ s;refine qx (e7 (Tu (use:=aa (iU (.Name y py) X.env)) (Q:=fun _ s'=>SP X pins D .next s') rfl hs (Fx I S) S.kind S.names
  (thn (hi pins s σ H _ I h) fun x s1 h1=>thn h1 fun itv s2 h2=>?_)) (fun _ s' hq=>qA (qA hq)) fun _ _ e=>e)
 obtain⟨it,fp,tn,J,H1,e,I2,T,st2,f2,q⟩:=h2;subst e;refine ES (RR:=fun acc C=>compPost .(k) X.A X.xe (aa (iU (.Name y py) X.env)) (fun _ s'=>SP X pins D .next s') acc C) hc S F hb I2 T st2 f2 q ?_;intro a C H' s' m hn hI hCL hq;show aG _ _ (iU (.Name y py) X.env (.ref a)) _ _ _;have I':Inv X pins σ H' s':=hI s'.heap (GG _ _);refine SM ?_;refine Bs (v:=.ref a) I' hN hy (.inl hyl) rfl (fun s'' I'' hch=>?_) (.inr hyl);obtain⟨ad,hsb,had⟩:=hch;obtain⟨f0,f1,f2',f3,f4,f5⟩:=hCL;have hne:C≠ad:=by
  rcases had with z|z
  .rw[z];exact f1
  .exact fun e=>f4 y ad z e.symm
 refine⟨m,hn.sameBut hsb hne,fun h' hs'=>?_⟩;exact⟨_,H',I''.turned (t':=s''.toks) (fun b o hb e=>(hs'.2 b hb).trans e) f0 f1 f3 f4 f5,hq⟩
end
noncomputable def Its (x:aj):It:=⟨fun i _=>i<x.cps.size,fun i H v H'=>H'=H/\∃c,x.cps[i]?=aa c/\v=.str ⟨#[c]⟩,fun i _=>i=x.cps.size⟩
theorem Lq {M:kZ} {n:aj} {it:Value} {Q:jk->aH->Prop} (hQ:Q () s):aG M A (vg (.Name n p) it u) Q E s:=qA hQ
theorem CQ {n:aj} {ty:cM} (it:av) (x:aj) (t:Tok)
  (W:∀A:eU,A.handled=ae->Walks P w A it [it] [it] x.cps.size (SignAt x) (fun i h=>h.IsStrIter it ty x t i))
  (sf:∀(A:eU) (i:ah) (s:aH) (Q:Value->aH->Prop) (E:Value->aH->Prop),s.heap.IsStrIter it ty x t i->Q (.ref it) s->aG (aI P w) A (vh (.ref it)) Q E s):Turn P w K (.Name n p) (Its x) [it] it (fun i h=>h.IsStrIter it ty x t i) where
 mem:=by simp
 obj:=fun i h st b hb=>by
  have e:b=it:=by simpa using hb
  subst e;obtain⟨o,e,c,d⟩:=st;exact⟨o,e,fun v z=>by rw[d] at z;cases z⟩
 keep:=fun i h h' st k=>by obtain⟨o,e,r⟩:=st;exact⟨o,k it (by simp) o e,r⟩
 item:=by intro X hP hw hK hc i pins s σ H E I hf st hg;subst hP hw hK;obtain⟨f0,f1,f2,f3,f4,f5⟩:=hf it (by simp);refine(W X.A (I.ok.hd hc)).item i s _ _ hg st fun v h' tk hv st' kk=>?_;obtain⟨c,u,hcc,rfl⟩:=hv;have I1:Inv X pins σ H {s with heap:=h',toks:=tk}:=I.turned (fun b o hb e=>kk b o (by simpa using hb) e) f0 f1 f3 f4 f5;exact⟨_,rfl,Lq ⟨.str ⟨#[c]⟩,H,I1,⟨_,rfl⟩,⟨rfl,c,hcc,rfl⟩,st',fun b hb=>(hf b hb).1⟩⟩
 done:=by intro X hP hw hK hc i pins s σ H E I hf st hg;subst hP hw hK;obtain⟨f0,f1,f2,f3,f4,f5⟩:=hf it (by simp);have hi:i=x.cps.size:=hg;subst hi;exact(W X.A (I.ok.hd hc)).done s _ _ st fun h' tk kk=>⟨rfl,I.turned (fun b o hb e=>kk b o (by simpa using hb) e) f0 f1 f3 f4 f5⟩
 self:=sf
def Kc (te:TE):TI:=fun σ H R=>te σ H fun v H1=>∃x,v=.str x/\R (Its x) H1
theorem Qe {n:aj} (he:PE X e te):PI X (.Name n p) e (Kc te):=by
 intro pins s σ H R I h;refine thn (he pins s σ H _ I h) fun v s1 ⟨y,H1,I1,r1,q1⟩=>?_;obtain⟨x,e,q⟩:=q1;subst e;obtain⟨t,rfl⟩:=r1;have fin:∀(ty:cM) (o:Obj),(s1.heap.push o).IsStrIter s1.heap.objs.size ty x t 0->Turn X.prog X.w X.K (.Name n p) (Its x) [s1.heap.objs.size] s1.heap.objs.size (fun i h=>h.IsStrIter s1.heap.objs.size ty x t i)->
   PIE X pins σ (.Name n p) R (.ref s1.heap.objs.size) {s1 with heap:=s1.heap.push o}:=fun ty o st T=>by
  refine⟨s1.heap.objs.size,[s1.heap.objs.size],_,_,H1,rfl,I1.kept (t':=s1.toks) fun b o e=>qt _ e,T,st,fun b hb=>?_,q⟩;have e:b=s1.heap.objs.size:=by simpa using hb
  subst e;exact I1.fpOk (qv _) (I1.hok.fresh (qv _))
 cases ha:x.cps.all (· < 128)
 .exact wpAny_pyIter_wide ha (fin _ _ ⟨_,qG _ rfl,rfl,rfl⟩ (CQ _ x t (fun A' hA=>Walks.strWide hA _ x t) fun _ _ _ _ _ st h=>wpAny_pyIter_striter_wide st h))
 .exact wpAny_pyIter_ascii ha (fin _ _ ⟨_,qG _ rfl,rfl,rfl⟩ (CQ _ x t (fun A' hA=>Walks.strAscii hA _ x t) fun _ _ _ _ _ st h=>wpAny_pyIter_striter_ascii st h))
def Ite (K:aV) (a:av):It:=
 ⟨fun i H=>∃xs x,SqL K H a xs/\xs[i]?=aa x,fun i H v H'=>∃T x,v=.ref T/\H T=ae/\H'=upd H T (.tup [.int i,x])/\∀xs,SqL K H a xs->xs[i]?=aa x,fun i H=>∃xs,SqL K H a xs/\xs.length<=i⟩
variable {elts:ac Expr}
theorem L7 {k1:ah} (e it a:av) (hei:e≠it) :
  Turn P w K (.Tuple elts k1 pos) (Ite K a) [e,it] e (fun i h=>(∃old,IsEnum h e it i old)/\h.IsListIter it a i) where
 mem:=by simp
 obj:=fun i h st b hb=>by
  obtain⟨⟨old,he⟩,o,ho,c,d⟩:=st;rcases cy.mp hb with z|z
  .subst z;exact⟨_,he,fun v z=>by cases z⟩
  .have z':b=it:=by simpa using z
   subst z';exact⟨o,ho,fun v z=>by rw[d] at z;cases z⟩
 keep:=fun i h h' st k=>by obtain⟨⟨old,he⟩,hi⟩:=st;exact⟨⟨old,k e (by simp) _ he⟩,hi.at fun o x=>k it (by simp) o x⟩
 item:=by
  intro X hP hw hK hc i pins s σ H E I hf st hg;subst hP hw hK;obtain⟨xs,x,hq,hx⟩:=hg;obtain⟨its,rv,p,hz⟩:=I.list hq;obtain⟨u,hu,ru⟩:=rv.get hx;obtain⟨⟨old,he⟩,hit⟩:=st;obtain⟨e0,e1,e2,e3,e4,e5⟩:=hf e (by simp);obtain⟨f0,f1,f2,f3,f4,f5⟩:=hf it (by simp);have helt:e<s.heap.objs.size:=qu he;have hilt:it<s.heap.objs.size:=by obtain⟨_,x,_⟩:=hit;exact qu x
  refine wpAny_pyNext_enum_item he hit p.isList (x:=u) (by simpa using hu) hei fun h' ho hit' hT hsz hk=>?_;refine⟨_,rfl,wpAny_letOwnedTupleGo_enum ho fun h2 he2 hs2=>?_⟩;have hs2':jp e h' h2:=hs2;have kk:∀b o,b≠e->b≠it->s.heap.get? b=aa o->h2.get? b=aa o:=fun b o h1 h3 q=>(hs2'.2 b h1).trans (hk b o h1 h3 q);have hT2:h2.get? s.heap.objs.size=aa {cls:=.type "tuple",data:=.seq #[.int i s.toks,u]}:=(hs2'.2 _ (zy helt)).trans hT;have nH:H s.heap.objs.size=ae:=I.fresh;have I1:Inv X pins σ (upd H s.heap.objs.size (.tup [.int i,x])) {s with heap:=h2,toks:=s.toks+1}:=by
   have ne:∀b o,H b=aa o->b≠e/\b≠it:=fun b o q=>⟨fun z=>(by rw[z,e0] at q;cases q),fun z=>(by rw[z,f0] at q;cases q)⟩;refine I.step (g':=s.gens) (d':=s.drawn) (ch:=[e,it]) (fun b hb=>?_) (fun b o _ _ hc q _=>kk b o (fun z=>hc (by simp[z])) (fun z=>hc (by simp[z])) q) (fun b o _ _ hc q _=>⟨o.slots,kk b o (fun z=>hc (by simp[z])) (fun z=>hc (by simp[z])) q⟩) (fun b o _ q n=>?_)
    (fun b o hc q=>⟨o,kk b o (fun z=>hc (by simp[z])) (fun z=>hc (by simp[z])) q⟩) (fun b ys q=>?_) (fun b o y q=>?_) (fun b ps q=>⟨#[],?_⟩) (fun m hm=>?_) (fun b v q=>?_) I.bare
   .rcases cy.mp hb with z|z
    .subst z;exact⟨e3,e1,e4,e5⟩
    .have z':b=it:=by simpa using z
     subst z';exact⟨f3,f1,f4,f5⟩
   .rw[aO (qC (qu q))];exact n
   .rw[aO (ce q nH)];exact q
   .rw[aO (ce q nH)];exact q
   .rw[aO (ce q nH),q];simp
   .obtain⟨o,es,ep,q,r⟩:=hm;exact⟨o,es,ep,kk _ o (eh e1) (eh f1) q,r⟩
   .by_cases hb:b=s.heap.objs.size
    .subst hb;rw[bK] at q;cases q;exact⟨by show 2<=aL;decide,[.int i s.toks,u],.cons ⟨_,rfl⟩ (.cons ru .nil),⟨_,hT2,rfl,_,rfl⟩⟩
    .rw[aO hb] at q;refine(I.hok b v q).stay (fun c v hc r=>?_) (fun c r=>by rw[aO (ce r nH)];exact r) fun c ys r=>by rw[aO (ce r nH)];exact r
     rcases hc with z|z
     .rw[z] at r ⊢;exact kk b v (ne b _ q).1 (ne b _ q).2 r
     .exact kk c v (ne c _ z).1 (ne c _ z).2 r
  refine⟨.ref s.heap.objs.size,_,I1,rfl,⟨_,x,rfl,nH,rfl,fun ys hy=>by rw[I.list_inj hy hq];exact hx⟩,⟨⟨_,by simpa using he2⟩,hit'.at fun o y=>(hs2'.2 it hei.symm).trans y⟩,fun b hb=>?_⟩;rcases cy.mp hb with z|z
  .subst z;rw[aO (qC helt)];exact e0
  .have z':b=it:=by simpa using z
   subst z';rw[aO (qC hilt)];exact f0
 done:=by intro X hP hw hK hc i pins s σ H E I hf st hg;subst hP hw hK;obtain⟨xs,hq,hx⟩:=hg;obtain⟨its,rv,p,hz⟩:=I.list hq;obtain⟨⟨old,he⟩,hit⟩:=st;obtain⟨f0,f1,f2,f3,f4,f5⟩:=hf it (by simp);have hl:=rv.length;exact wpAny_pyNext_enum_end (I.ok.hd hc) he hit p.isList (by simp;omega) fun h' eb=>⟨rfl,I.turned (t':=s.toks) (fun b o hb e=>eb b o hb e) f0 f1 f3 f4 f5⟩
 self:=fun A i s Q E st h=>by obtain⟨⟨old,he⟩,_⟩:=st;exact Tv he h
def OG (K:aV) (ta:TA):TI:=fun σ H R=>ta σ H fun vs H1=>∃a,vs=[.ref a]/\(∃xs,SqL K H1 a xs)/\R (Ite K a) H1
theorem MR {a:Expr} {ta:TA} {k1:ah} (hg:Gl X "enumerate") (hm:X.mg "enumerate"=ae) (ha:PA X [a] ta) (hs:bc [a] X.env=[(aq,eval a X.env)]:=by rfl) :
  PI X (.Tuple elts k1 tpos) (.Call (.Name "enumerate" p) [a] [] pos) (OG X.K ta):=by
 intro pins s σ H R I h;refine Call_ (oB I hg hm Vq (zz (thn (ha pos pins s σ H _ I h) fun us s1 ⟨vs,H1,I1,r1,q1⟩=>?_) hs rfl));obtain⟨l,e,⟨xs,hq⟩,q⟩:=q1;subst e;obtain⟨u,rfl,r2⟩:=gN r1;cases r2;obtain⟨its,rv,pl,hz⟩:=I1.list hq;refine call_enumerate_list pl.isList fun h' he hit hsz hk=>?_;have I2:Inv X pins σ H1 {s1 with heap:=h'}:=I1.kept (t':=s1.toks) hk;refine Tv he ?_;refine⟨s1.heap.objs.size+1,[s1.heap.objs.size+1,s1.heap.objs.size],_,_,H1,rfl,I2,L7 _ _ l (Nat.succ_ne_self _),⟨⟨_,he⟩,hit⟩,fun b hb=>?_,q⟩;rcases cy.mp hb with z|z
 .subst z;exact I1.fpOk (sF _) (I1.hok.fresh (sF _))
 .have z':b=s1.heap.objs.size:=by simpa using z
  subst z';exact I1.fpOk (qv _) (I1.hok.fresh (qv _))
inductive D where
 |non|bl (b:ba)|int (i:ag)|str (x:aj)|tup (l:ac D)|lst (l:ac D)|scr (ns:ac ag)
 |dk (l:ac (Key×D))|dt (l:ac (ac Key×D))|ins (c:aj) (fs:ac (aj×D))|ty (n:cM)
structure Cn where
 cls:aj->ar av
 self:ar av:=ae
mutual
inductive Rep (Γ:Cn) (K:aV) (G:Hp):V->D->Prop where
 |non:Rep Γ K G .non .non
 |bl (b:ba):Rep Γ K G (.bl b) (.bl b)
 |int (i:ag):Rep Γ K G (.int i) (.int i)
 |str (x:aj):Rep Γ K G (.str x) (.str x)
 |ty (n:cM):Rep Γ K G (.ty n) (.ty n)
 |tup {a:av} {vs:ac V} {ds:ac D}:G a=aa (.tup vs)->Reps Γ K G vs ds->Rep Γ K G (.ref a) (.tup ds)
 |lst {a:av} {vs:ac V} {ds:ac D}:G a=aa (.lst vs)->Reps Γ K G vs ds->Rep Γ K G (.ref a) (.lst ds)
 |scr {a:av} {ns:ac ag}:SqL K G a (ns.map V.int)->Rep Γ K G (.ref a) (.scr ns)
 |dk {a:av} {us:ac (Key×V)} {kvs:ac (Key×D)}:G a=aa (.dK us)->us.map (·.1)=kvs.map (·.1)->Reps Γ K G (us.map (·.2)) (kvs.map (·.2))->Rep Γ K G (.ref a) (.dk kvs)
 |dt {a:av} {us:ac (ac Key×V)} {kvs:ac (ac Key×D)}:G a=aa (.dT us)->us.map (·.1)=kvs.map (·.1)->Reps Γ K G (us.map (·.2)) (kvs.map (·.2))->Rep Γ K G (.ref a) (.dt kvs)
 |ins {a C dx:av} {c:aj} {us:ac (aj×V)} {fs:ac (aj×D)}:G a=aa (.ins C dx us)->Γ.cls c=aa C->us.map (·.1)=fs.map (·.1)->Reps Γ K G (us.map (·.2)) (fs.map (·.2))->Rep Γ K G (.ref a) (.ins c fs)
inductive Reps (Γ:Cn) (K:aV) (G:Hp):ac V->ac D->Prop where
 |nil:Reps Γ K G [] []
 |cons {v:V} {d:D} {vs:ac V} {ds:ac D}:Rep Γ K G v d->Reps Γ K G vs ds->Reps Γ K G (v::vs) (d::ds)
end
variable {Γ:Cn} {G G' G1:Hp}
section
variable {G2:Hp}
mutual
theorem Rep.mono:∀{v:V} {d:D},Rep Γ K G v d->bo G G'->Rep Γ K G' v d
 |_,_,.non,_=>.non
 |_,_,.bl b,_=>.bl b
 |_,_,.int i,_=>.int i
 |_,_,.str x,_=>.str x
 |_,_,.ty x,_=>.ty x
 |_,_,.tup h r,s=>.tup (s _ _ h) (r.mono s)
 |_,_,.lst h r,s=>.lst (s _ _ h) (r.mono s)
 |_,_,.scr h,s=>.scr (s.seq h)
 |_,_,.dk h e r,s=>.dk (s _ _ h) e (r.mono s)
 |_,_,.dt h e r,s=>.dt (s _ _ h) e (r.mono s)
 |_,_,.ins h c e r,s=>.ins (s _ _ h) c e (r.mono s)
theorem Reps.mono:∀{vs:ac V} {ds:ac D},Reps Γ K G vs ds->bo G G'->Reps Γ K G' vs ds
 |_,_,.nil,_=>.nil
 |_,_,.cons h r,s=>.cons (h.mono s) (r.mono s)
end
mutual
theorem Rep.re {Γ':Cn} (hc:Γ'.cls=Γ.cls):∀{v:V} {d:D},Rep Γ K G v d->Rep Γ' K G v d
 |_,_,.non=>.non
 |_,_,.bl b=>.bl b
 |_,_,.int i=>.int i
 |_,_,.str x=>.str x
 |_,_,.ty x=>.ty x
 |_,_,.tup h r=>.tup h (r.re hc)
 |_,_,.lst h r=>.lst h (r.re hc)
 |_,_,.scr h=>.scr h
 |_,_,.dk h e r=>.dk h e (r.re hc)
 |_,_,.dt h e r=>.dt h e (r.re hc)
 |_,_,.ins h c e r=>.ins h (by rw[hc];exact c) e (r.re hc)
theorem Reps.re {Γ':Cn} (hc:Γ'.cls=Γ.cls):∀{vs:ac V} {ds:ac D},Reps Γ K G vs ds->Reps Γ' K G vs ds
 |_,_,.nil=>.nil
 |_,_,.cons h r=>.cons (h.re hc) (r.re hc)
end
theorem Reps.length:∀{vs:ac V} {ds:ac D},Reps Γ K G vs ds->vs.length=ds.length
 |_,_,.nil=>rfl
 |_,_,.cons _ r=>by rw[qh,qh,r.length]
theorem Reps.get:∀{vs:ac V} {ds:ac D} {i:ah} {d:D},Reps Γ K G vs ds->ds[i]?=aa d->∃v,vs[i]?=aa v/\Rep Γ K G v d
 |_,_,_,_,.nil,e=>by simp at e
 |_,_,0,_,.cons r _,e=>by simp at e;subst e;exact⟨_,rfl,r⟩
 |_,_,i+1,d,.cons _ t,e=>by obtain⟨u,h1,h2⟩:=Reps.get (i:=i) (d:=d) t (by simpa using e);exact⟨u,by simpa using h1,h2⟩
theorem Reps.append:∀{vs ws:ac V} {ds es:ac D},Reps Γ K G vs ds->Reps Γ K G ws es->Reps Γ K G (vs++ws) (ds++es)
 |_,_,_,_,.nil,s=>s
 |_,_,_,_,.cons r t,s=>.cons r (t.append s)
theorem Reps.take:∀{vs:ac V} {ds:ac D} (n:ah),Reps Γ K G vs ds->Reps Γ K G (vs.take n) (ds.take n)
 |_,_,0,_=>.nil
 |_,_,_+1,.nil=>.nil
 |_,_,n+1,.cons r t=>.cons r (t.take n)
theorem Reps.drop:∀{vs:ac V} {ds:ac D} (n:ah),Reps Γ K G vs ds->Reps Γ K G (vs.drop n) (ds.drop n)
 |_,_,0,r=>r
 |_,_,_+1,.nil=>.nil
 |_,_,n+1,.cons _ t=>t.drop n
theorem Reps.ints:∀(ns:ac ag),Reps Γ K G (ns.map V.int) (ns.map D.int)
 |[]=>.nil
 |n::r=>.cons (.int n) (Reps.ints r)
theorem Reps.rep {vs:ac V} {ds:ac D} (h:Reps Γ K G vs ds):∀k:ah,Reps Γ K G (bS k vs).flatten (bS k ds).flatten
 |0=>.nil
 |k+1=>by rw[md,md,nI,nI];exact h.append (Reps.rep h k)
structure Step (G H G' H':Hp):Prop where
 hh:bo H H'
 gg:bo G G'
 gh:bo G' H'
 out:∀a o,H a=aa o->G' a=G a
theorem Step.refl (gh:bo G H):Step G H G H:=⟨.refl _,.refl _,gh,fun _ _ _=>rfl⟩
theorem Step.trans (a:Step G H G1 H1) (b:Step G1 H1 G2 H2):Step G H G2 H2:=
 ⟨a.hh.trans b.hh,a.gg.trans b.gg,b.gh,fun c o e=>(b.out c o (a.hh c o e)).trans (a.out c o e)⟩
theorem Step.new {p:av} {o:HO} (gh:bo G H) (hp:H p=ae):Step G H (upd G p o) (upd H p o):=by
 have gp:G p=ae:=gh.free hp;refine⟨fun b u e=>?_,fun b u e=>?_,fun b u e=>?_,fun b u e=>?_⟩
 .rw[aO (ce e hp)];exact e
 .rw[aO (ce e gp)];exact e
 .by_cases hb:b=p
  .subst hb;rw[bK] at e ⊢;exact e
  .rw[aO hb] at e ⊢;exact gh b u e
 .rw[aO (ce e hp)]
theorem Step.newOwn {p:av} {o:HO} (gh:bo G H) (hp:H p=ae):Step G H G (upd H p o):=by
 refine⟨fun b u e=>?_,.refl _,fun b u e=>?_,fun _ _ _=>rfl⟩
 .rw[aO (ce e hp)];exact e
 .rw[aO (ce (gh b u e) hp)];exact gh b u e
end
noncomputable def yk:D->ba
 |.non=>al
 |.bl _=>al
 |.int _=>al
 |.str _=>al
 |_=>aq
mutual
inductive NewL (H G:Hp):V->D->Prop where
 |flat {v:V} {d:D}:yk d=al->NewL H G v d
 |tup {a:av} {vs:ac V} {ds:ac D}:G a=aa (.tup vs)->NewLs H G vs ds->NewL H G (.ref a) (.tup ds)
 |lst {a:av} {vs:ac V} {ds:ac D}:G a=aa (.lst vs)->H a=ae->NewLs H G vs ds->NewL H G (.ref a) (.lst ds)
inductive NewLs (H G:Hp):ac V->ac D->Prop where
 |nil:NewLs H G [] []
 |cons {v:V} {d:D} {vs:ac V} {ds:ac D}:NewL H G v d->NewLs H G vs ds->NewLs H G (v::vs) (d::ds)
end
mutual
theorem NewL.mono:∀{v:V} {d:D},NewL H G v d->bo G G'->bo H' H->NewL H' G' v d
 |_,_,.flat h,_,_=>.flat h
 |_,_,.tup h r,s,t=>.tup (s _ _ h) (r.mono s t)
 |_,_,.lst h n r,s,t=>.lst (s _ _ h) (t.free n) (r.mono s t)
theorem NewLs.mono:∀{vs:ac V} {ds:ac D},NewLs H G vs ds->bo G G'->bo H' H->NewLs H' G' vs ds
 |_,_,.nil,_,_=>.nil
 |_,_,.cons h r,s,t=>.cons (h.mono s t) (r.mono s t)
end
inductive Slot where
 |sh (d:D)
 |own (ds:ac D)
 |obj (c:aj) (fs:ac (aj×D))
 |objd (c:aj) (fs:ac (aj×D)) (n:aj) (kvs:ac (Key×D))
 |odk (kvs:ac (Key×D))
 |odt (kvs:ac (ac Key×D))
 |oll (dss:ac (ac D))
 |odl (ks:ac aj) (dss:ac (ac D))
noncomputable abbrev aX:=ac (ar Slot)
def eZ (H:Hp):ac av->ac (ac V)->Prop
 |[],[]=>True
 |p::ps,vs::vss=>H p=aa (.lst vs)/\eZ H ps vss
 |_,_=>False
def eR (Γ:Cn) (K:aV) (G:Hp):ac (ac V)->ac (ac D)->Prop
 |[],[]=>True
 |vs::vss,ds::dss=>Reps Γ K G vs ds/\eR Γ K G vss dss
 |_,_=>False
theorem eZ.mem {H:Hp}:∀{ps:ac av} {vss:ac (ac V)},eZ H ps vss->∀b∈ps,∃o,H b=aa o
 |[],_,_,b,hb=>by cases hb
 |p::ps,[],h,b,hb=>h.elim
 |p::ps,vs::vss,h,b,hb=>by
  rcases cy.mp hb with rfl|hb
  .exact⟨_,h.1⟩
  .exact h.2.mem b hb
theorem eZ.stay {H H':Hp}:∀{ps:ac av} {vss:ac (ac V)},eZ H ps vss->(∀b∈ps,H' b=H b)->eZ H' ps vss
 |[],[],_,_=>trivial
 |[],_::_,h,_=>h.elim
 |p::ps,[],h,_=>h.elim
 |p::ps,vs::vss,h,e=>⟨(e p qf).trans h.1,h.2.stay fun b hb=>e b (qg _ hb)⟩
theorem eR.map {Γ:Cn} {K:aV} {G G':Hp} (f:∀{vs:ac V} {ds:ac D},Reps Γ K G vs ds->Reps Γ K G' vs ds):∀{vss:ac (ac V)} {dss:ac (ac D)},eR Γ K G vss dss->eR Γ K G' vss dss
 |[],[],_=>trivial
 |[],_::_,h=>h.elim
 |_::_,[],h=>h.elim
 |_::_,_::_,h=>⟨f h.1,h.2.map f⟩
noncomputable def gK (ks:ac aj) (ps:ac av):ac (Key×V):=(ks.map cL).zip (ps.map V.ref)
theorem BM:∀{ks:ac aj} {ps qs:ac av},ks.length=ps.length->ks.length=qs.length->gK ks ps=gK ks qs->ps=qs
 |[],[],[],_,_,_=>rfl
 |[],_::_,_,h,_,_=>by simp at h
 |[],_,_::_,_,h,_=>by simp at h
 |_::_,[],_,h,_,_=>by simp at h
 |_::_,_,[],_,h,_=>by simp at h
 |k::ks,p::ps,q::qs,h1,h2,h=>by have h3:=ju h;rw[V.ref.inj (GH h3.1).2,BM (ks:=ks) (by simpa using h1) (by simpa using h2) h3.2]
theorem Ee:∀{ps qs:ac av},ps.map V.ref=qs.map V.ref->ps=qs
 |[],[],_=>rfl
 |[],_::_,h=>by cases h
 |_::_,[],h=>by cases h
 |p::ps,q::qs,h=>by have h1:=ju h;rw[V.ref.inj h1.1,Ee h1.2]
inductive SR (Γ:Cn) (K:aV) (H₀ G H:Hp):Slot->V->ac av->Prop where
 |sh {d:D} {v:V}:Rep Γ K G v d->SR Γ K H₀ G H (.sh d) v []
 |own {a:av} {vs:ac V} {ds:ac D}:H₀ a=ae->G a=ae->H a=aa (.lst vs)->Reps Γ K G vs ds->SR Γ K H₀ G H (.own ds) (.ref a) [a]
 |obj {c:aj} {a C dx:av} {vs:ac (aj×V)} {fs:ac (aj×D)}:Γ.cls c=aa C->H₀ a=ae->G a=ae->H a=aa (.ins C dx vs)->vs.map (·.1)=fs.map (·.1)->Reps Γ K G (vs.map (·.2)) (fs.map (·.2))->Γ.self=aa a->SR Γ K H₀ G H (.obj c fs) (.ref a) [a]
 |objd {c n:aj} {a C dx p:av} {vs:ac (aj×V)} {fs:ac (aj×D)} {us:ac (Key×V)} {kvs:ac (Key×D)}:Γ.cls c=aa C->H₀ a=ae->G a=ae->H a=aa (.ins C dx (vs++[(n,.ref p)]))->vs.map (·.1)=fs.map (·.1)->Reps Γ K G (vs.map (·.2)) (fs.map (·.2))->
   H₀ p=ae->G p=ae->H p=aa (.dK us)->us.map (·.1)=kvs.map (·.1)->Reps Γ K G (us.map (·.2)) (kvs.map (·.2))->Γ.self=aa a->SR Γ K H₀ G H (.objd c fs n kvs) (.ref a) [a,p]
 |odk {a:av} {us:ac (Key×V)} {kvs:ac (Key×D)}:H₀ a=ae->G a=ae->H a=aa (.dK us)->us.map (·.1)=kvs.map (·.1)->Reps Γ K G (us.map (·.2)) (kvs.map (·.2))->SR Γ K H₀ G H (.odk kvs) (.ref a) [a]
 |odt {a:av} {us:ac (ac Key×V)} {kvs:ac (ac Key×D)}:H₀ a=ae->G a=ae->H a=aa (.dT us)->us.map (·.1)=kvs.map (·.1)->Reps Γ K G (us.map (·.2)) (kvs.map (·.2))->SR Γ K H₀ G H (.odt kvs) (.ref a) [a]
 |oll {a:av} {ps:ac av} {vss:ac (ac V)} {dss:ac (ac D)}:(∀b∈a::ps,H₀ b=ae/\G b=ae)->(a::ps).Nodup->H a=aa (.lst (ps.map V.ref))->eZ H ps vss->eR Γ K G vss dss->SR Γ K H₀ G H (.oll dss) (.ref a) (a::ps)
 |odl {a:av} {ps:ac av} {ks:ac aj} {vss:ac (ac V)} {dss:ac (ac D)}:(∀b∈a::ps,H₀ b=ae/\G b=ae)->(a::ps).Nodup->H a=aa (.dK (gK ks ps))->ks.length=ps.length->eZ H ps vss->eR Γ K G vss dss->SR Γ K H₀ G H (.odl ks dss) (.ref a) (a::ps)
variable {H₀:Hp}
section
variable {s:Slot}
theorem SR.fpt (r:SR Γ K H₀ G H s v fp):∀b∈fp,H₀ b=ae/\G b=ae/\∃o,H b=aa o:=by
 cases r with
 |sh r=>intro b hb;cases hb
 |own h1 h2 h3 _=>intro b hb;rw[b8.mp hb];exact⟨h1,h2,_,h3⟩
 |obj _ h1 h2 h3 _ _ _=>intro b hb;rw[b8.mp hb];exact⟨h1,h2,_,h3⟩
 |objd _ h1 h2 h3 _ _ q1 q2 q3 _ _ _=>
  intro b hb;rcases cy.mp hb with rfl|hb
  .exact⟨h1,h2,_,h3⟩
  .rw[b8.mp hb];exact⟨q1,q2,_,q3⟩
 |odk h1 h2 h3 _ _=>intro b hb;rw[b8.mp hb];exact⟨h1,h2,_,h3⟩
 |odt h1 h2 h3 _ _=>intro b hb;rw[b8.mp hb];exact⟨h1,h2,_,h3⟩
 |oll h1 h2 h3 h4 _=>
  intro b hb;refine⟨(h1 b hb).1,(h1 b hb).2,?_⟩;rcases cy.mp hb with rfl|hb
  .exact⟨_,h3⟩
  .exact h4.mem b hb
 |odl h1 h2 h3 _ h4 _=>
  intro b hb;refine⟨(h1 b hb).1,(h1 b hb).2,?_⟩;rcases cy.mp hb with rfl|hb
  .exact⟨_,h3⟩
  .exact h4.mem b hb
theorem SR.stay (r:SR Γ K H₀ G H s v fp) (gg:bo G G') (hg:∀b∈fp,G' b=ae) (hh:∀b∈fp,H' b=H b):SR Γ K H₀ G' H' s v fp:=by
 cases r with
 |sh r=>exact .sh (r.mono gg)
 |own h1 h2 h3 h4=>exact .own h1 (hg _ (b8.mpr rfl)) ((hh _ (b8.mpr rfl)).trans h3) (h4.mono gg)
 |obj c h1 h2 h3 h4 h5 hs=>exact .obj c h1 (hg _ (b8.mpr rfl)) ((hh _ (b8.mpr rfl)).trans h3) h4 (h5.mono gg) hs
 |objd c h1 h2 h3 h4 h5 q1 q2 q3 q4 q5 hs=>
  exact .objd c h1 (hg _ qf) ((hh _ qf).trans h3) h4 (h5.mono gg) q1 (hg _ (qg _ qf)) ((hh _ (qg _ qf)).trans q3) q4 (q5.mono gg) hs
 |odk h1 h2 h3 h4 h5=>exact .odk h1 (hg _ (b8.mpr rfl)) ((hh _ (b8.mpr rfl)).trans h3) h4 (h5.mono gg)
 |odt h1 h2 h3 h4 h5=>exact .odt h1 (hg _ (b8.mpr rfl)) ((hh _ (b8.mpr rfl)).trans h3) h4 (h5.mono gg)
 |oll h1 h2 h3 h4 h5=>exact .oll (fun b hb=>⟨(h1 b hb).1,hg b hb⟩) h2 ((hh _ qf).trans h3) (h4.stay fun b hb=>hh b (qg _ hb)) (h5.map fun r=>r.mono gg)
 |odl h1 h2 h3 hl h4 h5=>exact .odl (fun b hb=>⟨(h1 b hb).1,hg b hb⟩) h2 ((hh _ qf).trans h3) hl (h4.stay fun b hb=>hh b (qg _ hb)) (h5.map fun r=>r.mono gg)
theorem SR.stepS (r:SR Γ K H₀ G H s v fp) (t:Step G H G' H'):SR Γ K H₀ G' H' s v fp:=r.stay t.gg (fun b hb=>by
 obtain⟨_,h2,o,h3⟩:=r.fpt b hb;exact(t.out b o h3).trans h2) (fun b hb=>by
 obtain⟨_,_,o,h3⟩:=r.fpt b hb;rw[h3];exact t.hh b o h3)
end
theorem SR.uniq {s:Slot} {fq:ac av} (r:SR Γ K H₀ G H s v fp) (q:SR Γ K H₀ G H s v fq):fp=fq:=by
 cases r with
 |sh r=>cases q;rfl
 |own h1 h2 h3 _=>cases q;rfl
 |obj _ h1 h2 h3 _ _ _=>cases q;rfl
 |objd _ h1 h2 h3 _ _ q1 q2 q3 _ _ _=>
  cases q with
  |objd _ _ _ k3 _ _ _ _ _ _ _ _=>
   rw[h3] at k3;have z:=(HO.ins.inj (qH k3)).2.2;have z2:=(List.append_inj' z rfl).2;cases z2;rfl
 |odk h1 h2 h3 _ _=>cases q;rfl
 |odt h1 h2 h3 _ _=>cases q;rfl
 |oll _ _ h3 _ _=>
  cases q with
  |oll _ _ k3 _ _=>
   rw[h3] at k3;rw[Ee (HO.lst.inj (qH k3))]
 |odl _ _ h3 hl _ _=>
  cases q with
  |odl _ _ k3 kl _ _=>
   rw[h3] at k3;rw[BM hl kl (HO.dK.inj (qH k3))]
structure EnvRel (Γ:Cn) (K:aV) (H₀ G H:Hp) (ρ:aX) (σ:St):Prop where
 len:ρ.length=σ.length
 sl:∃fps:ah->ac av,(∀(i:ah) s,ρ[i]?=aa (aa s)->∃v,σ[i]?=aa (aa v)/\SR Γ K H₀ G H s v (fps i)) /\
  ∀(i j:ah) s t,i≠j->ρ[i]?=aa (aa s)->ρ[j]?=aa (aa t)->∀b∈fps i,b∉fps j
structure At (Γ:Cn) (K:aV) (G₀ H₀ G H:Hp) (ρ:aX) (σ:St):Prop where
 st:Step G₀ H₀ G H
 env:EnvRel Γ K H₀ G H ρ σ
noncomputable def gv (ρ:aX):Prop:=∀(i:ah) s,ρ[i]?=aa (aa s)->∃d,s=.sh d
variable {G₀:Hp} {ρ:aX} {fp':ac av} {d:D} {ds:ac D}
theorem EnvRel.ofSh (len:ρ.length=σ.length) (no:gv ρ) (sh:∀(i:ah) d,ρ[i]?=aa (aa (.sh d))->∃v,σ[i]?=aa (aa v)/\Rep Γ K G v d):EnvRel Γ K H₀ G H ρ σ :=
 ⟨len,fun _=>[],fun i s e=>by obtain⟨d,rfl⟩:=no i s e;obtain⟨v,h1,h2⟩:=sh i d e;exact⟨v,h1,.sh h2⟩,fun _ _ _ _ _ _ _ b hb=>by cases hb⟩
theorem EnvRel.sh (E:EnvRel Γ K H₀ G H ρ σ) (i:ah) (d:D) (e:ρ[i]?=aa (aa (.sh d))):∃v,σ[i]?=aa (aa v)/\Rep Γ K G v d:=by
 obtain⟨fps,h,_⟩:=E.sl;obtain⟨v,h1,h2⟩:=h i _ e;generalize fps i=fp at h2;cases h2 with
 |sh r=>exact⟨v,h1,r⟩
theorem EnvRel.own (E:EnvRel Γ K H₀ G H ρ σ) (i:ah) (ds:ac D) (e:ρ[i]?=aa (aa (.own ds))):∃a vs,σ[i]?=aa (aa (.ref a))/\H₀ a=ae/\G a=ae/\H a=aa (.lst vs)/\Reps Γ K G vs ds:=by
 obtain⟨fps,h,_⟩:=E.sl;obtain⟨v,h1,h2⟩:=h i _ e;generalize fps i=fp at h2;cases h2 with
 |own q1 q2 q3 q4=>exact⟨_,_,h1,q1,q2,q3,q4⟩
theorem At.gh (A:At Γ K G₀ H₀ G H ρ σ):bo G H:=A.st.gh
theorem At.step (A:At Γ K G₀ H₀ G H ρ σ) (s:Step G H G' H'):At Γ K G₀ H₀ G' H' ρ σ:=by
 obtain⟨fps,h,ap⟩:=A.env.sl;exact⟨A.st.trans s,A.env.len,fps,fun i t e=>by obtain⟨v,h1,h2⟩:=h i t e;exact⟨v,h1,h2.stepS s⟩,ap⟩
theorem At.put (A:At Γ K G₀ H₀ G H ρ σ) {s':Slot} {v':V} 
  (hfp:fp=[]\/∃s v,ρ[i]?=aa (aa s)/\σ[i]?=aa (aa v)/\SR Γ K H₀ G H s v fp)
  (hH:∀b o,H b=aa o->b∉fp->H' b=aa o) (hS:SR Γ K H₀ G' H' s' v' fp') (hn:∀b∈fp',b∈fp\/H b=ae)
  (gg:bo G G') (gh:bo G' H') (out:∀b o,H b=aa o->b∉fp->G' b=G b) (out2:∀b∈fp,H₀ b=ae):At Γ K G₀ H₀ G' H' (ρ.set i (aa s')) (σ.set i (aa v')):=by
 obtain⟨fps,h,ap⟩:=A.env.sl;have hl:=A.env.len;have old:∀b∈fp,∀j t,j≠i->ρ[j]?=aa (aa t)->b∉fps j:=fun b hb j t hj e=>by
  rcases hfp with rfl|⟨s,v,h1,h2,h3⟩
  .cases hb
  .obtain⟨v2,h4,h5⟩:=h i s h1;rw[h2] at h4;cases h4;have efp:fp=fps i:=h3.uniq h5;subst efp;exact ap i j s t (eh hj) h1 e b hb
 have slj:∀(j:ah) t,j≠i->ρ[j]?=aa (aa t)->∃v,σ[j]?=aa (aa v)/\SR Γ K H₀ G' H' t v (fps j):=fun j t hj e=>by
  obtain⟨v,h1,h2⟩:=h j t e;refine⟨v,h1,h2.stay gg (fun b hb=>?_) (fun b hb=>?_)⟩
  .obtain⟨_,q2,o,q3⟩:=h2.fpt b hb;exact(out b o q3 fun z=>old b z j t hj e hb).trans q2
  .obtain⟨_,_,o,q3⟩:=h2.fpt b hb;rw[q3];exact hH b o q3 fun z=>old b z j t hj e hb
 have no2:∀b o,H₀ b=aa o->b∉fp:=fun b o e z=>by rw[out2 b z] at e;cases e
 have hst:Step G₀ H₀ G' H':=⟨fun b o e=>hH b o (A.st.hh b o e) (no2 b o e),A.st.gg.trans gg,gh,fun b o e=>(out b o (A.st.hh b o e) (no2 b o e)).trans (A.st.out b o e)⟩;refine⟨hst,by simp[hl],fun j=>if j=i then fp' else fps j,fun j t e=>?_,fun j k t u hjk e1 e2 b hb=>?_⟩
 .by_cases hj:j=i
  .subst hj;have hlt:j < ρ.length:=by
    rcases km j ρ.length with q|q
    .exact q
    .rw[zY (by simp;omega)] at e;cases e
   rw[ny hlt] at e;cases e;show ∃v,_/\SR _ _ _ _ _ _ v (if j=j then fp' else fps j);rw[qY rfl];exact⟨v',by rw[ny .(a)],hS⟩
  .rw[qy (eh hj)] at e ⊢;show ∃v,_/\SR _ _ _ _ _ _ v (if j=i then fp' else fps j);rw[qZ hj];exact slj j t hj e
 .have cross:∀{k:ah} {u:Slot},k≠i->ρ[k]?=aa (aa u)->∀b∈fp',b∉fps k:=fun {k u} hk e b hb hb2=>by
   rcases hn b hb with z|z
   .exact old b z k u hk e hb2
   .obtain⟨v,_,q⟩:=h k u e;obtain⟨_,_,o,q3⟩:=q.fpt b hb2;rw[z] at q3;cases q3
  replace hb:b∈(if j=i then fp' else fps j):=hb
  show b∉(if k=i then fp' else fps k);by_cases hj:j=i
  .subst hj;have hk:k≠j:=eh hjk;rw[qY rfl] at hb;rw[qZ hk];rw[qy hjk] at e2;exact cross hk e2 b hb
  .rw[qZ hj] at hb;rw[qy (eh hj)] at e1;by_cases hk:k=i
   .subst hk;rw[qY rfl];exact fun z=>cross hj e1 b z hb
   .rw[qZ hk];rw[qy (eh hk)] at e2;exact ap j k t u hjk e1 e2 b hb
theorem At.setSh (A:At Γ K G₀ H₀ G H ρ σ) (r:Rep Γ K G v d):At Γ K G₀ H₀ G H (ρ.set i (aa (.sh d))) (σ.set i (aa v)):=
 A.put (fp:=[]) (fp':=[]) .(aq) (fun b o e _=>e) (.sh r) (fun b hb=>by cases hb) (.refl _) A.gh (fun _ _ _ _=>rfl) (fun b hb=>by cases hb)
theorem At.setOwn (A:At Γ K G₀ H₀ G H ρ σ) (ha:H a=ae) (r:Reps Γ K G vs ds):At Γ K G₀ H₀ G (upd H a (.lst vs)) (ρ.set i (aa (.own ds))) (σ.set i (aa (.ref a))):=by have h0:H₀ a=ae:=A.st.hh.free ha;have hg:G a=ae:=A.gh.free ha;refine A.put (fp:=[]) (fp':=[a]) .(aq) (fun b o e _=>by rw[aO (ce e ha)];exact e) (.own h0 hg bK r) (fun b hb=>.inr (by rw[b8.mp hb];exact ha)) (.refl _) (fun b o e=>?_) (fun _ _ _ _=>rfl) (fun b hb=>by cases hb);rw[aO (ce e hg)];exact A.gh b o e
theorem HL {l:ac α} {x:α} (h:l[i]?=aa x):l.set i x=l:=by
 apply Tw;intro j;by_cases hj:j=i
 .subst hj;rw[ny (db.mp h).1,h]
 .rw[qy (eh hj)]
theorem At.ch (A:At Γ K G₀ H₀ G H ρ σ) {s s':Slot} (hi:ρ[i]?=aa (aa s)) (hv:σ[i]?=aa (aa v)) (hs:SR Γ K H₀ G H s v fp)
  (hH:∀b o,H b=aa o->b∉fp->H' b=aa o) (hS:SR Γ K H₀ G' H' s' v fp') (hn:∀b∈fp',b∈fp\/H b=ae)
  (gg:bo G G') (gh:bo G' H') (out:∀b o,H b=aa o->b∉fp->G' b=G b):At Γ K G₀ H₀ G' H' (ρ.set i (aa s')) σ:=by
 have:=A.put (i:=i) (.inr ⟨s,v,hi,hv,hs⟩) hH hS hn gg gh out fun b hb=>(hs.fpt b hb).1
 rwa [HL hv] at this
theorem At.get (A:At Γ K G₀ H₀ G H ρ σ) {s:Slot} (hi:ρ[i]?=aa (aa s)):∃v fp,σ[i]?=aa (aa v)/\SR Γ K H₀ G H s v fp:=by obtain⟨fps,h,_⟩:=A.env.sl;obtain⟨v,h1,h2⟩:=h i s hi;exact⟨v,_,h1,h2⟩
theorem At.chOwn (A:At Γ K G₀ H₀ G H ρ σ) {es:ac D} {ws:ac V} (hi:ρ[i]?=aa (aa (.own ds))) (ha:σ[i]?=aa (aa (.ref a))) (r:Reps Γ K G ws es):At Γ K G₀ H₀ G (upd H a (.lst ws)) (ρ.set i (aa (.own es))) σ:=by
 obtain⟨v,fp,h1,h2⟩:=A.get hi;rw[ha] at h1;cases h1;cases h2 with
 |own q1 q2 q3 q4=>
  refine A.ch hi ha (.own q1 q2 q3 q4) (fun b o e hb=>?_) (.own q1 q2 bK r) (fun b hb=>.inl hb) (.refl _) (fun b o e=>?_) (fun _ _ _ _=>rfl)
  .rw[aO (fun z=>hb (b8.mpr z))];exact e
  .rw[aO (ce e q2)];exact A.gh b o e
theorem At.freeze (A:At Γ K G₀ H₀ G H ρ σ) (hi:ρ[i]?=aa (aa (.own ds))):∃G',bo G G'/\At Γ K G₀ H₀ G' H (ρ.set i (aa (.sh (.lst ds)))) σ:=by
 obtain⟨v,fp,h1,h2⟩:=A.get hi;cases h2 with
 |own q1 q2 q3 q4=>
  rename_i a vs;have sm:bo G (upd G a (.lst vs)):=fun b o e=>by rw[aO (ce e q2)];exact e
  refine⟨upd G a (.lst vs),sm,A.ch hi h1 (.own q1 q2 q3 q4) (fun b o e hb=>e) (.sh (.lst bK (q4.mono sm))) (fun b hb=>by cases hb) sm (fun b o e=>?_) (fun b o e hb=>?_)⟩
  .by_cases hb:b=a
   .subst hb;rw[bK] at e;cases e;exact q3
   .rw[aO hb] at e;exact A.gh b o e
  .rw[aO (fun z=>hb (b8.mpr z))]
inductive Fl where
 |nx|bk|ct|rt (d:D)|ow (ds:ac D)|nw (d:D)|od (kvs:ac (Key×D))
abbrev FE:=aX->ar D
abbrev FT:=aX->ar ba
abbrev FA:=aX->ar (ac D)
abbrev FS:=aX->ar (Fl×aX)
inductive TD (Γ:Cn) (K:aV) (f:FE) (σ:St) (H:Hp) (Q:VK):Prop where
 |mk:∀G₀ H₀ G ρ d,At Γ K G₀ H₀ G H ρ σ->f ρ=aa d->(∀v G' H',Step G H G' H'->Rep Γ K G' v d->Q v H')->TD Γ K f σ H Q
inductive TDt (Γ:Cn) (K:aV) (f:FT) (σ:St) (H:Hp) (Q:ba->Hp->Prop):Prop where
 |mk:∀G₀ H₀ G ρ b,At Γ K G₀ H₀ G H ρ σ->f ρ=aa b->(∀G' H',Step G H G' H'->Q b H')->TDt Γ K f σ H Q
inductive TDa (Γ:Cn) (K:aV) (f:FA) (σ:St) (H:Hp) (Q:ac V->Hp->Prop):Prop where
 |mk:∀G₀ H₀ G ρ ds,At Γ K G₀ H₀ G H ρ σ->f ρ=aa ds->(∀vs G' H',Step G H G' H'->Reps Γ K G' vs ds->Q vs H')->TDa Γ K f σ H Q
def C7 (Γ:Cn) (K:aV) (E:Ends) (H₀ G' H':Hp) (σ':St):Fl->Prop
 |.nx=>E.nx σ' H'
 |.bk=>E.bk σ' H'
 |.ct=>E.ct σ' H'
 |.rt d=>∀v,Rep Γ K G' v d->E.rt v H'
 |.ow ds=>∀p vs,H₀ p=ae->G' p=ae->H' p=aa (.lst vs)->Reps Γ K G' vs ds->E.rt (.ref p) H'
 |.nw d=>∀v,Rep Γ K G' v d->NewL H₀ G' v d->E.rt v H'
 |.od kvs=>∀p us,H₀ p=ae->G' p=ae->H' p=aa (.dK us)->us.map (·.1)=kvs.map (·.1)->Reps Γ K G' (us.map (·.2)) (kvs.map (·.2))->E.rt (.ref p) H'
inductive TDs (Γ:Cn) (K:aV) (g:FS) (E:Ends) (σ:St) (H:Hp):Prop where
 |mk:∀G₀ H₀ G ρ fl ρ',At Γ K G₀ H₀ G H ρ σ->g ρ=aa (fl,ρ')->(∀σ' G' H',bo G G'->At Γ K G₀ H₀ G' H' ρ' σ'->C7 Γ K E H₀ G' H' σ' fl)->TDs Γ K g E σ H
inductive TDo (Γ:Cn) (K:aV) (f:FA) (σ:St) (H:Hp) (Q:VK):Prop where
 |mk:∀G₀ H₀ G ρ ds,At Γ K G₀ H₀ G H ρ σ->f ρ=aa ds->(∀p vs G' H',Step G H G' H'->H' p=ae->Reps Γ K G' vs ds->Q (.ref p) (upd H' p (.lst vs)))->TDo Γ K f σ H Q
structure DE (Γ:Cn) (X:Cx) (e:Expr) (f:FE):Prop where
 out:PE X e (TD Γ X.K f)
structure DT (Γ:Cn) (X:Cx) (e:Expr) (f:FT):Prop where
 out:PT X e (TDt Γ X.K f)
structure DW (Γ:Cn) (X:Cx) (e:Expr) (f:FT):Prop where
 out:PW X e (TDt Γ X.K f)
structure DA (Γ:Cn) (X:Cx) (es:ac Expr) (f:FA):Prop where
 out:PA X es (TDa Γ X.K f)
structure DS (Γ:Cn) (X:Cx) (st:Stmt) (g:FS):Prop where
 out:PS X st (TDs Γ X.K g)
structure DSs (Γ:Cn) (X:Cx) (st:ac Stmt) (g:FS):Prop where
 out:PSs X st (TDs Γ X.K g)
structure DO (Γ:Cn) (X:Cx) (e:Expr) (f:FA):Prop where
 out:PE X e (TDo Γ X.K f)
variable {fa fb fc f:FE}
section
variable {a:Expr}
theorem PE.imp {t t':TE} (h:PE X e t) (i:∀σ H Q,t' σ H Q->t σ H Q):PE X e t':=fun pins s σ H Q I q=>h pins s σ H Q I (i _ _ _ q)
theorem PT.imp {t t':TT} (h:PT X e t) (i:∀σ H Q,t' σ H Q->t σ H Q):PT X e t':=fun pins s σ H Q I q=>h pins s σ H Q I (i _ _ _ q)
theorem PW.imp {t t':TT} (h:PW X e t) (i:∀σ H Q,t' σ H Q->t σ H Q):PW X e t':=fun wh pins s σ H Q I q=>h wh pins s σ H Q I (i _ _ _ q)
theorem PA.imp {t t':TA} (h:PA X es t) (i:∀σ H Q,t' σ H Q->t σ H Q):PA X es t':=fun p pins s σ H Q I q=>h p pins s σ H Q I (i _ _ _ q)
theorem PS.imp {t t':TS} (h:PS X st t) (i:∀E σ H,t' E σ H->t E σ H):PS X st t':=fun pins s σ H E I q=>h pins s σ H E I (i _ _ _ q)
theorem PSs.imp {st:ac Stmt} {t t':TS} (h:PSs X st t) (i:∀E σ H,t' E σ H->t E σ H):PSs X st t':=fun pins s σ H E I q=>h pins s σ H E I (i _ _ _ q)
noncomputable def vSh (i:ah):FE:=fun ρ=>match ρ[i]? with
 |some (aa (.sh d))=>aa d
 |_=>ae
theorem Sa (h:vSh i ρ=aa d):ρ[i]?=aa (aa (.sh d)):=by
 unfold vSh at h;split at h
 .rename_i e;cases h;exact e
 .cases h
theorem ai (i:ah) (hN:X.N[i]?=aa x:=by rfl) (hv:Vis X.env.scope x:=by ac_nf) (hd:.(x)=aq:=by decide)
  (hcd:.(aC)=aq:=by decide):DE Γ X (.Name x pos) (vSh i):=⟨(eC hN hv hd hcd).imp fun σ H Q ⟨G₀,H₀,G,ρ,d,A,h,k⟩=>by
 obtain⟨v,h1,h2⟩:=A.env.sh i d (Sa h);exact⟨v,h1,k v G H (.refl A.gh) h2⟩⟩
noncomputable def vC (d:D):FE:=fun _=>aa d
theorem TD.const (r:∀G,Rep Γ X.K G v d) (h:PE X e (tC v)):DE Γ X e (vC d):=⟨h.imp fun σ H Q ⟨G₀,H₀,G,ρ,d',A,h,k⟩=>by cases h;exact k v G H (.refl A.gh) (r G)⟩
theorem au {i j}:DE Γ X (.Constant (.int i) j pos) (vC (.int i)):=TD.const (fun _=>.int i) BA
theorem eP {i j}:DE Γ X (.Constant (.bool i) j pos) (vC (.bl i)):=TD.const (fun _=>.bl i) Da
theorem eW {j}:DE Γ X (.Constant .none j pos) (vC .non):=TD.const (fun _=>.non) Df
theorem aT {i j}:DE Γ X (.Constant (.str i) j pos) (vC (.str i)):=TD.const (fun _=>.str i) wW
theorem ip {i:ag} {t:Tok} (hg:Gl X x) (hm:X.mg x=aa (.int i t)) (hd:.(x)=aq:=by decide):DE Γ X (.Name x pos) (vC (.int i)):=TD.const (fun _=>.int i) (jR hg hm ⟨t,rfl⟩ hd)
noncomputable def b2 (g:D->D->ar D) (fa fb:FE):FE:=fun ρ=>(fa ρ).bind fun x=>(fb ρ).bind fun y=>g x y
noncomputable def b1 (g:D->ar D) (fa:FE):FE:=fun ρ=>(fa ρ).bind g
noncomputable def gy (Γ:Cn) (K:aV) (g:D->D->ar D) (r:R2):Prop:=
 ∀{G H v u x y z},bo G H->Rep Γ K G v x->Rep Γ K G u y->g x y=aa z->∀Q:VK,(∀w G' H',Step G H G' H'->Rep Γ K G' w z->Q w H')->r v u H Q
theorem TD.two {g:D->D->ar D} {r:R2} (hr:gy Γ X.K g r):∀σ H Q,TD Γ X.K (b2 g fa fb) σ H Q->tOp r (TD Γ X.K fa) (TD Γ X.K fb) σ H Q:=by
 rintro σ H Q ⟨G₀,H₀,G,ρ,d,A,h,k⟩;unfold b2 at h;cases ha:fa ρ with
 |none=>rw[ha] at h;cases h
 |some x=>
  cases hb:fb ρ with
  |none=>rw[ha] at h;simp only[qa,hb,Option.bind_none] at h;cases h
  |some y=>
   simp only[ha,hb,qa] at h;refine⟨G₀,H₀,G,ρ,x,A,ha,fun v G1 H1 s1 r1=>⟨G₀,H₀,G1,ρ,y,A.step s1,hb,fun u G2 H2 s2 r2=>?_⟩⟩;exact hr s2.gh (r1.mono s2.gg) r2 h Q fun w G' H' s r=>k w G' H' ((s1.trans s2).trans s) r
theorem kU {op:Operator} {g:D->D->ar D} {r:R2} (ho:OpR X (gH op) r) (hr:gy Γ X.K g r) (ha:DE Γ X a fa) (hb:DE Γ X b fb):DE Γ X (.BinOp a op b pos) (b2 g fa fb):=⟨(Cy ho ha.1 hb.1).imp (TD.two hr)⟩
noncomputable def aB:D->D->ar D
 |.int i,.int j=>aa (.int (i+j))
 |.str x,.str y=>if x.length+y.length<=aL then aa (.str (x++y)) else ae
 |.lst x,.lst y=>if x.length+y.length<=aL then aa (.lst (x++y)) else ae
 |_,_=>ae
noncomputable def pv:D->D->ar D
 |.int i,.int j=>aa (.int (i-j))
 |_,_=>ae
noncomputable def jM (x:aj) (n:ah):aj:=⟨(bS n x.cps.toList).flatten.toArray⟩
def cq:D->D->ar D
 |.int i,.int j=>if (-(2 ^ 64)<i/\i<2 ^ 64)\/(-(2 ^ 64)<j/\j<2 ^ 64) then aa (.int (i*j)) else ae
 |.lst x,.int j=>if -(2 ^ 63)<=j/\j<2 ^ 63/\x.length*j.toNat<=aL then aa (.lst (bS j.toNat x).flatten) else ae
 |.str x,.int j=>if 0<=j/\j<1000/\x.length<1000 then aa (.str (jM x j.toNat)) else ae
 |_,_=>ae
noncomputable def fZ:D->D->ar D
 |.int i,.int j=>if 0<j/\j<1073741824 then aa (.int (i / j)) else ae
 |_,_=>ae
noncomputable def bu:D->D->ar D
 |.int i,.int j=>if 0<j then aa (.int (i%j)) else ae
 |_,_=>ae
noncomputable def bY:D->D->ar D
 |.int i,.int j=>if 0<=j/\j<=1000000/\i.natAbs<2 ^ 64 then aa (.int (i ^ j.toNat)) else ae
 |_,_=>ae
theorem Rep.int_inv {i:ag} (r:Rep Γ K G v (.int i)):v=.int i:=by cases r;rfl
theorem Rep.str_inv {i:aj} (r:Rep Γ K G v (.str i)):v=.str i:=by cases r;rfl
theorem Rep.bl_inv {i:ba} (r:Rep Γ K G v (.bl i)):v=.bl i:=by cases r;rfl
theorem Rep.lst_inv (r:Rep Γ K G v (.lst ds)):∃a vs,v=.ref a/\G a=aa (.lst vs)/\Reps Γ K G vs ds:=by cases r;exact⟨_,_,rfl,by assumption,by assumption⟩
theorem Rep.tup_inv (r:Rep Γ K G v (.tup ds)):∃a vs,v=.ref a/\G a=aa (.tup vs)/\Reps Γ K G vs ds:=by cases r;exact⟨_,_,rfl,by assumption,by assumption⟩
theorem Rep.scr_inv (r:Rep Γ K G v (.scr ns)):∃a,v=.ref a/\SqL K G a (ns.map V.int):=by cases r;exact⟨_,rfl,by assumption⟩
theorem jJ {Q:VK} (gh:bo G H) (r:Reps Γ K G vs ds) (k:∀w G' H',Step G H G' H'->Rep Γ K G' w (.lst ds)->Q w H'):∀p,H p=ae->Q (.ref p) (upd H p (.lst vs)):=fun p hp=>by have s:=Step.new (o:=.lst vs) gh hp;exact k _ _ _ s (.lst bK (r.mono s.gg))
theorem uv {Q:VK} (gh:bo G H) (r:Reps Γ K G vs ds) (k:∀w G' H',Step G H G' H'->Rep Γ K G' w (.tup ds)->Q w H'):∀p,H p=ae->Q (.ref p) (upd H p (.tup vs)):=fun p hp=>by have s:=Step.new (o:=.tup vs) gh hp;exact k _ _ _ s (.tup bK (r.mono s.gg))
theorem IY :gy Γ K aB (fun x y H Q=>(rI0 (fun i j=>V.int (i+j)) x y H Q\/(∃i j,x=.str i/\y=.str j/\i.length+j.length<=aL/\Q (.str (i++j)) H))\/wz x y H Q):=by
 intro G H v u x y z gh r1 r2 h Q k;unfold aB at h;split at h
 .cases h;cases r1.int_inv;cases r2.int_inv;exact .inl (.inl ⟨_,_,rfl,rfl,k _ G H .(ap) (.int _)⟩)
 .split at h
  .cases h;cases r1.str_inv;cases r2.str_inv;exact .inl (.inr ⟨_,_,rfl,rfl,by assumption,k _ G H .(ap) (.str _)⟩)
  .cases h
 .split at h
  .rename_i hz;cases h;obtain⟨a,vs,rfl,ha,ra⟩:=r1.lst_inv;obtain⟨b,us,rfl,hb,rb⟩:=r2.lst_inv;exact .inr ⟨a,b,vs,us,rfl,rfl,gh _ _ ha,gh _ _ hb,by rw[ra.length,rb.length];exact hz,jJ gh (ra.append rb) k⟩
  .cases h
 .cases h
theorem Rp:OpR X (gH .Add) (fun x y H Q=>(rI0 (fun i j=>V.int (i+j)) x y H Q\/(∃i j,x=.str i/\y=.str j/\i.length+j.length<=aL/\Q (.str (i++j)) H))\/wz x y H Q):=(O7.or L').or Cj
theorem aR (ha:DE Γ X a fa) (hb:DE Γ X b fb):DE Γ X (.BinOp a .Add b pos) (b2 aB fa fb):=kU Rp IY ha hb
theorem Ml {g:D->D->ar D} {o:ag->ag->ag} (hg:∀x y z,g x y=aa z->∃i j,x=.int i/\y=.int j/\z=.int (o i j)):gy Γ K g (rI0 fun i j=>V.int (o i j)):=by intro G H v u x y z gh r1 r2 h Q k;obtain⟨i,j,rfl,rfl,rfl⟩:=hg x y z h;cases r1.int_inv;cases r2.int_inv;exact⟨_,_,rfl,rfl,k _ G H .(ap) (.int _)⟩
theorem rg {g:D->D->ar D} {C:ag->ag->Prop} {o:ag->ag->ag} (hg:∀x y z,g x y=aa z->∃i j,x=.int i/\y=.int j/\C i j/\z=.int (o i j)):gy Γ K g (rI C fun i j=>V.int (o i j)):=by intro G H v u x y z gh r1 r2 h Q k;obtain⟨i,j,rfl,rfl,hc,rfl⟩:=hg x y z h;cases r1.int_inv;cases r2.int_inv;exact⟨_,_,rfl,rfl,hc,k _ G H .(ap) (.int _)⟩
theorem LI (ha:DE Γ X a fa) (hb:DE Γ X b fb):DE Γ X (.BinOp a .Sub b pos) (b2 pv fa fb):=kU Lr (Ml fun x y z h=>by unfold pv at h;split at h<;>cases h;exact⟨_,_,rfl,rfl,rfl⟩) ha hb
theorem mv (ha:DE Γ X a fa) (hb:DE Γ X b fb):DE Γ X (.BinOp a .FloorDiv b pos) (b2 fZ fa fb):=kU JL (rg fun x y z h=>by
 unfold fZ at h;split at h
 .split at h<;>cases h;exact⟨_,_,rfl,rfl,by assumption,rfl⟩
 .cases h) ha hb
theorem cG (ha:DE Γ X a fa) (hb:DE Γ X b fb):DE Γ X (.BinOp a .Mod b pos) (b2 bu fa fb):=kU RQ (rg fun x y z h=>by
 unfold bu at h;split at h
 .split at h<;>cases h;exact⟨_,_,rfl,rfl,by assumption,rfl⟩
 .cases h) ha hb
theorem dM (ha:DE Γ X a fa) (hb:DE Γ X b fb):DE Γ X (.BinOp a .Pow b pos) (b2 bY fa fb):=kU HS (rg fun x y z h=>by
 unfold bY at h;split at h
 .split at h<;>cases h;exact⟨_,_,rfl,rfl,by assumption,rfl⟩
 .cases h) ha hb
theorem E8 (a:b7 ah):∀(k:ah) (acc:ac ah),(bS k a).foldl (·++·) acc.toArray=(acc++(bS k a.toList).flatten).toArray
 |0,acc=>by simp
 |k+1,acc=>by
  rw[md,nJ,md,nI,←qw,←E8 a k (acc++a.toList)]
  congr 1
  simp
def Bk:R2:=fun x y H Q=>∃z n,x=.str z/\y=.int n/\0<=n/\n<1000/\z.length<1000/\Q (.str (jM z n.toNat)) H
theorem So:OpR X (gH .Mult) Bk:=by
 intro pins s σ H x y v u Q I rx ry h;obtain⟨z,n,rfl,rfl,h0,h1,h2,q⟩:=h;obtain⟨t,rfl⟩:=rx;obtain⟨t',rfl⟩:=ry;have hl:z.length*n.toNat<=1000000:=qM (GI (sv h2) (show n.toNat<=1000 by omega)) .(c);have e0:(bS n.toNat z.cps).foldl (·++·) #[]=(jM z n.toNat).cps:=by have:=E8 z.cps n.toNat [];simpa[jM] using this
 refine PySem.P.mul_str ?_ (fun h _=>?_) (fun _ _=>?_) ?_
 .rw[qN .(a),qN .(a)];rfl
 .have e:(z.length:ag)*n=((z.length*n.toNat:ah):ag):=by rw[Int.natCast_mul];congr 1;omega
  have:(z.length:ag)<=(2 ^ 63-1:ag) / n:=Int.le_ediv_of_mul_le .(a) (by rw[e];omega);omega
 .unfold Vr;exact qN (by have:=eI;omega)
 .split
  .have:n=0:=by omega
   subst this;exact⟨by decide,⟨.str _,H,I.tok _,⟨_,rfl⟩,by simpa[jM,la] using q⟩⟩
  .split
   .rename_i hc;have ez:jM z n.toNat=z:=by
     rcases GJ _ _▸hc with e|e
     .have:n=1:=by simpa using e
      subst this;simp[jM]
     .have hz:z.cps=#[]:=by
       have:z.cps.size=0:=by simpa[gZ] using e
       exact Array.eq_empty_of_size_eq_zero this
      cases z;simp only at hz;subst hz;simp[jM]
    exact⟨.str _,H,I,⟨_,rfl⟩,by rw[←ez];exact q⟩
   .rw[e0];refine⟨?_,⟨.str _,H,I.tok _,⟨_,rfl⟩,q⟩⟩;have e1:(jM z n.toNat).length=n.toNat*z.length:=by show(bS n.toNat z.cps.toList).flatten.toArray.size=_;rw[qB,AX];simp[gZ]
    show(jM z n.toNat).length<=aL;rw[e1,To];have:=eI;omega
theorem Oz :gy Γ K cq (fun x y H Q=>(rI tK (fun i j=>V.int (i*j)) x y H Q\/FP x y H Q)\/Bk x y H Q):=by
 intro G H v u x y z gh r1 r2 h Q k;unfold cq at h;split at h
 .split at h
  .cases h;cases r1.int_inv;cases r2.int_inv;exact .inl (.inl ⟨_,_,rfl,rfl,by assumption,k _ G H .(ap) (.int _)⟩)
  .cases h
 .split at h
  .rename_i hz;cases h;obtain⟨a,vs,rfl,ha,ra⟩:=r1.lst_inv;cases r2.int_inv;exact .inl (.inr ⟨a,_,vs,rfl,rfl,gh _ _ ha,hz.1,hz.2.1,by rw[ra.length];exact hz.2.2,jJ gh (ra.rep _) k⟩)
  .cases h
 .split at h
  .rename_i hz;cases h;cases r1.str_inv;cases r2.int_inv;exact .inr ⟨_,_,rfl,rfl,hz.1,hz.2.1,hz.2.2,k _ G H .(ap) (.str _)⟩
  .cases h
 .cases h
theorem fQ (ha:DE Γ X a fa) (hb:DE Γ X b fb):DE Γ X (.BinOp a .Mult b pos) (b2 cq fa fb):=kU ((OS.or Mj).or So) Oz ha hb
end
variable {g':D->D->ar D} {ft:FT} {fr:FA}
section
variable {a:Expr}
theorem Rep.non_inv (r:Rep Γ K G v .non):v=.non:=by cases r;rfl
noncomputable def ltS (x y:aj):ba:=decide (x.cps.toList<y.cps.toList)
def ltD:D->D->ar D
 |.int i,.int j=>aa (.bl (decide (i<j)))
 |.str x,.str y=>aa (.bl (ltS x y))
 |_,_=>ae
def leD:D->D->ar D
 |.int i,.int j=>aa (.bl (decide (i<=j)))
 |.str x,.str y=>aa (.bl (!ltS y x))
 |_,_=>ae
noncomputable def gtD:D->D->ar D
 |.int i,.int j=>aa (.bl (decide (j<i)))
 |_,_=>ae
noncomputable def eqS:D->D->ar ba
 |.int i,.int j=>aa (decide (i=j))
 |.bl i,.bl j=>aa (decide (i=j))
 |.str i,.str j=>aa (decide (i=j))
 |.non,.non=>aa al
 |.non,.int _=>aa aq|.int _,.non=>aa aq|.non,.bl _=>aa aq|.bl _,.non=>aa aq|.non,.str _=>aa aq|.str _,.non=>aa aq
 |.int _,.str _=>aa aq|.str _,.int _=>aa aq|.bl _,.str _=>aa aq|.str _,.bl _=>aa aq
 |_,_=>ae
def eqD (x y:D):ar D:=(eqS x y).map D.bl
def neD (x y:D):ar D:=(eqS x y).map fun b=>D.bl (!b)
theorem CV {u:V} {x y:D} {k:ba} (r1:Rep Γ K G v x) (r2:Rep Γ K G u y) (h:eqS x y=aa k):xJ v u=al/\decide (v=u)=k:=by
 unfold eqS at h;split at h<;>cases h
 .cases r1.int_inv;cases r2.int_inv;exact⟨rfl,by simp⟩
 .cases r1.bl_inv;cases r2.bl_inv;exact⟨rfl,by simp⟩
 .cases r1.str_inv;cases r2.str_inv;exact⟨rfl,by simp⟩
 .cases r1.non_inv;cases r2.non_inv;exact⟨rfl,by simp⟩
 .cases r1.non_inv;cases r2.int_inv;exact⟨rfl,by simp⟩
 .cases r1.int_inv;cases r2.non_inv;exact⟨rfl,by simp⟩
 .cases r1.non_inv;cases r2.bl_inv;exact⟨rfl,by simp⟩
 .cases r1.bl_inv;cases r2.non_inv;exact⟨rfl,by simp⟩
 .cases r1.non_inv;cases r2.str_inv;exact⟨rfl,by simp⟩
 .cases r1.str_inv;cases r2.non_inv;exact⟨rfl,by simp⟩
 .cases r1.int_inv;cases r2.str_inv;exact⟨rfl,by simp⟩
 .cases r1.str_inv;cases r2.int_inv;exact⟨rfl,by simp⟩
 .cases r1.bl_inv;cases r2.str_inv;exact⟨rfl,by simp⟩
 .cases r1.str_inv;cases r2.bl_inv;exact⟨rfl,by simp⟩
theorem R1 :gy Γ K eqD rEq:=by
 intro G H v u x y z gh r1 r2 h Q k;unfold eqD at h;cases e:eqS x y with
 |none=>rw[e] at h;cases h
 |some b=>
  rw[e] at h;cases h;obtain⟨h1,h2⟩:=CV r1 r2 e;exact⟨h1,by rw[h2];exact k _ G H .(ap) (.bl _)⟩
theorem Pk :gy Γ K neD rNe:=by
 intro G H v u x y z gh r1 r2 h Q k;unfold neD at h;cases e:eqS x y with
 |none=>rw[e] at h;cases h
 |some b=>
  rw[e] at h;cases h;obtain⟨h1,h2⟩:=CV r1 r2 e;exact⟨h1,by rw[h2];exact k _ G H .(ap) (.bl _)⟩
theorem IQ {g:D->D->ar D} {o:ag->ag->ba} (hg:∀x y z,g x y=aa z->∃i j,x=.int i/\y=.int j/\z=.bl (o i j)):gy Γ K g (rI0 fun i j=>V.bl (o i j)):=by intro G H v u x y z gh r1 r2 h Q k;obtain⟨i,j,rfl,rfl,rfl⟩:=hg x y z h;cases r1.int_inv;cases r2.int_inv;exact⟨_,_,rfl,rfl,k _ G H .(ap) (.bl _)⟩
theorem JS:OpR X (eF .LtE) (fun x y H Q=>∃i j,x=.str i/\y=.str j/\Q (.bl (!ltS j i)) H):=by intro pins s σ H x y v u Q I rx ry h;obtain⟨i,j,rfl,rfl,q⟩:=h;obtain⟨t,rfl⟩:=rx;obtain⟨t',rfl⟩:=ry;exact PySem.P.le_str (cQ I q (by simp[ltS]))
theorem Ps :gy Γ K ltD (fun x y H Q=>rI0 (fun i j=>V.bl (decide (i<j))) x y H Q\/∃i j,x=.str i/\y=.str j/\Q (.bl (decide (i.cps.toList<j.cps.toList))) H):=by
 intro G H v u x y z gh r1 r2 h Q k;unfold ltD at h;split at h<;>cases h
 .cases r1.int_inv;cases r2.int_inv;exact .inl ⟨_,_,rfl,rfl,k _ G H .(ap) (.bl _)⟩
 .cases r1.str_inv;cases r2.str_inv;exact .inr ⟨_,_,rfl,rfl,k _ G H .(ap) (.bl _)⟩
theorem J1 :gy Γ K leD (fun x y H Q=>rI0 (fun i j=>V.bl (decide (i<=j))) x y H Q\/∃i j,x=.str i/\y=.str j/\Q (.bl (!ltS j i)) H):=by
 intro G H v u x y z gh r1 r2 h Q k;unfold leD at h;split at h<;>cases h
 .cases r1.int_inv;cases r2.int_inv;exact .inl ⟨_,_,rfl,rfl,k _ G H .(ap) (.bl _)⟩
 .cases r1.str_inv;cases r2.str_inv;exact .inr ⟨_,_,rfl,rfl,k _ G H .(ap) (.bl _)⟩
structure CmpD (Γ:Cn) (X:Cx) (op:CmpOp) (g:D->D->ar D):Prop where
 ex:∃r,OpR X (eF op) r/\gy Γ X.K g r
theorem kM:CmpD Γ X .Lt ltD:=⟨_,Sk.or Jc,Ps⟩
theorem iM:CmpD Γ X .LtE leD:=⟨_,Pn.or JS,J1⟩
theorem pB:CmpD Γ X .Gt gtD:=⟨_,Sl,IQ fun x y z h=>by unfold gtD at h;split at h<;>cases h;exact⟨_,_,rfl,rfl,rfl⟩⟩
theorem dA:CmpD Γ X .Eq eqD:=⟨_,Md,R1⟩
theorem jN:CmpD Γ X .NotEq neD:=⟨_,ME,Pk⟩
theorem gM {g:D->D->ar D} (h:CmpD Γ X op g) (ha:DE Γ X a fa) (hb:DE Γ X b fb) (hm:lX op b=aq):DE Γ X (.Compare a [op] [b] pos) (b2 g fa fb):=⟨by obtain⟨r,ho,hr⟩:=h.ex;exact(QZ ho ha.1 hb.1 hm).imp (TD.two hr)⟩
noncomputable def chD (g g':D->D->ar D) (fa fb fc:FE):FE:=fun ρ=>(fa ρ).bind fun x=>(fb ρ).bind fun y=>(g x y).bind fun z=>match z with
 |.bl al=>(fc ρ).bind fun w=>g' y w
 |.bl aq=>aa (.bl aq)
 |_=>ae
theorem TD.chain {g:D->D->ar D} {r:R2} (hr:gy Γ X.K g r) (hr':gy Γ X.K g' r'):∀σ H Q,TD Γ X.K (chD g g' fa fb fc) σ H Q->yD r r' (TD Γ X.K fa) (TD Γ X.K fb) (TD Γ X.K fc) σ H Q:=by
 rintro σ H Q ⟨G₀,H₀,G,ρ,d,A,h,k⟩;unfold chD at h;obtain⟨x,ha,h⟩:=oBd h;obtain⟨y,hb,h⟩:=oBd h;obtain⟨z,hz,h⟩:=oBd h;refine⟨G₀,H₀,G,ρ,x,A,ha,fun v G1 H1 s1 r1=>⟨G₀,H₀,G1,ρ,y,A.step s1,hb,fun u G2 H2 s2 r2=>?_⟩⟩;refine hr s2.gh (r1.mono s2.gg) r2 hz _ fun w G3 H3 s3 r3=>?_;split at h
 .cases r3.bl_inv;obtain⟨w,hc,h⟩:=oBd h;refine⟨al,rfl,g9 ⟨G₀,H₀,G3,ρ,w,((A.step s1).step s2).step s3,hc,fun q G4 H4 s4 r4=>?_⟩⟩;exact hr' s4.gh ((r2.mono s3.gg).mono s4.gg) r4 h Q fun w' G' H' s r=>k w' G' H' ((((s1.trans s2).trans s3).trans s4).trans s) r
 .cases r3.bl_inv;cases h;exact⟨aq,rfl,kh (k _ G3 H3 ((s1.trans s2).trans s3) (.bl _))⟩
 .cases h
theorem xm {g:D->D->ar D} (h:CmpD Γ X op g) (h':CmpD Γ X op' g') (ha:DE Γ X a fa) (hb:DE Γ X b fb) (hc:DE Γ X c fc) (hm:zA [op,op'] [b,c]=aq:=by with_unfolding_all rfl) :
  DE Γ X (.Compare a [op,op'] [b,c] pos) (chD g g' fa fb fc):=⟨by
 obtain⟨r,ho,hr⟩:=h.ex;obtain⟨r',ho',hr'⟩:=h'.ex;exact(Kx ho ho' ha.1 hb.1 hc.1 hm).imp (TD.chain hr hr')⟩
noncomputable def toB (f:FE):FT:=fun ρ=>(f ρ).bind fun d=>match d with
 |.bl b=>aa b
 |_=>ae
theorem TDt.val :∀σ H Q,TDt Γ X.K (toB f) σ H Q->TD Γ X.K f σ H fun x H'=>∃k,x=.bl k/\Q k H':=by rintro σ H Q ⟨G₀,H₀,G,ρ,b,A,h,k⟩;unfold toB at h;obtain⟨d,hd,h⟩:=oBd h;split at h<;>cases h;exact⟨G₀,H₀,G,ρ,_,A,hd,fun v G' H' s r=>⟨b,r.bl_inv,k G' H' s⟩⟩
theorem bT {g:D->D->ar D} (h:CmpD Γ X op g) (ha:DE Γ X a fa) (hb:DE Γ X b fb) (hm:lX op b=aq):DT Γ X (.Compare a [op] [b] pos) (toB (b2 g fa fb)):=⟨by obtain⟨r,ho,hr⟩:=h.ex;exact(SA ho ha.1 hb.1 hm).imp fun σ H Q q=>TD.two hr σ H _ (TDt.val σ H Q q)⟩
theorem Rn {g:D->D->ar D} (h:CmpD Γ X op g) (h':CmpD Γ X op' g') (ha:DE Γ X a fa) (hb:DE Γ X b fb) (hc:DE Γ X c fc) (hm:zA [op,op'] [b,c]=aq:=by with_unfolding_all rfl) :
  DT Γ X (.Compare a [op,op'] [b,c] pos) (toB (chD g g' fa fb fc)):=⟨by
 obtain⟨r,ho,hr⟩:=h.ex;obtain⟨r',ho',hr'⟩:=h'.ex;exact(NG ho ho' ha.1 hb.1 hc.1 hm).imp fun σ H Q q=>TD.chain hr hr' σ H _ (TDt.val σ H Q q)⟩
theorem bG (h:DE Γ X e f) (he:∀whole,isTrue e X.env whole=(do let v ←whole;oT e.pos;ij [v] (truthy v)):=by intro _;rfl):DT Γ X e (toB f):=⟨(Ew h.1 he).imp TDt.val⟩
noncomputable def bf (f:FT):FT:=fun ρ=>(f ρ).map (!·)
noncomputable def eO (f g:FT):FT:=fun ρ=>(f ρ).bind fun b=>if b=al then g ρ else aa aq
noncomputable def orT (f g:FT):FT:=fun ρ=>(f ρ).bind fun b=>if b=al then aa al else g ρ
variable {gt:FT} {bz:ac Expr}
theorem DW.dt (h:DW Γ X e ft):DT Γ X e ft:=⟨h.1.pt⟩
theorem bM (h:DT Γ X a ft):DT Γ X (.UnaryOp .Not a pos) (bf ft):=⟨(Ln h.1).imp fun σ H Q=>by rintro⟨G₀,H₀,G,ρ,b,A,h,k⟩;unfold bf at h;obtain⟨c,hc,h⟩:=oMd h;exact⟨G₀,H₀,G,ρ,c,A,hc,fun G' H' s=>by show Q (!c) H';rw[h];exact k G' H' s⟩⟩
theorem nY (h:DT Γ X a ft):DW Γ X (.BoolOp .And [a] pos) ft:=⟨Oq h.1⟩
theorem cV (h:DT Γ X a ft):DW Γ X (.BoolOp .Or [a] pos) ft:=⟨PD h.1⟩
theorem oM (h:DT Γ X a ft) (h':DW Γ X (.BoolOp .And (b::bz) pos) gt):DW Γ X (.BoolOp .And (a::b::bz) pos) (eO ft gt):=⟨(QQ h.1 h'.1).imp fun σ H Q=>by
 rintro⟨G₀,H₀,G,ρ,r,A,h,k⟩;unfold eO at h;obtain⟨c,hc,h⟩:=oBd h;refine⟨G₀,H₀,G,ρ,c,A,hc,fun G1 H1 s1=>?_⟩;cases c with
 |true=>exact g9 ⟨G₀,H₀,G1,ρ,r,A.step s1,by simpa using h,fun G' H' s=>k G' H' (s1.trans s)⟩
 |false=>
  rw[qZ qr] at h;cases h;exact kh (k _ _ s1)⟩
theorem cm (h:DT Γ X a ft) (h':DW Γ X (.BoolOp .Or (b::bz) pos) gt):DW Γ X (.BoolOp .Or (a::b::bz) pos) (orT ft gt):=⟨(Kz h.1 h'.1).imp fun σ H Q=>by
 rintro⟨G₀,H₀,G,ρ,r,A,h,k⟩;unfold orT at h;obtain⟨c,hc,h⟩:=oBd h;refine⟨G₀,H₀,G,ρ,c,A,hc,fun G1 H1 s1=>?_⟩;cases c with
 |false=>exact kh ⟨G₀,H₀,G1,ρ,r,A.step s1,by simpa using h,fun G' H' s=>k G' H' (s1.trans s)⟩
 |true=>
  rw[qY rfl] at h;cases h;exact g9 (k _ _ s1)⟩
noncomputable def cS (fa fb:FE):FE:=fun ρ=>(fa ρ).bind fun d=>match d with
 |.bl al=>fb ρ
 |.bl aq=>aa (.bl aq)
 |_=>ae
noncomputable def orD (fa fb:FE):FE:=fun ρ=>(fa ρ).bind fun d=>match d with
 |.bl al=>aa (.bl al)
 |.bl aq=>fb ρ
 |_=>ae
noncomputable def ui (fa:FE):FE:=fun ρ=>(fa ρ).bind fun d=>match d with
 |.bl b=>aa (.bl (!b))
 |_=>ae
theorem gQ {op} (h:DE Γ X a fa):DE Γ X (.BoolOp op [a] pos) fa:=⟨yr h.1⟩
theorem fR (ha:DE Γ X a fa) (hb:DE Γ X (.BoolOp .And (b::bz) pos) fb):DE Γ X (.BoolOp .And (a::b::bz) pos) (cS fa fb):=⟨(pP ha.1 hb.1).imp fun σ H Q=>by
 rintro⟨G₀,H₀,G,ρ,d,A,h,k⟩;unfold cS at h;obtain⟨x,hx,h⟩:=oBd h;refine⟨G₀,H₀,G,ρ,x,A,hx,fun v G1 H1 s1 r1=>?_⟩;split at h
 .cases r1.bl_inv;exact⟨al,rfl,g9 ⟨G₀,H₀,G1,ρ,d,A.step s1,h,fun w G' H' s r=>k w G' H' (s1.trans s) r⟩⟩
 .cases r1.bl_inv;cases h;exact⟨aq,rfl,kh (k _ G1 H1 s1 (.bl _))⟩
 .cases h⟩
theorem Oh (ha:DE Γ X a fa) (hb:DE Γ X (.BoolOp .Or (b::bz) pos) fb):DE Γ X (.BoolOp .Or (a::b::bz) pos) (orD fa fb):=⟨(ML ha.1 hb.1).imp fun σ H Q=>by
 rintro⟨G₀,H₀,G,ρ,d,A,h,k⟩;unfold orD at h;obtain⟨x,hx,h⟩:=oBd h;refine⟨G₀,H₀,G,ρ,x,A,hx,fun v G1 H1 s1 r1=>?_⟩;split at h
 .cases r1.bl_inv;cases h;exact⟨al,rfl,g9 (k _ G1 H1 s1 (.bl _))⟩
 .cases r1.bl_inv;exact⟨aq,rfl,kh ⟨G₀,H₀,G1,ρ,d,A.step s1,h,fun w G' H' s r=>k w G' H' (s1.trans s) r⟩⟩
 .cases h⟩
theorem Re (ha:DE Γ X a fa):DE Γ X (.UnaryOp .Not a pos) (ui fa):=⟨(DU ha.1).imp fun σ H Q=>by
 rintro⟨G₀,H₀,G,ρ,d,A,h,k⟩;unfold ui at h;obtain⟨x,hx,h⟩:=oBd h;refine⟨G₀,H₀,G,ρ,x,A,hx,fun v G1 H1 s1 r1=>?_⟩;split at h
 .cases r1.bl_inv;cases h;exact⟨_,rfl,k _ G1 H1 s1 (.bl _)⟩
 .cases h⟩
noncomputable def ao:FA:=fun _=>aa []
noncomputable def af (fa:FE) (fr:FA):FA:=fun ρ=>(fa ρ).bind fun x=>(fr ρ).map (x::·)
theorem ax:DA Γ X [] ao:=⟨fD.imp fun σ H Q=>by rintro⟨G₀,H₀,G,ρ,d,A,h,k⟩;cases h;exact k _ G H (.refl A.gh) .nil⟩
theorem ak (ha:DE Γ X e fa) (hr:DA Γ X es fr) (hs:bc (e::es) X.env=(aq,eval e X.env)::bc es X.env:=by rfl):DA Γ X (e::es) (af fa fr):=⟨(dq ha.1 hr.1 hs).imp fun σ H Q=>by rintro⟨G₀,H₀,G,ρ,d,A,h,k⟩;unfold af at h;obtain⟨x,hx,h⟩:=oBd h;obtain⟨xs,hxs,h⟩:=oMd h;subst h;exact⟨G₀,H₀,G,ρ,x,A,hx,fun v G1 H1 s1 r1=>⟨G₀,H₀,G1,ρ,xs,A.step s1,hxs,fun vs G2 H2 s2 r2=>k _ G2 H2 (s1.trans s2) (.cons (r1.mono s2.gg) r2)⟩⟩⟩
noncomputable def szF (fr:FA):FA:=fun ρ=>(fr ρ).bind fun l=>if l.length<=aL then aa l else ae
noncomputable def aF (fr:FA):FE:=fun ρ=>(fr ρ).map D.lst
noncomputable def bO (fr:FA):FE:=fun ρ=>(fr ρ).map D.tup
theorem DO.de (h:DO Γ X e fr):DE Γ X e (aF fr):=⟨h.1.imp fun σ H Q=>by rintro⟨G₀,H₀,G,ρ,d,A,h,k⟩;unfold aF at h;obtain⟨ds,hd,rfl⟩:=oMd h;exact⟨G₀,H₀,G,ρ,ds,A,hd,fun p vs G' H' s hp r=>jJ s.gh r (fun w G2 H2 s2 r2=>k w G2 H2 (s.trans s2) r2) p hp⟩⟩
theorem bX (h:DA Γ X es fr):DO Γ X (.List es pos) (szF fr):=⟨(xy h.1).imp fun σ H Q=>by
 rintro⟨G₀,H₀,G,ρ,d,A,h,k⟩;unfold szF at h;obtain⟨ds,hd,h⟩:=oBd h;split at h
 .rename_i hz;cases h;exact⟨G₀,H₀,G,ρ,d,A,hd,fun vs G' H' s r=>⟨by rw[r.length];exact hz,fun p hp=>k p vs G' H' s hp r⟩⟩
 .cases h⟩
theorem dI {x1} (h:DA Γ X es fr):DE Γ X (.Tuple es x1 pos) (bO (szF fr)):=⟨(EZ h.1).imp fun σ H Q=>by
 rintro⟨G₀,H₀,G,ρ,d,A,h,k⟩;unfold bO szF at h;obtain⟨ds',hd',rfl⟩:=oMd h;obtain⟨ds,hd,h⟩:=oBd hd';split at h
 .rename_i hz;cases h;exact⟨G₀,H₀,G,ρ,ds',A,hd,fun vs G' H' s r=>⟨by rw[r.length];exact hz,uv s.gh r fun w G2 H2 s2 r2=>k w G2 H2 (s.trans s2) r2⟩⟩
 .cases h⟩
noncomputable def xt (Γ:Cn) (K:aV) (g:ac D->ar D) (r:ac V->Hp->VK->Prop):Prop:=
 ∀{G H vs ds z},bo G H->Reps Γ K G vs ds->g ds=aa z->∀Q:VK,(∀w G' H',Step G H G' H'->Rep Γ K G' w z->Q w H')->r vs H Q
noncomputable def cF (g:ac D->ar D) (fr:FA):FE:=fun ρ=>(fr ρ).bind g
theorem TD.call {g:ac D->ar D} {r:ac V->Hp->VK->Prop} (hr:xt Γ X.K g r):∀σ H Q,TD Γ X.K (cF g fr) σ H Q->tCB r (TDa Γ X.K fr) σ H Q:=by rintro σ H Q ⟨G₀,H₀,G,ρ,d,A,h,k⟩;unfold cF at h;obtain⟨ds,hd,h⟩:=oBd h;exact⟨G₀,H₀,G,ρ,ds,A,hd,fun vs G1 H1 s1 r1=>hr s1.gh r1 h Q fun w G' H' s r=>k w G' H' (s1.trans s) r⟩
structure BltD (Γ:Cn) (X:Cx) (id:cM) (g:ac D->ar D):Prop where
 ex:∃r,fN X (.builtin id) r/\xt Γ X.K g r
structure TyD (Γ:Cn) (X:Cx) (id:cM) (g:ac D->ar D):Prop where
 ex:∃r,fN X (.type id) r/\xt Γ X.K g r
theorem bF {id:cM} {g:ac D->ar D} (hc:BltD Γ X id g) (hg:Gl X x) (hm:X.mg x=ae) (hv:lW x=aa (.builtin id)) (ha:DA Γ X (e::es) fr) (hn:x≠"__name__":=by decide) (hdb:.(x)=aq:=by decide)
  (he:bc (e::es) X.env=(aq,eval e X.env)::bc es X.env:=by rfl) (hpl:.(aO).any (·.1)=aq:=by rfl):DE Γ X .(ag) (cF g fr):=⟨by
 obtain⟨r,h1,h2⟩:=hc.ex;exact(mC h1 hg hm hv ha.1 hn hdb he hpl).imp (TD.call h2)⟩
theorem cY {id:cM} {g:ac D->ar D} (hc:TyD Γ X id g) (hg:Gl X x) (hm:X.mg x=ae) (hv:lW x=aa (.type id)) (ha:DA Γ X (e::es) fr) (hn:x≠"__name__":=by decide) (hdb:.(x)=aq:=by decide)
  (he:bc (e::es) X.env=(aq,eval e X.env)::bc es X.env:=by rfl) (hpl:.(aO).any (·.1)=aq:=by rfl):DE Γ X .(ag) (cF g fr):=⟨by
 obtain⟨r,h1,h2⟩:=hc.ex;exact(Bc h1 hg hm hv ha.1 hn hdb he hpl).imp (TD.call h2)⟩
theorem kI {n:cM} (hg:Gl X x) (hm:X.mg x=ae) (hv:lW x=aa (.type n)) (hn:x≠"__name__":=by decide) (hd:.(x)=aq:=by decide):DE Γ X (.Name x pos) (vC (.ty n)):=TD.const (fun _=>.ty n) (xn hg hm hv rfl hn hd)
theorem Reps.one (r:Reps Γ K G vs [d]):∃v,vs=[v]/\Rep Γ K G v d:=by
 cases r with
 |cons h t=>cases t;exact⟨_,rfl,h⟩
theorem Reps.two {d':D} (r:Reps Γ K G vs [d,d']):∃v u,vs=[v,u]/\Rep Γ K G v d/\Rep Γ K G u d':=by
 cases r with
 |cons h t=>cases t with
  |cons h2 t2=>cases t2;exact⟨_,_,rfl,h,h2⟩
noncomputable def uX:ac D->ar D
 |[.int i,.int j]=>aa (.int (if j > i then j else i))
 |_=>ae
theorem IG (hc:X.calm=al):BltD Γ X "max" uX:=⟨_,Sz hc,fun {G H vs ds z} gh r h Q k=>by unfold uX at h;split at h<;>cases h;obtain⟨v,u,rfl,r1,r2⟩:=r.two;cases r1.int_inv;cases r2.int_inv;exact⟨_,_,rfl,k _ G H .(ap) (.int _)⟩⟩
noncomputable def eA:ac D->ar D
 |[.int i,.int j]=>aa (.int (if j<i then j else i))
 |_=>ae
theorem m5 (hc:X.calm=al):BltD Γ X "min" eA:=⟨_,OP hc,fun {G H vs ds z} gh r h Q k=>by unfold eA at h;split at h<;>cases h;obtain⟨v,u,rfl,r1,r2⟩:=r.two;cases r1.int_inv;cases r2.int_inv;exact⟨_,_,rfl,k _ G H .(ap) (.int _)⟩⟩
noncomputable def bw:ac D->ar D
 |[.str x]=>if x.length<=aL then aa (.int (x.length:ah)) else ae
 |[.lst l]=>aa (.int (l.length:ah))
 |[.tup l]=>aa (.int (l.length:ah))
 |[.scr l]=>aa (.int (l.length:ah))
 |_=>ae
theorem cH:BltD Γ X "len" bw:=⟨_,MY,fun {G H vs ds z} gh r h Q k=>by
 unfold bw at h;split at h
 .split at h
  .cases h;obtain⟨v,rfl,r1⟩:=r.one;cases r1.str_inv;exact⟨_,_,rfl,⟨by assumption,rfl⟩,k _ G H .(ap) (.int _)⟩
  .cases h
 .cases h;obtain⟨v,rfl,r1⟩:=r.one;obtain⟨a,vs,rfl,ha,rv⟩:=r1.lst_inv;exact⟨_,_,rfl,.inl ⟨vs,.inl (.inl (gh _ _ ha)),rfl⟩,k _ G H .(ap) (by rw[rv.length];exact .int _)⟩
 .cases h;obtain⟨v,rfl,r1⟩:=r.one;obtain⟨a,vs,rfl,ha,rv⟩:=r1.tup_inv;exact⟨_,_,rfl,.inr ⟨vs,.inl (.inl (gh _ _ ha)),rfl⟩,k _ G H .(ap) (by rw[rv.length];exact .int _)⟩
 .cases h;obtain⟨v,rfl,r1⟩:=r.one;obtain⟨a,rfl,ha⟩:=r1.scr_inv;exact⟨_,_,rfl,.inl ⟨_,gh.seq ha,rfl⟩,k _ G H .(ap) (by rw[qe];exact .int _)⟩
 .cases h⟩
noncomputable def tyD:D->ar cM
 |.non=>aa "NoneType"
 |.bl _=>aa "bool"
 |.int _=>aa "int"
 |.str _=>aa "str"
 |.lst _=>aa "list"
 |.tup _=>aa "tuple"
 |.dk _=>aa "dict"
 |.dt _=>aa "dict"
 |_=>ae
def gr (t c:cM):ar ba:=if (lU t==lU c)=al then aa al else if PySem.W.kitMeta c=al then o8 (fun x=>x.contains (lU c)) (PySem.fastBuiltinMro t) else ae
def dU:ac D->ar D
 |[d,.ty c]=>(tyD d).bind fun t=>(gr t c).map D.bl
 |_=>ae
theorem N8 {t:cM} (gh:bo G H) (r:Rep Γ K G v d) (h:tyD d=aa t):TyOf K H v (.type t):=by
 unfold tyD at h;split at h<;>cases h
 .cases r.non_inv;exact .non
 .cases r.bl_inv;exact .bl _
 .cases r.int_inv;exact .int _
 .cases r.str_inv;exact .str _
 .obtain⟨a,vs,rfl,ha,_⟩:=r.lst_inv;exact .lst (gh _ _ ha)
 .obtain⟨a,vs,rfl,ha,_⟩:=r.tup_inv;exact .tup (gh _ _ ha)
 .cases r with
  |dk h _ _=>exact .dK (gh _ _ h)
 .cases r with
  |dt h _ _=>exact .dT (gh _ _ h)
theorem kQ:BltD Γ X "isinstance" dU:=by
 refine⟨fun vs H Q=>∃v t c b,vs=[v,.ty c]/\TyOf X.K H v (.type t)/\lc X.K (.type t) (.type c)=aa b/\Q (.bl b) H,?_,?_⟩
 .intro pins s σ H xs us Q I r h;obtain⟨v,t,c,b,rfl,ty,hk,q⟩:=h;obtain⟨u,w',rfl,r1,r2⟩:=n8 r;cases r2;exact BQ I r1 ty hk fun tk=>⟨.bl b,H,I.tok tk,rfl,q⟩
 .intro G H vs ds z gh r h Q k;unfold dU at h;split at h
  .obtain⟨t,ht,h⟩:=oBd h;obtain⟨b,hb,rfl⟩:=oMd h;obtain⟨v,u,rfl,r1,r2⟩:=r.two;cases r2;exact⟨v,t,_,b,rfl,N8 gh r1 ht,hb,k _ G H .(ap) (.bl _)⟩
  .cases h
end
variable {β:Type} {fh:aX->ar (ar ag)} {fo:FE}
section
variable {a:Expr}
theorem Reps.atI {K:aV} {G:Hp} {vs:ac V} {ds:ac D} {i:ag} {d:D} (r:Reps Γ K G vs ds) (h:L2.atI ds i=aa d):∃v,L2.atI vs i=aa v/\Rep Γ K G v d:=by
 unfold L2.atI at h ⊢;rw[r.length];cases e:ixN ds.length i with
 |none=>rw[e] at h;cases h
 |some j=>
  rw[e] at h;obtain⟨v,h1,h2⟩:=r.get (i:=j) (d:=d) h;exact⟨v,h1,h2⟩
theorem RC (g:α->β) (xs:ac α) (i:ag):L2.atI (xs.map g) i=(L2.atI xs i).map g:=by
 unfold L2.atI;rw[qe];cases ixN xs.length i with
 |none=>rfl
 |some j=>simp
def ixD:D->D->ar D
 |.lst l,.int i=>atI l i
 |.tup l,.int i=>atI l i
 |.scr l,.int i=>(atI l i).map D.int
 |.str x,.int i=>if x.length<=aL then (atI x.cps.toList i).map fun c=>D.str ⟨#[c]⟩ else ae
 |_,_=>ae
theorem Rc :gy Γ K ixD (rIx K):=by
 intro G H v u x y z gh r1 r2 h Q k;unfold ixD at h;split at h
 .obtain⟨a,vs,rfl,ha,rv⟩:=r1.lst_inv;cases r2.int_inv;obtain⟨w,hw,rw'⟩:=rv.atI h;exact .inl ⟨a,vs,_,w,rfl,rfl,.inl (.inl (gh _ _ ha)),hw,k w G H .(ap) rw'⟩
 .obtain⟨a,vs,rfl,ha,rv⟩:=r1.tup_inv;cases r2.int_inv;obtain⟨w,hw,rw'⟩:=rv.atI h;exact .inr (.inl ⟨a,vs,_,w,rfl,rfl,.inl (.inl (gh _ _ ha)),hw,k w G H .(ap) rw'⟩)
 .obtain⟨a,rfl,ha⟩:=r1.scr_inv;cases r2.int_inv;obtain⟨n,hn,rfl⟩:=oMd h;exact .inl ⟨a,_,_,.int n,rfl,rfl,gh.seq ha,by rw[RC,hn];rfl,k _ G H .(ap) (.int _)⟩
 .split at h
  .cases r1.str_inv;cases r2.int_inv;obtain⟨n,hn,rfl⟩:=oMd h;exact .inr (.inr ⟨_,_,n,rfl,rfl,by assumption,hn,k _ G H .(ap) (.str _)⟩)
  .cases h
 .cases h
theorem aK (ha:DE Γ X a fa) (hb:DE Γ X b fb) (hs:wC b:=by intro _ _;rfl):DE Γ X (.Subscript a b pos) (b2 ixD fa fb):=⟨(A8 Ds ha.1 hb.1 hs).imp (TD.two Rc)⟩
def eE (xs:ac α) (lo hi:ar ag):ac α:=(xs.drop (HT.sIx xs.length 0 lo)).take (HT.sIx xs.length xs.length hi-HT.sIx xs.length 0 lo)
theorem JP (g:α->β) (xs:ac α) (lo hi:ar ag):eE (xs.map g) lo hi=(eE xs lo hi).map g:=by unfold eE;simp
theorem Reps.cut (r:Reps Γ K G vs ds) (lo hi:ar ag):Reps Γ K G (lG vs lo hi) (eE ds lo hi):=by unfold lG eE;rw[r.length];exact(r.drop _).take _
def jH (x:aj) (lo hi:ar ag):aj:=⟨(eE x.cps.toList lo hi).toArray⟩
theorem BW (lo hi:ar ag) (n:ah):zZ lo hi 1 n=(cz (HT.sIx n n hi-HT.sIx n 0 lo)).map (HT.sIx n 0 lo+·):=by
 rw[←Tg];unfold zZ;have h1:∀(o:ar ag) (d:ah),d<=n->(match o with|none=>(d:ag)|some i=>if (1:ag) > 0 then max 0 (min (if i<0 then i+(n:ag) else i) n) else max (-1) (min (if i<0 then i+(n:ag) else i) ((n:ag)-1)))=((HT.sIx n d o:ah):ag):=fun o d hd=>by
  cases o with
  |none=>simp[HT.sIx]
  |some i=>
   simp only[HT.sIx,show(1:ag) > 0 by decide,cr];by_cases h:i<0
   .simp only[h,cr];omega
   .simp only[h,dv];omega
 have e0:=h1 lo 0 (gX _);have e1:=h1 hi n (qv _);rw[←e0,←e1];rfl
theorem A6 (x:aj) (lo hi:ar ag):GK x lo hi=jH x lo hi:=by
 have key:(zZ lo hi 1 x.length).filterMap (x.cps[·]?)=eE x.cps.toList lo hi:=by rw[BW,zK];unfold eE;rw[show x.cps.toList.length=x.length by simp[gZ]]
 unfold GK jH;split
 .rename_i h;rw[←key];have hl:(zZ lo hi 1 x.length).length=x.length:=by simpa using h
  rw[BW] at hl ⊢;rw[zK];rw[qe,qU] at hl;have hb:HT.sIx x.length x.length hi<=x.length:=by
   cases hi with
   |none=>simp[HT.sIx]
   |some i=>simp only[HT.sIx];split<;>omega
  have h0:HT.sIx x.length 0 lo=0\/x.length=0:=by omega
  have hx:x.cps.toList.length=x.length:=by simp[gZ]
  have e:(x.cps.toList.drop (HT.sIx x.length 0 lo)).take (HT.sIx x.length x.length hi-HT.sIx x.length 0 lo)=x.cps.toList:=by
   rcases h0 with h0|h0
   .rw[h0,mf];rw[h0] at hl;exact lg .(a)
   .have:x.cps.toList=[]:=GL.mp .(a);rw[this];simp
  rw[e]
 .rw[key]
noncomputable def pN:aX->ar (ar ag):=fun _=>aa ae
noncomputable def pS (f:FE):aX->ar (ar ag):=fun ρ=>(f ρ).bind fun d=>match d with
 |.int i=>aa (aa i)
 |_=>ae
inductive TDp (Γ:Cn) (K:aV) (f:aX->ar (ar ag)) (σ:St) (H:Hp) (Q:ar ag->Hp->Prop):Prop where
 |mk:∀G₀ H₀ G ρ o,At Γ K G₀ H₀ G H ρ σ->f ρ=aa o->(∀G' H',Step G H G' H'->Q o H')->TDp Γ K f σ H Q
structure DP (Γ:Cn) (X:Cx) (e:ar Expr) (f:aX->ar (ar ag)):Prop where
 out:PO X e (TDp Γ X.K f)
theorem dX:DP Γ X ae pN:=⟨fun pins s σ H Q I ⟨G₀,H₀,G,ρ,o,A,h,k⟩=>by cases h;exact Sy pins s σ H Q I (k G H (.refl A.gh))⟩
theorem cw (h:DE Γ X e f):DP Γ X (aa e) (pS f):=⟨fun pins s σ H Q I ⟨G₀,H₀,G,ρ,o,A,q,k⟩=>by unfold pS at q;obtain⟨d,hd,q⟩:=oBd q;split at q<;>cases q;exact JQ h.1 pins s σ H Q I ⟨G₀,H₀,G,ρ,_,A,hd,fun v G' H' s r=>⟨_,r.int_inv,k G' H' s⟩⟩⟩
theorem NL:SlR X (fun x lo hi H Q=>∃z,x=.str z/\z.length<=aL/\Q (.str (jH z lo hi)) H):=by
 intro pins s σ H x v vl vu lo hi sl Q I rx hs pl pu h;obtain⟨z,rfl,hz,q⟩:=h;obtain⟨t,rfl⟩:=rx;refine⟨"str",_,PySem.F.slot_str_getitem.lookup,sI _ _ _,?_⟩;obtain⟨l,rfl,el⟩:∃l:ar (ag×Tok),vl=partValue l/\l.map (·.1)=lo:=by
  cases pl with
  |none=>exact⟨ae,rfl,rfl⟩
  |int i t=>exact⟨aa (i,t),rfl,rfl⟩
 obtain⟨u,rfl,eu⟩:∃l:ar (ag×Tok),vu=partValue l/\l.map (·.1)=hi:=by
  cases pu with
  |none=>exact⟨ae,rfl,rfl⟩
  |int i t=>exact⟨aa (i,t),rfl,rfl⟩
 refine wpAny_getItem_str_slice (l:=l) (u:=u) (st:=ae) hs rfl ?_;have e:(if ((o8 (fun x=>x.fst) (ae:ar (ag×Tok))).getD 1==1 && (slicePicked z l u ae).length==z.length)=al then z else {cps:=(List.filterMap (fun x=>z.cps[x]?) (slicePicked z l u ae)).toArray})=jH z lo hi:=by
  have e0:GK z (l.map (·.1)) (u.map (·.1))=jH z lo hi:=by rw[el,eu];exact A6 z lo hi
  exact e0
 refine post_val_or_str ⟨?_,fun t' k=>?_⟩
 .rw[e,←A6];exact qM (Txt.slice_le z _ _) hz
 .rw[e];exact⟨.str _,H,I.tok k,⟨_,rfl⟩,q⟩
def nr (lo hi:ar ag):D->ar D
 |.lst l=>aa (.lst (eE l lo hi))
 |.scr l=>aa (.lst ((eE l lo hi).map D.int))
 |.tup l=>if HT.sIx l.length 0 lo=0/\HT.sIx l.length l.length hi=l.length then ae else aa (.tup (eE l lo hi))
 |.str x=>if x.length<=aL then aa (.str (jH x lo hi)) else ae
 |_=>ae
def slF (f:FE) (fl fh:aX->ar (ar ag)):FE:=fun ρ=>(f ρ).bind fun d=>(fl ρ).bind fun l=>(fh ρ).bind fun h=>nr l h d
variable {fl:aX->ar (ar ag)} {lo hi:ar Expr}
theorem c9 (he:DE Γ X e f) (hl:DP Γ X lo fl) (hh:DP Γ X hi fh):DE Γ X (.Subscript e (.Slice lo hi ae p2) pos) (slF f fl fh):=⟨(Qy (QB.or (LA.or NL)) he.1 hl.1 hh.1).imp fun σ H Q=>by
 rintro⟨G₀,H₀,G,ρ,d,A,h,k⟩;unfold slF at h;obtain⟨x,hx,h⟩:=oBd h;obtain⟨l,hl,h⟩:=oBd h;obtain⟨u,hu,h⟩:=oBd h;refine⟨G₀,H₀,G,ρ,x,A,hx,fun v G1 H1 s1 r1=>⟨G₀,H₀,G1,ρ,l,A.step s1,hl,fun G2 H2 s2=>⟨G₀,H₀,G2,ρ,u,(A.step s1).step s2,hu,fun G3 H3 s3=>?_⟩⟩⟩;have s:=(s1.trans s2).trans s3;have r:=r1.mono (s2.gg.trans s3.gg);have gh:=s3.gh;unfold nr at h;split at h
 .cases h;obtain⟨a,vs,rfl,ha,rv⟩:=r.lst_inv;exact .inl ⟨a,vs,rfl,.inl (.inl (gh _ _ ha)),jJ gh (rv.cut l u) fun w G4 H4 s4 r4=>k w G4 H4 (s.trans s4) r4⟩
 .cases h;obtain⟨a,rfl,ha⟩:=r.scr_inv;refine .inl ⟨a,_,rfl,gh.seq ha,jJ gh ?_ fun w G4 H4 s4 r4=>k w G4 H4 (s.trans s4) r4⟩;show Reps Γ X.K G3 (eE _ l u) _;rw[JP];exact Reps.ints _
 .split at h
  .cases h
  .rename_i hw;cases h;obtain⟨a,vs,rfl,ha,rv⟩:=r.tup_inv;exact .inr (.inl ⟨a,vs,rfl,.inl (.inl (gh _ _ ha)),by rw[rv.length];exact hw,uv gh (rv.cut l u) fun w G4 H4 s4 r4=>k w G4 H4 (s.trans s4) r4⟩)
 .split at h
  .cases h;cases r.str_inv;exact .inr (.inr ⟨_,rfl,by assumption,k _ _ _ s (.str _)⟩)
  .cases h
 .cases h⟩
structure MtD (Γ:Cn) (X:Cx) (T id:cM) (g:D->ac D->ar D):Prop where
 ex:∃r,MtR X id r/\∀{G H v x vs ds z},bo G H->Rep Γ X.K G v x->Reps Γ X.K G vs ds->g x ds=aa z->∀Q:VK,(∀w G' H',Step G H G' H'->Rep Γ X.K G' w z->Q w H')->r v vs H Q
 ty:∀{G H v x ds z},bo G H->Rep Γ X.K G v x->g x ds=aa z->tyV X.K T v H
noncomputable def mF (g:D->ac D->ar D) (f:FE) (fr:FA):FE:=fun ρ=>(f ρ).bind fun d=>(fr ρ).bind fun ds=>g d ds
theorem iP {T id:cM} {g:D->ac D->ar D} (pa:PlainAttrs T) (slot:PySem.Slot T name id) (hty:zQ (.builtin id)=bq (.type "method_descriptor")) (hm:MtD Γ X T id g) (ho:DE Γ X o fo) (ha:DA Γ X (e::es) fr)
  (hbase:jr o name X.env (eval o X.env)=eval o X.env:=by rfl)
  (hfew:((cW cpos (bc (e::es) X.env)).all (fun x=>!x.1) && (l' cpos (ma [] X.env)).all (fun x=>x.1.isSome)
   && decide ((e::es).length+([]:ac jt).length+(if ([]:ac jt).isEmpty then 0 else 1)<30))=al:=by rfl)
  (hline:(apos.endLine==cpos.line)=al:=by rfl) (hs:bc (e::es) X.env=(aq,eval e X.env)::bc es X.env:=by rfl) (hplain:(cW cpos (bc es X.env)).any (·.1)=aq:=by rfl) :
  DE Γ X (.Call (.Attribute o name apos) (e::es) [] cpos) (mF g fo fr):=⟨by
 obtain⟨r,h1,h2⟩:=hm.ex;refine(pQ pa slot hty h1 ho.1 ha.1 hbase hfew hline hs hplain).imp fun σ H Q=>?_;rintro⟨G₀,H₀,G,ρ,d,A,h,k⟩;unfold mF at h;obtain⟨x,hx,h⟩:=oBd h;obtain⟨ds,hd,h⟩:=oBd h;exact⟨G₀,H₀,G,ρ,x,A,hx,fun v G1 H1 s1 r1=>⟨hm.ty s1.gh r1 h,G₀,H₀,G1,ρ,ds,A.step s1,hd,fun vs G2 H2 s2 r2=>h2 s2.gh (r1.mono s2.gg) r2 h Q fun w G3 H3 s3 r3=>k w G3 H3 ((s1.trans s2).trans s3) r3⟩⟩⟩
noncomputable def nh:ac D->ar (ac aj)
 |[]=>aa []
 |.str x::r=>(nh r).map (x::·)
 |_::_=>ae
def fC:D->ac D->ar D
 |.str sep,[.lst l]=>(nh l).bind fun ys=>if (ys.map (·.length)).sum+ys.length*sep.length<=16777216 then aa (.str (bV sep ys)) else ae
 |_,_=>ae
theorem DM {K:aV} {G:Hp}:∀{vs:ac V} {ds:ac D} {ys:ac aj},Reps Γ K G vs ds->nh ds=aa ys->vs=ys.map V.str
 |_,[],ys,r,h=>by cases r;cases h;rfl
 |_,d::ds,ys,.cons h1 h2,h=>by
  cases d with
  |str x=>
   obtain⟨zs,hz,rfl⟩:=oMd (show(nh ds).map (x::·)=aa ys from h);rw[h1.str_inv,DM h2 hz];rfl
  |_=>cases h
theorem AH:∀{ys:ac aj} {us:ac Value},bp (ys.map V.str) us->StrsAre us ys
 |[],_,r=>by rw[qO] at r;cases r;exact .nil
 |y::ys,_,r=>by
  rw[qm] at r;cases r with
  |cons r1 r2=>
   obtain⟨t,e⟩:=r1;subst e;exact .cons y t (AH r2)
theorem m6:MtD Γ X "str" "str.join" fC:=by
 refine⟨⟨fun v vs H Q=>∃sep a ys,v=.str sep/\vs=[.ref a]/\H a=aa (.lst (ys.map V.str))/\(ys.map (·.length)).sum+ys.length*sep.length<=16777216/\Q (.str (bV sep ys)) H,?_,?_⟩,?_⟩
 .intro pins s σ H x xs v us Q I rx rs h;obtain⟨sep,a,ys,rfl,rfl,ha,hz,q⟩:=h;obtain⟨t,rfl⟩:=rx;obtain⟨u,rfl,ru⟩:=gN rs;cases ru;obtain⟨its,rv,pl,_⟩:=I.list (.inl (.inl ha));exact join_list pl.isList (AH rv) hz fun t' k=>⟨.str _,H,I.tok k,⟨_,rfl⟩,q⟩
 .intro G H v x vs ds z gh r1 r2 h Q k;unfold fC at h;split at h
  .obtain⟨ys,hy,h⟩:=oBd h;split at h
   .cases h;cases r1.str_inv;obtain⟨v,rfl,r3⟩:=r2.one;obtain⟨a,ws,rfl,ha,rw'⟩:=r3.lst_inv;refine⟨_,a,ys,rfl,rfl,?_,by assumption,k _ G H .(ap) (.str _)⟩;rw[←DM rw' hy];exact gh _ _ ha
   .cases h
  .cases h
 .intro G H v x ds z gh r h;unfold fC at h;split at h
  .cases r.str_inv;exact rfl
  .cases h
noncomputable def ou:ac D->ar (ac ba)
 |[]=>aa []
 |.bl x::r=>(ou r).map (x::·)
 |_::_=>ae
theorem BP {K:aV} {G:Hp}:∀{vs:ac V} {ds:ac D} {ys:ac ba},Reps Γ K G vs ds->ou ds=aa ys->vs=ys.map V.bl
 |_,[],ys,r,h=>by cases r;cases h;rfl
 |_,d::ds,ys,.cons h1 h2,h=>by
  cases d with
  |bl x=>
   obtain⟨zs,hz,rfl⟩:=oMd (show(ou ds).map (x::·)=aa ys from h);rw[h1.bl_inv,BP h2 hz];rfl
  |_=>cases h
def fm:ac D->ar D
 |[.lst l]=>(ou l).map fun bs=>D.bl (bs.all id)
 |_=>ae
theorem Bj:∀{bs:ac ba} {us:ac Value},bp (bs.map V.bl) us->us=bs.map lT
 |[],_,r=>by rw[qO] at r;cases r;rfl
 |y::ys,_,r=>by
  rw[qm] at r;cases r with
  |cons r1 r2=>cases r1;rw[Bj r2];rfl
theorem LB (bs:ac ba):(cz bs.length).all (fun i=>bs.getD i aq)=bs.all id:=by
 rw[vi,ko,ko];constructor
 .intro h x hx;obtain⟨i,hi,e⟩:=GM.mp hx;have:=h i (fV.mpr hi);simp[GN,hi] at this;rw[←e];exact this
 .intro h i hi;have hi':=fV.mp hi;have:=h (bs[i]) (vD hi');simp[GN,hi'];exact this
theorem Ks {bs:ac ba} :TruthOf prog w A (fun i v=>(bs.map lT).toArray[i]?=aa v) (fun i=>bs.getD i aq):=fun i v s Q E hP hQ=>by
 have hP':(bs.map lT)[i]?=aa v:=by simpa using hP
 rw[qj] at hP';obtain⟨b,hb,rfl⟩:=oMd hP';have:bs.getD i aq=b:=by simp[GN,hb]
 have hQ':Q (bs.getD i aq) s:=hQ;rw[this] at hQ';exact lY hQ'
theorem gT (hc:X.calm=al):BltD Γ X "all" fm:=by
 refine⟨fun vs H Q=>∃(a:av) (bs:ac ba),vs=[.ref a]/\H a=aa (.lst (bs.map V.bl))/\Q (.bl (bs.all id)) H,?_,?_⟩
 .intro pins s σ H xs us Q I r h;obtain⟨a,bs,rfl,ha,q⟩:=h;obtain⟨u,rfl,ru⟩:=gN r;cases ru;obtain⟨its,rv,pl,_⟩:=I.list (.inl (.inl ha));have e:=Bj rv;subst e;refine call_all_walk (vE pl.isList ?_);have ne:a≠s.heap.objs.size:=by obtain⟨o,_,h1,_⟩:=pl;exact qC (qu h1)
  refine⟨s.heap.objs.size,_,_,_,_,_,fun i=>bs.getD i aq,rfl,GO (A:=X.A.in1) (show X.A.in1.handled=ae from I.ok.hd hc) s.heap.objs.size a ne (bs.map lT).toArray,⟨⟨_,qG _ rfl,rfl,rfl⟩,pl.isList.at fun o q=>qt _ q⟩,Ks,fun h' tk hk=>?_⟩;have e2:(bs.map lT).toArray.size=bs.length:=by simp
  rw[e2,LB];refine⟨.bl _,H,I.kept fun b o z=>hk b o ?_ (qt _ z),rfl,q⟩;intro z';have:b=s.heap.objs.size:=by simpa using z'
  exact bB (qu z) (by rw[this];exact oQ _)
 .intro G H vs ds z gh r h Q k;unfold fm at h;split at h
  .obtain⟨bs,hb,rfl⟩:=oMd h;obtain⟨v,rfl,r1⟩:=r.one;obtain⟨a,ws,rfl,ha,rw'⟩:=r1.lst_inv;refine⟨a,bs,rfl,?_,k _ G H .(ap) (.bl _)⟩;rw[←BP rw' hb];exact gh _ _ ha
  .cases h
end
structure Yd (Γ:Cn) (K:aV) (J:It) (G:Hp) (ds:ac D):Prop where
 go:∀(i:ah) d G2 H2,ds[i]?=aa d->bo G G2->bo G2 H2->J.go i H2/\∀x H3,J.yld i H2 x H3->∃G3,Step G2 H2 G3 H3/\Rep Γ K G3 x d
 stop:∀G2 H2,bo G G2->bo G2 H2->J.stop ds.length H2
inductive TDi (Γ:Cn) (K:aV) (f:FA) (σ:St) (H:Hp) (R:It->Hp->Prop):Prop where
 |mk:∀G₀ H₀ G ρ ds,At Γ K G₀ H₀ G H ρ σ->f ρ=aa ds->(∀J G' H',Step G H G' H'->Yd Γ K J G' ds->R J H')->TDi Γ K f σ H R
structure DI (Γ:Cn) (X:Cx) (tg e:Expr) (f:FA):Prop where
 out:PI X tg e (TDi Γ X.K f)
theorem PI.imp {t t':TI} (h:PI X tg e t) (i:∀σ H R,t' σ H R->t σ H R):PI X tg e t':=fun pins s σ H R I q=>h pins s σ H R I (i _ _ _ q)
variable {fi:FA} {ts:ac Expr} {fe:FE}
section
variable {a:Expr}
theorem K4 {a:av} (h:G a=aa (.tup vs)) (r:Reps Γ K G vs ds):Yd Γ K (Itt K a) G ds:=by refine⟨fun i d G2 H2 hd g1 g2=>?_,fun G2 H2 g1 g2=>⟨vs,.inl (.inl (g2 _ _ (g1 _ _ h))),by rw[r.length];exact qv _⟩⟩;obtain⟨v,hv,rv⟩:=r.get hd;refine⟨⟨vs,v,.inl (.inl (g2 _ _ (g1 _ _ h))),hv⟩,fun x H3 ⟨e1,e2⟩=>?_⟩;subst e1;have:=e2 vs (.inl (.inl (g2 _ _ (g1 _ _ h))));rw[hv] at this;cases this;exact⟨G2,.refl g2,rv.mono g1⟩
theorem Bq {a:av} (h:SqL K G a vs) (r:Reps Γ K G vs ds):Yd Γ K (Ite K a) G (ds.mapIdx fun i d=>D.tup [.int i,d]):=by refine⟨fun i d G2 H2 hd g1 g2=>?_,fun G2 H2 g1 g2=>⟨vs,g2.seq (g1.seq h),by rw[vF,r.length];exact qv _⟩⟩;rw[Tx] at hd;obtain⟨d',hd',rfl⟩:=oMd hd;obtain⟨v,hv,rv⟩:=r.get hd';refine⟨⟨vs,v,g2.seq (g1.seq h),hv⟩,fun x H3 ⟨T,y,e0,hT,e1,e2⟩=>?_⟩;subst e0;have:=e2 vs (g2.seq (g1.seq h));rw[hv] at this;cases this;subst e1;have s:=Step.new (o:=.tup [.int i,v]) g2 hT;exact⟨_,s,.tup bK (.cons (.int _) (.cons ((rv.mono g1).mono s.gg) .nil))⟩
noncomputable def rO:D->ar (ac D)
 |.lst l=>aa l
 |.tup l=>aa l
 |.scr l=>aa (l.map D.int)
 |_=>ae
def itF (f:FE):FA:=fun ρ=>(f ρ).bind rO
theorem RJ {l:Expr} {tl:TE} (hl:PE X l tl):PI X tg l (fun σ H R=>tl σ H fun x H1=>(∃a,x=.ref a/\(∃xs,SqL X.K H1 a xs)/\R (Itl X.K a) H1)\/(∃a,x=.ref a/\(∃xs,SqT X.K H1 a xs)/\R (Itt X.K a) H1)):=by
 intro pins s σ H R I h;refine thn (hl pins s σ H _ I h) fun v s1 ⟨x,H1,I1,r1,q1⟩=>?_;rcases q1 with⟨a,e,⟨xs,hq⟩,q⟩|⟨a,e,⟨xs,hq⟩,q⟩
 .subst e;cases r1;obtain⟨its,rv,p,hz⟩:=I1.list hq;refine vE p.isList ?_;refine⟨s1.heap.objs.size,[s1.heap.objs.size],_,_,H1,rfl,I1.kept (t':=s1.toks) fun b o e=>qt _ e,Mu a _,⟨_,qG _ rfl,rfl,rfl⟩,fun b hb=>?_,q⟩;have e:b=s1.heap.objs.size:=by simpa using hb
  subst e;exact I1.fpOk (qv _) (I1.hok.fresh (qv _))
 .subst e;cases r1;obtain⟨its,rv,p,hz⟩:=I1.tuple hq;refine wpAny_pyIter_tuple (show s1.heap.IsTuple a its.toArray from p) ?_;refine⟨s1.heap.objs.size,[s1.heap.objs.size],_,_,H1,rfl,I1.kept (t':=s1.toks) fun b o e=>qt _ e,LH a _,⟨_,qG _ rfl,rfl,rfl⟩,fun b hb=>?_,q⟩;have e:b=s1.heap.objs.size:=by simpa using hb
  subst e;exact I1.fpOk (qv _) (I1.hok.fresh (qv _))
theorem b9 (h:DE Γ X iter f):DI Γ X tg iter (itF f):=⟨(RJ h.1).imp fun σ H R=>by
 rintro⟨G₀,H₀,G,ρ,ds,A,h,k⟩;unfold itF at h;obtain⟨d,hd,h⟩:=oBd h;refine⟨G₀,H₀,G,ρ,d,A,hd,fun v G' H' s r=>?_⟩;unfold rO at h;split at h
 .cases h;obtain⟨a,vs,rfl,ha,rv⟩:=r.lst_inv;refine .inl ⟨a,rfl,⟨vs,.inl (.inl (s.gh _ _ ha))⟩,k _ G' H' s ?_⟩;refine⟨fun i d G2 H2 hd g1 g2=>?_,fun G2 H2 g1 g2=>⟨vs,.inl (.inl (g2 _ _ (g1 _ _ ha))),by rw[rv.length];exact qv _⟩⟩;obtain⟨v,hv,rv'⟩:=rv.get hd;refine⟨⟨vs,v,.inl (.inl (g2 _ _ (g1 _ _ ha))),hv⟩,fun x H3 ⟨e1,e2⟩=>?_⟩;subst e1;have:=e2 vs (.inl (.inl (g2 _ _ (g1 _ _ ha))));rw[hv] at this;cases this;exact⟨G2,.refl g2,rv'.mono g1⟩
 .cases h;obtain⟨a,vs,rfl,ha,rv⟩:=r.tup_inv;exact .inr ⟨a,rfl,⟨vs,.inl (.inl (s.gh _ _ ha))⟩,k _ G' H' s (K4 ha rv)⟩
 .rename_i l;cases h;obtain⟨a,rfl,ha⟩:=r.scr_inv;refine .inl ⟨a,rfl,⟨_,s.gh.seq ha⟩,k _ G' H' s ?_⟩;refine⟨fun i d G2 H2 hd g1 g2=>?_,fun G2 H2 g1 g2=>⟨_,g2.seq (g1.seq ha),by simp⟩⟩;rw[qj] at hd;obtain⟨n,hn,rfl⟩:=oMd hd;have hv:(GP V.int l)[i]?=aa (V.int n):=by rw[qj,hn];rfl
  refine⟨⟨_,_,g2.seq (g1.seq ha),hv⟩,fun x H3 ⟨e1,e2⟩=>?_⟩;subst e1;have:=e2 _ (g2.seq (g1.seq ha));rw[hv] at this;cases this;exact⟨G2,.refl g2,.int _⟩
 .cases h⟩
noncomputable def tU:D->ar (ac D)
 |.str x=>aa (x.cps.toList.map fun c=>D.str ⟨#[c]⟩)
 |_=>ae
def itS (f:FE):FA:=fun ρ=>(f ρ).bind tU
theorem Cu {n:aj} {q:dh} (h:DE Γ X iter f):DI Γ X (.Name n q) iter (itS f):=⟨(Qe h.1).imp fun σ H R=>by
 rintro⟨G₀,H₀,G,ρ,ds,A,h,k⟩;unfold itS at h;obtain⟨d,hd,h⟩:=oBd h;refine⟨G₀,H₀,G,ρ,d,A,hd,fun v G' H' s r=>?_⟩;unfold tU at h;split at h<;>cases h;cases r.str_inv;rename_i x;refine⟨x,rfl,k _ G' H' s ⟨fun i d G2 H2 hd g1 g2=>?_,fun G2 H2 g1 g2=>?_⟩⟩
 .rw[qj] at hd;obtain⟨c,hc,rfl⟩:=oMd hd;have hc':x.cps[i]?=aa c:=by simpa using hc
  refine⟨(iG.mp hc').1,fun y H3 ⟨e1,c2,h2,e2⟩=>?_⟩;subst e1;subst e2;rw[hc'] at h2;cases h2;exact⟨G2,.refl g2,.str _⟩
 .show _=x.cps.size;simp⟩
noncomputable def FJ:D->ar (ac D)
 |.lst l=>aa (l.mapIdx fun i d=>D.tup [.int i,d])
 |.scr l=>aa ((l.map D.int).mapIdx fun i d=>D.tup [.int i,d])
 |_=>ae
def itE (f:FE):FA:=fun ρ=>(f ρ).bind FJ
theorem mK {k1:ah} (hg:Gl X "enumerate") (hm:X.mg "enumerate"=ae) (h:DE Γ X a f) (hs:bc [a] X.env=[(aq,eval a X.env)]:=by rfl) (hs0:bc ([a]:ac Expr) X.env=(aq,eval a X.env)::bc [] X.env:=by rfl) :
  DI Γ X (.Tuple elts k1 tpos) (.Call (.Name "enumerate" p) [a] [] pos) (itE f):=⟨(MR hg hm (dq h.1 fD hs0) hs).imp fun σ H R=>by
 rintro⟨G₀,H₀,G,ρ,ds,A,h,k⟩;unfold itE at h;obtain⟨d,hd,h⟩:=oBd h;refine⟨G₀,H₀,G,ρ,d,A,hd,fun v G' H' s r=>?_⟩;unfold FJ at h;split at h
 .cases h;obtain⟨a,vs,rfl,ha,rv⟩:=r.lst_inv;exact⟨a,rfl,⟨vs,.inl (.inl (s.gh _ _ ha))⟩,k _ G' H' s (Bq (.inl (.inl ha)) rv)⟩
 .cases h;obtain⟨a,rfl,ha⟩:=r.scr_inv;exact⟨a,rfl,⟨_,s.gh.seq ha⟩,k _ G' H' s (Bq ha (Reps.ints _))⟩
 .cases h⟩
theorem D8 :Yd Γ K (Itr lo n) G ((cz n).map fun i:ah=>D.int (lo+i)):=by
 refine⟨fun i d G2 H2 hd g1 g2=>?_,fun G2 H2 g1 g2=>?_⟩
 .rw[qj] at hd;obtain⟨j,hj,rfl⟩:=oMd hd;have hi:i<n:=by have:=(db.mp hj).1;simpa using this
  have e:j=i:=by simpa[hi] using hj.symm
  subst e;refine⟨hi,fun x H3 ⟨e1,e2⟩=>?_⟩;subst e1;subst e2;exact⟨G2,.refl g2,.int _⟩
 .show n<=_;simp
noncomputable def gU:ac D->ar (ac D)
 |[.int j]=>if -(2 ^ 62)<=j/\j<2 ^ 62 then aa ((cz j.toNat).map fun i:ah=>D.int (0+i)) else ae
 |_=>ae
noncomputable def mX:ac D->ar (ac D)
 |[.int i,.int j]=>if -(2 ^ 62)<=i/\i<2 ^ 62 /\ -(2 ^ 62)<=j/\j<2 ^ 62 then aa ((cz (j-i).toNat).map fun k:ah=>D.int (i+k)) else ae
 |_=>ae
noncomputable def itR (g:ac D->ar (ac D)) (fr:FA):FA:=fun ρ=>(fr ρ).bind g
theorem kB (hg:Gl X "range") (hm:X.mg "range"=ae) (h:DA Γ X [a] fr) (hs:bc [a] X.env=[(aq,eval a X.env)]:=by rfl):DI Γ X tg (.Call (.Name "range" p) [a] [] pos) (itR gU fr):=⟨(LW hg hm h.1 hs).imp fun σ H R=>by
 rintro⟨G₀,H₀,G,ρ,ds,A,h,k⟩;unfold itR at h;obtain⟨d,hd,h⟩:=oBd h;refine⟨G₀,H₀,G,ρ,d,A,hd,fun v G' H' s r=>?_⟩;unfold gU at h;split at h
 .split at h
  .rename_i hz;cases h;obtain⟨v,rfl,r1⟩:=r.one;cases r1.int_inv;exact⟨_,rfl,hz.1,hz.2,k _ G' H' s D8⟩
  .cases h
 .cases h⟩
theorem Ow (hg:Gl X "range") (hm:X.mg "range"=ae) (h:DA Γ X [a,b] fr) (hs:bc [a,b] X.env=[(aq,eval a X.env),(aq,eval b X.env)]:=by rfl) (hs2:bc [b] X.env=[(aq,eval b X.env)]:=by rfl):DI Γ X tg (.Call (.Name "range" p) [a,b] [] pos) (itR mX fr):=⟨(Ig hg hm h.1 hs hs2).imp fun σ H R=>by
 rintro⟨G₀,H₀,G,ρ,ds,A,h,k⟩;unfold itR at h;obtain⟨d,hd,h⟩:=oBd h;refine⟨G₀,H₀,G,ρ,d,A,hd,fun v G' H' s r=>?_⟩;unfold mX at h;split at h
 .split at h
  .rename_i hz;cases h;obtain⟨v,u,rfl,r1,r2⟩:=r.two;cases r1.int_inv;cases r2.int_inv;exact⟨_,_,rfl,hz,k _ G' H' s D8⟩
  .cases h
 .cases h⟩
abbrev FG:=D->aX->ar aX
abbrev FGs:=ac D->aX->ar aX
inductive TDg (Γ:Cn) (K:aV) (g:FG) (v:V) (σ:St) (H:Hp) (Q:St->Hp->Prop):Prop where
 |mk:∀G₀ H₀ G ρ d ρ',At Γ K G₀ H₀ G H ρ σ->Rep Γ K G v d->g d ρ=aa ρ'->(∀σ',At Γ K G₀ H₀ G H ρ' σ'->Q σ' H)->TDg Γ K g v σ H Q
inductive TDgs (Γ:Cn) (K:aV) (g:FGs) (vs:ac V) (σ:St) (H:Hp) (Q:St->Hp->Prop):Prop where
 |mk:∀G₀ H₀ G ρ ds ρ',At Γ K G₀ H₀ G H ρ σ->Reps Γ K G vs ds->g ds ρ=aa ρ'->(∀σ',At Γ K G₀ H₀ G H ρ' σ'->Q σ' H)->TDgs Γ K g vs σ H Q
structure DG (Γ:Cn) (X:Cx) (tg:Expr) (g:FG):Prop where
 pg:PG X tg (TDg Γ X.K g)
 no:∀d ρ ρ',g d ρ=aa ρ'->gv ρ->gv ρ'
structure DGs (Γ:Cn) (X:Cx) (ts:ac Expr) (g:FGs):Prop where
 pg:PGs X ts (TDgs Γ X.K g)
 no:∀d ρ ρ',g d ρ=aa ρ'->gv ρ->gv ρ'
theorem PG.imp {t t':TG} (h:PG X tg t) (i:∀v σ H Q,t' v σ H Q->t v σ H Q):PG X tg t':=fun pins s σ H v u Q I r q=>h pins s σ H v u Q I r (i _ _ _ _ q)
theorem PGs.imp {t t':TGs} (h:PGs X ts t) (i:∀v σ H Q,t' v σ H Q->t v σ H Q):PGs X ts t':=fun pins s σ H v u Q I r q=>h pins s σ H v u Q I r (i _ _ _ _ q)
noncomputable def ay (i:ah):FG:=fun d ρ=>aa (ρ.set i (aa (.sh d)))
theorem JC (h:gv ρ):gv (ρ.set i (aa (.sh d))):=fun j ds e=>by
 by_cases hj:j=i
 .subst hj;rw[List.getElem?_set,qY rfl] at e;split at e<;>cases e;exact⟨_,rfl⟩
 .rw[qy (eh hj)] at e;exact h j ds e
theorem aP (i:ah) (hN:X.N.Nodup) (hi:X.N[i]?=aa x:=by rfl) (hx:Loc X.env.scope x:=by ac_nf) (hf:X.fn x=al\/X.env.scope.names.lookup x=aa .local:=by ac_nf):DG Γ X (.Name x pos) (ay i):=by
 refine⟨(JJ hN hi hx hf).imp fun v σ H Q=>?_,fun d ρ ρ' e h=>?_⟩
 .rintro⟨G₀,H₀,G,ρ,d,ρ',A,r,h,k⟩;cases h;exact k _ (A.setSh r)
 .cases e;exact JC h
noncomputable def bZ:FGs:=fun ds ρ=>match ds with
 |[]=>aa ρ
 |_=>ae
noncomputable def aM (g:FG) (gs:FGs):FGs:=fun ds ρ=>match ds with
 |d::r=>(g d ρ).bind fun ρ'=>gs r ρ'
 |_=>ae
theorem eB:DGs Γ X [] bZ:=by
 refine⟨J'.imp fun vs σ H Q=>?_,fun d ρ ρ' e h=>?_⟩
 .rintro⟨G₀,H₀,G,ρ,ds,ρ',A,r,h,k⟩;unfold bZ at h;split at h<;>cases h;cases r;exact⟨rfl,k σ A⟩
 .unfold bZ at e;split at e<;>cases e;exact h
theorem bA {g:FG} {gs:FGs} (h1:DG Γ X e g) (h2:DGs Γ X ts gs) (hs:(gd (e::ts) X.env).map (·.2)=iU e X.env::(gd ts X.env).map (·.2):=by rfl):DGs Γ X (e::ts) (aM g gs):=by
 refine⟨(Jy h1.pg h2.pg hs).imp fun vs σ H Q=>?_,fun ds ρ ρ' e h=>?_⟩
 .rintro⟨G₀,H₀,G,ρ,ds,ρ',A,r,h,k⟩;unfold aM at h;split at h
  .obtain⟨ρ1,h1,h⟩:=oBd h;cases r with
   |cons r1 r2=>exact⟨_,_,rfl,G₀,H₀,G,ρ,_,ρ1,A,r1,h1,fun σ1 A1=>⟨G₀,H₀,G,ρ1,_,ρ',A1,r2,h,k⟩⟩
  .cases h
 .unfold aM at e;split at e
  .obtain⟨ρ1,e1,e⟩:=oBd e;exact h2.no _ _ _ e (h1.no _ _ _ e1 h)
  .cases e
noncomputable def cs (n:ah) (gs:FGs):FG:=fun d ρ=>match d with
 |.tup ds=>if ds.length=n then gs ds ρ else ae
 |_=>ae
theorem gz {k:ah} {gs:FGs} (hc:X.calm=al) (h:DGs Γ X ts gs) (hn:(gd ts X.env).length=n:=by rfl) (hst:(gd ts X.env).findIdx? (·.1)=ae:=by rfl):DG Γ X (.Tuple ts k pos) (cs n gs):=by
 refine⟨(Od hc h.pg hn hst).imp fun v σ H Q=>?_,fun ds ρ ρ' e q=>?_⟩
 .rintro⟨G₀,H₀,G,ρ,d,ρ',A,r,h,k⟩;unfold cs at h;split at h
  .split at h
   .rename_i hl;obtain⟨a,vs,rfl,ha,rv⟩:=r.tup_inv;exact⟨a,vs,rfl,.inl (.inl (A.gh _ _ ha)),by rw[rv.length];exact hl,G₀,H₀,G,ρ,_,ρ',A,rv,h,k⟩
   .cases h
  .cases h
 .unfold cs at e;split at e
  .split at e
   .exact h.no _ _ _ e q
   .cases e
  .cases e
def gL (g:FG) (ft:FT) (fe:FE):ac D->aX->ar (ac D)
 |[],_=>aa []
 |x::xs,ρ=>(g x ρ).bind fun ρ1=>(ft ρ1).bind fun b=>if b=al then (fe ρ1).bind fun d=>(gL g ft fe xs ρ1).map (d::·) else gL g ft fe xs ρ1
noncomputable def gV (fv:ac (ar ah)) (ρ:aX):aX:=fv.map fun o=>o.bind fun j=>match ρ[j]? with
 |some (aa (.sh d))=>aa (.sh d)
 |_=>ae
def bh (fi:FA) (g:FG) (ft:FT) (fe:FE) (fv:ac (ar ah)):FA:=fun ρ=>(fi ρ).bind fun xs=>if xs.length<=aL then gL g ft fe xs (gV fv ρ) else ae
structure DTs (Γ:Cn) (X:Cx) (es:ac Expr) (f:FT):Prop where
 out:PTs X es (TDt Γ X.K f)
theorem PTs.imp {t t':TT} (h:PTs X es t) (i:∀σ H Q,t' σ H Q->t σ H Q):PTs X es t':=fun pins s σ H Q I q=>h pins s σ H Q I (i _ _ _ q)
noncomputable def tT:FT:=fun _=>aa al
theorem cu:DTs Γ X [] tT:=⟨KQ.imp fun σ H Q=>by rintro⟨G₀,H₀,G,ρ,b,A,h,k⟩;cases h;exact k G H (.refl A.gh)⟩
theorem pw (h:DT Γ X c ft):DTs Γ X [c] ft:=⟨OQ h.1⟩
variable {g:FG}
structure DB (Γ:Cn) (X:Cx) (N':ac aj) (scope:Scope) (tg:Expr) (ifs:ac Expr) (elt:Expr) (g:FG) (ft:FT) (fe:FE):Prop where
 out:∀(cl:ac (aj×av)) (C:av) (s₀:aH) (H₀:Hp) (fp:ac av),DG Γ (i8 X N' scope cl C s₀ H₀ fp) tg g/\DTs Γ (i8 X N' scope cl C s₀ H₀ fp) ifs ft/\DE Γ (i8 X N' scope cl C s₀ H₀ fp) elt fe
theorem DB.pb (h:DB Γ X N' scope tg ifs elt g ft fe):PB X N' scope tg ifs elt (TDg Γ X.K g) (TDt Γ X.K ft) (TD Γ X.K fe):=fun cl C s₀ H₀ fp=>⟨(h.1 cl C s₀ H₀ fp).1.pg,(h.1 cl C s₀ H₀ fp).2.1.1,(h.1 cl C s₀ H₀ fp).2.2.1⟩
theorem DL (A:At Γ K G₀ H₀ G H ρ σ):At Γ K G H G H (gV fv ρ) (iZ fv σ)/\gv (gV fv ρ):=by
 have no:gv (gV fv ρ):=fun i ds e=>by
  unfold gV at e;rw[qj] at e;obtain⟨o,ho,e⟩:=oMd e;cases o with
  |none=>cases e
  |some j=>
   simp only[qa] at e;split at e<;>cases e;exact⟨_,rfl⟩
 refine⟨⟨.refl A.gh,.ofSh (by simp[gV,iZ]) no fun i d e=>?_⟩,no⟩;unfold gV at e;unfold iZ;rw[qj] at e ⊢;obtain⟨o,ho,e⟩:=oMd e;rw[ho];cases o with
 |none=>cases e
 |some j=>
  simp only[qa] at e;split at e
  .rename_i d' hd';cases e;obtain⟨v,h1,h2⟩:=A.env.sh j d hd';exact⟨v,by simp[h1],h2⟩
  .cases e
theorem yT (no:∀d ρ ρ',g d ρ=aa ρ'->gv ρ->gv ρ'):∀σ H Q,TDo Γ X.K (bh fi g ft fe fv) σ H Q->tLC (TDi Γ X.K fi) (TDg Γ X.K g) (TDt Γ X.K ft) (TD Γ X.K fe) fv σ H Q:=by
 rintro σ H Q ⟨G₀,H₀,G,ρ,ds,A,h,k⟩;unfold bh at h;obtain⟨xs,hx,h⟩:=oBd h;split at h
 case isFalse=>cases h
 rename_i hz;refine⟨G₀,H₀,G,ρ,xs,A,hx,fun J G1 H1 s1 Y acc hacc=>?_⟩;have gacc:G1 acc=ae:=s1.gh.free hacc;obtain⟨A0,no0⟩:=DL (fv:=fv) (A.step s1);refine⟨fun i m ys σ' H'=>m=xs.length-i/\i<=xs.length/\ys.length<=i/\∃G' ρ' done bz,At Γ X.K G1 H1 G' H' ρ' σ'/\gv ρ'/\H' acc=aa (.lst ys)/\G' acc=ae/\Reps Γ X.K G' ys done/\gL g ft fe (xs.drop i) ρ'=aa bz/\done++bz=ds,?_,?_⟩
 .refine⟨xs.length,rfl,gX _,qv _,G1,gV fv ρ,[],ds,?_,no0,bK,gacc,.nil,by rw[mf];exact h,rfl⟩;have sn:=Step.newOwn (o:=.lst []) s1.gh hacc;exact⟨sn,.ofSh A0.env.len no0 A0.env.sh⟩
 .rintro i m ys σ' H' ⟨hm,hi,hyi,G',ρ',done,bz,A',no',hacc',gacc',ry,hr,hd⟩;subst hm;refine⟨hacc',?_⟩;by_cases hlt:i<xs.length
  .right
   have hxi:xs[i]?=aa xs[i]:=by simp[hlt]
   obtain⟨go,yl⟩:=Y.go i _ G' H' hxi A'.st.gg A'.gh;refine⟨go,fun x H2 hy=>?_⟩;obtain⟨G2,s2,r2⟩:=yl x H2 hy;have A2:=A'.step s2;have hdr:xs.drop i=xs[i]::xs.drop (i+1):=vG hlt;rw[hdr] at hr;unfold gL at hr;obtain⟨ρ1,h1,hr⟩:=oBd hr;obtain⟨b,h2,hr⟩:=oBd hr;refine⟨G1,H1,G2,ρ',_,ρ1,A2,r2,h1,fun σ2 A3=>⟨G1,H1,G2,ρ1,b,A3,h2,fun G4 H4 s4=>?_⟩⟩;have no1:=no _ _ _ h1 no';have hH4:H4 acc=aa (.lst ys):=s4.hh _ _ (s2.hh _ _ hacc');have hG4:G4 acc=ae:=(s4.out _ _ (s2.hh _ _ hacc')).trans ((s2.out _ _ hacc').trans gacc');cases b with
   |false=>
    rw[qZ qr] at hr;refine kh ⟨xs.length-(i+1),by omega,rfl,hlt,by omega,G4,ρ1,done,bz,A3.step s4,no1,hH4,hG4,(ry.mono s2.gg).mono s4.gg,hr,hd⟩
   |true=>
    rw[qY rfl] at hr;obtain⟨d,h3,hr⟩:=oBd hr;obtain⟨zs,h5,rfl⟩:=oMd hr;refine g9 ⟨G1,H1,G4,ρ1,d,A3.step s4,h3,fun v G5 H5 s5 r5=>?_⟩;have A5:=(A3.step s4).step s5;have hH5:H5 acc=aa (.lst ys):=s5.hh _ _ hH4;have hG5:G5 acc=ae:=(s5.out _ _ hH4).trans hG4;refine⟨hH5,by omega,xs.length-(i+1),by omega,rfl,hlt,by rw[qi,qW];omega,G5,ρ1,done++[d],zs,?_,no1,bK,hG5,((((ry.mono s2.gg).mono s4.gg).mono s5.gg).append (.cons r5 .nil)),h5,by rw[qw];exact hd⟩;refine⟨⟨fun b o e=>?_,A5.st.gg,fun b o e=>?_,A5.st.out⟩,.ofSh A5.env.len no1 A5.env.sh⟩
    .rw[aO (ce e hacc)];exact A5.st.hh b o e
    .rw[aO (ce e hG5)];exact A5.st.gh b o e
  .left
   have e:i=xs.length:=by omega
   subst e;rw[z4] at hr;cases hr;rw[iV] at hd;subst hd;refine⟨Y.stop G' H' A'.st.gg A'.gh,?_⟩;have hf:H'=upd (fun b=>if b=acc then ae else H' b) acc (.lst ys):=by
    funext b
    by_cases hb:b=acc
    .subst hb;rw[bK];exact hacc'
    .rw[aO hb,qZ hb]
   rw[hf];refine k acc ys G' (fun b=>if b=acc then ae else H' b) (s1.trans ⟨fun b o e=>?_,A'.st.gg,fun b o e=>?_,A'.st.out⟩) (qY rfl) ry
   .show(if b=acc then ae else H' b)=aa o;rw[qZ (ce e hacc)];exact A'.st.hh b o e
   .show(if b=acc then ae else H' b)=aa o;rw[qZ (ce e gacc')];exact A'.st.gh b o e
theorem c8 (hc:X.calm=al) (S:CompScope X scope) (F:FvOk X N' scope fv) (hi:DI Γ X tg iter fi) (hb:DB Γ X N' scope tg ifs elt g ft fe) (hs:∀x,lZ iter X.env x=bq x:=by intro _;rfl) :
  DO Γ X .(z) (bh fi g ft fe fv):=⟨(NV hc S F hi.1 hb.pb hs).imp (yT (hb.1 [] 0 X.s₀ X.H₀ []).1.no)⟩
end
variable {g:FS} {sts sa sb:ac Stmt} {gg:FG} {vp:dh}
section
variable {a:Expr} {g':FS}
noncomputable def aQ:FS:=fun ρ=>aa (.nx,ρ)
def aw (g g':FS):FS:=fun ρ=>(g ρ).bind fun r=>match r.1 with
 |.nx=>g' r.2
 |fl=>aa (fl,r.2)
theorem bL:DSs Γ X [] aQ:=⟨yM.imp fun E σ H=>by rintro⟨G₀,H₀,G,ρ,fl,ρ',A,h,k⟩;cases h;exact k σ G H (.refl _) A⟩
theorem aJ (h:DS Γ X st g):DSs Γ X [st] g:=⟨mV h.1⟩
theorem aA (h1:DS Γ X st g) (h2:DSs Γ X sts g'):DSs Γ X (st::sts) (aw g g'):=⟨(oG h1.1 h2.1).imp fun E σ H=>by
 rintro⟨G₀,H₀,G,ρ,fl,ρ',A,h,k⟩;unfold aw at h;obtain⟨⟨fl1,ρ1⟩,h1,h⟩:=oBd h;refine⟨G₀,H₀,G,ρ,fl1,ρ1,A,h1,fun σ1 G1 H1 sm A1=>?_⟩;cases fl1 with
 |nx=>exact⟨G₀,H₀,G1,ρ1,fl,ρ',A1,h,fun σ' G' H' sm' A'=>k σ' G' H' (sm.trans sm') A'⟩
 |bk=>cases h;exact k σ1 G1 H1 sm A1
 |ct=>cases h;exact k σ1 G1 H1 sm A1
 |rt d=>cases h;exact k σ1 G1 H1 sm A1
 |ow d=>cases h;exact k σ1 G1 H1 sm A1
 |nw d=>cases h;exact k σ1 G1 H1 sm A1
 |od d=>cases h;exact k σ1 G1 H1 sm A1⟩
def aN (f:FE):FS:=fun ρ=>(f ρ).map fun d=>(.rt d,ρ)
theorem aU (h:DE Γ X e f):DS Γ X (.Return (aa e) pos) (aN f):=⟨(uW h.1).imp fun E σ H=>by rintro⟨G₀,H₀,G,ρ,fl,ρ',A,h,k⟩;unfold aN at h;obtain⟨d,hd,h⟩:=oMd h;cases h;exact⟨G₀,H₀,G,ρ,d,A,hd,fun v G' H' s r=>k σ G' H' s.gg (A.step s) v r⟩⟩
noncomputable def aE (i:ah) (f:FE):FS:=fun ρ=>(f ρ).map fun d=>(.nx,ρ.set i (aa (.sh d)))
theorem aZ (i:ah) (hN:X.N.Nodup) (h:DE Γ X e f) (hi:X.N[i]?=aa x:=by rfl) (hx:Loc X.env.scope x:=by ac_nf) (hs:e8 e (aa (.Name x pos')) pos.line X.env=bq aq:=by rfl) (hf:X.fn x=al\/X.env.scope.names.lookup x=aa .local:=by ac_nf) :
  DS Γ X (.Assign [.Name x pos'] e pos) (aE i f):=⟨(oz hN hi hx h.1 hs hf).imp fun E σ H=>by
 rintro⟨G₀,H₀,G,ρ,fl,ρ',A,h,k⟩;unfold aE at h;obtain⟨d,hd,h⟩:=oMd h;cases h;exact⟨G₀,H₀,G,ρ,d,A,hd,fun v G' H' s r=>k _ G' H' s.gg ((A.step s).setSh r)⟩⟩
noncomputable def cE (i:ah) (f:FA):FS:=fun ρ=>(f ρ).map fun d=>(.nx,ρ.set i (aa (.own d)))
theorem Ft :∀E σ H,TDs Γ X.K (cE i fr) E σ H->lx (TDo Γ X.K fr) (lH i) E σ H:=by rintro E σ H ⟨G₀,H₀,G,ρ,fl,ρ',A,h,k⟩;unfold cE at h;obtain⟨d,hd,h⟩:=oMd h;cases h;exact⟨G₀,H₀,G,ρ,d,A,hd,fun p vs G' H' s hp r=>k _ G' _ s.gg ((A.step s).setOwn hp r)⟩
theorem fX (i:ah) (hN:X.N.Nodup) (h:DO Γ X e fr) (hi:X.N[i]?=aa x:=by rfl) (hx:Loc X.env.scope x:=by ac_nf) (hs:e8 e (aa (.Name x pos')) pos.line X.env=bq aq:=by rfl) (hf:X.fn x=al\/X.env.scope.names.lookup x=aa .local:=by ac_nf) :
  DS Γ X (.Assign [.Name x pos'] e pos) (cE i fr):=⟨(oz hN hi hx h.1 hs hf).imp Ft⟩
theorem KU :∀E σ H,TDs Γ X.K (aE i (aF fr)) E σ H->lx (TDo Γ X.K fr) (lH i) E σ H:=by rintro E σ H ⟨G₀,H₀,G,ρ,fl,ρ',A,h,k⟩;unfold aE aF at h;obtain⟨d,hd,h⟩:=oMd h;obtain⟨ds,hd',rfl⟩:=oMd hd;cases h;refine⟨G₀,H₀,G,ρ,ds,A,hd',fun p vs G' H' s hp r=>?_⟩;have s2:=Step.new (o:=.lst vs) s.gh hp;exact k _ _ _ (s.gg.trans s2.gg) (((A.step s).step s2).setSh (.lst bK (r.mono s2.gg)))
theorem jd (i:ah) (hN:X.N.Nodup) (hc:X.calm=al) (S:CompScope X scope) (F:FvOk X N' scope fv) (hi:DI Γ X tg iter fi) (hb:DB Γ X N' scope tg ifs elt gg ft fe)
  (hy:X.N[i]?=aa y:=by rfl) (hyl:X.env.scope.names.lookup y=aa .local:=by rfl) (hsw:e8 .(z) (aa (.Name y py)) spos.line X.env=bq al:=by rfl) (hs:∀x,lZ iter X.env x=bq x:=by intro _;rfl) :
  DS Γ X (.Assign [.Name y py] .(z) spos) (aE i (aF (bh fi gg ft fe fv))):=⟨(we hN hy hyl hc S F hi.1 hb.pb hsw hs).imp fun E σ H q=>yT (hb.1 [] 0 X.s₀ X.H₀ []).1.no σ H _ (KU E σ H q)⟩
theorem Q8 (i:ah) (hN:X.N.Nodup) (hc:X.calm=al) (S:CompScope X scope) (F:FvOk X N' scope fv) (hi:DI Γ X tg iter fi) (hb:DB Γ X N' scope tg ifs elt gg ft fe)
  (hy:X.N[i]?=aa y:=by rfl) (hyl:X.env.scope.names.lookup y=aa .local:=by rfl) (hsw:e8 .(z) (aa (.Name y py)) spos.line X.env=bq al:=by rfl) (hs:∀x,lZ iter X.env x=bq x:=by intro _;rfl) :
  DS Γ X (.Assign [.Name y py] .(z) spos) (cE i (bh fi gg ft fe fv)):=⟨(we hN hy hyl hc S F hi.1 hb.pb hsw hs).imp fun E σ H q=>yT (hb.1 [] 0 X.s₀ X.H₀ []).1.no σ H _ (Ft E σ H q)⟩
noncomputable def cb (i:ah) (f:FE):FS:=fun ρ=>match ρ[i]? with
 |some (aa (.own ds))=>(f ρ).bind fun d=>if ds.length<aL then aa (.nx,ρ.set i (aa (.own (ds++[d])))) else ae
 |_=>ae
theorem fP (i:ah) (h:DE Γ X e f) (hN:X.N[i]?=aa x:=by rfl) (hv:Vis X.env.scope x:=by ac_nf) (hd:.(x)=aq:=by decide)
  (hcd:.(aC)=aq:=by decide)
  (hbase:jr .(X) "append" X.env (eval .(X) X.env)=eval .(X) X.env:=by rfl)
  (hfew:((cW cpos (bc [e] X.env)).all (fun x=>!x.1) && (l' cpos (ma [] X.env)).all (fun x=>x.1.isSome)
   && decide .(aE))=al:=by rfl)
  (hline:(apos.endLine==cpos.line)=al:=by rfl) (hs:bc [e] X.env=(aq,eval e X.env)::bc [] X.env:=by rfl) (hplain:(cW cpos (bc [] X.env)).any (·.1)=aq:=by rfl)
  (hsw:e8 (.Call (.Attribute .(X) "append" apos) [e] [] cpos) ae pos.line X.env=bq aq:=by rfl) :
  DS Γ X (.Expr (.Call (.Attribute .(X) "append" apos) [e] [] cpos) pos) (cb i f):=⟨(pO (pQ z5 zT GQ sU (eC hN hv hd hcd) (dq h.1 fD hs) hbase hfew hline hs hplain) hsw).imp fun E σ H=>by
  rintro⟨G₀,H₀,G,ρ,fl,ρ',A,h,k⟩;unfold cb at h;split at h
  .rename_i ds hi;obtain⟨d,hd,h⟩:=oBd h;split at h
   .rename_i hz;cases h;obtain⟨a,vs,h1,h2,h3,h4,h5⟩:=A.env.own i ds hi;refine⟨.ref a,h1,.inl ⟨rfl,vs,.inl (.inl h4)⟩,G₀,H₀,G,ρ,d,A,hd,fun v G1 H1 s1 r1=>?_⟩;have A1:=A.step s1;refine⟨a,vs,v,rfl,rfl,s1.hh _ _ h4,by rw[h5.length];exact hz,?_⟩;exact k σ G1 _ s1.gg (A1.chOwn hi h1 ((h5.mono s1.gg).append (.cons r1 .nil)))
   .cases h
  .cases h⟩
noncomputable def fB (i:ah) (g:FS):FS:=fun ρ=>match ρ[i]? with
 |some (aa (.own ds))=>g (ρ.set i (aa (.sh (.lst ds))))
 |_=>ae
theorem TDs.frz (i:ah):∀E σ H,TDs Γ X.K (fB i g) E σ H->TDs Γ X.K g E σ H:=by
 rintro E σ H ⟨G₀,H₀,G,ρ,fl,ρ',A,h,k⟩;unfold fB at h;split at h
 .rename_i ds hi;obtain⟨G',sm,A'⟩:=A.freeze hi;exact⟨G₀,H₀,G',_,fl,ρ',A',h,fun σ1 G1 H1 sm1 A1=>k σ1 G1 H1 (sm.trans sm1) A1⟩
 .cases h
theorem i0 (i:ah) (h:DSs Γ X sts g):DSs Γ X sts (fB i g):=⟨h.1.imp (TDs.frz i)⟩
noncomputable def sIf (ft:FT) (g g':FS):FS:=fun ρ=>(ft ρ).bind fun c=>if c=al then g ρ else g' ρ
theorem bI (hc:DT Γ X c ft) (ha:DSs Γ X sa g) (hb:DSs Γ X sb g'):DS Γ X (.If c sa sb pos) (sIf ft g g'):=⟨(wR hc.1 ha.1 hb.1).imp fun E σ H=>by
 rintro⟨G₀,H₀,G,ρ,fl,ρ',A,h,k⟩;unfold sIf at h;obtain⟨x,hx,h⟩:=oBd h;refine⟨G₀,H₀,G,ρ,x,A,hx,fun G1 H1 s1=>?_⟩;cases x with
 |true=>exact g9 ⟨G₀,H₀,G1,ρ,fl,ρ',A.step s1,by simpa using h,fun σ2 G2 H2 sm2 A2=>k σ2 G2 H2 (s1.gg.trans sm2) A2⟩
 |false=>exact kh ⟨G₀,H₀,G1,ρ,fl,ρ',A.step s1,by simpa using h,fun σ2 G2 H2 sm2 A2=>k σ2 G2 H2 (s1.gg.trans sm2) A2⟩⟩
noncomputable def gO (gg:FG) (f:FE):FS:=fun ρ=>(f ρ).bind fun d=>(gg d ρ).map fun ρ'=>(.nx,ρ')
theorem nj (h:DE Γ X e f) (hg:DG Γ X tg gg) (hs:F8 [tg] e pos.line X.env=bq aq:=by rfl) (hw:F9 [tg] e X.env=bq ae:=by rfl)
  (h1:(gd [tg] X.env).map (·.2)=[iU tg X.env]:=by rfl):DS Γ X (.Assign [tg] e pos) (gO gg f):=⟨(D9 h.1 hg.pg hs hw h1).imp fun E σ H=>by
 rintro⟨G₀,H₀,G,ρ,fl,ρ',A,h,k⟩;unfold gO at h;obtain⟨d,hd,h⟩:=oBd h;obtain⟨ρ1,h1,h⟩:=oMd h;cases h;exact⟨G₀,H₀,G,ρ,d,A,hd,fun v G' H' s r=>⟨G₀,H₀,G',ρ,d,ρ',A.step s,r,h1,fun σ' A'=>k σ' G' H' s.gg A'⟩⟩⟩
def dj (gg:FG) (body:FS):ac D->FS
 |[],ρ=>aa (.nx,ρ)
 |x::xs,ρ=>(gg x ρ).bind fun ρ1=>(body ρ1).bind fun r=>match r.1 with
  |.nx=>dj gg body xs r.2
  |.ct=>dj gg body xs r.2
  |.bk=>aa (.nx,r.2)
  |.rt d=>aa (.rt d,r.2)
  |.ow d=>aa (.ow d,r.2)
  |.nw d=>aa (.nw d,r.2)
  |.od d=>aa (.od d,r.2)
def ci (fi:FA) (gg:FG) (body:FS):FS:=fun ρ=>(fi ρ).bind fun xs=>dj gg body xs ρ
theorem eT (hp:vf .(k) X.A X.env X.xe) (hc:X.calm=al) (hi:DI Γ X tg iter fi) (hg:DG Γ X tg gg) (hb:DSs Γ X body g) (hs:∀x,lZ iter X.env x=bq x:=by intro _;rfl) :
  DS Γ X (.For tg iter body [] pos) (ci fi gg g):=⟨(CK hp hc hi.1 hg.pg hb.1 hs).imp fun E σ H=>by
 rintro⟨G₀,H₀,G,ρ,fl,ρ',A,h,k⟩;unfold ci at h;obtain⟨xs,hx,h⟩:=oBd h;refine⟨G₀,H₀,G,ρ,xs,A,hx,fun J G1 H1 s1 Y=>?_⟩;refine⟨fun i m σ' H'=>m=xs.length-i/\i<=xs.length/\∃G' ρ1,bo G1 G'/\At Γ X.K G₀ H₀ G' H' ρ1 σ'/\dj gg g (xs.drop i) ρ1=aa (fl,ρ'),⟨xs.length,rfl,gX _,G1,ρ,.refl _,A.step s1,by rw[mf];exact h⟩,?_⟩;rintro i m σ' H' ⟨rfl,hi,G',ρ1,sm,A',hr⟩;by_cases hlt:i<xs.length
 .right
  have hxi:xs[i]?=aa xs[i]:=by simp[hlt]
  obtain⟨go,yl⟩:=Y.go i _ G' H' hxi sm A'.gh;have hdr:xs.drop i=xs[i]::xs.drop (i+1):=vG hlt;rw[hdr] at hr;unfold dj at hr;obtain⟨ρ2,h2,hr⟩:=oBd hr;obtain⟨⟨fl3,ρ3⟩,h3,hr⟩:=oBd hr;refine⟨go,fun σ3 H3=>(fl3=.nx\/fl3=.ct)/\∃G3,bo G1 G3/\At Γ X.K G₀ H₀ G3 H3 ρ3 σ3,fun σ3 H3 ⟨hfl,G3,sm3,A3⟩=>?_,fun x H2 hy=>?_⟩
  .refine⟨xs.length-(i+1),by omega,rfl,hlt,G3,ρ3,sm3,A3,?_⟩;rcases hfl with e|e<;>subst e<;>exact hr
  .obtain⟨G2,s2,r2⟩:=yl x H2 hy;refine⟨G₀,H₀,G2,ρ1,_,ρ2,A'.step s2,r2,h2,fun σ2 A2=>⟨G₀,H₀,G2,ρ2,fl3,ρ3,A2,h3,fun σ3 G3 H3 sm3 A3=>?_⟩⟩;have smm:bo G1 G3:=(sm.trans s2.gg).trans sm3;cases fl3 with
   |nx=>exact⟨.inl rfl,G3,smm,A3⟩
   |ct=>exact⟨.inr rfl,G3,smm,A3⟩
   |bk=>cases hr;exact k σ3 G3 H3 (s1.gg.trans smm) A3
   |rt d=>cases hr;exact k σ3 G3 H3 (s1.gg.trans smm) A3
   |ow d=>cases hr;exact k σ3 G3 H3 (s1.gg.trans smm) A3
   |nw d=>cases hr;exact k σ3 G3 H3 (s1.gg.trans smm) A3
   |od d=>cases hr;exact k σ3 G3 H3 (s1.gg.trans smm) A3
 .left
  have e:i=xs.length:=by omega
  subst e;rw[z4] at hr;cases hr;exact⟨Y.stop G' H' sm A'.gh,k σ' G' H' (s1.gg.trans sm) A'⟩⟩
end
variable {fk:FE} {m:ah} {F:ac D->ar D}
section
variable {a:Expr} {fw:FE}
theorem KL:DE Γ X (.Dict [] [] pos) (vC (.dk [])):=⟨FU.imp fun σ H Q=>by rintro⟨G₀,H₀,G,ρ,d,A,h,k⟩ p hp;cases h;have s:=Step.new (o:=.dK []) A.gh hp;exact k _ _ _ s (.dk (us:=[]) (kvs:=[]) bK rfl .nil)⟩
inductive spF (Γ:Cn) (K:aV) (n:ah) (F:ac D->ar D) (vs:ac V) (H:Hp) (Q:VK) (_e3:XK):Prop where
 |mk:∀G ds d,bo G H->Reps Γ K G vs ds->ds.length=n->F ds=aa d->(∀v G' H',Step G H G' H'->Rep Γ K G' v d->Q v H')->spF Γ K n F vs H Q _e3
def bj (n:ah) (g:FS):ac D->ar D:=fun ds=>(g (ds.map (fun d=>aa (Slot.sh d))++bS n ae)).bind fun r=>match r.1 with
 |.rt d=>aa d
 |.nx=>aa .non
 |_=>ae
theorem Dj (gh:bo G H) (r:Reps Γ K G vs ds) (hm:m=N.length-vs.length):At Γ K G H G H (ds.map (fun d=>aa (Slot.sh d))++bS m ae) (ie N vs):=by
 have no:gv (ds.map (fun d=>aa (Slot.sh d))++bS m ae):=fun i es e=>by
  by_cases hi:i<ds.length
  .rw[qz (by simpa using hi),qj] at e;obtain⟨d,_,e⟩:=oMd e;cases e;exact⟨_,rfl⟩
  .rw[qK (by simpa using hi),zH] at e;split at e<;>cases e
 refine⟨.refl gh,.ofSh (by simp[ie,r.length,hm]) no fun i d e=>?_⟩;by_cases hi:i<ds.length
 .rw[qz (by simpa using hi),qj] at e;obtain⟨d',hd,e⟩:=oMd e;cases e;obtain⟨v,hv,rv⟩:=r.get hd;refine⟨v,?_,rv⟩;unfold ie;rw[qz (by rw[qe,r.length];exact hi),qj,hv];rfl
 .rw[qK (by simpa using hi),zH] at e;split at e<;>cases e
theorem Fun.okD {f:av} {k:ah} (F:Fun K x qual st f fd) (S:FnScope N ps (aW st))
  (hbody:∀(cdv:Value) (A:eU) (outer:ac cN) (s:aH) (H:Hp) (E:XK),Room k .(as)->
   DSs Γ .(az).nox (eN st) g):FnOk P w K mg base CX0 (k+1) f fd ps (spF Γ K ps.length (bj (N.length-ps.length) g)):=by
 refine F.ok S (fun vs H Q E h=>?_) (fun cdv A outer s H vs Q E hr h=>?_)
 .obtain⟨G,ds,d,_,r,hl,_⟩:=h;rw[r.length,hl]
 .obtain⟨G,ds,d,gh,r,hl,hd,k⟩:=h;refine⟨_,(hbody cdv A outer s H E hr).1,?_⟩;unfold bj at hd;obtain⟨⟨fl,ρ'⟩,hg,hd⟩:=oBd hd;refine⟨G,H,G,_,fl,ρ',Dj gh r (by rw[r.length,hl]),hg,fun σ' G' H' sm A'=>?_⟩;cases fl with
  |rt d'=>cases hd;exact fun v rv=>k v G' H' A'.st rv
  |nx=>cases hd;exact k .non G' H' A'.st .non
  |bk=>cases hd
  |ct=>cases hd
  |ow d=>cases hd
  |nw d=>cases hd
  |od d=>cases hd
theorem K6 {k:ah} {fx:av} (Fo:FnOk X.prog X.w X.K X.mg X.base CX0 k fx fd ps (spF Γ X.K n F)) (hr:Room k X.A) (hg:Gl X x) (hm:X.mg x=aa (.ref fx)) (hk:gI X.K (.ref fx)=al) (hb:fS X.K fd ps [])
  (ha:DA Γ X (e::es) fr) (hn:∀ρ ds,fr ρ=aa ds->ds.length=n) (hdb:.(x)=aq:=by decide) (he:bc (e::es) X.env=(aq,eval e X.env)::bc es X.env:=by rfl) (hpl:.(aO).any (·.1)=aq:=by rfl) :
  DE Γ X .(ag) (cF F fr):=⟨(Ev Fo hr hg hm hk hb .nil uH ha.1 hdb he hpl).imp fun σ H Q=>by
 rintro⟨G₀,H₀,G,ρ,d,A,h,k⟩;unfold cF at h;obtain⟨ds,hd,h⟩:=oBd h;refine⟨G₀,H₀,G,ρ,ds,A,hd,fun vs G1 H1 s1 r1=>?_⟩;show spF Γ X.K n F (vs++[]) H1 Q E0;rw[iV];exact⟨G1,ds,d,s1.gh,r1,hn ρ ds hd,h,fun v G' H' s r=>k v G' H' (s1.trans s) r⟩⟩
theorem RO (h:ao ρ=aa ds):ds.length=0:=by cases h;rfl
theorem nq (hn:∀ρ ds,fr ρ=aa ds->ds.length=n):∀ρ ds,af fa fr ρ=aa ds->ds.length=n+1:=fun ρ ds h=>by unfold af at h;obtain⟨x,hx,h⟩:=oBd h;obtain⟨xs,hxs,rfl⟩:=oMd h;rw[qh,hn ρ xs hxs]
end
structure Cal (Γ:Cn) (P:ef) (w:cT) (K:aV) (mg:aj->ar Value) (base:Heap) (x:aj) (n k:ah) (F:ac D->ar D):Prop where
 ex:∃f fd ps,FnOk P w K mg base CX0 k f fd ps (spF Γ K n F)/\mg x=aa (.ref f)/\gI K (.ref f)=al/\fS K fd ps []
structure Dfn (K:aV) (mg:aj->ar Value) (x:aj) (st:Stmt):Prop where
 ex:∃f fd,Fun K x x st f fd/\mg x=aa (.ref f)
theorem i6 {k:ah} (C:Cal Γ X.prog X.w X.K X.mg X.base x n k F) (hr:Room j X.A) (hk:k<=j) (hg:Gl X x) (ha:DA Γ X (e::es) fr) (hn:∀ρ ds,fr ρ=aa ds->ds.length=n)
  (hdb:.(x)=aq:=by decide) (he:bc (e::es) X.env=(aq,eval e X.env)::bc es X.env:=by rfl) (hpl:.(aO).any (·.1)=aq:=by rfl) :
  DE Γ X .(ag) (cF F fr):=by
 obtain⟨f,fd,ps,h1,h2,h3,h4⟩:=C.ex;exact K6 h1 (hr.mono hk) hg h2 h3 h4 ha hn hdb he hpl
theorem Dfn.cal {k:ah} (F:Dfn K mg x st) (S:FnScope N ps (aW st))
  (hb:∀(kV doc pm:Value) (an:ar av) (cdv ct:Value) (us:ac Value),us.length=ps.length->l9 (ik x x (io st) (eN st) (aW st) .none kV doc pm an cdv ct) ⟨us,[]⟩=bq (ps.zip us))
  (hbody:∀(f:av) (cdv:Value) (A:eU) (outer:ac cN) (s:aH) (H:Hp) (E:XK),Room k (A.deeper (cX x (aW st) s.heap.objs.size f cdv))->
   DSs Γ (eS CX0 P w K mg base N x (aW st) f cdv A outer s H E).nox (eN st) g):Cal Γ P w K mg base x ps.length (k+1) (bj (N.length-ps.length) g):=by
 obtain⟨f,fd,h1,h2⟩:=F.ex;exact⟨f,fd,ps,h1.okD S (hbody f),h2,h1.kp,h1.binds hb⟩
theorem Dfn.mk' {h:Heap} {f:av} {kV:Value} (X:K.In h) (G:h.Ns dL mg) (a:iX K dL x=aa (aa (.ref f)))
  (l:K.lookup f=aa ⟨oc,od,.func (ik x x (io st) (eN st) (aW st) .none kV doc pm an cdv ct),osl⟩) (c:sG K cdv x=al) (k:gI K (.ref f)=al):Dfn K mg x st:=
 ⟨f,_,yY l c k,il X G a⟩
noncomputable def Ef (names:ac (aj×iF)) (outer:ac (aj×iF)):ba:=
 names.all fun y=>y.2 != .cell && (y.2 != .local || names.lookup y.1==aa .local) && (y.2 != .free || outer.lookup y.1==aa .cell || outer.lookup y.1==aa .free)
theorem CompScope.of (hk:scope.kind=.function) (h:Ef scope.names X.env.scope.names=al):CompScope X scope:=by
 unfold Ef at h;rw[ko] at h;refine⟨hk,fun y hy e=>?_,fun y hy e=>?_,fun y hy e=>?_⟩
 .have:=h y hy;rw[e] at this;simp at this
 .have:=h y hy;rw[e] at this;simpa using this
 .have:=h y hy;rw[e] at this;simpa[Env.kindOf] using this
noncomputable def Bg (N':ac aj) (fv:ac (ar ah)) (N:ac aj) (outer names:ac (aj×iF)):ba:=
 fv.length==N'.length && (N'.zip fv).all fun y=>match y.2 with
  |none=>al
  |some j=>N[j]?==aa y.1 && (outer.lookup y.1==aa .cell || outer.lookup y.1==aa .free) && names.lookup y.1==aa .free
theorem FvOk.of (h:Bg N' fv X.N X.env.scope.names scope.names=al):FvOk X N' scope fv:=by
 unfold Bg at h;rw[ge,ko] at h;obtain⟨h1,h2⟩:=h;refine⟨by simpa using h1,fun i j x e1 e2=>?_⟩;have hm:(x,aa j)∈N'.zip fv:=by refine vH.mpr ⟨i,?_⟩;rw[List.getElem?_zip_eq_some];exact⟨e1,e2⟩
 have:=h2 _ hm;simp only[ge,GJ,jq] at this;exact⟨this.1.1,this.1.2,this.2⟩
mutual
def pdD:D->ar vI
 |.non=>aa .none
 |.bl b=>aa (.bool b)
 |.int i=>aa (.int i)
 |.str x=>aa (.str x)
 |.tup l=>(fH l).map Tz
 |.lst l=>(fH l).map PyData.list
 |.scr ns=>aa (.list (ns.map o9))
 |_=>ae
def fH:ac D->ar (ac vI)
 |[]=>aa []
 |d::r=>(pdD d).bind fun p=>(fH r).map (p::·)
end
theorem EL {h:Heap}:∀{ns:ac ag} {us:ac Value},bp (ns.map V.int) us->∃as,ReadsAll h us (ns.map o9) as
 |[],_,r=>by rw[qO] at r;cases r;exact⟨_,.nil⟩
 |n::ns,_,r=>by
  rw[qm] at r;cases r with
  |cons r1 r2=>
   obtain⟨t,e⟩:=r1;subst e;obtain⟨as,q⟩:=EL r2;exact⟨_,.cons (.int n t) q⟩
mutual
theorem Rep.reads (I:Inv X pins σ H s) (gh:bo G H):∀{v:V} {d:D} {u:Value} {p:vI},Rep Γ X.K G v d->bC v u->pdD d=aa p->∃as,Reads s.heap u p as
 |_,_,u,p,.non,r,h=>by cases r;rw[pdD] at h;cases h;exact⟨_,.none⟩
 |_,_,u,p,.bl b,r,h=>by cases r;rw[pdD] at h;cases h;exact⟨_,.bool b⟩
 |_,_,u,p,.int i,r,h=>by obtain⟨t,rfl⟩:=r;rw[pdD] at h;cases h;exact⟨_,.int i t⟩
 |_,_,u,p,.str x,r,h=>by obtain⟨t,rfl⟩:=r;rw[pdD] at h;cases h;exact⟨_,.str x t⟩
 |_,_,u,p,.ty n,r,h=>by rw[pdD] at h;cases h;all_goals (intros;contradiction)
 |_,_,u,p,.tup ha rs,r,h=>by
  cases r;rw[pdD] at h;obtain⟨ps,hp,rfl⟩:=oMd h;obtain⟨its,rv,⟨o,e1,e2,n,e3⟩,_⟩:=I.tuple (.inl (.inl (gh _ _ ha)));obtain⟨as,q⟩:=Reps.reads I gh rs rv hp;exact⟨_,.tuple e1 e2 e3 (by simpa using q)⟩
 |_,_,u,p,.lst ha rs,r,h=>by
  cases r;rw[pdD] at h;obtain⟨ps,hp,rfl⟩:=oMd h;obtain⟨its,rv,⟨o,n,e1,e2,_,e3⟩,_⟩:=I.list (.inl (.inl (gh _ _ ha)));obtain⟨as,q⟩:=Reps.reads I gh rs rv hp;exact⟨_,.list e1 e2 e3 (by simpa using q)⟩
 |_,_,u,p,.scr hs,r,h=>by
  cases r;rw[pdD] at h;cases h;obtain⟨its,rv,⟨o,n,e1,e2,_,e3⟩,_⟩:=I.list (gh.seq hs);obtain⟨as,q⟩:=EL (h:=s.heap) rv;exact⟨_,.list e1 e2 e3 (by simpa using q)⟩
 |_,_,u,p,.dk ha _ _,r,h=>by rw[pdD] at h;cases h;all_goals (intros;contradiction)
 |_,_,u,p,.dt ha _ _,r,h=>by rw[pdD] at h;cases h;all_goals (intros;contradiction)
 |_,_,u,p,.ins ha _ _ _,r,h=>by rw[pdD] at h;cases h;all_goals (intros;contradiction)
theorem Reps.reads (I:Inv X pins σ H s) (gh:bo G H):∀{vs:ac V} {ds:ac D} {us:ac Value} {ps:ac vI},Reps Γ X.K G vs ds->bp vs us->fH ds=aa ps->∃as,ReadsAll s.heap us ps as
 |_,_,_,_,.nil,r,h=>by cases r;rw[fH] at h;cases h;exact⟨_,.nil⟩
 |_,_,_,_,.cons r1 r2,r,h=>by
  cases r with
  |cons q1 q2=>
   rw[fH] at h;obtain⟨p,hp,h⟩:=oBd h;obtain⟨ps,hps,rfl⟩:=oMd h;obtain⟨as,a1⟩:=Rep.reads I gh r1 q1 hp;obtain⟨bs,a2⟩:=Reps.reads I gh r2 q2 hps;exact⟨_,.cons a1 a2⟩
end
section
variable {a:Expr}
noncomputable def eqX (x y:D):ar ba:=(pdD x).bind fun p=>(pdD y).bind fun q=>if fy p=al/\fy q=al then aa (fM p q) else ae
def wM (x y:D):ar D:=(eqX x y).map D.bl
def rW (x y:D):ar D:=(eqX x y).map fun b=>D.bl (!b)
def rX (Γ:Cn) (K:aV) (neg:ba):R2:=fun x y H Q=>∃G d e b,bo G H/\Rep Γ K G x d/\Rep Γ K G y e/\eqX d e=aa b/\Q (.bl (if neg then !b else b)) H
theorem D2 {x y:D} {b:ba} (h:eqX x y=aa b):∃p q,pdD x=aa p/\pdD y=aa q/\fy p=al/\fy q=al/\b=fM p q:=by
 unfold eqX at h;obtain⟨p,hp,h⟩:=oBd h;obtain⟨q,hq,h⟩:=oBd h;split at h
 .rename_i hz;cases h;exact⟨p,q,hp,hq,hz.1,hz.2,rfl⟩
 .cases h
theorem IB (hu:X.A.units+64<di):OpR X (eF .Eq) (rX Γ X.K aq):=by intro pins s σ H x y v u Q I rx ry h;obtain⟨G,d,e,b,gh,r1,r2,hb,q⟩:=h;obtain⟨p,q',hp,hq,s1,s2,rfl⟩:=D2 hb;obtain⟨as,a1⟩:=r1.reads I gh rx hp;obtain⟨bs,a2⟩:=r2.reads I gh ry hq;exact eq_dataH a1 a2 s1 s2 hu ⟨.bl _,H,I,rfl,q⟩
theorem Kq (hu:X.A.units+64<di):OpR X (eF .NotEq) (rX Γ X.K al):=by intro pins s σ H x y v u Q I rx ry h;obtain⟨G,d,e,b,gh,r1,r2,hb,q⟩:=h;obtain⟨p,q',hp,hq,s1,s2,rfl⟩:=D2 hb;obtain⟨as,a1⟩:=r1.reads I gh rx hp;obtain⟨bs,a2⟩:=r2.reads I gh ry hq;exact ne_dataH a1 a2 s1 s2 hu ⟨.bl _,H,I,rfl,q⟩
theorem MN (hu:X.A.units+64<di):CmpD Γ X .Eq wM:=⟨_,IB (Γ:=Γ) hu,fun {G H v u x y z} gh r1 r2 h Q k=>by unfold wM at h;obtain⟨b,hb,rfl⟩:=oMd h;exact⟨G,x,y,b,gh,r1,r2,hb,k _ G H .(ap) (.bl _)⟩⟩
theorem J3 (hu:X.A.units+64<di):CmpD Γ X .NotEq rW:=⟨_,Kq (Γ:=Γ) hu,fun {G H v u x y z} gh r1 r2 h Q k=>by unfold rW at h;obtain⟨b,hb,rfl⟩:=oMd h;exact⟨G,x,y,b,gh,r1,r2,hb,k _ G H .(ap) (.bl _)⟩⟩
noncomputable def inX (x y:D):ar ba:=(pdD x).bind fun p=>(pdD y).bind fun q=>match q with
 |.list l=>if fy p=al/\gf l=al then aa (l.any fun z=>fM z p) else ae
 |_=>ae
def i4 (x y:D):ar D:=(inX x y).map D.bl
def jb (x y:D):ar D:=(inX x y).map fun b=>D.bl (!b)
def FM (Γ:Cn) (K:aV) (neg:ba):R2:=fun x y H Q=>∃G d e b,bo G H/\Rep Γ K G x d/\Rep Γ K G y e/\inX d e=aa b/\Q (.bl (if neg then !b else b)) H
theorem Fb {x y:D} {b:ba} (h:inX x y=aa b):∃p l,pdD x=aa p/\pdD y=aa (.list l)/\fy p=al/\gf l=al/\b=l.any fun z=>fM z p:=by
 unfold inX at h;obtain⟨p,hp,h⟩:=oBd h;obtain⟨q,hq,h⟩:=oBd h;split at h
 .split at h
  .rename_i hz;cases h;exact⟨p,_,hp,hq,hz.1,hz.2,rfl⟩
  .cases h
 .cases h
theorem xG {p:vI} (h:fy p=al):p.canLay0=al/\p.depth<=64:=by unfold fy at h;rw[ge] at h;exact⟨h.1,sL h.2⟩
theorem MC (hu:X.A.units+66<di):OpR X (eF .In) (FM Γ X.K aq):=by intro pins s σ H x y v u Q I rx ry h;obtain⟨G,d,e,b,gh,r1,r2,hb,q⟩:=h;obtain⟨p,l,hp,hq,s1,s2,rfl⟩:=Fb hb;obtain⟨as,a1⟩:=r1.reads I gh rx hp;obtain⟨bs,a2⟩:=r2.reads I gh ry hq;obtain⟨c1,c2⟩:=xG s1;have:=zI (jv l) p.depth;exact SeqAt.in_list_reads a2 a1 s2 c1 .(a) ⟨.bl _,H,I,rfl,q⟩
theorem Qa (hu:X.A.units+66<di):OpR X (eF .NotIn) (FM Γ X.K al):=by intro pins s σ H x y v u Q I rx ry h;obtain⟨G,d,e,b,gh,r1,r2,hb,q⟩:=h;obtain⟨p,l,hp,hq,s1,s2,rfl⟩:=Fb hb;obtain⟨as,a1⟩:=r1.reads I gh rx hp;obtain⟨bs,a2⟩:=r2.reads I gh ry hq;obtain⟨c1,c2⟩:=xG s1;have:=zI (jv l) p.depth;exact SeqAt.notIn_list_reads a2 a1 s2 c1 .(a) ⟨.bl _,H,I,rfl,q⟩
theorem rP (hu:X.A.units+66<di):CmpD Γ X .In i4:=⟨_,MC (Γ:=Γ) hu,fun {G H v u x y z} gh r1 r2 h Q k=>by unfold i4 at h;obtain⟨b,hb,rfl⟩:=oMd h;exact⟨G,x,y,b,gh,r1,r2,hb,k _ G H .(ap) (.bl _)⟩⟩
theorem Dx (hu:X.A.units+66<di):CmpD Γ X .NotIn jb:=⟨_,Qa (Γ:=Γ) hu,fun {G H v u x y z} gh r1 r2 h Q k=>by unfold jb at h;obtain⟨b,hb,rfl⟩:=oMd h;exact⟨G,x,y,b,gh,r1,r2,hb,k _ G H .(ap) (.bl _)⟩⟩
theorem et {k:ah} (hr:Room k X.A):X.A.units+66<di:=by have:=hr.un;omega
theorem om {k:ah} (hr:Room k X.A):X.A.units+64<di:=by have:=hr.un;omega
noncomputable def nW (d:D):ba:=match d with
 |.non=>al
 |_=>aq
def isD (x y:D):ar D:=match y with
 |.non=>aa (.bl (nW x))
 |_=>ae
def zc (x y:D):ar D:=match y with
 |.non=>aa (.bl (!nW x))
 |_=>ae
theorem CU (r:Rep Γ K G v d):decide (v=.non)=nW d:=by cases r<;>simp[nW]
theorem Ld:CmpD Γ X .Is isD:=⟨_,OJ,fun {G H v u x y z} gh r1 r2 h Q k=>by unfold isD at h;split at h<;>cases h;exact⟨r2.non_inv,by rw[CU r1];exact k _ G H .(ap) (.bl _)⟩⟩
theorem Q4:CmpD Γ X .IsNot zc:=⟨_,Qk,fun {G H v u x y z} gh r1 r2 h Q k=>by unfold zc at h;split at h<;>cases h;exact⟨r2.non_inv,by rw[CU r1];exact k _ G H .(ap) (.bl _)⟩⟩
end
variable {fx:FE}
section
variable {a i:Expr}
noncomputable def bwT (i:ah) (ft:FT):FT:=fun ρ=>match ρ[i]? with
 |some (aa (.own ds))=>ft (ρ.set i (aa (.sh (.lst ds))))
 |_=>ae
theorem Step.back (gh:bo G H) (s1:bo G G1) (s:Step G1 H G' H'):Step G H G H':=⟨s.hh,.refl _,(s1.trans s.gg).trans s.gh,fun _ _ _=>rfl⟩
theorem BL (i:ah) (h:DT Γ X c ft):DT Γ X c (bwT i ft):=⟨h.1.imp fun σ H Q=>by
 rintro⟨G₀,H₀,G,ρ,b,A,h,k⟩;unfold bwT at h;split at h
 .rename_i ds hi;obtain⟨G1,sm,A1⟩:=A.freeze hi;exact⟨G₀,H₀,G1,_,b,A1,h,fun G' H' s=>k G H' (s.back A.gh sm)⟩
 .cases h⟩
noncomputable def oa (i:ah) (f:FE):FS:=fun ρ=>match ρ[i]? with
 |some (aa (.own ds))=>(f ρ).bind fun d=>match d with
  |.lst l=>if ds.length+l.length<=aL then aa (.nx,ρ.set i (aa (.own (ds++l)))) else ae
  |_=>ae
 |_=>ae
theorem JU (i:ah) (h:DE Γ X e f) (hN:X.N[i]?=aa x:=by rfl) (hv:Vis X.env.scope x:=by ac_nf) (hd:.(x)=aq:=by decide)
  (hcd:.(aC)=aq:=by decide)
  (hbase:jr .(X) "extend" X.env (eval .(X) X.env)=eval .(X) X.env:=by rfl)
  (hfew:((cW cpos (bc [e] X.env)).all (fun x=>!x.1) && (l' cpos (ma [] X.env)).all (fun x=>x.1.isSome)
   && decide .(aE))=al:=by rfl)
  (hline:(apos.endLine==cpos.line)=al:=by rfl) (hs:bc [e] X.env=(aq,eval e X.env)::bc [] X.env:=by rfl) (hplain:(cW cpos (bc [] X.env)).any (·.1)=aq:=by rfl)
  (hsw:e8 (.Call (.Attribute .(X) "extend" apos) [e] [] cpos) ae pos.line X.env=bq aq:=by rfl) :
  DS Γ X (.Expr (.Call (.Attribute .(X) "extend" apos) [e] [] cpos) pos) (oa i f):=⟨(pO (pQ z5 Tl PySem.F.type_list_extend Rh (eC hN hv hd hcd) (dq h.1 fD hs) hbase hfew hline hs hplain) hsw).imp fun E σ H=>by
  rintro⟨G₀,H₀,G,ρ,fl,ρ',A,h,k⟩;unfold oa at h;split at h
  .rename_i ds hi;obtain⟨d,hd,h⟩:=oBd h;split at h
   .rename_i l;split at h
    .rename_i hz;cases h;obtain⟨a,vs,h1,h2,h3,h4,h5⟩:=A.env.own i ds hi;refine⟨.ref a,h1,.inl ⟨rfl,vs,.inl (.inl h4)⟩,G₀,H₀,G,ρ,_,A,hd,fun v G1 H1 s1 r1=>?_⟩;have A1:=A.step s1;obtain⟨b,us,rfl,hb,rb⟩:=r1.lst_inv;refine⟨a,b,vs,us,rfl,rfl,s1.hh _ _ h4,s1.gh _ _ hb,by rw[h5.length,rb.length];exact hz,?_⟩;exact k σ G1 _ s1.gg (A1.chOwn hi h1 ((h5.mono s1.gg).append rb))
    .cases h
   .cases h
  .cases h⟩
noncomputable def kC:ac D->ar D
 |[.int i]=>aa (.int i)
 |[.bl k]=>aa (.int (if k then 1 else 0))
 |_=>ae
theorem xS:TyD Γ X "int" kC:=⟨_,KO,fun {G H vs ds z} gh r h Q k=>by
 unfold kC at h;split at h<;>cases h
 .obtain⟨v,rfl,r1⟩:=r.one;cases r1.int_inv;exact .inl ⟨_,rfl,k _ G H .(ap) (.int _)⟩
 .obtain⟨v,rfl,r1⟩:=r.one;cases r1.bl_inv;exact .inr ⟨_,rfl,k _ G H .(ap) (.int _)⟩⟩
noncomputable def uZ:ac D->ar D
 |[.lst l]=>aa (.tup l)
 |[.tup l]=>aa (.tup l)
 |_=>ae
theorem C3:TyD Γ X "tuple" uZ:=⟨_,Iw,fun {G H vs ds z} gh r h Q k=>by
 unfold uZ at h;split at h<;>cases h
 .obtain⟨v,rfl,r1⟩:=r.one;obtain⟨a,us,rfl,ha,ra⟩:=r1.lst_inv;exact⟨a,us,rfl,.inl ⟨.inl (.inl (gh _ _ ha)),uv gh ra k⟩⟩
 .obtain⟨v,rfl,r1⟩:=r.one;obtain⟨a,us,rfl,ha,ra⟩:=r1.tup_inv;exact⟨a,us,rfl,.inr ⟨.inl (.inl (gh _ _ ha)),k _ G H .(ap) (.tup ha ra)⟩⟩⟩
noncomputable def tq:ac D->ar D
 |[.lst l]=>aa (.lst l)
 |[.tup l]=>aa (.lst l)
 |[.scr l]=>aa (.lst (l.map D.int))
 |_=>ae
theorem Q7:TyD Γ X "list" tq:=⟨_,Oj,fun {G H vs ds z} gh r h Q k=>by
 unfold tq at h;split at h<;>cases h
 .obtain⟨v,rfl,r1⟩:=r.one;obtain⟨a,us,rfl,ha,ra⟩:=r1.lst_inv;exact⟨a,us,rfl,.inl (.inl (.inl (gh _ _ ha))),jJ gh ra k⟩
 .obtain⟨v,rfl,r1⟩:=r.one;obtain⟨a,us,rfl,ha,ra⟩:=r1.tup_inv;exact⟨a,us,rfl,.inr (.inl (.inl (gh _ _ ha))),jJ gh ra k⟩
 .obtain⟨v,rfl,r1⟩:=r.one;obtain⟨a,rfl,ha⟩:=r1.scr_inv;exact⟨a,_,rfl,.inl (gh.seq ha),jJ gh (Reps.ints _) k⟩⟩
noncomputable def lv [fU κ] (kvs:ac (κ×α)) (k:κ):ar α:=(kvs.find? fun kv=>decide (kv.1=k)).map (·.2)
noncomputable def ir [fU κ] (kvs:ac (κ×α)) (k:κ) (v:α):ac (κ×α):=
 if (kvs.any fun kv=>decide (kv.1=k))=al then kvs.map (fun kv=>if kv.1=k then (kv.1,v) else kv) else kvs++[(k,v)]
theorem ym {κ:Type} [fU κ] {K:aV} {G:Hp} {k:κ}:∀{us:ac (κ×V)} {kvs:ac (κ×D)},us.map (·.1)=kvs.map (·.1)->Reps Γ K G (us.map (·.2)) (kvs.map (·.2))->
  (lv kvs k=ae/\gR us k=ae)\/∃d v,lv kvs k=aa d/\gR us k=aa v/\Rep Γ K G v d
 |[],[],_,_=>.inl ⟨rfl,rfl⟩
 |[],_::_,e,_=>by cases e
 |_::_,[],e,_=>by cases e
 |(k1,v)::us,(k2,d)::kvs,e,r=>by
  have e1:k1=k2:=(ju e).1;have e2:us.map (·.1)=kvs.map (·.1):=(ju e).2;subst e1;have r:Reps Γ K G (v::us.map (·.2)) (d::kvs.map (·.2)):=r;cases r with
  |cons r1 r2=>
   by_cases h:k1=k
   .exact .inr ⟨d,v,by simp[lv,nK,h],tD h,r1⟩
   .have:=ym (k:=k) e2 r2;rw[uJ (p:=(k1,v)) h];simpa[lv,nK,h] using this
theorem EB {κ:Type} [fU κ] {k:κ} {α β:Type}:∀{us:ac (κ×α)} {kvs:ac (κ×β)},us.map (·.1)=kvs.map (·.1)->(us.any fun kv=>decide (kv.1=k))=(kvs.any fun kv=>decide (kv.1=k))
 |[],[],_=>rfl
 |[],_::_,e=>by cases e
 |_::_,[],e=>by cases e
 |(k1,v)::us,(k2,d)::kvs,e=>by have e1:k1=k2:=(ju e).1;subst e1;rw[nL,nL,EB (us:=us) (kvs:=kvs) (ju e).2]
theorem D1 {κ:Type} [fU κ] {K:aV} {G:Hp} {k:κ} {v:V} {d:D} (rv:Rep Γ K G v d):∀{us:ac (κ×V)} {kvs:ac (κ×D)},us.map (·.1)=kvs.map (·.1)->Reps Γ K G (us.map (·.2)) (kvs.map (·.2))->
  (us.map fun kv=>if kv.1=k then (kv.1,v) else kv).map (·.1)=(kvs.map fun kv=>if kv.1=k then (kv.1,d) else kv).map (·.1)/\Reps Γ K G ((us.map fun kv=>if kv.1=k then (kv.1,v) else kv).map (·.2)) ((kvs.map fun kv=>if kv.1=k then (kv.1,d) else kv).map (·.2))
 |[],[],_,_=>⟨rfl,.nil⟩
 |[],_::_,e,_=>by cases e
 |_::_,[],e,_=>by cases e
 |(k1,u)::us,(k2,x)::kvs,e,r=>by
  have e1:k1=k2:=(ju e).1;have e2:us.map (·.1)=kvs.map (·.1):=(ju e).2;subst e1;have r:Reps Γ K G (u::us.map (·.2)) (x::kvs.map (·.2)):=r;cases r with
  |cons r1 r2=>
   obtain⟨h1,h2⟩:=D1 (k:=k) rv e2 r2;by_cases h:k1=k
   .subst h;simp only[qm,cr];exact⟨by rw[h1],.cons rv h2⟩
   .simp only[qm,qZ h];exact⟨by rw[h1],.cons r1 h2⟩
theorem Eg [fU κ] {k:κ} (rv:Rep Γ K G v d) {us:ac (κ×V)} {kvs:ac (κ×D)} (e:us.map (·.1)=kvs.map (·.1)) (r:Reps Γ K G (us.map (·.2)) (kvs.map (·.2))) :
  (dE us k v).map (·.1)=(ir kvs k d).map (·.1)/\Reps Γ K G ((dE us k v).map (·.2)) ((ir kvs k d).map (·.2)):=by
 unfold dE ir;rw[EB (k:=k) e];split
 .exact D1 rv e r
 .simp only[dS,qm,qO];exact⟨by rw[e],r.append (.cons rv .nil)⟩
def jP:D->ar Key
 |.int i=>aa (.inl i)
 |.str x=>aa (.inr x)
 |_=>ae
def iz:ac D->ar (ac Key)
 |[]=>aa []
 |d::r=>(jP d).bind fun k=>(iz r).map (k::·)
theorem uo {k:Key} (r:Rep Γ K G v d) (h:jP d=aa k):v=kV k:=by
 unfold jP at h;split at h<;>cases h
 .exact r.int_inv
 .exact r.str_inv
theorem og {K:aV} {G:Hp}:∀{vs:ac V} {ds:ac D} {ks:ac Key},Reps Γ K G vs ds->iz ds=aa ks->vs=ks.map kV
 |_,[],ks,r,h=>by cases r;cases h;rfl
 |_,d::ds,ks,.cons h1 h2,h=>by unfold iz at h;obtain⟨k,hk,h⟩:=oBd h;obtain⟨zs,hz,rfl⟩:=oMd h;rw[uo h1 hk,og h2 hz];rfl
def xH (d k:D):ar (ar D):=match d,k with
 |.dk l,k=>(jP k).map (lv l)
 |.dt l,.tup t=>(iz t).map (lv l)
 |_,_=>ae
theorem M8 {y:V} {k:D} {r:ar D} (gh:bo G H) (rv:Rep Γ K G v d) (ry:Rep Γ K G y k) (h:xH d k=aa r) :
  ∃a o,v=.ref a/\jf H a y o/\((r=ae/\o=ae)\/∃w z,r=aa z/\o=aa w/\Rep Γ K G w z):=by
 unfold xH at h;split at h
 .obtain⟨kk,hk,rfl⟩:=oMd h;cases rv with
  |dk h1 h2 h3=>
   have ey:=uo ry hk;subst ey;refine⟨_,_,rfl,jf.k (gh _ _ h1),?_⟩;rcases ym (k:=kk) h2 h3 with⟨q1,q2⟩|⟨z,w,q1,q2,q3⟩
   .exact .inl ⟨q1,q2⟩
   .exact .inr ⟨w,z,q1,q2,q3⟩
 .obtain⟨kk,hk,rfl⟩:=oMd h;cases rv with
  |dt h1 h2 h3=>
   obtain⟨b,ys,rfl,hb,rb⟩:=ry.tup_inv;have ey:=og rb hk;subst ey;refine⟨_,_,rfl,jf.t (gh _ _ h1) (gh _ _ hb),?_⟩;rcases ym (k:=kk) h2 h3 with⟨q1,q2⟩|⟨z,w,q1,q2,q3⟩
   .exact .inl ⟨q1,q2⟩
   .exact .inr ⟨w,z,q1,q2,q3⟩
 .cases h
def df (d k:D):ar D:=(xH d k).bind id
theorem kP (hu:X.A.units+66<di) (ho:DE Γ X o fo) (hi:DE Γ X i fi') (hs:sV i:=by intro _ _;rfl):DE Γ X (.Subscript o i pos) (b2 df fo fi'):=⟨(Fs .(a) ho.1 hi.1 hs).imp fun σ H Q=>by
 rintro⟨G₀,H₀,G,ρ,d,A,h,k⟩;unfold b2 at h;obtain⟨x,hx,h⟩:=oBd h;obtain⟨y,hy,h⟩:=oBd h;refine⟨G₀,H₀,G,ρ,x,A,hx,fun v G1 H1 s1 r1=>⟨G₀,H₀,G1,ρ,y,A.step s1,hy,fun u G2 H2 s2 r2=>?_⟩⟩;unfold df at h;obtain⟨r,hr,h⟩:=oBd h;obtain⟨a,ov,rfl,hg,hc⟩:=M8 s2.gh (r1.mono s2.gg) r2 hr;rcases hc with⟨rfl,_⟩|⟨w,z,rfl,rfl,rw'⟩
 .cases h
 .cases h;exact⟨a,w,rfl,hg,k w G2 H2 (s1.trans s2) rw'⟩⟩
noncomputable def b3 (g:D->D->D->ar D) (fa fb fc:FE):FE:=fun ρ=>(fa ρ).bind fun x=>(fb ρ).bind fun y=>(fc ρ).bind fun z=>g x y z
noncomputable def sNo:FS:=fun _=>ae
theorem My :DS Γ X st sNo:=⟨fun pins s σ H E I q=>by obtain⟨G₀,H₀,G,ρ,fl,ρ',A,h,k⟩:=q;cases h⟩
end
structure CF (Γ:Cn) (K:aV) (c:aj) (attrs:ac aj):Prop where
 ex:∃C,Γ.cls c=aa C/\Cls K C/\∀f∈attrs,j9 K C f
variable {attrs:ac aj} {dp ap:dh}
section
variable {a i:Expr} {fv:FE} {cl fl n m:aj}
theorem lK {K:aV} {G:Hp} {k:aj}:∀{us:ac (aj×V)} {fs:ac (aj×D)},us.map (·.1)=fs.map (·.1)->Reps Γ K G (us.map (·.2)) (fs.map (·.2))->
  (fs.lookup k=ae/\us.lookup k=ae)\/∃d v,fs.lookup k=aa d/\us.lookup k=aa v/\Rep Γ K G v d
 |[],[],_,_=>.inl ⟨rfl,rfl⟩
 |[],_::_,e,_=>by cases e
 |_::_,[],e,_=>by cases e
 |(k1,v)::us,(k2,d)::fs,e,r=>by
  have e1:k1=k2:=(ju e).1;have e2:us.map (·.1)=fs.map (·.1):=(ju e).2;subst e1;have r:Reps Γ K G (v::us.map (·.2)) (d::fs.map (·.2)):=r;cases r with
  |cons r1 r2=>
   by_cases h:k=k1
   .subst h;exact .inr ⟨d,v,by simp[dQ],by simp[dQ],r1⟩
   .have hb:(k==k1)=aq:=by simpa using h
    have:=lK (k:=k) e2 r2;simpa[dQ,hb] using this
theorem yb {f:aj} {v:V}:∀{fs:ac (aj×V)},fs.lookup f=ae->fT f v fs=fs++[(f,v)]
 |[],_=>rfl
 |(g,x)::r,h=>by
  by_cases e:f=g
  .subst e;simp[dQ] at h
  .have hb:(f==g)=aq:=by simpa using e
   rw[fT,qZ (fun z=>e z.symm),yb (by simpa[dQ,hb] using h)];rfl
def EM (c f:aj):D->ar D
 |.ins c' fs=>if c'=c then fs.lookup f else ae
 |_=>ae
def si (c f:aj) (fo:FE):FE:=fun ρ=>(fo ρ).bind (EM c f)
theorem Q6 (hc:CF Γ X.K cl attrs) (hf:fl∈attrs) (ho:DE Γ X o fo) (hb:jr o fl X.env (eval o X.env)=eval o X.env:=by rfl):DE Γ X (.Attribute o fl pos) (si cl fl fo):=⟨(wo ho.1 hb).imp fun σ H Q=>by
 rintro⟨G₀,H₀,G,ρ,d,A,h,k⟩;unfold si at h;obtain⟨x,hx,hq⟩:=oBd h;clear h;refine⟨G₀,H₀,G,ρ,x,A,hx,fun v G1 H1 s1 r1=>?_⟩;unfold EM at hq;split at hq
 .split at hq
  .rename_i ec;subst ec;obtain⟨C,q1,q2,q3⟩:=hc.ex;cases r1 with
   |ins h1 h2 h3 h4=>
    rw[q1] at h2;cases h2;rcases lK (k:=fl) h3 h4 with⟨z1,_⟩|⟨d',v',z1,z2,z3⟩
    .rw[z1] at hq;cases hq
    .rw[z1] at hq;cases hq;exact⟨_,C,_,_,v',rfl,s1.gh _ _ h1,q2,q3 fl hf,z2,k v' G1 H1 s1 z3⟩
  .cases hq
 .cases hq⟩
noncomputable def AG (f:aj):Slot->ar D
 |.obj _ fs=>fs.lookup f
 |.objd _ fs n _=>if f=n then ae else fs.lookup f
 |_=>ae
noncomputable def PK:Slot->ar aj
 |.obj c _=>aa c
 |.objd c _ _ _=>aa c
 |_=>ae
def jB (c f:aj) (i:ah):FE:=fun ρ=>match ρ[i]? with
 |some (aa s)=>if PK s=aa c then AG f s else ae
 |_=>ae
theorem Os {vs:ac (aj×V)} {f:aj} {w:V} (h:vs.lookup f=aa v):(vs++[(n,w)]).lookup f=aa v:=by
 induction vs with
 |nil=>cases h
 |cons p r ih=>
  obtain⟨g,x⟩:=p;by_cases e:f=g
  .subst e;simpa[dQ] using h
  .have hb:(f==g)=aq:=by simpa using e
   simp only[qp,dQ,hb] at h ⊢;exact ih h
theorem tm (i:ah) (hc:CF Γ X.K cl attrs) (hf:fl∈attrs) (hN:X.N[i]?=aa x:=by rfl) (hv:Vis X.env.scope x:=by ac_nf) (hd:.(x)=aq:=by decide)
  (hcd:.(aC)=aq:=by decide) (hb:jr .(X) fl X.env (eval .(X) X.env)=eval .(X) X.env:=by rfl):DE Γ X (.Attribute .(X) fl pos) (jB cl fl i):=⟨(wo (eC hN hv hd hcd) hb).imp fun σ H Q=>by
 rintro⟨G₀,H₀,G,ρ,d,A,h,k⟩;unfold jB at h;split at h
 .rename_i s hi;split at h
  .rename_i hcl;obtain⟨C,q1,q2,q3⟩:=hc.ex;obtain⟨v,fp,h1,h2⟩:=A.get hi;cases h2 with
   |sh _=>cases h
   |own _ _ _ _=>cases h
   |odk _ _ _ _ _=>cases h
   |odt _ _ _ _ _=>cases h
   |oll _ _ _ _ _=>cases h
   |odl _ _ _ _ _ _=>cases h
   |obj g1 g2 g3 g4 g5 g6 g7=>
    cases hcl;rw[q1] at g1;cases g1;have h:dQ fl _=aa d:=h;rcases lK (k:=fl) g5 g6 with⟨z1,_⟩|⟨d',v',z1,z2,z3⟩
    .rw[z1] at h;cases h
    .rw[z1] at h;cases h;exact⟨_,h1,_,C,_,_,v',rfl,g4,q2,q3 fl hf,z2,k v' G H (.refl A.gh) z3⟩
   |objd g1 g2 g3 g4 g5 g6 _ _ _ _ _ g7=>
    cases hcl;rw[q1] at g1;cases g1;unfold AG at h;simp only at h;split at h
    .cases h
    .rcases lK (k:=fl) g5 g6 with⟨z1,_⟩|⟨d',v',z1,z2,z3⟩
     .rw[z1] at h;cases h
     .rw[z1] at h;cases h;exact⟨_,h1,_,C,_,_,v',rfl,g4,q2,q3 fl hf,Os z2,k v' G H (.refl A.gh) z3⟩
  .cases h
 .cases h⟩
noncomputable def ib (c f:aj) (i:ah) (fv:FE):FS:=fun ρ=>(fv ρ).bind fun d=>match ρ[i]? with
 |some (aa (.obj c' fs))=>if c'=c/\fs.lookup f=ae/\fs.length<100 then aa (.nx,ρ.set i (aa (.obj c (fs++[(f,d)])))) else ae
 |_=>ae
theorem jX (i:ah) (hc:CF Γ X.K cl attrs) (hf:fl∈attrs) (hv':DE Γ X value fv) (hN:X.N[i]?=aa x:=by rfl) (hv:Vis X.env.scope x:=by ac_nf) (hd:.(x)=aq:=by decide)
  (hcd:.(aC)=aq:=by decide) (hs:e8 value (aa (.Attribute .(X) fl pos')) pos.line X.env=bq aq:=by rfl):DS Γ X (.Assign [.Attribute .(X) fl pos'] value pos) (ib cl fl i fv):=⟨(DD (eC hN hv hd hcd) hv'.1 hs).imp fun E σ H=>by
 rintro⟨G₀,H₀,G,ρ,flw,ρ',A,h,k⟩;unfold ib at h;obtain⟨d,hd,h⟩:=oBd h;split at h
 .rename_i c' fs hi;split at h
  .rename_i hz;obtain⟨rfl,hz2,hz3⟩:=hz;cases h;obtain⟨C,q1,q2,q3⟩:=hc.ex;refine⟨G₀,H₀,G,ρ,d,A,hd,fun v G1 H1 s1 r1=>?_⟩;have A1:=A.step s1;obtain⟨w,fp,h1,h2⟩:=A1.get hi;cases h2 with
   |obj g1 g2 g3 g4 g5 g6 g7=>
    rename_i a C' dx vs;have g1':=g1;rw[q1] at g1;cases g1;have hl:vs.lookup fl=ae:=by
     rcases lK (k:=fl) g5 g6 with⟨_,z2⟩|⟨d',v',z1,_,_⟩
     .exact z2
     .rw[z1] at hz2;cases hz2
    have hlen:vs.length=fs.length:=by simpa using cC fW g5
    refine⟨_,h1,a,C,dx,vs,rfl,g4,q2,q3 fl hf,by omega,?_⟩;rw[yb hl];refine k σ G1 _ s1.gg (A1.ch hi h1 (.obj g1' g2 g3 g4 g5 g6 g7) (fun b o e hb=>?_) (.obj (vs:=vs++[(fl,v)]) g1' g2 g3 bK (by simp[g5]) (by simpa using g6.append (.cons r1 .nil)) g7) (fun b hb=>.inl hb) (.refl _) (fun b o e=>?_) (fun _ _ _ _=>rfl))
    .rw[aO (fun z=>hb (b8.mpr z))];exact e
    .rw[aO (ce e g3)];exact A1.gh b o e
  .cases h
 .cases h⟩
noncomputable def oq (c f:aj) (i:ah):FS:=fun ρ=>match ρ[i]? with
 |some (aa (.obj c' fs))=>if c'=c/\fs.lookup f=ae/\fs.length<100 then aa (.nx,ρ.set i (aa (.objd c fs f []))) else ae
 |_=>ae
theorem Ri (i:ah) (hc:CF Γ X.K cl attrs) (hf:fl∈attrs) (hN:X.N[i]?=aa x:=by rfl) (hv:Vis X.env.scope x:=by ac_nf) (hd:.(x)=aq:=by decide)
  (hcd:.(aC)=aq:=by decide) (hs:e8 (.Dict [] [] dp) (aa (.Attribute .(X) fl pos')) pos.line X.env=bq aq:=by rfl):DS Γ X (.Assign [.Attribute .(X) fl pos'] (.Dict [] [] dp) pos) (oq cl fl i):=⟨(DD (eC hN hv hd hcd) FU hs).imp fun E σ H=>by
 rintro⟨G₀,H₀,G,ρ,flw,ρ',A,h,k⟩ p hp;unfold oq at h;split at h
 .rename_i c' fs hi;split at h
  .rename_i hz;obtain⟨rfl,hz2,hz3⟩:=hz;cases h;obtain⟨C,q1,q2,q3⟩:=hc.ex;obtain⟨w,fp,h1,h2⟩:=A.get hi;cases h2 with
   |obj g1 g2 g3 g4 g5 g6 g7=>
    rename_i a C' dx vs;have g1':=g1;rw[q1] at g1;cases g1;have hl:vs.lookup fl=ae:=by
     rcases lK (k:=fl) g5 g6 with⟨_,z2⟩|⟨d',v',z1,_,_⟩
     .exact z2
     .rw[z1] at hz2;cases hz2
    have hlen:vs.length=fs.length:=by simpa using cC fW g5
    have npa:a≠p:=ce g4 hp;refine⟨_,h1,a,C,dx,vs,rfl,by rw[aO npa];exact g4,q2,q3 fl hf,by omega,?_⟩;rw[yb hl];have hp0:H₀ p=ae:=A.st.hh.free hp;have hpg:G p=ae:=A.gh.free hp;refine k σ G _ (.refl _) (A.ch hi h1 (.obj g1' g2 g3 g4 g5 g6 g7) (fun b o e hb=>?_) (.objd (vs:=vs) (p:=p) (us:=[]) (kvs:=[]) g1' g2 g3 bK g5 g6 hp0 hpg (by rw[aO npa.symm,bK]) rfl .nil g7) (fun b hb=>?_) (.refl _) (fun b o e=>?_) (fun _ _ _ _=>rfl))
    .rw[aO (fun z=>hb (b8.mpr z)),aO (ce e hp)];exact e
    .rcases cy.mp hb with rfl|hb
     .exact .inl (b8.mpr rfl)
     .rw[b8.mp hb];exact .inr hp
    .rw[aO (ce e g3),aO (ce e hpg)];exact A.gh b o e
  .cases h
 .cases h⟩
def kg (c f:aj) (i:ah) (fk fv:FE):FS:=fun ρ=>(fv ρ).bind fun d=>(fk ρ).bind fun kd=>(jP kd).bind fun k=>match ρ[i]? with
 |some (aa (.objd c' fs n kvs))=>if c'=c/\n=f/\fs.lookup f=ae/\kvs.length<100000 then aa (.nx,ρ.set i (aa (.objd c fs n (ir kvs k d)))) else ae
 |_=>ae
theorem Qq {vs:ac (aj×V)} {f:aj} {w:V} (h:vs.lookup f=ae):(vs++[(f,w)]).lookup f=aa w:=by
 induction vs with
 |nil=>simp[dQ]
 |cons p r ih=>
  obtain⟨g,x⟩:=p;by_cases e:f=g
  .subst e;simp[dQ] at h
  .have hb:(f==g)=aq:=by simpa using e
   simp only[qp,dQ,hb] at h ⊢;exact ih h
theorem M0 (i:ah) (hu:X.A.units+66<di) (hc:CF Γ X.K cl attrs) (hf:fl∈attrs) {ke:Expr} (hk:DE Γ X ke fk) (hv':DE Γ X value fv) (hN:X.N[i]?=aa x:=by rfl) (hv:Vis X.env.scope x:=by ac_nf) (hd:.(x)=aq:=by decide)
  (hcd:.(aC)=aq:=by decide) (hb:jr .(X) fl X.env (eval .(X) X.env)=eval .(X) X.env:=by rfl) (hs:e8 value (aa (.Subscript (.Attribute .(X) fl ap) ke pos')) pos.line X.env=bq aq:=by rfl) :
  DS Γ X (.Assign [.Subscript (.Attribute .(X) fl ap) ke pos'] value pos) (kg cl fl i fk fv):=⟨(PU .(a) (wo (eC hN hv hd hcd) hb) hk.1 hv'.1 hs).imp fun E σ H=>by
 rintro⟨G₀,H₀,G,ρ,flw,ρ',A,h,k⟩;unfold kg at h;obtain⟨d,hd,ha⟩:=oBd h;clear h;obtain⟨kd,hkd,hb1⟩:=oBd ha;clear ha;obtain⟨kk,hkk,hq⟩:=oBd hb1;clear hb1;split at hq
 .rename_i c' fs n kvs hi;split at hq
  .rename_i hz;obtain⟨rfl,rfl,hz2,hz3⟩:=hz;cases hq;obtain⟨C,q1,q2,q3⟩:=hc.ex;refine⟨G₀,H₀,G,ρ,d,A,hd,fun v G1 H1 s1 r1=>?_⟩;have A1:=A.step s1;obtain⟨w,fp,h1,h2⟩:=A1.get hi;cases h2 with
   |objd g1 g2 g3 g4 g5 g6 y1 y2 y3 y4 y5 g7=>
    rename_i a C' dx p vs us;have g1':=g1;rw[q1] at g1;cases g1;have hl:vs.lookup n=ae:=by
     rcases lK (k:=n) g5 g6 with⟨_,z2⟩|⟨d',v',z1,_,_⟩
     .exact z2
     .rw[z1] at hz2;cases hz2
    refine⟨_,h1,a,C,dx,_,.ref p,rfl,g4,q2,q3 n hf,Qq hl,G₀,H₀,G1,ρ,kd,A1,hkd,fun u G2 H2 s2 r2=>?_⟩;have A2:=A1.step s2;have eu:=uo r2 hkk;subst eu;have hp2:H2 p=aa (.dK us):=s2.hh _ _ y3;have ha2:H2 a=aa (.ins C dx (vs++[(n,.ref p)])):=s2.hh _ _ g4;have ga2:G2 a=ae:=(s2.out _ _ g4).trans g3;have gp2:G2 p=ae:=(s2.out _ _ y3).trans y2;have npa:a≠p:=xP ha2 hp2 (by intro z;cases z);have hlen:us.length=kvs.length:=by simpa using cC fW y4
    obtain⟨w1,w2⟩:=Eg (k:=kk) (r1.mono s2.gg) y4 (y5.mono s2.gg);refine⟨p,_,rfl,pG.k hp2 (by have:=eI;omega),?_⟩;refine k σ G2 _ (s1.gg.trans s2.gg) (A2.ch hi h1 (.objd g1' g2 ga2 ha2 g5 (g6.mono s2.gg) y1 gp2 hp2 y4 (y5.mono s2.gg) g7) (fun b o e hb=>?_) (.objd (p:=p) g1' g2 ga2 (by rw[aO npa];exact ha2) g5 (g6.mono s2.gg) y1 gp2 bK w1 w2 g7) (fun b hb=>.inl hb) (.refl _) (fun b o e=>?_) (fun _ _ _ _=>rfl))
    .rw[aO (fun z=>hb (by rw[z];exact qg _ qf))];exact e
    .rw[aO (ce e gp2)];exact A2.gh b o e
  .cases hq
 .cases hq⟩
def Dg:Slot->ar D
 |.obj c fs=>aa (.ins c fs)
 |.objd c fs n kvs=>aa (.ins c (fs++[(n,.dk kvs)]))
 |_=>ae
theorem At.done (A:At Γ K G₀ H₀ G H ρ σ) {i:ah} {s:Slot} (hi:ρ[i]?=aa (aa s)) (hd:Dg s=aa d):∃a G',Γ.self=aa a/\Step G₀ H₀ G' H/\Rep Γ K G' (.ref a) d:=by
 obtain⟨v,fp,h1,h2⟩:=A.get hi;cases h2 with
 |sh _=>cases hd
 |own _ _ _ _=>cases hd
 |odk _ _ _ _ _=>cases hd
 |odt _ _ _ _ _=>cases hd
 |oll _ _ _ _ _=>cases hd
 |odl _ _ _ _ _ _=>cases hd
 |obj g1 g2 g3 g4 g5 g6 g7=>
  cases hd;rename_i a C dx vs fs;have sm:bo G (upd G a (.ins C dx vs)):=fun b o e=>by rw[aO (ce e g3)];exact e
  refine⟨a,upd G a (.ins C dx vs),g7,⟨A.st.hh,A.st.gg.trans sm,fun b o e=>?_,fun b o e=>?_⟩,.ins bK g1 g5 (g6.mono sm)⟩
  .by_cases hb:b=a
   .subst hb;rw[bK] at e;cases e;exact g4
   .rw[aO hb] at e;exact A.gh b o e
  .rw[aO (ce e g2)];exact A.st.out b o e
 |objd g1 g2 g3 g4 g5 g6 y1 y2 y3 y4 y5 g7=>
  cases hd;rename_i n a C dx p vs fs us kvs;have npa:a≠p:=xP g4 y3 (by intro z;cases z);have sm:bo G (upd (upd G p (.dK us)) a (.ins C dx (vs++[(n,.ref p)]))):=fun b o e=>by rw[aO (ce e g3),aO (ce e y2)];exact e
  refine⟨a,_,g7,⟨A.st.hh,A.st.gg.trans sm,fun b o e=>?_,fun b o e=>?_⟩,.ins (us:=vs++[(n,.ref p)]) (fs:=fs++[(n,.dk kvs)]) bK g1 (by simp[g5]) ?_⟩
  .by_cases hb:b=a
   .subst hb;rw[bK] at e;cases e;exact g4
   .rw[aO hb] at e;by_cases hb':b=p
    .subst hb';rw[bK] at e;cases e;exact y3
    .rw[aO hb'] at e;exact A.gh b o e
  .rw[aO (ce e g2),aO (ce e y1)];exact A.st.out b o e
  .have r2:Rep Γ K (upd (upd G p (.dK us)) a (.ins C dx (vs++[(n,.ref p)]))) (.ref p) (.dk kvs):=.dk (us:=us) (by rw[aO npa.symm,bK]) y4 (y5.mono sm);simpa using(g6.mono sm).append (.cons r2 .nil)
end
def Cn.mk1 (Γ:Cn) (x:av):Cn:=⟨Γ.cls,aa x⟩
section
variable {c:aj} {x:av}
theorem Rep.to1 (x:av) (r:Rep Γ K G v d):Rep (Γ.mk1 x) K G v d:=Rep.re (Γ:=Γ) (Γ':=Γ.mk1 x) rfl r
theorem Rep.of1 (r:Rep (Γ.mk1 x) K G v d):Rep Γ K G v d:=Rep.re (Γ:=Γ.mk1 x) (Γ':=Γ) rfl r
theorem Reps.of1 {v:ac V} {d:ac D} (r:Reps (Γ.mk1 x) K G v d):Reps Γ K G v d:=Reps.re (Γ:=Γ.mk1 x) (Γ':=Γ) rfl r
theorem CF.re (h:CF Γ K c attrs) (x:av):CF (Γ.mk1 x) K c attrs:=⟨h.ex⟩
theorem IU {Q:VK} {E:XK} (x:av) (h:spF (Γ.mk1 x) K n F vs H Q E):spF Γ K n F vs H Q E:=by obtain⟨G,ds,d,h1,h2,h3,h4,k⟩:=h;exact⟨G,ds,d,h1,h2.of1,h3,h4,fun v G' H' s r=>k v G' H' s (r.to1 x)⟩
theorem Cal.re {k:ah} (C:Cal Γ P w K mg base y n k F) (x:av):Cal (Γ.mk1 x) P w K mg base y n k F:=by obtain⟨f,fd,ps,h1,h2,h3,h4⟩:=C.ex;exact⟨f,fd,ps,h1.imp fun vs H Q E q=>IU x q,h2,h3,h4⟩
structure CalM (Γ:Cn) (P:ef) (w:cT) (K:aV) (mg:aj->ar Value) (base:Heap) (c m:aj) (n k:ah) (F:ac D->ar D):Prop where
 ex:∃C f fd ps,Γ.cls c=aa C/\Cls K C/\Meth K C m f/\FnOk P w K mg base CX0 k f fd ps (spF Γ K n F)/\fS K fd ps []
inductive spI (Γ:Cn) (K:aV) (C:av) (n:ah) (F:ac D->ar D) (vs:ac V) (H:Hp) (Q:VK) (_e3:XK):Prop where
 |mk:∀x dx H1 G ds d us,vs=.ref x::us->H=upd (upd H1 dx (.own x)) x (.ins C dx [])->H1 x=ae->H1 dx=ae->dx≠x->bo G H1->Reps Γ K G us ds->ds.length=n->F ds=aa d->(∀G' H',Step G H1 G' H'->Rep Γ K G' (.ref x) d->Q .non H')->spI Γ K C n F vs H Q _e3
structure CalI (Γ:Cn) (P:ef) (w:cT) (K:aV) (mg:aj->ar Value) (base:Heap) (c:aj) (n k:ah) (F:ac D->ar D):Prop where
 ex:∃C f fd ps,Γ.cls c=aa C/\Mk K C f/\mg c=aa (.ref C)/\FnOk P w K mg base CX0 k f fd ps (spI Γ K C n F)/\fS K fd ps []
end
section
variable {c m:aj}
def pZ (c m:aj) (F:ac D->ar D) (fo:FE) (fr:FA):FE:=fun ρ=>(fo ρ).bind fun d=>match d with
 |.ins c' fs=>if c'=c/\fs.lookup m=ae then (fr ρ).bind fun ds=>F (d::ds) else ae
 |_=>ae
theorem Ms {k:ah} (C:CalM Γ X.prog X.w X.K X.mg X.base c m 1 k F) (hr:Room j X.A) (hk:k<=j) (ho:DE Γ X o fo)
  (ht:eval (.Call (.Attribute o m apos) [] [] pos) X.env=(do
   let ov ←eval o X.env
   oT apos.atName
   let (f,first) ←ij [ov] (vo ov m pl)
   Gi pos f first (cW pos (bc [] X.env)) (l' pos (ma [] X.env))):=by rfl) :
  DE Γ X (.Call (.Attribute o m apos) [] [] pos) (pZ c m F fo ao):=⟨by
 obtain⟨Ca,f,fd,ps,h0,h1,h2,h3,h4⟩:=C.ex;refine(JE ho.1 h1 h2 h3 (hr.mono hk) h4 .nil uH ht).imp fun σ H Q=>?_;rintro⟨G₀,H₀,G,ρ,d,A,h,k⟩;unfold pZ at h;obtain⟨x,hx,hq⟩:=oBd h;clear h;refine⟨G₀,H₀,G,ρ,x,A,hx,fun v G1 H1 s1 r1=>?_⟩;split at hq
 .rename_i c' fs;split at hq
  .rename_i hz;obtain⟨rfl,hz2⟩:=hz;obtain⟨ds,hds,hF⟩:=oBd hq;cases hds;have r1':=r1;cases r1 with
   |ins g1 g2 g3 g4=>
    rw[h0] at g2;cases g2;rename_i _ _ us0;have hl:dQ m us0=ae:=by
     rcases lK (k:=m) g3 g4 with⟨_,z2⟩|⟨d',v',z1,_,_⟩
     .exact z2
     .rw[z1] at hz2;cases hz2
    refine⟨_,_,_,rfl,s1.gh _ _ g1,hl,?_⟩;exact⟨G1,_,d,s1.gh,.cons r1' .nil,rfl,hF,fun v G' H' s r=>k v G' H' (s1.trans s) r⟩
  .cases hq
 .cases hq⟩
theorem IE {k:ah} (C:CalI Γ X.prog X.w X.K X.mg X.base c n k F) (hr:Room j X.A) (hk:k+1<=j) (hg:Gl X c) (ha:DA Γ X (e::es) fr) (hn:∀ρ ds,fr ρ=aa ds->ds.length=n)
  (hdb:(c==("__debug__":aj))=aq:=by decide) (he:bc (e::es) X.env=(aq,eval e X.env)::bc es X.env:=by rfl) (hpl:.(aO).any (·.1)=aq:=by rfl) :
  DE Γ X (.Call (.Name c p) (e::es) [] pos) (cF F fr):=⟨by
 obtain⟨Ca,f,fd,ps,h0,h1,h2,h3,h4⟩:=C.ex;refine(RZ h1 h3 (hr.mono hk) hg h2 h4 .nil uH ha.1 hdb he hpl).imp fun σ H Q=>?_;rintro⟨G₀,H₀,G,ρ,d,A,h,k⟩;unfold cF at h;obtain⟨ds,hd,hq⟩:=oBd h;refine⟨G₀,H₀,G,ρ,ds,A,hd,fun vs G1 H1 s1 r1 x dx hx hdx hne=>?_⟩;rw[iV];exact⟨x,dx,H1,G1,ds,d,vs,rfl,rfl,hx,hdx,hne,s1.gh,r1,hn ρ ds hd,hq,fun G' H' s r=>⟨rfl,k _ G' H' (s1.trans s) r⟩⟩⟩
end
def oF (n:ah) (c:aj) (g:FS):ac D->ar D:=fun ds=>(g (aa (.obj c [])::ds.map (fun d=>aa (Slot.sh d))++bS n ae)).bind fun r=>match r.1 with
 |.nx=>match r.2[0]? with
  |some (aa s)=>Dg s
  |_=>ae
 |_=>ae
variable {s0:aj}
section
variable {c:aj}
theorem Fun.okI {f:av} {k:ah} (F:Fun K x qual st f fd) (S:FnScope N (s0::ps) (aW st)) (hC:Γ.cls c=aa C)
  (hbody:∀(y:av) (cdv:Value) (A:eU) (outer:ac cN) (s:aH) (H:Hp) (E:XK),Room k .(as)->
   DSs (Γ.mk1 y) .(az).nox (eN st) g):FnOk P w K mg base CX0 (k+1) f fd (s0::ps) (spI Γ K C ps.length (oF (N.length-(ps.length+1)) c g)):=by
 refine F.ok S (fun vs H Q E h=>?_) (fun cdv A outer s H vs Q E hr h=>?_)
 .obtain⟨y,dx,H1,G,ds,d,us,rfl,_,_,_,_,_,r,hl,_⟩:=h;rw[qh,r.length,hl,qh]
 .obtain⟨y,dx,H1,G,ds,d,us,rfl,rfl,hx,hdx,hne,gh,r,hl,hd,k⟩:=h;refine⟨_,(hbody y cdv A outer s _ E hr).1,?_⟩;unfold oF at hd;obtain⟨⟨fl,ρ'⟩,hg,hd⟩:=oBd hd;have s1:=Step.newOwn (o:=.own y) gh hdx;have hx1:(upd H1 dx (.own y)) y=ae:=by rw[aO (eh hne)];exact hx
  have s2:=s1.trans (Step.newOwn (o:=.ins C dx []) s1.gh hx1);have hlen:us.length=ds.length:=r.length;have A0:At (Γ.mk1 y) K G H1 G (upd (upd H1 dx (.own y)) y (.ins C dx [])) (aa (.obj c [])::ds.map (fun d=>aa (Slot.sh d))++bS (N.length-(ps.length+1)) ae) (ie N (.ref y::us)):=by
   refine⟨s2,by simp[ie,hlen,hl],fun i=>if i=0 then [y] else [],fun i t e=>?_,fun i j t u hij e1 e2 b hb=>?_⟩
   .cases i with
    |zero=>
     cases e;exact⟨.ref y,rfl,.obj (vs:=[]) (fs:=[]) hC hx (gh.free hx) bK rfl .nil rfl⟩
    |succ i=>
     have e:(ds.map (fun d=>aa (Slot.sh d))++bS (N.length-(ps.length+1)) ae)[i]?=aa (aa t):=e;by_cases hi:i<ds.length
     .rw[qz (by simpa using hi),qj] at e;obtain⟨d',hd',e⟩:=oMd e;cases e;obtain⟨v,hv,rv⟩:=r.get hd';refine⟨v,?_,.sh (rv.to1 y)⟩;unfold ie;show((us.map aa)++_)[i]?=aa (aa v);rw[qz (by rw[qe,hlen];exact hi),qj,hv];rfl
     .rw[qK (by simpa using hi),zH] at e;split at e<;>cases e
   .have hb:b∈(if i=0 then [y] else []):=hb;show b∉(if j=0 then [y] else []);by_cases hi:i=0
    .subst hi;rw[qZ (eh hij)];exact fun z=>by cases z
    .rw[qZ hi] at hb;cases hb
  refine⟨G,H1,G,_,fl,ρ',A0,hg,fun σ' G' H' sm A'=>?_⟩;cases fl with
  |nx=>
   simp only at hd;split at hd
   .rename_i sl hs;obtain⟨a,G2,e1,st2,rp⟩:=A'.done hs hd;cases e1;exact k G2 H' st2 rp.of1
   .cases hd
  |rt d'=>cases hd
  |ow d'=>cases hd
  |nw d'=>cases hd
  |od d'=>cases hd
  |bk=>cases hd
  |ct=>cases hd
structure DfnM (K:aV) (C:av) (c m qual:aj) (st:Stmt):Prop where
 ex:∃f fd,Fun K m qual st f fd/\cO K (.ref C) m=aa (aa (.ref f))/\oX K (.ref f)=al
structure ClsOk (Γ:Cn) (K:aV) (mg:aj->ar Value) (c:aj) (C:av):Prop where
 cn:Γ.cls c=aa C
 cl:Cls K C
 mgC:mg c=aa (.ref C)
 makes:zC K C=al
 kp:gI K (.ref C)=al
theorem DfnM.cal {m:aj} {k:ah} (O:ClsOk Γ K mg c C) (F:DfnM K C c m qual st) (S:FnScope N ps (aW st))
  (hb:∀(kV doc pm:Value) (an:ar av) (cdv ct:Value) (us:ac Value),us.length=ps.length->l9 (ik m qual (io st) (eN st) (aW st) .none kV doc pm an cdv ct) ⟨us,[]⟩=bq (ps.zip us))
  (hbody:∀(f:av) (cdv:Value) (A:eU) (outer:ac cN) (s:aH) (H:Hp) (E:XK),Room k .(as)->
   DSs Γ .(az).nox (eN st) g):CalM Γ P w K mg base c m ps.length (k+1) (bj (N.length-ps.length) g):=by
 obtain⟨f,fd,h1,h2,h3⟩:=F.ex;exact⟨C,f,fd,ps,O.cn,O.cl,⟨h2,h3,h1.kp⟩,h1.okD S (hbody f),h1.binds hb⟩
theorem DfnM.calI {k:ah} (O:ClsOk Γ K mg c C) (F:DfnM K C c "__init__" qual st) (S:FnScope N (s0::ps) (aW st))
  (hb:∀(kV doc pm:Value) (an:ar av) (cdv ct:Value) (us:ac Value),us.length=(s0::ps).length->l9 (ik "__init__" qual (io st) (eN st) (aW st) .none kV doc pm an cdv ct) ⟨us,[]⟩=bq ((s0::ps).zip us))
  (hbody:∀(f y:av) (cdv:Value) (A:eU) (outer:ac cN) (s:aH) (H:Hp) (E:XK),Room k .(as)->
   DSs (Γ.mk1 y) .(az).nox (eN st) g):CalI Γ P w K mg base c ps.length (k+1) (oF (N.length-(ps.length+1)) c g):=by
 obtain⟨f,fd,h1,h2,h3⟩:=F.ex;exact⟨C,f,fd,s0::ps,O.cn,⟨O.makes,h2,h3,O.kp⟩,O.mgC,h1.okI S O.cn (hbody f),h1.binds hb⟩
theorem ClsOk.cf (O:ClsOk Γ K mg c C) (h:∀f∈attrs,j9 K C f):CF Γ K c attrs:=⟨C,O.cn,O.cl,h⟩
end
variable {M n0 ep:ah} {h:ag} {owner:b7 (ar ah)} {I:av} {wr:ac av} {hashAt:ah->ag} {h0:Heap} {es':b7 (ag×Value)}
namespace ST
structure Pr where
 j:ah
 more:ah
 i:ah
 pt:ah
noncomputable def adv (M:ah) (p:Pr):Pr:=if p.more > 0 then {p with j:=p.j+1,more:=p.more-1} else
 {j:=(jw M p.i p.pt).1,more:=dF M (jw M p.i p.pt).1-(jw M p.i p.pt).1,i:=(jw M p.i p.pt).1,pt:=(jw M p.i p.pt).2}
noncomputable def st0 (M:ah) (h:ag):Pr:={j:=gi h%(M+1),more:=dF M (gi h%(M+1))-gi h%(M+1),i:=gi h%(M+1),pt:=gi h}
def it (M:ah) (h:ag):ah->Pr
 |0=>st0 M h
 |n+1=>adv M (it M h n)
def J (M:ah) (h:ag) (n:ah):ah:=(it M h n).j
noncomputable def lp (M:ah) (h:ag):ah->ah×ah
 |0=>(gi h%(M+1),gi h)
 |r+1=>jw M .(N).1 .(N).2
noncomputable def mU (M:ah) (x:ah×ah):Pr:={j:=x.1,more:=dF M x.1-x.1,i:=x.1,pt:=x.2}
theorem tQ (M:ah) (h:ag) (n:ah):∀k,it M h (n+k)=(Nat.repeat (adv M) k (it M h n))
 |0=>rfl
 |k+1=>by rw[←z6,it,tQ M h n k];rfl
theorem Le (M i:ah):dF M i-i<=9:=by unfold dF;split<;>omega
theorem uA (M:ah):∀(k:ah) (p:Pr),k<=p.more->Nat.repeat (adv M) k p={p with j:=p.j+k,more:=p.more-k}
 |0,p,_=>rfl
 |k+1,p,h=>by rw[Nat.repeat,uA M k p .(a)];unfold adv;rw[qY (by show p.more-k > 0;omega)];simp only[Nat.sub_sub,z6]
theorem B2 (M:ah) (h:ag):∀r,∃n,n<=10*r/\it M h n=mU M .(N)
 |0=>⟨0,qv _,rfl⟩
 |r+1=>by obtain⟨n,hn,e⟩:=B2 M h r;have hl:=Le M .(N).1;refine⟨n+(dF M .(N).1-.(N).1)+1,by omega,?_⟩;have e2:=uA M (dF M .(N).1-.(N).1) (mU M .(N)) (qv _);rw[it,tQ,e,e2];unfold adv;rw[qZ (by show ¬((dF M .(N).1-.(N).1)-(dF M .(N).1-.(N).1) > 0);omega)];rfl
theorem JX (h:ag):gi h<2 ^ 64:=by unfold gi;have h1:=qX h (show(2 ^ 64:ag)≠0 by decide);have h2:=qV h (show(0:ag)<2 ^ 64 by decide);omega
theorem BX (M:ah) (h:ag):∀r,.(N).2=gi h / 32 ^ r
 |0=>by simp[lp]
 |r+1=>by show.(N).2 / 32=_;rw[BX M h r,Nat.div_div_eq_div_mul,Nat.pow_succ]
theorem Ot (M:ah) (h:ag) {r:ah} (hr:13<=r):.(N).2=0:=by rw[BX];refine Nat.div_eq_of_lt (qF (JX h) ?_);exact qM (show 2 ^ 64<=32 ^ 13 by decide) (Nat.pow_le_pow_right .(c) hr)
noncomputable def fl (M i:ah):ah:=(i*5+1)%(M+1)
def orb (M:ah):ah->ah->ah
 |0,i=>i
 |m+1,i=>fl M (orb M m i)
theorem zk (M:ah) (h:ag):∀m,(lp M h (13+m)).1=orb M m (lp M h 13).1
 |0=>rfl
 |m+1=>by show(jw M (lp M h (13+m)).1 (lp M h (13+m)).2).1=_;rw[Ot M h .(a),zk M h m];simp[jw,orb,fl]
theorem tW (M i:ah) (a:ah):∀b,orb M (a+b) i=orb M b (orb M a i)
 |0=>rfl
 |b+1=>by rw[←z6,orb,tW M i a b];rfl
def yV (M:ah):ah->ah->ac ah
 |0,_=>[]
 |n+1,i=>i::yV M n (fl M i)
theorem Bh (M:ah):∀m i,orb M (m+1) i=orb M m (fl M i)
 |0,_=>rfl
 |m+1,i=>by rw[orb,Bh M m i];rfl
theorem CH (M:ah):∀(n i j:ah),j∈yV M n i->∃m,m<n/\orb M m i=j
 |0,_,_,h=>nomatch h
 |n+1,i,j,h=>by
  rcases cy.mp h with e|h
  .exact⟨0,z8 _,e.symm⟩
  .obtain⟨m,hm,e⟩:=CH M n (fl M i) j h;exact⟨m+1,by omega,by rw[Bh];exact e⟩
structure Full (M:ah):Prop where
 all:∀j,j<=M->∃m,m<M+1/\orb M m 0=j
 back:orb M (M+1) 0=0
def chk (M:ah):ba:=(cz (M+1)).all (fun j=>(yV M (M+1) 0).contains j) && orb M (M+1) 0==0
theorem t6 (h:chk M=al):Full M:=by unfold chk at h;rw[ge,ko] at h;refine⟨fun j hj=>?_,by simpa using h.2⟩;have:=h.1 j (fV.mpr .(a));exact CH M (M+1) 0 j (by simpa using this)
theorem Dl:Full 7:=t6 .(j)
theorem Lh:Full 31:=t6 .(j)
theorem JB:Full 127:=t6 .(j)
theorem Se:Full 511:=t6 .(j)
theorem Full.reach (F:Full M) (hi:i<=M) (hj:j<=M):∃m,m<=M/\orb M m i=j:=by
 obtain⟨a,ha,ea⟩:=F.all i hi;obtain⟨b,hb,eb⟩:=F.all j hj;by_cases h:a<=b
 .refine⟨b-a,by omega,?_⟩;rw[←ea,←tW,show a+(b-a)=b by omega,eb]
 .refine⟨M+1-a+b,by omega,?_⟩;rw[←ea,←tW,show a+(M+1-a+b)=(M+1)+b by omega,tW,F.back,eb]
theorem wd (M:ah) (h:ag):∀r,.(N).1<=M
 |0=>GR.mp (kq _ (z8 _))
 |r+1=>GR.mp (kq _ (z8 _))
theorem Full.covers (F:Full M) (h:ag) (hj:j<=M):∃n,n<10*(M+15)/\J M h n=j:=by obtain⟨m,hm,e⟩:=F.reach (wd M h 13) hj;obtain⟨n,hn,en⟩:=B2 M h (13+m);refine⟨n,by omega,?_⟩;unfold J;rw[en];show(lp M h (13+m)).1=j;rw[zk,e]
theorem CI (M:ah) (h:ag):∀n,(it M h n).j+(it M h n).more<=M
 |0=>by
  have:=wd M h 0;show(lp M h 0).1+(dF M (lp M h 0).1-(lp M h 0).1)<=M;unfold dF;split<;>omega
 |n+1=>by
  have ih:=CI M h n;rw[it];unfold adv;split
  .show(it M h n).j+1+((it M h n).more-1)<=M;omega
  .show(jw M (it M h n).i (it M h n).pt).1+(dF M (jw M (it M h n).i (it M h n).pt).1-(jw M (it M h n).i (it M h n).pt).1)<=M;have:(jw M (it M h n).i (it M h n).pt).1<=M:=GR.mp (kq _ (z8 _));unfold dF;split<;>omega
theorem wk (M:ah) (h:ag) (n:ah):J M h n<=M:=qM (vJ _ _) (CI M h n)
theorem Full.first (F:Full M) (h:ag) (occ:ah->ba) (hf:∃j,j<=M/\occ j=aq):∃n,n<10*(M+15)/\occ (J M h n)=aq/\∀m,m<n->occ (J M h m)=al:=by
 obtain⟨j,hj,hof⟩:=hf;obtain⟨n,hn,e⟩:=F.covers h hj;have key:∀n,n<10*(M+15)->occ (J M h n)=aq->∃n,n<10*(M+15)/\occ (J M h n)=aq/\∀m,m<n->occ (J M h m)=al:=by
  intro n
  induction n using TC with
  |ind n ih=>
   intro hn ho;by_cases hx:∃m,m<n/\occ (J M h m)=aq
   .obtain⟨m,hm,hm2⟩:=hx;exact ih m hm .(a) hm2
   .refine⟨n,hn,ho,fun m hm=>?_⟩;cases q:occ (J M h m) with
    |true=>rfl
    |false=>exact bB ⟨m,hm,q⟩ hx
 exact key n hn (by rw[e];exact hof)
theorem xY (xs:b7 ah) (j:ah) (hs:xs.toList.Pairwise (· < ·)):∀(fuel lo hi:ah),hi-lo<=fuel->lo<=hi->hi<=xs.size->(∀i,i<lo->∀v,xs[i]?=aa v->v<j)->(∀i,hi<=i->∀v,xs[i]?=aa v->j<=v)->
  (z9 xs j fuel lo hi<=xs.size)/\(∀i,i<z9 xs j fuel lo hi->∀v,xs[i]?=aa v->v<j)/\∀i,z9 xs j fuel lo hi<=i->∀v,xs[i]?=aa v->j<=v
 |0,lo,hi,hf,hl,hh,h1,h2=>by
  have e:lo=hi:=by omega
  subst e;exact⟨hh,h1,h2⟩
 |fuel+1,lo,hi,hf,hl,hh,h1,h2=>by
  have mono:∀a b va vb,a<b->xs[a]?=aa va->xs[b]?=aa vb->va<vb:=fun a b va vb hab ha hb=>by have:=GS.mp hs a b;obtain⟨a1,a2⟩:=iG.mp ha;obtain⟨b1,b2⟩:=iG.mp hb;have q:=this (by simpa using a1) (by simpa using b1) hab;simpa[a2,b2] using q
  unfold z9;by_cases hlt:lo<hi
  .rw[qY hlt];have hm1:lo<=(lo+hi) / 2:=by omega
   have hm2:(lo+hi) / 2<hi:=by omega
   have hget:∃v,xs[(lo+hi) / 2]?=aa v:=⟨xs[(lo+hi) / 2]'.(a),by simp[show(lo+hi) / 2<xs.size by omega]⟩;obtain⟨v,hv⟩:=hget;have hd:xs.getD ((lo+hi) / 2) j=v:=by simp[Aa,hv]
   dsimp only;rw[hd];by_cases hvj:v<j
   .rw[qY hvj];refine xY xs j hs fuel _ _ .(a) .(a) hh (fun i hi' w hw=>?_) h2;rcases km i ((lo+hi) / 2) with hi2|hi2
    .exact sJ (mono i _ w v hi2 hw hv) hvj
    .have e:i=(lo+hi) / 2:=by omega
     subst e;rw[hv] at hw;cases hw;exact hvj
   .rw[qZ hvj];refine xY xs j hs fuel _ _ .(a) .(a) .(a) h1 fun i hi' w hw=>?_;rcases km ((lo+hi) / 2) i with hi2|hi2
    .exact qM .(a) (sv (mono _ i v w hi2 hv hw))
    .have e:i=(lo+hi) / 2:=by omega
     subst e;rw[hv] at hw;cases hw;omega
  .rw[qZ hlt];have e:lo=hi:=by omega
   subst e;exact⟨hh,h1,h2⟩
theorem xM (xs:b7 ah) (j:ah) (hs:xs.toList.Pairwise (· < ·)):cJ xs j<=xs.size/\(∀i,i<cJ xs j->∀v,xs[i]?=aa v->v<j)/\∀i,cJ xs j<=i->∀v,xs[i]?=aa v->j<=v:=
 xY xs j hs xs.size 0 xs.size (qv _) (gX _) (qv _) (fun i h=>bB h (GT _)) fun i h v hv=>by have:=(iG.mp hv).1;omega
theorem ze (xs:b7 ah) (j i:ah) (hs:xs.toList.Pairwise (· < ·)) (h:xs[i]?=aa j):cJ xs j=i:=by
 obtain⟨h0,h1,h2⟩:=xM xs j hs;rcases GU (cJ xs j) i with hl|hl|hl
 .have hi:=(iG.mp h).1;have hg:xs[cJ xs j]?=aa (xs[cJ xs j]'.(a)):=by simp[show cJ xs j<xs.size by omega]
  have q1:=h2 _ (qv _) _ hg;have:=GS.mp hs (cJ xs j) i (by simp;omega) (by simpa using hi) hl;obtain⟨_,e⟩:=iG.mp h;simp only[Array.getElem_toList] at this;omega
 .exact hl
 .have:=h1 i hl j h;omega
structure Tb (t:mh) (es:b7 (ag×Value)):Prop where
 full:Full t.mask
 sz:t.place.size=es.size
 dm:t.dummies=#[]
 ri:t.place.toList.Pairwise (· < ·)
 le:∀j∈t.place.toList,j<=t.mask
 few:es.size*5<t.mask*3
 rc:∀(i j:ah) (h:ag) (x:Value),t.place[i]?=aa j->es[i]?=aa (h,x)->∃n,J t.mask h n=j/\∀m,m<n->J t.mask h m∈t.place.toList
section
variable {t:mh} {es:b7 (ag×Value)}
theorem Tb.live (T:Tb t es) (h:t.place[i]?=aa j):t.slot j=.live i:=by unfold TF;rw[ze _ _ _ T.ri h];simp[h]
theorem Tb.empty (T:Tb t es) (h:j∉t.place.toList):t.slot j=.empty:=by
 unfold TF;have h1:t.place[cJ t.place j]?≠aa j:=fun e=>h (by rw[←qI] at e;exact qP e)
 have h2:GV t.dummies j=aq:=by rw[T.dm];rfl
 simp[h1,h2]
theorem Tb.occ (T:Tb t es) (h:j∈t.place.toList):∃i:ah,t.place[i]?=aa j:=by obtain⟨i,hi⟩:=vH.mp h;exact⟨i,by rw[←qI];exact hi⟩
theorem Tb.fits (T:Tb t es):t.fits es.size=al:=by have h1:=T.sz;have h2:=T.few;simp only[GW,TH,T.dm,Array.size_empty,ge,jq,vK];omega
theorem pJ:∀(a b:ac ah),a.Nodup->(∀x∈a,x∈b)->a.length<=b.length
 |[],_,_,_=>gX _
 |x::r,b,nd,h=>by have hx:=h x qf;have nd':=eJ.mp nd;have:=pJ r (b.erase x) nd'.2 fun y hy=>(List.mem_erase_of_ne (show y≠x from fun e=>nd'.1 (by rw[←e];exact hy))).mpr (h y (qg _ hy));have hl:=List.length_erase_of_mem hx;have hp:0<b.length:=List.length_pos_of_mem hx;rw[qh];omega
theorem Tb.free (T:Tb t es):∃j,j<=t.mask/\decide (j∈t.place.toList)=aq:=by
 by_cases hx:∃j,j<=t.mask/\j∉t.place.toList
 .obtain⟨j,h1,h2⟩:=hx;exact⟨j,h1,qN h2⟩
 .exfalso;have all:∀j,j<=t.mask->j∈t.place.toList:=fun j hj=>Classical.byContradiction fun hn=>hx ⟨j,hj,hn⟩;have h1:=pJ (cz (t.mask+1)) t.place.toList GX fun j hj=>all j (by have:=fV.mp hj;omega);have h2:=T.sz;have h3:=T.few;simp only[qU,iD] at h1;omega
theorem Tb.first (T:Tb t es) (h:ag):∃n,n<10*(t.mask+15)/\J t.mask h n∉t.place.toList/\∀m,m<n->J t.mask h m∈t.place.toList:=by obtain⟨n,h1,h2,h3⟩:=T.full.first h (fun j=>decide (j∈t.place.toList)) T.free;exact⟨n,h1,of_decide_eq_false h2,fun m hm=>sL (h3 m hm)⟩
noncomputable def iC (p:Pr):Ab:={j:=p.j,more:=p.more,i:=p.i,perturb:=p.pt,dummy:=ae}
theorem EE (t:mh) (p:Pr):t.advance (iC p)=iC (adv t.mask p):=by
 unfold SetTable.advance adv iC;by_cases h:p.more > 0
 .simp only[h,cr]
 .simp only[h,dv]
theorem Tb.probe_go (T:Tb t es) (hashAt:ah->ag) (h:ag) {n0:ah} (hf:J t.mask h n0∉t.place.toList) (ho:∀m,m<n0->J t.mask h m∈t.place.toList):∀(fuel n:ah),n<=n0->n0<n+fuel->
  (∃n' i,n<=n'/\n'<n0/\t.place[i]?=aa (J t.mask h n')/\hashAt i=h/\(∀m i,n<=m->m<n'->t.place[i]?=aa (J t.mask h m)->hashAt i≠h)/\GY t hashAt h fuel (iC (it t.mask h n))=aa (.candidate (J t.mask h n') i (iC (it t.mask h (n'+1))))) \/
  ((∀m i,n<=m->m<n0->t.place[i]?=aa (J t.mask h m)->hashAt i≠h)/\GY t hashAt h fuel (iC (it t.mask h n))=aa (.empty (J t.mask h n0) ae))
 |0,n,h1,h2=>by omega
 |fuel+1,n,h1,h2=>by
  unfold GY;by_cases hn:n=n0
  .subst hn
   right
   refine⟨fun m i a b=>by omega,?_⟩;have hs:t.slot (iC (it t.mask h n)).j=.empty:=T.empty hf;rw[hs];rfl
  .obtain⟨i,hi⟩:=T.occ (ho n .(a));have hs:t.slot (iC (it t.mask h n)).j=.live i:=T.live hi;rw[hs];dsimp only;by_cases hh:hashAt i=h
   .left
    refine⟨n,i,qv _,by omega,hi,hh,fun m i a b=>by omega,?_⟩;rw[qY (by simpa using hh),EE];rfl
   .rw[qZ (by simpa using hh),EE];have inj:∀i',t.place[i']?=aa (J t.mask h n)->i'=i:=fun i' h'=>by rw[←ze _ _ _ T.ri h',←ze _ _ _ T.ri hi]
    have ext:∀{b:ah},(∀m i,n+1<=m->m<b->t.place[i]?=aa (J t.mask h m)->hashAt i≠h)->∀m i,n<=m->m<b->t.place[i]?=aa (J t.mask h m)->hashAt i≠h:=fun {b} q m i' a c d=>by
     by_cases e:m=n
     .subst e;rw[inj i' d];exact hh
     .exact q m i' .(a) c d
    rcases T.probe_go hashAt h hf ho fuel (n+1) .(a) .(a) with⟨n',i',a,b,c,d,e,f⟩|⟨e,f⟩
    .exact .inl ⟨n',i',by omega,b,c,d,ext e,f⟩
    .exact .inr ⟨ext e,f⟩
theorem rh (xs:b7 α) (p:ah) (x:α) (hp:p<=xs.size):(dG xs p x).toList=xs.toList.take p++x::xs.toList.drop p:=by unfold dG;simp[Array.toList_extract,List.extract_eq_take_drop];exact lg (by simp)
theorem Dw (l:ac α) (p:ah) (x:α) (hp:p<=l.length) (i:ah):(l.take p++x::l.drop p)[i]?=if i<p then l[i]? else if i=p then aa x else l[i-1]?:=by
 by_cases h1:i<p
 .rw[qY h1,qz (by rw[qE];omega),vt h1]
 .rw[qZ h1,qK (by rw[qE];omega),qE,kr hp];by_cases h2:i=p
  .rw[qY h2,h2];simp
  .rw[qZ h2];obtain⟨k,hk⟩:∃k,i-p=k+1:=⟨i-p-1,by omega⟩;rw[hk,qc,vL]
   congr 1
   omega
theorem wX (l:ac α) (p:ah) (x y:α):y∈l.take p++x::l.drop p↔y=x\/y∈l:=by
 rw[cD,qL];constructor
 .rintro(h|h|h)
  .exact .inr (im h)
  .exact .inl h
  .exact .inr (vM h)
 .rintro(h|h)
  .exact .inr (.inl h)
  .have:y∈l.take p++l.drop p:=by rw[sM];exact h
   rcases cD.mp this with h|h
   .exact .inl h
   .exact .inr (.inr h)
theorem Tb.put (T:Tb t es) {x:Value} (hf:J t.mask h n0∉t.place.toList) (ho:∀m,m<n0->J t.mask h m∈t.place.toList) (few:(es.size+1)*5<t.mask*3) (pl:ba) :
  Tb { (t.put (J t.mask h n0)).1 with plain:=pl} (dG es (t.put (J t.mask h n0)).2 (h,x)):=by
 obtain⟨b0,b1,b2⟩:=xM t.place (J t.mask h n0) T.ri;have bes:cJ t.place (J t.mask h n0)<=es.size:=by rw[←T.sz];exact b0
 have pl1:(dG t.place .(H) (J t.mask h n0)).toList=t.place.toList.take .(H)++J t.mask h n0::t.place.toList.drop .(H):=rh _ _ _ b0;have el1:(dG es .(H) (h,x)).toList=es.toList.take .(H)++(h,x)::es.toList.drop .(H):=rh _ _ _ bes;have szp:(dG t.place .(H) (J t.mask h n0)).size=t.place.size+1:=by rw[←iD,pl1];simp;omega
 have sze:(dG es .(H) (h,x)).size=es.size+1:=by rw[←iD,el1];simp;omega
 refine⟨T.full,?_,?_,?_,?_,?_,?_⟩
 .show(dG t.place _ _).size=_;rw[szp];show _=(dG es .(H) (h,x)).size;rw[sze,T.sz]
 .show(if GV t.dummies (J t.mask h n0)=al then _ else t.dummies)=#[];rw[T.dm];rfl
 .show(dG t.place .(H) (J t.mask h n0)).toList.Pairwise (· < ·);rw[pl1,List.pairwise_append,List.pairwise_cons];have tk:∀a∈t.place.toList.take .(H),a<J t.mask h n0:=fun a ha=>by
   obtain⟨i,hi⟩:=vH.mp ha;have hi':i<cJ t.place (J t.mask h n0):=by have:=(db.mp hi).1;rw[qE] at this;omega
   rw[vt hi',qI] at hi;exact b1 i hi' a hi
  have dr:∀a∈t.place.toList.drop .(H),J t.mask h n0<a:=fun a ha=>by
   obtain⟨i,hi⟩:=vH.mp ha;rw[vL,qI] at hi;have h1:=b2 _ (vJ _ i) a hi;rcases km (J t.mask h n0) a with q|q
   .exact q
   .exact bB (by rw[←qI] at hi;have e:a=J t.mask h n0:=.(a);rw[e] at hi;exact qP hi) hf
  refine⟨T.ri.sublist (oZ _ _),⟨dr,T.ri.sublist (List.drop_sublist _ _)⟩,fun a ha b hb=>?_⟩;rcases cy.mp hb with e|hb
  .rw[e];exact tk a ha
  .exact sJ (tk a ha) (dr b hb)
 .intro j hj;have hj':j∈(dG t.place .(H) (J t.mask h n0)).toList:=hj;rw[pl1,wX] at hj';rcases hj' with e|hj'
  .rw[e];exact wk _ _ _
  .exact T.le j hj'
 .show(dG es .(H) (h,x)).size*5<t.mask*3;rw[sze];exact few
 .intro i j h' x' e1 e2;have e1':(dG t.place .(H) (J t.mask h n0)).toList[i]?=aa j:=by rw[qI];exact e1
  have e2':(dG es .(H) (h,x)).toList[i]?=aa (h',x'):=by rw[qI];exact e2
  rw[pl1,Dw _ _ _ (by simpa using b0)] at e1';rw[el1,Dw _ _ _ (by simpa using bes)] at e2';have up:∀{n:ah},(∀m,m<n->J t.mask h' m∈t.place.toList)->∀m,m<n->J t.mask h' m∈(dG t.place .(H) (J t.mask h n0)).toList:=fun q m hm=>by rw[pl1,wX];exact .inr (q m hm)
  by_cases c1:i<cJ t.place (J t.mask h n0)
  .rw[qY c1] at e1' e2';rw[qI] at e1' e2';obtain⟨n,hn,q⟩:=T.rc i j h' x' e1' e2';exact⟨n,hn,up q⟩
  .rw[qZ c1] at e1' e2';by_cases c2:i=cJ t.place (J t.mask h n0)
   .rw[qY c2] at e1' e2';cases e1';cases e2';exact⟨n0,rfl,up ho⟩
   .rw[qZ c2] at e1' e2';rw[qI] at e1' e2';obtain⟨n,hn,q⟩:=T.rc _ j h' x' e1' e2';exact⟨n,hn,up q⟩
end
noncomputable def fG (owner:b7 (ar ah)) (j:ah):ba:=(owner.getD j (aa 0)).isNone
theorem rF {r:ah} (e:it M h n=mU M .(N)) {k:ah} (hk:k<dF M .(N).1+1-.(N).1):J M h (n+k)=.(N).1+k:=by unfold J;rw[tQ,e,uA M k _ (by show k<=dF M .(N).1-.(N).1;omega)];rfl
theorem R' {r:ah} (e:it M h n=mU M .(N)):it M h (n+(dF M .(N).1+1-.(N).1))=mU M (lp M h (r+1)):=by
 have hge:.(N).1<=dF M .(N).1:=by unfold dF;split<;>omega
 have e2:=uA M (dF M .(N).1-.(N).1) (mU M .(N)) (qv _);rw[show n+(dF M .(N).1+1-.(N).1)=n+(dF M .(N).1-.(N).1)+1 by omega,it,tQ,e,e2];unfold adv;rw[qZ (by show ¬((dF M .(N).1-.(N).1)-(dF M .(N).1-.(N).1) > 0);omega)];rfl
theorem C8 {M:ah} {h:ag} (owner:b7 (ar ah)) {rs:ah} (hfr:fG owner (lp M h rs).1=al):∀(fuel r n:ah),it M h n=mU M .(N)->r<=rs->rs<r+fuel->(∀m,m<n->fG owner (J M h m)=aq)->
  ∃n',fG owner (J M h n')=al/\(∀m,m<n'->fG owner (J M h m)=aq)/\sN M owner fuel .(N).1 .(N).2=aa (J M h n')
 |0,r,n,_,h1,h2,_=>by omega
 |fuel+1,r,n,e,h1,h2,h3=>by
  unfold sN;cases hf:(cz (dF M .(N).1+1-.(N).1)).find? (fun k=>(owner.getD (.(N).1+k) (aa 0)).isNone) with
  |some k=>
   have hk:=fV.mp (List.mem_of_find?_eq_some hf);have hp:fG owner (.(N).1+k)=al:=by have:=List.find?_some hf;exact this
   refine⟨n+k,by rw[rF e hk];exact hp,fun m hm=>?_,?_⟩
   .rcases km m n with c|c
    .exact h3 m c
    .obtain⟨d,rfl⟩:∃d,m=n+d:=⟨m-n,by omega⟩;rw[rF e .(a)];obtain⟨as,bs,hab,hno⟩:=(List.find?_eq_some_iff_append.mp hf).2;have hd:d∈as:=by
      have hl:as=cz k:=by
       have hlen:as.length=k:=by
        have:(cz (dF M .(N).1+1-.(N).1))[as.length]?=aa k:=by rw[hab];simp
        rw[mj] at this
        .exact qH this
        .have:=cC fW hab;simp at this;omega
       have:=cC (vN k) hab;rw[List.take_range,kr .(a),←hlen,List.take_left'] at this
       .rw[hlen] at this;exact this.symm
       .rfl
      rw[hl];exact fV.mpr .(a)
     have:=hno d hd;exact vO.mpr (fun z=>by rw[show(owner.getD (.(N).1+d) (aa 0)).isNone=al from z] at this;cases this)
   .rw[rF e hk]
  |none=>
   have hn:∀k,k<dF M .(N).1+1-.(N).1->fG owner (J M h (n+k))=aq:=fun k hk=>by rw[rF e hk];have:=List.find?_eq_none.mp hf k (fV.mpr hk);exact vO.mpr this
   have hge:.(N).1<=dF M .(N).1:=by unfold dF;split<;>omega
   have hr:r≠rs:=fun z=>by subst z;have:=hn 0 .(a);rw[rF e .(a),Ac,hfr] at this;cases this
   exact C8 owner hfr fuel (r+1) _ (R' e) .(a) .(a) fun m hm=>by
    rcases km m n with c|c
    .exact h3 m c
    .obtain⟨d,rfl⟩:∃d,m=n+d:=⟨m-n,by omega⟩;exact hn d .(a)
theorem Full.free (F:Full M) (h:ag) (owner:b7 (ar ah)) (hf:∃j,j<=M/\fG owner j=al) :
  ∃n,fG owner (J M h n)=al/\(∀m,m<n->fG owner (J M h m)=aq)/\sN M owner (nN M) (gi h%(M+1)) (gi h)=aa (J M h n):=by
 obtain⟨j,hj,hjf⟩:=hf;obtain⟨m,hm,e⟩:=F.reach (wd M h 13) hj;have hl:(lp M h (13+m)).1=j:=by rw[zk,e]
 exact C8 owner (rs:=13+m) (by rw[hl];exact hjf) (nN M) 0 0 rfl (gX _) (by unfold nN;omega) fun m hm=>bB hm (GT _)
structure Own (M:ah) (hs:ac ag) (owner:b7 (ar ah)):Prop where
 sz:owner.size=M+1
 lt:∀(j k:ah),owner[j]?=aa (aa k)->k<hs.length
 on:∀k,k<hs.length->∃j:ah,owner[j]?=aa (aa k)
 inj:∀(j j' k:ah),owner[j]?=aa (aa k)->owner[j']?=aa (aa k)->j=j'
 rc:∀(j k:ah) h,owner[j]?=aa (aa k)->hs[k]?=aa h->∃n,J M h n=j/\∀m,m<n->fG owner (J M h m)=aq
theorem pK :fG owner j=al↔owner[j]?=aa ae:=by
 unfold fG;rw[Aa];cases e:owner[j]? with
 |none=>simp
 |some o=>cases o<;>simp
theorem Own.empty (M:ah):Own M [] (TJ (M+1) ae):=by
 have no:∀(j k:ah),(TJ (M+1) (ae:ar ah))[j]?=aa (aa k)->False:=fun j k h=>by rw[Array.getElem?_replicate] at h;split at h<;>cases h
 exact⟨by simp,fun j k h=>(no j k h).elim,fun k h=>bB h (GT _),fun j _ k h _=>(no j k h).elim,fun j k _ h _=>(no j k h).elim⟩
theorem Own.room {hs:ac ag} (O:Own M hs owner) (hr:hs.length<=M):∃j,j<=M/\fG owner j=al:=by
 by_cases hx:∃j,j<=M/\fG owner j=al
 .exact hx
 .exfalso;have all:∀j,j<=M->∃k,owner[j]?=aa (aa k):=fun j hj=>by
   have h1:fG owner j≠al:=fun z=>hx ⟨j,hj,z⟩;have h2:j<owner.size:=by rw[O.sz];omega
   cases q:owner[j] with
   |none=>exact bB (pK.mpr (by simp[h2,q])) h1
   |some k=>exact⟨k,by simp[h2,q]⟩
  have pig:=pJ ((cz (M+1)).map fun j=>((owner[j]?).join).getD 0) (cz hs.length) ?_ ?_
  .rw[qe,qU,qU] at pig;omega
  .refine GZ.mpr (Ad.mpr (TK ?_ GX));intro a b ha hb hab e;obtain⟨k,hk⟩:=all a (by have:=fV.mp ha;omega);obtain⟨k',hk'⟩:=all b (by have:=fV.mp hb;omega);simp only[hk,hk',TL,TM] at e;subst e;exact hab (O.inj a b k hk hk')
  .intro x hx';obtain⟨j,hj,rfl⟩:=bQ.mp hx';obtain⟨k,hk⟩:=all j (by have:=fV.mp hj;omega);simp only[hk,TL,TM];exact fV.mpr (O.lt j k hk)
theorem Own.more {hs:ac ag} (O:Own M hs owner) (hf:fG owner (J M h n)=al) (ho:∀m,m<n->fG owner (J M h m)=aq) :
  Own M (hs++[h]) (owner.setIfInBounds (J M h n) (aa hs.length)):=by
 have hlt:J M h n<owner.size:=by rw[O.sz];have:=wk M h n;omega
 have hold:=pK.mp hf;have get:∀j:ah,(owner.setIfInBounds (J M h n) (aa hs.length))[j]?=if j=J M h n then aa (aa hs.length) else owner[j]?:=fun j=>by
  rw[Array.getElem?_setIfInBounds];by_cases e:J M h n=j
  .subst e;simp[hlt]
  .rw[qZ e,qZ (eh e)]
 have stay:∀{j k:ah},owner[j]?=aa (aa k)->(owner.setIfInBounds (J M h n) (aa hs.length))[j]?=aa (aa k):=fun {j k} q=>by
  rw[get,qZ]
  .exact q
  .intro e;rw[e,hold] at q;cases q
 have notfree:∀{j:ah},fG owner j=aq->fG (owner.setIfInBounds (J M h n) (aa hs.length)) j=aq:=fun {j} q=>by
  refine vO.mpr fun z=>?_;have z':=pK.mp z;rw[get] at z';split at z'
  .cases z'
  .rw[pK.mpr z'] at q;cases q
 refine⟨by simp[O.sz],fun j k q=>?_,fun k hk=>?_,fun j j' k q q'=>?_,fun j k h' q q'=>?_⟩
 .rw[get] at q;rw[qi,qW];split at q
  .cases q;omega
  .have:=O.lt j k q;omega
 .rw[qi,qW] at hk;by_cases e:k=hs.length
  .exact⟨J M h n,by rw[get,qY rfl,e]⟩
  .obtain⟨j,hj⟩:=O.on k .(a);exact⟨j,stay hj⟩
 .rw[get] at q q';split at q
  .rename_i c;cases q;split at q'
   .rename_i c';rw[c,c']
   .have:=O.lt j' _ q';omega
  .split at q'
   .cases q';have:=O.lt j _ q;omega
   .exact O.inj j j' k q q'
 .rw[get] at q;split at q
  .rename_i c;cases q;rw[qK (qv _)] at q';simp at q';subst q';exact⟨n,c.symm,fun m hm=>notfree (ho m hm)⟩
  .have hk:=O.lt j k q;rw[qz hk] at q';obtain⟨n',e,r⟩:=O.rc j k h' q q';exact⟨n',e,fun m hm=>notfree (r m hm)⟩
theorem Full.lays (F:Full M) (hs:b7 ag) (hr:hs.size<=M):∃owner,TN M hs=aa owner/\Own M hs.toList owner:=by
 have all:∀(bz done:ac ag) (owner:b7 (ar ah)),Own M done owner->(done++bz).length<=M->∃owner',Own M (done++bz) owner' /\
   bz.foldl (fun(acc:ar (b7 (ar ah)×ah)) h=>do
    let (owner,k) ←acc
    let j ←sN M owner (nN M) (gi h%(M+1)) (gi h)
    bq (owner.setIfInBounds j (aa k),k+1)) (aa (owner,done.length))=aa (owner',(done++bz).length):=by
  intro bz
  induction bz with
  |nil=>intro done owner O _;exact⟨owner,by rw[iV];exact O,by simp⟩
  |cons h r ih=>
   intro done owner O hl;obtain⟨n,h1,h2,h3⟩:=F.free h owner (O.room (by simp at hl;omega));have O':=O.more h1 h2;obtain⟨owner',O2,e⟩:=ih (done++[h]) _ O' (by simpa using hl);refine⟨owner',by simpa using O2,?_⟩;rw[nJ];have e1:(do
    let (owner,k) ←aa (owner,done.length)
    let j ←sN M owner (nN M) (gi h%(M+1)) (gi h)
    bq (owner.setIfInBounds j (aa k),k+1):ar (b7 (ar ah)×ah))=aa (owner.setIfInBounds (J M h n) (aa done.length),done.length+1):=by
    show(sN M owner (nN M) (gi h%(M+1)) (gi h) >>= fun j=>bq (owner.setIfInBounds j (aa done.length),done.length+1))=_;rw[h3];rfl
   rw[e1];rw[qi,qW] at e;rw[e];simp
 obtain⟨owner',O,e⟩:=all hs.toList [] _ (Own.empty M) (by simpa using hr);refine⟨owner',?_,by simpa using O⟩;unfold TN;rw[←Array.foldl_toList];have e':=cC (o8 (·.1)) e;exact e'
theorem DF {α β:Type} (f:α->ar β):∀(l:ac α),(∀k∈l,∃y,f k=aa y)->∀i:ah,(l.filterMap f)[i]?=(l[i]?).bind f
 |[],_,i=>by simp
 |k::r,h,i=>by
  obtain⟨y,hy⟩:=h k qf;rw[TQ hy];cases i with
  |zero=>simp[hy]
  |succ i=>simp only[qc];exact DF f r (fun k hk=>h k (qg _ hk)) i
theorem xO {α β:Type} (f:α->ar β):∀(l:ac α),(∀k∈l,∃y,f k=aa y)->(l.filterMap f).length=l.length
 |[],_=>rfl
 |k::r,h=>by obtain⟨y,hy⟩:=h k qf;rw[TQ hy,qh,qh,xO f r fun k hk=>h k (qg _ hk)]
noncomputable def fE (M:ah) (owner:b7 (ar ah)):ac (ah×ah):=(cz (M+1)).filterMap fun j=>(owner.getD j ae).map (j,·)
theorem kG (hsz:owner.size=M+1) {k:ah} :(j,k)∈fE M owner↔owner[j]?=aa (aa k):=by
 unfold fE;rw[oV];constructor
 .rintro⟨j',hj',e⟩;rw[Aa] at e;cases q:owner[j']? with
  |none=>rw[q] at e;cases e
  |some o=>
   rw[q] at e;cases o with
   |none=>cases e
   |some k'=>cases e;exact q
 .intro q;have hj:j<owner.size:=(iG.mp q).1;exact⟨j,fV.mpr .(a),by rw[Aa,q];rfl⟩
theorem Bz (M:ah) (owner:b7 (ar ah)):((fE M owner).map (·.1)).Pairwise (· < ·):=by unfold fE;rw[Ad];refine Vs _ ?_ (List.pairwise_lt_range (n:=M+1));intro a a' haa b hb b' hb';obtain⟨k,_,rfl⟩:=oMd hb;obtain⟨k',_,rfl⟩:=oMd hb';exact haa
theorem IA {hs:ac ag} (O:Own M hs owner):((fE M owner).map (·.2)).Nodup:=by have h1:=Ad.mp (Bz M owner);refine GZ.mpr (Ad.mpr (TK ?_ h1));rintro⟨j,k⟩ ⟨j',k'⟩ ha hb hlt e;have e':k=k':=e;subst e';have:=O.inj j j' k ((kG O.sz).mp ha) ((kG O.sz).mp hb);have hlt':j<j':=hlt;omega
theorem NU {hs:ac ag} (O:Own M hs owner):(fE M owner).length=hs.length:=by
 have h1:=pJ ((fE M owner).map (·.2)) (cz hs.length) (IA O) fun k hk=>by obtain⟨⟨j,k'⟩,hm,rfl⟩:=bQ.mp hk;exact fV.mpr (O.lt j k' ((kG O.sz).mp hm))
 have h2:=pJ (cz hs.length) ((fE M owner).map (·.2)) GX fun k hk=>by obtain⟨j,hj⟩:=O.on k (fV.mp hk);exact bQ.mpr ⟨(j,k),(kG O.sz).mpr hj,rfl⟩
 rw[qe,qU] at h1 h2;omega
theorem Full.relaid {t:mh} {es:b7 (ag×Value)} {wanted:ah} (F:Full (pd wanted-1)) (few:es.size*5<(pd wanted-1)*3) :
  ∃t' order,t.relaid (es.map (·.1)) wanted=aa (t',order)/\(order.filterMap (es[·]?)).size=es.size/\Tb t' (order.filterMap (es[·]?))/\(∀e,e∈(order.filterMap (es[·]?)).toList↔e∈es.toList)/\t'.mask=pd wanted-1/\t'.led=t.led:=by
 generalize hM:pd wanted-1=M at F few;obtain⟨owner,hl,O⟩:=F.lays (es.map (·.1)) (by simp;omega);have hlen:(es.map (·.1)).toList.length=es.size:=by simp
 have llen:(fE M owner).length=es.size:=by rw[NU O,hlen]
 refine⟨{mask:=M,place:=((fE M owner).map (·.1)).toArray,dummies:=#[],finger:=t.finger,led:=t.led,moves:=t.movedTo M,plain:=t.plain},((fE M owner).map (·.2)).toArray,?_,?_⟩
 .unfold SetTable.relaid;rw[hM];unfold SetTable.laid;rw[hl];rfl
 .have hall:∀k∈(fE M owner).map (·.2),∃y,es[k]?=aa y:=fun k hk=>by obtain⟨⟨j,k'⟩,hm,rfl⟩:=bQ.mp hk;have:=O.lt j k' ((kG O.sz).mp hm);rw[hlen] at this;exact⟨es[k'],by simp[this]⟩
  have etl:(TR (fun x=>es[x]?) ((fE M owner).map (·.2)).toArray).toList=((fE M owner).map (·.2)).filterMap (fun x=>es[x]?):=by simp
  have esz:(TR (fun x=>es[x]?) ((fE M owner).map (·.2)).toArray).size=es.size:=by rw[←iD,etl,xO _ _ hall,qe,llen]
  refine⟨esz,⟨F,?_,rfl,?_,?_,?_,?_⟩,fun e=>?_,rfl,rfl⟩
  .rw[esz];simp[llen]
  .show((fE M owner).map (·.1)).toArray.toList.Pairwise (· < ·);exact Bz M owner
  .intro j hj;have hj':j∈(fE M owner).map (·.1):=hj;obtain⟨⟨j',k⟩,hm,rfl⟩:=bQ.mp hj';have:=(iG.mp ((kG O.sz).mp hm)).1;rw[O.sz] at this;show j'<=M;omega
  .rw[esz];exact few
  .intro i j h x e1 e2;have e1':((fE M owner).map (·.1))[i]?=aa j:=by simpa using e1
   rw[←qI,etl,DF _ _ hall,qj] at e2;rw[qj] at e1';obtain⟨⟨j',k⟩,hm,rfl⟩:=oMd e1';rw[hm] at e2;have e2':es[k]?=aa (h,x):=e2;have ho:=(kG O.sz).mp (qP hm);obtain⟨n,hn,q⟩:=O.rc j' k h ho (by simp[e2']);refine⟨n,hn,fun m hm'=>?_⟩;have hnf:=q m hm';have hle:=wk M h m;have hlt:J M h m<owner.size:=by rw[O.sz];omega
   cases c:owner[J M h m] with
   |none=>
    rw[pK.mpr (by simp[hlt,c])] at hnf;cases hnf
   |some k'=>
    show J M h m∈(fE M owner).map (·.1);exact bQ.mpr ⟨(J M h m,k'),(kG O.sz).mpr (by simp[hlt,c]),rfl⟩
  .rw[etl,oV];constructor
   .rintro⟨k,_,hk⟩;rw[←qI] at hk;exact qP hk
   .intro he;obtain⟨k,hk⟩:=vH.mp he;rw[qI] at hk;have hlt:=(iG.mp hk).1;obtain⟨j,hj⟩:=O.on k (by rw[hlen];exact hlt);exact⟨k,bQ.mpr ⟨(j,k),(kG O.sz).mpr hj,rfl⟩,hk⟩
noncomputable def Mk (M:ah):Prop:=M=7\/M=31\/M=127\/M=511
theorem Mk.full (h:Mk M):Full M:=by
 rcases h with h|h|h|h<;>subst h
 .exact Dl
 .exact Lh
 .exact JB
 .exact Se
theorem Mk.grow (h:Mk M) (h1:n*5<M*3) (h2:¬(n+1)*5<M*3) (hn:n<=300):Mk (pd (Ae (n+1))-1)/\(n+1)*5<(pd (Ae (n+1))-1)*3/\pd (Ae (n+1))<=512:=by
 rcases h with h|h|h|h<;>subst h
 .have:n=4:=by omega
  subst this;exact⟨.inr (.inl .(c)),by decide,by decide⟩
 .have:n=18:=by omega
  subst this;exact⟨.inr (.inr (.inl .(c))),by decide,by decide⟩
 .have:n=76:=by omega
  subst this;exact⟨.inr (.inr (.inr .(c))),by decide,by decide⟩
 .omega
section
variable {G:b7 sw->b7 sw->Prop} {P:ah->Value->Prop} {St:ah->aH->Prop}
noncomputable def Dp (prog:ef) (w:cT) (A:eU) (S:av) (Ba:Heap->Prop) (P:ah->Value->Prop) (n:ah) (J:ah->Obj->Prop):Prop:=
 ∀(i:ah) (v:Value) (s:aH) (o:Obj) (Q:ba->aH->Prop) (E:Value->aH->Prop),i<n->P i v->s.heap.get? S=aa o->J i o->Ba s.heap->
  (∀b h' tk o',s.toks<=tk->jp S s.heap h'->h'.get? S=aa o'->J (i+1) o'->Q b {s with heap:=h',toks:=tk})->aG .(B) A (vP S v) Q E s
theorem Lg (W:WalksS prog w A.in1 I fp wr G n P St) (S:av) (hSf:S∉fp) (Ba:Heap->Prop) (hBa:∀h h',Ba h->(∀b o,b∉S::wr->h.get? b=aa o->h'.get? b=aa o)->Ba h') (J:ah->Obj->Prop) (hadd:Dp prog w A.in1 S Ba P n J) :
  ∀(k i:ah) (s:aH) (o:Obj),n-i=k->i<=n->St i s->s.heap.get? S=aa o->J i o->Ba s.heap->
   (∀s' o',Moved (S::wr) G s s'->s'.heap.get? S=aa o'->J n o'->R (.ok (.ret .none)) s')->
   gW .(B) A (.builtin "set.update.loop" ⟨[.ref S,.ref I],[]⟩) R s:=by
 have hSw:S∉wr:=fun h=>hSf (W.sub _ h);have hsub:∀b∈wr,b∈S::wr:=fun b hb=>qg _ hb;intro k
 induction k with
 |zero=>
  intro i s o hk hi hst hS hJ hB hR;have hin:i=n:=by omega
  subst hin;refine sO TU ?_;rw[Af G0 _];show aG _ A.in1 (nz (.ref I) >>= _) _ _ s;refine qx (W.done s _ _ hst fun s' hm=>?_);show aG _ A.in1 (ret oP) _ _ s';exact qA (hR s' o (hm.mono hsub) (hm.heap S _ hSw hS) hJ)
 |succ k ih=>
  intro i s o hk hi hst hS hJ hB hR;have hlt:i<n:=by omega
  refine sO TU ?_;rw[Af G0 _];show aG _ A.in1 (nz (.ref I) >>= _) _ _ s;refine qx (W.item i s _ _ hlt hst fun v s' hP hst' hm=>?_);show aG _ A.in1 (ij [v] (vP S v) >>= _) _ _ s';refine qx (qT ?_);refine hadd i v s' o _ _ hlt hP (hm.heap S _ hSw hS) hJ (hBa _ _ hB fun b o hb e=>hm.heap b o (fun z=>hb (hsub b z)) e) fun b h' tk o' htk hsb hS' hJ'=>?_;refine qA ⟨G6 G0 _,ih (i+1) _ o' .(a) hlt (W.frame _ s' _ _ hst' htk fun b hb o e=>?_) hS' hJ' ?_ fun s'' o'' hm'' hS'' hJ''=>?_⟩
  .rw[hsb.2 b (fun h:b=S=>hSf (by rw[←h];exact hb))];exact e
  .refine hBa _ _ (hBa _ _ hB fun b o hb e=>hm.heap b o (fun z=>hb (hsub b z)) e) fun b o hb e=>?_;show h'.get? b=aa o;rw[hsb.2 b (fun h:b=S=>hb (by rw[h];exact qf))];exact e
  .refine hR s'' o'' (TV W.gtrans ((hm.mono hsub).then_heap htk fun b o hb e=>?_) hm'') hS'' hJ'';rw[hsb.2 b (fun h:b=S=>hb (by rw[h];exact qf))];exact e
end
set_option maxRecDepth 100000 in
set_option maxHeartbeats 3200000 in
theorem AV {l:av} (hh:A.handled=ae) (hl:s.heap.IsList l items) (J:ah->Obj->Prop)
  (hJ0:∀led:ba,J 0 {cls:=.type "set",dict:=ae,data:=.set #[] 0 (.fresh 0 0 led)})
  (hadd:∀A':eU,A'.units<=A.units+16->Dp prog w A' s.heap.objs.size (fun h=>∀b o,b<s.heap.objs.size->s.heap.get? b=aa o->h.get? b=aa o) (fun i v=>items[i]?=aa v) items.size J)
  (h:∀(h':Heap) (tk:ah) (o:Obj),h'.get? s.heap.objs.size=aa o->J items.size o->
   (∀b o,b<s.heap.objs.size->s.heap.get? b=aa o->h'.get? b=aa o)->Q (.ref s.heap.objs.size) {s with heap:=h',toks:=tk}) :
  aG .(B) A (call (.type "set") [.ref l]) Q E s:=by
 obtain⟨c,tl,hmro⟩:=nO.mro;have hmade:=nO.made;have hsub:=nO.sub;refine kj (TW ?_);show aG _ _ (callAny (.type "set") _) _ _ _;refine qA ⟨Ag _ .(j),sO F.entry_type_call ?_⟩;rw[Around.under_plain (weight_type_call_type "set" [.ref l] []) rfl];have h1:=nO.notType;have h2:=nO.canCreate;have hct:=F.typeCall_set_1 (.ref l)
 repeat (any_goals (first|assumption|wp_step))
 refine lf (code_set_new_1 (.ref l) (E:=E) (Q₁:=fun obj s₁=>∃led:ba,obj=.ref s.heap.objs.size/\s₁={s with heap:=s.heap.push {cls:=.type "set",dict:=ae,data:=.set #[] 0 (.fresh 0 0 led)} }) fun led=>⟨led,rfl,rfl⟩) fun r s₁ hr=>?_;cases r with
 |error e=>exact hr
 |ok fl=>
  cases fl with
  |ret obj=>
   obtain⟨led,rfl,rfl⟩:=hr;have hS:.(v).get? s.heap.objs.size=aa {cls:=.type "set",dict:=ae,data:=.set #[] 0 (.fresh 0 0 led)}:=qG _ rfl;have hT:Ah {s with heap:=s.heap.push {cls:=.type "set",dict:=ae,data:=.set #[] 0 (.fresh 0 0 led)} } (.ref s.heap.objs.size) "set":=⟨_,hS,rfl⟩;have hli:=nO.init.lookup;have hbi:=nO.init.bind (.ref s.heap.objs.size)
   repeat (any_goals (first|assumption|wp_step))
   refine lf (pe (R:=wants (fun r s₂=>r=.none/\∃h' tk o,s₂={s with heap:=h',toks:=tk}/\h'.get? s.heap.objs.size=aa o/\J items.size o /\
     (∀b o,b<s.heap.objs.size->s.heap.get? b=aa o->h'.get? b=aa o)) E) nO.init.plain F.entry_set_init (check_set_init_1 hT ?_)) fun r₂ s₂ hr₂=>?_
   .obtain⟨ol,hol,hcl,nl,hdl⟩:=hl;obtain⟨ocls,odict,odata,oslots⟩:=ol;simp only at hcl hdl;subst hcl;subst hdl;have hol':.(v).get? l=aa {cls:=.type "list",dict:=odict,data:=.seq items nl,slots:=oslots}:=qt _ hol;have hsls:=F.sub_list_set;have hslf:=F.sub_list_frozenset;have hne:(lU "list"==lU "dict")=aq:=by decide
    have hl1:.(v).IsList l items:=⟨_,hol',rfl,nl,rfl⟩;unfold Builtin.«set.__init__» noKeywords Vt;generalize hPI:vh=PI
    wp_walk
    subst hPI;refine vE hl1 ?_;refine qx (wpAny_runValue ?_);have hlS:l<s.heap.objs.size:=qu hol;have hh3:A.in1.in1.in1.handled=ae:=by simp[hh]
    have hneI:l≠.(v).objs.size:=by rw[nA];exact qC (sP hlS)
    have hSf:s.heap.objs.size∉[.(v).objs.size,l]:=by rw[nA];simp only[qL,b8,qJ,or_false,pf];exact⟨qC (oY _),zy hlS⟩
    have hget:(.(v).push {cls:=.type "list_iterator",data:=.fields #[.ref l,.int 0 0]}).get? s.heap.objs.size
       = aa {cls:=.type "set",dict:=ae,data:=.set #[] 0 (.fresh 0 0 led)}:=qt _ hS
    refine Lg ((GO hh3 _ l hneI items).toS) s.heap.objs.size
     hSf (fun h=>∀b o,b<s.heap.objs.size->s.heap.get? b=aa o->h.get? b=aa o) (fun h h' hB hk b o hb e=>hk b o ?_ (hB b o hb e)) J (hadd _ (by show A.units+3<=_;omega)) (items.size-0) 0 _ _ .(a) (gX _)
     ⟨⟨_,qG _ rfl,rfl,rfl⟩,(hl1.push _)⟩ hget (hJ0 led) (fun b o hb e=>qt _ (qt _ e)) ?hR
    .have hb1:b≠s.heap.objs.size:=qC hb;have hb2:b≠.(v).objs.size:=by rw[nA];exact qC (sP hb)
     simp only[qL,b8,qJ,or_false,pf];exact⟨hb1,hb2⟩
    case hR=>
     intro s' o' hm hS' hJ';obtain⟨h',g',d',tk',os'⟩:=s';have eg:g'=s.gens:=hm.gens;have ed:d'=s.drawn:=hm.drawn;have eo:os'=s.os:=hm.os;subst eg;subst ed;subst eo;show aG _ _ _ _ _ _;refine qA ?_;show aG _ _ (ret oP) _ _ _;refine qA ⟨rfl,h',tk',o',rfl,hS',hJ',fun b o hb e=>?_⟩;have hb1:b≠s.heap.objs.size:=qC hb;have hb2:b≠.(v).objs.size:=by rw[nA];exact qC (sP hb)
     exact hm.heap b o (by simp only[qL,b8,qJ,or_false,pf];exact⟨hb1,hb2⟩) (qt _ (qt _ e))
   .cases r₂ with
    |error e=>exact hr₂
    |ok fl₂ =>
     cases fl₂ with
     |ret r=>
      obtain⟨rfl,h',tk,o',rfl,hS',hJ',hk'⟩:=hr₂
      repeat (any_goals (first|assumption|wp_step))
      exact h _ _ _ hS' hJ' hk'
     |_=>exact hr₂.elim
  |_=>exact hr.elim
noncomputable def dd [fU κ] (l:ac κ):ac κ:=l.foldl (fun a k=>if k∈a then a else a++[k]) []
theorem wq [fU κ] (l:ac κ) (k:κ):dd (l++[k])=if k∈dd l then dd l else dd l++[k]:=by unfold dd;rw[Ai];rfl
theorem rn [fU κ] (l:ac κ):(dd l).length<=l.length:=by
 have key:∀(l a:ac κ),(l.foldl (fun a k=>if k∈a then a else a++[k]) a).length<=a.length+l.length:=by
  intro l
  induction l with
  |nil=>intro a;exact qv _
  |cons k r ih=>
   intro a;rw[nJ];refine qM (ih _) ?_;split
   .simp only[qh];omega
   .simp only[qi,qh,qk];omega
 have:=key l [];simpa[dd] using this
section
variable [fU κ] {knd:KeyKind prog w κ}
theorem OR {ks:ac κ} {Q:ba->aH->Prop} (hk:IsTupleKey knd s.heap ks a) (hsc:∀v k,knd.is k v=al->v.scannable=al) (h:∀b,Q b s):aG .(B) A (hashByValue 8 (.ref a)) Q E s:=by
 have hT:=hk.typeIs;obtain⟨o,items,n,ho,_,hd,hi⟩:=hk;unfold hashByValue;refine qx (GB hT F.slot_tuple_hash.lookup ?_);refine qx (G7 ho hd ?_);refine qx ?_;show aG _ _ (vB items _ _) _ _ s;rw[←TX];have hall:∀v∈items.toList,v.scannable=al:=by
  have:∀{x:ac κ} {vs:ac Value},ItemsAre knd x vs->∀v∈vs,v.scannable=al:=by
   intro x vs q
   induction q with
   |nil=>intro v hv;cases hv
   |cons h1 _ ih=>
    intro v hv;rcases cy.mp hv with rfl|hv
    .exact hsc _ _ h1
    .exact ih v hv
  exact this hi
 refine G8 _ (fun bz r s'=>s'=s/\∀v∈bz,v.scannable=al) _ ?_ ?_ _ _ ⟨rfl,hall⟩
 .rintro v bz r s' ⟨rfl,hv⟩;rw[hashByValue_scannable _ (hv v qf)];refine qx (qA ?_);cases hp:plainKind v with
  |true=>
   simp only[iY,qq,dv];exact qA ⟨rfl,fun u hu'=>hv u (qg _ hu')⟩
  |false=>
   simp only[ph,cr]
   first|exact qA (qA (h _))|exact qA (h _)|exact qx (qA (qA (qA (h _))))
 .rintro⟨r1,r2⟩ s' ⟨rfl,_⟩
  first|exact qA (h _)|(cases r1<;>exact qA (h _))
theorem C4 {ks:ac κ} {Q:ba->aH->Prop} (hk:IsTupleKey knd s.heap ks a) (h:Q aq s):aG .(B) A (G9 8 (.ref a)) Q E s:=by
 have hT:=hk.typeIs;obtain⟨o,items,n,ho,_,hd,hi⟩:=hk;unfold G9;refine qx (vw hT ?_);dsimp only;rw[qY .(c)];refine qx (qA ?_);simp only[iY,qq,dv];refine qx (G7 ho hd ?_);refine qx ?_;show aG _ _ (vB items _ _) _ _ s;rw[←TX];refine G8 _ (fun bz r s'=>r.1=ae/\s'=s/\∀v∈bz,TY v=al) _ ?_ ?_ _ _ ⟨rfl,rfl,hi.byValue⟩
 .rintro v bz r s' ⟨hr,rfl,hv⟩;have e:G9 7 v=bq aq:=by
   have:=hv v qf;cases v with
   |ref b=>simp[TY] at this
   |_=>rfl
  rw[e];refine qx (qA ?_);simp only[qq,dv];exact qA ⟨rfl,rfl,fun u hu'=>hv u (qg _ hu')⟩
 .rintro⟨r1,r2⟩ s' ⟨hr,rfl,_⟩;simp only at hr;subst hr;exact qA h
theorem HW {ks:ac κ} {Q:ba->aH->Prop} (hk:IsTupleKey knd s.heap ks a) (st:ac Value) (hst:∀y∈st,∃k b,y=.ref b/\IsTupleKey knd s.heap k b) (h:Q aq s):aG .(B) A (TZ (.ref a) st) Q E s:=by
 unfold TZ;refine qx ?_;refine G8 _ (fun bz r s'=>r.1=ae/\s'=s/\∀y∈bz,∃k b,y=.ref b/\IsTupleKey knd s.heap k b) _ ?_ ?_ _ _ ⟨rfl,rfl,hst⟩
 .rintro v bz r s' ⟨hr,rfl,hv⟩;obtain⟨k,b,rfl,hb⟩:=hv v qf;dsimp only;split
  .exact qA ⟨rfl,rfl,fun u hu'=>hv u (qg _ hu')⟩
  .refine qx (T0 hk ?_);simp only[iY,qq,dv];refine qx (T0 hb ?_);simp only[iY,qq,dv];refine qx (C4 hk ?_);simp only[qq,dv];refine qx (C4 hb ?_);simp only[qq,dv];exact qA ⟨rfl,rfl,fun u hu'=>hv u (qg _ hu')⟩
 .rintro⟨r1,r2⟩ s' ⟨hr,rfl,_⟩;simp only at hr;subst hr;exact qA h
end
theorem DX {t:mh} {es:b7 (ag×Value)} (T:Tb t es) {p:Ab} {r:ar SetTable.Met} (hp:t.probe hashAt h p=r) (hpp:p=iC (it t.mask h n)) (hn:n<=n0) (hn0:n0<10*(t.mask+15))
  (hf:J t.mask h n0∉t.place.toList) (ho:∀m,m<n0->J t.mask h m∈t.place.toList) :
  (∃n' i,n<=n'/\n'<n0/\t.place[i]?=aa (J t.mask h n')/\hashAt i=h/\(∀m i,n<=m->m<n'->t.place[i]?=aa (J t.mask h m)->hashAt i≠h)/\r=aa (.candidate (J t.mask h n') i (iC (it t.mask h (n'+1))))) \/
  ((∀m i,n<=m->m<n0->t.place[i]?=aa (J t.mask h m)->hashAt i≠h)/\r=aa (.empty (J t.mask h n0) ae)):=by
 subst hpp;subst hp;unfold SetTable.probe;exact T.probe_go hashAt h hf ho (10*nN t.mask) n hn (by unfold nN;omega)
theorem M9 {t:mh} {es:b7 (ag×Value)} (T:Tb t es) {p:Ab} (hp:∀met,t.probe hashAt h p=aa met->False) (hpp:p=iC (it t.mask h n)) (hn:n<=n0) (hn0:n0<10*(t.mask+15))
  (hf:J t.mask h n0∉t.place.toList) (ho:∀m,m<n0->J t.mask h m∈t.place.toList):False:=by
 rcases DX T (r:=t.probe hashAt h p) rfl hpp hn hn0 hf ho with⟨n',i,_,_,_,_,_,g6⟩|⟨_,g2⟩
 .exact hp _ g6
 .exact hp _ g2
section
variable [fU κ] {knd:KeyKind prog w κ}
noncomputable def rD (knd:KeyKind prog w κ) (h:Heap) (es:b7 (ag×Value)):Prop:=∀(i:ah) e,es[i]?=aa e->∃k b,e=(bH knd k,.ref b)/\IsTupleKey knd h k b
theorem Mk.odd (h:Mk M):(M%2==0)=aq:=by rcases h with rfl|rfl|rfl|rfl<;>rfl
theorem Np {S:av} {o:Obj} {es:b7 (ag×Value)} {t:mh} {k:ac κ} {Q:SetFound->aH->Prop} (hu:A.units<di) (ho:s.heap.get? S=aa o) (hd:o.data=.set es ep t) (T:Tb t es) (hM:Mk t.mask)
  (hk:IsTupleKey knd s.heap k a) (he:rD knd s.heap es) (hf:J t.mask (bH knd k) n0∉t.place.toList) (hocc:∀m,m<n0->J t.mask (bH knd k) m∈t.place.toList) (hn0:n0<10*(t.mask+15))
  (hyes:∀(i:ah) (b:av),es[i]?=aa (bH knd k,.ref b)->IsTupleKey knd s.heap k b->Q (.there ae) s)
  (hno:(∀(i:ah) (b:av),es[i]?=aa (bH knd k,.ref b)->¬IsTupleKey knd s.heap k b)->Q (.free .(t) aq) s) :
  ∀(fuel n:ah) (stand:ar Ab),n0-n<fuel->n<=n0->(stand.getD (t.probeStart (bH knd k))=iC (it t.mask (bH knd k) n))->
   (∀(m i:ah) (b:av),m<n->t.place[i]?=aa (J t.mask (bH knd k) m)->es[i]?=aa (bH knd k,.ref b)->¬IsTupleKey knd s.heap k b)->
   aG .(B) A (Aj S (.ref a) (bH knd k) al fuel stand) Q E s:=by
 intro fuel
 induction fuel with
 |zero=>intro n stand h1;omega
 |succ fuel ih=>
  intro n stand h1 h2 hs hw;unfold Aj;refine qx (vQ ho hd T.fits ?_);dsimp only;have hg:t.gaveWay=aq:=hM.odd;rw[hg];simp only[qq,dv];split
  .rename_i met hp;rcases DX T hp hs h2 hn0 hf hocc with⟨n',i,g1,g2,g3,g4,g5,g6⟩|⟨g1,g2⟩
   .cases g6;have hi:i<es.size:=by have:=(iG.mp g3).1;rw[T.sz] at this;exact this
    have hei:es[i]?=aa es[i]:=by simp[hi]
    obtain⟨k',b,e1,hb⟩:=he i _ hei;rw[e1] at hei;have hh:bH knd k'=bH knd k:=by have g4':((es[i]?).map (·.1)).getD 0=bH knd k:=g4;rw[hei] at g4';exact g4'
    rw[hh] at hei;have bz:aG .(B) A (do
      let aa (_,y):=es[i]? | unsupported "internal:set-entry"
      let equal ←ij [y] (eqBool y (.ref a))
      let (es',_,t') ←setState S
      if al && equal then return .there ae
      let aa same:=t'.sameMemory t.moves t.mask|unsupported "set.changed-during-lookup:is-the-new-block-at-the-old-address"
      let still ←match (if same then t'.slot (J t.mask (bH knd k) n') else .empty) with
       |.live i'=>match es'[i']? with
        |some (_,y')=>do bq (if ←isSame y' y then aa i' else ae)
        |none=>bq ae
       |_=>bq ae
      match still with
      |none=>rule "set.search.anew";Aj S (.ref a) (bH knd k) al fuel ae
      |some i'=>if equal then return .there (aa i') else Aj S (.ref a) (bH knd k) al fuel (aa (iC (it t.mask (bH knd k) (n'+1))))) Q E s:=by
     rw[hei];dsimp only;refine qx (qT (wpAny_eqBool_tuple hu hb hk ?_));refine qx (vQ ho hd T.fits ?_);dsimp only;by_cases hkk:k'=k
     .subst hkk;rw[qS rfl];simp only[Ak,cr];exact qA (hyes i b hei hb)
     .rw[qN hkk];simp only[Ak,qq,dv];have hsm:t.sameMemory t.moves t.mask=aa al:=by unfold SetTable.sameMemory;simp
      rw[hsm];dsimp only;simp only[cr];rw[T.live g3];dsimp only;rw[hei];dsimp only;refine qx (wpAny_isSame_ref_self ?_);simp only[cr];refine qx (qA ?_);dsimp only;refine ih (n'+1) _ .(a) .(a) rfl ?_;intro m i2 b2 hm hp2 he2;by_cases h3:m<n
      .exact hw m i2 b2 h3 hp2 he2
      .by_cases h4:m=n'
       .subst h4;have ei:i2=i:=by have q1:=T.live hp2;have q2:=T.live g3;rw[q1] at q2;injection q2
        subst ei;rw[hei] at he2;cases he2;exact fun z=>hkk (hb.inj z)
       .exfalso;refine g5 m i2 .(a) .(a) hp2 ?_;show((es[i2]?).map (·.1)).getD 0=_;rw[he2];rfl
    cases hled:t.led with
    |true=>
     simp only[iY,qq,dv];exact bz
    |false=>
     simp only[ph,cr];refine qx (HW hk _ (fun y hy=>?_) ?_)
     .obtain⟨e,he1,rfl⟩:=bQ.mp hy;have he2:e∈es.toList:=by have:=Gb.mp he1;rw[Array.mem_filter] at this;exact Gb.mpr this.1
      obtain⟨j,hj,ej⟩:=GM.mp he2;obtain⟨k2,b2,q1,q2⟩:=he j e (by rw[←qI,qD hj,ej]);exact⟨k2,b2,by rw[q1],q2⟩
     .simp only[qq,dv];exact bz
   .cases g2;dsimp only;refine qA (hno fun i b hei hb=>?_);have hi:i<es.size:=(iG.mp hei).1;have hpi:t.place[i]?=aa t.place[i]! := by
     have:i<t.place.size:=by rw[T.sz];exact hi
     simp[this]
    obtain⟨m,q1,q2⟩:=T.rc i _ _ _ hpi hei;have hmem:J t.mask (bH knd k) m∈t.place.toList:=by rw[q1];rw[←qI] at hpi;exact qP hpi
    have hm:m<n0:=by
     rcases GU m n0 with z|z|z
     .exact z
     .subst z;exact bB hmem hf
     .exact bB (q2 n0 z) hf
    by_cases h3:m<n
    .exact hw m i b h3 (by rw[q1];exact hpi) hei hb
    .refine g1 m i .(a) hm (by rw[q1];exact hpi) ?_;show((es[i]?).map (·.1)).getD 0=_;rw[hei];rfl
  .rename_i hp;exact(M9 T hp hs h2 hn0 hf hocc).elim
structure TS (knd:KeyKind prog w κ) (h:Heap) (ks:ac (ac κ)) (o:Obj):Prop where
 cls:o.ExactSet
 ex:∃es ep t,o.data=.set es ep t/\Tb t es/\Mk t.mask/\rD knd h es/\es.size=(dd ks).length/\(∀k∈dd ks,∃(i:ah) (b:av),es[i]?=aa (bH knd k,.ref b)/\IsTupleKey knd h k b)/\∀(i:ah) (k:ac κ) (b:av),es[i]?=aa (bH knd k,.ref b)->IsTupleKey knd h k b->k∈dd ks
theorem IsTupleKey.mono {h:Heap} {k:ac κ} (x:IsTupleKey knd h k a) (q:∀o,h.get? a=aa o->h'.get? a=aa o):IsTupleKey knd h' k a:=by obtain⟨o,items,n,h1,h2⟩:=x;exact⟨o,items,n,q o h1,h2⟩
theorem my {es:b7 (ag×Value)} {e:ag×Value} :e∈es.toList↔∃i:ah,es[i]?=aa e:=by
 constructor
 .intro h;obtain⟨i,hi,q⟩:=GM.mp h;exact⟨i,by rw[←qI,qD hi,q]⟩
 .rintro⟨i,h⟩;rw[←qI] at h;exact qP h
theorem Qt {ks:ac (ac κ)} {k:ac κ} {es:b7 (ag×Value)} (hk:IsTupleKey knd h0 k a) (hE:rD knd h0 es) (hsz:es.size=(dd ks).length) (hin:∀k∈dd ks,∃(i:ah) (b:av),es[i]?=aa (bH knd k,.ref b)/\IsTupleKey knd h0 k b)
  (hout:∀(i:ah) (k:ac κ) (b:av),es[i]?=aa (bH knd k,.ref b)->IsTupleKey knd h0 k b->k∈dd ks) (hnew:k∉dd ks) (mem:∀e,e∈es'.toList↔e=(bH knd k,.ref a)\/e∈es.toList) (size:es'.size=es.size+1) :
  rD knd h0 es'/\es'.size=(dd (ks++[k])).length/\(∀k'∈dd (ks++[k]),∃(i:ah) (b:av),es'[i]?=aa (bH knd k',.ref b)/\IsTupleKey knd h0 k' b)/\∀(i:ah) (k':ac κ) (b:av),es'[i]?=aa (bH knd k',.ref b)->IsTupleKey knd h0 k' b->k'∈dd (ks++[k]):=by
 rw[wq,qZ hnew];refine⟨fun i e he=>?_,by rw[size,hsz,qi,qW],fun k' hk'=>?_,fun i k' b he hb=>?_⟩
 .rcases(mem e).mp (my.mpr ⟨i,he⟩) with rfl|q
  .exact⟨k,a,rfl,hk⟩
  .obtain⟨j,q⟩:=my.mp q;exact hE j e q
 .rcases cD.mp hk' with q|q
  .obtain⟨i,b,q1,q2⟩:=hin k' q;obtain⟨j,q3⟩:=my.mp ((mem _).mpr (.inr (my.mpr ⟨i,q1⟩)));exact⟨j,b,q3,q2⟩
  .rw[b8.mp q];obtain⟨j,q3⟩:=my.mp ((mem _).mpr .(aq));exact⟨j,a,q3,hk⟩
 .rcases(mem _).mp (my.mpr ⟨i,he⟩) with q|q
  .have e:b=a:=by have:=(GH q).2;injection this
   subst e;exact cD.mpr (.inr (b8.mpr (hb.inj hk)))
  .obtain⟨j,q⟩:=my.mp q;exact cD.mpr (.inl (hout j k' b q hb))
theorem By {h:Heap} {S:av} {o:Obj} {es:b7 (ag×Value)} {t t':mh} (ho:h.get? S=aa o) (hd:o.data=.set es ep t):(h.update S (Ha es' t')).get? S=aa {o with data:=.set es' (ep+1) t'}:=by
 have q:=zP (Ha es' t') ho (by rw[putSet_of es' t' hd];rfl)
 rwa [putSet_of es' t' hd] at q
set_option maxHeartbeats 1000000 in
theorem Lo {S:av} {o:Obj} {ks:ac (ac κ)} {k:ac κ} {Q:ba->aH->Prop} (hsc:∀v k,knd.is k v=al->v.scannable=al) (hu:A.units<di) (ho:s.heap.get? S=aa o) (T:TS knd h0 ks o) (hk:IsTupleKey knd h0 k a)
  (hB:∀b o,h0.get? b=aa o->s.heap.get? b=aa o) (hlen:ks.length<=300)
  (h:∀b h' tk o',s.toks<=tk->jp S s.heap h'->h'.get? S=aa o'->TS knd h0 (ks++[k]) o'->Q b {s with heap:=h',toks:=tk}):aG .(B) A (vP S (.ref a)) Q E s:=by
 obtain⟨hc,es,ep,t,hd,TB,hM,hE,hsz,hin,hout⟩:=T;have up:∀{k:ac κ} {b:av},IsTupleKey knd h0 k b->IsTupleKey knd s.heap k b:=fun q=>IsTupleKey.mono q fun o e=>hB _ _ e;have down:∀{k k':ac κ} {b:av},IsTupleKey knd h0 k' b->IsTupleKey knd s.heap k b->k=k':=fun q1 q2=>q2.inj (up q1);have hE':rD knd s.heap es:=fun i e he=>by obtain⟨k,b,q1,q2⟩:=hE i e he;exact⟨k,b,q1,up q2⟩
 have hddl:=rn ks;obtain⟨n0,f1,f2,f3⟩:=TB.first (bH knd k);unfold vP;refine qT (qx (wpAny_pyHash_tuple hu (up hk) ?_));unfold setAddHashed setAddHashedIn;refine qT (qx (vQ (s:={s with toks:=s.toks+(k.length+1)}) ho hd TB.fits ?_));dsimp only;rw[show byScan (.ref a) es=aq from rfl];simp only[qq,dv];unfold setSearch;refine qx (Np (s:={s with toks:=s.toks+(k.length+1)}) hu ho hd TB hM (up hk) hE' f2 f3 f1 (fun i b hei hb=>?_) (fun hall=>?_) 100000 0 ae ?_ (gX _) rfl (fun m i b hm=>by omega))
 ·
  dsimp only;obtain⟨k',b',q1,q2⟩:=hE i _ hei;have:b'=b:=by have:=(GH q1).2;injection this with e;exact e.symm
  subst this;have ek:=down q2 hb;subst ek;have hmem:=hout i k _ hei q2;refine qA (h aq s.heap _ o (by show s.toks<=s.toks+(k.length+1);omega) (GG S s.heap) ho ⟨hc,es,ep,t,hd,TB,hM,hE,?_⟩);rw[wq,qY hmem];exact⟨hsz,hin,hout⟩
 ·
  dsimp only;have hnew:k∉dd ks:=fun hm=>by obtain⟨i,b,q1,q2⟩:=hin k hm;exact hall i b q1 (up q2)
  have hpl:cJ t.place .(t)<=es.size:=by have:=(xM t.place .(t) TB.ri).1;rw[TB.sz] at this;exact this
  have hmaskle:t.mask<=511:=by rcases hM with e|e|e|e<;>omega
  have hmem:∀e,e∈(dG es (cJ t.place .(t)) (bH knd k,cj a)).toList↔e=(bH knd k,cj a)\/e∈es.toList:=fun e=>by rw[rh _ _ _ hpl];exact wX _ _ _ _
  have hsize:(dG es (cJ t.place .(t)) (bH knd k,cj a)).size=es.size+1:=by have:=cC fW (rh es _ (bH knd k,cj a) hpl);simp only[iD,qi,qh,qE,gY] at this;omega
  have hpsz:(dG t.place (cJ t.place .(t)) .(t)).size=es.size+1:=by have:=cC fW (rh t.place _ .(t) (by rw[TB.sz];exact hpl));have h3:=TB.sz;simp only[iD,qi,qh,qE,gY] at this;omega
  refine qx (vQ (s:={s with toks:=s.toks+(k.length+1)}) ho hd TB.fits ?_);dsimp only;have fin:∀(es':b7 (ag×Value)) (t':mh) (h':Heap) (o':Obj),Tb t' es'->Mk t'.mask->(∀e,e∈es'.toList↔e=(bH knd k,cj a)\/e∈es.toList)->es'.size=es.size+1->jp S s.heap h'->h'.get? S=aa o'->o'.ExactSet->(∃ep',o'.data=.set es' ep' t')->Q al {s with heap:=h',toks:=s.toks+(k.length+1)}:=fun es' t' h' o' q1 q2 q3 q4 q5 q6 q7 q8=>by obtain⟨ep',q8⟩:=q8;obtain⟨w1,w2,w3,w4⟩:=Qt hk hE hsz hin hout hnew q3 q4;exact h al h' _ o' .(a) q5 q6 ⟨q7,es',ep',t',q8,q1,q2,w1,w2,w3,w4⟩
  have bz:∀pl:ba,aG .(B) A (do
    storeSet S (dG es (t.put .(t)).2 (bH knd k,cj a)) { (t.put .(t)).1 with plain:=pl}
    if (!aq && vR { (t.put .(t)).1 with plain:=pl})=al then do
     setRelay S (Ae (es.size+1))
     bq al
    else bq al) Q E {s with toks:=s.toks+(k.length+1)}:=fun pl=>by
   refine qx (T1 (s:={s with toks:=s.toks+(k.length+1)}) ho hd ?_ (by show(dG es (cJ t.place .(t)) (bH knd k,cj a)).size<=aL;rw[hsize,eI];omega));have hg1:=By (es':=dG es (t.put .(t)).2 (bH knd k,cj a)) (t':={ (t.put .(t)).1 with plain:=pl}) ho hd;have hsb1:=T2 s.heap S (Ha (dG es (t.put .(t)).2 (bH knd k,cj a)) { (t.put .(t)).1 with plain:=pl});have hdum:(t.put .(t)).1.dummies=#[]:=by show(if GV t.dummies _ then _ else t.dummies)=#[];rw[TB.dm];rfl
   have hfill:TH { (t.put .(t)).1 with plain:=pl}=es.size+1:=by show(dG t.place _ _).size+(t.put .(t)).1.dummies.size=_;rw[hdum];exact hpsz
   by_cases few:(es.size+1)*5<t.mask*3
   .have hfull:vR { (t.put .(t)).1 with plain:=pl}=aq:=by unfold vR;rw[hfill];exact qN (by show ¬((es.size+1)*5 ≥ t.mask*3);omega)
    rw[hfull];simp only[ph,Gz,qq,dv];refine qA (fin _ _ _ _ (TB.put (x:=.ref a) f2 f3 few pl) hM hmem hsize hsb1 hg1 hc ⟨_,rfl⟩)
   .have hfull:vR { (t.put .(t)).1 with plain:=pl}=al:=by unfold vR;rw[hfill];exact qS (by show((es.size+1)*5 ≥ t.mask*3);omega)
    rw[hfull];simp only[ph,Bool.and_true,cr];obtain⟨m1,m2,m3⟩:=hM.grow TB.few few .(a);have hes1:(dG es (t.put .(t)).2 (bH knd k,cj a)).size=es.size+1:=hsize;obtain⟨t',order,r1,r2,r3,r4,r5,r6⟩:=Full.relaid (t:={ (t.put .(t)).1 with plain:=pl}) (es:=dG es (t.put .(t)).2 (bH knd k,cj a)) m1.full (by rw[hes1];exact m2);unfold setRelay;have hfits:GW { (t.put .(t)).1 with plain:=pl} (dG es (t.put .(t)).2 (bH knd k,cj a)).size=al:=by unfold GW;rw[hfill,hes1,ge];have:=TB.few;exact⟨by rw[jq];exact hpsz,qS (by show es.size+1<=t.mask;omega)⟩
    refine qx ?_;refine qx (vQ (s:={s with heap:=_,toks:=s.toks+(k.length+1)}) hg1 rfl hfits ?_);dsimp only;rw[qZ (by rw[eI];omega),r1];refine qx ?_;show aG _ _ (if ((order.filterMap ((dG es (t.put .(t)).2 (bH knd k,cj a))[·]?)).size != (dG es (t.put .(t)).2 (bH knd k,cj a)).size)=al then _ else _) _ _ _;rw[qZ (by rw[r2];simp)];refine qA ?_;dsimp only;refine T1 (s:={s with heap:=_,toks:=s.toks+(k.length+1)}) hg1 rfl ?_ (by rw[r2,hes1,eI];omega);refine qA (fin _ t' _ _ r3 (by rw[r5];exact m1) (fun e=>(r4 e).trans (hmem e)) (by rw[r2,hes1]) (hsb1.trans (T2 _ S _)) (By hg1 rfl) hc ⟨_,rfl⟩)
  split
  .refine qx (OR (s:={s with toks:=s.toks+(k.length+1)}) (up hk) hsc fun bv=>?_);cases bv
   .exact bz aq
   .exact bz _
  .refine qx (qA ?_);exact bz _
 .show n0-0<100000;have:t.mask<=511:=by rcases hM with e|e|e|e<;>omega
  omega
end
end ST
section
open ST
instance (priority:=high) keyBEq:BEq Key:=T3
instance (priority:=high) keyLaw:LawfulBEq Key:=inferInstanceAs (@LawfulBEq Key T3)
noncomputable def AS (n:ah) (o:Obj):Prop:=o.ExactSet/\∃es ep t,o.data=.set es ep t/\t.fits es.size=al/\es.size=n
def lN (p:av) (n:ah):HO:=.ext fun h=>∃o,h.get? p=aa o/\AS n o
theorem FK (v:Value) (k:Key) (h:(dB P w).is k v=al):v.scannable=al:=by rcases jV h with⟨i,t,rfl,rfl⟩|⟨x,t,rfl,rfl⟩<;>rfl
noncomputable def KJ:ac V->Hp->VK->Prop:=fun xs H Q=>∃a vs,xs=[.ref a]/\H a=aa (.lst vs)/\vs.length<=300 /\
 ((∃ks:ac Key,vs=ks.map kV/\∀p,H p=ae->Q (.ref p) (upd H p (lN p (dd ks).length))) \/
 (∃ts:ac (ac Key),vs.length=ts.length/\(∀(i:ah) t,ts[i]?=aa t->∃b,vs[i]?=aa (.ref b)/\H b=aa (.tup (t.map kV)))/\∀p,H p=ae->Q (.ref p) (upd H p (lN p (dd ts).length))))
theorem MU (hc:X.calm=al) (hu:X.A.units+66<di):fN X (.type "set") KJ:=by
 intro pins s σ H xs us Q I r h;obtain⟨a,vs,rfl,ha,hl,h⟩:=h;obtain⟨u,rfl,ru⟩:=gN r;cases ru;obtain⟨its,rv,pl,hz⟩:=I.list (.inl (.inl ha));have hlen:=rv.length;have hsz:its.toArray.size=vs.length:=by rw[qB,hlen]
 have fin:∀(n:ah) (h':Heap) (tk:ah) (o:Obj),h'.get? s.heap.objs.size=aa o->AS n o->(∀b o,b<s.heap.objs.size->s.heap.get? b=aa o->h'.get? b=aa o)->
   (∀p,H p=ae->Q (.ref p) (upd H p (lN p n)))->EP X pins σ Q (.ref s.heap.objs.size) {s with heap:=h',toks:=tk}:=fun n h' tk o ho hn hk q=>by
  refine⟨.ref s.heap.objs.size,_,I.laid (a:=s.heap.objs.size) (o:=lN s.heap.objs.size n) (fun b u e=>hk b u (qu e) e) (qv _) ?_,rfl,q _ I.fresh⟩;refine⟨⟨o,ho,hn⟩,⟨o,ho⟩,fun h1 h2 hp hk2=>?_⟩;obtain⟨o1,q1,q2⟩:=hp;exact⟨o1,hk2 o1 q1,q2⟩
 rcases h with⟨ks,rfl,q⟩|⟨ts,ht,hts,q⟩
 ·
  have hkl:ks.length=its.length:=by rw[←hlen,qe]
  refine AV (I.ok.hd hc) pl.isList (fun i o=>o.SetObjOf (dB X.prog X.w) (fun k=>decide (k∈dd (ks.take i))) (dd (ks.take i)).length) (fun led=>?_) (fun A' hA' i v sh o Q' E' hi hv ho hJ hB hQ=>?_) fun h' tk o ho hJ hk=>?_
  .have:=setObjOf_fresh (knd:=dB X.prog X.w) led;simpa[dd] using this
  .have hi':i<ks.length:=by rw[qB] at hi;omega
   obtain⟨u2,hu2,ru2⟩:=rv.get (i:=i) (x:=kV ks[i]) (by simp[hi']);have ev:v=u2:=by
    have hv':its[i]?=aa v:=by simpa using hv
    rw[hu2] at hv';exact(qH hv').symm
   subst ev;have hkey:=nV (P:=X.prog) (w:=X.w) ru2;have hle:(dd (ks.take i)).length<=300:=by have h1:=rn (ks.take i);rw[qE] at h1;rw[qe] at hl;omega
   unfold vP;refine qT (qx ((dB X.prog X.w).pyHash hkey ?_));refine wpAny_setAddHashed_of (knd:=dB X.prog X.w) (s:={sh with toks:=sh.toks+1}) hkey (FK _ _ hkey) (hJ.setOf ho (by unfold Hb;omega)) (by unfold Hb;omega) fun h' hsb hS2=>?_;obtain⟨o',ho',hso⟩:=hS2.objOf;refine hQ _ h' _ o' (sF _) hsb ho' ?_;have htk:ks.take (i+1)=ks.take i++[ks[i]]:=by rw[pi,qD hi'];rfl
   show Obj.SetObjOf (dB X.prog X.w) o' (fun k=>decide (k∈dd (vN (i+1) ks))) (dd (vN (i+1) ks)).length;rw[htk,wq];by_cases hm:ks[i]∈dd (ks.take i)
   .rw[qY hm];rw[qY (by simpa using hm)] at hso;have e:(fun k'=>decide (k'∈dd (ks.take i)) || decide (k'=ks[i]))=fun k'=>decide (k'∈dd (ks.take i)):=by
     funext k'
     by_cases hk':k'=ks[i]
     .subst hk';simp[hm]
     .simp[hk']
    rw[e] at hso;exact hso
   .rw[qZ hm];rw[qZ (by simpa using hm)] at hso;have e:(fun k'=>decide (k'∈dd (ks.take i)) || decide (k'=ks[i]))=fun k'=>decide (k'∈dd (ks.take i)++[ks[i]]):=by
     funext k'
     rw[vi];simp
    rw[e] at hso;simpa using hso
  .have e:ks.take its.toArray.size=ks:=by rw[qB,←hkl];exact mm
   rw[e] at hJ;have hS:=hJ.setOf ho (by have:=rn ks;rw[qe] at hl;unfold Hb;omega);obtain⟨o1,es,ep,t,v0,v1,v2,_,_,_,v3,v4⟩:=hS;rw[ho] at v0;cases v0;exact fin _ h' tk o ho ⟨v1,es,ep,t,v2,v3,v4⟩ hk q
 ·
  have hkl:ts.length=its.length:=by rw[←hlen,ht]
  refine AV (I.ok.hd hc) pl.isList (fun i o=>ST.TS (dB X.prog X.w) s.heap (ts.take i) o) (fun led=>?_) (fun A' hA' i v sh o Q' E' hi hv ho hJ hB hQ=>?_) fun h' tk o ho hJ hk=>?_
  .refine⟨⟨rfl,rfl,rfl⟩,#[],0,vS 0 0 led,rfl,?_,.inl rfl,fun i e he=>by simp at he,rfl,fun k hk=>by simp[dd] at hk,fun i k b he=>by simp at he⟩;exact⟨Dl,rfl,rfl,by simp[vS],by simp[vS],by simp[vS],fun i j h x hp=>by simp[vS] at hp⟩
  .have hi':i<ts.length:=by rw[qB] at hi;omega
   obtain⟨b,hb1,hb2⟩:=hts i ts[i] (by simp[hi']);obtain⟨u2,hu2,ru2⟩:=rv.get hb1;have ev:v=u2:=by
    have hv':its[i]?=aa v:=by simpa using hv
    rw[hu2] at hv';exact(qH hv').symm
   subst ev;cases ru2;have hkey:=pH I.hok hb2;have htk:ts.take (i+1)=ts.take i++[ts[i]]:=by rw[pi,qD hi'];rfl
   refine Lo (fun v k=>FK v k) .(a) ho hJ hkey (fun b' o' e=>hB b' o' (qu e) e) (by rw[qE];have:=hl;omega) fun bb h' tk o' h1 h2 h3 h4=>hQ bb h' tk o' h1 h2 h3 (by show ST.TS _ _ (vN (i+1) ts) o';rw[htk];exact h4)
  .have e:ts.take its.toArray.size=ts:=by rw[qB,←hkl];exact mm
   rw[e] at hJ;obtain⟨hc',es,ep,t,w1,w2,w3,w4,w5,w6,w7⟩:=hJ;exact fin _ h' tk o ho ⟨hc',es,ep,t,w1,w2.fits,w5⟩ hk q
theorem Ol:fN X (.builtin "len") (fun xs H Q=>∃p n,xs=[.ref p]/\H p=aa (lN p n)/\n<=300/\Q (.int n) H):=by intro pins s σ H xs us Q I r h;obtain⟨p,n,rfl,hp,hn,q⟩:=h;obtain⟨u,rfl,ru⟩:=gN r;cases ru;obtain⟨⟨o,ho,hex,es,ep,t,w1,w2,w3⟩,_,_⟩:=I.hok p _ hp;exact call_len_set ho hex w1 w2 .(a) ⟨.int n,H,I.tok _,⟨_,by rw[w3]⟩,q⟩
end
section
open ST
def m9:ac D->ar (ac (ac Key))
 |[]=>aa []
 |.tup t::r=>(iz t).bind fun k=>(m9 r).map (k::·)
 |_::_=>ae
theorem B1 {Γ:Cn} {K:aV} {G H:Hp} (gh:bo G H):∀{vs:ac V} {ds:ac D} {ts:ac (ac Key)},Reps Γ K G vs ds->m9 ds=aa ts->vs.length=ts.length/\∀(i:ah) t,ts[i]?=aa t->∃b,vs[i]?=aa (.ref b)/\H b=aa (.tup (t.map kV))
 |_,[],ts,r,h=>by cases r;cases h;exact⟨rfl,fun i t e=>by simp at e⟩
 |_,d::ds,ts,.cons h1 h2,h=>by
  cases d with
  |tup t=>
   unfold m9 at h;obtain⟨k,hk,h⟩:=oBd h;obtain⟨zs,hz,rfl⟩:=oMd h;obtain⟨a,us,rfl,ha,ra⟩:=h1.tup_inv;have e:=og ra hk;subst e;obtain⟨q1,q2⟩:=B1 gh h2 hz;refine⟨by rw[qh,qh,q1],fun i t' e=>?_⟩;cases i with
   |zero=>cases e;exact⟨a,rfl,gh _ _ ha⟩
   |succ i=>exact q2 i t' e
  |_=>cases h
def oH:D->ar D
 |.lst l=>if l.length<=300 then match iz l with
  |some ks=>aa (.int (dd ks).length)
  |none=>(m9 l).map fun ts=>.int (dd ts).length
  else ae
 |_=>ae
section
variable {pos2:dh}
theorem O4 (hc:X.calm=al) (hu:X.A.units+66<di) (hgl:Gl X "len") (hml:X.mg "len"=ae) (hgs:Gl X "set") (hms:X.mg "set"=ae) (h:DE Γ X e f)
  (h1:bc ([.Call (.Name "set" p2) [e] [] pos2]:ac Expr) X.env=(aq,eval (.Call (.Name "set" p2) [e] [] pos2) X.env)::bc [] X.env:=by rfl) (h2:(cW pos (bc [] X.env)).any (·.1)=aq:=by rfl)
  (h3:bc ([e]:ac Expr) X.env=(aq,eval e X.env)::bc [] X.env:=by rfl) (h4:(cW pos2 (bc [] X.env)).any (·.1)=aq:=by rfl) :
  DE Γ X (.Call (.Name "len" p) [.Call (.Name "set" p2) [e] [] pos2] [] pos) (b1 oH f):=⟨by
 refine(mC Ol hgl hml (by rfl) (dq (Bc (MU hc hu) hgs hms (by rfl) (dq h.1 fD h3) .(c) .(c) h3 h4) fD h1) .(c) .(c) h1 h2).imp fun σ H Q=>?_;rintro⟨G₀,H₀,G,ρ,d,A,hq,k⟩;unfold b1 at hq;obtain⟨x,hx,hl⟩:=oBd hq;clear hq;refine⟨G₀,H₀,G,ρ,x,A,hx,fun v G1 H1 s1 r1=>?_⟩;unfold oH at hl;split at hl
 .rename_i l;split at hl
  .rename_i hz;obtain⟨a,vs,rfl,ha,ra⟩:=r1.lst_inv;have go:∀(n:ah),n<=300->d=.int n->∀p,H1 p=ae->∃p' n',[V.ref p]=[V.ref p']/\(upd H1 p (lN p n)) p'=aa (lN p' n')/\n'<=300/\Q (.int n') (upd H1 p (lN p n)):=fun n hn ed p hp=>by subst ed;refine⟨p,n,rfl,bK,hn,k _ G1 _ (s1.trans (Step.newOwn s1.gh hp)) (.int _)⟩
   refine⟨a,vs,rfl,s1.gh _ _ ha,by rw[ra.length];exact hz,?_⟩;split at hl
   .rename_i ks hk;refine .inl ⟨ks,og ra hk,go _ ?_ (qH hl).symm⟩;have h5:=rn ks;have h6:ks.length=l.length:=by have:=og ra hk;rw[←ra.length,this,qe]
    omega
   .obtain⟨ts,ht,e1⟩:=oMd hl;obtain⟨q1,q2⟩:=B1 s1.gh ra ht;refine .inr ⟨ts,q1,q2,go _ ?_ e1.symm⟩;have h5:=rn ts;have h6:=ra.length;omega
  .cases hl
 .cases hl⟩
end
end
namespace DT
theorem RH:vy (.type "list") "keys"=bq ae:=by rw[T4,T5];kernel_rfl
theorem Ql:vy (.type "list") "__getattr__"=bq ae:=by rw[T4,T5];kernel_rfl
theorem M2 {l:av} {u:Tok} {xs:b7 Value} (hx:s.heap.get? l=aa {cls:=.type "list",data:=.seq xs n}) (hA:A.handled=ae)
  (h:∀h' tk e,Heap.NewAttrErr s.heap h' e (.ref l) "keys"->R (.error (.ref e)) {s with heap:=h',toks:=tk}) :
  gW .(B) A (.call (.builtin "list.__getattribute__") ⟨[.ref l,.str "keys" u],[]⟩) R s:=by
 obtain⟨hp,g,d,tk,os⟩:=s;have hT:(⟨hp,g,d,tk,os⟩:aH).TypeIs (.ref l) "list":=⟨_,hx,rfl⟩;have f1:=RH;refine pe Al.plain F.entry_list_ga (Al.check _ _ _ _ _ _ _ _ hT (F.args_list_getattribute_2 _ _) ?_);unfold Builtin.«object.__getattribute__»
 repeat (any_goals (first|assumption|wp_step))
 have hsz:(sH "keys").length+100<=aL:=by rw[PySem.ofString_length];decide
 refine wpAny_raiseAttrError (A:=A.in1) hA h ?_;exact attrMsg_fits .(j) hsz
set_option maxHeartbeats 4000000 in
theorem Js {l:av} {Q:ar Value->aH->Prop} {xs:b7 Value} (hx:s.heap.get? l=aa {cls:=.type "list",data:=.seq xs n}) (hA:A.handled=ae)
  (h:∀h' tk,(∀b ob,s.heap.get? b=aa ob->h'.get? b=aa ob)->Q ae {s with heap:=h',toks:=tk}) :
  aG .(B) A (Am (.ref l) "keys") Q E s:=by
 obtain⟨hp,g,d,tk,os⟩:=s;have hT:∀tk',(⟨hp,g,d,tk',os⟩:aH).TypeIs (.ref l) "list":=fun _=>⟨_,hx,rfl⟩;have f1:=sub_AttributeError;have f2:=Al.lookup;have f3:=Al.bind (.ref l);have f5:=Ql;unfold Am getAttrBy?;refine qx (Hc ?_);refine qx (vT ?_);unfold Hd;refine qT (qx (vw (hT _) (qx (He f2 ?_))));show aG _ _ (sQ _ _ _ _ _ _) _ _ _;unfold sQ;refine qx (m:=Hf (lU "list")) (qA ?_);refine qx (vT (qT ?_));show aG _ _ (vU _ _ _) _ _ _;unfold vU;refine qx (He f3 ?_);refine kj (M2 (s:=⟨hp,g,d,tk+1,os⟩) hx hA fun h' tk' e hn=>?_);obtain⟨t',u',he⟩:=hn.there;have hE:Ah ⟨h',g,d,tk',os⟩ (.ref e) "AttributeError":=⟨_,he,rfl⟩;show aG _ _ (T6 _ _ _ _ _ _ _) _ _ _;unfold T6;refine qx (T7 hE f1 ?_);simp only[cr];refine qx (m:=hookBehind (lU "list") ae) (He f5 ?_);unfold hookOrError attributeErrorLeaves;simp only[ph,cr];refine qx (wpAny_throw ?_);refine qx (T7 hE f1 ?_);simp only[cr];exact qA (h h' tk' hn.keeps)
theorem De:entryFor table "dict.update.loop"=aa Builtin.«dict.update.loop»:=entryFor_of_tree .(A)
theorem ub:plainId "dict.update.loop"=al:=by decide +kernel
section
variable {G:b7 sw->b7 sw->Prop} {P:ah->Value->Prop} {St:ah->aH->Prop}
noncomputable def Dy (prog:ef) (w:cT) (A:eU) (S:av) (h0:Heap) (P:ah->Value->Prop) (n:ah) (J:ah->Obj->Prop):Prop:=
 ∀(i:ah) (b:av) (kv vv:Value) (s:aH) (o:Obj) (Q:jk->aH->Prop) (E:Value->aH->Prop),i<n->P i (.ref b)->h0.IsTuple b #[kv,vv]->s.heap.get? S=aa o->J i o->(∀b o,b<h0.objs.size->h0.get? b=aa o->s.heap.get? b=aa o)->
  (∀h' tk o',s.toks<=tk->jp S s.heap h'->h'.get? S=aa o'->J (i+1) o'->Q () {s with heap:=h',toks:=tk})->aG .(B) A (dictSet S kv vv) Q E s
theorem RM (W:WalksS prog w A.in1 I fp wr G n P St) (S:av) (hSf:S∉fp) (h0:Heap) (hS0:h0.objs.size<=S) (hw0:∀b∈wr,h0.objs.size<=b) (J:ah->Obj->Prop) (hadd:Dy prog w A.in1 S h0 P n J) (hP:∀i v,P i v->∃b kv vv,v=.ref b/\h0.IsTuple b #[kv,vv]) :
  ∀(k i:ah) (c:ag) (s:aH) (o:Obj),n-i=k->i<=n->St i s->s.heap.get? S=aa o->J i o->(∀b o,b<h0.objs.size->h0.get? b=aa o->s.heap.get? b=aa o)->
   (∀s' o',Moved (S::wr) G s s'->s'.heap.get? S=aa o'->J n o'->R (.ok (.ret .none)) s')->
   gW .(B) A (.builtin "dict.update.loop" ⟨[.ref S,.ref I,rawInt c,.none],[]⟩) R s:=by
 have hSw:S∉wr:=fun h=>hSf (W.sub _ h);have hsub:∀b∈wr,b∈S::wr:=fun b hb=>qg _ hb;have keep:∀{h h':Heap},(∀b o,b<h0.objs.size->h0.get? b=aa o->h.get? b=aa o)->(∀b o,b∉S::wr->h.get? b=aa o->h'.get? b=aa o)->∀b o,b<h0.objs.size->h0.get? b=aa o->h'.get? b=aa o:=fun q1 q2 b o hb e=>q2 b o (fun z=>by
  rcases cy.mp z with z|z
  .rw[z] at hb;exact bB hb (zX.mpr hS0)
  .exact bB hb (zX.mpr (hw0 b z))) (q1 b o hb e)
 intro k
 induction k with
 |zero=>
  intro i c s o hk hi hst hS hJ hB hR;have hin:i=n:=by omega
  subst hin;refine sO De ?_;rw[Af ub _];show aG _ A.in1 (nz (.ref I) >>= _) _ _ s;refine qx (W.done s _ _ hst fun s' hm=>?_);show aG _ A.in1 (Vu S [] >>= _) _ _ s';exact qx (qA (qA (hR s' o (hm.mono hsub) (hm.heap S _ hSw hS) hJ)))
 |succ k ih=>
  intro i c s o hk hi hst hS hJ hB hR;have hlt:i<n:=by omega
  refine sO De ?_;rw[Af ub _];show aG _ A.in1 (nz (.ref I) >>= _) _ _ s;refine qx (W.item i s _ _ hlt hst fun v s' hPv hst' hm=>?_);obtain⟨b,kv,vv,rfl,hb⟩:=hP i v hPv;have hB':=keep hB fun b o hb e=>hm.heap b o (fun z=>hb (hsub b z)) e;obtain⟨ob,hob,hoc,nn,hod⟩:=hb;have hob':s'.heap.get? b=aa ob:=hB' b ob (qu hob) hob;have hTb:s'.TypeIs (.ref b) "tuple":=⟨_,hob',hoc⟩;show aG _ A.in1 (ij [cj b] _ >>= _) _ _ s';refine qx (qT ?_);refine qx ?_;refine wpAny_tryCatch ?_;unfold Vv;refine qx (vw hTb ?_);rw[qY .(c)];refine qx (G7 hob' hod (qA ?_));show aG _ A.in1 (ij [kv,vv] (dictSet S kv vv)) _ _ s';refine qT (hadd i b kv vv s' o _ _ hlt hPv ⟨ob,hob,hoc,nn,hod⟩ (hm.heap S _ hSw hS) hJ hB' fun h' tk o' htk hsb hS' hJ'=>?_);refine qA ⟨G6 ub _,ih (i+1) (c+1) _ o' .(a) hlt (W.frame _ s' _ _ hst' htk fun b hb o e=>?_) hS' hJ' ?_ fun s'' o'' hm'' hS'' hJ''=>?_⟩
  .rw[hsb.2 b (fun h:b=S=>hSf (by rw[←h];exact hb))];exact e
  .refine keep hB' fun b o hb e=>?_;show h'.get? b=aa o;rw[hsb.2 b (fun h:b=S=>hb (by rw[h];exact qf))];exact e
  .refine hR s'' o'' (TV W.gtrans ((hm.mono hsub).then_heap htk fun b o hb e=>?_) hm'') hS'' hJ'';rw[hsb.2 b (fun h:b=S=>hb (by rw[h];exact qf))];exact e
end
theorem call_dict_gen {l:av} {c:ah} (hh:A.handled=ae) (hl:s.heap.get? l=aa {cls:=.type "list",data:=.seq items c}) (J:ah->Obj->Prop)
  (hJ0:J 0 {cls:=.type "dict",data:=.dict #[]})
  (hadd:∀A':eU,A'.units<=A.units+16->Dy prog w A' s.heap.objs.size s.heap (fun i v=>items[i]?=aa v) items.size J)
  (hP:∀(i:ah) (v:Value),items[i]?=aa v->∃b kv vv,v=.ref b/\s.heap.IsTuple b #[kv,vv])
  (h:∀(h':Heap) (tk:ah) (o:Obj),h'.get? s.heap.objs.size=aa o->J items.size o->
   (∀b o,b<s.heap.objs.size->s.heap.get? b=aa o->h'.get? b=aa o)->Q (.ref s.heap.objs.size) {s with heap:=h',toks:=tk}) :
  aG .(B) A (call (.type "dict") [.ref l]) Q E s:=by
 refine callType_codes (Q₁:=fun obj s₁=>obj=.ref s.heap.objs.size/\s₁={s with heap:=s.heap.push {cls:=.type "dict",data:=.dict #[]} }) F.kt_called_dict (F.kt_typeCall_dict_1 _) F.entry_dict_init (kt_code_dict_new _ ⟨rfl,rfl⟩) ?_;rintro obj s₁ ⟨rfl,rfl⟩;have hnew:(s.heap.push {cls:=.type "dict",data:=.dict #[]}).get? s.heap.objs.size=aa {cls:=.type "dict",data:=.dict #[]}:=qG _ rfl;have hl1:(s.heap.push {cls:=.type "dict",data:=.dict #[]}).get? l=aa {cls:=.type "list",data:=.seq items c}:=qt _ hl;have hT:Ah {s with heap:=s.heap.push {cls:=.type "dict",data:=.dict #[]} } (.ref s.heap.objs.size) "dict":=⟨_,hnew,rfl⟩;have hTl:Ah {s with heap:=s.heap.push {cls:=.type "dict",data:=.dict #[]} } (.ref l) "list":=⟨_,hl1,rfl⟩;refine⟨hT,F.args_dict_init_2 _ _,?_⟩;unfold Builtin.«dict.__init__»;refine qx ?_;unfold Vx;refine qx (wpAny_notOrdered_dict hT ?_);show aG _ _ (bq (s.heap.objs.size,[cj l])) _ _ _;refine qA ?_;show aG _ _ (T8 "dict.__init__" s.heap.objs.size (.ref l) [] .none) _ _ _;unfold T8;refine qx (vw hTl ?_);rw[qY .(c)];refine qx (Js (s:={s with heap:=s.heap.push {cls:=.type "dict",data:=.dict #[]} }) (A:=A.in1.in1) hl1 hh fun h1 tk1 hk1=>?_);simp only[Option.isNone_none,cr];refine qx (wpAny_rule ?_);have hl2:h1.IsList l items:=⟨_,hk1 _ _ hl1,rfl,_,rfl⟩;refine qx (vE (s:={s with heap:=h1,toks:=tk1}) hl2 ?_);refine qA ⟨G6 ub _,?_⟩;have hlS:l<s.heap.objs.size:=qu hl;have hsz1:s.heap.objs.size<h1.objs.size:=qu (hk1 _ _ hnew);have hneI:l≠h1.objs.size:=qC (sJ hlS hsz1);have hSf:s.heap.objs.size∉[h1.objs.size,l]:=by simp only[qL,b8,qJ,or_false,pf];exact⟨qC hsz1,zy hlS⟩
 have old:∀b o,b<s.heap.objs.size->s.heap.get? b=aa o->h1.get? b=aa o:=fun b o _ e=>hk1 _ _ (qt _ e);refine RM ((GO (A:=A.in1.in1) (by simpa using hh) _ l hneI items).toS) s.heap.objs.size hSf s.heap (qv _) (fun b hb=>?_) J (hadd _ (by show A.units+2<=_;omega)) hP (items.size-0) 0 0 _ _ .(a) (gX _)
  ⟨⟨_,qG _ rfl,rfl,rfl⟩,hl2.push _⟩ (qt _ (hk1 _ _ hnew)) hJ0 (fun b o hb e=>qt _ (old b o hb e)) fun s' o' hm hS' hJ'=>?_
 .have:b=h1.objs.size:=by simpa using hb
  rw[this];exact sv hsz1
 .obtain⟨h',g',d',tk',os'⟩:=s';have eg:g'=s.gens:=hm.gens;have ed:d'=s.drawn:=hm.drawn;have eo:os'=s.os:=hm.os;subst eg;subst ed;subst eo;refine⟨rfl,h h' tk' o' hS' hJ' fun b o hb e=>hm.heap b o ?_ (qt _ (old b o hb e))⟩;simp only[qL,b8,qJ,or_false,pf];exact⟨qC hb,qC (sJ hb hsz1)⟩
end DT
section
variable [fU κ]
def mrg (kvs ps:ac (κ×V)):ac (κ×V):=ps.foldl (fun acc kv=>dE acc kv.1 kv.2) kvs
theorem Dh (kvs ps:ac (κ×V)) (p:κ×V):mrg kvs (ps++[p])=dE (mrg kvs ps) p.1 p.2:=by unfold mrg;rw[Ai];rfl
theorem RA (kvs:ac (κ×V)) (k:κ) (v:V):(dE kvs k v).length<=kvs.length+1:=by
 unfold dE;split
 .rw[qe];omega
 .rw[qi,qW];omega
theorem rV:∀(ps kvs:ac (κ×V)),(mrg kvs ps).length<=kvs.length+ps.length
 |[],kvs=>qv _
 |p::ps,kvs=>by have h1:=rV ps (dE kvs p.1 p.2);have h2:=RA kvs p.1 p.2;show(mrg (dE kvs p.1 p.2) ps).length<=_;rw[qh];omega
end
noncomputable def Jd:ac V->Hp->VK->Prop:=fun xs H Q=>∃(a:av) (vs:ac V) (ps:ac (Key×V)),xs=[.ref a]/\H a=aa (.lst vs)/\vs.length=ps.length/\ps.length<=1000/\(∀(i:ah) p,ps[i]?=aa p->∃b,vs[i]?=aa (.ref b)/\H b=aa (.tup [kV p.1,p.2])) /\
 ∀q,H q=ae->Q (.ref q) (upd H q (.dK (mrg [] ps)))
theorem ET {b:av} {x y:V} (I:Inv X pins σ H s) (hb:H b=aa (.tup [x,y])):∃u v,bC x u/\bC y v/\s.heap.IsTuple b #[u,v]:=by
 obtain⟨its,r,p,_⟩:=I.tuple (.inl (.inl hb));cases r with
 |cons r1 r2=>
  cases r2 with
  |cons r2 r3=>
   cases r3;exact⟨_,_,r1,r2,p⟩
theorem tuple_inj {h:Heap} {b:av} {x y:b7 Value} (p:h.IsTuple b x) (q:h.IsTuple b y):x=y:=by obtain⟨o,h1,_,n,h2⟩:=p;obtain⟨o',g1,_,m,g2⟩:=q;rw[h1] at g1;cases g1;rw[h2] at g2;cases g2;rfl
theorem Sv (hc:X.calm=al) (hu:X.A.units+66<di):fN X (.type "dict") Jd:=by
 intro pins s σ H xs us Q I r h;obtain⟨a,vs,ps,rfl,ha,hl,hz,hp,q⟩:=h;obtain⟨u,rfl,ru⟩:=gN r;cases ru;obtain⟨z,its,n,rv,hlen,e⟩:=I.lstM ha;have hsz:its.toArray.size=ps.length:=by rw[qB,←hlen,hl]
 have hit:∀(i:ah) (v:Value),its.toArray[i]?=aa v->∃p b u w,ps[i]?=aa p/\v=.ref b/\bC (kV p.1) u/\bC p.2 w/\s.heap.IsTuple b #[u,w]:=fun i v hv=>by
  have hi:i<ps.length:=by rw[←hsz];exact(iG.mp hv).1
  obtain⟨b,hb1,hb2⟩:=hp i ps[i] (by simp[hi]);obtain⟨u2,hu2,ru2⟩:=rv.get hb1;have hv':its[i]?=aa v:=by simpa using hv
  rw[hu2] at hv';cases hv';cases ru2;obtain⟨u,w,r1,r2,r3⟩:=ET I hb2;exact⟨ps[i],b,u,w,by simp[hi],rfl,r1,r2,r3⟩
 refine DT.call_dict_gen (I.ok.hd hc) e (fun i o=>∃vs',KV (mrg [] (ps.take i)) vs'/\o.IsDictOf (dB X.prog X.w) vs') ?_ (fun A' hA' i b kv vv sh o Q' E' hi hv hb ho hJ hB hQ=>?_) (fun i v hv=>?_) fun h' tk o ho hJ hk=>?_
 .obtain⟨o,ho,hd⟩:=An.mp (Tq (knd:=dB X.prog X.w) s.heap);have:o={cls:=.type "dict",data:=.dict #[]}:=by have:=qG s.heap (o:={cls:=.type "dict",data:=.dict #[]}) rfl;rw[this] at ho;exact(qH ho).symm
  subst this;exact⟨[],.nil,hd⟩
 .obtain⟨p,b',u,w,h1,h2,h3,h4,h5⟩:=hit i _ hv;cases h2;have e2:=tuple_inj hb h5;have e3:kv=u/\vv=w:=by simpa using e2
  obtain⟨rfl,rfl⟩:=e3;obtain⟨vs',k1,k2⟩:=hJ;have hle:vs'.length<=1000:=by have q1:=k1.length;have q2:=rV (ps.take i) ([]:ac (Key×V));rw[qE,qk] at q2;omega
  refine wpAny_dictSet_pairs (nV h3) (An.mpr ⟨o,ho,k2⟩) (fun h' hd' hsb=>?_) (by rw[eI];omega);obtain⟨o',ho',hd''⟩:=An.mp hd';refine hQ h' _ o' (sF _) hsb ho' ⟨_,?_,hd''⟩;have htk:ps.take (i+1)=ps.take i++[p]:=by rw[pi,h1];rfl
  rw[htk,Dh];exact k1.put p.1 h4
 .obtain⟨p,b,u,w,h1,h2,h3,h4,h5⟩:=hit i v hv;exact⟨b,u,w,h2,h5⟩
 .obtain⟨vs',k1,k2⟩:=hJ;rw[hsz,mm] at k1;refine⟨.ref s.heap.objs.size,_,I.laid (a:=s.heap.objs.size) (o:=.dK (mrg [] ps)) (fun b u e=>hk b u (qu e) e) (qv _) ⟨?_,?_,vs',k1,An.mpr ⟨o,ho,k2⟩⟩,rfl,q _ I.fresh⟩
  .have:=rV ps ([]:ac (Key×V));rw[qk] at this;rw[eI];omega
  .exact oO.mpr (eh (qC I.big))
noncomputable def Qu:ac V->Hp->VK->Prop:=fun xs H Q=>∃(a:av) (vs:ac V) (ps:ac (ac Key×V)),xs=[.ref a]/\H a=aa (.lst vs)/\vs.length=ps.length/\ps.length<=1000/\(∀(i:ah) p,ps[i]?=aa p->∃b kb,vs[i]?=aa (.ref b)/\H b=aa (.tup [.ref kb,p.2])/\H kb=aa (.tup (p.1.map kV))) /\
 ∀q,H q=ae->Q (.ref q) (upd H q (.dT (mrg [] ps)))
theorem Jp {P:ac Key->av->Prop} (hP:∀k b,H b=aa (.tup (k.map kV))->P k b):∀{kvs:ac (ac Key×V)} {xs:ac (ac Key×av×Value)},KT H kvs xs->∀x∈xs,P x.1 x.2.1:=by
 intro kvs xs q
 induction q with
 |nil=>intro x hx;cases hx
 | @cons p y ps ys hq t ih=>
  intro x hx;rcases cy.mp hx with rfl|hx
  .exact hP _ _ (by rw[←hq.1];exact hq.2.1)
  .exact ih x hx
theorem R5 (hc:X.calm=al) (hu:X.A.units+66<di):fN X (.type "dict") Qu:=by
 intro pins s σ H xs us Q I r h;obtain⟨a,vs,ps,rfl,ha,hl,hz,hp,q⟩:=h;obtain⟨u,rfl,ru⟩:=gN r;cases ru;obtain⟨z,its,n,rv,hlen,e⟩:=I.lstM ha;have hsz:its.toArray.size=ps.length:=by rw[qB,←hlen,hl]
 have hit:∀(i:ah) (v:Value),its.toArray[i]?=aa v->∃p b kb w,ps[i]?=aa p/\v=.ref b/\H kb=aa (.tup (p.1.map kV))/\bC p.2 w/\s.heap.IsTuple b #[.ref kb,w]:=fun i v hv=>by
  have hi:i<ps.length:=by rw[←hsz];exact(iG.mp hv).1
  obtain⟨b,kb,hb1,hb2,hb3⟩:=hp i ps[i] (by simp[hi]);obtain⟨u2,hu2,ru2⟩:=rv.get hb1;have hv':its[i]?=aa v:=by simpa using hv
  rw[hu2] at hv';cases hv';cases ru2;obtain⟨u,w,r1,r2,r3⟩:=ET I hb2;cases r1;exact⟨ps[i],b,kb,w,by simp[hi],rfl,hb3,r2,r3⟩
 have isk:∀{h':Heap},(∀b o,b<s.heap.objs.size->s.heap.get? b=aa o->h'.get? b=aa o)->∀k b,H b=aa (.tup (k.map kV))->(nt (dB X.prog X.w)).is h' k b:=fun hB k b hb=>ST.IsTupleKey.mono (pH I.hok hb) fun o e=>hB _ _ (qu e) e;refine DT.call_dict_gen (I.ok.hd hc) e (fun i o=>∃xs',KT H (mrg [] (ps.take i)) xs'/\∃es ep,o.ExactDict/\o.data=.dict es ep/\es.toList=xs'.map (entryOfKey (nt (dB X.prog X.w)))/\(xs'.map (·.1)).Nodup) ?_ (fun A' hA' i b kv vv sh o Q' E' hi hv hb ho hJ hB hQ=>?_) (fun i v hv=>?_) fun h' tk o ho hJ hk=>?_
 .exact⟨[],.nil,#[],0,⟨rfl,rfl,rfl⟩,rfl,rfl,lh⟩
 .obtain⟨p,b',kb,w,h1,h2,h3,h4,h5⟩:=hit i _ hv;cases h2;have e2:=tuple_inj hb h5;have e3:kv=.ref kb/\vv=w:=by simpa using e2
  obtain⟨rfl,rfl⟩:=e3;obtain⟨xs',k1,es,ep,k2,k3,k4,k5⟩:=hJ;have hle:xs'.length<=1000:=by have q1:=Paired.length k1;have q2:=rV (ps.take i) ([]:ac (ac Key×V));rw[qE,qk] at q2;omega
  refine wpAny_dictSet_heap (knd:=nt (dB X.prog X.w)) (show A'.units<di by omega) (isk hB _ _ h3) ⟨o,es,ep,ho,k2,k3,k4,Jp (isk hB) k1,k5⟩ (fun h' hd' hsb=>?_) (by rw[eI];omega);obtain⟨o',es',ep',ho',w2,w3,w4,_,w5⟩:=hd';refine hQ h' _ o' (vJ _ _) hsb ho' ⟨_,?_,es',ep',w2,w3,w4,w5⟩;have htk:ps.take (i+1)=ps.take i++[p]:=by rw[pi,h1];rfl
  rw[htk,Dh];exact k1.put p.1 h3 h4
 .obtain⟨p,b,kb,w,h1,h2,h3,h4,h5⟩:=hit i v hv;exact⟨b,_,w,h2,h5⟩
 .obtain⟨xs',k1,es,ep,k2,k3,k4,k5⟩:=hJ;rw[hsz,mm] at k1;refine⟨.ref s.heap.objs.size,_,I.laid (a:=s.heap.objs.size) (o:=.dT (mrg [] ps)) (fun b u e=>hk b u (qu e) e) (qv _) ⟨?_,?_,xs',k1.keeps fun b ys e=>?_,o,es,ep,ho,k2,k3,k4,k5⟩,rfl,q _ I.fresh⟩
  .have:=rV ps ([]:ac (ac Key×V));rw[qk] at this;rw[eI];omega
  .exact oO.mpr (eh (qC I.big))
  .rw[aO (ce e I.fresh)];exact e
def oK:ac D->ar (ac (Key×D))
 |[]=>aa []
 |.tup [k,v]::r=>(jP k).bind fun kk=>(oK r).map ((kk,v)::·)
 |_::_=>ae
def mr:ac D->ar (ac (ac Key×D))
 |[]=>aa []
 |.tup [.tup t,v]::r=>(iz t).bind fun kk=>(mr r).map ((kk,v)::·)
 |_::_=>ae
def uh [fU κ] (ps:ac (κ×D)):ac (κ×D):=ps.foldl (fun acc kv=>ir acc kv.1 kv.2) []
def pY:ac D->ar D
 |[.lst l]=>if l.length<=1000 then (oK l).map fun ps=>.dk (uh ps) else ae
 |_=>ae
def tX:ac D->ar D
 |[.lst l]=>if l.length<=1000 then (mr l).map fun ps=>.dt (uh ps) else ae
 |_=>ae
theorem xU {κ:Type} [fU κ] {K:aV} {G:Hp}:∀{us:ac (κ×V)} {kvs:ac (κ×D)} {acc:ac (κ×V)} {acd:ac (κ×D)},us.map (·.1)=kvs.map (·.1)->Reps Γ K G (us.map (·.2)) (kvs.map (·.2))->acc.map (·.1)=acd.map (·.1)->Reps Γ K G (acc.map (·.2)) (acd.map (·.2))->
  (mrg acc us).map (·.1)=(kvs.foldl (fun acc kv=>ir acc kv.1 kv.2) acd).map (·.1)/\Reps Γ K G ((mrg acc us).map (·.2)) ((kvs.foldl (fun acc kv=>ir acc kv.1 kv.2) acd).map (·.2))
 |[],[],_,_,_,_,e,r=>⟨e,r⟩
 |[],_::_,_,_,e,_,_,_=>by cases e
 |_::_,[],_,_,e,_,_,_=>by cases e
 |(k1,v)::us,(k2,d)::kvs,acc,acd,e,r,e0,r0=>by
  have e1:k1=k2:=(ju e).1;subst e1;have r:Reps Γ K G (v::us.map (·.2)) (d::kvs.map (·.2)):=r;cases r with
  |cons r1 r2=>
   obtain⟨w1,w2⟩:=Eg (k:=k1) r1 e0 r0;exact xU (us:=us) (kvs:=kvs) (ju e).2 r2 w1 w2
theorem BD {K:aV} {G H:Hp} (gh:bo G H):∀{vs:ac V} {ds:ac D} {ps:ac (Key×D)},Reps Γ K G vs ds->oK ds=aa ps->
  ∃us:ac (Key×V),vs.length=us.length/\us.map (·.1)=ps.map (·.1)/\Reps Γ K G (us.map (·.2)) (ps.map (·.2))/\∀(i:ah) p,us[i]?=aa p->∃b,vs[i]?=aa (.ref b)/\H b=aa (.tup [kV p.1,p.2])
 |_,[],ps,r,h=>by cases r;cases h;exact⟨[],rfl,rfl,.nil,fun i p e=>by simp at e⟩
 |_,d::ds,ps,.cons h1 h2,h=>by
  unfold oK at h;split at h
  .rename_i heq;cases heq
  .rename_i heq;cases heq;obtain⟨kk,hk,h⟩:=oBd h;obtain⟨zs,hz,rfl⟩:=oMd h;obtain⟨us,q1,q2,q3,q4⟩:=BD gh h2 hz;obtain⟨a,ws,rfl,ha,ra⟩:=h1.tup_inv;obtain⟨x,y,rfl,rx,ry⟩:=ra.two;have ex:=uo rx hk;subst ex;refine⟨(kk,y)::us,by rw[qh,qh,q1],by simp[q2],.cons ry q3,fun i p e=>?_⟩;cases i with
   |zero=>cases e;exact⟨a,rfl,gh _ _ ha⟩
   |succ i=>exact q4 i p e
  .cases h
theorem Cm {K:aV} {G H:Hp} (gh:bo G H):∀{vs:ac V} {ds:ac D} {ps:ac (ac Key×D)},Reps Γ K G vs ds->mr ds=aa ps->
  ∃us:ac (ac Key×V),vs.length=us.length/\us.map (·.1)=ps.map (·.1)/\Reps Γ K G (us.map (·.2)) (ps.map (·.2))/\∀(i:ah) p,us[i]?=aa p->∃b kb,vs[i]?=aa (.ref b)/\H b=aa (.tup [.ref kb,p.2])/\H kb=aa (.tup (p.1.map kV))
 |_,[],ps,r,h=>by cases r;cases h;exact⟨[],rfl,rfl,.nil,fun i p e=>by simp at e⟩
 |_,d::ds,ps,.cons h1 h2,h=>by
  unfold mr at h;split at h
  .rename_i heq;cases heq
  .rename_i heq;cases heq;obtain⟨kk,hk,h⟩:=oBd h;obtain⟨zs,hz,rfl⟩:=oMd h;obtain⟨us,q1,q2,q3,q4⟩:=Cm gh h2 hz;obtain⟨a,ws,rfl,ha,ra⟩:=h1.tup_inv;obtain⟨x,y,rfl,rx,ry⟩:=ra.two;obtain⟨kb,ks,rfl,hkb,rk⟩:=rx.tup_inv;have ex:=og rk hk;subst ex;refine⟨(kk,y)::us,by rw[qh,qh,q1],by simp[q2],.cons ry q3,fun i p e=>?_⟩;cases i with
   |zero=>cases e;exact⟨a,kb,rfl,gh _ _ ha,gh _ _ hkb⟩
   |succ i=>exact q4 i p e
  .cases h
theorem Dr (hc:X.calm=al) (hu:X.A.units+66<di):TyD Γ X "dict" pY:=⟨_,Sv hc hu,fun {G H vs ds z} gh r h Q k=>by
 unfold pY at h;split at h
 .split at h
  .rename_i hz;obtain⟨ps,hp,rfl⟩:=oMd h;obtain⟨v,rfl,r1⟩:=r.one;obtain⟨a,ws,rfl,ha,ra⟩:=r1.lst_inv;obtain⟨us,q1,q2,q3,q4⟩:=BD gh ra hp;refine⟨a,ws,us,rfl,gh _ _ ha,q1,by rw[←q1,ra.length];exact hz,q4,fun p hp=>?_⟩;have s:=Step.new (o:=.dK (mrg [] us)) gh hp;obtain⟨w1,w2⟩:=xU (acc:=[]) (acd:=[]) q2 q3 rfl .nil;exact k _ _ _ s (.dk bK w1 (w2.mono s.gg))
  .cases h
 .cases h⟩
theorem Iy (hc:X.calm=al) (hu:X.A.units+66<di):TyD Γ X "dict" tX:=⟨_,R5 hc hu,fun {G H vs ds z} gh r h Q k=>by
 unfold tX at h;split at h
 .split at h
  .rename_i hz;obtain⟨ps,hp,rfl⟩:=oMd h;obtain⟨v,rfl,r1⟩:=r.one;obtain⟨a,ws,rfl,ha,ra⟩:=r1.lst_inv;obtain⟨us,q1,q2,q3,q4⟩:=Cm gh ra hp;refine⟨a,ws,us,rfl,gh _ _ ha,q1,by rw[←q1,ra.length];exact hz,q4,fun p hp=>?_⟩;have s:=Step.new (o:=.dT (mrg [] us)) gh hp;obtain⟨w1,w2⟩:=xU (acc:=[]) (acd:=[]) q2 q3 rfl .nil;exact k _ _ _ s (.dt bK w1 (w2.mono s.gg))
  .cases h
 .cases h⟩
theorem Dfn.none {k:ah} (F:Dfn K mg x st)
  (hb:∀(kV doc pm:Value) (an:ar av) (cdv ct:Value) (us:ac Value),us.length=ps.length->l9 (ik x x (io st) (eN st) (aW st) .none kV doc pm an cdv ct) ⟨us,[]⟩=bq (ps.zip us))
 : Cal Γ P w K mg base x ps.length k (fun _=>ae):=by
 obtain⟨f,fd,h1,h2⟩:=F.ex;refine⟨f,fd,ps,⟨fun vs H Q E h=>?_,fun A outer s H args us vs Q E hr I b v h=>?_⟩,h2,h1.kp,h1.binds hb⟩
 .obtain⟨_,_,_,_,_,_,z,_⟩:=h;cases z
 .obtain⟨_,_,_,_,_,_,z,_⟩:=h;cases z
noncomputable def orG (g g':D->D->ar D) (x y:D):ar D:=match g x y with
 |some z=>aa z
 |none=>g' x y
variable {z:D}
section
variable {a:Expr} {g:D->D->ar D}
theorem NF {x y:D} (h:orG g g' x y=aa z):g x y=aa z\/g' x y=aa z:=by
 unfold orG at h;split at h
 .rename_i q;cases h;exact .inl q
 .exact .inr h
theorem CmpD.or (h:CmpD Γ X op g) (h':CmpD Γ X op g'):CmpD Γ X op (orG g g'):=by
 obtain⟨r,o,d⟩:=h.ex;obtain⟨r',o',d'⟩:=h'.ex;refine⟨_,o.or o',fun {G H v u x y z} gh r1 r2 q Q k=>?_⟩;rcases NF q with q|q
 .exact .inl (d gh r1 r2 q Q k)
 .exact .inr (d' gh r1 r2 q Q k)
def eqA:=orG eqD wM
def neA:=orG neD rW
theorem Jw (hu:X.A.units+64<di):CmpD Γ X .Eq eqA:=dA.or (MN hu)
theorem sg (hu:X.A.units+64<di):CmpD Γ X .NotEq neA:=jN.or (J3 hu)
theorem DfnM.mk' {f:av} {c m:aj} {kV:Value} (a:cO K (.ref C) m=aa (aa (.ref f))) (i:oX K (.ref f)=al)
  (l:K.lookup f=aa ⟨oc,od,.func (ik m qual (io st) (eN st) (aW st) .none kV doc pm an cdv ct),osl⟩) (cd:sG K cdv qual=al) (k:gI K (.ref f)=al):DfnM K C c m qual st:=⟨f,_,yY l cd k,a,i⟩
end
variable {f1 f2 f3 f4 f5 f6 f7:FE}
theorem ln1:∀ρ ds,af f1 ao ρ=aa ds->ds.length=1:=nq fun _ _ h=>RO h
theorem ln2:∀ρ ds,af f1 (af f2 ao) ρ=aa ds->ds.length=2:=nq ln1
theorem ln3:∀ρ ds,af f1 (af f2 (af f3 ao)) ρ=aa ds->ds.length=3:=nq ln2
theorem ln4:∀ρ ds,af f1 (af f2 (af f3 (af f4 ao))) ρ=aa ds->ds.length=4:=nq ln3
theorem ln5:∀ρ ds,af f1 (af f2 (af f3 (af f4 (af f5 ao)))) ρ=aa ds->ds.length=5:=nq ln4
theorem ln6:∀ρ ds,af f1 (af f2 (af f3 (af f4 (af f5 (af f6 ao))))) ρ=aa ds->ds.length=6:=nq ln5
theorem ln7:∀ρ ds,af f1 (af f2 (af f3 (af f4 (af f5 (af f6 (af f7 ao)))))) ρ=aa ds->ds.length=7:=nq ln6
section
variable {c m:aj}
end
section
open PyProof
end
section
variable {a i:Expr}
theorem Jf {t:Tok} (hg:Gl X x) (hm:X.mg x=aa (.str y t)) (hd:.(x)=aq:=by decide):DE Γ X (.Name x pos) (vC (.str y)):=TD.const (fun _=>.str y) (jR hg hm ⟨t,rfl⟩ hd)
noncomputable def IH (i j:ag):Prop:=0<j/\j.natAbs.log2<9000
theorem Io:OpR X (gH .FloorDiv) (rI IH fun i j=>.int (i / j)):=opI fun i j _ _ _ _ _ hc q=>by have h1:(0:ag)<j:=hc.1;exact floordiv_int .(a) (by rw[Ga i .(a)];exact q) (.inl (PyProof.noPylong_of_log2 hc.2))
noncomputable def rH:D->D->ar D
 |.int i,.int j=>if 0<j/\j.natAbs.log2<9000 then aa (.int (i / j)) else ae
 |_,_=>ae
theorem NR (ha:DE Γ X a fa) (hb:DE Γ X b fb):DE Γ X (.BinOp a .FloorDiv b pos) (b2 rH fa fb):=kU Io (rg fun x y z h=>by
 unfold rH at h;split at h
 .split at h<;>cases h;exact⟨_,_,rfl,rfl,by assumption,rfl⟩
 .cases h) ha hb
noncomputable def dn:ac D->ar D
 |[.int i]=>if i.natAbs.log2<1920 then aa (.str (sC i)) else ae
 |_=>ae
theorem iL:TyD Γ X "str" dn:=⟨_,MO,fun {G H vs ds z} gh r h Q k=>by
 unfold dn at h;split at h
 .split at h
  .cases h;obtain⟨v,rfl,r1⟩:=r.one;cases r1.int_inv;exact⟨_,rfl,by assumption,k _ G H .(ap) (.str _)⟩
  .cases h
 .cases h⟩
noncomputable def inS (x y:aj):ba:=!(vj y x 0 y.length 1).isEmpty
def kD:D->D->ar D
 |.str x,.str y=>aa (.bl (inS x y))
 |_,_=>ae
theorem Fk:CmpD Γ X .In kD:=⟨_,OM,fun {G H v u x y z} gh r1 r2 h Q k=>by unfold kD at h;split at h<;>cases h;cases r1.str_inv;cases r2.str_inv;exact⟨_,_,rfl,rfl,k _ G H .(ap) (.bl _)⟩⟩
noncomputable def i9:D->ac D->ar D
 |.str x,[.str y]=>if y.length≠0/\x.length<=1000000 then aa (.lst ((cP x y).map D.str)) else ae
 |_,_=>ae
theorem Reps.strs {K:aV} {G:Hp}:∀(ns:ac aj),Reps Γ K G (ns.map V.str) (ns.map D.str)
 |[]=>.nil
 |n::r=>.cons (.str n) (Reps.strs r)
theorem DH:∀(l:ac (aj×Tok)),bp ((l.map (·.1)).map V.str) (strValues l)
 |[]=>.nil
 |(x,t)::r=>.cons ⟨t,rfl⟩ (DH r)
theorem pT:MtD Γ X "str" "str.split" i9:=by
 refine⟨⟨fun v vs H Q=>∃x y,v=.str x/\vs=[.str y]/\y.length≠0/\x.length<=1000000/\∀p,H p=ae->Q (.ref p) (upd H p (.lst ((cP x y).map V.str))),?_,?_⟩,?_⟩
 .intro pins s σ H x xs v us Q I rx rs h;obtain⟨z,y,rfl,rfl,hy,hz,q⟩:=h;obtain⟨t,rfl⟩:=rx;obtain⟨u,rfl,ru⟩:=gN rs;obtain⟨t2,rfl⟩:=ru;have hy':(y.length==0)=aq:=by simpa using hy
  have hlen:(cP z y).length<=z.length+2:=split_le z y;have hsl:=eI;have fin:∀(l:ac (aj×Tok)) (k:ah),l.map (·.1)=cP z y->EP X pins σ Q (.ref s.heap.objs.size) {s with heap:=s.heap.push {cls:=.type "list",data:=.seq (strValues l).toArray},toks:=k}:=fun l k e=>by refine⟨.ref _,_,I.lnew (ys:=(cP z y).map V.str) (t':=k) (by rw[←e];exact DH l) (by rw[qe];omega),rfl,q _ I.fresh⟩
  cases h1:(decide (z.length<y.length) || decide (sR z<sR y))
  .cases hf:(vj z y 0 z.length (z.length+1)).isEmpty
   .have es:cP z y=T9 z (vj z y 0 z.length (z.length+1)) y.length:=(qZ (Hg h1)).trans (qZ (Hg hf));refine o4 nP (sI _ _ _) Hh (Hi _ _) (meets_str_split_sep z y t t2 h1 hy' hf .(a) (by rw[←es];omega)) ?_;show EP X pins σ Q _ {s with toks:=_,heap:=s.heap.push {cls:=.type "list",data:=.seq (strsFrom s.toks (T9 z (vj z y 0 z.length (z.length+1)) y.length)).toArray} };rw[strsFrom_eq];exact fin _ _ ((numbered_texts _ _).trans es.symm)
   .refine o4 nP (sI _ _ _) Hh (Hi _ _) (meets_str_split_not_found z y t t2 h1 hy' hf) ?_;exact fin [(z,t)] s.toks ((qZ (Hg h1)).trans (qY hf)).symm
  .refine o4 nP (sI _ _ _) Hh (Hi _ _) (meets_str_split_cannot_occur z y t t2 h1) ?_;exact fin [(z,t)] s.toks (qY h1).symm
 .intro G H v x vs ds z gh r1 r2 h Q k;unfold i9 at h;split at h
  .split at h
   .rename_i hz;cases h;cases r1.str_inv;obtain⟨v,rfl,r3⟩:=r2.one;cases r3.str_inv;exact⟨_,_,rfl,rfl,hz.1,hz.2,jJ gh (Reps.strs _) k⟩
   .cases h
  .cases h
 .intro G H v x ds z gh r h;unfold i9 at h;split at h
  .cases r.str_inv;exact rfl
  .cases h
end
section
variable {a i:Expr}
noncomputable def rC:D->ar aj
 |.str x=>if x.length<=aL then aa x else ae
 |.int i=>if i.natAbs.log2<1920 then aa (sC i) else ae
 |_=>ae
def jW:aj->ac D->ar aj
 |acc,[]=>if acc.length<=aL then aa acc else ae
 |acc,d::r=>(rC d).bind fun y=>if (acc++y).length<=aL then jW (acc++y) r else ae
def fsF (fr:FA):FE:=fun ρ=>(fr ρ).bind fun ds=>(jW la ds).map D.str
structure DJ (Γ:Cn) (X:Cx) (es:ac Expr) (fr:FA):Prop where
 out:∀(acc:aj) (pins:ac (av×Obj)) (s:aH) (σ:St) (H:Hp) (Q:VK),Inv X pins σ H s->(∃G₀ H₀ G ρ ds z,At Γ X.K G₀ H₀ G H ρ σ/\fr ρ=aa ds/\jW acc ds=aa z/\∀G' H',Step G H G' H'->Q (.str z) H')->
  aG .(k) X.A (joinParts acc (nQ es X.env)) (EP X pins σ Q) X.xe s
theorem Qr:DJ Γ X [] ao:=⟨fun acc pins s σ H Q I ⟨G₀,H₀,G,ρ,ds,z,A,h,hz,k⟩=>by
 cases h;unfold jW at hz;split at hz
 .rename_i hl;cases hz;exact joinParts_nil ⟨.str _,H,I.tok _,⟨_,rfl⟩,k G H (.refl A.gh)⟩ hl
 .cases hz⟩
theorem HN {j} (h:DJ Γ X es fr) (hs:nQ (.Constant (.str y) j p::es) X.env=eval (.Constant (.str y) j p) X.env::nQ es X.env:=by rfl):DJ Γ X (.Constant (.str y) j p::es) (af (vC (.str y)) fr):=⟨fun acc pins s σ H Q I ⟨G₀,H₀,G,ρ,ds,z,A,hq,hz,k⟩=>by
 unfold af vC at hq;simp only[qa] at hq;obtain⟨xs,hxs,rfl⟩:=oMd hq;unfold jW at hz;obtain⟨w,hw,hz2⟩:=oBd hz;clear hz;have hz:=hz2;clear hz2;split at hz
 .rename_i hl;have hw':w=y/\y.length<=aL:=by
   simp only[rC] at hw;split at hw
   .exact⟨(qH hw).symm,by assumption⟩
   .exact nomatch hw
  obtain⟨rfl,_⟩:=hw';rw[hs];refine T' (thn (wW (X:=X) pins s σ H (fun v H'=>v=.str w/\H'=H) I ⟨rfl,rfl⟩) fun v s1 ⟨v',H1,I1,r1,e1,e2⟩=>?_);subst e1 e2;obtain⟨t,rfl⟩:=r1;exact⟨hl,h.1 _ pins s1 σ _ Q I1 ⟨G₀,H₀,G,ρ,xs,z,A,hxs,hz,k⟩⟩
 .cases hz⟩
theorem Ra (hv:DE Γ X e f) (h:DJ Γ X es fr) (hs:nQ (.FormattedValue e (-1) ae p::es) X.env=eval (.FormattedValue e (-1) ae p) X.env::nQ es X.env:=by rfl):DJ Γ X (.FormattedValue e (-1) ae p::es) (af f fr):=⟨fun acc pins s σ H Q I ⟨G₀,H₀,G,ρ,ds,z,A,hq,hz,k⟩=>by
 unfold af at hq;obtain⟨d,hd,hq⟩:=oBd hq;obtain⟨xs,hxs,rfl⟩:=oMd hq;unfold jW at hz;obtain⟨w,hw,hz2⟩:=oBd hz;clear hz;have hz:=hz2;clear hz2;split at hz
 .rename_i hl;rw[hs];refine T' (FormattedValue_plain (thn (hv.1 pins s σ H (fun v H'=>∃G',Step G H G' H'/\Rep Γ X.K G' v d) I ⟨G₀,H₀,G,ρ,d,A,hd,fun v G' H' st r=>⟨G',st,r⟩⟩) fun v s1 ⟨v',H1,I1,r1,G1,st,rp⟩=>?_));have fin:∀(t':Tok) (tk:ah),(acc++w).length<=aL/\aG .(k) X.A (joinParts (acc++w) (nQ es X.env)) (EP X pins σ Q) X.xe {s1 with toks:=tk}:=fun t' tk=>
   ⟨hl,h.1 _ pins _ σ _ Q (I1.tok tk) ⟨G₀,H₀,G1,ρ,xs,z,A.step st,hxs,hz,fun G' H' s'=>k G' H' (st.trans s')⟩⟩
  unfold rC at hw;split at hw
  .split at hw
   .cases hw;cases rp.str_inv;obtain⟨t,rfl⟩:=r1;exact formatField_str (fun t' tk=>fin t' tk) (by assumption)
   .cases hw
  .split at hw
   .cases hw;cases rp.int_inv;obtain⟨t,rfl⟩:=r1;exact formatField_int_small (by assumption) (fin 0 _)
   .cases hw
  .cases hw
 .cases hz⟩
theorem JG {v1 v2:Expr} {bz:ac Expr} (h:DJ Γ X (v1::v2::bz) fr) (hs:nQ (v1::v2::bz) X.env=eval v1 X.env::eval v2 X.env::nQ bz X.env:=by rfl):DE Γ X (.JoinedStr (v1::v2::bz) pos) (fsF fr):=⟨fun pins s σ H Q I=>by rintro⟨G₀,H₀,G,ρ,d,A,hq,k⟩;unfold fsF at hq;obtain⟨ds,hd,hq⟩:=oBd hq;obtain⟨z,hz,rfl⟩:=oMd hq;refine JoinedStr_many ?_;rw[←hs];exact h.1 _ pins s σ H Q I ⟨G₀,H₀,G,ρ,ds,z,A,hd,hz,fun G' H' s'=>k _ G' H' s' (.str _)⟩⟩
end
variable {p3 p4:dh}
section
variable {a i:Expr}
end
section
variable {a i:Expr}
noncomputable def mz:D->ar D
 |.lst l=>aa (.lst l.reverse)
 |_=>ae
theorem Reps.reverse {K:aV} {G:Hp}:∀{vs:ac V} {ds:ac D},Reps Γ K G vs ds->Reps Γ K G vs.reverse ds.reverse
 |_,_,.nil=>.nil
 |_,_,.cons h r=>by rw[zR,zR];exact r.reverse.append (.cons h .nil)
theorem Ex {j} (he:DE Γ X e f):DE Γ X (.Subscript e (.Slice ae ae (aa (.UnaryOp .USub (.Constant (.int 1) j p3) p4)) p2) pos) (b1 mz f):=⟨fun pins s σ H Q I=>by
 rintro⟨G₀,H₀,G,ρ,d,A,h,k⟩;unfold b1 at h;obtain⟨x,hx,h⟩:=oBd h;unfold mz at h;split at h
 .rename_i l;cases h;refine zM (thn (he.1 pins s σ H (fun v H'=>∃G',Step G H G' H'/\Rep Γ X.K G' v (.lst l)) I ⟨G₀,H₀,G,ρ,_,A,hx,fun v G' H' st r=>⟨G',st,r⟩⟩) fun v s1 ⟨v',H1,I1,r1,G1,st,rp⟩=>?_);obtain⟨a,vs,rfl,ha,rv⟩:=rp.lst_inv;cases r1;refine wpAny_Slice (qA (qA ?_));refine thn ((QN Pu BA) pins s1 σ H1 (fun v H'=>v=.int (-1)/\H'=H1) I1 ⟨_,rfl,rfl,rfl⟩) fun vk s3 ⟨vv,H3,I3,r3,e1,e2⟩=>?_;subst e1 e2;obtain⟨t,rfl⟩:=r3;have I4:Inv X pins σ H3 {s3 with heap:=s3.heap.push {cls:=.type "slice",data:=.fields #[.none,.none,.int (-1) t]} }:=I3.kept (t':=s3.toks) fun b ob q=>qt _ q;obtain⟨its,rr,hti,hz⟩:=I4.list (.inl (.inl (st.gh _ _ ha)));show aG .(k) X.A (zN e (.Slice ae ae (aa (.UnaryOp .USub (.Constant (.int 1) j p3) p4)) p2) (.ref a) (.ref s3.heap.objs.size)) (EP X pins σ Q) X.xe {s3 with heap:=s3.heap.push {cls:=.type "slice",data:=.fields #[.none,.none,.int (-1) t]} };refine Gq (ops:=[.ref a,.ref s3.heap.objs.size]) hti.isList.typeIs Gu.lookup ?_ (by with_unfolding_all rfl);refine Ti hti.isList (Td ..) .none .none (.int _ _) .(c) ?_ (by rw[qB];have:=rr.length;omega);rw[PySem.W.krv_pick];have hn:=I4.fresh;exact⟨.ref _,_,I4.lnew (ys:=vs.reverse) (its:=its.reverse) (t':=s3.toks) (bp.reverse rr) (by rw[Ua];exact hz),rfl,jJ st.gh rv.reverse (fun w G2 H2 s2 r2=>k w G2 H2 (st.trans s2) r2) _ hn⟩
 .cases h⟩
end
namespace Law
noncomputable abbrev oS (d:D):ar Slot:=aa (.sh d)
end Law
noncomputable abbrev FQ:=ac D->ar D
namespace Law
theorem dC {k:ah} {F:FQ} (C:Cal Γ X.prog X.w X.K X.mg X.base x n k F) (hr:Room j X.A) (ha:DA Γ X (e::es) fr) (hn:∀ρ ds,fr ρ=aa ds->ds.length=n) (hk:k<=j:=by decide) (hg:Gl X x:=by exact rfl) (hdb:.(x)=aq:=by decide) (he:bc (e::es) X.env=(aq,eval e X.env)::bc es X.env:=by rfl) (hpl:.(aO).any (·.1)=aq:=by rfl):DE Γ X .(ag) (cF F fr):=i6 C hr hk hg ha hn hdb he hpl
theorem bR {P:ac aj} (a:sc.kind=.function:=by rfl) (b:sc.isCoroutine=aq:=by rfl) (c:sc.isGenerator=aq:=by rfl) (d:N.Nodup:=by decide +kernel) (e:N.take P.length=P:=by rfl) (f:∀x∈P,sc.names.lookup x=aa .local∨sc.names.lookup x=aa .cell:=by decide +kernel) (g:∀y∈sc.names,y.2≠.free:=by decide +kernel):FnScope N P sc:=⟨a,b,c,d,e,f,g⟩
end Law
structure Fly (P:ef) (w:cT) (base:Heap) (outer:ac cN) (H H':Hp) (s:aH) (B:Heap) (e:av) (cls a0:Value) (h:Heap):Prop where
 bst:base.StaysIn B
 keep:∀b o,s.heap.get? b=aa o->H b=ae->b∉frs outer->B.get? b=aa o
 slot:∀b o,s.heap.get? b=aa o->H b=ae->b∈frs outer->∃sl,h.get? b=aa {o with slots:=sl}
 nofl:∀b o,s.heap.get? b=aa o->b∈frs outer->∀vs,o.data≠.fields vs
 free:∀b o,s.heap.get? b=aa o->H b=ae->H' b=ae
 there:∀b o,s.heap.get? b=aa o->b∉frs outer->∃o',B.get? b=aa o'
 frf:∀b∈frs outer,H b=ae
 tups:∀b xs,H b=aa (.tup xs)->H' b=aa (.tup xs)
 frzs:∀b o u,H b=aa (.frz o u)->H' b=aa (.frz o u)
 tbls:∀b ps,H b=aa (.tbl ps)->∃more,H' b=aa (.tbl (ps++more))
 hok:HOk P w H' B
 fly:vV B outer e cls a0 h
 new:H' e=ae
variable {B:Heap} {a0:Value}
section
variable {e:av} {cls:Value} {h:Heap}
theorem Fly.on (F:Fly P w base outer H H' s B e cls a0 h) (k:h.UpToSlots h') (f:vV B outer e cls a0 h'):Fly P w base outer H H' s B e cls a0 h':=
 ⟨F.bst,F.keep,fun b o q n hb=>by obtain⟨sl,e1⟩:=F.slot b o q n hb;obtain⟨sl',e2⟩:=k b _ e1 (F.nofl b o q hb);exact⟨sl',e2⟩,F.nofl,F.free,F.there,F.frf,F.tups,F.frzs,F.tbls,F.hok,f,F.new⟩
theorem Fly.un (F:Fly P w base outer H H' s B e cls a0 h):Un (frs outer) [] H H' s.heap h where
 keep:=fun b o q n hb _=>F.fly.1 b o (F.keep b o q n hb)
 slot:=fun b o q n hb _=>F.slot b o q n hb
 free:=fun b o q n _=>F.free b o q n
 there:=fun b o q _=>by
  by_cases hb:b∈frs outer
  .obtain⟨sl,e1⟩:=F.slot b o q (F.frf b hb) hb;exact⟨_,e1⟩
  .obtain⟨o',e1⟩:=F.there b o q hb;exact⟨o',F.fly.1 b o' e1⟩
 tups:=F.tups
 frzs:=F.frzs
 tbls:=F.tbls
theorem Fly.hk (F:Fly P w base outer H H' s B e cls a0 h):HOk P w H' h:=F.hok.kept F.fly.1
end
variable {s₀:aH}
section
variable {f:av} {E:XK}
 {pins:ac (av×Obj)} {σ:St} {H:Hp} {s:aH} {h1:Heap} {e:av} {cls:Value} {vs:ac Value}
end
section
variable {f:av} {E:XK}
 {R:Hp->Prop} {n:cM} {x:aj} {np cpos pos:dh} {e₀:Expr} {bz:ac Expr} {fr:FA} {Bn newId initId:cM} {bmB:ac Value}
end
noncomputable def ka (a:av) (cls:Value) (h:Heap):Prop:=∃o vs,h.get? a=aa o/\o.cls=cls/\o.data=.fields vs
section
variable {e:av} {cls:Value} {h:Heap}
theorem Fly.exc (F:Fly P w base outer H H' s B e cls a0 h):ka e cls h:=by obtain⟨oe,vs,h1,h2,h3,h4⟩:=F.fly.first;exact⟨oe,vs,h1,h2,h3⟩
theorem Fly.fresh (F:Fly P w base outer H H' s B e cls a0 h):s.heap.get? e=ae:=by
 cases q:s.heap.get? e with
 |none=>rfl
 |some o=>
  exfalso;have nf:e∉frs outer:=fun hb=>by obtain⟨_,o',h1,h2⟩:=F.fly.2.2.1.mem hb;obtain⟨oe,vs,k1,k2,k3⟩:=F.exc;rw[h1] at k1;cases k1;exact h2 vs k3
  obtain⟨o',z⟩:=F.there e o q nf;rw[F.fly.2.1] at z;cases z
end
noncomputable abbrev Cx.marked (X:Cx) (v:Value):Cx:={X with A:=X.A.mark (aa v),calm:=aq,xe:=fun _ _=>False}
section
variable {v:Value}
theorem Inv.marked (I:Inv X pins σ H s) (v:Value):Inv (X.marked v) pins σ H s:=
 ⟨⟨I.ok.mod,I.ok.kind,I.ok.glob,I.ok.blt,I.ok.above,I.ok.inj,I.ok.has,I.ok.cab,(fun z=>nomatch z),I.ok.frames,I.ok.stk,I.ok.exf,I.ok.bs,I.ok.bsz,I.ok.noex,I.ok.exfs,I.ok.funs,I.ok.frf⟩,I.os,I.bare,I.base,I.loc,I.cell,I.free,I.freeC,I.pin,I.hok,I.len⟩
theorem Inv.unmarked (ok:X.Ok) (I:Inv (X.marked v) pins σ H s):Inv X pins σ H s:=⟨ok,I.os,I.bare,I.base,I.loc,I.cell,I.free,I.freeC,I.pin,I.hok,I.len⟩
theorem MS {M:kZ} {n:aj} {Q:jk->aH->Prop} (I:Inv X pins σ H s) (hN:X.N.Nodup) (hj:X.N[j]?=aa n) (hk:X.env.kindOf n=aa .local)
  (h:∀s',Inv X pins (σ.set j ae) H s'->Q () s'):aG M A (do bindName X.env n .none;unbindBehindTheSuite X.env n pos) Q E s:=by
 obtain⟨m,hn,hl⟩:=id I.loc;have hcls:(X.env.scope.kind==.class || (X.env.scope.kind==.module && X.env.locals != X.env.globals))=aq:=by rw[I.ok.kind];rfl
 have hjσ:j < σ.length:=by rw[I.len];exact(db.mp hj).1
 have cne:=I.cne;refine wpAny_nameGoes_keeps hk hn hcls fun h' v hn' hs=>?_;obtain⟨oL,_,_,hoL,_⟩:=id hn;have tracked:HOk X.prog X.w H h':=fun b ob e=>by
  refine(I.hok b ob e).stay (fun c w' hc q=>(hs.2 c ?_).trans q) (fun _ q=>q) fun _ _ q=>q;rintro rfl;rcases hc with rfl|hc
  .rw[I.free] at e;cases e
  .rw[I.free] at hc;cases hc
 refine h _ ⟨I.ok,I.os,I.bare,⟨fun b o e n hb hx=>?_,fun b o e n hb hx=>?_,I.base.free,fun b o e hx=>?_,I.base.tups,I.base.frzs,I.base.tbls⟩,⟨_,hn',fun i y v' e1 e2 e3=>?_⟩,fun y c e=>?_,I.free,I.freeC,fun p hp=>?_,tracked,by simpa using I.len⟩
 .exact(hs.2 b (qC (qF (qu e) I.ok.above))).trans (I.base.keep b o e n hb hx)
 .obtain⟨sl,e1⟩:=I.base.slot b o e n hb hx;exact⟨sl,(hs.2 b (qC (qF (qu e) I.ok.above))).trans e1⟩
 .obtain⟨o',e1⟩:=I.base.there b o e hx;exact⟨o',(hs.2 b (qC (qF (qu e) I.ok.above))).trans e1⟩
 .by_cases hi:i=j
  .subst hi;rw[ny hjσ] at e2;cases e2
  .rw[qy (eh hi)] at e2;obtain⟨u',r',q⟩:=hl i y v' e1 e2 e3;refine⟨u',r',?_⟩;rcases q with⟨k,e⟩|⟨k,c,e,z⟩
   .refine .inl ⟨k,?_⟩;have:y≠n:=fun e=>hi (wv hN e1 (e▸hj));simp[this,e]
   .exact .inr ⟨k,c,e,z.sameBut hs (cne y c e)⟩
 .obtain⟨w',z⟩:=I.cell y c e;exact⟨w',z.sameBut hs (cne y c e)⟩
 .obtain⟨e,n,ne,nf,d⟩:=I.pin p hp;exact⟨(hs.2 p.1 ne).trans e,n,ne,nf,d⟩
end
variable {tk:Tok}
section
open PySem.W Builtin Builtin.ObjectAttr Builtin.Getset_descriptor
structure ExcK (K:aV) (C:av):Prop where
 cls:∃cd,clsIn K C=aa cd
 ga:findIn K (.ref C) "__getattribute__"=aa (aa (.builtin "BaseException.__getattribute__"))
 noga:findIn K (.ref C) "__getattr__"=aa ae
 lk:findIn K (.ref C) "__class__"=aa (aa .(U))
 gs:specialIn K .(U) "__get__"=aa (aa .(ar))
 takes:takesIn K .(U)=aa al
 mro:mroIn K C (.type "object")=aa al
 base:subIn K (.ref C) (.type "BaseException")=aa al
section
variable {x:av} {M:kZ} {h:Heap}
theorem oj (p:ka x (.ref C) h):Looks M h (zQ (.ref x)) (.ref C):=by obtain⟨o,vs,h1,h2,_⟩:=p;exact h2▸(Ub h1).andThen .now
theorem Li (Z:ExcK K C) (X:K.In h):Looks M h (Vy (.ref x) (.ref C) "__class__") (.bind .(ar) .(U)):=by have L1:=looks_findIn (M:=M) X Z.lk;have L2:Looks M h (Vz (aa .(U))) (aa .(ar)):=looks_specialIn X Z.gs;have L3:=looks_takesIn (M:=M) X Z.takes;exact L1.andThen (L2.andThen ((show Looks M h (VA (aa .(U)) (aa .(ar))) (aa (.builtin "getset_descriptor.__get__",.builtin "object.__class__")) from L3.andThen .now).andThen (Looks.tag .now)))
theorem NC {tp:Value} (Z:ExcK K C) (X:K.In s.heap) (p:ka x (.ref C) s.heap)
  (h:R (.ok (.ret (.ref C))) s):gW .(B) A (.call .(ar) ⟨[.builtin "object.__class__",.ref x,tp],[]⟩) R s:=by
 obtain⟨hh,g,dr,t,os⟩:=s;have L0:=oj (M:=aI prog w) p;have L1:=looks_mroIn (M:=aI prog w) X Z.mro;refine pe KF.slot_gs.plain KF.entry_gs (KF.slot_gs.check _ _ _ _ _ _ _ _ KF.type_class (KF.args_gs _ _ _) ?_);unfold Builtin.«getset_descriptor.__get__» descrGet;rw[dga_obj];refine qx (qA ?_);unfold descrGetter descrCheckInstance descrNameAndClass Ao;simp only[KF.owner_class]
 repeat lk
 refine⟨Ag _ .(j),sO KF.entry_class ?_⟩;unfold Builtin.«object.__class__» shownTypeOf
 repeat lk
 exact h
theorem Mi {Q:Fin->aH->Prop} (Z:ExcK K C) (X:K.In s.heap) (p:ka x (.ref C) s.heap) (h:Q (.done (.ret (.ref C))) s) :
  aG .(B) A (Builtin.«object.__getattribute__» ⟨[.ref x,.str "__class__" tk],[]⟩) Q E s:=by
 obtain⟨hh,g,dr,t,os⟩:=s;have L0:=oj (M:=aI prog w) p;have L1:=Li (M:=aI prog w) (x:=x) Z X;unfold Builtin.«object.__getattribute__»;refine qx (qA ?_);refine qx (qA ?_);refine qx (L0.at (qx (L1.at ?_)));show aG _ _ (bindTo .(ar) .(U) (.ref x) (.ref C)) _ _ _;unfold bindTo;exact qx (qT (kj (NC Z X p (qA h))))
theorem CL {nameV:Value} {Q:jk->aH->Prop} (Z:ExcK K C) (X:K.In s.heap) (p:ka x (.ref C) s.heap) (hq:Q () s):aG M A (Uc "BaseException.__getattribute__" ⟨[.ref x,nameV],[]⟩) Q E s:=by
 obtain⟨hh,g,dr,t,os⟩:=s;have hk:builtinKind "BaseException.__getattribute__"=aa .slot:=by decide +kernel
 have hsplit:splitId "BaseException.__getattribute__"=aa ("BaseException","__getattribute__"):=by decide +kernel
 have L0:=oj (M:=M) p;have L1:Looks M hh (isSubtype (.ref C) (.type "BaseException")) al:=looks_subIn X Z.base;have L2:Looks M hh (Ao (.ref x) (.type "BaseException")) al:=L0.andThen L1;have ha:=F.args_bexc_ga (.ref x) nameV;simp only[Uc,hk,hsplit];refine qx (L2.at ?_)
 repeat (first|exact hq|wp_step)
theorem Nm (Z:ExcK K C) (X:K.In s.heap) (p:ka x (.ref C) s.heap) (h:R (.ok (.ret (.ref C))) s) :
  gW .(B) A (.call (.builtin "BaseException.__getattribute__") ⟨[.ref x,.str "__class__" tk],[]⟩) R s:=
 pe Ap.ga.plain Ud (CL Z X p (Mi Z X p h))
theorem P' {Q:ar Value->aH->Prop} (Z:ExcK K C) (X:K.In s.heap) (p:ka x (.ref C) s.heap) (h:Q (aa (.ref C)) {s with toks:=s.toks+1}):aG .(B) A (Am (.ref x) "__class__") Q E s:=by obtain⟨hh,g,d,t,os⟩:=s;have L0:=oj (M:=aI prog w) p;have L1:=looks_findIn (M:=aI prog w) X Z.ga;have L2:=looks_findIn (M:=aI prog w) X Z.noga;have hb:=Ap.ga.bind (.ref x);unfold Am getAttrBy? Hd;refine qx (Hc (qx (vT (qT (qx (L0.at (qx (L1.at ?_))))))));show aG _ _ (sQ _ _ _ _ _ _) _ _ _;unfold sQ Hf;refine qx (L2.at ?_);refine qx (vT (qT ?_));show aG _ _ (vU _ _ _) _ _ _;unfold vU;rw[hb];refine qx (qA ?_);refine kj (Nm Z X p ?_);exact handed_on rfl (qA h)
theorem B' (Z:ExcK K C):KitX K (.ref x) (.ref C) (ka x (.ref C)) where
 ty:=fun _ _ _ p=>oj p
 it:=fun _ _ X _=>by
  obtain⟨cdD,hcD⟩:=Z.cls;unfold clsIn at hcD;split at hcD
  .rename_i c' d' cd' sl' ho;intro A' Q' E' s' k q;unfold isType loadHead;exact qx (Gf (k _ _ (X _ _ ho)) (qA q))
  .cases hcD
 ne:=fun h tp dd its n sl X htp=>by
  obtain⟨cdD,hcD⟩:=Z.cls;refine vO.mpr fun q=>?_;have e:C=tp:=Ue (jq.mp q);subst e;unfold clsIn at hcD;split at hcD
  .rename_i c' d' cd' sl' ho;have z:=(X _ _ ho).symm.trans htp;cases z
  .cases hcD
 ca:=fun X p k=>P' Z X p k
end
end
section
variable {a i:Expr}
end
section
variable {a:Expr}
end
noncomputable def uC:V->ar Value
 |.ref a=>aa (.ref a)
 |.ty n=>aa (.type n)
 |_=>ae
variable {cv:Value}
theorem Ch {c:V} (r:bC c u) (h:uC c=aa cv):u=cv:=by
 cases c<;>cases h
 .exact r
 .exact r
theorem Fm:∀{xs:ac V} {us its:ac Value},bp xs us->xs.mapM uC=aa its->us=its
 |[],_,_,.nil,h=>by cases h;rfl
 |x::xs,u::us,its,.cons r t,h=>by rw[List.mapM_cons] at h;obtain⟨a,ha,h⟩:=oBd h;obtain⟨b,hb,h⟩:=oBd h;cases h;rw[Ch r ha,Fm t hb]
inductive IsiC (K:aV) (H:Hp) (t:Value):V->ba->Prop where
 |one {c:V} {cv:Value} {b:ba}:uC c=aa cv->lc K t cv=aa b->IsiC K H t c b
 |tup {tp:av} {xs:ac V} {its:ac Value} {b:ba}:H tp=aa (.tup xs)->xs.mapM uC=aa its->Hj K t its=aa b->IsiC K H t (.ref tp) b
noncomputable def Dk (h h':Heap):Prop:=∀(b:ah) (o:Obj),h.objs[b]?=aa o->∃o',h'.objs[b]?=aa o'/\o'.dict=o.dict
theorem Dk.refl (h:Heap):Dk h h:=fun _ o e=>⟨o,e,rfl⟩
theorem Dk.trans {a b c:Heap} (x:Dk a b) (y:Dk b c):Dk a c:=fun i o e=>by obtain⟨o1,e1,d1⟩:=x i o e;obtain⟨o2,e2,d2⟩:=y i o1 e1;exact⟨o2,e2,d2.trans d1⟩
theorem Dk.at {h:Heap} (x:Dk h h') {b:av} {o o':Obj} (e:h.get? b=aa o) (e':h'.get? b=aa o'):o'.dict=o.dict:=by obtain⟨o1,e1,d1⟩:=x b o (Uf.mp e).1;have:=(Uf.mp e').1;rw[e1] at this;cases this;exact d1
theorem Dk.push (h:Heap) (o:Obj):Dk h (h.push o):=fun b u e=>⟨u,by have hb:=(iG.mp e).1;show(h.objs.push o)[b]?=aa u;rw[Array.getElem?_push_lt hb,←e,Array.getElem?_eq_getElem hb],rfl⟩
theorem Dk.upd (h:Heap) (a:av) {f:Obj->Obj} (hf:∀o,(f o).dict=o.dict):Dk h (h.update a f):=fun b u e=>by
 show ∃o',(h.objs.modify a f)[b]?=aa o'/\o'.dict=u.dict;rw[Array.getElem?_modify,e];by_cases q:a=b
 .rw[qY q];exact⟨f u,rfl,hf u⟩
 .rw[qZ q];exact⟨u,rfl,rfl⟩
noncomputable def KD (t:fu α):Prop:=∀(M:kZ) (Γ:PySem.Ctx) (Q:α->dh->aH->Prop) (E:Value->dh->aH->Prop) (p:dh) (s:aH),Hk M Γ t Q E p s->Hk M Γ t (fun a p' s'=>Q a p' s'/\Dk s.heap s'.heap) E p s
section
variable {t:fu α} {f:α->fu β}
theorem fA (a:α):KD (bq a:fu α):=fun _ _ _ _ _ s h=>by rw[Sem.wp_pure'] at h ⊢;exact⟨h,.refl _⟩
theorem jU (x:cM):KD (unsupported x:fu α):=fun M Γ Q E p s h=>by have z:Hk M Γ (Sem.unsupported x:fu α) Q E p s:=h;rw[Sem.wp_unsupported] at z;exact z.elim
theorem dO (h1:KD t) (h2:∀a,KD (f a)):KD (t >>= f):=fun M Γ Q E p s h=>by rw[Sem.wp_bind'] at h ⊢;refine Ug M Γ t (fun a p1 s1 ⟨k,d⟩=>?_) (fun _ _ _ z=>z) p s (h1 M Γ _ _ p s h);exact Ug M Γ (f a) (fun b p2 s2 ⟨q,d2⟩=>⟨q,d.trans d2⟩) (fun _ _ _ z=>z) p1 s1 (h2 a M Γ _ _ p1 s1 k)
theorem Po {c:Prop} [Decidable c] {u v:fu α} (h1:KD u) (h2:KD v):KD (if c then u else v):=by split<;>assumption
theorem ww (a:av):KD (load a):=fun M Γ Q E p s h=>by obtain⟨o,ho,q⟩:=h;exact⟨o,ho,q,.refl _⟩
theorem Cr (a:av) (g:Obj->Obj) (hg:∀o,(g o).dict=o.dict):KD (update a g):=fun M Γ Q E p s h=>by obtain⟨o,q⟩:=h;exact⟨o,q,.upd _ a hg⟩
theorem HY (o:Obj):KD (alloc o):=fun M Γ Q E p s h=>⟨h,.push _ o⟩
theorem xF:KD stack:=fun M Γ Q E p s h=>⟨h,.refl _⟩
theorem QC (g:b7 Value->b7 Value) (o:Obj):(Uh g o).dict=o.dict:=by unfold Uh;split<;>rfl
theorem uS (v:Value) (i:ah):KD (field v i):=by
 unfold field fieldsOf;refine dO ?_ fun a=>?_
 .split
  .exact dO (ww _) fun o=>by split<;>first|exact fA _|exact jU _
  .exact jU _
 .split<;>first|exact fA _|exact jU _
theorem ye (v:Value) (i:ah) (x:Value):KD (Hl v i x):=by
 unfold Hl updateField;split
 .refine dO (ww _) fun o=>?_;split
  .split
   .exact Cr _ _ (QC _)
   .exact jU _
  .exact jU _
 .exact jU _
theorem wj (e:Value) (f:ar av):KD (setFlight e f):=by
 unfold setFlight;refine dO (uS _ _) fun a=>?_;split
 .exact ye _ _ _
 .exact fA _
theorem BC:∀(l:ac cN),KD (readyFrames l)
 |[]=>fA _
 |env::outer=>by
  unfold readyFrames;split
  .refine dO (ww _) fun o=>?_;split
   .exact fA _
   .refine dO ?_ fun b=>dO ?_ fun v=>dO (Cr _ _ fun _=>rfl) fun _=>BC outer
    .unfold behindIsImport;split
     .exact fA _
     .split
      .exact fA _
      .exact dO (uS _ _) fun _=>fA _
    .unfold keptBack;split
     .split
      .exact fA _
      .unfold underTheClaimsCaller;exact dO (dO xF fun _=>fA _) fun _=>fA _
     .exact fA _
  .exact jU _
theorem Nk (env:cN):KD (Hm env):=by
 unfold Hm frameEnvs;refine dO (dO xF fun _=>fA _) fun l=>dO ?_ fun r=>?_
 .unfold frameObject;split
  .exact fA _
  .exact dO (BC _) fun _=>fA _
 .split<;>first|exact fA _|exact jU _
theorem AW (e:Value) (env:cN):KD (GE e env):=by
 unfold GE;split
 .refine dO (uS _ _) fun head=>?_;have fin:∀(f:av),KD (do Hl e 1 (←Ui head (←Hm env) .none (rawInt f) .none (←entryPlaceOf f (head != .none)))):=fun f=>by
   refine dO (Nk _) fun a=>dO ?_ fun pl=>dO ?_ fun b=>ye _ _ _
   .unfold entryPlaceOf;exact dO xF fun _=>by split<;>exact fA _
   .unfold Ui newFields newObj;have z:∀d,KD (newObjAsIs (.type "traceback") d):=fun d=>by unfold newObjAsIs;exact dO (HY _) fun _=>fA _
    exact Po (dO (jU _) fun _=>z _) (z _)
  split
  .refine dO (uS _ _) fun x=>?_;split
   .exact fA _
   .exact dO (ye _ _ _) fun _=>fin _
  .exact fin _
 .exact jU _
theorem J4 (env:cN) (e:Value):KD (leaving env e):=dO (AW _ _) fun _=>wj _ _
theorem KD.any {M:kZ} {Q:α->aH->Prop} (k:KD t) (h:aG M A t Q E s):aG M A t (fun a s'=>Q a s'/\Dk s.heap s'.heap) E s:=
 fun Γ p hΓ=>k M Γ _ _ p s (h Γ p hΓ)
end
variable {fI:av}
section
open PySem.W Builtin Builtin.ObjectAttr
noncomputable def jT:ac Value:=[.type "ValueError",.type "Exception",.type "BaseException",.type "object"]
structure ExC (h:Heap) (C:av):Prop where
 ex:∃nm q N bs bm sn sub ab col dd k0 k1 k2 k3 k5,h.get? C=aa (excClassObj nm q C N bs bm al sn sub ab col dd k0 k1 k2 k3 k5 "ValueError.__new__")/\OwnTail h jT bm
theorem ExC.keeps {h h':Heap} {C:av} (x:ExC h C) (k:∀b o,h.get? b=aa o->h'.get? b=aa o):ExC h' C:=by obtain⟨nm,q,N,bs,bm,sn,sub,ab,col,dd,k0,k1,k2,k3,k5,e,T⟩:=x.ex;exact⟨nm,q,N,bs,bm,sn,sub,ab,col,dd,k0,k1,k2,k3,k5,k _ _ e,T.keeps k⟩
def eQ (C t:av) (od:ar av):Obj:={cls:=.ref C,dict:=od,data:=.fields #[.ref t,.none,.none,.none,.bool aq,.none]}
section
variable {e t:av}
theorem HR {bz:ac Value} {Q:Fin->aH->Prop} (X:K.In s.heap) (c:ExC s.heap C) (hi:findIn K (.ref C) "__init__"=aa (aa (.ref fI))) (hf:typeIn K (.ref fI)=aa (.type "function"))
  (hq:∀h' e,Uj s.heap h' e (.ref C) bz->gW .(B) A (.call (.ref fI) ⟨.ref e::bz,[]⟩) (fun r s'=>r=.ok (.ret .none)/\Q (.done (.ret (.ref e))) s') {s with heap:=h'}) (hrest:bz.length<=aL) :
  aG .(B) A (Builtin.«type.__call__» ⟨.ref C::bz,[]⟩) Q E s:=by
 have FB:=Hn;obtain⟨nm,q,N,bs,bm,sn,sub,ab,col,dd,k0,k1,k2,k3,k5,hC,T⟩:=c.ex;obtain⟨h,g,d,tk,os⟩:=s;dsimp only at hC T X hq
 repeat (first|with_reducible refine vW hC ?_|with_reducible refine wpAny_madeBy_exc hC ?_|wp_step)
 refine codeAny_call_builtin_code (Ag _ FB.quiet) (wpAny_check_new_subT FB T hC ?_);refine codeAny_exc_new_subT FB T hC ?_ hrest;show aG _ _ _ _ _ _;have up:∀b o,h.get? b=aa o->((h.push {cls:=.type "tuple",data:=.seq bz.toArray}).push (eQ C h.objs.size ae)).get? b=aa o:=fun b o z=>qt _ (qt _ z);have hC1:=up _ _ hC;have X1:K.In ((h.push {cls:=.type "tuple",data:=.seq bz.toArray}).push (eQ C h.objs.size ae)):=X.keeps up;have hE:((h.push {cls:=.type "tuple",data:=.seq bz.toArray}).push (eQ C h.objs.size ae)).get? (h.objs.size+1)=aa (eQ C h.objs.size ae):=Ho (by simp only[nA]) rfl;have hcC:(cj C::bm).contains (.ref C)=al:=by simp
 unfold Ao;unfold eQ at hE hC1 X1 up
 repeat (first|with_reducible refine vW hE ?_|(with_reducible refine Uk hC1 ?_;rw[hcC])|wp_step)
 show aG _ _ (vy (.ref C) _) _ _ _;refine(looks_findIn (M:=aI prog w) X1 hi).at ?_;refine qT (qx ((bind_fn (M:=aI prog w) X1 (.ref (h.objs.size+1)) hf).at ?_));refine qx (kj (lf (hq _ (h.objs.size+1) ⟨up,F3 (sF _),h.objs.size,hE,F3 (qv _),?_⟩) fun r s' z=>?_))
 .exact qt _ (Ho rfl rfl)
 .obtain⟨rfl,z⟩:=z;show aG _ _ _ _ _ _
  wp_walk
  exact z
theorem Ki {bz:ac Value} (X:K.In s.heap) (c:ExC s.heap C) (hi:findIn K (.ref C) "__init__"=aa (aa (.ref fI))) (hf:typeIn K (.ref fI)=aa (.type "function"))
  (hq:∀h' e,Uj s.heap h' e (.ref C) bz->gW .(B) (A.under (.builtin "type.__call__" ⟨.ref C::bz,[]⟩)) (.call (.ref fI) ⟨.ref e::bz,[]⟩) (fun r s'=>r=.ok (.ret .none)/\Q (.ref e) s') {s with heap:=h'}) (hrest:bz.length<=aL) :
  aG .(B) A (call (.ref C) bz) Q E s:=by
 obtain⟨nm,q,N,bs,bm,sn,sub,ab,col,dd,k0,k1,k2,k3,k5,hC,T⟩:=id c.ex;obtain⟨h,g,d,tk,os⟩:=s;have f1:=tc_lookup;have f2:=tc_bind (.ref C);have hT:(⟨h,g,d,tk,os⟩:aH).TypeIs (.ref C) "type":=⟨_,hC,rfl⟩;refine kj (TW ?_);show aG _ _ (callAny (.ref C) _) _ _ _
 repeat (any_goals (first|assumption|with_reducible refine vW hC ?_|wp_step))
 refine⟨rfl,codeAny_call_builtin_at (Ag _ .(j)) entry_typeCall (wpAny_check_type_call_sub hC (HR X c hi hf (fun h' e hm=>?_) hrest))⟩;exact hq h' e hm
end
end
section
open PySem.W Builtin Builtin.ObjectAttr
section
variable {e t:av} {v:Value}
theorem KY (c:ExC s.heap C) (he:s.heap.get? e=aa (eQ C t ae))
  (hq:∀h' t',(∀b o,b≠e->s.heap.get? b=aa o->h'.get? b=aa o)->h'.get? e=aa (eQ C t' ae)->Q .none {s with heap:=h'}) :
  aG .(B) A (call (.builtin "ValueError.__init__") [.ref e,v]) Q E s:=by
 have FB:=Hn;obtain⟨nm,q,N,bs,bm,sn,sub,ab,col,dd,k0,k1,k2,k3,k5,hC,T⟩:=c.ex;obtain⟨h,g,d,tk,os⟩:=s;dsimp only at hC T he hq;have hE:=he;unfold eQ at hE;refine kj (pe FB.init.plain FB.initEntry (wpAny_check_init_subT FB T hC hE rfl ?_))
 wp_walk
 refine hq _ h.objs.size (fun b o hb z=>?_) ?_
 .rw[Gv _ _ (eh hb)];exact qt _ z
 .rw[zP _ (qt _ hE) rfl];rfl
theorem LZ {Q:jk->aH->Prop} {cd:Aq} {bm:ac Value} (X:K.In s.heap) (he:s.heap.get? e=aa (eQ C t ae)) (hs:findIn K (.ref C) "__setattr__"=aa .(aP))
  (hc:clsIn K C=aa cd) (hm:cd.mro=.ref C::bm) (hb:∀self,refuseLoop self "__setattr__" bm=bq ()) (ho:mroIn K C (.type "object")=aa al) (hdct:cd.hasDict=al) (hn:findIn K (.ref C) name=aa ae)
  (hq:∀h' dx tk,s.heap.objs.size<=dx->(∀b o,b≠e->s.heap.get? b=aa o->h'.get? b=aa o)->h'.get? e=aa (eQ C t (aa dx))->h'.Ns1 dx (fun y=>if y=name then aa v else ae)->Q () {s with heap:=h',toks:=tk}) :
  aG .(B) A (setAttr (.ref e) name v) Q E s:=by
 have SF:=Ul;have I:InstAt s.heap e (eQ C t ae) C ae:=⟨he,rfl,rfl,iE⟩;refine set_plain X I hs ?_;have he':({s with toks:=s.toks+1}:aH).heap.get? e=aa (eQ C t ae):=he;generalize hs':({s with toks:=s.toks+1}:aH)=s1;have e1:s1.heap=s.heap:=by rw[←hs']
 have X1:K.In s1.heap:=by rw[e1];exact X
 have I1:InstAt s1.heap e (eQ C t ae) C ae:=by rw[e1];exact I
 have hq1:∀h' dx tk,s1.heap.objs.size<=dx->(∀b o,b≠e->s1.heap.get? b=aa o->h'.get? b=aa o)->h'.get? e=aa (eQ C t (aa dx))->h'.Ns1 dx (fun y=>if y=name then aa v else ae)->Q () {s1 with heap:=h',toks:=tk}:=by subst hs';exact hq
 clear hq he' hs' e1 X I he;have sub:Looks .(B) s1.heap (Ao (.ref e) (.type "object")) al:=I1.type.andThen (looks_mroIn X1 ho);refine pe SF.slot.plain SF.entry (@check_slot .(B) _ _ s1 "object.__setattr__" "object" "__setattr__" (.ref e) [.str name s.toks,v] [] _ SF.kind SF.split sub (SF.args (.ref e) (.str name s.toks) v) ?_);have L:Looks .(B) s1.heap (mroOf (.ref C)) cd.mro:=(looks_clsIn X1 hc).andThen .now;rw[osa_eq,refuse_eq];refine qx (qx (I1.type.here (qx (L.here ?_))));rw[hm,Um,hb];refine qA (qx (I1.type.here (qx ((looks_findIn X1 hn).here (qx (qA ?_))))));have hx:=I1.at_;unfold eQ at hx;obtain⟨h,g,d,tk,os⟩:=s1;dsimp only at hx hq1 X1;show aG _ _ (Uo (.ref e) (.ref C) _ name v _) _ _ _;unfold Uo ownStreamTells ownDictForStores instanceDict;refine qx (qA (qx (qx (Gf hx (qx (SU (s:=⟨h,g,d,tk,os⟩) (looks_clsIn X1 hc) ?_))))));rw[hdct];have hx1:(h.push {cls:=.type "dict",data:=.dict #[]}).get? e=aa _:=qt _ hx;have hxs:e≠h.objs.size:=qC (qu hx);rw[qZ (by simp)];refine qx (wpAny_alloc' ?_);refine qx (wpAny_update' hx1 ?_);refine qA ?_;have hgd:((h.push {cls:=.type "dict",data:=.dict #[]}).update e fun o=>{o with dict:=aa h.objs.size}).get? h.objs.size=aa {cls:=.type "dict",data:=.dict #[]} :=
  (Up _ _ _ _ hxs.symm).trans (Ho rfl rfl)
 have hnd:((h.push {cls:=.type "dict",data:=.dict #[]}).update e fun o=>{o with dict:=aa h.objs.size}).Ns h.objs.size (fun _=>ae):=⟨_,#[],_,hgd,rfl,fun e he=>bB he (by simp),fun _=>rfl⟩;show aG _ _ (storeInDict h.objs.size _ name v) _ _ _;unfold storeInDict newKeyGuard;refine qx (qA (qx (wpAny_nsSet1 (SY hnd) fun h' hn' hs=>?_)));obtain⟨oD,esD,epD,hoD,hdD,hcD⟩:=hn'.count (SV name v Within.nil);refine qx (SW hoD (by rw[hdD];exact SX (qM hcD (by rw[qh,qk,eI];omega))) ?_);refine qA (hq1 h' h.objs.size _ (qv _) (fun b ob hbx z=>?_) ?_ hn')
 .exact(hs.2 b (qC (qu z))).trans ((Up _ _ _ _ hbx).trans (qt _ z))
 .exact(hs.2 e hxs).trans (zP _ hx1 rfl)
end
end
section
open PySem.W Builtin Builtin.ObjectAttr Builtin.Getset_descriptor
noncomputable def c7 (a C dx:av) (h:Heap):Prop:=∃o vs,h.get? a=aa o/\o.cls=.ref C/\o.data=.fields vs/\o.dict=aa dx
theorem c7.exc {h:Heap} (x:c7 a C dx h):ka a (.ref C) h:=by obtain⟨o,vs,e,c,d,_⟩:=x;exact⟨o,vs,e,c,d⟩
theorem c7.stay (x:c7 a C dx h1) (k:∀o,h1.get? a=aa o->h2.get? a=aa o):c7 a C dx h2:=by obtain⟨o,vs,e,c⟩:=x;exact⟨o,vs,k _ e,c⟩
section
variable {x:av} {v:Value}
theorem IR (Z:ExcK K C) (X:K.In s.heap) (p:c7 x C dx s.heap) (hn:s.heap.Ns1 dx mA) (hv:mA name=aa v) (hh:hasDictIn K C=al) (hf:findIn K (.ref C) name=aa ae) (hv':handedIn v=al)
  (h:Q v {s with toks:=s.toks+1}):aG .(B) A (vn (.ref x) name expr) Q E s:=by
 obtain⟨od,hod,hlk⟩:=Fy hn;have p1:=p.exc;obtain⟨ox,vs,ho,hc,hdt,hdx⟩:=p;have I:InstAt s.heap x ox C (aa od):=⟨ho,hc,by unfold notCls;rw[hdt],by rw[hdx];exact hod⟩;have L2:=looks_findIn (M:=aI prog w) X Z.noga;have hb:=Ap.ga.bind (.ref x);have hfo:findObj K C (aa od) name=aa (.value v):=findObj_own hh hf rfl (by rw[hlk,hv]);obtain⟨hp,g,d,t,os⟩:=s;dsimp only at X I p1 h hn;have L0:=oj (M:=aI prog w) p1;have L1:=looks_findIn (M:=aI prog w) X Z.ga;have LF:=looks_find (M:=aI prog w) X I hfo;unfold vn Hd;refine qx (Hc (qT (qx (L0.at (qx (L1.at ?_))))));show aG _ _ (sQ _ _ _ _ _ _) _ _ _;unfold sQ Hf;refine qx (L2.at ?_);refine qx (vT (qT ?_));unfold callGetattribute;rw[show(expr && onTheHeap (Value.builtin "BaseException.__getattribute__"))=aq from Gz _,qZ .(c)];unfold vU;rw[hb];refine qx (qA ?_);refine kj (pe Ap.ga.plain Ud (CL Z X p1 ?_));unfold Builtin.«object.__getattribute__»;refine qx (qA ?_);refine qx (qA ?_);refine qx (L0.at (qx (LF.at ?_)));exact qA (handed_on hv' h)
end
end
noncomputable def ExN (a C:av) (h:Heap):Prop:=∃t,h.get? a=aa (eQ C t ae)
noncomputable def ExM (a C dx:av) (h:Heap):Prop:=∃t,h.get? a=aa (eQ C t (aa dx))
theorem ExN.stay (x:ExN a C h1) (k:∀o,h1.get? a=aa o->h2.get? a=aa o):ExN a C h2:=let ⟨t,e⟩:=x;⟨t,k _ e⟩
theorem ExM.stay (x:ExM a C dx h1) (k:∀o,h1.get? a=aa o->h2.get? a=aa o):ExM a C dx h2:=let ⟨t,e⟩:=x;⟨t,k _ e⟩
structure XCls (K:aV) (base:Heap) (C CS fI:av) (f:aj):Prop where
 cls:ExC base C
 sa:cO K (.ref C) "__setattr__"=aa .(aP)
 cd:∃cd,Uq K C=aa cd/\cd.mro=.ref C::.ref CS::jT/\cd.hasDict=al
 ob:zE K C (.type "object")=aa al
 no:cO K (.ref C) f=aa ae
 init:cO K (.ref C) "__init__"=aa (aa (.ref fI))
 fn:oX K (.ref fI)=al
 kp:gI K (.ref C)=al
variable {CS:av} {np:dh} {cx:aj}
section
variable {f:aj}
theorem Inv.untracked (I:Inv X pins σ H s) (hn:s.heap.get? a=ae):H a=ae:=by
 cases q:H a with
 |none=>rfl
 |some u=>
  exfalso;obtain⟨ob,hob⟩:∃ob,s.heap.get? a=aa ob:=by
   have z:=I.hok a u q;cases u with
   |lst xs=>obtain⟨_,_,_,_,e⟩:=z;exact⟨_,e⟩
   |tup xs=>obtain⟨_,_,_,⟨o,e,_⟩⟩:=z;exact⟨_,e⟩
   |dK kvs=>obtain⟨_,_,_,_,o,_,_,e,_⟩:=z;exact⟨_,e⟩
   |dT kvs=>obtain⟨_,_,_,_,o,_,_,e,_⟩:=z;exact⟨_,e⟩
   |set S n=>obtain⟨o,_,_,_,e,_⟩:=z;exact⟨_,e⟩
   |ins C dx fs=>obtain⟨_,_,_,e,_⟩:=z;exact⟨_,e⟩
   |own y=>obtain⟨_,e⟩:=z;exact⟨_,e⟩
   |xd fs=>obtain⟨_,⟨_,_,_,e,_⟩,_⟩:=z;exact⟨_,e⟩
   |frz ob u=>obtain⟨e,_⟩:=z;exact⟨_,e⟩
   |tbl ps=>exact⟨_,z⟩
   |ext φ=>obtain⟨_,⟨_,e⟩,_⟩:=z;exact⟨_,e⟩
  rw[hn] at hob;cases hob
theorem Inv.new1 {o:HO} (I:Inv X pins σ H s) (k:∀b u,s.heap.get? b=aa u->h'.get? b=aa u) (hn:s.heap.get? a=ae) (new:cI X.prog X.w (upd H a o) h' a o):Inv X pins σ (upd H a o) {s with heap:=h',toks:=t'}:=by
 have ha:=I.untracked hn;have ne:∀b u,H b=aa u->b≠a:=fun b u q=>ce q ha;refine I.un ⟨fun b u q _ _ _=>k b u q,fun b u q _ _ _=>⟨u.slots,k b u q⟩,fun b u q n _=>?_,fun b u q _=>⟨u,k b u q⟩,fun b xs q=>?_,fun b u v q=>?_,fun b ps q=>?_⟩ fun b u q=>?_
 .rw[aO (fun z=>by subst z;rw[hn] at q;cases q)];exact n
 .rw[aO (ne b _ q)];exact q
 .rw[aO (ne b _ q)];exact q
 .exact⟨#[],by rw[aO (ne b _ q),Ur];exact q⟩
 .by_cases e:b=a
  .subst e;rw[bK] at q;cases q;exact new
  .rw[aO e] at q;exact(I.hok b u q).stay (fun c v _ r=>k c v r) (fun c z=>by rw[aO (ne c _ z)];exact z) fun c xs z=>by rw[aO (ne c _ z)];exact z
theorem Inv.forget {φ:Heap->Prop} (I:Inv X pins σ (upd H a (.ext φ)) s) (hn:H a=ae):Inv X pins σ H s:=by
 have sub:∀b,upd H a (.ext φ) b=ae->H b=ae:=fun b q=>by
  by_cases e:b=a
  .subst e;exact hn
  .rw[aO e] at q;exact q
 have bk:∀b u,(∀ψ,u≠.ext ψ)->upd H a (.ext φ) b=aa u->H b=aa u:=fun b u nu q=>by
  by_cases e:b=a
  .subst e;rw[bK] at q;cases q;exact bB rfl (nu φ)
  .rw[aO e] at q;exact q
 have up:∀b u,H b=aa u->upd H a (.ext φ) b=aa u:=fun b u q=>by rw[aO (ce q hn)];exact q
 refine⟨I.ok,I.os,I.bare,⟨I.base.keep,I.base.slot,fun b o q n x=>sub b (I.base.free b o q n x),I.base.there,fun b xs q=>bk b _ .(ae) (I.base.tups b xs q),fun b o u q=>bk b _ .(ae) (I.base.frzs b o u q),fun b ps q=>?_⟩,I.loc,I.cell,sub _ I.free,fun x c q=>sub _ (I.freeC x c q),fun p hp=>?_,fun b u q=>?_,I.len⟩
 .obtain⟨m,z⟩:=I.base.tbls b ps q;exact⟨m,bk b _ .(ae) z⟩
 .obtain⟨h1,h2,h3⟩:=I.pin p hp;exact⟨h1,sub _ h2,h3⟩
 .exact(I.hok b u (up b u q)).stay (fun c v _ r=>r) (fun c z=>bk c _ .(ae) z) fun c xs z=>bk c _ .(ae) z
variable {ea:Expr} {t:TA}
def PF (base:Heap) (t:TA):TE:=fun σ H Q=>t σ H fun vs H1=>∃a y C,vs=[.ref a,y]/\H1 a=aa (.ext (ExN a C))/\ExC base C/\Q .non (upd H1 a (.ext (ExN a C)))
theorem On (hg:Gl X cx) (hm:X.mg cx=aa (.ref CS)) (hsp:vq X.K (.ref CS) "__getattribute__"=aa (aa (.builtin "type.__getattribute__"))) (hr:Hq X.K CS (.type "type")=al)
  (hfc:Hr X.K (.ref CS) (.type "type") "__init__"=aa (.val (.builtin "ValueError.__init__"))) (ha:PA X (e::es) t)
  (hdb:(cx==("__debug__":aj))=aq:=by decide) (he:bc (e::es) X.env=(aq,eval e X.env)::bc es X.env:=by rfl) (hpl:(cW pos (bc (e::es) X.env)).any (·.1)=aq:=by rfl)
  (ht:eval (.Call (.Attribute (.Name cx p) "__init__" apos) (e::es) [] pos) X.env=(do
   let ov ←eval (.Name cx p) X.env
   oT apos.atName
   let (f,first) ←ij [ov] (vo ov "__init__" pl)
   Gi pos f first (cW pos (bc (e::es) X.env)) (l' pos (ma [] X.env))):=by rfl) :
  PE X (.Call (.Attribute (.Name cx p) "__init__" apos) (e::es) [] pos) (PF X.base t):=by
 intro pins s σ H Q I h;refine S5 (pl:=pl) (nk I hg hm ?_ hdb) ht;refine PySem.W.method_cls I.kIn hsp (PySem.W.cls_value I.kIn hr hfc rfl ?_);refine Tj hpl ?_;rw[he];refine Tk ?_;have key:=ha pos pins {s with toks:=s.toks+1} σ H _ (I.tok _) h;rw[he] at key;refine thn key fun us s1 ⟨vs,H1,I1,r,a,y,C,ev,hH,c,q⟩=>?_;subst ev;obtain⟨u,w',rfl,r1,r2⟩:=n8 r;obtain rfl:u=cj a:=r1;obtain⟨⟨t0,he0⟩,_⟩:=(show cI X.prog X.w H1 s1.heap a (.ext (ExN a C)) from I1.hok a _ hH);refine KY (c.keeps I1.bk) he0 fun h' t' kp he'=>⟨.non,_,?_,rfl,q⟩;exact I1.write (x:=a) (e:=a) (t':=s1.toks) (by rw[hH];exact iE) .(aq) kp ⟨_,he'⟩ ⟨⟨t',he'⟩,⟨_,he'⟩,fun h1 h2 z k=>z.stay k⟩
def sXs (K:aV) (base:Heap) (CS fI:av) (ta tv:TE) (f:aj):TS:=fun D σ H=>tv σ H fun y H1=>ta σ H1 fun x H2=>∃a C,x=.ref a/\H2 a=aa (.ext (ExN a C))/\XCls K base C CS fI f /\
 ∀dx,H2 dx=ae->dx≠a->D.nx σ (upd (upd H2 dx (.xd [(f,y)])) a (.ext (ExM a C dx)))
theorem RL (self:Value):refuseLoop self "__setattr__" (.ref CS::jT)=bq ():=by rw[Um];exact Ul.passes self
theorem Lu (ha:PE X o ta) (hv:PE X value tv) (hs:e8 value (aa (.Attribute o f pos')) pos.line X.env=bq aq:=by rfl):PS X (.Assign [.Attribute o f pos'] value pos) (sXs X.K X.base CS fI ta tv f):=by
 intro pins s σ H D I h;refine SZ (thn (hv pins s σ H _ I h) fun u s1 ⟨y,H1,I1,ry,q⟩=>thn (ha pins s1 σ H1 _ I1 q) fun ov s2 ⟨x,H2,I2,rx,a,C,ex,hH,Z,q2⟩=>?_) hs;subst ex;obtain rfl:ov=cj a:=rx;obtain⟨⟨t0,he0⟩,_⟩:=(show cI X.prog X.w H2 s2.heap a (.ext (ExN a C)) from I2.hok a _ hH);obtain⟨cd,c1,c2,c3⟩:=Z.cd;refine LZ I2.kIn he0 Z.sa c1 c2 (fun self=>RL self) Z.ob c3 Z.no fun h' dx tk hsz kp he' hns=>?_;have hdn:H2 dx=ae:=I2.hok.fresh hsz;have hda:dx≠a:=fun z=>by rw[←z,hdn] at hH;cases hH
 refine⟨σ,_,?_,q2 dx hdn hda⟩;have nea:∀b,H2 b=ae->b≠a:=fun b q z=>by rw[z,hH] at q;cases q
 have bk:∀b u,(∀φ,u≠.ext φ)->H2 b=aa u->upd (upd H2 dx (.xd [(f,y)])) a (.ext (ExM a C dx)) b=aa u:=fun b u nu q=>by
  have h1:b≠a:=fun z=>by rw[z,hH] at q;cases q;exact nu _ rfl
  rw[aO h1,aO (ce q hdn)];exact q
 refine I2.un (t':=tk) ⟨fun b u q n _ _=>kp b u (nea b n) q,fun b u q n _ _=>⟨u.slots,kp b u (nea b n) q⟩,fun b u q n _=>?_,fun b u q _=>?_,fun b xs q=>bk b _ .(ae) q,fun b u v q=>bk b _ .(ae) q,fun b ps q=>⟨#[],by rw[Ur];exact bk b _ .(ae) q⟩⟩ fun b u q=>?_
 .rw[aO (nea b n),aO (fun z=>bB (qu q) (by rw[z];exact zX.mpr hsz))];exact n
 .by_cases z:b=a
  .subst z;exact⟨_,he'⟩
  .exact⟨u,kp b u z q⟩
 .by_cases e1:b=a
  .subst e1;rw[bK] at q;cases q;exact⟨⟨t0,he'⟩,⟨_,he'⟩,fun h1 h2 z k=>z.stay k⟩
  .rw[aO e1] at q;by_cases e2:b=dx
   .subst e2;rw[bK] at q;cases q;refine⟨_,hns,fun g=>?_⟩;by_cases hgf:g=f
    .subst hgf;simpa[dQ,fJ] using ry
    .have hb:(g==f)=aq:=by simpa using hgf
     simp[dQ,hb,hgf,fJ]
   .rw[aO e2] at q;refine(I2.hok b u q).stay (fun c v hc r=>kp c v ?_ r) (fun c z=>bk c _ .(ae) z) fun c xs z=>bk c _ .(ae) z;rcases hc with rfl|hc
    .exact e1
    .exact fun z=>by rw[z,hH] at hc;cases hc
end
noncomputable def del (G:Hp) (a:av):Hp:=fun b=>if b=a then ae else G b
theorem lq {b:av} (h:b≠a):del G a b=G b:=by unfold del;rw[qZ h]
theorem xT :del G a a=ae:=by unfold del;rw[qY rfl]
theorem N4 {b:av} {u v:HO} :upd (upd H b u) a v=upd (upd (del H a) b u) a v:=by
 funext c
 by_cases h:c=a
 .rw[h,bK,bK]
 .rw[aO h,aO h];by_cases h2:c=b
  .rw[h2,bK,bK]
  .rw[aO h2,aO h2,lq h]
theorem Ie {b:av} {o u v:HO} :upd (upd (upd H a o) b u) a v=upd (upd H b u) a v:=by
 funext c
 by_cases h:c=a
 .rw[h,bK,bK]
 .rw[aO h,aO h];by_cases h2:c=b
  .rw[h2,bK,bK]
  .rw[aO h2,aO h2,aO h]
section
variable {M:kZ}
theorem La {x:fu Value} {Q:Flow->aH->Prop} (hh:A.handled=ae)
  (h:aG M A x (fun v s₁=>∃e t od C,v=.ref e/\ExC s₁.heap C/\s₁.heap.get? e=aa (eQ C t od)/\E (.ref e) s₁) E s):aG M A (raiseStmt env (aa x) ae) Q E s:=by
 unfold raiseStmt;refine qx (e7 h (fun v s₁ h₁=>?_) fun _ _ x=>x);obtain⟨e,t,od,C,rfl,c,he,hE⟩:=h₁;obtain⟨nm,q,N,bs,bm,sn,sub,ab,col,dd,k0,k1,k2,k3,k5,hC,T⟩:=c.ex;have hcB:(cj C::bm).contains (.type "BaseException")=al:=by rw[List.contains_cons,T.hasType Hn.hasBase,Us]
 obtain⟨hp,g,d,tk,os⟩:=s₁;dsimp only at hC he;unfold eQ at he
 repeat (first|with_reducible refine vW he ?_|with_reducible refine vW hC ?_|(with_reducible refine Uk hC ?_;rw[hcB])|wp_step)
 exact wpAny_raiseNew_none hh hE
end
theorem LV {Q:Flow->aH->Prop} (hh:A.handled=ae)
  (h:aG .(B) A (eval e env) (fun v s₁=>∃a t od C,v=.ref a/\ExC s₁.heap C/\s₁.heap.get? a=aa (eQ C t od)/\E (.ref a) s₁) E s) :
  aG .(B) A (exec (.Raise (aa e) ae pos) env) Q E s:=by
 rw[arm_exec_Raise];refine qx (sy (La hh (qx (e7 h (fun v s₃ h₃=>qx (sy (qA h₃))) fun _ _ x=>x))))
def CXD (P:ef) (w:cT) (base:Heap):CXT:=fun outer H s E e s'=>
 ∃a C a0 B H' dx,e=.ref a/\s'.os=s.os/\kY s'.gens/\Fly P w base outer H H' s B a (.ref C) a0 s'.heap/\c7 a C dx s'.heap/\E (.ref C) (aa dx) H'
section
variable {f:av} {E:XK}
 {pins:ac (av×Obj)} {σ:St} {H:Hp} {s:aH} {e C t dx:av}
theorem Jn (I:Inv .(C) pins σ H s) (he:s.heap.get? e=aa (eQ C t (aa dx))) (h0:s₀.heap.get? e=ae) (hn:H e=ae) (hE:E (.ref C) (aa dx) H) :
  .(C).xe (.ref e) s:=by
 have hst:=I.stack;have hin:∀env∈(cX qual scope s₀.heap.objs.size f cd::outer),∀b,env.frame=aa b->b∈e::(cX qual scope s₀.heap.objs.size f cd::outer).filterMap (·.frame):=fun env he b hb=>qg _ (oV.mpr ⟨env,he,hb⟩);have hfs:∀b,b∈frs outer->b∈frs (cX qual scope s₀.heap.objs.size f cd::outer):=fun b hb=>by obtain⟨env,he,hf⟩:=oV.mp hb;exact oV.mpr ⟨env,qg _ he,hf⟩
 have hmem:∀b,b∈frs (cX qual scope s₀.heap.objs.size f cd::outer)->b=s₀.heap.objs.size\/b∈frs outer:=fun b hb=>cy.mp (I.stkSub b hb);have old:∀b o,s₀.heap.get? b=aa o->b∉frs outer->b∉e::frs (cX qual scope s₀.heap.objs.size f cd::outer):=fun b o q nb hb=>by
  rcases cy.mp hb with z|hb
  .rw[z,h0] at q;cases q
  .rcases hmem b hb with z|z
   .exact bB (qu q) (by rw[z];exact oQ _)
   .exact nb z
 have trk:∀b u,H b=aa u->b∉e::frs (cX qual scope s₀.heap.objs.size f cd::outer):=fun b u q hb=>by
  rcases cy.mp hb with z|hb
  .rw[z,hn] at q;cases q
  .rw[I.stkFree b hb] at q;cases q
 have noex:∀b:av,b∉.(C).ex:=fun b z=>bB (show b∈([]:ac av) from z) (by simp);have hen:=SE (h:=s.heap) (b:=e) (e::frs (cX qual scope s₀.heap.objs.size f cd::outer)) qf;have bmm:∀b o,base.get? b=aa o->b∉e::frs (cX qual scope s₀.heap.objs.size f cd::outer):=fun b o q hm=>by
  rcases cy.mp hm with z|hm
  .have z2:s₀.heap.get? b=aa o:=(I.ok.bs b o q).1;rw[z,h0] at z2;cases z2
  .have z:base.get? b=ae:=(hst.mem hm).1;rw[z] at q;cases q
 have he':=he;unfold eQ at he';have go:=wpAny_leaving_firstW (M:=aI P w) (A:=A.deeper (cX qual scope s₀.heap.objs.size f cd)) (E:=fun e' s''=>CXD P w base outer H₀ s₀ E e' s'') (base:=zu s.heap (e::frs (cX qual scope s₀.heap.objs.size f cd::outer))) (a0:=.ref t) (outer:=outer) (e:=e)
  I.ok.frames (PySem.W.funFrames_hide hst hin) rfl he' (fun b o q=>SD _ q) hen rfl rfl rfl
  (Q:=fun _ s''=>Heap.LeftW (zu s.heap (e::frs (cX qual scope s₀.heap.objs.size f cd::outer))) (cX qual scope s₀.heap.objs.size f cd::outer) e (.ref C) (.ref t) s.heap s''.heap/\s''.os=s.os/\s''.gens=s.gens) fun h' hL=>⟨hL,rfl,rfl⟩
 refine e7 ((J4 _ _).any go) (fun _ s2 z=>?_) fun _ _ z=>z;obtain⟨⟨⟨k1,⟨_,_,k2⟩,k3,k4⟩,zo,zg⟩,dk⟩:=z;have fly:vV (zu s.heap (e::frs (cX qual scope s₀.heap.objs.size f cd::outer))) outer e (.ref C) (.ref t) s2.heap:=⟨k1,hen,k2,k3⟩;obtain⟨oe,vs,g1,g2,g3,g4⟩:=fly.first;refine⟨e,C,.ref t,_,H,dx,rfl,zo.trans I.os,by rw[zg];exact I.bare,⟨fun b o q=>?_,fun b o q n hb=>?_,fun b o q n hb=>?_,fun b o q hb=>?_,fun b o q n=>I.base.free b o q n (noex b),fun b o q hb=>?_,fun b hb=>I.ok.frf b hb,I.base.tups,I.base.frzs,I.base.tbls,?_,fly,hn⟩,⟨oe,vs,g1,g2,g3,(dk.at he g1).trans rfl⟩,hE⟩
 .exact ve _ (I.bk b o q) (bmm b o q)
 .exact ve _ (I.base.keep b o q n hb (noex b)) (old b o q hb)
 .obtain⟨sl,e1⟩:=I.base.slot b o q n hb (noex b);obtain⟨_,o2,e2,hnf⟩:=hst.mem (hfs b hb);rw[e1] at e2;cases e2;obtain⟨sl',e3⟩:=k4 b _ e1 hnf;exact⟨sl',e3⟩
 .obtain⟨_,o2,e2,hnf⟩:=I.ok.funs.mem hb;have z:s₀.heap.get? b=aa o2:=e2;rw[q] at z;cases z;exact hnf
 .obtain⟨o',e1⟩:=I.base.there b o q (noex b);exact⟨o',ve _ e1 (old b o q hb)⟩
 .intro b u q;refine(I.hok b u q).stay (fun c v hc r=>ve _ r ?_) (fun _ z=>z) fun _ _ z=>z;rcases hc with rfl|hc
  .exact trk c u q
  .exact trk c _ hc
end
section
variable {f:av} {E:XK}
 {R:aj->Hp->Prop} {x fl:aj} {np cpos pos:dh} {e₀:Expr} {fr:FA} {k j:ah}
end
section
variable {e:av} {cls:Value} {h:Heap}
theorem Fly.unD (F:Fly P w base outer H H' s B e cls a0 h):Un (frs outer) [] H (upd H' e (.ext (c7 e C dx))) s.heap h:=by
 have u:=F.un;have ne:∀b u,H' b=aa u->b≠e:=fun b u q z=>by subst z;rw[F.new] at q;cases q
 refine⟨u.keep,u.slot,fun b o q n hx=>?_,u.there,fun b xs q=>?_,fun b o xs q=>?_,fun b ps q=>?_⟩
 .rw[aO (fun z=>by subst z;rw[F.fresh] at q;cases q)];exact u.free b o q n hx
 .have z:=u.tups b xs q;rw[aO (ne b _ z)];exact z
 .have z:=u.frzs b o xs q;rw[aO (ne b _ z)];exact z
 .obtain⟨m,z⟩:=u.tbls b ps q;exact⟨m,by rw[aO (ne b _ z)];exact z⟩
theorem Fly.hkD (F:Fly P w base outer H H' s B e cls a0 h) (x:c7 e C dx h):HOk P w (upd H' e (.ext (c7 e C dx))) h:=by
 have ne:∀b u,H' b=aa u->b≠e:=fun b u q z=>by subst z;rw[F.new] at q;cases q
 intro b u q;by_cases hb:b=e
 .subst hb;rw[bK] at q;cases q;obtain⟨o,vs,k1,_⟩:=id x;exact⟨x,⟨o,k1⟩,fun h1 h2 p k=>p.stay k⟩
 .rw[aO hb] at q;exact(F.hk b u q).stay (fun c v _ r=>r) (fun c z=>by rw[aO (ne c _ z)];exact z) fun c xs z=>by rw[aO (ne c _ z)];exact z
theorem c7.dk (x:c7 a C dx h) (y:ka a (.ref C) h') (k:Dk h h'):c7 a C dx h':=by obtain⟨o,vs,e1,e2,e3,e4⟩:=x;obtain⟨o',vs',g1,g2,g3⟩:=y;exact⟨o',vs',g1,g2,g3,(k.at e1 g1).trans e4⟩
end
variable {cp:dh}
section
variable {k:ah} {f:av} {fx n:aj} {hp:dh} {t:TA}
def tXf (K:aV) (ta:TE) (g:aj):TE:=fun σ H Q=>ta σ H fun x H1=>∃a C dz fs v,x=.ref a/\H1 a=aa (.ext (c7 a C dz))/\H1 dz=aa (.xd fs)/\ExcK K C/\oW K C=al/\j9 K C g/\fs.lookup g=aa v/\Q v H1
theorem Fv {g:aj} (ho:PE X e ta) (hbs:jr e g X.env (eval e X.env)=eval e X.env:=by rfl):PE X (.Attribute e g pos) (tXf X.K ta g):=by intro pins s σ H Q I h;refine E3 hbs (thn (ho pins s σ H _ I h) fun u s1 ⟨x,H1,I1,rx,a,C,dz,fs,v,ex,ha,hz,Z,hd,na,l,q⟩=>?_);subst ex;obtain rfl:u=cj a:=rx;obtain⟨p,_⟩:=(show cI X.prog X.w H1 s1.heap a (.ext (c7 a C dz)) from I1.hok a _ ha);obtain⟨mA,hns,hm⟩:=(show cI X.prog X.w H1 s1.heap dz (.xd fs) from I1.hok dz _ hz);obtain⟨u,hu,ru⟩:=fJ.some_of (v:=v) (o:=mA g) (by rw[←l];exact hm g);exact IR Z I1.kIn p hns hu hd na (Et ru) ⟨v,H1,I1.tok _,ru,q⟩
end
noncomputable def Jb (K:aV):ac V->Hp->VK->Prop:=fun vs H Q=>∃a C dz c b,vs=[.ref a,c]/\H a=aa (.ext (c7 a C dz))/\ExcK K C/\IsiC K H (.ref C) c b/\Q (.bl b) H
theorem uN:fN X (.builtin "isinstance") (Jb X.K):=by
 intro pins s σ H xs us Q I r h;obtain⟨a,C,dz,c,b,rfl,ha,Z,ic,q⟩:=h;obtain⟨u,w',rfl,r1,r2⟩:=n8 r;have fin:∀tk,EP X pins σ Q (.bool b) {s with toks:=tk}:=fun tk=>⟨.bl b,H,I.tok tk,rfl,q⟩;obtain⟨p,_⟩:=(show cI X.prog X.w H s.heap a (.ext (c7 a C dz)) from I.hok a _ ha);obtain rfl:u=cj a:=r1;cases ic with
 |one hv hk=>
  have e:=Ch r2 hv;subst e;exact ki (B' Z) I.kIn p.exc hk (fun z=>nomatch z) fin
 | @tup tp ys its _ htp hm hk=>
  cases(show w'=cj tp from r2);obtain⟨hz,its',rv,o,ho,hoc,n,hod⟩:=(show cI X.prog X.w H s.heap tp (.tup ys) from I.hok tp _ htp);have e:=Fm rv hm;subst e;obtain⟨oc,odi,oda,osl⟩:=o;simp only at hoc hod;subst hoc hod;exact PySem.W.kia_tup (B' Z) I.kIn p.exc ho hk (fun z=>nomatch z) fin
mutual
def iQ (n:ah):D->ba
 |.lst l=>(l.length != n) && rl n l
 |.tup l=>rl n l
 |.non=>al
 |.bl _=>al
 |.int _=>al
 |.str _=>al
 |_=>aq
def rl (n:ah):ac D->ba
 |[]=>al
 |d::r=>iQ n d && rl n r
end
section
variable {ws:ac V}
mutual
theorem Rep.del (ha:G a=aa (.lst ws)):∀{v:V} {d:D},Rep Γ K G v d->iQ ws.length d=al->Rep Γ K (del G a) v d
 |_,_,.non,_=>.non
 |_,_,.bl b,_=>.bl b
 |_,_,.int i,_=>.int i
 |_,_,.str x,_=>.str x
 |_,_,.ty x,h=>by simp[iQ] at h
 |_,_,.tup g r,h=>.tup (by rw[lq (fun z=>by rw[z,ha] at g;cases g)];exact g) (Reps.del ha r (by unfold iQ at h;exact h))
 |_,_,.lst g r,h=>by
  unfold iQ at h;rw[ge] at h;exact .lst (by
   rw[lq (fun z=>by rw[z,ha] at g;cases g;rw[r.length] at h;simp at h)]
   exact g) (Reps.del ha r h.2)
 |_,_,.scr g,h=>by simp[iQ] at h
 |_,_,.dk g e r,h=>by simp[iQ] at h
 |_,_,.dt g e r,h=>by simp[iQ] at h
 |_,_,.ins g c e r,h=>by simp[iQ] at h
theorem Reps.del (ha:G a=aa (.lst ws)):∀{vs:ac V} {ds:ac D},Reps Γ K G vs ds->rl ws.length ds=al->Reps Γ K (del G a) vs ds
 |_,_,.nil,_=>.nil
 |_,_,.cons g r,h=>by unfold rl at h;rw[ge] at h;exact .cons (Rep.del ha g h.1) (Reps.del ha r h.2)
end
theorem Reps.set (r:Reps Γ K G vs ds) (h:Rep Γ K G v d):∀j:ah,Reps Γ K G (vs.set j v) (ds.set j d):=by
 induction vs generalizing ds with
 |nil=>cases r;intro j;exact .nil
 |cons x xs ih=>
  cases r with
  |cons r1 r2=>
   intro j;cases j with
   |zero=>exact .cons h r2
   |succ j=>exact .cons r1 (ih r2 j)
theorem At.freezeE (A:At Γ K G₀ H₀ G H ρ σ) (hi:ρ[i]?=aa (aa (.own ds))) (h1:σ[i]?=aa (aa (.ref a))) (q1:H₀ a=ae) (q2:G a=ae) (q3:H a=aa (.lst ws)) (q4:Reps Γ K G ws ds) :
  At Γ K G₀ H₀ (upd G a (.lst ws)) H (ρ.set i (aa (.sh (.lst ds)))) σ:=by
 have sm:bo G (upd G a (.lst ws)):=fun b o e=>by rw[aO (ce e q2)];exact e
 refine A.ch hi h1 (.own q1 q2 q3 q4) (fun b o e hb=>e) (.sh (.lst bK (q4.mono sm))) (fun b hb=>by cases hb) sm (fun b o e=>?_) (fun b o e hb=>?_)
 .by_cases hb:b=a
  .subst hb;rw[bK] at e;cases e;exact q3
  .rw[aO hb] at e;exact A.gh b o e
 .rw[aO (fun z=>hb (b8.mpr z))]
end
variable {k0:ar Value}
theorem PR {dd:ar av} {cd:Aq} {k1 k2 k3 k5:ar Value} (X:K.In base) (lk:K.lookup C=aa ⟨.type "type",dd,.cls cd,#[k0,k1,k2,k3,aa (.builtin "ValueError.__new__"),k5]⟩)
  (hm:cd.mro=.ref C::.ref CS::jT) (hd:cd.hasDel=aq) (hh:cd.hasDict=al) (q:Ar K CS jT "ValueError.__new__"=al):ExC base C:=by
 have T:OwnTail base jT (.ref CS::jT):=by
  unfold Ar at q;split at q
  .rename_i dd0 cd0 sl0 look;split at q
   .simp only[Hs,ge,jq] at q;obtain⟨⟨⟨⟨⟨rfl,rfl⟩,nodel⟩,tl⟩,nsok⟩,noin⟩:=q;exact .own (X _ _ look) (.of_isNs (PySem.W.isNs_of_in X nsok)) (PySem.W.nsMap_none_of_in X nsok noin) .base
   .cases q
  .cases q
 obtain⟨y1,y2,y3,y4,y5,y6,y7,y8,y9,y10,y11⟩:=cd;dsimp only at hm hd hh;subst hm hd hh;exact⟨_,_,_,_,_,_,_,_,_,_,_,_,_,_,_,X _ _ lk,T⟩
theorem O1 {f:aj} {dd:ar av} {cd:Aq} {k1 k2 k3 k5:ar Value} (X:K.In base) (lk:K.lookup C=aa ⟨.type "type",dd,.cls cd,#[k0,k1,k2,k3,aa (.builtin "ValueError.__new__"),k5]⟩)
  (hm:cd.mro=.ref C::.ref CS::jT) (hd:cd.hasDel=aq) (hh:cd.hasDict=al) (q:Ar K CS jT "ValueError.__new__"=al)
  (sa:cO K (.ref C) "__setattr__"=aa .(aP)) (ob:zE K C (.type "object")=aa al) (no:cO K (.ref C) f=aa ae)
  (init:cO K (.ref C) "__init__"=aa (aa (.ref fI))) (fn:oX K (.ref fI)=al) (kp:gI K (.ref C)=al):XCls K base C CS fI f:=
 ⟨PR X lk hm hd hh q,sa,⟨cd,by unfold Uq;rw[lk],hm,hh⟩,ob,no,init,fn,kp⟩
def AQ (K:aV) (sp:Sp) (cv:Value) (i j:ah) (t:TA):TS:=fun D σ H=>t σ H fun vs H1=>∃(Q:VK) (E:XK),sp vs H1 Q E/\(∀v H2,Q v H2->D.nx σ H2) /\
 ∀CN dz H2,E (.ref CN) (aa dz) H2->Ht K (.ref CN) cv=aa al/\∀a,H2 a=ae->D.nx (((σ.set j (aa (.ref a))).set i (aa (.ref a))).set j ae) (upd H2 a (.ext (c7 a CN dz)))
section
variable {k:ah} {f:av} {fx n:aj} {hp:dh} {t:TA}
theorem Px (F:FnOk X.prog X.w X.K X.mg X.base (CXD X.prog X.w X.base) k f fd ps sp) (hr:Room k X.A) (hx0:∀e s,¬X.xe e s) (hst:X.stack=X.env::X.outer) (hfr:X.env.frame=aa X.env.locals)
  (hg:Gl X fx) (hm:X.mg fx=aa (.ref f)) (hk:gI X.K (.ref f)=al) (hb:fS X.K fd ps []) (ha:PA X (e::es) t) (hgc:Gl X cx) (hmc:X.mg cx=aa cv)
  (hN:X.N.Nodup) (hi:X.N[i]?=aa y) (hy:X.env.kindOf y=aa .local) (hj:X.N[j]?=aa n) (hn:X.env.kindOf n=aa .local) (hij:i≠j)
  (hdb:(fx==("__debug__":aj))=aq:=by decide) (hdc:(cx==("__debug__":aj))=aq:=by decide) (hdn:(n==("__debug__":aj))=aq:=by decide) (hdd:(n==("__classdict__":aj))=aq:=by decide)
  (he:bc (e::es) X.env=(aq,eval e X.env)::bc es X.env:=by rfl) (hpl:(cW p2 (bc es X.env)).any (·.1)=aq:=by rfl)
  (hs1:e8 (.Call (.Name fx p) (e::es) [] p2) ae p3.line X.env=bq aq:=by rfl) (hs2:e8 (.Name n np) (aa (.Name y py)) ap.line X.env=bq aq:=by rfl) :
  PS X (.Try [.Expr (.Call (.Name fx p) (e::es) [] p2) p3] [.ExceptHandler (aa (.Name cx cp)) (aa n) [.Assign [.Name y py] (.Name n np) ap] hp] [] [] pos) (AQ X.K sp cv i j t):=by
 intro pins s σ H D I h;refine wpAny_Try_except ?_;refine F7 (SL ?_ I.quiet hs1);refine sE (nk I hg hm ?_ hdb);refine zF (h₀:=X.base) I.ok.mod.kin hk (e7 (ha p2 pins s σ H _ I h) (fun us s1 q=>?_) fun x s1 z=>(hx0 x s1 z).elim) he hpl;obtain⟨vs,H1,I1,r1,Q,E,hsp,hnx,hex⟩:=q;refine⟨I1.kIn,?_⟩;have hl:(us++[]).length=ps.length:=by rw[iV,←r1.length];exact F.len _ _ _ _ hsp
 refine kj (lf (F.run X.A X.stack s1 H1 ⟨us,[]⟩ us vs Q E hr I1.env0 (by have:=hb s1 us I1.kIn hl;rwa [iV] at this) r1 hsp) fun r s' hq=>?_);cases r with
 |ok fl=>
  cases fl with
  |ret u=>
   obtain⟨v,H',I',rv,q⟩:=I1.after hq;exact sx (sx ⟨σ,H',I',hnx v H' q⟩)
  |next=>exact fL hq
  |brk=>exact fL hq
  |cont=>exact fL hq
 |error x=>
  obtain⟨a,CN,a0,B,H2,dz,rfl,hos,hgens,F1,xD,hE⟩:=hq;obtain⟨hxm,hnx2⟩:=hex CN dz H2 hE;have invOf:∀{h':Heap} {tk:ah},Fly X.prog X.w X.base X.stack _ H2 _ B a (.ref CN) a0 h'->Inv X pins σ H2 {s' with heap:=h',toks:=tk}:=fun {h' tk} F'=>I1.call' hos F'.un F'.hk hgens (fun b z=>bB z (by simp));have invE:∀{h':Heap} {tk:ah},Fly X.prog X.w X.base X.stack _ H2 _ B a (.ref CN) a0 h'->c7 a CN dz h'->Inv X pins σ (upd H2 a (.ext (c7 a CN dz))) {s' with heap:=h',toks:=tk}:=fun {h' tk} F' x'=>I1.call' hos F'.unD (F'.hkD x') hgens (fun b z=>bB z (by simp));have F1s:=F1.fly;rw[hst] at F1s;refine e7 ((AW _ _).any (wpAny_looks_onW (Q:=fun _ s2=>∃h4,Heap.HeldW B (X.env::X.outer) a (.ref CN) a0 X.env.locals h4/\s'.heap.UpToSlots h4/\s2={s' with heap:=h4}) (by rw[I.ok.frames,hst]) hfr F1s fun h4 a1 a2=>⟨h4,a1,a2,rfl⟩)) (fun _ s2 z=>?_) fun _ _ z=>z;obtain⟨⟨h₄,hheld₄,hsm₄,rfl⟩,dk4⟩:=z;refine e7 ((wj _ _).any (wpAny_landsW (Q:=fun _ s2=>∃h5,vV B (X.env::X.outer) a (.ref CN) a0 h5/\h₄.UpToSlots h5/\s2={s' with heap:=h5}) hheld₄ fun h5 a1 a2=>⟨h5,a1,a2,rfl⟩)) (fun _ s2 z=>?_) fun _ _ z=>z;obtain⟨⟨h₅,hfl₅,hsm₅',rfl⟩,dk5⟩:=z;have F5:Fly X.prog X.w X.base X.stack _ H2 _ B a (.ref CN) a0 h₅:=F1.on (hsm₄.trans hsm₅') (by rw[hst];exact hfl₅);have x5:c7 a CN dz h₅:=xD.dk F5.exc (dk4.trans dk5);have I5:=(invOf (tk:=s'.toks) F5).marked (.ref a);refine wpAny_handleBy_cons (codeAny_handlers_test (nk I5 hgc hmc ?_ hdc)) (by intro q;cases q);obtain⟨oe,ws,hoe,hoec,hoed⟩:=F5.exc;have LT:PySem.W.Looks .(k) h₅ (zQ (.ref a)) (.ref CN):=hoec▸(Ub hoe).andThen .now;refine(PySem.W.exm_one (M:=aI X.prog X.w) I5.kIn LT hxm).here ?_;refine codeAny_handlers_suite_as ?_;refine e7 ((wj _ _).any (lands_againW (Q:=fun _ s2=>∃h6,vV B (X.env::X.outer) a (.ref CN) a0 h6/\h₅.UpToSlots h6/\s2={s' with heap:=h6}) hfl₅ fun h6 a1 a2=>⟨h6,a1,a2,rfl⟩)) (fun _ s2 z=>?_) fun _ _ z=>z;obtain⟨⟨h₆,hfl₆,hsm₆,rfl⟩,dk6⟩:=z;have F6:Fly X.prog X.w X.base X.stack _ H2 _ B a (.ref CN) a0 h₆:=F5.on hsm₆ (by rw[hst];exact hfl₆);have I6:=invE (tk:=s'.toks) F6 (x5.dk F6.exc dk6);refine yZ I6 hN hj (.inl hn) (show bC (.ref a) (.ref a) from rfl) (fun s7 I7=>?_) (.inr hn);have I7m:=I7.marked (.ref a);have asg:PSs (X.marked (.ref a)) [.Assign [.Name y py] (.Name n np) ap] (lx (xv j) (lH i)):=mV (oz (X:=X.marked (.ref a)) hN hi (.inl hy) (eC (X:=X.marked (.ref a)) hj (.inl hn) hdn hdd) hs2 (.inr hy));have jl:j < σ.length:=by rw[I1.len];exact(db.mp hj).1
  refine e7 (asg pins s7 _ _ {nx:=fun σ' H'=>σ'=(σ.set j (aa (.ref a))).set i (aa (.ref a))/\H'=upd H2 a (.ext (c7 a CN dz)),rt:=fun _ _=>False} I7m ⟨.ref a,by rw[ny jl],rfl,rfl⟩) (fun fl s8 q=>?_) fun _ _ z=>z.elim;cases fl with
  |next=>
   obtain⟨σ',H',I8,rfl,rfl⟩:=q;refine MS (I8.unmarked I.ok) hN hj hn fun s9 I9=>?_;exact⟨_,_,I9,hnx2 a F1.new⟩
  |brk=>obtain⟨_,_,_,z⟩:=q;exact z.elim
  |cont=>obtain⟨_,_,_,z⟩:=q;exact z.elim
  |ret u=>obtain⟨_,_,_,_,_,z⟩:=q;exact z.elim
end
noncomputable def flV:D->V
 |.str x=>.str x
 |.int i=>.int i
 |.bl b=>.bl b
 |_=>.non
theorem RD (r:Rep Γ K G v d) (h:yk d=al):v=flV d:=by
 cases r with
 |non=>rfl
 |bl b=>rfl
 |int i=>rfl
 |str x=>rfl
 |_=>cases h
inductive spXW (C:av) (f:aj) (ok:D->ba) (vs:ac V) (H:Hp) (Q:VK) (_e3:XK):Prop where
 |mk:∀a d,vs=[.ref a,flV d]->ok d=al->H a=aa (.ext (ExN a C))->(∀H' dx,bo H H'->H' dx=ae->dx≠a->Q .non (upd (upd H' dx (.xd [(f,flV d)])) a (.ext (ExM a C dx))))->spXW C f ok vs H Q _e3
section
variable {k:ah} {f:aj} {t:TA}
theorem QS {Q:D->Hp->Prop} {ok:D->ba} (F:FnOk X.prog X.w X.K X.mg X.base CX0 k fI fd ps (spXW C f ok)) (Z:XCls X.K X.base C CS fI f) (hr:Room (k+1) X.A) (hg:Gl X x) (hm:X.mg x=aa (.ref C)) (hb:fS X.K fd ps [])
  (ha:PA X (e::es) t) (I:Inv X pins σ H s) (h:t σ H fun vs H1=>∃y,vs=[flV y]/\ok y=al/\∀H2,bo H1 H2->Q y H2)
  (hex:X.ex=[]) (hdb:.(x)=aq:=by decide) (he:bc (e::es) X.env=(aq,eval e X.env)::bc es X.env:=by rfl) (hpl:.(aO).any (·.1)=aq:=by rfl) :
  aG .(k) X.A (eval .(ag) X.env) (fun u s'=>∃a dx H1 y,u=.ref a/\X.s₀.heap.get? a=ae/\H1 a=ae/\H1 dx=ae/\dx≠a/\Inv X pins σ (upd (upd H1 dx (.xd [(f,flV y)])) a (.ext (ExM a C dx))) s'/\Q y H1) X.xe s:=by
 refine sE (nk I hg hm ?_ hdb);refine zF (h₀:=X.base) I.ok.mod.kin Z.kp (thn (ha pos pins s σ H _ I h) fun us s1 ⟨vs,H1,I1,r,y,ev,hy,q⟩=>⟨I1.kIn,?_⟩) he hpl;subst ev;obtain⟨u,rfl,ru⟩:∃u,us=[u]/\bC (flV y) u:=by
  cases r with
  |cons r1 r2=>cases r2;exact⟨_,rfl,r1⟩
 refine Ki (K:=X.K) I1.kIn (Z.cls.keeps I1.bk) Z.init (jq.mp Z.fn) (fun h' a hmd=>?_) (by show 1<=aL;decide);obtain⟨t0,he0,htn,_⟩:=hmd.there;have I2:Inv X pins σ (upd H1 a (.ext (ExN a C))) {s1 with heap:=h'}:=I1.new1 (t':=s1.toks) hmd.keeps hmd.new ⟨⟨t0,he0⟩,⟨_,he0⟩,fun h1 h2 z k=>z.stay k⟩;have hna:H1 a=ae:=I1.untracked hmd.new;have hs0:X.s₀.heap.get? a=ae:=by
  cases z:X.s₀.heap.get? a with
  |none=>rfl
  |some o=>
   obtain⟨o',z'⟩:=I1.base.there a o z (by rw[hex];simp);rw[hmd.new] at z';cases z'
 have r2:bp [V.ref a,flV y] [cj a,u]:=.cons rfl (.cons ru .nil);have hsp:spXW C f ok [.ref a,flV y] (upd H1 a (.ext (ExN a C))) (fun v H2=>v=.non/\∃H3 dx,bo H1 H3/\H3 a=ae/\H3 dx=ae/\dx≠a/\H2=upd (upd H3 dx (.xd [(f,flV y)])) a (.ext (ExM a C dx))) E0:=⟨a,y,rfl,hy,bK,fun H' dx sm hdx hne=>⟨rfl,del H' a,dx,fun b o q=>by have nb:b≠a:=ce q hna;rw[lq nb];exact sm b o (by rw[aO nb];exact q),xT,by rw[lq hne];exact hdx,hne,N4⟩⟩
 have hl:([cj a,u]++[]).length=ps.length:=by have:=F.len _ _ _ _ hsp;exact this
 refine lf (F.run _ X.stack {s1 with heap:=h'} _ ⟨[.ref a,u],[]⟩ [.ref a,u] _ _ E0 (hr.make C [u] []) (I2.env0.make C [u] []) (by have:=hb {s1 with heap:=h'} [.ref a,u] I2.kIn hl;rwa [iV] at this) r2 hsp) fun r s' hq=>?_;cases r with
 |error z=>exact fL hq
 |ok fl=>
  cases fl with
  |ret u'=>
   obtain⟨v,H',I3,rv,ev,H3,dx,sm,q0,q1,q2,q3⟩:=I2.after hq;subst ev q3;obtain rfl:u'=oP:=rv;exact⟨rfl,a,dx,H3,y,rfl,hs0,q0,q1,q2,I3,q H3 sm⟩
  |next=>exact fL hq
  |brk=>exact fL hq
  |cont=>exact fL hq
end
noncomputable def xw (c:cM) (d:D):D:=.tup [.ty c,d]
noncomputable def p7:D->ba
 |.tup [.ty _,_]=>al
 |_=>aq
noncomputable def RX (Γ:Cn) (K:aV) (R:D->Hp->Prop) (E:Ends) (H₀ G' H':Hp) (σ':St) (fl:Fl):Prop:=(∀d,fl=.rt d->p7 d=al->R d H')/\((∀d,fl=.rt d->p7 d=aq)->C7 Γ K E H₀ G' H' σ' fl)
inductive TDv (Γ:Cn) (K:aV) (R:D->Hp->Prop) (g:FS) (E:Ends) (σ:St) (H:Hp):Prop where
 |mk:∀G₀ H₀ G ρ fl ρ',At Γ K G₀ H₀ G H ρ σ->g ρ=aa (fl,ρ')->(∀σ' G' H',bo G G'->At Γ K G₀ H₀ G' H' ρ' σ'->RX Γ K R E H₀ G' H' σ' fl)->TDv Γ K R g E σ H
structure DV (Γ:Cn) (X:Cx) (R:D->Hp->Prop) (st:Stmt) (g:FS):Prop where
 out:PS X st (TDv Γ X.K R g)
structure DVs (Γ:Cn) (X:Cx) (R:D->Hp->Prop) (st:ac Stmt) (g:FS):Prop where
 out:PSs X st (TDv Γ X.K R g)
def noXw (g:FS):FS:=fun ρ=>match g ρ with
 |some (.rt d,ρ')=>if p7 d=al then ae else aa (.rt d,ρ')
 |r=>r
section
variable {R:D->Hp->Prop} {g':FS}
theorem TDv.noXw:∀E σ H,TDv Γ X.K R (noXw g) E σ H->TDs Γ X.K g E σ H:=by
 rintro E σ H ⟨G₀,H₀,G,ρ,fl,ρ',A,h,k⟩;unfold L2.noXw at h;split at h
 .rename_i d ρ1 hg;split at h
  .cases h
  .rename_i hx;cases h;refine⟨G₀,H₀,G,ρ,_,_,A,hg,fun σ' G' H' sm A'=>(k σ' G' H' sm A').2 fun p z=>?_⟩;cases z;exact vO.mpr hx
 .rename_i hne;refine⟨G₀,H₀,G,ρ,fl,ρ',A,h,fun σ' G' H' sm A'=>(k σ' G' H' sm A').2 fun p z=>?_⟩;subst z;exact bB h (hne _ _)
theorem Fz (h:DSs Γ X.nox sts g):DVs Γ X R sts (noXw g):=⟨h.1.nox.imp TDv.noXw⟩
theorem uw (h:DS Γ X st g):DV Γ X R st (noXw g):=⟨h.1.imp TDv.noXw⟩
theorem w9:DVs Γ X R [] aQ:=⟨yM.imp fun E σ H=>by rintro⟨G₀,H₀,G,ρ,fl,ρ',A,h,k⟩;cases h;exact(k σ G H (.refl _) A).2 .(ae)⟩
theorem wY (h:DV Γ X R st g):DVs Γ X R [st] g:=⟨mV h.1⟩
theorem lr (h1:DV Γ X R st g) (h2:DVs Γ X R sts g'):DVs Γ X R (st::sts) (aw g g'):=⟨(oG h1.1 h2.1).imp fun E σ H=>by
 rintro⟨G₀,H₀,G,ρ,fl,ρ',A,h,k⟩;unfold aw at h;obtain⟨⟨fl1,ρ1⟩,h1,h⟩:=oBd h;refine⟨G₀,H₀,G,ρ,fl1,ρ1,A,h1,fun σ1 G1 H1 sm A1=>?_⟩;cases fl1 with
 |nx=>exact⟨.(ae),fun _=>⟨G₀,H₀,G1,ρ1,fl,ρ',A1,h,fun σ' G' H' sm' A'=>k σ' G' H' (sm.trans sm') A'⟩⟩
 |bk=>cases h;exact k σ1 G1 H1 sm A1
 |ct=>cases h;exact k σ1 G1 H1 sm A1
 |rt d=>cases h;exact k σ1 G1 H1 sm A1
 |ow d=>cases h;exact k σ1 G1 H1 sm A1
 |nw d=>cases h;exact k σ1 G1 H1 sm A1
 |od d=>cases h;exact k σ1 G1 H1 sm A1⟩
theorem xI (hc:DT Γ X c ft) (ha:DVs Γ X R sa g) (hb:DVs Γ X R sb g'):DV Γ X R (.If c sa sb pos) (sIf ft g g'):=⟨(wR hc.1 ha.1 hb.1).imp fun E σ H=>by
 rintro⟨G₀,H₀,G,ρ,fl,ρ',A,h,k⟩;unfold sIf at h;obtain⟨x,hx,h⟩:=oBd h;refine⟨G₀,H₀,G,ρ,x,A,hx,fun G1 H1 s1=>?_⟩;cases x with
 |true=>exact g9 ⟨G₀,H₀,G1,ρ,fl,ρ',A.step s1,by simpa using h,fun σ2 G2 H2 sm2 A2=>k σ2 G2 H2 (s1.gg.trans sm2) A2⟩
 |false=>exact kh ⟨G₀,H₀,G1,ρ,fl,ρ',A.step s1,by simpa using h,fun σ2 G2 H2 sm2 A2=>k σ2 G2 H2 (s1.gg.trans sm2) A2⟩⟩
theorem MG (hp:vf .(k) X.A X.env X.xe) (hc:X.calm=al) (hi:DI Γ X tg iter fi) (hg:DG Γ X tg gg) (hb:DVs Γ X R body g) (hs:∀x,lZ iter X.env x=bq x:=by intro _;rfl) :
  DV Γ X R (.For tg iter body [] pos) (ci fi gg g):=⟨(CK hp hc hi.1 hg.pg hb.1 hs).imp fun E σ H=>by
 rintro⟨G₀,H₀,G,ρ,fl,ρ',A,h,k⟩;unfold ci at h;obtain⟨xs,hx,h⟩:=oBd h;refine⟨G₀,H₀,G,ρ,xs,A,hx,fun J G1 H1 s1 Y=>?_⟩;refine⟨fun i m σ' H'=>m=xs.length-i/\i<=xs.length/\∃G' ρ1,bo G1 G'/\At Γ X.K G₀ H₀ G' H' ρ1 σ'/\dj gg g (xs.drop i) ρ1=aa (fl,ρ'),⟨xs.length,rfl,gX _,G1,ρ,.refl _,A.step s1,by rw[mf];exact h⟩,?_⟩;rintro i m σ' H' ⟨rfl,hi,G',ρ1,sm,A',hr⟩;by_cases hlt:i<xs.length
 .right
  have hxi:xs[i]?=aa xs[i]:=by simp[hlt]
  obtain⟨go,yl⟩:=Y.go i _ G' H' hxi sm A'.gh;have hdr:xs.drop i=xs[i]::xs.drop (i+1):=vG hlt;rw[hdr] at hr;unfold dj at hr;obtain⟨ρ2,h2,hr⟩:=oBd hr;obtain⟨⟨fl3,ρ3⟩,h3,hr⟩:=oBd hr;refine⟨go,fun σ3 H3=>(fl3=.nx\/fl3=.ct)/\∃G3,bo G1 G3/\At Γ X.K G₀ H₀ G3 H3 ρ3 σ3,fun σ3 H3 ⟨hfl,G3,sm3,A3⟩=>?_,fun x H2 hy=>?_⟩
  .refine⟨xs.length-(i+1),by omega,rfl,hlt,G3,ρ3,sm3,A3,?_⟩;rcases hfl with e|e<;>subst e<;>exact hr
  .obtain⟨G2,s2,r2⟩:=yl x H2 hy;refine⟨G₀,H₀,G2,ρ1,_,ρ2,A'.step s2,r2,h2,fun σ2 A2=>⟨G₀,H₀,G2,ρ2,fl3,ρ3,A2,h3,fun σ3 G3 H3 sm3 A3=>?_⟩⟩;have smm:bo G1 G3:=(sm.trans s2.gg).trans sm3;cases fl3 with
   |nx=>exact⟨.(ae),fun _=>⟨.inl rfl,G3,smm,A3⟩⟩
   |ct=>exact⟨.(ae),fun _=>⟨.inr rfl,G3,smm,A3⟩⟩
   |bk=>cases hr;exact⟨.(ae),fun _=>(k σ3 G3 H3 (s1.gg.trans smm) A3).2 .(ae)⟩
   |rt d=>cases hr;exact k σ3 G3 H3 (s1.gg.trans smm) A3
   |ow d=>cases hr;exact k σ3 G3 H3 (s1.gg.trans smm) A3
   |nw d=>cases hr;exact k σ3 G3 H3 (s1.gg.trans smm) A3
   |od d=>cases hr;exact k σ3 G3 H3 (s1.gg.trans smm) A3
 .left
  have e:i=xs.length:=by omega
  subst e;rw[z4] at hr;cases hr;exact⟨Y.stop G' H' sm A'.gh,(k σ' G' H' (s1.gg.trans sm) A').2 .(ae)⟩⟩
end
def kN (c:cM) (ok:D->ba) (fr:FA):FS:=fun ρ=>(fr ρ).bind fun ds=>match ds with
 |[d]=>if ok d=al/\yk d=al then aa (.rt (xw c d),ρ) else ae
 |_=>ae
section
variable {f:av} {E:XK}
 {R:D->Hp->Prop} {x fl:aj} {np cpos pos:dh} {e₀:Expr} {fr:FA} {k j:ah} {ok:D->ba} {c:cM}
theorem yF (hE:∀d H',R (xw c d) H'->∀dx,H' dx=ae->E (.ref C) (aa dx) (upd H' dx (.xd [(fl,flV d)]))) (FN:FnOk P w K mg base CX0 k fI fd ps (spXW C fl ok)) (Z:XCls K base C CS fI fl) (hb:fS K fd ps [])
  (hr:Room j .(C).A) (hk:k+1<=j) (hg:Gl .(C) x) (hm:mg x=aa (.ref C))
  (ha:DA Γ .(C) [e₀] fr)
  (he:bc [e₀] (cX qual scope s₀.heap.objs.size f cd)=(aq,eval e₀ (cX qual scope s₀.heap.objs.size f cd))::bc [] (cX qual scope s₀.heap.objs.size f cd):=by rfl)
  (hdb:.(x)=aq:=by decide) :
  DV Γ .(C) R (.Raise (aa (.Call (.Name x np) [e₀] [] cpos)) ae pos) (kN c ok fr):=⟨by
 intro pins s σ H D I hq;obtain⟨G₀,H₀',G,ρ,flw,ρ',At0,h,k⟩:=hq;unfold kN at h;obtain⟨ds,hd,h⟩:=oBd h;split at h
 .rename_i y;split at h
  .rename_i hy;cases h;refine LV (I.ok.hd rfl) ?_;refine e7 (QS (X:=eS (CXD P w base) P w K mg base N qual scope f cd A outer s₀ H₀ E) (Q:=fun y H'=>R (xw c y) H') (ok:=ok) FN Z (hr.mono hk) hg hm hb ha.out I ⟨G₀,H₀',G,ρ,_,At0,hd,fun vs G' H' st r=>?_⟩ rfl hdb he) (fun u s1 z=>?_) fun _ _ z=>z
   .have hv:vs=[flV y]:=by
     cases r with
     |cons r1 r2=>cases r2;rw[RD r1 hy.2]
    subst hv;exact⟨y,rfl,hy.1,fun H2 sm2=>(k σ G' H2 st.gg ((At0.step st).step ⟨sm2,.refl _,st.gh.trans sm2,fun _ _ _=>rfl⟩)).1 _ rfl rfl⟩
   .obtain⟨a,dx,H1,y',rfl,g1,g2,g3,g4,I2,q⟩:=z;have hH:(upd (upd H1 dx (.xd [(fl,flV y')])) a (.ext (ExM a C dx))) a=aa (.ext (ExM a C dx)):=bK;obtain⟨⟨t0,he0⟩,_⟩:=(show cI P w (upd (upd H1 dx (.xd [(fl,flV y')])) a (.ext (ExM a C dx))) s1.heap a (.ext (ExM a C dx)) from I2.hok a _ hH);have hna:(upd H1 dx (.xd [(fl,flV y')])) a=ae:=by rw[aO (eh g4)];exact g2
    exact⟨a,t0,aa dx,C,rfl,Z.cls.keeps I2.bk,he0,Jn (I2.forget hna) he0 g1 hna (hE y' H1 q dx g3)⟩
  .cases h
 .cases h⟩
end
inductive spV (Γ:Cn) (K:aV) (Cl:cM->ar (av×aj)) (n:ah) (F:FQ) (vs:ac V) (H:Hp) (Q:VK) (E:XK):Prop where
 |mk:∀G ds d,bo G H->Reps Γ K G vs ds->ds.length=n->F ds=aa d->(∀c x CN fl,d=xw c x->Cl c=aa (CN,fl)->∀G' H' dz,Step G H G' H'->H' dz=ae->E (.ref CN) (aa dz) (upd H' dz (.xd [(fl,flV x)])))->(p7 d=aq->∀v G' H',Step G H G' H'->Rep Γ K G' v d->Q v H')->spV Γ K Cl n F vs H Q E
structure CalV (Γ:Cn) (P:ef) (w:cT) (K:aV) (mg:aj->ar Value) (base:Heap) (x:aj) (Cl:cM->ar (av×aj)) (n k:ah) (F:FQ):Prop where
 ex:∃f fd ps,FnOk P w K mg base (CXD P w base) k f fd ps (spV Γ K Cl n F)/\mg x=aa (.ref f)/\gI K (.ref f)=al/\fS K fd ps []
section
variable {Cl:cM->ar (av×aj)}
theorem Fun.okV {f:av} {k:ah} (F:Fun K x qual st f fd) (S:FnScope N ps (aW st))
  (hbody:∀(cdv:Value) (A:eU) (outer:ac cN) (s:aH) (H:Hp) (E:XK),Room k .(as)->
   DVs Γ (eS (CXD P w base) P w K mg base N qual (aW st) f cdv A outer s H E) (fun d H'=>∀c x CN fl,d=xw c x->Cl c=aa (CN,fl)->∀dz,H' dz=ae->E (.ref CN) (aa dz) (upd H' dz (.xd [(fl,flV x)]))) (eN st) g) :
  FnOk P w K mg base (CXD P w base) (k+1) f fd ps (spV Γ K Cl ps.length (bj (N.length-ps.length) g)):=by
 obtain⟨oc,od,kV,doc,pm,an,cdv,ct,osl,rfl,lk,hcd⟩:=F.ex;refine Eu lk hcd S (fun vs H Q E h=>?_) fun A outer s H vs Q E hr h=>?_
 .obtain⟨G,ds,d,_,r,hl,_⟩:=h;rw[r.length,hl]
 .obtain⟨G,ds,d,gh,r,hl,hd,kx,kn⟩:=h;refine⟨_,(hbody cdv A outer s _ E hr).1,?_⟩;unfold bj at hd;obtain⟨⟨flw,ρ'⟩,hg,hd⟩:=oBd hd;refine⟨G,H,G,_,flw,ρ',Dj gh r (by rw[r.length,hl]),hg,fun σ' G' H' sm A'=>⟨fun d' e hx=>?_,fun hn=>?_⟩⟩
  .subst e;cases hd;exact fun c x CN fl e2 hcl dz hz=>kx c x CN fl e2 hcl G' H' dz A'.st hz
  .cases flw with
   |rt d'=>cases hd;exact fun v rv=>kn (hn _ rfl) v G' H' A'.st rv
   |nx=>cases hd;exact kn rfl .non G' H' A'.st .non
   |_=>cases hd
theorem Dfn.calV {k:ah} (F:Dfn K mg x st) (S:FnScope N ps (aW st))
  (hb:∀(kV doc pm:Value) (an:ar av) (cdv ct:Value) (us:ac Value),us.length=ps.length->l9 (ik x x (io st) (eN st) (aW st) .none kV doc pm an cdv ct) ⟨us,[]⟩=bq (ps.zip us))
  (hbody:∀(f:av) (cdv:Value) (A:eU) (outer:ac cN) (s:aH) (H:Hp) (E:XK),Room k (A.deeper (cX x (aW st) s.heap.objs.size f cdv))->
   DVs Γ (eS (CXD P w base) P w K mg base N x (aW st) f cdv A outer s H E) (fun d H'=>∀c x CN fl,d=xw c x->Cl c=aa (CN,fl)->∀dz,H' dz=ae->E (.ref CN) (aa dz) (upd H' dz (.xd [(fl,flV x)]))) (eN st) g):CalV Γ P w K mg base x Cl ps.length (k+1) (bj (N.length-ps.length) g):=by
 obtain⟨f,fd,h1,h2⟩:=F.ex;exact⟨f,fd,ps,h1.okV S (hbody f),h2,h1.kp,h1.binds hb⟩
def mB (F:FQ):FQ:=fun ds=>(F ds).bind fun d=>if p7 d=al then ae else aa d
theorem FnOk.noV {k:ah} {f:av} {F:FQ} (h:FnOk P w K mg base (CXD P w base) k f fd ps (spV Γ K Cl n F)):FnOk P w K mg base CX0 k f fd ps (spF Γ K n (mB F)):=by
 have go:∀{vs H Q E},spF Γ K n (mB F) vs H Q E->spV Γ K Cl n F vs H Q E0:=fun {vs H Q E} q=>by
  obtain⟨G,ds,d,a,b,c,e,k⟩:=q;unfold mB at e;obtain⟨d',hd',e⟩:=oBd e;split at e
  .cases e
  .rename_i hx;cases e;exact⟨G,ds,d,a,b,c,hd',fun c x _ _ z _=>bB (by rw[z];rfl) hx,fun _=>k⟩
 refine⟨fun vs H Q E q=>h.len vs H Q E0 (go q),fun A outer s H args us vs Q E hr he hb hv hs=>?_⟩;refine lf (h.run A outer s H args us vs Q E0 hr he hb hv (go hs)) fun r s' q=>?_;cases r with
 |ok fl=>cases fl<;>exact q
 |error x=>obtain⟨_,_,_,_,_,_,_,_,_,_,_,z⟩:=q;exact z.elim
theorem CalV.cal {k:ah} {F:FQ} (h:CalV Γ P w K mg base x Cl n k F):Cal Γ P w K mg base x n k (mB F):=by obtain⟨f,fd,ps,h1,h2⟩:=h.ex;exact⟨f,fd,ps,h1.noV,h2⟩
end
noncomputable def okI:D->ba
 |.int i=>decide (0<=i/\i<=1000000)
 |_=>aq
noncomputable def wy (F:FQ):FQ:=fun ds=>match ds with
 |[t,.int m]=>(F [t]).bind fun d=>match d with
  |.tup [.ty c,.int n]=>if c="NoRow" then aa (.bl (decide (n=m))) else ae
  |_=>ae
 |_=>ae
def clW (CR:av):cM->ar (av×aj):=fun c=>if c="NoRow" then aa (CR,"row") else ae
theorem R3 (h:okI d=al):∃i:ag,d=.int i/\0<=i/\i<=1000000:=by
 cases d with
 |int i=>exact⟨i,rfl,sL h⟩
 |_=>cases h
noncomputable def ti (i:ag):aj:=sH (sC i)
theorem MX {i:ag} (h0:0<=i) (h1:i<=1000000):(ti i).length<=8:=by
 obtain⟨m,rfl⟩:=As h0;have e0:(ti (m:ag)).cps.toList=(jx 10 m).map Au:=Hu m;have e:(ti (m:ag)).length=(jx 10 m).length:=by have:=cC fW e0;simpa[gZ] using this
 rw[e];exact Hv .(c) .(a)
theorem IM {i:ag} (h0:0<=i) (h1:i<=1000000):i.natAbs.log2<1920:=by
 obtain⟨m,rfl⟩:=As h0;show m.log2<1920;rcases Hw m with z|z
 .subst z;decide
 .rw[Hx .(a)];exact qF (show m<10000000 by omega) .(j)
theorem OH {i:ag} (hx:x.length<=1000) (h0:0<=i) (h1:i<=1000000) {k:ah} (hk:vSh k ρ=aa (.int i)) :
  fsF (af (vC (.str x)) (af (vSh k) ao)) ρ=aa (.str ((la++x)++ti i)):=by
 have hs:=eI;have q0:(la:aj).length=0:=rfl;have t:=MX h0 h1;have q1:(la++x).length<=aL:=by rw[gj,q0];omega
 have q2:((la++x)++ti i).length<=aL:=by rw[gj,gj,q0];omega
 have ea:af (vC (.str x)) (af (vSh k) ao) ρ=aa [.str x,.int i]:=by unfold af;rw[hk];rfl
 unfold fsF;rw[ea];show(jW la [.str x,.int i]).map D.str=_;have e1:rC (.str x)=aa x:=qY .(a);have e2:rC (.int i)=aa (ti i):=qY (IM h0 h1);rw[jW,e1,qa,qY q1,jW,e2,qa,qY q2,jW,qY q2];rfl
noncomputable def eD (i:ah) (g:FS):FS:=fun ρ=>match ρ[i]? with
 |some (aa (.own ds))=>g (ρ.set i (aa (.sh (.lst ds))))
 |_=>g ρ
theorem TDs.frzO (i:ah):∀E σ H,TDs Γ X.K (eD i g) E σ H->TDs Γ X.K g E σ H:=by
 rintro E σ H ⟨G₀,H₀,G,ρ,fl,ρ',A,h,k⟩;unfold eD at h;split at h
 .rename_i ds hi;obtain⟨G',sm,A'⟩:=A.freeze hi;exact⟨G₀,H₀,G',_,fl,ρ',A',h,fun σ1 G1 H1 sm1 A1=>k σ1 G1 H1 (sm.trans sm1) A1⟩
 .exact⟨G₀,H₀,G,ρ,fl,ρ',A,h,k⟩
theorem lL (i:ah) (h:DSs Γ X sts g):DSs Γ X sts (eD i g):=⟨h.1.imp (TDs.frzO i)⟩
def lS (m:ah):D->ar (ah×ag)
 |.int n=>(ixN m n).map fun j=>(j,n)
 |_=>ae
def px (i:ah) (fk f:FE):FS:=fun ρ=>match ρ[i]? with
 |some (aa (.own ds))=>(f (ρ.set i (aa (.sh (.lst ds))))).bind fun d=>(fk ρ).bind fun k=>(lS ds.length k).bind fun j=>if iQ ds.length d=al then aa (.nx,ρ.set i (aa (.own (ds.set j.1 d)))) else ae
 |_=>ae
variable {pc:dh} {ek:Expr}
theorem JK (i:ah) (h:DE Γ X e f) (hk:DE Γ X ek fk) (hN:X.N[i]?=aa x:=by rfl) (hv:Vis X.env.scope x:=by ac_nf) (hd:.(x)=aq:=by decide)
  (hcd:.(aC)=aq:=by decide)
  (hs:F8 [.Subscript .(X) ek p2] e pos.line X.env=bq aq:=by rfl) (has:∀v,iU (.Subscript .(X) ek p2) X.env v=(do
   let ov ←ij [v] (eval .(X) X.env)
   let iv ←ij [v,ov] (eval ek X.env)
   oT p2
   ij [v,ov,iv] (zx ov iv v)
   release [v,ov,iv] []):=by intro _;rfl) (hw:F9 [.Subscript .(X) ek p2] e X.env=bq ae:=by rfl) :
  DS Γ X (.Assign [.Subscript .(X) ek p2] e pos) (px i fk f):=⟨(D9 h.1 (R6 (eC hN hv hd hcd) hk.1 Lx has) hs hw).imp fun E σ H=>by
  rintro⟨G₀,H₀,G,ρ,fl,ρ',A,h,k⟩;unfold px at h;split at h
  .rename_i ds hi;obtain⟨d,hd,h⟩:=oBd h;obtain⟨dk,hdk,h⟩:=oBd h;obtain⟨⟨j,n⟩,hj,h⟩:=oBd h;split at h
   .rename_i hz;cases h;obtain⟨v,fp,h1,h2⟩:=A.get hi;cases h2 with
    |own q1 q2 q3 q4=>
     rename_i a vs;have A1:=A.freezeE hi h1 q1 q2 q3 q4;have sm:bo G (upd G a (.lst vs)):=fun b o e=>by rw[aO (ce e q2)];exact e
     refine⟨G₀,H₀,_,_,d,A1,hd,fun u G2 H2 s2 r2=>?_⟩;have hG2:G2 a=aa (.lst vs):=s2.gg _ _ bK;have hlen:vs.length=ds.length:=q4.length;have r3:Rep Γ X.K (del G2 a) u d:=Rep.del hG2 r2 (by rw[hlen];exact hz);have gg:bo G (del G2 a):=fun b o q=>by
      have:b≠a:=fun z=>by rw[z,q2] at q;cases q
      rw[lq this];exact s2.gg _ _ (sm _ _ q)
     have st:Step G H (del G2 a) H2:=⟨s2.hh,gg,fun b o q=>by
      by_cases z:b=a
      .rw[z,xT] at q;cases q
      .rw[lq z] at q;exact s2.gh _ _ q,fun b o q=>by
      by_cases z:b=a
      .rw[z,xT,q2]
      .rw[lq z,s2.out b o q,aO z]⟩
     have A2:=A.step st;have hn:dk=.int n/\ixN ds.length n=aa j:=by
      unfold lS at hj;split at hj
      .obtain⟨j',hj',e⟩:=oMd hj;cases e;exact⟨rfl,hj'⟩
      .cases hj
     obtain⟨rfl,hn⟩:=hn;refine⟨.ref a,h1,G₀,H₀,_,ρ,_,A2,hdk,fun w G3 H3 s3 r4=>?_⟩;cases r4.int_inv;refine⟨a,vs,n,j,rfl,rfl,s3.hh _ _ (s2.hh _ _ q3),by rw[hlen];exact hn,?_⟩;exact k σ _ _ (gg.trans s3.gg) ((A2.step s3).chOwn hi h1 (((q4.mono gg).mono s3.gg).set (r3.mono s3.gg) j))
   .cases h
  .cases h⟩
section
open PyProof
end
noncomputable def Fd:D->D->ar (ac D)
 |.lst x,.lst y=>if x.length+y.length<=aL then aa (x++y) else ae
 |_,_=>ae
def iS (fa fb:FE):FA:=fun ρ=>(fa ρ).bind fun x=>(fb ρ).bind fun y=>Fd x y
section
variable {a:Expr}
theorem tL (ha:DE Γ X a fa) (hb:DE Γ X b fb):DO Γ X (.BinOp a .Add b pos) (iS fa fb):=⟨(Cy Cj ha.1 hb.1).imp fun σ H Q=>by
 rintro⟨G₀,H₀,G,ρ,ds,A,h,k⟩;unfold iS at h;obtain⟨x,hx,h⟩:=oBd h;obtain⟨y,hy,h⟩:=oBd h;refine⟨G₀,H₀,G,ρ,x,A,hx,fun v G1 H1 s1 r1=>⟨G₀,H₀,G1,ρ,y,A.step s1,hy,fun u G2 H2 s2 r2=>?_⟩⟩;unfold Fd at h;split at h
 .split at h
  .rename_i hz;cases h;obtain⟨a,vs,rfl,ha,ra⟩:=(r1.mono s2.gg).lst_inv;obtain⟨b,us,rfl,hb,rb⟩:=r2.lst_inv;exact⟨a,b,vs,us,rfl,rfl,s2.gh _ _ ha,s2.gh _ _ hb,by rw[ra.length,rb.length];exact hz,fun p hp=>k p _ G2 H2 (s1.trans s2) hp (ra.append rb)⟩
  .cases h
 .cases h⟩
end
theorem eZ.len {H:Hp}:∀{ps:ac av} {vss:ac (ac V)},eZ H ps vss->ps.length=vss.length
 |[],[],_=>rfl
 |[],_::_,h=>h.elim
 |_::_,[],h=>h.elim
 |_::_,_::_,h=>by rw[qh,qh,h.2.len]
theorem eZ.at' {H:Hp}:∀{ps:ac av} {vss:ac (ac V)} {j:ah} {vs:ac V},eZ H ps vss->vss[j]?=aa vs->∃p,ps[j]?=aa p/\H p=aa (.lst vs)
 |[],[],_,_,_,e=>by simp at e
 |[],_::_,_,_,h,_=>h.elim
 |_::_,[],_,_,h,_=>h.elim
 |p::ps,vs::vss,0,_,h,e=>by
  cases e;exact⟨p,rfl,h.1⟩
 |p::ps,vs::vss,j+1,_,h,e=>h.2.at' (j:=j) e
theorem eZ.put {H:Hp}:∀{ps:ac av} {vss:ac (ac V)} {j:ah} {p:av} {vs:ac V},eZ H ps vss->ps.Nodup->ps[j]?=aa p->eZ (upd H p (.lst vs)) ps (vss.set j vs)
 |[],[],_,_,_,_,_,e=>by simp at e
 |[],_::_,_,_,_,h,_,_=>h.elim
 |_::_,[],_,_,_,h,_,_=>h.elim
 |q::ps,us::vss,0,p,vs,h,nd,e=>by
  cases e;refine⟨bK,h.2.stay fun b hb=>aO fun z=>?_⟩;subst z;exact(eJ.mp nd).1 hb
 |q::ps,us::vss,j+1,p,vs,h,nd,e=>by have e':ps[j]?=aa p:=e;refine⟨?_,h.2.put (eJ.mp nd).2 e'⟩;rw[aO (fun z=>(eJ.mp nd).1 (by rw[z];exact qP e'))];exact h.1
theorem eR.len:∀{vss:ac (ac V)} {dss:ac (ac D)},eR Γ K G vss dss->vss.length=dss.length
 |[],[],_=>rfl
 |[],_::_,h=>h.elim
 |_::_,[],h=>h.elim
 |_::_,_::_,h=>by rw[qh,qh,h.2.len]
theorem eR.at':∀{vss:ac (ac V)} {dss:ac (ac D)} {j:ah} {ds:ac D},eR Γ K G vss dss->dss[j]?=aa ds->∃vs,vss[j]?=aa vs/\Reps Γ K G vs ds
 |[],[],_,_,_,e=>by simp at e
 |[],_::_,_,_,h,_=>h.elim
 |_::_,[],_,_,h,_=>h.elim
 |vs::_,ds::_,0,_,h,e=>by
  cases e;exact⟨vs,rfl,h.1⟩
 |_::vss,_::dss,j+1,_,h,e=>h.2.at' (j:=j) e
theorem eR.put:∀{vss:ac (ac V)} {dss:ac (ac D)} {j:ah} {vs:ac V} {ds:ac D},eR Γ K G vss dss->Reps Γ K G vs ds->eR Γ K G (vss.set j vs) (dss.set j ds)
 |[],[],_,_,_,_,_=>trivial
 |[],_::_,_,_,_,h,_=>h.elim
 |_::_,[],_,_,_,h,_=>h.elim
 |_::_,_::_,0,_,_,h,r=>⟨r,h.2⟩
 |_::_,_::_,j+1,_,_,h,r=>⟨h.1,h.2.put r⟩
theorem eR.reps {H:Hp} (hG:bo G H):∀{ps:ac av} {vss:ac (ac V)} {dss:ac (ac D)},eZ H ps vss->eR Γ K G vss dss->Reps Γ K H (ps.map V.ref) (dss.map D.lst)
 |[],[],[],_,_=>.nil
 |[],_::_,_,h,_=>h.elim
 |_::_,[],_,h,_=>h.elim
 |[],[],_::_,_,h=>h.elim
 |_::_,_::_,[],_,h=>h.elim
 |_::_,_::_,_::_,h,r=>.cons (.lst h.1 (r.1.mono hG)) (r.2.reps hG h.2)
theorem M5 {k:D} {j:ah×ag} (h:lS m k=aa j):∃n,k=.int n/\ixN m n=aa j.1:=by
 unfold lS at h;split at h
 .obtain⟨j',h1,rfl⟩:=oMd h;exact⟨_,rfl,h1⟩
 .cases h
def iN (i:ah) (fk f:FE):FS:=fun ρ=>match ρ[i]? with
 |some (aa (.oll dss))=>(fk ρ).bind fun k=>(f ρ).bind fun d=>(lS dss.length k).bind fun j=>match dss[j.1]? with
  |some ds=>if ds.length<aL then aa (.nx,ρ.set i (aa (.oll (dss.set j.1 (ds++[d]))))) else ae
  |none=>ae
 |_=>ae
noncomputable def lO (i:ah) (g:FS):FS:=fun ρ=>match ρ[i]? with
 |some (aa (.oll dss))=>g (ρ.set i (aa (.sh (.lst (dss.map D.lst)))))
 |_=>ae
variable {dss:ac (ac D)}
theorem At.frzLL (A:At Γ K G₀ H₀ G H ρ σ) (hi:ρ[i]?=aa (aa (.oll dss))):∃G',bo G G'/\At Γ K G₀ H₀ G' H (ρ.set i (aa (.sh (.lst (dss.map D.lst))))) σ:=by
 obtain⟨v,fp,h1,h2⟩:=A.get hi;cases h2 with
 |oll q1 q2 q3 q4 q5=>
  rename_i a ps vss;have sm:bo G (fun b=>if b∈a::ps then H b else G b):=fun b o e=>by
   have:b∉a::ps:=fun z=>by rw[(q1 b z).2] at e;cases e
   show(if b∈a::ps then H b else G b)=_;rw[qZ this];exact e
  have hG':∀b∈a::ps,(fun b=>if b∈a::ps then H b else G b) b=H b:=fun b hb=>qY hb;refine⟨_,sm,A.ch hi h1 (.oll q1 q2 q3 q4 q5) (fun b o e _=>e) (.sh (.lst ((hG' a qf).trans q3) (eR.reps sm (q4.stay fun b hb=>hG' b (qg _ hb)) q5))) (fun b hb=>by cases hb) sm (fun b o e=>?_) (fun b o e hb=>qZ hb)⟩;by_cases hb:b∈a::ps
  .replace e:(if b∈a::ps then H b else G b)=aa o:=e
   rw[qY hb] at e;exact e
  .replace e:(if b∈a::ps then H b else G b)=aa o:=e
   rw[qZ hb] at e;exact A.gh b o e
theorem TDs.frzLL (i:ah):∀E σ H,TDs Γ X.K (lO i g) E σ H->TDs Γ X.K g E σ H:=by
 rintro E σ H ⟨G₀,H₀,G,ρ,fl,ρ',A,h,k⟩;unfold lO at h;split at h
 .rename_i ds hi;obtain⟨G',sm,A'⟩:=A.frzLL hi;exact⟨G₀,H₀,G',_,fl,ρ',A',h,fun σ1 G1 H1 sm1 A1=>k σ1 G1 H1 (sm.trans sm1) A1⟩
 .cases h
theorem D7 (i:ah) (h:DSs Γ X sts g):DSs Γ X sts (lO i g):=⟨h.1.imp (TDs.frzLL i)⟩
theorem xr (i:ah) {sp:dh} (hk:DE Γ X ek fk) (h:DE Γ X e f) (hN:X.N[i]?=aa x:=by rfl) (hv:Vis X.env.scope x:=by ac_nf) (hd:.(x)=aq:=by decide)
  (hcd:.(aC)=aq:=by decide) (hpi:wC ek:=by intro _ _;rfl)
  (hbase:jr (.Subscript .(X) ek sp) "append" X.env (eval (.Subscript .(X) ek sp) X.env)=eval (.Subscript .(X) ek sp) X.env:=by rfl)
  (hfew:((cW cpos (bc [e] X.env)).all (fun x=>!x.1) && (l' cpos (ma [] X.env)).all (fun x=>x.1.isSome)
   && decide .(aE))=al:=by rfl)
  (hline:(apos.endLine==cpos.line)=al:=by rfl) (hs:bc [e] X.env=(aq,eval e X.env)::bc [] X.env:=by rfl) (hplain:(cW cpos (bc [] X.env)).any (·.1)=aq:=by rfl)
  (hsw:e8 .(aH) ae pos.line X.env=bq aq:=by rfl) :
  DS Γ X (.Expr .(aH) pos) (iN i fk f):=⟨(pO (pQ z5 zT GQ sU (A8 Ds (eC hN hv hd hcd) hk.1 hpi) (dq h.1 fD hs) hbase hfew hline hs hplain) hsw).imp fun E σ H=>by
  rintro⟨G₀,H₀,G,ρ,fl,ρ',A,h,k⟩;unfold iN at h;split at h
  .rename_i dss hi;obtain⟨kd,hkd,h⟩:=oBd h;obtain⟨d,hd',h⟩:=oBd h;obtain⟨j,hj,h⟩:=oBd h;split at h
   .rename_i ds hds;split at h
    .rename_i hz;cases h
     .obtain⟨n,rfl,hj'⟩:=M5 hj;obtain⟨v,fp,h1,h2⟩:=A.get hi;cases h2 with
      |oll q1 q2 q3 q4 q5=>
       rename_i a ps vss;refine⟨.ref a,h1,G₀,H₀,G,ρ,.int n,A,hkd,fun v1 G1 H1 s1 r1=>?_⟩;cases r1.int_inv;obtain⟨vs,hvs,rvs⟩:=q5.at' hds;obtain⟨p,hp,hHp⟩:=q4.at' hvs;have at1:atI (ps.map V.ref) n=aa (V.ref p):=by unfold atI;rw[qe,q4.len,q5.len,hj',qa,qj,hp];rfl
       refine .inl ⟨a,ps.map V.ref,n,.ref p,rfl,rfl,.inl (.inl (s1.hh _ _ q3)),at1,.inl ⟨rfl,vs,.inl (.inl (s1.hh _ _ hHp))⟩,G₀,H₀,G1,ρ,d,A.step s1,hd',fun u G2 H2 s2 r2=>?_⟩;have S2:=(SR.oll (Γ:=Γ) (K:=X.K) q1 q2 q3 q4 q5).stepS (s1.trans s2);have A2:=(A.step s1).step s2;refine⟨p,vs,u,rfl,rfl,s2.hh _ _ (s1.hh _ _ hHp),by rw[rvs.length];exact hz,?_⟩;have hpm:p∈a::ps:=qg _ (qP hp);refine k σ G2 _ (s1.gg.trans s2.gg) (A2.ch hi h1 S2 (fun b o e hb=>?_) (.oll (fun b hb=>⟨(q1 b hb).1,(S2.fpt b hb).2.1⟩) q2 ?_ ((q4.stay fun b hb=>?_).put (eJ.mp q2).2 hp) ((q5.map fun r=>r.mono (s1.gg.trans s2.gg)).put ((rvs.mono (s1.gg.trans s2.gg)).append (.cons r2 .nil)))) (fun b hb=>.inl hb) (.refl _) (fun b o e=>?_) (fun _ _ _ _=>rfl))
       .rw[aO (fun z=>hb (by rw[z];exact hpm))];exact e
       .rw[aO (fun z=>(eJ.mp q2).1 (by rw[z];exact qP hp))];exact s2.hh _ _ (s1.hh _ _ q3)
       .obtain⟨o,ho⟩:=q4.mem b hb;rw[ho];exact s2.hh _ _ (s1.hh _ _ ho)
       .rw[aO (ce e (S2.fpt p hpm).2.1)];exact A2.gh b o e
    .cases h
   .cases h
  .cases h⟩
def uD:TE:=fun σ H Q=>∀p,H p=ae->Q (.ref p) (upd H p (.lst []))
inductive TDll (Γ:Cn) (K:aV) (fn:aX->ar ah) (σ:St) (H:Hp) (Q:VK):Prop where
 |mk:∀G₀ H₀ G ρ n,At Γ K G₀ H₀ G H ρ σ->fn ρ=aa n->(∀a ps G' H',Step G H G' H'->(∀b∈a::ps,H b=ae/\G' b=ae)->(a::ps).Nodup->H' a=aa (.lst (ps.map V.ref))->ps.length=n->(∀p∈ps,H' p=aa (.lst []))->Q (.ref a) H')->TDll Γ K fn σ H Q
theorem eZ.emp {H:Hp}:∀{ps:ac av},(∀p∈ps,H p=aa (.lst []))->eZ H ps (bS ps.length [])
 |[],_=>trivial
 |p::ps,h=>⟨h p qf,eZ.emp fun q hq=>h q (qg _ hq)⟩
theorem eR.emp {Γ:Cn} {K:aV} {G:Hp}:∀n:ah,eR Γ K G (bS n []) (bS n [])
 |0=>trivial
 |n+1=>⟨.nil,eR.emp n⟩
noncomputable def kK (i:ah) (fn:aX->ar ah):FS:=fun ρ=>(fn ρ).map fun n=>(.nx,ρ.set i (aa (.oll (bS n []))))
noncomputable def oA (fr:FA):aX->ar ah:=fun ρ=>(fr ρ).map fW
variable {fn:aX->ar ah}
section
theorem yp:PE X (.List [] pos) uD:=(xy fD).imp fun σ H Q h=>⟨gX _,h⟩
theorem FY :∀E σ H,TDs Γ X.K (kK i fn) E σ H->lx (TDll Γ X.K fn) (lH i) E σ H:=by
 rintro E σ H ⟨G₀,H₀,G,ρ,fl,ρ',A,h,k⟩;unfold kK at h;obtain⟨n,hn,h⟩:=oMd h;cases h;refine⟨G₀,H₀,G,ρ,n,A,hn,fun a ps G' H' s hf nd ha hl he=>k _ G' _ s.gg ?_⟩;refine A.put (fp:=[]) (fp':=a::ps) .(aq) (fun b o e _=>s.hh b o e) (SR.oll (vss:=bS ps.length []) (fun b hb=>⟨?_,(hf b hb).2⟩) nd ha (eZ.emp he) (by rw[hl];exact eR.emp n)) (fun b hb=>.inr (hf b hb).1) s.gg s.gh (fun b o e _=>s.out b o e) (fun b hb=>by cases hb);cases hb0:H₀ b with
 |none=>rfl
 |some o=>
  have z:=(hf b hb).1;rw[A.st.hh b o hb0] at z;cases z
variable {g:FG}
theorem Qw (no:∀d ρ ρ',g d ρ=aa ρ'->gv ρ->gv ρ'):∀σ H Q,TDll Γ X.K (oA (bh fi g ft (vC .non) fv)) σ H Q->tLC (TDi Γ X.K fi) (TDg Γ X.K g) (TDt Γ X.K ft) uD fv σ H Q:=by
 rintro σ H Q ⟨G₀,H₀,G,ρ,n,A,h,k⟩;unfold oA at h;obtain⟨ds,h,hn⟩:=oMd h;unfold bh at h;obtain⟨xs,hx,h⟩:=oBd h;split at h
 case isFalse=>cases h
 rename_i hz;refine⟨G₀,H₀,G,ρ,xs,A,hx,fun J G1 H1 s1 Y acc hacc=>?_⟩;have gacc:G1 acc=ae:=s1.gh.free hacc;obtain⟨A0,no0⟩:=DL (fv:=fv) (A.step s1);refine⟨fun i m ys σ' H'=>m=xs.length-i/\i<=xs.length/\ys.length<=i/\∃G' ρ' ps bz,At Γ X.K G1 H1 G' H' ρ' σ'/\gv ρ'/\H' acc=aa (.lst ys)/\ys=ps.map V.ref/\(∀b∈acc::ps,H1 b=ae/\G' b=ae)/\(acc::ps).Nodup/\(∀p∈ps,H' p=aa (.lst []))/\gL g ft (vC .non) (xs.drop i) ρ'=aa bz/\ps.length+bz.length=n,?_,?_⟩
 .refine⟨xs.length,rfl,gX _,qv _,G1,gV fv ρ,[],ds,?_,no0,bK,rfl,fun b hb=>?_,eJ.mpr ⟨by simp,lh⟩,(fun p hp=>by cases hp),by rw[mf];exact h,by simpa using hn⟩
  .have sn:=Step.newOwn (o:=.lst []) s1.gh hacc;exact⟨sn,.ofSh A0.env.len no0 A0.env.sh⟩
  .rw[b8.mp hb];exact⟨hacc,gacc⟩
 .rintro i m ys σ' H' ⟨hm,hi,hyi,G',ρ',ps,bz,A',no',hacc',hys,hfr,nd,hem,hr,hd⟩;subst hm;subst hys;have gacc':G' acc=ae:=(hfr acc qf).2;refine⟨hacc',?_⟩;by_cases hlt:i<xs.length
  .right
   have hxi:xs[i]?=aa xs[i]:=by simp[hlt]
   obtain⟨go,yl⟩:=Y.go i _ G' H' hxi A'.st.gg A'.gh;refine⟨go,fun x H2 hy=>?_⟩;obtain⟨G2,s2,r2⟩:=yl x H2 hy;have A2:=A'.step s2;have hdr:xs.drop i=xs[i]::xs.drop (i+1):=vG hlt;rw[hdr] at hr;unfold gL at hr;obtain⟨ρ1,h1,hr⟩:=oBd hr;obtain⟨b,h2,hr⟩:=oBd hr;refine⟨G1,H1,G2,ρ',_,ρ1,A2,r2,h1,fun σ2 A3=>⟨G1,H1,G2,ρ1,b,A3,h2,fun G4 H4 s4=>?_⟩⟩;have no1:=no _ _ _ h1 no';have live:∀b∈acc::ps,∃o,H' b=aa o:=fun b hb=>by
    rcases cy.mp hb with rfl|hb
    .exact⟨_,hacc'⟩
    .exact⟨_,hem b hb⟩
   have hG4:∀b∈acc::ps,G4 b=ae:=fun b hb=>by obtain⟨o,ho⟩:=live b hb;exact(s4.out _ _ (s2.hh _ _ ho)).trans ((s2.out _ _ ho).trans (hfr b hb).2)
   have hH4:H4 acc=aa (.lst (ps.map V.ref)):=s4.hh _ _ (s2.hh _ _ hacc');have hE4:∀p∈ps,H4 p=aa (.lst []):=fun p hp=>s4.hh _ _ (s2.hh _ _ (hem p hp));cases b with
   |false=>
    rw[qZ qr] at hr;refine kh ⟨xs.length-(i+1),by omega,rfl,hlt,by omega,G4,ρ1,ps,bz,A3.step s4,no1,hH4,rfl,fun b hb=>⟨(hfr b hb).1,hG4 b hb⟩,nd,hE4,hr,hd⟩
   |true=>
    rw[qY rfl] at hr;obtain⟨d,h3,hr⟩:=oBd hr;obtain⟨zs,h5,rfl⟩:=oMd hr;refine g9 fun p hp=>?_;have A4:=A3.step s4;have s5:=Step.newOwn (o:=.lst []) A4.gh hp;have A5:=A4.step s5;have pne:p≠acc:=fun z=>by rw[z,hH4] at hp;cases hp
    have pnp:p∉ps:=fun z=>by rw[hE4 p z] at hp;cases hp
    have hH5:upd H4 p (.lst []) acc=aa (.lst (ps.map V.ref)):=s5.hh _ _ hH4;refine⟨hH5,by omega,xs.length-(i+1),by omega,rfl,hlt,by rw[qi,qW];omega,G4,ρ1,ps++[p],zs,?_,no1,bK,by rw[dS];rfl,fun b hb=>?_,?_,fun q hq=>?_,h5,?_⟩
    .refine⟨⟨fun b o e=>?_,A5.st.gg,fun b o e=>?_,A5.st.out⟩,.ofSh A5.env.len no1 A5.env.sh⟩
     .rw[aO (ce e hacc)];exact A5.st.hh b o e
     .rw[aO (ce e (hG4 acc qf))];exact A5.st.gh b o e
    .rcases cy.mp hb with rfl|hb
     .exact⟨hacc,hG4 _ qf⟩
     .rcases cD.mp hb with hb|hb
      .exact⟨(hfr b (qg _ hb)).1,hG4 b (qg _ hb)⟩
      .rw[b8.mp hb];refine⟨?_,A4.gh.free hp⟩;cases hb0:H1 p with
       |none=>rfl
       |some o=>rw[A4.st.hh p o hb0] at hp;cases hp
    .have nd':=eJ.mp nd;refine eJ.mpr ⟨fun z=>?_,lj.mpr ⟨nd'.2,by simp,fun a ha b hb z=>?_⟩⟩
     .rcases cD.mp z with z|z
      .exact nd'.1 z
      .exact pne (b8.mp z).symm
     .rw[b8.mp hb] at z;exact pnp (z▸ha)
    .rcases cD.mp hq with hq|hq
     .rw[aO (fun z=>(eJ.mp nd).1 (by rw[←z];exact hq)),aO (fun z=>pnp (by rw[←z];exact hq))];exact hE4 q hq
     .rw[b8.mp hq,aO pne,bK]
    .rw[qi,qW];rw[qh] at hd;omega
  .left
   have e:i=xs.length:=by omega
   subst e;rw[z4] at hr;cases hr;refine⟨Y.stop G' H' A'.st.gg A'.gh,?_⟩;exact k acc ps G' H' (s1.trans A'.st) (fun b hb=>⟨s1.hh.free (hfr b hb).1,(hfr b hb).2⟩) nd hacc' (by simpa using hd) hem
theorem Qp (i:ah) {lp:dh} (hN:X.N.Nodup) (hc:X.calm=al) (S:CompScope X scope) (F:FvOk X N' scope fv) (hi:DI Γ X tg iter fi) (hb:DB Γ X N' scope tg ifs (.Constant .none j cp) g ft (vC .non))
  (hy:X.N[i]?=aa y:=by rfl) (hyl:X.env.scope.names.lookup y=aa .local:=by rfl) (hsw:e8 (.ListComp (.List [] lp) [⟨tg,iter,ifs,0⟩] scope pos) (aa (.Name y py)) spos.line X.env=bq al:=by rfl) (hs:∀x,lZ iter X.env x=bq x:=by intro _;rfl) :
  DS Γ X (.Assign [.Name y py] (.ListComp (.List [] lp) [⟨tg,iter,ifs,0⟩] scope pos) spos) (kK i (oA (bh fi g ft (vC .non) fv))):=⟨(we hN hy hyl hc S F hi.1 (fun cl C s₀ H₀ fp=>⟨(hb.1 cl C s₀ H₀ fp).1.pg,(hb.1 cl C s₀ H₀ fp).2.1.1,yp⟩) hsw hs).imp fun E σ H q=>Qw (hb.1 [] 0 X.s₀ X.H₀ []).1.no σ H _ (FY E σ H q)⟩
end
section
open PyProof
theorem Be {it t:av} {items:b7 Value} (hne:t≠it):∀(n i:ah) (s:aH) (Q:ac Value->aH->Prop),s.heap.IsListIter it t i->s.heap.IsList t items->i+n<=items.size->
  (∀h':Heap,h'.IsListIter it t (i+n)->jp it s.heap h'->Q ((items.toList.drop i).take n) {s with heap:=h'})->aG .(B) A (draw (.ref it) n) Q E s
 |0,i,s,Q,hit,_,_,hQ=>by
  show aG _ _ (bq []) Q E s;exact qA (by simpa using hQ s.heap hit (GG ..))
 |n+1,i,s,Q,hit,ht,hle,hQ=>by
  have hlt:i<items.size:=by omega
  show aG _ _ (nz (.ref it) >>= _) Q E s;refine qx (SN hit ht (x:=items[i]) (by simp[hlt]) fun h₁ hit₁ hs₁=>?_);refine qx (qT (Be hne n (i+1) _ _ hit₁ (ht.extBut hs₁.extBut hne) .(a) fun h₂ hit₂ hs₂=>qA ?_));have hd:items.toList.drop i=items[i]::items.toList.drop (i+1):=by simp[vG,hlt]
  have:=hQ h₂ (by rw[show i+(n+1)=i+1+n by omega];exact hit₂) (hs₁.trans hs₂);rw[hd,Av] at this;exact this
theorem Kb {t:av} {Q:ac Value->aH->Prop} (hh:A.handled=ae) (ht:s.heap.IsList t items)
  (hQ:∀h',Ut s.heap.objs.size s.heap h'->Q items.toList {s with heap:=h'}):aG .(B) A (unpackItems (.ref t) items.size ae) Q E s:=by
 have hlt:t≠s.heap.objs.size:=by obtain⟨o,ho,_⟩:=ht;exact qC (qu ho)
 unfold unpackItems;refine qx ?_
 .unfold notIterableAtAll;refine qx (GB ht.typeIs slot_list_iter.lookup ?_);refine qA ?_;simp only[qq,dv];refine qx (qT (vE ht ?_));refine qx (qT (Be hlt items.size 0 _ _ ⟨_,qG _ rfl,rfl,rfl⟩ (ht.at fun o q=>qt _ q) .(a) fun h₁ hit₁ hs₁=>?_));have hall:vN items.size (List.drop 0 items.toList)=items.toList:=by rw[mf];exact lg (by simp)
  rw[hall];rw[qZ (by simp)];have ht₁:h₁.IsList t items:=(ht.at fun o q=>qt _ q).extBut hs₁.extBut hlt;refine qx (qT (SO hh hit₁ ht₁ (by simp) fun h₂ he₂=>?_));simp only[Option.isSome_none,qq,dv];refine qA (hQ h₂ fun b o hb e=>he₂ b o hb (hs₁.extBut b o hb (qt _ e)))
theorem Qh {x1} {t:av} {Q:jk->aH->Prop} (hh:A.handled=ae) (ht:s.heap.IsList t items)
  (hn:(gd elts env).length=items.size) (hstar:(gd elts env).findIdx? (·.1)=ae)
  (h:∀h',Ut s.heap.objs.size s.heap h'->aG .(B) A (assignInOrder ((gd elts env).map (·.2)) items.toList) Q E {s with heap:=h'}) :
  aG .(B) A (iU (.Tuple elts x1 pos) env (.ref t)) Q E s:=by
 rw[assign_Tuple];refine qx (sy ?_);unfold unpack;rw[hn,hstar];exact qx (qT (Kb hh ht h))
inductive gLst (K:aV) (n:ah) (t:TGs) (v:V) (σ:St) (H:Hp) (Q:St->Hp->Prop):Prop where
 |mk:∀a xs,v=.ref a->SqL K H a xs->xs.length=n->t xs σ H Q->gLst K n t v σ H Q
theorem IX {k:ah} {t:TGs} (hc:X.calm=al) (h:PGs X es t)
  (hn:(gd es X.env).length=n:=by rfl) (hst:(gd es X.env).findIdx? (·.1)=ae:=by rfl):PG X (.Tuple es k pos) (gLst X.K n t):=by
 intro pins s σ H v u Q I r hw;obtain⟨a,xs,e1,hq,hl,hw⟩:=hw;subst e1;cases r;obtain⟨its,rv,ht,hz⟩:=I.list hq;refine Qh (I.ok.hd hc) ht.isList (by simp[hn,←hl,rv.length]) hst fun h' hx=>?_;have I1:Inv X pins σ H {s with heap:=h'}:=I.kept (t':=s.toks) fun b o e=>hx b o (qC (qu e)) e;exact h pins _ σ H xs _ Q I1 (by simpa using rv) hw
end
section
variable {a:Expr}
noncomputable def hV (n:ah) (gs:FGs):FG:=fun d ρ=>match d with
 |.lst ds=>if ds.length=n then gs ds ρ else ae
 |_=>ae
theorem mI {k:ah} {gs:FGs} (hc:X.calm=al) (h:DGs Γ X ts gs) (hn:(gd ts X.env).length=n:=by rfl) (hst:(gd ts X.env).findIdx? (·.1)=ae:=by rfl):DG Γ X (.Tuple ts k pos) (hV n gs):=by
 refine⟨fun pins s σ H v u Q I r hw=>IX hc h.pg hn hst pins s σ H v u Q I r ?_,fun ds ρ ρ' e q=>?_⟩
 .obtain⟨G₀,H₀,G,ρ,d,ρ',A,r,h,k⟩:=hw;unfold hV at h;split at h
  .split at h
   .rename_i hl;obtain⟨a,vs,rfl,ha,rv⟩:=r.lst_inv;exact⟨a,vs,rfl,.inl (.inl (A.gh _ _ ha)),by rw[rv.length];exact hl,G₀,H₀,G,ρ,_,ρ',A,rv,h,k⟩
   .cases h
  .cases h
 .unfold hV at e;split at e
  .split at e
   .exact h.no _ _ _ e q
   .cases e
  .cases e
noncomputable def i7:D->D->ar D
 |.int i,.int j=>if 0<=j then aa (.int (i / 2 ^ j.toNat)) else ae
 |_,_=>ae
theorem wx (ha:DE Γ X a fa) (hb:DE Γ X b fb):DE Γ X (.BinOp a .RShift b pos) (b2 i7 fa fb):=kU O5 (rg fun x y z h=>by
 unfold i7 at h;split at h
 .split at h<;>cases h;exact⟨_,_,rfl,rfl,by assumption,rfl⟩
 .cases h) ha hb
end
noncomputable def kL:D->D->ar D
 |.tup x,.tup y=>if x≠[]/\y≠[]/\x.length+y.length<=aL then aa (.tup (x++y)) else ae
 |_,_=>ae
section
variable {a:Expr}
theorem Ou :gy Γ K kL (Bb K):=by
 intro G H v u x y z gh r1 r2 h Q k;unfold kL at h;split at h
 .split at h
  .rename_i hz;cases h;obtain⟨a,vs,rfl,ha,ra⟩:=r1.tup_inv;obtain⟨b,us,rfl,hb,rb⟩:=r2.tup_inv;refine⟨a,b,vs,us,rfl,rfl,.inl (.inl (gh _ _ ha)),.inl (.inl (gh _ _ hb)),?_,by rw[ra.length,rb.length];exact hz.2.2,?_⟩
   .intro z;subst z;have:=ra.length;exact hz.1 (GL.mp this.symm)
   .refine⟨fun z=>?_,fun _ p hp=>uv gh (ra.append rb) k p hp⟩;subst z;have:=rb.length;exact bB (GL.mp this.symm) hz.2.1
  .cases h
 .cases h
theorem C2 (ha:DE Γ X a fa) (hb:DE Γ X b fb):DE Γ X (.BinOp a .Add b pos) (b2 kL fa fb):=kU K7 Ou ha hb
end
noncomputable def lu (ks:ac aj) (ds:ac α):ac (Key×α):=(ks.map cL).zip ds
theorem D5:∀(more acc:ac (Key×V)),(more.map (·.1)).Nodup->(∀k∈more.map (·.1),k∉acc.map (·.1))->kO acc more=acc++more
 |[],acc,_,_=>by simp[kO]
 |(k,v)::r,acc,nd,ap=>by
  have h0:dE acc k v=acc++[(k,v)]:=by unfold dE;rw[qZ];intro h;obtain⟨kv,h1,h2⟩:=List.any_eq_true.mp h;exact ap k (by simp) (bQ.mpr ⟨kv,h1,sL h2⟩)
  have ih:=D5 r (acc++[(k,v)]) (eJ.mp nd).2 (fun k' hk' hm=>?_)
  .show kO (dE acc k v) r=_;rw[h0,ih,qw];rfl
  .rw[dS] at hm;rcases cD.mp hm with hm|hm
   .exact ap k' (by simp[hk']) hm
   .have:k'=k:=by simpa using hm
    exact(eJ.mp nd).1 (this▸hk')
theorem sY {α β:Type}:∀{l:ac α} {m:ac β},l.length=m.length->(l.zip m).map (·.1)=l
 |[],[],_=>rfl
 |[],_::_,h=>by simp at h
 |_::_,[],h=>by simp at h
 |x::l,y::m,h=>by simp[sY (l:=l) (m:=m) (by simpa using h)]
theorem zh {α β:Type}:∀{l:ac α} {m:ac β},l.length=m.length->(l.zip m).map (·.2)=m
 |[],[],_=>rfl
 |[],_::_,h=>by simp at h
 |_::_,[],h=>by simp at h
 |x::l,y::m,h=>by simp[zh (l:=l) (m:=m) (by simpa using h)]
theorem Eo:∀(ks:ac aj) (vs:ac V),(ks.map V.str).zip vs=(lu ks vs).map fun kv=>(kV kv.1,kv.2)
 |[],_=>rfl
 |_::_,[]=>rfl
 |k::ks,v::vs=>by exact cC (fun z=>(V.str k,v)::z) (Eo ks vs)
section
variable {a:Expr}
noncomputable def inT (x y:D):ar ba:=(pdD x).bind fun p=>(pdD y).bind fun q=>match q with
 |.tuple l=>if fy p=al/\gf l=al then aa (l.any fun z=>fM z p) else ae
 |_=>ae
def whL (ft:FT) (g:FS):ah->FS
 |0,_=>ae
 |n+1,ρ=>(ft ρ).bind fun b=>if b=al then (g ρ).bind fun r=>match r.1 with
   |.nx=>whL ft g n r.2
   |.rt d=>aa (.rt d,r.2)
   |_=>ae
  else aa (.nx,ρ)
theorem OA (n:ah) (hp:vf .(k) X.A X.env X.xe) (hc:DT Γ X c ft) (hb:DSs Γ X body g):DS Γ X (.While c body [] pos) (whL ft g n):=⟨(M1 hp hc.1 hb.1).imp fun E σ H=>by
 rintro⟨G₀,H₀,G,ρ,fl,ρ',A,h,k⟩;refine⟨fun m σ' H'=>∃G' ρ1,bo G G'/\At Γ X.K G₀ H₀ G' H' ρ1 σ'/\whL ft g m ρ1=aa (fl,ρ'),⟨n,G,ρ,.refl _,A,h⟩,?_⟩;rintro m σ' H' ⟨G',ρ1,sm,A',hr⟩;cases m with
 |zero=>cases hr
 |succ m=>
  unfold whL at hr;obtain⟨b,hb,hr⟩:=oBd hr;refine⟨G₀,H₀,G',ρ1,b,A',hb,fun G1 H1 s1=>?_⟩;cases b with
  |false=>
   rw[qZ qr] at hr;cases hr;exact kh (k σ' G1 H1 (sm.trans s1.gg) (A'.step s1))
  |true=>
   rw[qY rfl] at hr;obtain⟨⟨fl2,ρ2⟩,h2,hr⟩:=oBd hr;refine g9 ⟨fun σ3 H3=>fl2=.nx/\∃G3,bo G G3/\At Γ X.K G₀ H₀ G3 H3 ρ2 σ3,fun σ3 H3 ⟨hfl,G3,sm3,A3⟩=>?_,G₀,H₀,G1,ρ1,fl2,ρ2,A'.step s1,h2,fun σ3 G3 H3 sm3 A3=>?_⟩
   .subst hfl;exact⟨m,oY _,G3,ρ2,sm3,A3,hr⟩
   .have smm:=(sm.trans s1.gg).trans sm3;cases fl2 with
    |nx=>exact⟨rfl,G3,smm,A3⟩
    |rt d=>cases hr;exact k σ3 G3 H3 smm A3
    |_=>cases hr⟩
end
section
variable {a:Expr}
def ia:FQ
 |[.str x]=>if x.length<=640 then (Aw x).map D.int else ae
 |_=>ae
theorem KM:fN X (.type "int") (fun xs H Q=>∃(x:aj) (n:ag),xs=[.str x]/\Aw x=aa n/\x.length<=640/\Q (.int n) H):=by intro pins s σ H xs us Q I r h;obtain⟨x,n,rfl,hn,hl,q⟩:=h;obtain⟨u,rfl,t,rfl⟩:=gN r;exact VB hn hl ⟨.int n,H,I.tok _,⟨_,rfl⟩,q⟩
theorem jK:TyD Γ X "int" ia:=⟨_,KM,fun {G H vs ds z} gh r h Q k=>by
 unfold ia at h;split at h
 .split at h
  .obtain⟨n,hn,rfl⟩:=oMd h;obtain⟨v,rfl,r1⟩:=r.one;cases r1.str_inv;exact⟨_,n,rfl,hn,by assumption,k _ G H .(ap) (.int _)⟩
  .cases h
 .cases h⟩
def xz (x y:D):ar D:=(inT x y).map fun b=>D.bl (!b)
theorem Og (hu:X.A.units+66<di):OpR X (eF .NotIn) (fun x y H Q=>∃G d e b,bo G H/\Rep Γ X.K G x d/\Rep Γ X.K G y e/\inT d e=aa b/\Q (.bl (!b)) H):=by
 intro pins s σ H x y v u Q I rx ry h;obtain⟨G,d,e,b,gh,r1,r2,hb,q⟩:=h;unfold inT at hb;obtain⟨p,hp,hb⟩:=oBd hb;obtain⟨t,ht,hb⟩:=oBd hb;split at hb
 .split at hb
  .rename_i l hz;cases hb;obtain⟨as,a1⟩:=r1.reads I gh rx hp;obtain⟨bs,a2⟩:=r2.reads I gh ry ht;obtain⟨c1,c2⟩:=xG hz.1;have:=zI (jv l) p.depth;exact SeqAt.notIn_tuple_reads a2 a1 hz.2 c1 .(a) ⟨.bl _,H,I,rfl,q⟩
  .cases hb
 .cases hb
theorem Jt (hu:X.A.units+66<di):CmpD Γ X .NotIn xz:=⟨_,Og (Γ:=Γ) hu,fun {G H v u x y z} gh r1 r2 h Q k=>by obtain⟨b,hb,rfl⟩:=oMd h;exact⟨G,x,y,b,gh,r1,r2,hb,k _ G H .(ap) (.bl _)⟩⟩
theorem xO (l:ac α):∀is:ac ah,(is.filterMap (l[·]?)).length<=is.length:=fun is=>List.length_filterMap_le _ _
end
noncomputable def yg (i:ah) (ks:ac aj):FS:=fun ρ=>aa (.nx,ρ.set i (aa (.odl ks (bS ks.length []))))
inductive TDdl (Γ:Cn) (K:aV) (ks:ac aj) (σ:St) (H:Hp) (Q:VK):Prop where
 |mk:∀G₀ H₀ G ρ,At Γ K G₀ H₀ G H ρ σ->(∀(a:av) (ps:ac av) G' H',Step G H G' H'->(∀b∈a::ps,H b=ae/\G' b=ae)->(a::ps).Nodup->H' a=aa (.dK (gK ks ps))->ks.length=ps.length->(∀b∈ps,H' b=aa (.lst []))->Q (.ref a) H')->TDdl Γ K ks σ H Q
def elT (ks:ac aj):ac (TE×TE):=ks.map fun k=>(tC (.str k),uD)
structure ELs (X:Cx) (pos:dh) (keys:ac (ar Expr)) (values:ac Expr) (ks:ac aj):Prop where
 ex:PPs X pos keys values (elT ks)
theorem DY:∀(ks:ac aj) (σ:St) (G H:Hp) (Q:ac (V×V)->Hp->Prop),bo G H->(∀(ps:ac av) H',Step G H G H'->ps.length=ks.length->ps.Nodup->(∀b∈ps,H b=ae)->(∀b∈ps,H' b=aa (.lst []))->Q ((ks.map V.str).zip (ps.map V.ref)) H')->t4 (elT ks) σ H Q
 |[],σ,G,H,Q,gh,k=>k [] H .(ap) rfl lh (fun _ h=>by cases h) (fun _ h=>by cases h)
 |x::ks,σ,G,H,Q,gh,k=>fun p hp=>DY ks σ G _ _ (Step.newOwn (o:=.lst []) gh hp).gh fun ps H' st hl nd h0 h1=>by
   have s1:=Step.newOwn (o:=.lst []) gh hp;refine k (p::ps) H' (s1.trans st) (by simp[hl]) (eJ.mpr ⟨fun z=>?_,nd⟩) (fun b hb=>?_) (fun b hb=>?_)
   .have:=h0 p z;rw[bK] at this;cases this
   .rcases cy.mp hb with rfl|hb
    .exact hp
    .by_cases e:b=p
     .rw[e];exact hp
     .have:=h0 b hb;rw[aO e] at this;exact this
   .rcases cy.mp hb with rfl|hb
    .exact st.hh _ _ bK
    .exact h1 b hb
section
variable {ks:ac aj}
theorem Kf:ELs X pos [] [] []:=⟨OK⟩
theorem mH {j kp lp} (r:ELs X pos keys values ks):ELs X pos (aa (.Constant (.str y) j kp)::keys) (.List [] lp::values) (y::ks):=⟨Rl wW yp r.ex⟩
theorem KP :∀E σ H,TDs Γ X.K (yg i ks) E σ H->lx (TDdl Γ X.K ks) (lH i) E σ H:=by
 rintro E σ H ⟨G₀,H₀,G,ρ,fl,ρ',A,h,k⟩;cases h;refine⟨G₀,H₀,G,ρ,A,fun a ps G' H' s hf nd ha hl he=>k _ G' _ s.gg ?_⟩;refine A.put (fp:=[]) (fp':=a::ps) .(aq) (fun b o e _=>s.hh b o e) (SR.odl (vss:=bS ps.length []) (fun b hb=>⟨?_,(hf b hb).2⟩) nd ha hl (eZ.emp he) (by rw[hl];exact eR.emp _)) (fun b hb=>.inr (hf b hb).1) s.gg s.gh (fun b o e _=>s.out b o e) (fun b hb=>by cases hb);cases hb0:H₀ b with
 |none=>rfl
 |some o=>
  have z:=(hf b hb).1;rw[A.st.hh b o hb0] at z;cases z
theorem Me (nd:ks.Nodup) (h15:ks.length<=15):∀σ H Q,TDdl Γ X.K ks σ H Q->Cp (elT ks) σ H Q:=by
 rintro σ H Q ⟨G₀,H₀,G,ρ,A,k⟩ p hp;have s0:=Step.newOwn (o:=.dK []) A.gh hp;refine DY ks σ G _ _ s0.gh fun ps H2 st hl ndp h0 h1=>?_;have hp2:H2 p=aa (.dK []):=st.hh _ _ bK;have hpn:p∉ps:=fun z=>by rw[h1 p z] at hp2;cases hp2
 have hlr:(ks.map (cL:aj->Key)).length=(ps.map V.ref).length:=by rw[qe,qe,hl]
 refine⟨hp2,gK ks ps,Eo ks _,by unfold gK;rw[List.length_zip,qe];omega,?_⟩;have e1:kO [] (gK ks ps)=gK ks ps:=by have:=D5 (gK ks ps) [] (by unfold gK;rw[sY hlr];exact vX _ (fun a b h z=>h (su z)) nd) (fun _ _ h=>by cases h);simpa using this
 rw[e1];have gp:G p=ae:=A.gh.free hp;refine k p ps G _ ⟨fun b o e=>?_,.refl _,fun b o e=>?_,fun _ _ _=>rfl⟩ (fun b hb=>?_) (eJ.mpr ⟨hpn,ndp⟩) bK hl.symm (fun b hb=>?_)
 .rw[aO (ce e hp)];exact(s0.trans st).hh b o e
 .rw[aO (ce e gp)];exact st.gh b o e
 .rcases cy.mp hb with rfl|hb
  .exact⟨hp,gp⟩
  .have h2:=h0 b hb;have hbp:b≠p:=fun z=>hpn (z▸hb);rw[aO hbp] at h2;exact⟨h2,A.gh.free h2⟩
 .have hbp:b≠p:=fun z=>hpn (z▸hb);rw[aO hbp];exact h1 b hb
theorem RE (i:ah) (hN:X.N.Nodup) (h:ELs X dp keys values ks) (nd:ks.Nodup) (h0:keys≠[]) (h15:ks.length<=15) (hk:keys.length=ks.length:=by rfl) (hall:keys.all (·.isSome)=al:=by rfl) (hl:keys.length=values.length:=by rfl) (hi:X.N[i]?=aa x:=by rfl) (hx:Loc X.env.scope x:=by ac_nf)
  (hs:e8 (.Dict keys values dp) (aa (.Name x pos')) pos.line X.env=bq aq:=by rfl) (hf:X.fn x=al\/X.env.scope.names.lookup x=aa .local:=by ac_nf) :
  DS Γ X (.Assign [.Name x pos'] (.Dict keys values dp) pos) (yg i ks):=⟨(oz hN hi hx ((Lk h.ex hall hl h0 (by rw[hk];exact h15)).imp (Me nd h15)) hs hf).imp KP⟩
def dlD (ks:ac aj) (dss:ac (ac D)):D:=.dk (lu ks (dss.map D.lst))
theorem At.frzDL (A:At Γ K G₀ H₀ G H ρ σ) (hi:ρ[i]?=aa (aa (.odl ks dss))):∃G',bo G G'/\At Γ K G₀ H₀ G' H (ρ.set i (aa (.sh (dlD ks dss)))) σ:=by
 obtain⟨v,fp,h1,h2⟩:=A.get hi;cases h2 with
 |odl q1 q2 q3 ql q4 q5=>
  rename_i a ps vss;have sm:bo G (fun b=>if b∈a::ps then H b else G b):=fun b o e=>by
   have:b∉a::ps:=fun z=>by rw[(q1 b z).2] at e;cases e
   show(if b∈a::ps then H b else G b)=_;rw[qZ this];exact e
  have hG':∀b∈a::ps,(fun b=>if b∈a::ps then H b else G b) b=H b:=fun b hb=>qY hb;have l1:(ks.map (cL:aj->Key)).length=(ps.map V.ref).length:=by rw[qe,qe,ql]
  have l2:(ks.map (cL:aj->Key)).length=(dss.map D.lst).length:=by rw[qe,qe,ql,q4.len,q5.len]
  refine⟨_,sm,A.ch hi h1 (.odl q1 q2 q3 ql q4 q5) (fun b o e _=>e) (.sh (.dk ((hG' a qf).trans q3) ?_ ?_)) (fun b hb=>by cases hb) sm (fun b o e=>?_) (fun b o e hb=>qZ hb)⟩
  .unfold gK lu;rw[sY l1,sY l2]
  .unfold gK lu;rw[zh l1,zh l2];exact eR.reps sm (q4.stay fun b hb=>hG' b (qg _ hb)) q5
  by_cases hb:b∈a::ps
  .replace e:(if b∈a::ps then H b else G b)=aa o:=e
   rw[qY hb] at e;exact e
  .replace e:(if b∈a::ps then H b else G b)=aa o:=e
   rw[qZ hb] at e;exact A.gh b o e
def nS (i:ah) (g:FS):FS:=fun ρ=>match ρ[i]? with
 |some (aa (.odl ks dss))=>g (ρ.set i (aa (.sh (dlD ks dss))))
 |_=>ae
theorem TDs.frzDL (i:ah):∀E σ H,TDs Γ X.K (nS i g) E σ H->TDs Γ X.K g E σ H:=by
 rintro E σ H ⟨G₀,H₀,G,ρ,fl,ρ',A,h,k⟩;unfold nS at h;split at h
 .rename_i ks ds hi;obtain⟨G',sm,A'⟩:=A.frzDL hi;exact⟨G₀,H₀,G',_,fl,ρ',A',h,fun σ1 G1 H1 sm1 A1=>k σ1 G1 H1 (sm.trans sm1) A1⟩
 .cases h
theorem IW (i:ah) (h:DSs Γ X sts g):DSs Γ X sts (nS i g):=⟨h.1.imp (TDs.frzDL i)⟩
def lQ (i:ah) (ft:FT):FT:=fun ρ=>match ρ[i]? with
 |some (aa (.odl ks dss))=>ft (ρ.set i (aa (.sh (dlD ks dss))))
 |_=>ae
theorem Bu (i:ah) (h:DT Γ X e ft):DT Γ X e (lQ i ft):=⟨h.1.imp fun σ H Q=>by
 rintro⟨G₀,H₀,G,ρ,b,A,h,k⟩;unfold lQ at h;split at h
 .rename_i ks ds hi;obtain⟨G1,sm,A1⟩:=A.frzDL hi;exact⟨G₀,H₀,G1,_,b,A1,h,fun G' H' s=>k G H' (s.back A.gh sm)⟩
 .cases h⟩
noncomputable def kix:ac aj->aj->ar ah
 |[],_=>ae
 |x::r,k=>if x=k then aa 0 else (kix r k).map (·+1)
theorem AT:∀{ks:ac aj} {ps:ac av} {k:aj} {j:ah},kix ks k=aa j->ks.length=ps.length->∃p,ps[j]?=aa p/\gR (gK ks ps) (cL k)=aa (.ref p)
 |[],_,_,_,h,_=>by cases h
 |_::_,[],_,_,_,h=>by simp at h
 |x::ks,p::ps,k,j,h,hl=>by
  unfold kix at h;split at h
  .rename_i e;cases h;refine⟨p,rfl,?_⟩;show(Ax _ ((cL x,V.ref p)::gK ks ps)).map _=_;rw[Uu (by simp[e])];rfl
  .rename_i e;obtain⟨j',h1,rfl⟩:=oMd h;obtain⟨q,h2,h3⟩:=AT h1 (ps:=ps) (by simpa using hl);refine⟨q,by simpa using h2,?_⟩;show(Ax _ ((cL x,V.ref p)::gK ks ps)).map _=_;rw[Uv (by simpa using e)];exact h3
def p6 (i:ah) (fk f:FE):FS:=fun ρ=>match ρ[i]? with
 |some (aa (.odl ks dss))=>(fk ρ).bind fun k=>(f ρ).bind fun d=>match k with
  |.str y=>(kix ks y).bind fun j=>match dss[j]? with
   |some ds=>if ds.length<aL then aa (.nx,ρ.set i (aa (.odl ks (dss.set j (ds++[d]))))) else ae
   |none=>ae
  |_=>ae
 |_=>ae
theorem Jv (i:ah) {sp:dh} (hu:X.A.units+66<di) (hk:DE Γ X ek fk) (h:DE Γ X e f) (hN:X.N[i]?=aa x:=by rfl) (hv:Vis X.env.scope x:=by ac_nf) (hd:.(x)=aq:=by decide)
  (hcd:.(aC)=aq:=by decide) (hpi:sV ek:=by intro _ _;rfl)
  (hbase:jr (.Subscript .(X) ek sp) "append" X.env (eval (.Subscript .(X) ek sp) X.env)=eval (.Subscript .(X) ek sp) X.env:=by rfl)
  (hfew:((cW cpos (bc [e] X.env)).all (fun x=>!x.1) && (l' cpos (ma [] X.env)).all (fun x=>x.1.isSome)
   && decide .(aE))=al:=by rfl)
  (hline:(apos.endLine==cpos.line)=al:=by rfl) (hs:bc [e] X.env=(aq,eval e X.env)::bc [] X.env:=by rfl) (hplain:(cW cpos (bc [] X.env)).any (·.1)=aq:=by rfl)
  (hsw:e8 .(aH) ae pos.line X.env=bq aq:=by rfl) :
  DS Γ X (.Expr .(aH) pos) (p6 i fk f):=⟨(pO (pQ z5 zT GQ sU (Fs .(a) (eC hN hv hd hcd) hk.1 hpi) (dq h.1 fD hs) hbase hfew hline hs hplain) hsw).imp fun E σ H=>by
  rintro⟨G₀,H₀,G,ρ,fl,ρ',A,h,k⟩;unfold p6 at h;split at h
  .rename_i ks dss hi;obtain⟨kd,hkd,h⟩:=oBd h;obtain⟨d,hd',h⟩:=oBd h;split at h
   .rename_i y _;obtain⟨j,hj,h⟩:=oBd h;split at h
    .rename_i ds hds;split at h
     .rename_i hz;cases h;obtain⟨v,fp,h1,h2⟩:=A.get hi;cases h2 with
      |odl q1 q2 q3 ql q4 q5=>
       rename_i a ps vss;refine⟨.ref a,h1,G₀,H₀,G,ρ,.str y,A,hkd,fun v1 G1 H1 s1 r1=>?_⟩;cases r1.str_inv;obtain⟨vs,hvs,rvs⟩:=q5.at' hds;obtain⟨p',hp',hHp⟩:=q4.at' hvs;obtain⟨p,hp,hval⟩:=AT hj ql;rw[hp'] at hp;cases hp;refine⟨a,.ref p',rfl,hval▸jf.k (k:=cL y) (s1.hh _ _ q3),.inl ⟨rfl,vs,.inl (.inl (s1.hh _ _ hHp))⟩,G₀,H₀,G1,ρ,d,A.step s1,hd',fun u G2 H2 s2 r2=>?_⟩;have S2:=(SR.odl (Γ:=Γ) (K:=X.K) q1 q2 q3 ql q4 q5).stepS (s1.trans s2);have A2:=(A.step s1).step s2;refine⟨p',vs,u,rfl,rfl,s2.hh _ _ (s1.hh _ _ hHp),by rw[rvs.length];exact hz,?_⟩;have hpm:p'∈a::ps:=qg _ (qP hp');refine k σ G2 _ (s1.gg.trans s2.gg) (A2.ch hi h1 S2 (fun b o e hb=>?_) (.odl (fun b hb=>⟨(q1 b hb).1,(S2.fpt b hb).2.1⟩) q2 ?_ ql ((q4.stay fun b hb=>?_).put (eJ.mp q2).2 hp') ((q5.map fun r=>r.mono (s1.gg.trans s2.gg)).put ((rvs.mono (s1.gg.trans s2.gg)).append (.cons r2 .nil)))) (fun b hb=>.inl hb) (.refl _) (fun b o e=>?_) (fun _ _ _ _=>rfl))
       .rw[aO (fun z=>hb (by rw[z];exact hpm))];exact e
       .rw[aO (fun z=>(eJ.mp q2).1 (by rw[z];exact qP hp'))];exact s2.hh _ _ (s1.hh _ _ q3)
       .obtain⟨o,ho⟩:=q4.mem b hb;rw[ho];exact s2.hh _ _ (s1.hh _ _ ho)
       .rw[aO (ce e (S2.fpt p' hpm).2.1)];exact A2.gh b o e
     .cases h
    .cases h
   .cases h
  .cases h⟩
end
section
variable {a:Expr} {m:aj}
end
section
variable {c m:aj}
def emT:ah->TA
 |0=>tu
 |n+1=>xk uD (emT n)
structure EMs (X:Cx) (es:ac Expr) (n:ah):Prop where
 ex:PA X es (emT n)
theorem Ly:EMs X [] 0:=⟨fD⟩
theorem Cb (r:EMs X es n) (hs:bc (.List [] p::es) X.env=(aq,eval (.List [] p) X.env)::bc es X.env:=by rfl):EMs X (.List [] p::es) (n+1):=⟨dq yp r.ex hs⟩
theorem AM:∀(n:ah) (σ:St) (G H:Hp) (Q:ac V->Hp->Prop),bo G H->(∀(ps:ac av) H',Step G H G H'->ps.length=n->ps.Nodup->(∀b∈ps,H b=ae)->(∀b∈ps,H' b=aa (.lst []))->Q (ps.map V.ref) H')->emT n σ H Q
 |0,σ,G,H,Q,gh,k=>k [] H .(ap) rfl lh (fun _ h=>by cases h) (fun _ h=>by cases h)
 |n+1,σ,G,H,Q,gh,k=>fun p hp=>AM n σ G _ _ (Step.newOwn (o:=.lst []) gh hp).gh fun ps H' st hl nd h0 h1=>by
   have s1:=Step.newOwn (o:=.lst []) gh hp;refine k (p::ps) H' (s1.trans st) (by simp[hl]) (eJ.mpr ⟨fun z=>?_,nd⟩) (fun b hb=>?_) (fun b hb=>?_)
   .have:=h0 p z;rw[bK] at this;cases this
   .rcases cy.mp hb with rfl|hb
    .exact hp
    .by_cases e:b=p
     .rw[e];exact hp
     .have:=h0 b hb;rw[aO e] at this;exact this
   .rcases cy.mp hb with rfl|hb
    .exact st.hh _ _ bK
    .exact h1 b hb
theorem Mb (hn:n<=100):∀σ H Q,TDll Γ X.K (fun _=>aa n) σ H Q->Bx (emT n) σ H Q:=by
 rintro σ H Q ⟨G₀,H₀,G,ρ,n',A,h,k⟩;cases h;refine AM n σ G _ _ A.gh fun ps H' st hl nd h0 h1=>⟨by rw[qe,hl];have:=eI;omega,fun a ha=>?_⟩;have s2:=Step.newOwn (o:=.lst (ps.map V.ref)) st.gh ha;have hap:a∉ps:=fun z=>by rw[h1 a z] at ha;cases ha
 have ha0:H a=ae:=by
  cases hb:H a with
  |none=>rfl
  |some o=>rw[st.hh _ _ hb] at ha;cases ha
 refine k a ps G _ (st.trans s2) (fun b hb=>?_) (eJ.mpr ⟨hap,nd⟩) bK hl (fun b hb=>?_)
 .rcases cy.mp hb with rfl|hb
  .exact⟨ha0,A.gh.free ha0⟩
  .exact⟨h0 b hb,A.gh.free (h0 b hb)⟩
 .rw[aO (fun z=>hap (by rw[←z];exact hb))];exact h1 b hb
theorem QR (i n:ah) {lp:dh} (hN:X.N.Nodup) (h:EMs X es n) (hn:n<=100:=by decide) (hi:X.N[i]?=aa x:=by rfl) (hx:Loc X.env.scope x:=by ac_nf) (hs:e8 (.List es lp) (aa (.Name x pos')) pos.line X.env=bq aq:=by rfl) (hf:X.fn x=al\/X.env.scope.names.lookup x=aa .local:=by ac_nf) :
  DS Γ X (.Assign [.Name x pos'] (.List es lp) pos) (kK i fun _=>aa n):=⟨(oz hN hi hx ((xy h.ex).imp (Mb hn)) hs hf).imp FY⟩
end
theorem P6 (us:ac Value):us=(cz us.length).map fun i=>us.getD i .none:=by
 apply List.ext_getElem
 .simp
 .intro i h1 h2;simp[List.getD_eq_getElem?_getD,qD h1]
theorem bn {F:Value->Value->Value->ar av->Value->Value->l6} (h:∀a b c d e f (v:ah->Value),l9 (F a b c d e f) ⟨(cz ps.length).map v,[]⟩=bq (ps.zip ((cz ps.length).map v))) (a b c:Value) (d:ar av) (e f:Value) (us:ac Value) (hl:us.length=ps.length) :
  l9 (F a b c d e f) ⟨us,[]⟩=bq (ps.zip us):=by
 have:=h a b c d e f fun i=>us.getD i .none;rw[←hl,←P6 us] at this;exact this
variable {CN:av}
namespace Law
noncomputable def top (i:ah):Stmt:=VC.main.body.getD i (.Pass ⟨0,0,0,0⟩)
noncomputable def Cv:ac aj:=["benches","steps","jobs","setups","links","stocks","horizon","bench_by_name","step_by_name","setup_by_names","job_by_step"]
noncomputable def Gam (C_Shop:av):Cn:=⟨fun c=>if c="Shop" then aa C_Shop else ae,ae⟩
abbrev X4:=aw (aE 5 (b2 aB (b2 aB (b2 bu (vSh 5) (vC (.int 1000000007))) (b2 cq (b2 cq (vC (.int 7919)) (vSh 7)) (vSh 7))) (b2 cq (b2 cq (vC (.int 104729)) (vSh 1)) (vSh 1)))) (aw (aE 5 (b2 bu (b2 cq (b2 aB (vSh 5) .(e)) (vC (.int 48271))) (vC (.int 2147483629)))) (aw (aE 5 (b2 bu (b2 cq (vSh 5) (vSh 5)) (vC (.int 2147483587)))) (cb 6 (b2 bu (b2 fZ (b2 cq (vSh 5) (b2 aB (vSh 5) .(e))) (vC (.int 97))) (vSh 8)))))
def dZ:FQ:=bj 6
  (aw (aE 3 (orD (b2 eqA (vSh 0) (aF (szF ao))) (b2 eqD (b2 bu .(m) .(q)) .(f)))) (aw (aE 4 .(f)) (aw (aE 5 (b2 cq (vSh 1) (vSh 1))) (aw (sIf (toB (b2 ltD (vSh 1) .(aU))) (aE 4 (b2 ixD (vSh 0) (vSh 1))) aQ) (aw (sIf (toB (b2 neA (vSh 0) (aF (szF ao)))) (aE 5 (b2 ixD (vSh 0) (b2 bu (vSh 1) .(aU)))) aQ) (aw (cE 6 (szF ao)) (aw (ci (itE (vSh 2)) (cs 2 (aM (ay 7) (aM (ay 8) bZ))) (sIf (eO (toB (vSh 3)) (toB (b2 gtD (vSh 4) .(e)))) (aw (cb 6 (b2 bu (vSh 4) (vSh 8))) (aE 4 (b2 rH (vSh 4) (vSh 8)))) X4)) (fB 6 (aN (vSh 6))))))))))
def fj:FQ:=bj 2
  (aw (aE 2 (vC (.str "abcdefghijklmnopqrst"))) (aw (aE 3 (b2 ixD (vSh 2) (b2 bu (vSh 1) (vC (.int 20))))) (aw (sIf (orT (toB (b2 gtD (b2 bu (vSh 0) (vC (.int 5))) .(f))) (toB (b2 gtD (vSh 1) (vC (.int 19))))) (aE 3 (b2 aB (b2 ixD (vSh 2) (b2 bu (b2 fZ (vSh 1) (vC (.int 20))) (vC (.int 20)))) (vSh 3))) aQ) (aN (b2 aB (b2 aB (b2 cq (vC (.str "z")) (b2 bu (b2 aB (vSh 0) (vSh 1)) (vC (.int 5)))) (vSh 3)) (b2 cq (vC (.str "y")) (b2 bu (b2 fZ (vSh 0) .(P)) .(F))))))))
abbrev Xb:=aw (aE 11 (b2 aB (b2 aB (vSh 10) .(e)) (b2 ixD (vSh 7) (b2 aB .(q) (b2 cq .(q) (vSh 9)))))) (aw (sIf (toB (b2 leD (vSh 11) (vSh 3))) (cb 6 (bO (szF (af (vSh 10) (af (vSh 11) ao))))) aQ) (aE 8 (b2 aB (vSh 11) .(e))))
def rT:FQ:=bj 8
  (aw (cE 4 (szF ao)) (aw (ci (itR gU .(aW)) (ay 5) (aw (cE 6 (szF ao)) (aw (aE 7 (cF dZ (af (vSh 0) (af (b2 aB .(F) (vSh 5)) (af (b2 aB (aF (szF (af (vC (.int 11)) ao))) (b2 cq (aF (szF (af (vC (.int 7)) (af (vC (.int 6)) ao)))) (vC (.int 10)))) ao))))) (aw (aE 8 .(f)) (aw (ci (itR gU (af (b2 ixD (vSh 7) .(f)) ao)) (ay 9) (aw (aE 10 (b2 aB (vSh 8) (b2 ixD (vSh 7) (b2 aB .(e) (b2 cq .(q) (vSh 9)))))) Xb)) (fB 6 (cb 4 (bO (szF (af (cF fj (af (vSh 1) (af (vSh 5) ao))) (af (vSh 6) ao))))))))))) (fB 4 (aN (vSh 4)))))
abbrev Xc:=fB 9 (cb 5 (bO (szF (af (cF fj (af (vSh 1) (af (b2 aB (b2 cq (vC (.int 20)) (b2 bu (vSh 1) .(q))) (vSh 6)) ao))) (af (cF fj (af (b2 fZ (vSh 1) .(q)) (af (b2 ixD (vSh 7) .(q)) ao))) (af (vSh 9) ao))))))
def tZ:FQ:=bj 7
  (aw (cE 5 (szF ao)) (aw (ci (itR gU .(aW)) (ay 6) (aw (aE 7 (cF dZ (af (vSh 0) (af (b2 aB (vC (.int 11)) (vSh 6)) (af (b2 aB (aF (szF (af .(P) (af (vC (.int 8)) (af (vC (.int 5)) (af .(F) ao)))))) (b2 cq (aF (szF (af .(b) ao))) .(P))) ao))))) (aw (aE 8 (cF eA (af (vSh 4) (af (b2 ixD (aF (szF (af (vC (.int 5)) (af (vC (.int 40)) (af .(b) ao))))) (b2 ixD (vSh 7) .(F))) ao)))) (aw (cE 9 (szF ao)) (aw (ci (itR gU (af (cF eA (af (b2 aB .(e) (b2 ixD (vSh 7) .(f))) (af (cF bw (af (vSh 3) ao)) ao))) ao)) (ay 10) (aw (aE 11 (b2 ixD (b2 ixD (vSh 3) (b2 bu (b2 aB (b2 ixD (vSh 7) .(e)) (vSh 10)) (cF bw (af (vSh 3) ao)))) .(f))) (cb 9 (bO (szF (af (vSh 11) (af (b2 aB .(e) (b2 bu (b2 ixD (vSh 7) (b2 aB .(P) (vSh 10))) (vSh 8))) ao))))))) Xc))))) (fB 5 (aN (vSh 5)))))
abbrev Xa:=aE 14 (b2 eqD (b2 bu (b2 i7 (vSh 7) (cF eA (af (vSh 9) (af (vC (.int 8)) ao)))) .(q)) .(f))
abbrev Xf:=aE 6 (b2 bu (b2 cq (vSh 6) (vC (.int 11))) (b2 aB (vSh 3) .(e)))
abbrev Xg:=sIf (toB (b2 eqD (b2 bu (b2 fZ (vSh 7) (vC (.int 7))) .(q)) .(f))) (aE 13 (b1 mz (vSh 13))) aQ
def tz:FQ:=bj 11
  (aw (gO (hV 4 (aM (ay 4) (aM (ay 5) (aM (ay 6) (aM (ay 7) bZ))))) (cF dZ (af (vSh 0) (af .(e) (af (aF (szF (af (vC (.int 9)) (af .(b) (af .(b) (af (vC (.int 512)) ao)))))) ao))))) (aw (kK 8 (oA (bh (itR gU (af (vSh 4) ao)) (ay 0) tT (vC .non) [ae]))) (aw (ci (itE (vSh 2)) (cs 2 (aM (ay 9) (aM (ay 10) bZ))) (aw (aE 11 (b2 ixD (cF dZ (af (vSh 0) (af (b2 aB (vC (.int 11)) (vSh 9)) (af (aF (szF (af .(P) (af (vC (.int 8)) (af (vC (.int 5)) (af .(F) (af .(b) (af .(b) (af .(b) (af .(b) (af (vC (.int 10)) ao))))))))))) ao)))) (vC (.int 8)))) (sIf (toB (b2 ltD (vSh 11) (vSh 4))) (iN 8 (vSh 11) (b2 ixD (vSh 10) .(f))) aQ))) (aw (cE 12 (szF ao)) (lO 8 (aw (ci (itE (vSh 8)) (cs 2 (aM (ay 9) (aM (ay 13) bZ))) (sIf (toB (b2 neA (vSh 13) (aF (szF ao)))) (aw Xg (aw (aE 5 (b2 bu (b2 cq (vSh 5) (vC (.int 7))) (b2 aB (vSh 3) .(e)))) (aw Xf (aw Xa (cb 12 (bO (szF (af (cF fj (af (b2 aB (vSh 1) .(e)) (af (vSh 9) ao))) (af (vSh 5) (af (vSh 6) (af (vSh 14) (af (vSh 13) ao)))))))))))) aQ)) (fB 12 (aN (vSh 12)))))))))
abbrev Xe:=aE 7 (b2 ixD (b2 ixD (vSh 1) (b2 bu (vSh 7) (cF bw .(w)))) .(f))
def tF:FQ:=bj 9
  (aw (cE 4 (szF ao)) (aw (cE 5 (szF ao)) (aw (ci (itR gU (af (b2 ixD (cF dZ (af (vSh 0) (af .(q) (af (aF (szF (af (vC (.int 21)) ao))) ao)))) .(f)) ao)) (ay 6) (aw (gO (hV 5 (aM (ay 7) (aM (ay 8) (aM (ay 9) (aM (ay 10) (aM (ay 11) bZ)))))) (cF dZ (af (vSh 0) (af (b2 aB (vC (.int 30)) (vSh 6)) (af (aF (szF (af (vC (.int 8)) (af (vC (.int 6)) (af (vC (.int 6)) (af .(q) (af .(b) ao))))))) ao))))) (aw Xe (aw (aE 12 (bO (szF (af (vSh 7) (af (cF fj (af (b2 fZ (vSh 2) .(q)) (af (vSh 8) ao))) (af (cF fj (af (b2 fZ (vSh 2) .(q)) (af (vSh 9) ao))) ao)))))) (sIf (bwT 5 (toB (b2 jb (vSh 12) (vSh 5)))) (aw (cb 5 (vSh 12)) (cb 4 (b2 kL (vSh 12) (bO (szF (af (b2 aB .(e) (b2 bu (vSh 11) (cF eA (af (vSh 3) (af (b2 ixD (aF (szF (af (vC (.int 6)) (af .(b) ao)))) (vSh 10)) ao))))) ao)))))) aQ))))) (fB 4 (aN (vSh 4))))))
def tJ:FQ:=bj 7
  (aw (cE 3 (szF ao)) (aw (cE 4 (szF ao)) (aw (ci (itR gU (af (b2 ixD (cF dZ (af (vSh 0) (af .(q) (af (aF (szF (af (vC (.int 21)) (af (vC (.int 21)) ao)))) ao)))) .(e)) ao)) (ay 5) (aw (gO (hV 4 (aM (ay 6) (aM (ay 7) (aM (ay 8) (aM (ay 9) bZ))))) (cF dZ (af (vSh 0) (af (b2 aB (vC (.int 41)) (vSh 5)) (af (aF (szF (af (vC (.int 40)) (af (vC (.int 40)) (af .(F) (af .(b) ao)))))) ao))))) (aw (aE 6 (b2 ixD (b2 ixD (vSh 1) (b2 bu (vSh 6) (cF bw .(w)))) .(f))) (aw Xe (sIf (bwT 4 (eO (toB (b2 neA (vSh 6) (vSh 7))) (toB (b2 jb .(aA) (vSh 4))))) (aw (cb 4 .(aA)) (cb 3 (bO (szF (af (vSh 6) (af (vSh 7) (af (b2 bu (vSh 9) (cF eA (af (b2 aB (vSh 2) .(e)) (af (b2 ixD (aF (szF (af .(e) (af (vC (.int 8)) (af (b2 aB .(b) .(e)) ao))))) (vSh 8)) ao)))) ao))))))) aQ))))) (fB 3 (aN (vSh 3))))))
def tN:FQ:=bj 14
  (aw (cE 3 (szF ao)) (aw (ci (itR gU (af (b2 ixD (cF dZ (af (vSh 0) (af .(q) (af (aF (szF (af (vC (.int 21)) (af (vC (.int 21)) (af (vC (.int 7)) ao))))) ao)))) .(q)) ao)) (ay 4) (aw (aE 5 (aF (szF (af .(q) (af (b2 aB .(b) .(e)) (af (b2 aB .(b) .(e)) (af (b2 bY .(q) (vC (.int 40))) (af (b2 bY .(q) (vC (.int 40))) (af .(b) ao))))))))) (aw (gO (hV 6 (aM (ay 6) (aM (ay 7) (aM (ay 8) (aM (ay 9) (aM (ay 10) (aM (ay 11) bZ))))))) (cF dZ (af (vSh 0) (af (b2 aB (vC (.int 52)) (vSh 4)) (af (vSh 5) ao))))) (aw (aE 7 (b2 bu (vSh 7) (b2 ixD (aF (szF (af (vC (.int 20)) (af (b2 aB .(b) .(e)) ao)))) (vSh 6)))) (aw (kK 12 fun _=>aa 2) (aw (ci (itE (vSh 2)) (cs 2 (aM (ay 13) (aM (ay 14) bZ))) (aw (aE 15 (b2 aB .(e) (b2 bu (b2 aB (vSh 11) (b2 cq (vC (.int 7919)) (vSh 13))) (b2 ixD (aF (szF (af (vC (.int 9)) (af .(b) ao)))) (vSh 6))))) (aw (sIf (toB (b2 eqD (b2 bu (b2 i7 (vSh 9) (vSh 13)) .(q)) .(e))) (iN 12 .(f) (bO (szF (af (b2 ixD (vSh 14) .(f)) (af (vSh 15) ao))))) aQ) (sIf (toB (b2 eqD (b2 bu (b2 i7 (vSh 10) (vSh 13)) .(q)) .(e))) (iN 12 .(e) (bO (szF (af (b2 ixD (vSh 14) .(f)) (af (vSh 15) ao))))) aQ)))) (aw (aE 16 (bO (szF (af (cF fj (af (b2 aB (vSh 1) .(q)) (af (vSh 4) ao))) (af (b2 bu (vSh 8) (b2 aB (vSh 7) .(e))) (af (vSh 7) ao)))))) (lO 12 (cb 3 (b2 kL (vSh 16) (bO (szF (af (b2 ixD (vSh 12) .(f)) (af (b1 mz (b2 ixD (vSh 12) .(e))) ao)))))))))))))) (fB 3 (aN (vSh 3)))))
def tO:FQ:=bj 13
  (aw (gO (hV 6 (aM (ay 1) (aM (ay 2) (aM (ay 3) (aM (ay 4) (aM (ay 5) (aM (ay 6) bZ))))))) (cF dZ (af (vSh 0) (af .(f) (af (aF (szF (af (vC (.int 60)) (af (vC (.int 8)) (af .(F) (af (vC (.int 40)) (af .(F) (af .(b) ao)))))))) ao))))) (aw (aE 7 (b2 aB .(e) (b2 bu (vSh 6) (b2 ixD (aF (szF (af (vC (.int 12)) (af (vC (.int 400)) (af .(b) ao))))) (vSh 5))))) (aw (aE 8 (cF rT (af (vSh 0) (af (vSh 1) (af (b2 aB .(e) (vSh 2)) (af (vSh 7) ao)))))) (aw (aE 9 (cF tZ (af (vSh 0) (af (vSh 1) (af (b2 aB .(e) (b2 bu (vSh 4) (b2 ixD (aF (szF (af .(F) (af (vC (.int 8)) (af (vC (.int 40)) ao))))) (vSh 3)))) (af (vSh 8) (af (vSh 7) ao))))))) (aw (aE 10 (cF tz (af (vSh 0) (af (vSh 1) (af (vSh 9) (af (vSh 7) ao)))))) (aw (aE 11 (cF tF (af (vSh 0) (af (vSh 8) (af (vSh 1) (af (vSh 7) ao)))))) (aw (aE 12 (cF tJ (af (vSh 0) (af (vSh 9) (af (vSh 7) ao))))) (aw (aE 13 (cF tN (af (vSh 0) (af (vSh 1) (af (vSh 9) ao))))) (aN (aF (szF (af (vSh 8) (af (vSh 9) (af (vSh 10) (af (vSh 11) (af (vSh 12) (af (vSh 13) (af (vSh 7) ao))))))))))))))))))
abbrev X8:=aw (aE 4 (aF (szF (af (vC (.str "job")) (af (vSh 2) (af (cF dn (af (vSh 7) ao)) (af (cF dn (af (vSh 8) ao)) ao))))))) (cb 1 (mF fC (vC (.str " ")) (af (b2 aB (b2 aB (vSh 4) (aF (szF (af (b2 ixD (aF (szF (af (vC (.str "of")) (af (vC (.str "in")) ao)))) (cF kC (af (vSh 9) ao))) ao)))) (vSh 10)) ao)))
abbrev Xd:=cb 1 (mF fC (vC (.str " ")) (af (b2 aB (b2 aB (aF (szF (af (vC (.str "setup")) ao))) (cF tq (af (slF (vSh 11) pN (pS .(F))) ao))) (aF (szF (af (cF dn (af (b2 ixD (vSh 11) .(F)) ao)) ao)))) ao))
def uT:FQ:=bj 18
  (aw (cE 1 (szF (af (b2 aB (vC (.str "horizon ")) (cF dn (af (b2 ixD (vSh 0) (vC (.int 6))) ao))) ao))) (aw (ci (itF .(m)) (cs 2 (aM (ay 2) (aM (ay 3) bZ))) (aw (aE 4 (aF (bh (itF (vSh 3)) (cs 2 (aM (ay 0) (aM (ay 1) bZ))) tT (b2 aB (b2 aB (cF dn .(n)) (vC (.str "-"))) (cF dn .(w))) [ae,ae]))) (cb 1 (mF fC (vC (.str " ")) (af (b2 aB (aF (szF (af (vC (.str "bench")) .(aW)))) (vSh 4)) ao))))) (aw (ci (itF .(I)) (cs 3 (aM (ay 2) (aM (ay 5) (aM (ay 6) bZ)))) (aw (aE 4 (aF (bh (itF (vSh 6)) (cs 2 (aM (ay 0) (aM (ay 1) bZ))) tT (b2 aB (b2 aB (vSh 0) (vC (.str "/"))) (cF dn .(w))) [ae,ae]))) (cb 1 (mF fC (vC (.str " ")) (af (b2 aB (aF (szF (af (vC (.str "step")) (af (vSh 2) (af (vSh 5) ao))))) (vSh 4)) ao))))) (aw (ci (itF (b2 ixD (vSh 0) .(q))) (cs 5 (aM (ay 2) (aM (ay 7) (aM (ay 8) (aM (ay 9) (aM (ay 10) bZ)))))) X8) (aw (ci (itF (b2 ixD (vSh 0) .(F))) (ay 11) Xd) (aw (ci (itF (b2 ixD (vSh 0) .(P))) (cs 3 (aM (ay 12) (aM (ay 13) (aM (ay 14) bZ)))) (cb 1 (b2 aB (b2 aB (b2 aB (b2 aB (b2 aB (vC (.str "link ")) (vSh 12)) (vC (.str " "))) (vSh 13)) (vC (.str " "))) (cF dn (af (vSh 14) ao))))) (aw (ci (itF (b2 ixD (vSh 0) (vC (.int 5)))) (cs 5 (aM (ay 2) (aM (ay 15) (aM (ay 16) (aM (ay 17) (aM (ay 18) bZ)))))) (aw (aE 4 (aF (szF (af (vC (.str "stock")) (af (vSh 2) (af (cF dn (af (vSh 15) ao)) (af (cF dn (af (vSh 16) ao)) ao))))))) (aw (aE 4 (b2 aB (vSh 4) (aF (bh (itF (vSh 17)) (cs 2 (aM (ay 0) (aM (ay 1) bZ))) tT (b2 aB (b2 aB (vSh 0) (vC (.str "-"))) (cF dn .(w))) [ae,ae])))) (aw (aE 4 (b2 aB (vSh 4) (aF (bh (itF (vSh 18)) (cs 2 (aM (ay 0) (aM (ay 1) bZ))) tT (b2 aB (b2 aB (vSh 0) (vC (.str "+"))) (cF dn .(w))) [ae,ae])))) (cb 1 (mF fC (vC (.str " ")) (af (vSh 4) ao))))))) (fB 1 (aN (vSh 1))))))))))
def mE:FQ:=bj 1
  (aw (aE 1 (vC (.str " |horizon|horizon 1 2|horizon x|horizon -1|"))) (aw (aE 1 (b2 aB (vSh 1) (vC (.str "horizon 01|horizon 12345678|Horizon 5|")))) (aw (aE 1 (b2 aB (vSh 1) (vC (.str "horizons 5|horizon  5|bench|bench A|")))) (aw (aE 1 (b2 aB (vSh 1) (vC (.str "bench abcdefghi|bench a 1|bench a 1-|")))) (aw (aE 1 (b2 aB (vSh 1) (vC (.str "bench a -1|bench a 1-2-3|bench a 01-2|")))) (aw (aE 1 (b2 aB (vSh 1) (vC (.str "bench a 1-x|bench a |bench a  1-2|step|step a|")))) (aw (aE 1 (b2 aB (vSh 1) (vC (.str "step a B|step a b a|step a b a/|step a b /1|")))) (aw (aE 1 (b2 aB (vSh 1) (vC (.str "step a b a/01|step a b a/1/2|step a b a/-1|")))) (aw (aE 1 (b2 aB (vSh 1) (vC (.str "step a b A/1|step a b a:1|job|job a|job a 0|")))) (aw (aE 1 (b2 aB (vSh 1) (vC (.str "job a 0 1 on|job a 0 1 In b|job a 0 x in b|")))) (aw (aE 1 (b2 aB (vSh 1) (vC (.str "job a -1 1 in b|job a 0 1 in B|job a 0 1 in  b|")))) (aw (aE 1 (b2 aB (vSh 1) (vC (.str "job A 0 1 of b|setup|setup a b c|setup a b c d|")))) (aw (aE 1 (b2 aB (vSh 1) (vC (.str "setup a b c 1 2|setup a b 1 c|setup a B c 1|")))) (aw (aE 1 (b2 aB (vSh 1) (vC (.str "link|link a b|link a b x|link a b -1|")))) (aw (aE 1 (b2 aB (vSh 1) (vC (.str "link a b 1 2|link a 1 b|link a b 00|stock|")))) (aw (aE 1 (b2 aB (vSh 1) (vC (.str "stock a|stock a 1|stock a x 1|stock a 1 2 b|")))) (aw (aE 1 (b2 aB (vSh 1) (vC (.str "stock a 1 2 b=3|stock a 1 2 b+|stock a 1 2 -3|")))) (aw (aE 1 (b2 aB (vSh 1) (vC (.str "stock a 1 2 b+1 c-1|stock a 1 2 b-01|")))) (aw (aE 1 (b2 aB (vSh 1) (vC (.str "stock a 1 2 b--1|stock a 1 2 B-1|")))) (aw (aE 1 (b2 aB (vSh 1) (vC (.str "stock a 1 2 b+1+2|stock a -1 2|shop a|")))) (aw (aE 1 (b2 aB (vSh 1) (vC (.str "steps a b a/1| step a b a/1|link A b 1|")))) (aw (aE 1 (b2 aB (vSh 1) (vC (.str "link a B 1|setup A b c 1|setup a b C 1|")))) (aw (aE 1 (b2 aB (vSh 1) (vC (.str "stock A 1 2|stock a 1 2 B+1|")))) (aw (aE 1 (b2 aB (vSh 1) (vC (.str "step abcdefghi b a/1|link abcdefghi b 1|")))) (aw (aE 1 (b2 aB (vSh 1) (vC (.str "job a 00 1 in b|job a 0 01 in b|setup a b c 01|")))) (aw (aE 1 (b2 aB (vSh 1) (vC (.str "stock a 01 2|stock a 1 02|stock a 1 2 b+01|")))) (aw (aE 1 (b2 aB (vSh 1) (vC (.str "bench a 1-12345678|step a b a/12345678|")))) (aw (aE 1 (b2 aB (vSh 1) (vC (.str "link a b 12345678|job a 0 12345678 in b|")))) (aw (aE 1 (b2 aB (vSh 1) (vC (.str "stock a 1 2 b-12345678|setup a b c 12345678|")))) (aw (aE 1 (b2 aB (vSh 1) (vC (.str "horizon +5|horizon 1_0|bench a 1-+2|")))) (aw (aE 1 (b2 aB (vSh 1) (vC (.str "step a b a/+1|link a b 1_0|stock a 1 2 b-+1|")))) (aw (aE 1 (b2 aB (vSh 1) (vC (.str "job a +0 1 in b|setup a b c 1_0")))) (aw (aE 1 (mF i9 (vSh 1) (af (vC (.str "|")) ao))) (aN (b2 ixD (vSh 1) (b2 bu (vSh 0) (cF bw .(w))))))))))))))))))))))))))))))))))))))
abbrev X2:=b2 neD (slF (vSh 0) pN (pS (vC (.int 8)))) (vC (.str "horizon "))
abbrev X3:=sIf (toB (b2 eqD (vSh 3) (vC (.int 5)))) (eD 0 (aw (aE 8 (b2 bu (vSh 5) (b2 aB .(aU) .(e)))) (aw (cE 0 (iS (b2 aB (slF (vSh 0) pN (pS (vSh 8))) (aF (szF (af (vC (.str "horizon 7")) ao)))) (slF (vSh 0) (pS (vSh 8)) pN))) (aw (aE 9 (b2 aB (vSh 9) (cF kC (af (b2 leD (vSh 8) (vSh 9)) ao)))) (eD 0 (aw (aE 10 (aF (bh (itE (vSh 0)) (cs 2 (aM (ay 0) (aM (ay 1) bZ))) (eO (toB (b2 eqD (slF (vSh 1) pN (pS (vC (.int 8)))) (vC (.str "horizon ")))) (toB (b2 neA (vSh 0) (vSh 2)))) (vSh 0) [ae,ae,aa 9]))) (aE 9 (cF eA (af (vSh 9) (af (b2 ixD (vSh 10) .(e)) ao)))))))))) aQ
abbrev X6:=sIf (toB (b2 eqD (vSh 3) .(e))) (eD 0 (aw (aE 8 (b2 bu (vSh 5) (b2 aB .(aU) .(e)))) (aw (cE 0 (iS (b2 aB (slF (vSh 0) pN (pS (vSh 8))) (aF (szF (af (cF mE (af (vSh 7) ao)) ao)))) (slF (vSh 0) (pS (vSh 8)) pN))) (aE 9 (b2 ixD (aF (szF (af (vSh 9) (af (vSh 8) ao)))) (cF kC (af (b2 leD (vSh 8) (vSh 9)) ao))))))) aQ
abbrev X5:=aw (sIf (toB (b2 eqD (vSh 3) .(P))) (eD 0 (aw (aE 11 (aF (bh (itF (slF (vSh 0) pN (pS (vSh 9)))) (ay 0) (toB X2) (vSh 0) [ae]))) (aw (cE 0 (iS (b2 aB (vSh 11) (slF (vSh 0) (pS (vSh 9)) (pS (b2 aB (vSh 9) .(e))))) (aF (bh (itF (slF (vSh 0) (pS (b2 aB (vSh 9) .(e))) pN)) (ay 0) (toB X2) (vSh 0) [ae])))) (aE 9 (cF bw (af (vSh 11) ao)))))) aQ) (aw X3 (eD 0 (aN (aF (szF (af (mF fC (vC (.str "\n")) .(n)) (af (vSh 9) ao)))))))
abbrev X7:=aw X6 (aw (sIf (toB (b2 eqD (vSh 3) .(q))) (aw (px 0 (vSh 9) (vC (.str "horizon 7"))) (eD 0 (aw (aE 10 (aF (bh (itE (vSh 0)) (cs 2 (aM (ay 0) (aM (ay 1) bZ))) (toB (b2 eqD (slF (vSh 1) pN (pS (vC (.int 8)))) (vC (.str "horizon ")))) (vSh 0) [ae,ae]))) (aE 9 (b2 ixD (vSh 10) .(e)))))) aQ) (aw (sIf (toB (b2 eqD (vSh 3) .(F))) (eD 0 (aw (cE 0 (bh (itF (b2 aB (slF (vSh 0) pN (pS (vSh 9))) (slF (vSh 0) (pS (b2 aB (vSh 9) .(e))) pN))) (ay 0) (toB X2) (vSh 0) [ae])) (eD 0 (aE 9 .(aU))))) aQ) X5))
def uk:FQ:=bj 9
  (aw (gO (hV 5 (aM (ay 3) (aM (ay 4) (aM (ay 5) (aM (ay 6) (aM (ay 7) bZ)))))) (cF dZ (af (vSh 1) (af (vSh 2) (af (aF (szF (af (vC (.int 6)) (af .(b) (af .(b) (af .(b) (af .(b) ao))))))) ao))))) (aw (aE 8 (b2 bu (vSh 4) (b2 aB .(aU) .(e)))) (aw (aE 9 (vSh 8)) (aw (cE 0 (iS (b2 aB (slF (vSh 0) pN (pS (vSh 8))) (aF (szF (af (cF mE (af (vSh 6) ao)) ao)))) (slF (vSh 0) (pS (vSh 8)) pN))) X7))))
def wV:FQ:=bj 0
  (aw (sIf (orT (toB (b2 eqD (vSh 0) (vC (.str "")))) (eO (toB (b2 eqD .(m) (vC (.str "0")))) (toB (b2 neD (vSh 0) (vC (.str "0")))))) .(Q) aQ) (aN (cF fm (af (aF (bh (itS (vSh 0)) (ay 0) tT (b2 kD (vSh 0) (vC (.str "0123456789"))) [ae])) ao))))
def lD:FQ:=bj 0
  (aN (cS (b2 leD .(aU) (vC (.int 7))) (cF wV .(n))))
def tR:FQ:=bj 0
  (aw (sIf (orT (toB (b2 neD .(aU) .(q))) (bf (toB (cF lD (af .(I) ao))))) (aN (vC .non)) aQ) (aN (cF ia (af .(I) ao))))
def rE:FQ:=bj 0
  (aN (cF fm (af (aF (bh (itF (vSh 0)) (ay 0) tT (cF lD .(n)) [ae])) ao)))
def xL:FQ:=bj 1
  (aw (aE 1 (mF i9 (vSh 0) (af (vC (.str "-")) ao))) (aw (sIf (orT (toB (b2 neD (cF bw .(w)) .(q))) (bf (toB (cF rE .(w))))) (aN (vC .non)) aQ) (aN (bO (szF (af (cF ia (af (b2 ixD (vSh 1) .(f)) ao)) (af (cF ia (af (b2 ixD (vSh 1) .(e)) ao)) ao)))))))
def gG:FQ:=bj 0
  (aw (sIf (orT (bf (toB (cF dU (af (vSh 0) (af (vC (.ty "str")) ao))))) (bf (toB (chD leD leD .(e) .(aU) (vC (.int 8)))))) .(Q) aQ) (aN (cF fm (af (aF (bh (itS (vSh 0)) (ay 0) tT (chD leD leD (vC (.str "a")) (vSh 0) (vC (.str "z"))) [ae])) ao))))
def uO:FQ:=bj 1
  (aw (aE 1 (aF (bh (itF (slF (vSh 0) (pS .(q)) pN)) (ay 0) tT (cF xL .(n)) [ae]))) (aw (sIf (orT (toB (b2 ltD .(aU) .(q))) (orT (bf (toB (cF gG (af .(I) ao)))) (toB (b2 i4 (vC .non) (vSh 1))))) (aN (vC .non)) aQ) (aN (bO (szF (af .(I) .(w)))))))
def pA:FQ:=bj 1
  (aw (aE 2 (mF i9 (vSh 0) .(w))) (aw (sIf (orT (toB (b2 neD (cF bw .(aW)) .(q))) (orT (bf (toB (cF gG (af (b2 ixD (vSh 2) .(f)) ao)))) (bf (toB (cF lD (af (b2 ixD (vSh 2) .(e)) ao)))))) (aN (vC .non)) aQ) (aN (bO (szF (af (b2 ixD (vSh 2) .(f)) (af (cF ia (af (b2 ixD (vSh 2) .(e)) ao)) ao)))))))
def nZ:FQ:=bj 0
  (aN (cF fm (af (aF (bh (itF (vSh 0)) (ay 0) tT (cF gG .(n)) [ae])) ao)))
def ur:FQ:=bj 1
  (aw (aE 1 (aF (bh (itF (slF (vSh 0) (pS .(F)) pN)) (ay 0) tT (cF pA (af (vSh 0) (af (vC (.str "/")) ao))) [ae]))) (aw (sIf (orT (toB (b2 ltD .(aU) .(F))) (orT (bf (toB (cF nZ (af (slF (vSh 0) (pS .(e)) (pS .(F))) ao)))) (toB (b2 i4 (vC .non) (vSh 1))))) (aN (vC .non)) aQ) (aN (bO (szF (af .(I) (af (b2 ixD (vSh 0) .(q)) .(w))))))))
def uB:FQ:=bj 0
  (aw (sIf (orT (toB (b2 ltD .(aU) (vC (.int 5)))) (orT (bf (toB (cF gG (af .(I) ao)))) (bf (toB (cF rE (af (slF (vSh 0) (pS .(q)) (pS .(P))) ao)))))) (aN (vC .non)) aQ) (aw (sIf (orT (toB (b2 xz (b2 ixD (vSh 0) .(P)) (bO (szF (af (vC (.str "in")) (af (vC (.str "of")) ao)))))) (bf (toB (cF nZ (af (slF (vSh 0) (pS (vC (.int 5))) pN) ao))))) (aN (vC .non)) aQ) (aN (bO (szF (af .(I) (af (cF ia (af (b2 ixD (vSh 0) .(q)) ao)) (af (cF ia (af (b2 ixD (vSh 0) .(F)) ao)) (af (b2 eqD (b2 ixD (vSh 0) .(P)) (vC (.str "in"))) (af (slF (vSh 0) (pS (vC (.int 5))) pN) ao))))))))))
def t5:FQ:=bj 0
  (aw (sIf (orT (toB (b2 neD .(aU) (vC (.int 5)))) (orT (bf (toB (cF nZ (af (slF (vSh 0) (pS .(e)) (pS .(P))) ao)))) (bf (toB (cF lD (af (b2 ixD (vSh 0) .(P)) ao)))))) (aN (vC .non)) aQ) (aN (bO (szF (af .(I) (af (b2 ixD (vSh 0) .(q)) (af (b2 ixD (vSh 0) .(F)) (af (cF ia (af (b2 ixD (vSh 0) .(P)) ao)) ao))))))))
def ue:FQ:=bj 0
  (aw (sIf (orT (toB (b2 neD .(aU) .(P))) (orT (bf (toB (cF nZ (af (slF (vSh 0) (pS .(e)) (pS .(F))) ao)))) (bf (toB (cF lD (af (b2 ixD (vSh 0) .(F)) ao)))))) (aN (vC .non)) aQ) (aN (bO (szF (af .(I) (af (b2 ixD (vSh 0) .(q)) (af (cF ia (af (b2 ixD (vSh 0) .(F)) ao)) ao)))))))
def u8:FQ:=bj 3
  (aw (sIf (orT (toB (b2 ltD .(aU) .(P))) (orT (bf (toB (cF gG (af .(I) ao)))) (bf (toB (cF rE (af (slF (vSh 0) (pS .(q)) (pS .(P))) ao)))))) (aN (vC .non)) aQ) (aw (aE 1 .(P)) (aw (whL (eO (toB (b2 ltD (vSh 1) .(aU))) (toB (b2 kD (vC (.str "-")) (b2 ixD (vSh 0) (vSh 1))))) (aE 1 (b2 aB (vSh 1) .(e))) 200) (aw (aE 2 (aF (bh (itF (slF (vSh 0) (pS .(P)) (pS (vSh 1)))) (ay 0) tT (cF pA (af (vSh 0) (af (vC (.str "-")) ao))) [ae]))) (aw (aE 3 (aF (bh (itF (slF (vSh 0) (pS (vSh 1)) pN)) (ay 0) tT (cF pA (af (vSh 0) (af (vC (.str "+")) ao))) [ae]))) (aw (sIf (orT (toB (b2 i4 (vC .non) (vSh 2))) (toB (b2 i4 (vC .non) (vSh 3)))) (aN (vC .non)) aQ) (aN (bO (szF (af .(I) (af (cF ia (af (b2 ixD (vSh 0) .(q)) ao)) (af (cF ia (af (b2 ixD (vSh 0) .(F)) ao)) (af (vSh 2) (af (vSh 3) ao))))))))))))))
def f9:FQ:=bj 0
  (aw (sIf (toB (b2 eqD .(m) (vC (.str "horizon")))) (aN (cF tR .(n))) aQ) (aw (sIf (toB (b2 eqD .(m) (vC (.str "bench")))) (aN (cF uO .(n))) aQ) (aw (sIf (toB (b2 eqD .(m) (vC (.str "step")))) (aN (cF ur .(n))) aQ) (aw (sIf (toB (b2 eqD .(m) (vC (.str "job")))) (aN (cF uB .(n))) aQ) (aw (sIf (toB (b2 eqD .(m) (vC (.str "setup")))) (aN (cF t5 .(n))) aQ) (aw (sIf (toB (b2 eqD .(m) (vC (.str "link")))) (aN (cF ue .(n))) aQ) (aw (sIf (toB (b2 eqD .(m) (vC (.str "stock")))) (aN (cF u8 .(n))) aQ) (aN (vC .non)))))))))
def uL:FQ:=bj 0
  (aN (cS (cF dU (af (vSh 0) (af (vC (.ty "int")) ao))) (ui (cF dU (af (vSh 0) (af (vC (.ty "bool")) ao))))))
def hU:FQ:=bj 0
  (aN (cS (cF uL .(n)) (chD leD leD (vSh 1) (vSh 0) (vSh 2))))
def gq:FQ:=bj 0
  (aN (cS (cF dU (af (vSh 0) (af (vC (.ty "tuple")) ao))) (b2 eqD .(aU) (vSh 1))))
def tY:FQ:=bj 0
  (aw (sIf (orT (bf (toB (cF gq (af (vSh 0) (af .(q) ao))))) (orT (bf (toB (cF hU (af .(m) (af .(f) .(w)))))) (bf (toB (cF hU (af .(I) (af .(f) .(w)))))))) .(Q) aQ) (aN (b2 ltD .(m) .(I))))
def iA:FQ:=bj 0
  (aN (cS (cF dU (af (vSh 0) (af (vC (.ty "list")) ao))) (chD leD leD (vSh 1) .(aU) (vSh 2))))
def zp:FQ:=bj 0
  (aw (sIf (orT (bf (toB (cF iA (af (vSh 0) (af .(f) (af (vC (.int 10)) ao)))))) (bf (toB (cF fm (af (aF (bh (itF (vSh 0)) (ay 0) tT (cF tY (af (vSh 0) .(w))) [ae,aa 1])) ao))))) .(Q) aQ) (aN (cF fm (af (aF (bh (itR mX (af .(e) (af .(aU) ao))) (ay 0) tT (b2 ltD (b2 ixD (b2 ixD (vSh 1) (b2 pv (vSh 0) .(e))) .(e)) (b2 ixD (b2 ixD (vSh 1) (vSh 0)) .(f))) [ae,aa 0])) ao))))
def tS:FQ:=bj 0
  (aN (cS (cF gq (af (vSh 0) (af .(q) ao))) (cS (cF gG (af .(m) ao)) (cF zp (af .(I) .(w))))))
def gc:FQ:=bj 0
  (aN (b2 eqD (b1 oH (vSh 0)) .(aU)))
abbrev X9:=af (aF (bh (itF (vSh 0)) (ay 0) tT .(m) [ae])) ao
def wt:FQ:=bj 0
  (aw (sIf (orT (bf (toB (cF iA (af (vSh 0) (af .(e) (af (vC (.int 8)) ao)))))) (bf (toB (cF fm (af (aF (bh (itF (vSh 0)) (ay 0) tT (cF tS (af (vSh 0) .(w))) [ae,aa 1])) ao))))) .(Q) aQ) (aN (cF gc X9)))
def kF:FQ:=bj 0
  (aN (cS (cF gG .(n)) (b2 i4 (vSh 0) (vSh 1))))
def uQ:FQ:=bj 0
  (aN (cS (cF gq (af (vSh 0) (af .(q) ao))) (cS (cF kF (af .(m) .(w))) (cF hU (af .(I) (af .(e) .(aW)))))))
def yX:FQ:=bj 0
  (aw (sIf (orT (bf (toB (cF iA (af (vSh 0) (af .(e) (af .(P) ao)))))) (bf (toB (cF fm (af (aF (bh (itF (vSh 0)) (ay 0) tT (cF uQ (af (vSh 0) (af (vSh 1) .(aW)))) [ae,aa 1,aa 2])) ao))))) .(Q) aQ) (aN (cF gc X9)))
def tj:FQ:=bj 0
  (aw (sIf (orT (bf (toB (cF gq (af (vSh 0) (af .(F) ao))))) (orT (bf (toB (cF gG (af .(m) ao)))) (bf (toB (cF gG (af .(I) ao)))))) .(Q) aQ) (aN (cF yX (af (b2 ixD (vSh 0) .(q)) (af (vSh 1) .(aW))))))
def wn:FQ:=bj 0
  (aw (sIf (orT (bf (toB (cF iA (af (vSh 0) (af .(e) (af (vC (.int 40)) ao)))))) (bf (toB (cF fm (af (aF (bh (itF (vSh 0)) (ay 0) tT (cF tj (af (vSh 0) (af (vSh 1) .(aW)))) [ae,aa 1,aa 2])) ao))))) .(Q) aQ) (aN (cF gc X9)))
def wu:FQ:=bj 0
  (aw (sIf (orT (bf (toB (cF gq (af (vSh 0) (af (vC (.int 5)) ao))))) (orT (bf (toB (cF gG (af .(m) ao)))) (bf (toB (cF dU (af (b2 ixD (vSh 0) .(F)) (af (vC (.ty "bool")) ao))))))) .(Q) aQ) (aw (sIf (orT (bf (toB (cF hU (af .(I) (af .(f) .(aW)))))) (bf (toB (cF hU (af (b2 ixD (vSh 0) .(q)) (af .(f) .(aW))))))) .(Q) aQ) (aN (cS (cF iA (af (b2 ixD (vSh 0) .(P)) (af .(e) (af (cF bw .(w)) ao)))) (cF fm (af (aF (bh (itF (b2 ixD (vSh 0) .(P))) (ay 0) tT (cF kF (af (vSh 0) .(w))) [ae,aa 1])) ao))))))
def xR:FQ:=bj 2
  (aw (sIf (orT (bf (toB (cF iA (af (vSh 0) (af .(f) (af (vC (.int 40)) ao)))))) (bf (toB (cF fm (af (aF (bh (itF (vSh 0)) (ay 0) tT (cF wu (af (vSh 0) (af (vSh 1) .(aW)))) [ae,aa 1,aa 2])) ao))))) .(Q) aQ) (aw (cE 3 (szF ao)) (aw (ci (itF (vSh 0)) (ay 4) (oa 3 (b2 ixD (vSh 4) .(P)))) (fB 3 (aN (cS (cF gc X9) (cF gc (af (vSh 3) ao))))))))
def tH:FQ:=bj 0
  (aw (sIf (orT (bf (toB (cF gq (af (vSh 0) (af .(P) ao))))) (bf (toB (cF kF (af .(m) .(w)))))) .(Q) aQ) (aN (cS (cF gG (af .(I) ao)) (cS (cF gG (af (b2 ixD (vSh 0) .(q)) ao)) (cF hU (af (b2 ixD (vSh 0) .(F)) (af .(e) .(aW))))))))
def yc:FQ:=bj 0
  (aw (sIf (orT (bf (toB (cF iA (af (vSh 0) (af .(f) (af (vC (.int 100)) ao)))))) (bf (toB (cF fm (af (aF (bh (itF (vSh 0)) (ay 0) tT (cF tH (af (vSh 0) (af (vSh 1) .(aW)))) [ae,aa 1,aa 2])) ao))))) .(Q) aQ) (aN (cF gc (af (aF (bh (itF (vSh 0)) (ay 0) tT (slF (vSh 0) pN (pS .(F))) [ae])) ao))))
def tI:FQ:=bj 0
  (aw (sIf (orT (bf (toB (cF gq (af (vSh 0) (af .(F) ao))))) (orT (bf (toB (cF kF (af .(m) .(w))))) (bf (toB (cF kF (af .(I) .(w))))))) .(Q) aQ) (aN (cS (b2 neA .(m) .(I)) (cF hU (af (b2 ixD (vSh 0) .(q)) (af .(f) .(aW)))))))
def zm:FQ:=bj 0
  (aw (sIf (orT (bf (toB (cF iA (af (vSh 0) (af .(f) (af (vC (.int 100)) ao)))))) (bf (toB (cF fm (af (aF (bh (itF (vSh 0)) (ay 0) tT (cF tI (af (vSh 0) (af (vSh 1) .(aW)))) [ae,aa 1,aa 2])) ao))))) .(Q) aQ) (aN (cF gc (af (aF (bh (itF (vSh 0)) (ay 0) tT (slF (vSh 0) pN (pS .(q))) [ae])) ao))))
def uz:FQ:=bj 0
  (aN (cS (cF gq (af (vSh 0) (af .(q) ao))) (cS (cF kF (af .(m) .(w))) (cF hU (af .(I) (af .(e) (af (vC (.int 1000000)) ao)))))))
def t8:FQ:=bj 0
  (aw (sIf (orT (bf (toB (cF iA (af (vSh 0) (af .(f) (af (cF bw .(w)) ao)))))) (bf (toB (cF fm (af (aF (bh (itF (vSh 0)) (ay 0) tT (cF uz (af (vSh 0) .(w))) [ae,aa 1])) ao))))) .(Q) aQ) (aN (cF gc X9)))
def uf:FQ:=bj 0
  (aw (sIf (orT (bf (toB (cF gq (af (vSh 0) (af (vC (.int 5)) ao))))) (bf (toB (cF gG (af .(m) ao))))) .(Q) aQ) (aw (sIf (orT (bf (toB (cF hU (af (b2 ixD (vSh 0) .(q)) (af .(f) (af (vC (.int 1000000)) ao)))))) (bf (toB (cF hU (af .(I) (af .(f) (af (b2 ixD (vSh 0) .(q)) ao))))))) .(Q) aQ) (aN (cS (cF t8 (af (b2 ixD (vSh 0) .(F)) .(w))) (cF t8 (af (b2 ixD (vSh 0) .(P)) .(w)))))))
def yO:FQ:=bj 0
  (aw (sIf (orT (bf (toB (cF iA (af (vSh 0) (af .(f) (af (vC (.int 6)) ao)))))) (bf (toB (cF fm (af (aF (bh (itF (vSh 0)) (ay 0) tT (cF uf (af (vSh 0) .(w))) [ae,aa 1])) ao))))) .(Q) aQ) (aN (cF gc X9)))
def xq:FQ:=bj 2
  (aw (sIf (bf (toB (cF hU (af (vSh 6) (af .(e) (af (vC (.int 1000000)) ao)))))) (aN (vC (.str "horizon"))) aQ) (aw (sIf (bf (toB (cF wt (af (vSh 0) (af (vSh 6) ao))))) (aN (vC (.str "benches"))) aQ) (aw (aE 7 (aF (bh (itF (vSh 0)) (ay 0) tT .(m) [ae]))) (aw (sIf (bf (toB (cF wn (af (vSh 1) (af (vSh 7) (af (vSh 6) ao)))))) (aN (vC (.str "steps"))) aQ) (aw (aE 8 (aF (bh (itF (vSh 1)) (ay 0) tT .(m) [ae]))) (aw (sIf (bf (toB (cF xR (af (vSh 2) (af (vSh 8) (af (vSh 6) ao)))))) (aN (vC (.str "jobs"))) aQ) (aw (sIf (bf (toB (cF yc (af (vSh 3) (af (vSh 7) (af (vSh 6) ao)))))) (aN (vC (.str "setups"))) aQ) (aw (sIf (bf (toB (cF zm (af (vSh 4) (af (vSh 8) (af (vSh 6) ao)))))) (aN (vC (.str "links"))) aQ) (aw (sIf (bf (toB (cF yO (af (vSh 5) (af (vSh 8) ao))))) (aN (vC (.str "stocks"))) aQ) (aN (vC .non)))))))))))
def jI (hW:FQ):FQ:=bj 0
  (aw (sIf (toB (cF dU (af (vSh 0) (af (vC (.ty "list")) ao)))) (aN (aF (bh (itF (vSh 0)) (ay 0) tT (cF hW .(n)) [ae]))) aQ) (aw (sIf (toB (cF dU (af (vSh 0) (af (vC (.ty "tuple")) ao)))) (aN (cF uZ (af (aF (bh (itF (vSh 0)) (ay 0) tT (cF hW .(n)) [ae])) ao))) aQ) (aN (vSh 0))))
def jY:ah->FQ
 |0=>fun _=>ae
 |n+1=>jI (jY n)
def hW:FQ:=jY 8
def pE:FQ:=oF 3 "Shop"
  (aw (aE 8 (cF xq (af (vSh 1) (af (vSh 2) (af (vSh 3) (af (vSh 4) (af (vSh 5) (af (vSh 6) (af (vSh 7) ao))))))))) (aw (sIf (toB (b2 zc (vSh 8) (vC .non))) sNo aQ) (aw (ib "Shop" "benches" 0 (cF hW .(w))) (aw (ib "Shop" "steps" 0 (cF hW .(aW))) (aw (ib "Shop" "jobs" 0 (cF hW (af (vSh 3) ao))) (aw (ib "Shop" "setups" 0 (cF hW (af (vSh 4) ao))) (aw (ib "Shop" "links" 0 (cF hW (af (vSh 5) ao))) (aw (ib "Shop" "stocks" 0 (cF hW (af (vSh 6) ao))) (aw (ib "Shop" "horizon" 0 (vSh 7)) (aw (ib "Shop" "bench_by_name" 0 (cF pY (af (aF (bh (itF (jB "Shop" "benches" 0)) (ay 0) tT (bO (szF (af .(m) .(n)))) [ae])) ao))) (aw (ib "Shop" "step_by_name" 0 (cF pY (af (aF (bh (itF (jB "Shop" "steps" 0)) (ay 0) tT (bO (szF (af .(m) .(n)))) [ae])) ao))) (aw (ib "Shop" "setup_by_names" 0 (cF tX (af (aF (bh (itF (jB "Shop" "setups" 0)) (ay 0) tT (bO (szF (af (slF (vSh 0) pN (pS .(F))) (af (b2 ixD (vSh 0) .(F)) ao)))) [ae])) ao))) (aw (oq "Shop" "job_by_step" 0) (ci (itF (jB "Shop" "jobs" 0)) (ay 9) (ci (itF (b2 ixD (vSh 9) .(P))) (ay 10) (kg "Shop" "job_by_step" 0 (vSh 10) (vSh 9)))))))))))))))))
abbrev X0:=aN (cF pE (af (b2 df (vSh 2) (vC (.str "bench"))) (af (b2 df (vSh 2) (vC (.str "step"))) (af (b2 df (vSh 2) (vC (.str "job"))) (af (b2 df (vSh 2) (vC (.str "setup"))) (af (b2 df (vSh 2) (vC (.str "link"))) (af (b2 df (vSh 2) (vC (.str "stock"))) (af (b2 ixD (b2 df (vSh 2) (vC (.str "horizon"))) .(f)) ao))))))))
def fY:FQ:=bj 6
  (aw (sIf (bf (toB (cF dU (af (vSh 0) (af (vC (.ty "str")) ao))))) (kN "NoRow" okI (af .(f) ao)) aQ) (aw (noXw (aE 1 (mF i9 (vSh 0) (af (vC (.str "\n")) ao)))) (aw (noXw (yg 2 ["horizon","bench","step","job","setup","link","stock"])) (aw (ci (itE (vSh 1)) (cs 2 (aM (ay 3) (aM (ay 4) bZ))) (aw (noXw (aE 5 (mF i9 (vSh 4) (af (vC (.str " ")) ao)))) (aw (noXw (aE 6 (cF f9 (af (vSh 5) ao)))) (aw (sIf (lQ 2 (orT (toB (b2 isD (vSh 6) (vC .non))) (eO (toB (b2 eqD (b2 ixD (vSh 5) .(f)) (vC (.str "horizon")))) (toB (b2 gtD .(aK) .(f)))))) (kN "NoRow" okI (af (vSh 3) ao)) aQ) (noXw (p6 2 (b2 ixD (vSh 5) .(f)) (vSh 6))))))) (aw (sIf (lQ 2 (toB (b2 eqD .(aK) .(f)))) (kN "NoRow" okI (af (cF bw .(w)) ao)) aQ) (noXw (nS 2 X0)))))))
def ng:FQ:=wy fY
def uI:FQ:=bj 0
  (aN (si "Shop" "horizon" (vSh 0)))
abbrev D':FS:=
  (aw (aE 1 (cF uT (af (cF tO .(n)) ao))) (aw (ci (itR gU (af (cF uX (af .(e) (af (cF eA (af .(aU) (af (vC (.int 30)) ao))) ao))) ao)) (ay 2) (aw (gO (hV 2 (aM (ay 3) (aM (ay 4) bZ))) (cF uk (af (vSh 1) (af (vSh 0) .(aW))))) (sIf (bf (toB (cF ng (af (vSh 3) (af (vSh 4) ao))))) .(Q) aQ))) (aw (ci (itF (aF (szF (af (vC .non) (af (vC (.int 7)) (af (vC (.bl al)) (af (vSh 1) (af (cF uZ .(w)) (af (vC (.dk [])) (af (vC (.str "")) ao)))))))))) (ay 5) (sIf (bf (toB (cF ng (af (vSh 5) (af .(f) ao))))) .(Q) aQ)) (aN (b2 gtD (pZ "Shop" "last_moment" uI (cF (mB fY) (af (mF fC (vC (.str "\n")) .(w)) ao)) ao) .(f))))))
def AU:FQ:=bj 5 D'
theorem PZ:FnScope ["self","row"] ["self","row"] (aW (nc (top 4) 0)):=bR
set_option maxHeartbeats 4000000 in
theorem N9 (F:Fun K "__init__" "NoRow.__init__" (nc (top 4) 0) fI fd) (Z:XCls K base CN CS fI "row") (mS:mg "ShopError"=aa (.ref CS))
  (hsp:vq K (.ref CS) "__getattribute__"=aa (aa (.builtin "type.__getattribute__"))) (hrd:Hq K CS (.type "type")=al) (hfc:Hr K (.ref CS) (.type "type") "__init__"=aa (.val (.builtin "ValueError.__init__"))) :
  FnOk P w K mg base CX0 1 fI fd ["self","row"] (spXW CN "row" okI):=by
 refine Fun.ok (k:=0) F PZ (fun vs H Q E h=>?_) fun cdv A outer s H vs Q E hr h=>?_
 .obtain⟨a,p,rfl,_⟩:=h;rfl
 .obtain⟨a,d,rfl,hp,hH,k⟩:=h;obtain⟨p,rfl,h0,h1⟩:=R3 hp;refine⟨_,oG (pO (On rfl mS hsp hrd hfc (dq (eC (i:=0) rfl .(aq)) (dq (DE.out (Γ:=⟨fun _=>ae,ae⟩) (JG (HN (Ra (ai 1) Qr)))) fD))))
   (mV (Lu (CS:=CS) (fI:=fI) (eC (i:=0) rfl .(aq)) (eC (i:=1) rfl .(aq)))),?_⟩
  have A0:At ⟨fun _=>ae,ae⟩ K (fun _=>ae) H (fun _=>ae) H [ae,aa (.sh (.int p))] [aa (.ref a),aa (.int p)]:=⟨.refl (fun _ _ z=>nomatch z),.ofSh rfl (fun i s e=>by
   match i,e with
   |1,e=>cases e;exact⟨_,rfl⟩) (fun i d e=>by
   match i,e with
   |1,e=>cases e;exact⟨_,rfl,.int p⟩)⟩
  have hz:=OH (x:="no row of a shop at ") (i:=p) (k:=1) (ρ:=[ae,aa (.sh (.int p))]) .(j) h0 h1 rfl;refine⟨.ref a,rfl,_,H,_,_,_,A0,hz,fun v G' H' st r=>?_⟩;refine⟨a,v,CN,rfl,st.hh _ _ hH,Z.cls,.int p,rfl,.ref a,rfl,a,CN,rfl,bK,Z,fun dx hdx hne=>?_⟩;show Q .non _;rw[Ie];exact k H' dx st.hh (by rw[aO hne] at hdx;exact hdx) hne
end Law
theorem Oi :fN X (.builtin "isinstance") (fun vs H Q=>∃v t c b,vs=[v,.ty c]/\TyOf X.K H v (.type t)/\lc X.K (.type t) (.type c)=aa b/\Q (.bl b) H):=by intro pins s σ H xs us Q I r h;obtain⟨v,t,c,b,rfl,ty,hk,q⟩:=h;obtain⟨u,w',rfl,r1,r2⟩:=n8 r;cases r2;exact BQ I r1 ty hk fun tk=>⟨.bl b,H,I.tok tk,rfl,q⟩
variable {CRw CP CT CG CM CY:av}
namespace Law
structure RefWK (K:aV) (mg:aj->ar Value) (CRw CS CN CP CT CG CM CY:av):Prop where
 mR:mg "NoRow"=aa (.ref CRw)
 mS:mg "ShopError"=aa (.ref CS)
 mN:mg "NoShop"=aa (.ref CN)
 mP:mg "NoPlan"=aa (.ref CP)
 mT:mg "NoTree"=aa (.ref CT)
 mG:mg "Gone"=aa (.ref CG)
 mM:mg "NoName"=aa (.ref CM)
 mY:mg "NoSay"=aa (.ref CY)
 exm:Ht K (.ref CRw) (.ref CS)=aa al
 k1:lc K (.ref CRw) (.ref CS)=aa al
 k2:lc K (.ref CRw) (.type "ValueError")=aa al
 k3:Hj K (.ref CRw) [.ref CN,.ref CP,.ref CT,.ref CG,.ref CM,.ref CY]=aa aq
 exk:ExcK K CRw
 hd:oW K CRw=al
 no:j9 K CRw "row"
def I0 (CRw:av):Sp:=fun vs H Q _=>∃a dz,vs=[.ref a]/\H a=aa (.ext (c7 a CRw dz))/\∀q t,H q=ae->Q (.bl al) (upd H q (.tup t))
theorem QX:FnScope ["_law_kept"] ["_law_kept"] (aW (top 85)):=bR
set_option maxHeartbeats 4000000 in
theorem OF {f:av} (h1:Fun K "_law_only" "_law_only" (top 85) f fd) (R:RefWK K mg CRw CS CN CP CT CG CM CY) (zi:mg "isinstance"=ae) (zv:mg "ValueError"=ae):FnOk P w K mg base CX0 1 f fd ["_law_kept"] (I0 CRw):=by
 refine Fun.ok (k:=0) h1 QX (fun vs H Q E h=>?_) (fun cdv A outer s H vs Q E hr h=>?_)
 .obtain⟨a,dz,rfl,_⟩:=h;rfl
 .obtain⟨a,dz,rfl,hA,k⟩:=h;refine⟨_,oG (wR (Ew (mC uN rfl zi (by rfl) (dq (eC (i:=0) rfl .(aq)) (dq (EZ (dq (jR (v:=.ref CN) rfl R.mN rfl) (dq (jR (v:=.ref CP) rfl R.mP rfl) (dq (jR (v:=.ref CT) rfl R.mT rfl) (dq (jR (v:=.ref CG) rfl R.mG rfl) (dq (jR (v:=.ref CM) rfl R.mM rfl) (dq (jR (v:=.ref CY) rfl R.mY rfl) fD))))))) fD)))) (mV (uW Da)) yM)
   (mV (uW (pP (mC uN rfl zi (by rfl) (dq (eC (i:=0) rfl .(aq)) (dq (jR (v:=.ref CRw) rfl R.mR rfl) fD)))
    (pP (mC uN rfl zi (by rfl) (dq (eC (i:=0) rfl .(aq)) (dq (jR (v:=.ref CS) rfl R.mS rfl) fD)))
    (yr (mC uN rfl zi (by rfl) (dq (eC (i:=0) rfl .(aq)) (dq (xn (v:=.ty "ValueError") rfl zv (by rfl) rfl) fD)))))))),?_⟩
  refine⟨.ref a,rfl,by show 6<=aL;decide,fun q hq=>?_⟩;have ne1:a≠q:=fun z=>by subst z;rw[hA] at hq;cases hq
  have hA2:∀t,upd H q (.tup t) a=aa (.ext (c7 a CRw dz)):=fun t=>by rw[aO ne1];exact hA
  refine⟨a,CRw,dz,.ref q,aq,rfl,hA2 _,R.exk,.tup bK rfl R.k3,aq,rfl,?_⟩;refine⟨.ref a,rfl,a,CRw,dz,.ref CRw,al,rfl,hA2 _,R.exk,.one rfl (by unfold lc;rw[qY (beq_self_eq_true _)]),al,rfl,?_⟩;refine g9 ?_;refine⟨.ref a,rfl,a,CRw,dz,.ref CS,al,rfl,hA2 _,R.exk,.one rfl R.k1,al,rfl,?_⟩;refine g9 ?_;refine⟨.ref a,rfl,a,CRw,dz,.ty "ValueError",al,rfl,hA2 _,R.exk,.one rfl R.k2,?_⟩;exact k q _ hq
theorem yx:FnScope ["_law_text_here","_law_due","_law_kept","_law_e"] ["_law_text_here","_law_due"] (aW (top 84)):=bR
set_option maxHeartbeats 4000000 in
theorem Q5 {F_r:FQ} (F:Dfn K mg "_law_refused" (top 84)) (FO:Dfn K mg "_law_only" (top 85)) (R:RefWK K mg CRw CS CN CP CT CG CM CY) (zi:mg "isinstance"=ae) (zv:mg "ValueError"=ae) (zb:mg "bool"=ae)
  (c:CalV Γ P w K mg base "read_shop" (clW CRw) 1 11 F_r):Cal Γ P w K mg base "_law_refused" 2 12 (wy F_r):=by
 obtain⟨f,fd,h1,h2⟩:=F.ex;obtain⟨fo,fdo,o1,o2⟩:=FO.ex;obtain⟨f2,fd2,ps2,g1,g2,g3,g4⟩:=c.ex;refine⟨f,fd,["_law_text_here","_law_due"],Fun.ok (k:=11) h1 yx (fun vs H Q E h=>?_) (fun cdv A outer s H vs Q E hr h=>?_),h2,h1.kp,h1.binds (fun _ _ _ _ _ _ us hl=>match us,hl with|[_,_],_=>rfl)⟩
 .obtain⟨G,ds,d,_,r,hl,_⟩:=h;rw[r.length,hl];rfl
 .obtain⟨G,ds,d,gh,r,hl,hd,k⟩:=h;obtain⟨v0,v1,d0,d1,rfl,rfl,r0,r1⟩:∃v0 v1 d0 d1,vs=[v0,v1]/\ds=[d0,d1]/\Rep Γ K G v0 d0/\Rep Γ K G v1 d1:=by
   match ds,hl,r with
   |[d0,d1],_,.cons a (.cons b .nil)=>exact⟨_,_,_,_,rfl,rfl,a,b⟩
  unfold wy at hd;split at hd
  case h_2=>cases hd
  rename_i t m e0;cases e0;obtain⟨y,hF,hd⟩:=oBd hd;split at hd
  case h_2=>cases hd
  rename_i c' n;split at hd
  case isFalse=>cases hd
  rename_i ec;subst ec;cases hd;cases r1;refine⟨_,oG (oz (i:=2) yx.nd rfl .(aq) Df) (oG (Px (i:=2) (j:=3) g1 (hr.mono .(c)) (fun _ _ z=>z) rfl rfl rfl g2 g3 g4 (dq (eC (i:=0) rfl .(aq)) fD) rfl R.mS yx.nd rfl rfl rfl rfl .(c))
   (mV (uW (pP (Ev (OF o1 R zi zv) (hr.mono .(c)) rfl o2 o1.kp (o1.binds (fun _ _ _ _ _ _ us hl=>match us,hl with|[_],_=>rfl)) .nil uH (dq (eC (i:=2) rfl .(aq)) fD))
    (pP (DU (mC Oi rfl zi (by rfl) (dq (Fv (eC (i:=2) rfl .(aq))) (dq (xn (v:=.ty "bool") rfl zb (by rfl) rfl) fD))))
    (yr (Jm (KS (Fv (eC (i:=2) rfl .(aq))) (eC (i:=1) rfl .(aq)))))))))),?_⟩
  show AQ K (spV Γ K (clW CRw) 1 F_r) (.ref CS) 2 3 (xk (xv 0) tu) _ [aa v0,aa (.int m),aa .non,ae] H;refine⟨v0,rfl,?_⟩;refine⟨fun _ _=>False,fun cls o H2=>cls=.ref CRw/\∃dz G2 H3,o=aa dz/\Step G H G2 H3/\H3 dz=ae/\H2=upd H3 dz (.xd [("row",.int n)]),⟨G,[d0],_,gh,.cons r0 .nil,rfl,hF,fun c x CN' fl e hc G' H' dz st hz=>?_,fun z=>by cases z⟩,fun _ _ z=>z.elim,?_⟩
  .cases e;cases hc;exact⟨rfl,dz,G',H',rfl,st,hz,rfl⟩
  .rintro CN' dz H2 ⟨e,dz',G2,H3,e2,st,hz,rfl⟩;cases e;cases e2;refine⟨R.exm,fun a ha=>?_⟩;have sA:=st.trans (Step.newOwn (o:=.xd [("row",.int n)]) st.gh hz);have sB:=sA.trans (Step.newOwn (o:=.ext (c7 a CRw dz)) sA.gh ha);have hnz:dz≠a:=fun z=>by rw[←z,bK] at ha;cases ha
   have hA:(upd (upd H3 dz (.xd [("row",.int n)])) a (.ext (c7 a CRw dz))) a=aa (.ext (c7 a CRw dz)):=bK;have hZ:(upd (upd H3 dz (.xd [("row",.int n)])) a (.ext (c7 a CRw dz))) dz=aa (.xd [("row",.int n)]):=by rw[aO hnz,bK]
   refine⟨.ref a,rfl,a,dz,rfl,hA,fun q tt hq=>?_⟩;have ne1:a≠q:=fun z=>by subst z;rw[hA] at hq;cases hq
   have ne2:dz≠q:=fun z=>by subst z;rw[hZ] at hq;cases hq
   have hA2:upd (upd (upd H3 dz (.xd [("row",.int n)])) a (.ext (c7 a CRw dz))) q (.tup tt) a=aa (.ext (c7 a CRw dz)):=by rw[aO ne1];exact hA
   have hZ2:upd (upd (upd H3 dz (.xd [("row",.int n)])) a (.ext (c7 a CRw dz))) q (.tup tt) dz=aa (.xd [("row",.int n)]):=by rw[aO ne2];exact hZ
   refine⟨al,rfl,g9 ?_⟩;refine⟨.ref a,rfl,a,CRw,dz,_,.int n,rfl,hA2,hZ2,R.exk,R.hd,R.no,rfl,?_⟩;refine⟨.int n,"int","bool",aq,rfl,.int n,by unfold lc;rfl,aq,rfl,?_⟩;refine⟨al,rfl,g9 ?_⟩;refine⟨.ref a,rfl,a,CRw,dz,_,.int n,rfl,hA2,hZ2,R.exk,R.hd,R.no,rfl,?_⟩;refine⟨.int m,rfl,n,m,rfl,rfl,?_⟩;exact k _ G2 _ (sB.trans (Step.newOwn sB.gh hq)) (.bl _)
structure XRw (P:ef) (w:cT) (K:aV) (mg:aj->ar Value) (base:Heap) (CRw CS CN CP CT CG CM CY fI:av) (fd:l6):Prop where
 FN:FnOk P w K mg base CX0 1 fI fd ["self","row"] (spXW CRw "row" okI)
 Z:XCls K base CRw CS fI "row"
 hb:fS K fd ["self","row"] []
 m:mg "NoRow"=aa (.ref CRw)
 only:Dfn K mg "_law_only" (top 85)
 R:RefWK K mg CRw CS CN CP CT CG CM CY
end Law
set_option maxHeartbeats 4000000
variable {C_Shop:av} {x1 x2 x3 x4:D} {xs l:ac D} {ρ' ρ1:aX} {sn ys:ac aj} {br:ac (ag×ag)} {S:ar Slot} {am:ac (aj×ag)} {gs:ac (ac aj)} {ea du:ag}
namespace Law
theorem iq:FnScope ["_law_script","_law_k","_law_bounds","_law_free","_law_number","_law_seed","_law_found","_law_j","_law_bound"] ["_law_script","_law_k","_law_bounds"] (aW (top 72)):=bR
theorem tw:FnScope ["_law_pad","_law_k","_law_letters","_law_code"] ["_law_pad","_law_k"] (aW (top 73)):=bR
theorem jL:FnScope ["_law_script","_law_pad","_law_many","_law_horizon","_law_found","_law_k","_law_breaks","_law_draws","_law_free","_law_j","_law_begin","_law_end"] ["_law_script","_law_pad","_law_many","_law_horizon"] (aW (top 74)):=bR
theorem lJ:FnScope ["_law_script","_law_pad","_law_many","_law_benches_here","_law_horizon","_law_found","_law_k","_law_draws","_law_most","_law_ways","_law_j","_law_bench"] ["_law_script","_law_pad","_law_many","_law_benches_here","_law_horizon"] (aW (top 75)):=bR
theorem gx:FnScope ["_law_script","_law_pad","_law_steps_here","_law_horizon","_law_many","_law_early","_law_due","_law_order","_law_groups","_law_k","_law_step","_law_at","_law_found","_law_group","_law_ordered"] ["_law_script","_law_pad","_law_steps_here","_law_horizon"] (aW (top 76)):=bR
theorem jc:FnScope ["_law_script","_law_benches_here","_law_pad","_law_horizon","_law_found","_law_known","_law_k","_law_bench","_law_first","_law_second","_law_size","_law_raw","_law_row"] ["_law_script","_law_benches_here","_law_pad","_law_horizon"] (aW (top 77)):=bR
theorem j8:FnScope ["_law_script","_law_steps_here","_law_horizon","_law_found","_law_known","_law_k","_law_one","_law_other","_law_size","_law_raw"] ["_law_script","_law_steps_here","_law_horizon"] (aW (top 78)):=bR
theorem gw:FnScope ["_law_script","_law_pad","_law_steps_here","_law_found","_law_k","_law_bounds","_law_size","_law_room","_law_first","_law_takes","_law_puts","_law_raw","_law_some","_law_j","_law_step","_law_amount","_law_row"] ["_law_script","_law_pad","_law_steps_here"] (aW (top 79)):=bR
theorem ii:FnScope ["_law_script","_law_pad","_law_many","_law_size","_law_count","_law_long","_law_raw","_law_horizon","_law_benches_here","_law_steps_here","_law_jobs_here","_law_setups_here","_law_links_here","_law_stocks_here"] ["_law_script"] (aW (top 80)):=bR
theorem dD:FnScope ["_law_parts","_law_rows_here","_law_name_here","_law_breaks","_law_words","_law_kind","_law_ways","_law_early","_law_due","_law_ordered","_law_some","_law_row","_law_one","_law_other","_law_gap","_law_first","_law_room","_law_takes","_law_puts"] ["_law_parts"] (aW (top 81)):=bR
theorem cK:FnScope ["_law_draw","_law_some"] ["_law_draw"] (aW (top 83)):=bR
theorem ee:FnScope ["_law_rows_here","_law_script","_law_k","_law_way","_law_one","_law_other","_law_draw","_law_more","_law_at","_law_due","_law_marks","_law_ahead"] ["_law_rows_here","_law_script","_law_k"] (aW (top 86)):=bR
theorem NS:FnScope ["word"] ["word"] (aW (top 15)):=bR
theorem JO:FnScope ["word"] ["word"] (aW (top 57)):=bR
theorem Pv:FnScope ["words"] ["words"] (aW (top 62)):=bR
theorem Ru:FnScope ["words"] ["words"] (aW (top 59)):=bR
theorem CJ:FnScope ["word","halves"] ["word"] (aW (top 60)):=bR
theorem LM:FnScope ["thing"] ["thing"] (aW (top 14)):=bR
theorem Fj:FnScope ["words","breaks"] ["words"] (aW (top 63)):=bR
theorem DK:FnScope ["word","sign","halves"] ["word","sign"] (aW (top 61)):=bR
theorem LR:FnScope ["words"] ["words"] (aW (top 58)):=bR
theorem BS:FnScope ["words","ways"] ["words"] (aW (top 64)):=bR
theorem Mv:FnScope ["words"] ["words"] (aW (top 65)):=bR
theorem RT:FnScope ["words"] ["words"] (aW (top 66)):=bR
theorem Kw:FnScope ["words"] ["words"] (aW (top 67)):=bR
theorem rN:FnScope ["words","place","takes","puts"] ["words"] (aW (top 68)):=bR
theorem Lw:FnScope ["words"] ["words"] (aW (top 69)):=bR
theorem RN:FnScope ["thing"] ["thing"] (aW (top 13)):=bR
theorem Rv:FnScope ["thing","least","most"] ["thing","least","most"] (aW (top 17)):=bR
theorem MD:FnScope ["thing","many"] ["thing","many"] (aW (top 19)):=bR
theorem Sb:FnScope ["row","horizon"] ["row","horizon"] (aW (top 33)):=bR
theorem M3:FnScope ["thing","least","most"] ["thing","least","most"] (aW (top 18)):=bR
theorem Ls:FnScope ["breaks","horizon"] ["breaks","horizon"] (aW (top 34)):=bR
theorem KA:FnScope ["row","horizon"] ["row","horizon"] (aW (top 35)):=bR
theorem IS:FnScope ["things"] ["things"] (aW (top 21)):=bR
theorem NH:FnScope ["benches","horizon"] ["benches","horizon"] (aW (top 36)):=bR
theorem QK:FnScope ["thing","names"] ["thing","names"] (aW (top 20)):=bR
theorem QO:FnScope ["row","bench_names","horizon"] ["row","bench_names","horizon"] (aW (top 37)):=bR
theorem Ox:FnScope ["ways","bench_names","horizon"] ["ways","bench_names","horizon"] (aW (top 38)):=bR
theorem OX:FnScope ["row","bench_names","horizon"] ["row","bench_names","horizon"] (aW (top 39)):=bR
theorem Iq:FnScope ["steps","bench_names","horizon"] ["steps","bench_names","horizon"] (aW (top 40)):=bR
theorem Nn:FnScope ["row","step_names","horizon"] ["row","step_names","horizon"] (aW (top 41)):=bR
theorem xN:FnScope ["jobs","step_names","horizon","members","row"] ["jobs","step_names","horizon"] (aW (top 42)):=bR
theorem ND:FnScope ["row","bench_names","horizon"] ["row","bench_names","horizon"] (aW (top 43)):=bR
theorem OU:FnScope ["setups","bench_names","horizon"] ["setups","bench_names","horizon"] (aW (top 44)):=bR
theorem R8:FnScope ["row","step_names","horizon"] ["row","step_names","horizon"] (aW (top 45)):=bR
theorem Nj:FnScope ["links","step_names","horizon"] ["links","step_names","horizon"] (aW (top 46)):=bR
theorem M6:FnScope ["row","step_names"] ["row","step_names"] (aW (top 47)):=bR
theorem NO:FnScope ["rows","step_names"] ["rows","step_names"] (aW (top 48)):=bR
theorem Sf:FnScope ["row","step_names"] ["row","step_names"] (aW (top 49)):=bR
theorem Kn:FnScope ["stocks","step_names"] ["stocks","step_names"] (aW (top 50)):=bR
theorem xW:FnScope ["benches","steps","jobs","setups","links","stocks","horizon","bench_names","step_names"] ["benches","steps","jobs","setups","links","stocks","horizon"] (aW (top 51)):=bR
theorem Ji:FnScope ["thing"] ["thing"] (aW (top 53)):=bR
theorem tV:FnScope ["self","benches","steps","jobs","setups","links","stocks","horizon","part","row","step"] ["self","benches","steps","jobs","setups","links","stocks","horizon"] (aW (nc (top 54) 0)):=bR
theorem m8:FnScope ["text","rows","parts","number","row","words","part"] ["text"] (aW (top 70)):=bR
theorem R7:FnScope ["self"] ["self"] (aW (nc (top 54) 7)):=bR
theorem oy:FnScope ["_law_script","_law_rows_here","_law_k","_law_text_here","_law_due","_law_thing"] ["_law_script"] (aW (top 87)):=bR
noncomputable def tkI (mg:aj->ar Value) (x:aj):Tok:=match mg x with|some (.int _ t)=>t|_=>0
theorem tkI_of {h:Heap} {n:ag} {t:Tok} (X:K.In h) (G:h.Ns dL mg) (a:iX K dL x=aa (aa (.int n t))):mg x=aa (.int n (tkI mg x)):=by have q:=il X G a;rw[q];unfold tkI;rw[q]
noncomputable def tkS (mg:aj->ar Value) (x:aj):Tok:=match mg x with|some (.str _ t)=>t|_=>0
theorem tkS_of {h:Heap} {t:Tok} (X:K.In h) (G:h.Ns dL mg) (a:iX K dL x=aa (aa (.str y t))):mg x=aa (.str y (tkS mg x)):=by have q:=il X G a;rw[q];unfold tkS;rw[q]
structure Vd (K:aV) (mg:aj->ar Value) (C_Shop:av):Prop where
 z_ValueError:mg "ValueError"=ae
 z_all:mg "all"=ae
 z_bool:mg "bool"=ae
 z_dict:mg "dict"=ae
 z_enumerate:mg "enumerate"=ae
 z_int:mg "int"=ae
 z_isinstance:mg "isinstance"=ae
 z_len:mg "len"=ae
 z_list:mg "list"=ae
 z_max:mg "max"=ae
 z_min:mg "min"=ae
 z_range:mg "range"=ae
 z_set:mg "set"=ae
 z_str:mg "str"=ae
 z_tuple:mg "tuple"=ae
 k_FIGURES:mg "FIGURES"=aa (.str "0123456789" (tkS mg "FIGURES"))
 k_LONGEST_NAME:mg "LONGEST_NAME"=aa (.int 8 (tkI mg "LONGEST_NAME"))
 k_MOST_AMOUNT:mg "MOST_AMOUNT"=aa (.int 1000000 (tkI mg "MOST_AMOUNT"))
 k_MOST_BENCHES:mg "MOST_BENCHES"=aa (.int 8 (tkI mg "MOST_BENCHES"))
 k_MOST_BREAKS:mg "MOST_BREAKS"=aa (.int 10 (tkI mg "MOST_BREAKS"))
 k_MOST_FIGURES:mg "MOST_FIGURES"=aa (.int 7 (tkI mg "MOST_FIGURES"))
 k_MOST_HORIZON:mg "MOST_HORIZON"=aa (.int 1000000 (tkI mg "MOST_HORIZON"))
 k_MOST_JOBS:mg "MOST_JOBS"=aa (.int 40 (tkI mg "MOST_JOBS"))
 k_MOST_LINKS:mg "MOST_LINKS"=aa (.int 100 (tkI mg "MOST_LINKS"))
 k_MOST_SETUPS:mg "MOST_SETUPS"=aa (.int 100 (tkI mg "MOST_SETUPS"))
 k_MOST_STEPS:mg "MOST_STEPS"=aa (.int 40 (tkI mg "MOST_STEPS"))
 k_MOST_STOCKS:mg "MOST_STOCKS"=aa (.int 6 (tkI mg "MOST_STOCKS"))
 k_MOST_WAYS:mg "MOST_WAYS"=aa (.int 4 (tkI mg "MOST_WAYS"))
 d0:Dfn K mg "_law_numbers" (top 72)
 d1:Dfn K mg "_law_name" (top 73)
 d2:Dfn K mg "_law_benches" (top 74)
 d3:Dfn K mg "_law_steps" (top 75)
 d4:Dfn K mg "_law_jobs" (top 76)
 d5:Dfn K mg "_law_setups" (top 77)
 d6:Dfn K mg "_law_links" (top 78)
 d7:Dfn K mg "_law_stocks" (top 79)
 d8:Dfn K mg "_law_shop" (top 80)
 d9:Dfn K mg "_law_rows" (top 81)
 d10:Dfn K mg "_law_bad" (top 83)
 d11:Dfn K mg "_law_text" (top 86)
 d12:Dfn K mg "is_numeral" (top 15)
 d13:Dfn K mg "is_number" (top 57)
 d14:Dfn K mg "read_horizon" (top 62)
 d15:Dfn K mg "are_numbers" (top 59)
 d16:Dfn K mg "read_break" (top 60)
 d17:Dfn K mg "is_name" (top 14)
 d18:Dfn K mg "read_bench" (top 63)
 d19:Dfn K mg "read_named_number" (top 61)
 d20:Dfn K mg "are_names" (top 58)
 d21:Dfn K mg "read_step" (top 64)
 d22:Dfn K mg "read_job" (top 65)
 d23:Dfn K mg "read_setup" (top 66)
 d24:Dfn K mg "read_link" (top 67)
 d25:Dfn K mg "read_stock" (top 68)
 d26:Dfn K mg "read_row" (top 69)
 d27:Dfn K mg "is_whole" (top 13)
 d28:Dfn K mg "is_within" (top 17)
 d29:Dfn K mg "is_tuple" (top 19)
 d30:Dfn K mg "is_break" (top 33)
 d31:Dfn K mg "is_list" (top 18)
 d32:Dfn K mg "are_breaks" (top 34)
 d33:Dfn K mg "is_bench" (top 35)
 d34:Dfn K mg "are_unlike" (top 21)
 d35:Dfn K mg "are_benches" (top 36)
 d36:Dfn K mg "is_one_of" (top 20)
 d37:Dfn K mg "is_way" (top 37)
 d38:Dfn K mg "are_ways" (top 38)
 d39:Dfn K mg "is_step" (top 39)
 d40:Dfn K mg "are_steps" (top 40)
 d41:Dfn K mg "is_job" (top 41)
 d42:Dfn K mg "are_jobs" (top 42)
 d43:Dfn K mg "is_setup" (top 43)
 d44:Dfn K mg "are_setups" (top 44)
 d45:Dfn K mg "is_link" (top 45)
 d46:Dfn K mg "are_links" (top 46)
 d47:Dfn K mg "is_amount" (top 47)
 d48:Dfn K mg "are_amounts" (top 48)
 d49:Dfn K mg "is_stock" (top 49)
 d50:Dfn K mg "are_stocks" (top 50)
 d51:Dfn K mg "first_bad_part" (top 51)
 d52:Dfn K mg "fresh" (top 53)
 d53:DfnM K C_Shop "Shop" "__init__" "Shop.__init__" (nc (top 54) 0)
 d54:Dfn K mg "read_shop" (top 70)
 d55:Dfn K mg "_law_refused" (top 84)
 d56:DfnM K C_Shop "Shop" "last_moment" "Shop.last_moment" (nc (top 54) 7)
structure Vw (K:aV) (mg:aj->ar Value) (C_Shop:av):Prop extends Vd K mg C_Shop where
 O_Shop:ClsOk .(u) K mg "Shop" C_Shop
 cf_Shop:CF .(u) K "Shop" Cv
section
variable (V:Vw K mg C_Shop)
include V
theorem iO:Cal .(u) P w K mg base "_law_numbers" 3 1 dZ:=
 V.d0.cal (k:=0) iq .(d) fun f cdv A outer s H E hr=>
  (aA (aZ 3 iq.nd (Oh (gM (Jw (om hr)) (ai 0) (DO.de (bX ax)) (bP _)) (gQ (gM dA (cG .(h) au) au (bP _))))) (aA (aZ 4 iq.nd au) (aA (aZ 5 iq.nd (fQ (ai 1) (ai 1))) (aA (bI (bT kM (ai 1) .(i) (bP _)) (aJ (aZ 4 iq.nd (aK (ai 0) (ai 1)))) bL) (aA (bI (bT (sg (om hr)) (ai 0) (DO.de (bX ax)) (bP _)) (aJ (aZ 5 iq.nd (aK (ai 0) (cG (ai 1) .(i))))) bL) (aA (fX 6 iq.nd (bX ax)) (aA (eT eV rfl (mK rfl V.z_enumerate (ai 2)) (gz (n:=2) rfl (bA (aP 7 iq.nd) (bA (aP 8 iq.nd) eB))) (aJ (bI (DW.dt (oM (bG (ai 3)) (nY (bT pB (ai 4) au (bP _))))) (aA (fP 6 (cG (ai 4) (ai 8))) (aJ (aZ 4 iq.nd (NR (ai 4) (ai 8))))) (aA (aZ 5 iq.nd (aR (aR (cG (ai 5) au) (fQ (fQ au (ai 7)) (ai 7))) (fQ (fQ au (ai 1)) (ai 1)))) (aA (aZ 5 iq.nd (cG (fQ (aR (ai 5) au) au) au)) (aA (aZ 5 iq.nd (cG (fQ (ai 5) (ai 5)) au)) (aJ (fP 6 (cG (mv (fQ (ai 5) (aR (ai 5) au)) au) (ai 8)))))))))) (i0 6 (aJ (aU (ai 6)))))))))))
theorem m4:Cal .(u) P w K mg base "_law_name" 2 1 fj:=
 V.d1.cal (k:=0) tw .(d) fun f cdv A outer s H E hr=>
  (aA (aZ 2 tw.nd aT) (aA (aZ 3 tw.nd (aK (ai 2) (cG (ai 1) au))) (aA (bI (DW.dt (cm (bT pB (cG (ai 0) au) au (bP _)) (cV (bT pB (ai 1) au (bP _))))) (aJ (aZ 3 tw.nd (aR (aK (ai 2) (cG (mv (ai 1) au) au)) (ai 3)))) bL) (aJ (aU (aR (aR (fQ aT (cG (aR (ai 0) (ai 1)) au)) (ai 3)) (fQ aT (cG (mv (ai 0) au) au))))))))
theorem Nw:Cal .(u) P w K mg base "_law_benches" 4 2 rT:=
 V.d2.cal (k:=1) jL .(d) fun f cdv A outer s H E hr=>
  (aA (fX 4 jL.nd (bX ax)) (aA (eT eV rfl (kB rfl V.z_range (ak (ai 2) ax)) (aP 5 jL.nd) (aA (fX 6 jL.nd (bX ax)) (aA (aZ 7 jL.nd (dC (iO V) hr (ak (ai 0) (ak (aR au (ai 5)) (ak (aR (DO.de (bX (ak au ax))) (fQ (DO.de (bX (ak au (ak au ax)))) au)) ax))) ln3)) (aA (aZ 8 jL.nd au) (aA (eT eV rfl (kB rfl V.z_range (ak (aK (ai 7) au) ax)) (aP 9 jL.nd) (aA (aZ 10 jL.nd (aR (ai 8) (aK (ai 7) (aR au (fQ au (ai 9)))))) (aA (aZ 11 jL.nd (aR (aR (ai 10) au) (aK (ai 7) (aR au (fQ au (ai 9)))))) (aA (bI (bT iM (ai 11) (ai 3) (bP _)) (aJ (fP 6 (dI (ak (ai 10) (ak (ai 11) ax))))) bL) (aJ (aZ 8 jL.nd (aR (ai 11) au))))))) (i0 6 (aJ (fP 4 (dI (ak (dC (m4 V) hr (ak (ai 1) (ak (ai 5) ax)) ln2) (ak (ai 6) ax))))))))))) (i0 4 (aJ (aU (ai 4))))))
theorem NA:Cal .(u) P w K mg base "_law_steps" 5 2 tZ:=
 V.d3.cal (k:=1) lJ .(d) fun f cdv A outer s H E hr=>
  (aA (fX 5 lJ.nd (bX ax)) (aA (eT eV rfl (kB rfl V.z_range (ak (ai 2) ax)) (aP 6 lJ.nd) (aA (aZ 7 lJ.nd (dC (iO V) hr (ak (ai 0) (ak (aR au (ai 6)) (ak (aR (DO.de (bX (ak au (ak au (ak au (ak au ax)))))) (fQ (DO.de (bX (ak (dM au au) ax))) au)) ax))) ln3)) (aA (aZ 8 lJ.nd (bF (m5 rfl) rfl V.z_min (by rfl) (ak (ai 4) (ak (aK (DO.de (bX (ak au (ak au (ak (dM au au) ax))))) (aK (ai 7) au)) ax)))) (aA (fX 9 lJ.nd (bX ax)) (aA (eT eV rfl (kB rfl V.z_range (ak (bF (m5 rfl) rfl V.z_min (by rfl) (ak (aR au (aK (ai 7) au)) (ak (bF cH rfl V.z_len (by rfl) (ak (ai 3) ax)) ax))) ax)) (aP 10 lJ.nd) (aA (aZ 11 lJ.nd (aK (aK (ai 3) (cG (aR (aK (ai 7) au) (ai 10)) (bF cH rfl V.z_len (by rfl) (ak (ai 3) ax)))) au)) (aJ (fP 9 (dI (ak (ai 11) (ak (aR au (cG (aK (ai 7) (aR au (ai 10))) (ai 8))) ax))))))) (i0 9 (aJ (fP 5 (dI (ak (dC (m4 V) hr (ak (ai 1) (ak (aR (fQ au (cG (ai 1) au)) (ai 6)) ax)) ln2) (ak (dC (m4 V) hr (ak (mv (ai 1) au) (ak (aK (ai 7) au) ax)) ln2) (ak (ai 9) ax)))))))))))) (i0 5 (aJ (aU (ai 5))))))
theorem N0:Cal .(u) P w K mg base "_law_jobs" 4 2 tz:=
 V.d4.cal (k:=1) gx .(d) fun f cdv A outer s H E hr=>
  (aA (nj (dC (iO V) hr (ak (ai 0) (ak au (ak (DO.de (bX (ak au (ak (dM au au) (ak (dM au au) (ak au ax)))))) ax))) ln3) (mI (n:=4) rfl (bA (aP 4 gx.nd) (bA (aP 5 gx.nd) (bA (aP 6 gx.nd) (bA (aP 7 gx.nd) eB)))))) (aA (Qp 8 gx.nd rfl .(o) (FvOk.of (N':=["_law_k"]) (fv:=[ae]) rfl) (kB rfl V.z_range (ak (ai 4) ax)) ⟨fun _ _ _ _ _=>⟨(aP 0 (show(["_law_k"]:ac aj).Nodup by decide +kernel)),cu,(eW (j:=0) (pos:=⟨0,0,0,0⟩))⟩⟩) (aA (eT eV rfl (mK rfl V.z_enumerate (ai 2)) (gz (n:=2) rfl (bA (aP 9 gx.nd) (bA (aP 10 gx.nd) eB))) (aA (aZ 11 gx.nd (aK (dC (iO V) hr (ak (ai 0) (ak (aR au (ai 9)) (ak (DO.de (bX (ak au (ak au (ak au (ak au (ak (dM au au) (ak (dM au au) (ak (dM au au) (ak (dM au au) (ak au ax))))))))))) ax))) ln3) au)) (aJ (bI (bT kM (ai 11) (ai 4) (bP _)) (aJ (xr 8 (ai 11) (aK (ai 10) au))) bL)))) (aA (fX 12 gx.nd (bX ax)) (D7 8 (aA (eT eV rfl (mK rfl V.z_enumerate (ai 8)) (gz (n:=2) rfl (bA (aP 9 gx.nd) (bA (aP 13 gx.nd) eB))) (aJ (bI (bT (sg (om hr)) (ai 13) (DO.de (bX ax)) (bP _)) (aA (bI (bT dA (cG (mv (ai 7) au) au) au (bP _)) (aJ (aZ 13 gx.nd (Ex (ai 13)))) bL) (aA (aZ 5 gx.nd (cG (fQ (ai 5) au) (aR (ai 3) au))) (aA (aZ 6 gx.nd (cG (fQ (ai 6) au) (aR (ai 3) au))) (aA (aZ 14 gx.nd (gM dA (cG (wx (ai 7) (bF (m5 rfl) rfl V.z_min (by rfl) (ak (ai 9) (ak au ax)))) au) au (bP _))) (aJ (fP 12 (dI (ak (dC (m4 V) hr (ak (aR (ai 1) au) (ak (ai 9) ax)) ln2) (ak (ai 5) (ak (ai 6) (ak (ai 14) (ak (ai 13) ax)))))))))))) bL))) (i0 12 (aJ (aU (ai 12))))))))))
theorem Sr:Cal .(u) P w K mg base "_law_setups" 4 2 tF:=
 V.d5.cal (k:=1) jc .(d) fun f cdv A outer s H E hr=>
  (aA (fX 4 jc.nd (bX ax)) (aA (fX 5 jc.nd (bX ax)) (aA (eT eV rfl (kB rfl V.z_range (ak (aK (dC (iO V) hr (ak (ai 0) (ak au (ak (DO.de (bX (ak au ax))) ax))) ln3) au) ax)) (aP 6 jc.nd) (aA (nj (dC (iO V) hr (ak (ai 0) (ak (aR au (ai 6)) (ak (DO.de (bX (ak au (ak au (ak au (ak au (ak (dM au au) ax))))))) ax))) ln3) (mI (n:=5) rfl (bA (aP 7 jc.nd) (bA (aP 8 jc.nd) (bA (aP 9 jc.nd) (bA (aP 10 jc.nd) (bA (aP 11 jc.nd) eB))))))) (aA (aZ 7 jc.nd (aK (aK (ai 1) (cG (ai 7) .(aG))) au)) (aA (aZ 12 jc.nd (dI (ak (ai 7) (ak (dC (m4 V) hr (ak (mv (ai 2) au) (ak (ai 8) ax)) ln2) (ak (dC (m4 V) hr (ak (mv (ai 2) au) (ak (ai 9) ax)) ln2) ax))))) (aJ (bI (BL 5 (bT (Dx (et hr)) (ai 12) (ai 5) (by rfl))) (aA (fP 5 (ai 12)) (aJ (fP 4 (C2 (ai 12) (dI (ak (aR au (cG (ai 11) (bF (m5 rfl) rfl V.z_min (by rfl) (ak (ai 3) (ak (aK (DO.de (bX (ak au (ak (dM au au) ax)))) (ai 10)) ax))))) ax)))))) bL)))))) (i0 4 (aJ (aU (ai 4)))))))
theorem Sn:Cal .(u) P w K mg base "_law_links" 3 2 tJ:=
 V.d6.cal (k:=1) j8 .(d) fun f cdv A outer s H E hr=>
  (aA (fX 3 j8.nd (bX ax)) (aA (fX 4 j8.nd (bX ax)) (aA (eT eV rfl (kB rfl V.z_range (ak (aK (dC (iO V) hr (ak (ai 0) (ak au (ak (DO.de (bX (ak au (ak au ax)))) ax))) ln3) au) ax)) (aP 5 j8.nd) (aA (nj (dC (iO V) hr (ak (ai 0) (ak (aR au (ai 5)) (ak (DO.de (bX (ak au (ak au (ak au (ak (dM au au) ax)))))) ax))) ln3) (mI (n:=4) rfl (bA (aP 6 j8.nd) (bA (aP 7 j8.nd) (bA (aP 8 j8.nd) (bA (aP 9 j8.nd) eB)))))) (aA (aZ 6 j8.nd (aK (aK (ai 1) (cG (ai 6) .(aG))) au)) (aA (aZ 7 j8.nd (aK (aK (ai 1) (cG (ai 7) .(aG))) au)) (aJ (bI (BL 4 (DW.dt (oM (bT (sg (om hr)) (ai 6) (ai 7) (bP _)) (nY (bT (Dx (et hr)) (dI (ak (ai 6) (ak (ai 7) ax))) (ai 4) (by rfl)))))) (aA (fP 4 (dI (ak (ai 6) (ak (ai 7) ax)))) (aJ (fP 3 (dI (ak (ai 6) (ak (ai 7) (ak (cG (ai 9) (bF (m5 rfl) rfl V.z_min (by rfl) (ak (aR (ai 2) au) (ak (aK (DO.de (bX (ak au (ak au (ak (aR (dM au au) au) ax))))) (ai 8)) ax)))) ax))))))) bL)))))) (i0 3 (aJ (aU (ai 3)))))))
theorem Oe:Cal .(u) P w K mg base "_law_stocks" 3 2 tN:=
 V.d7.cal (k:=1) gw .(d) fun f cdv A outer s H E hr=>
  (aA (fX 3 gw.nd (bX ax)) (aA (eT eV rfl (kB rfl V.z_range (ak (aK (dC (iO V) hr (ak (ai 0) (ak au (ak (DO.de (bX (ak au (ak au (ak au ax))))) ax))) ln3) au) ax)) (aP 4 gw.nd) (aA (aZ 5 gw.nd (DO.de (bX (ak au (ak (aR (dM au au) au) (ak (aR (dM au au) au) (ak (dM au au) (ak (dM au au) (ak (dM au au) ax))))))))) (aA (nj (dC (iO V) hr (ak (ai 0) (ak (aR au (ai 4)) (ak (ai 5) ax))) ln3) (mI (n:=6) rfl (bA (aP 6 gw.nd) (bA (aP 7 gw.nd) (bA (aP 8 gw.nd) (bA (aP 9 gw.nd) (bA (aP 10 gw.nd) (bA (aP 11 gw.nd) eB)))))))) (aA (aZ 7 gw.nd (cG (ai 7) (aK (DO.de (bX (ak au (ak (aR (dM au au) au) ax)))) (ai 6)))) (aA (QR 12 2 gw.nd (Cb (Cb Ly))) (aA (eT eV rfl (mK rfl V.z_enumerate (ai 2)) (gz (n:=2) rfl (bA (aP 13 gw.nd) (bA (aP 14 gw.nd) eB))) (aA (aZ 15 gw.nd (aR au (cG (aR (ai 11) (fQ au (ai 13))) (aK (DO.de (bX (ak au (ak (dM au au) ax)))) (ai 6))))) (aA (bI (bT dA (cG (wx (ai 9) (ai 13)) au) au (bP _)) (aJ (xr 12 au (dI (ak (aK (ai 14) au) (ak (ai 15) ax))))) bL) (aJ (bI (bT dA (cG (wx (ai 10) (ai 13)) au) au (bP _)) (aJ (xr 12 au (dI (ak (aK (ai 14) au) (ak (ai 15) ax))))) bL))))) (aA (aZ 16 gw.nd (dI (ak (dC (m4 V) hr (ak (aR (ai 1) au) (ak (ai 4) ax)) ln2) (ak (cG (ai 8) (aR (ai 7) au)) (ak (ai 7) ax))))) (D7 12 (aJ (fP 3 (C2 (ai 16) (dI (ak (aK (ai 12) au) (ak (Ex (aK (ai 12) au)) ax)))))))))))))) (i0 3 (aJ (aU (ai 3))))))
theorem M4:Cal .(u) P w K mg base "_law_shop" 1 3 tO:=
 V.d8.cal (k:=2) ii .(d) fun f cdv A outer s H E hr=>
  (aA (nj (dC (iO V) hr (ak (ai 0) (ak au (ak (DO.de (bX (ak au (ak au (ak au (ak au (ak au (ak (dM au au) ax)))))))) ax))) ln3) (mI (n:=6) rfl (bA (aP 1 ii.nd) (bA (aP 2 ii.nd) (bA (aP 3 ii.nd) (bA (aP 4 ii.nd) (bA (aP 5 ii.nd) (bA (aP 6 ii.nd) eB)))))))) (aA (aZ 7 ii.nd (aR au (cG (ai 6) (aK (DO.de (bX (ak au (ak au (ak (dM au au) ax))))) (ai 5))))) (aA (aZ 8 ii.nd (dC (Nw V) hr (ak (ai 0) (ak (ai 1) (ak (aR au (ai 2)) (ak (ai 7) ax)))) ln4)) (aA (aZ 9 ii.nd (dC (NA V) hr (ak (ai 0) (ak (ai 1) (ak (aR au (cG (ai 4) (aK (DO.de (bX (ak au (ak au (ak au ax))))) (ai 3)))) (ak (ai 8) (ak (ai 7) ax))))) ln5)) (aA (aZ 10 ii.nd (dC (N0 V) hr (ak (ai 0) (ak (ai 1) (ak (ai 9) (ak (ai 7) ax)))) ln4)) (aA (aZ 11 ii.nd (dC (Sr V) hr (ak (ai 0) (ak (ai 8) (ak (ai 1) (ak (ai 7) ax)))) ln4)) (aA (aZ 12 ii.nd (dC (Sn V) hr (ak (ai 0) (ak (ai 9) (ak (ai 7) ax))) ln3)) (aA (aZ 13 ii.nd (dC (Oe V) hr (ak (ai 0) (ak (ai 1) (ak (ai 9) ax))) ln3)) (aJ (aU (DO.de (bX (ak (ai 8) (ak (ai 9) (ak (ai 10) (ak (ai 11) (ak (ai 12) (ak (ai 13) (ak (ai 7) ax)))))))))))))))))))
theorem Jh:Cal .(u) P w K mg base "_law_rows" 1 1 uT:=
 V.d9.cal (k:=0) dD .(d) fun f cdv A outer s H E hr=>
  (aA (fX 1 dD.nd (bX (ak (aR aT (cY iL rfl V.z_str (by rfl) (ak .(h) ax))) ax))) (aA (eT eV rfl (b9 .(h)) (gz (n:=2) rfl (bA (aP 2 dD.nd) (bA (aP 3 dD.nd) eB))) (aA (jd 4 dD.nd rfl .(o) (FvOk.of (N':=["_law_b","_law_e"]) (fv:=[ae,ae]) rfl) (b9 (ai 3)) ⟨fun _ _ _ _ _=>⟨(gz (n:=2) rfl (bA (aP 0 (show(["_law_b","_law_e"]:ac aj).Nodup by decide +kernel)) (bA (aP 1 (show(["_law_b","_law_e"]:ac aj).Nodup by decide +kernel)) eB))),cu,(aR (aR (cY iL rfl V.z_str (by rfl) (ak (ai 0) ax)) aT) (cY iL rfl V.z_str (by rfl) .(L)))⟩⟩) (aJ (fP 1 (iP jy pj pk m6 aT (ak (aR (DO.de (bX (ak aT (ak (ai 2) ax)))) (ai 4)) ax)))))) (aA (eT eV rfl (b9 .(h)) (gz (n:=3) rfl (bA (aP 2 dD.nd) (bA (aP 5 dD.nd) (bA (aP 6 dD.nd) eB)))) (aA (jd 4 dD.nd rfl .(o) (FvOk.of (N':=["_law_bench","_law_length"]) (fv:=[ae,ae]) rfl) (b9 (ai 6)) ⟨fun _ _ _ _ _=>⟨(gz (n:=2) rfl (bA (aP 0 (show(["_law_bench","_law_length"]:ac aj).Nodup by decide +kernel)) (bA (aP 1 (show(["_law_bench","_law_length"]:ac aj).Nodup by decide +kernel)) eB))),cu,(aR (aR (ai 0) aT) (cY iL rfl V.z_str (by rfl) .(L)))⟩⟩) (aJ (fP 1 (iP jy pj pk m6 aT (ak (aR (DO.de (bX (ak aT (ak (ai 2) (ak (ai 5) ax))))) (ai 4)) ax)))))) (aA (eT eV rfl (b9 .(h)) (gz (n:=5) rfl (bA (aP 2 dD.nd) (bA (aP 7 dD.nd) (bA (aP 8 dD.nd) (bA (aP 9 dD.nd) (bA (aP 10 dD.nd) eB)))))) (aA (aZ 4 dD.nd (DO.de (bX (ak aT (ak (ai 2) (ak (cY iL rfl V.z_str (by rfl) (ak (ai 7) ax)) (ak (cY iL rfl V.z_str (by rfl) (ak (ai 8) ax)) ax))))))) (aJ (fP 1 (iP jy pj pk m6 aT (ak (aR (aR (ai 4) (DO.de (bX (ak (aK (DO.de (bX (ak aT (ak aT ax)))) (cY xS rfl V.z_int (by rfl) (ak (ai 9) ax))) ax)))) (ai 10)) ax)))))) (aA (eT eV rfl (b9 .(h)) (aP 11 dD.nd) (aJ (fP 1 (iP jy pj pk m6 aT (ak (aR (aR (DO.de (bX (ak aT ax))) (cY Q7 rfl V.z_list (by rfl) (ak (c9 (ai 11) dX (cw au)) ax))) (DO.de (bX (ak (cY iL rfl V.z_str (by rfl) (ak (aK (ai 11) au) ax)) ax)))) ax))))) (aA (eT eV rfl (b9 .(h)) (gz (n:=3) rfl (bA (aP 12 dD.nd) (bA (aP 13 dD.nd) (bA (aP 14 dD.nd) eB)))) (aJ (fP 1 (aR (aR (aR (aR (aR aT (ai 12)) aT) (ai 13)) aT) (cY iL rfl V.z_str (by rfl) (ak (ai 14) ax)))))) (aA (eT eV rfl (b9 .(h)) (gz (n:=5) rfl (bA (aP 2 dD.nd) (bA (aP 15 dD.nd) (bA (aP 16 dD.nd) (bA (aP 17 dD.nd) (bA (aP 18 dD.nd) eB)))))) (aA (aZ 4 dD.nd (DO.de (bX (ak aT (ak (ai 2) (ak (cY iL rfl V.z_str (by rfl) (ak (ai 15) ax)) (ak (cY iL rfl V.z_str (by rfl) (ak (ai 16) ax)) ax))))))) (aA (aZ 4 dD.nd (aR (ai 4) (DO.de (c8 rfl .(o) (FvOk.of (N':=["_law_step","_law_amount"]) (fv:=[ae,ae]) rfl) (b9 (ai 17)) ⟨fun _ _ _ _ _=>⟨(gz (n:=2) rfl (bA (aP 0 .(aV)) (bA (aP 1 .(aV)) eB))),cu,(aR (aR (ai 0) aT) (cY iL rfl V.z_str (by rfl) .(L)))⟩⟩)))) (aA (aZ 4 dD.nd (aR (ai 4) (DO.de (c8 rfl .(o) (FvOk.of (N':=["_law_step","_law_amount"]) (fv:=[ae,ae]) rfl) (b9 (ai 18)) ⟨fun _ _ _ _ _=>⟨(gz (n:=2) rfl (bA (aP 0 .(aV)) (bA (aP 1 .(aV)) eB))),cu,(aR (aR (ai 0) aT) (cY iL rfl V.z_str (by rfl) .(L)))⟩⟩)))) (aJ (fP 1 (iP jy pj pk m6 aT (ak (ai 4) ax)))))))) (i0 1 (aJ (aU (ai 1)))))))))))
theorem DQ:Cal .(u) P w K mg base "_law_bad" 1 1 mE:=
 V.d10.cal (k:=0) cK .(d) fun f cdv A outer s H E hr=>
  (aA (aZ 1 cK.nd aT) (aA .(l) (aA .(l) (aA .(l) (aA .(l) (aA .(l) (aA .(l) (aA .(l) (aA .(l) (aA .(l) (aA .(l) (aA .(l) (aA .(l) (aA .(l) (aA .(l) (aA .(l) (aA .(l) (aA .(l) (aA .(l) (aA .(l) (aA .(l) (aA .(l) (aA .(l) (aA .(l) (aA .(l) (aA .(l) (aA .(l) (aA .(l) (aA .(l) (aA .(l) (aA .(l) (aA .(l) (aA (aZ 1 cK.nd (iP jy nP vY pT (ai 1) (ak aT ax))) (aJ (aU (aK (ai 1) (cG (ai 0) .(aG))))))))))))))))))))))))))))))))))))))
theorem NZ:Cal .(u) P w K mg base "_law_text" 3 2 uk:=
 V.d11.cal (k:=1) ee .(d) fun f cdv A outer s H E hr=>
  (aA (nj (dC (iO V) hr (ak (ai 1) (ak (ai 2) (ak (DO.de (bX (ak au (ak (dM au au) (ak (dM au au) (ak (dM au au) (ak (dM au au) ax))))))) ax))) ln3) (mI (n:=5) rfl (bA (aP 3 ee.nd) (bA (aP 4 ee.nd) (bA (aP 5 ee.nd) (bA (aP 6 ee.nd) (bA (aP 7 ee.nd) eB))))))) (aA (aZ 8 ee.nd (cG (ai 4) (aR .(i) au))) (aA (aZ 9 ee.nd (ai 8)) (aA (fX 0 ee.nd (tL (aR (c9 (ai 0) dX (cw (ai 8))) (DO.de (bX (ak (dC (DQ V) hr (ak (ai 6) ax) ln1) ax)))) (c9 (ai 0) (cw (ai 8)) dX))) (aA (bI (bT dA (ai 3) au (bP _)) (lL 0 (aA (aZ 8 ee.nd (cG (ai 5) (aR .(i) au))) (aA (fX 0 ee.nd (tL (aR (c9 (ai 0) dX (cw (ai 8))) (DO.de (bX (ak (dC (DQ V) hr (ak (ai 7) ax) ln1) ax)))) (c9 (ai 0) (cw (ai 8)) dX))) (aJ (aZ 9 ee.nd (aK (DO.de (bX (ak (ai 9) (ak (ai 8) ax)))) (cY xS rfl V.z_int (by rfl) (ak (gM iM (ai 8) (ai 9) (bP _)) ax)))))))) bL) (aA (bI (bT dA (ai 3) au (bP _)) (aA (JK 0 aT (ai 9)) (lL 0 (aA (jd 10 ee.nd rfl .(o) (FvOk.of (N':=["_law_k","_law_row"]) (fv:=[ae,ae]) rfl) (mK rfl V.z_enumerate (ai 0)) ⟨fun _ _ _ _ _=>⟨(gz (n:=2) rfl (bA (aP 0 (show(["_law_k","_law_row"]:ac aj).Nodup by decide +kernel)) (bA (aP 1 (show(["_law_k","_law_row"]:ac aj).Nodup by decide +kernel)) eB))),(pw (bT dA (c9 (ai 1) dX (cw au)) aT (bP _))),(ai 0)⟩⟩) (aJ (aZ 9 ee.nd (aK (ai 10) au)))))) bL) (aA (bI (bT dA (ai 3) au (bP _)) (lL 0 (aA (Q8 0 ee.nd rfl .(o) (FvOk.of (N':=["_law_row"]) (fv:=[ae]) rfl) (b9 (aR (c9 (ai 0) dX (cw (ai 9))) (c9 (ai 0) (cw (aR (ai 9) au)) dX))) ⟨fun _ _ _ _ _=>⟨(aP 0 (show(["_law_row"]:ac aj).Nodup by decide +kernel)),(pw (bT jN (c9 (ai 0) dX (cw au)) aT (bP _))),(ai 0)⟩⟩) (lL 0 (aJ (aZ 9 ee.nd .(i)))))) bL) (aA (bI (bT dA (ai 3) au (bP _)) (lL 0 (aA (jd 11 ee.nd rfl .(o) (FvOk.of (N':=["_law_row"]) (fv:=[ae]) rfl) (b9 (c9 (ai 0) dX (cw (ai 9)))) ⟨fun _ _ _ _ _=>⟨(aP 0 (show(["_law_row"]:ac aj).Nodup by decide +kernel)),(pw (bT jN (c9 (ai 0) dX (cw au)) aT (bP _))),(ai 0)⟩⟩) (aA (fX 0 ee.nd (tL (aR (ai 11) (c9 (ai 0) (cw (ai 9)) (cw (aR (ai 9) au)))) (DO.de (c8 rfl .(o) (FvOk.of (N':=["_law_row"]) (fv:=[ae]) rfl) (b9 (c9 (ai 0) (cw (aR (ai 9) au)) dX)) ⟨fun _ _ _ _ _=>⟨(aP 0 (show(["_law_row"]:ac aj).Nodup by decide +kernel)),(pw (bT jN (c9 (ai 0) dX (cw au)) aT (bP _))),(ai 0)⟩⟩)))) (aJ (aZ 9 ee.nd (bF cH rfl V.z_len (by rfl) (ak (ai 11) ax))))))) bL) (aA (bI (bT dA (ai 3) au (bP _)) (lL 0 (aA (aZ 8 ee.nd (cG (ai 5) (aR .(i) au))) (aA (fX 0 ee.nd (tL (aR (c9 (ai 0) dX (cw (ai 8))) (DO.de (bX (ak aT ax)))) (c9 (ai 0) (cw (ai 8)) dX))) (aA (aZ 9 ee.nd (aR (ai 9) (cY xS rfl V.z_int (by rfl) (ak (gM iM (ai 8) (ai 9) (bP _)) ax)))) (lL 0 (aA (jd 10 ee.nd rfl .(o) (FvOk.of (N':=["_law_k","_law_row","_law_due"]) (fv:=[ae,ae,aa 9]) rfl) (mK rfl V.z_enumerate (ai 0)) ⟨fun _ _ _ _ _=>⟨(gz (n:=2) rfl (bA (aP 0 (show(["_law_k","_law_row","_law_due"]:ac aj).Nodup by decide +kernel)) (bA (aP 1 (show(["_law_k","_law_row","_law_due"]:ac aj).Nodup by decide +kernel)) eB))),(pw (DW.dt (oM (bT dA (c9 (ai 1) dX (cw au)) aT (bP _)) (nY (bT (sg (om hr)) (ai 0) (ai 2) (bP _)))))),(ai 0)⟩⟩) (aJ (aZ 9 ee.nd (bF (m5 rfl) rfl V.z_min (by rfl) (ak (ai 9) (ak (aK (ai 10) au) ax))))))))))) bL) (lL 0 (aJ (aU (DO.de (bX (ak (iP jy pj pk m6 aT (ak (ai 0) ax)) (ak (ai 9) ax))))))))))))))))
theorem HM:Cal .(u) P w K mg base "is_numeral" 1 1 wV:=
 V.d12.cal (k:=0) NS .(d) fun f cdv A outer s H E hr=>
  (aA (bI (DW.dt (cm (bT dA (ai 0) aT (bP _)) (cV (DW.dt (oM (bT dA .(h) aT (bP _)) (nY (bT jN (ai 0) aT (bP _)))))))) (aJ (aU eP)) bL) (aJ (aU (bF (gT rfl) rfl V.z_all (by rfl) (ak (DO.de (c8 rfl .(o) (FvOk.of (N':=["sign"]) (fv:=[ae]) rfl) (Cu (ai 0)) ⟨fun _ _ _ _ _=>⟨(aP 0 (show(["sign"]:ac aj).Nodup by decide +kernel)),cu,(gM Fk (ai 0) (Jf rfl V.k_FIGURES) (by rfl))⟩⟩)) ax)))))
theorem pR:Cal .(u) P w K mg base "is_number" 1 2 lD:=
 V.d13.cal (k:=1) JO .(d) fun f cdv A outer s H E hr=>
  (aJ (aU (fR (gM iM .(i) (ip rfl V.k_MOST_FIGURES) (bP _)) (gQ (dC (HM V) hr (ak (ai 0) ax) ln1)))))
theorem K9:Cal .(u) P w K mg base "read_horizon" 1 3 tR:=
 V.d14.cal (k:=2) Pv .(d) fun f cdv A outer s H E hr=>
  (aA (bI (DW.dt (cm (bT jN .(i) au (bP _)) (cV (bM (bG (dC (pR V) hr (ak .(h) ax) ln1)))))) (aJ (aU eW)) bL) (aJ (aU .(aw))))
theorem w8:Cal .(u) P w K mg base "are_numbers" 1 3 rE:=
 V.d15.cal (k:=2) Ru .(d) fun f cdv A outer s H E hr=>
  (aJ (aU (bF (gT rfl) rfl V.z_all (by rfl) (ak (DO.de (c8 rfl .(o) (FvOk.of (N':=["word"]) (fv:=[ae]) rfl) (b9 (ai 0)) ⟨fun _ _ _ _ _=>⟨.(al),cu,(dC (pR V) hr (ak (ai 0) ax) ln1)⟩⟩)) ax))))
theorem OV:Cal .(u) P w K mg base "read_break" 1 4 xL:=
 V.d16.cal (k:=3) CJ .(d) fun f cdv A outer s H E hr=>
  (aA (aZ 1 CJ.nd (iP jy nP vY pT (ai 0) (ak aT ax))) (aA (bI (DW.dt (cm (bT jN .(aG) au (bP _)) (cV (bM (bG (dC (w8 V) hr .(L) ln1)))))) (aJ (aU eW)) bL) (aJ (aU (dI (ak (cY jK rfl V.z_int (by rfl) (ak (aK (ai 1) au) ax)) (ak (cY jK rfl V.z_int (by rfl) (ak (aK (ai 1) au) ax)) ax)))))))
theorem iw:Cal .(u) P w K mg base "is_name" 1 1 gG:=
 V.d17.cal (k:=0) LM .(d) fun f cdv A outer s H E hr=>
  (aA (bI (DW.dt (cm (bM (bG (bF kQ rfl V.z_isinstance (by rfl) (ak (ai 0) (ak (kI rfl V.z_str (by rfl)) ax))))) (cV (bM (Rn iM iM au .(i) (ip rfl V.k_LONGEST_NAME)))))) (aJ (aU eP)) bL) (aJ (aU (bF (gT rfl) rfl V.z_all (by rfl) (ak (DO.de (c8 rfl .(o) (FvOk.of (N':=["sign"]) (fv:=[ae]) rfl) (Cu (ai 0)) ⟨fun _ _ _ _ _=>⟨(aP 0 (show(["sign"]:ac aj).Nodup by decide +kernel)),cu,(xm iM iM aT (ai 0) aT)⟩⟩)) ax)))))
theorem Mm:Cal .(u) P w K mg base "read_bench" 1 5 uO:=
 V.d18.cal (k:=4) Fj .(d) fun f cdv A outer s H E hr=>
  (aA (jd 1 Fj.nd rfl .(o) (FvOk.of (N':=["word"]) (fv:=[ae]) rfl) (b9 (c9 (ai 0) (cw au) dX)) ⟨fun _ _ _ _ _=>⟨.(al),cu,(dC (OV V) hr (ak (ai 0) ax) ln1)⟩⟩) (aA (bI (DW.dt (cm (bT kM .(i) au (bP _)) (cm (bM (bG .(am))) (cV (bT (rP (et hr)) eW (ai 1) (by rfl)))))) (aJ (aU eW)) bL) (aJ (aU (dI (ak .(h) .(L)))))))
theorem xZ:Cal .(u) P w K mg base "read_named_number" 2 3 pA:=
 V.d19.cal (k:=2) DK .(d) fun f cdv A outer s H E hr=>
  (aA (aZ 2 DK.nd (iP jy nP vY pT (ai 0) .(L))) (aA (bI (DW.dt (cm (bT jN (bF cH rfl V.z_len (by rfl) (ak (ai 2) ax)) au (bP _)) (cm (bM (bG (dC (iw V) hr (ak (aK (ai 2) au) ax) ln1))) (cV (bM (bG (dC (pR V) hr (ak (aK (ai 2) au) ax) ln1))))))) (aJ (aU eW)) bL) (aJ (aU (dI (ak (aK (ai 2) au) (ak (cY jK rfl V.z_int (by rfl) (ak (aK (ai 2) au) ax)) ax)))))))
theorem uM:Cal .(u) P w K mg base "are_names" 1 2 nZ:=
 V.d20.cal (k:=1) LR .(d) fun f cdv A outer s H E hr=>
  (aJ (aU (bF (gT rfl) rfl V.z_all (by rfl) (ak (DO.de (c8 rfl .(o) (FvOk.of (N':=["word"]) (fv:=[ae]) rfl) (b9 (ai 0)) ⟨fun _ _ _ _ _=>⟨.(al),cu,(dC (iw V) hr (ak (ai 0) ax) ln1)⟩⟩)) ax))))
theorem Kk:Cal .(u) P w K mg base "read_step" 1 4 ur:=
 V.d21.cal (k:=3) BS .(d) fun f cdv A outer s H E hr=>
  (aA (jd 1 BS.nd rfl .(o) (FvOk.of (N':=["word"]) (fv:=[ae]) rfl) (b9 (c9 (ai 0) (cw au) dX)) ⟨fun _ _ _ _ _=>⟨.(al),cu,(dC (xZ V) hr (ak (ai 0) (ak aT ax)) ln2)⟩⟩) (aA (bI (DW.dt (cm (bT kM .(i) au (bP _)) (cm (bM (bG (dC (uM V) hr (ak (c9 (ai 0) (cw au) (cw au)) ax) ln1))) (cV (bT (rP (et hr)) eW (ai 1) (by rfl)))))) (aJ (aU eW)) bL) (aJ (aU (dI (ak .(h) (ak .(h) .(L))))))))
theorem Ic:Cal .(u) P w K mg base "read_job" 1 4 uB:=
 V.d22.cal (k:=3) Mv .(d) fun f cdv A outer s H E hr=>
  (aA (bI (DW.dt (cm (bT kM .(i) au (bP _)) (cm (bM (bG .(am))) (cV (bM (bG (dC (w8 V) hr (ak (c9 (ai 0) (cw au) (cw au)) ax) ln1))))))) (aJ (aU eW)) bL) (aA (bI (DW.dt (cm (bT (Jt (et hr)) .(h) (dI (ak aT (ak aT ax))) (by rfl)) (cV (bM (bG (dC (uM V) hr (ak (c9 (ai 0) (cw au) dX) ax) ln1)))))) (aJ (aU eW)) bL) (aJ (aU (dI (ak .(h) (ak .(aw) (ak .(aw) (ak (gM dA .(h) aT (bP _)) (ak (c9 (ai 0) (cw au) dX) ax))))))))))
theorem Rg:Cal .(u) P w K mg base "read_setup" 1 3 t5:=
 V.d23.cal (k:=2) RT .(d) fun f cdv A outer s H E hr=>
  (aA (bI (DW.dt (cm (bT jN .(i) au (bP _)) (cm (bM (bG (dC (uM V) hr (ak (c9 (ai 0) (cw au) (cw au)) ax) ln1))) (cV (bM (bG (dC (pR V) hr (ak .(h) ax) ln1))))))) (aJ (aU eW)) bL) (aJ (aU (dI (ak .(h) (ak .(h) (ak .(h) (ak .(aw) ax))))))))
theorem NQ:Cal .(u) P w K mg base "read_link" 1 3 ue:=
 V.d24.cal (k:=2) Kw .(d) fun f cdv A outer s H E hr=>
  (aA (bI (DW.dt (cm (bT jN .(i) au (bP _)) (cm (bM (bG (dC (uM V) hr (ak (c9 (ai 0) (cw au) (cw au)) ax) ln1))) (cV (bM (bG (dC (pR V) hr (ak .(h) ax) ln1))))))) (aJ (aU eW)) bL) (aJ (aU (dI (ak .(h) (ak .(h) (ak .(aw) ax)))))))
theorem Su:Cal .(u) P w K mg base "read_stock" 1 4 u8:=
 V.d25.cal (k:=3) rN .(d) fun f cdv A outer s H E hr=>
  (aA (bI (DW.dt (cm (bT kM .(i) au (bP _)) (cm (bM (bG .(am))) (cV (bM (bG (dC (w8 V) hr (ak (c9 (ai 0) (cw au) (cw au)) ax) ln1))))))) (aJ (aU eW)) bL) (aA (aZ 1 rN.nd au) (aA (OA 200 eV (DW.dt (oM (bT kM (ai 1) .(i) (bP _)) (nY (bT Fk aT (aK (ai 0) (ai 1)) (by rfl))))) (aJ (aZ 1 rN.nd (aR (ai 1) au)))) (aA (jd 2 rN.nd rfl .(o) (FvOk.of (N':=["word"]) (fv:=[ae]) rfl) (b9 (c9 (ai 0) (cw au) (cw (ai 1)))) ⟨fun _ _ _ _ _=>⟨.(al),cu,(dC (xZ V) hr (ak (ai 0) (ak aT ax)) ln2)⟩⟩) (aA (jd 3 rN.nd rfl .(o) (FvOk.of (N':=["word"]) (fv:=[ae]) rfl) (b9 (c9 (ai 0) (cw (ai 1)) dX)) ⟨fun _ _ _ _ _=>⟨.(al),cu,(dC (xZ V) hr (ak (ai 0) (ak aT ax)) ln2)⟩⟩) (aA (bI (DW.dt (cm (bT (rP (et hr)) eW (ai 2) (by rfl)) (cV (bT (rP (et hr)) eW (ai 3) (by rfl))))) (aJ (aU eW)) bL) (aJ (aU (dI (ak .(h) (ak .(aw) (ak .(aw) (ak (ai 2) (ak (ai 3) ax))))))))))))))
theorem L4:Cal .(u) P w K mg base "read_row" 1 6 f9:=
 V.d26.cal (k:=5) Lw .(d) fun f cdv A outer s H E hr=>
  (aA (bI (bT dA .(h) aT (bP _)) (aJ (aU (dC (K9 V) hr (ak (ai 0) ax) ln1))) bL) (aA (bI (bT dA .(h) aT (bP _)) (aJ (aU (dC (Mm V) hr (ak (ai 0) ax) ln1))) bL) (aA (bI (bT dA .(h) aT (bP _)) (aJ (aU (dC (Kk V) hr (ak (ai 0) ax) ln1))) bL) (aA (bI (bT dA .(h) aT (bP _)) (aJ (aU (dC (Ic V) hr (ak (ai 0) ax) ln1))) bL) (aA (bI (bT dA .(h) aT (bP _)) (aJ (aU (dC (Rg V) hr (ak (ai 0) ax) ln1))) bL) (aA (bI (bT dA .(h) aT (bP _)) (aJ (aU (dC (NQ V) hr (ak (ai 0) ax) ln1))) bL) (aA (bI (bT dA .(h) aT (bP _)) (aJ (aU (dC (Su V) hr (ak (ai 0) ax) ln1))) bL) (aJ (aU eW)))))))))
theorem QV:Cal .(u) P w K mg base "is_whole" 1 1 uL:=
 V.d27.cal (k:=0) RN .(d) fun f cdv A outer s H E hr=>
  (aJ (aU (fR (bF kQ rfl V.z_isinstance (by rfl) (ak (ai 0) (ak (kI rfl V.z_int (by rfl)) ax))) (gQ (Re (bF kQ rfl V.z_isinstance (by rfl) (ak (ai 0) (ak (kI rfl V.z_bool (by rfl)) ax))))))))
theorem ji:Cal .(u) P w K mg base "is_within" 3 2 hU:=
 V.d28.cal (k:=1) Rv .(d) fun f cdv A outer s H E hr=>
  (aJ (aU (fR (dC (QV V) hr (ak (ai 0) ax) ln1) (gQ (xm iM iM (ai 1) (ai 0) (ai 2))))))
theorem kJ:Cal .(u) P w K mg base "is_tuple" 2 1 gq:=
 V.d29.cal (k:=0) MD .(d) fun f cdv A outer s H E hr=>
  (aJ (aU (fR (bF kQ rfl V.z_isinstance (by rfl) (ak (ai 0) (ak (kI rfl V.z_tuple (by rfl)) ax))) (gQ (gM dA .(i) (ai 1) (bP _))))))
theorem ON:Cal .(u) P w K mg base "is_break" 2 3 tY:=
 V.d30.cal (k:=2) Sb .(d) fun f cdv A outer s H E hr=>
  (aA (bI (DW.dt (cm (bM (bG .(W))) (cm (bM (bG (dC (ji V) hr (ak .(h) (ak au .(L))) ln3))) (cV (bM (bG (dC (ji V) hr (ak .(h) (ak au .(L))) ln3))))))) (aJ (aU eP)) bL) (aJ (aU (gM kM .(h) .(h) (bP _)))))
theorem jA:Cal .(u) P w K mg base "is_list" 3 1 iA:=
 V.d31.cal (k:=0) M3 .(d) fun f cdv A outer s H E hr=>
  (aJ (aU (fR (bF kQ rfl V.z_isinstance (by rfl) (ak (ai 0) (ak (kI rfl V.z_list (by rfl)) ax))) (gQ (xm iM iM (ai 1) .(i) (ai 2))))))
theorem Ma:Cal .(u) P w K mg base "are_breaks" 2 4 zp:=
 V.d32.cal (k:=3) Ls .(d) fun f cdv A outer s H E hr=>
  (aA (bI (DW.dt (cm (bM (bG (dC (jA V) hr (ak (ai 0) (ak au (ak (ip rfl V.k_MOST_BREAKS) ax))) ln3))) (cV (bM (bG (bF (gT rfl) rfl V.z_all (by rfl) (ak (DO.de (c8 rfl .(o) (FvOk.of (N':=["row","horizon"]) (fv:=[ae,aa 1]) rfl) (b9 (ai 0)) ⟨fun _ _ _ _ _=>⟨(aP 0 (show(["row","horizon"]:ac aj).Nodup by decide +kernel)),cu,(dC (ON V) hr (ak (ai 0) .(L)) ln2)⟩⟩)) ax))))))) (aJ (aU eP)) bL) (aJ (aU (bF (gT rfl) rfl V.z_all (by rfl) (ak (DO.de (c8 rfl .(o) (FvOk.of (N':=["place","breaks"]) (fv:=[ae,aa 0]) rfl) (Ow rfl V.z_range (ak au (ak .(i) ax))) ⟨fun _ _ _ _ _=>⟨(aP 0 (show(["place","breaks"]:ac aj).Nodup by decide +kernel)),cu,(gM kM (aK (aK (ai 1) (LI (ai 0) au)) au) (aK (aK (ai 1) (ai 0)) au) (bP _))⟩⟩)) ax)))))
theorem H0:Cal .(u) P w K mg base "is_bench" 2 5 tS:=
 V.d33.cal (k:=4) KA .(d) fun f cdv A outer s H E hr=>
  (aJ (aU (fR .(W) (fR .(am) (gQ (dC (Ma V) hr (ak .(h) .(L)) ln2))))))
theorem kH:Cal .(u) P w K mg base "are_unlike" 1 1 gc:=
 V.d34.cal (k:=0) IS .(d) fun f cdv A outer s H E hr=>
  (aJ (aU (gM dA (O4 rfl (et hr) rfl V.z_len rfl V.z_set (ai 0)) .(i) (bP _))))
theorem Ke:Cal .(u) P w K mg base "are_benches" 2 6 wt:=
 V.d35.cal (k:=5) NH .(d) fun f cdv A outer s H E hr=>
  (aA (bI (DW.dt (cm (bM (bG (dC (jA V) hr (ak (ai 0) (ak au (ak (ip rfl V.k_MOST_BENCHES) ax))) ln3))) (cV (bM (bG (bF (gT rfl) rfl V.z_all (by rfl) (ak (DO.de (c8 rfl .(o) (FvOk.of (N':=["row","horizon"]) (fv:=[ae,aa 1]) rfl) (b9 (ai 0)) ⟨fun _ _ _ _ _=>⟨(aP 0 (show(["row","horizon"]:ac aj).Nodup by decide +kernel)),cu,(dC (H0 V) hr (ak (ai 0) .(L)) ln2)⟩⟩)) ax))))))) (aJ (aU eP)) bL) (aJ (aU .(g))))
theorem nU:Cal .(u) P w K mg base "is_one_of" 2 2 kF:=
 V.d36.cal (k:=1) QK .(d) fun f cdv A outer s H E hr=>
  (aJ (aU (fR (dC (iw V) hr (ak (ai 0) ax) ln1) (gQ (gM (rP (et hr)) (ai 0) (ai 1) (by rfl))))))
theorem Kt:Cal .(u) P w K mg base "is_way" 3 3 uQ:=
 V.d37.cal (k:=2) QO .(d) fun f cdv A outer s H E hr=>
  (aJ (aU (fR .(W) (fR (dC (nU V) hr (ak .(h) .(L)) ln2) (gQ .(aQ))))))
theorem PX:Cal .(u) P w K mg base "are_ways" 3 4 yX:=
 V.d38.cal (k:=3) Ox .(d) fun f cdv A outer s H E hr=>
  (aA (bI (DW.dt (cm (bM (bG (dC (jA V) hr (ak (ai 0) (ak au (ak (ip rfl V.k_MOST_WAYS) ax))) ln3))) (cV (bM (bG (bF (gT rfl) rfl V.z_all (by rfl) (ak (DO.de (c8 rfl .(o) (FvOk.of (N':=["row","bench_names","horizon"]) (fv:=[ae,aa 1,aa 2]) rfl) (b9 (ai 0)) ⟨fun _ _ _ _ _=>⟨(aP 0 (show(["row","bench_names","horizon"]:ac aj).Nodup by decide +kernel)),cu,(dC (Kt V) hr (ak (ai 0) (ak (ai 1) (ak (ai 2) ax))) ln3)⟩⟩)) ax))))))) (aJ (aU eP)) bL) (aJ (aU .(g))))
theorem Im:Cal .(u) P w K mg base "is_step" 3 5 tj:=
 V.d39.cal (k:=4) OX .(d) fun f cdv A outer s H E hr=>
  (aA (bI (DW.dt (cm (bM (bG .(W))) (cm (bM (bG .(am))) (cV (bM (bG .(am))))))) (aJ (aU eP)) bL) (aJ (aU (dC (PX V) hr (ak .(h) (ak (ai 1) (ak (ai 2) ax))) ln3))))
theorem K3:Cal .(u) P w K mg base "are_steps" 3 6 wn:=
 V.d40.cal (k:=5) Iq .(d) fun f cdv A outer s H E hr=>
  (aA (bI (DW.dt (cm (bM (bG (dC (jA V) hr (ak (ai 0) (ak au (ak (ip rfl V.k_MOST_STEPS) ax))) ln3))) (cV (bM (bG (bF (gT rfl) rfl V.z_all (by rfl) (ak (DO.de (c8 rfl .(o) (FvOk.of (N':=["row","bench_names","horizon"]) (fv:=[ae,aa 1,aa 2]) rfl) (b9 (ai 0)) ⟨fun _ _ _ _ _=>⟨(aP 0 (show(["row","bench_names","horizon"]:ac aj).Nodup by decide +kernel)),cu,(dC (Im V) hr (ak (ai 0) (ak (ai 1) (ak (ai 2) ax))) ln3)⟩⟩)) ax))))))) (aJ (aU eP)) bL) (aJ (aU .(g))))
theorem PL:Cal .(u) P w K mg base "is_job" 3 3 wu:=
 V.d41.cal (k:=2) Nn .(d) fun f cdv A outer s H E hr=>
  (aA (bI (DW.dt (cm (bM (bG .(W))) (cm (bM (bG .(am))) (cV (bM (bG (bF kQ rfl V.z_isinstance (by rfl) (ak .(h) (ak (kI rfl V.z_bool (by rfl)) ax))))))))) (aJ (aU eP)) bL) (aA (bI (DW.dt (cm (bM (bG .(aQ))) (cV (bM (bG .(aQ)))))) (aJ (aU eP)) bL) (aJ (aU (fR (dC (jA V) hr (ak .(h) (ak au (ak .(aG) ax))) ln3) (gQ (bF (gT rfl) rfl V.z_all (by rfl) (ak (DO.de (c8 rfl .(o) (FvOk.of (N':=["name","step_names"]) (fv:=[ae,aa 1]) rfl) (b9 .(h)) ⟨fun _ _ _ _ _=>⟨(aP 0 (show(["name","step_names"]:ac aj).Nodup by decide +kernel)),cu,(dC (nU V) hr (ak (ai 0) .(L)) ln2)⟩⟩)) ax))))))))
theorem Jk:Cal .(u) P w K mg base "are_jobs" 3 4 xR:=
 V.d42.cal (k:=3) xN .(d) fun f cdv A outer s H E hr=>
  (aA (bI (DW.dt (cm (bM (bG (dC (jA V) hr (ak (ai 0) (ak au (ak (ip rfl V.k_MOST_JOBS) ax))) ln3))) (cV (bM (bG (bF (gT rfl) rfl V.z_all (by rfl) (ak (DO.de (c8 rfl .(o) (FvOk.of (N':=["row","step_names","horizon"]) (fv:=[ae,aa 1,aa 2]) rfl) (b9 (ai 0)) ⟨fun _ _ _ _ _=>⟨(aP 0 (show(["row","step_names","horizon"]:ac aj).Nodup by decide +kernel)),cu,(dC (PL V) hr (ak (ai 0) (ak (ai 1) (ak (ai 2) ax))) ln3)⟩⟩)) ax))))))) (aJ (aU eP)) bL) (aA (fX 3 xN.nd (bX ax)) (aA (eT eV rfl (b9 (ai 0)) (aP 4 xN.nd) (aJ (JU 3 (aK (ai 4) au)))) (i0 3 (aJ (aU (fR .(g) (gQ (dC (kH V) hr (ak (ai 3) ax) ln1)))))))))
theorem Qd:Cal .(u) P w K mg base "is_setup" 3 3 tH:=
 V.d43.cal (k:=2) ND .(d) fun f cdv A outer s H E hr=>
  (aA (bI (DW.dt (cm (bM (bG .(W))) (cV (bM (bG (dC (nU V) hr (ak .(h) .(L)) ln2)))))) (aJ (aU eP)) bL) (aJ (aU (fR .(am) (fR .(am) (gQ .(aQ)))))))
theorem QT:Cal .(u) P w K mg base "are_setups" 3 4 yc:=
 V.d44.cal (k:=3) OU .(d) fun f cdv A outer s H E hr=>
  (aA (bI (DW.dt (cm (bM (bG (dC (jA V) hr (ak (ai 0) (ak au (ak (ip rfl V.k_MOST_SETUPS) ax))) ln3))) (cV (bM (bG (bF (gT rfl) rfl V.z_all (by rfl) (ak (DO.de (c8 rfl .(o) (FvOk.of (N':=["row","bench_names","horizon"]) (fv:=[ae,aa 1,aa 2]) rfl) (b9 (ai 0)) ⟨fun _ _ _ _ _=>⟨(aP 0 (show(["row","bench_names","horizon"]:ac aj).Nodup by decide +kernel)),cu,(dC (Qd V) hr (ak (ai 0) (ak (ai 1) (ak (ai 2) ax))) ln3)⟩⟩)) ax))))))) (aJ (aU eP)) bL) (aJ (aU (dC (kH V) hr (ak (DO.de (c8 rfl .(o) .(aF) (b9 (ai 0)) ⟨fun _ _ _ _ _=>⟨.(ab),cu,(c9 (ai 0) dX (cw au))⟩⟩)) ax) ln1))))
theorem Nx:Cal .(u) P w K mg base "is_link" 3 3 tI:=
 V.d45.cal (k:=2) R8 .(d) fun f cdv A outer s H E hr=>
  (aA (bI (DW.dt (cm (bM (bG .(W))) (cm (bM (bG (dC (nU V) hr (ak .(h) .(L)) ln2))) (cV (bM (bG (dC (nU V) hr (ak .(h) .(L)) ln2))))))) (aJ (aU eP)) bL) (aJ (aU (fR (gM (sg (om hr)) .(h) .(h) (bP _)) (gQ .(aQ))))))
theorem Ph:Cal .(u) P w K mg base "are_links" 3 4 zm:=
 V.d46.cal (k:=3) Nj .(d) fun f cdv A outer s H E hr=>
  (aA (bI (DW.dt (cm (bM (bG (dC (jA V) hr (ak (ai 0) (ak au (ak (ip rfl V.k_MOST_LINKS) ax))) ln3))) (cV (bM (bG (bF (gT rfl) rfl V.z_all (by rfl) (ak (DO.de (c8 rfl .(o) (FvOk.of (N':=["row","step_names","horizon"]) (fv:=[ae,aa 1,aa 2]) rfl) (b9 (ai 0)) ⟨fun _ _ _ _ _=>⟨(aP 0 (show(["row","step_names","horizon"]:ac aj).Nodup by decide +kernel)),cu,(dC (Nx V) hr (ak (ai 0) (ak (ai 1) (ak (ai 2) ax))) ln3)⟩⟩)) ax))))))) (aJ (aU eP)) bL) (aJ (aU (dC (kH V) hr (ak (DO.de (c8 rfl .(o) .(aF) (b9 (ai 0)) ⟨fun _ _ _ _ _=>⟨.(ab),cu,(c9 (ai 0) dX (cw au))⟩⟩)) ax) ln1))))
theorem NJ:Cal .(u) P w K mg base "is_amount" 2 3 uz:=
 V.d47.cal (k:=2) M6 .(d) fun f cdv A outer s H E hr=>
  (aJ (aU (fR .(W) (fR (dC (nU V) hr (ak .(h) .(L)) ln2) (gQ (dC (ji V) hr (ak .(h) (ak au (ak (ip rfl V.k_MOST_AMOUNT) ax))) ln3))))))
theorem D3:Cal .(u) P w K mg base "are_amounts" 2 4 t8:=
 V.d48.cal (k:=3) NO .(d) fun f cdv A outer s H E hr=>
  (aA (bI (DW.dt (cm (bM (bG (dC (jA V) hr (ak (ai 0) (ak au (ak .(aG) ax))) ln3))) (cV (bM (bG (bF (gT rfl) rfl V.z_all (by rfl) (ak (DO.de (c8 rfl .(o) (FvOk.of (N':=["row","step_names"]) (fv:=[ae,aa 1]) rfl) (b9 (ai 0)) ⟨fun _ _ _ _ _=>⟨(aP 0 (show(["row","step_names"]:ac aj).Nodup by decide +kernel)),cu,(dC (NJ V) hr (ak (ai 0) .(L)) ln2)⟩⟩)) ax))))))) (aJ (aU eP)) bL) (aJ (aU .(g))))
theorem OB:Cal .(u) P w K mg base "is_stock" 2 5 uf:=
 V.d49.cal (k:=4) Sf .(d) fun f cdv A outer s H E hr=>
  (aA (bI (DW.dt (cm (bM (bG .(W))) (cV (bM (bG .(am)))))) (aJ (aU eP)) bL) (aA (bI (DW.dt (cm (bM (bG (dC (ji V) hr (ak .(h) (ak au (ak (ip rfl V.k_MOST_AMOUNT) ax))) ln3))) (cV (bM (bG (dC (ji V) hr (ak .(h) (ak au (ak .(h) ax))) ln3)))))) (aJ (aU eP)) bL) (aJ (aU (fR (dC (D3 V) hr (ak .(h) .(L)) ln2) (gQ (dC (D3 V) hr (ak .(h) .(L)) ln2)))))))
theorem LK:Cal .(u) P w K mg base "are_stocks" 2 6 yO:=
 V.d50.cal (k:=5) Kn .(d) fun f cdv A outer s H E hr=>
  (aA (bI (DW.dt (cm (bM (bG (dC (jA V) hr (ak (ai 0) (ak au (ak (ip rfl V.k_MOST_STOCKS) ax))) ln3))) (cV (bM (bG (bF (gT rfl) rfl V.z_all (by rfl) (ak (DO.de (c8 rfl .(o) (FvOk.of (N':=["row","step_names"]) (fv:=[ae,aa 1]) rfl) (b9 (ai 0)) ⟨fun _ _ _ _ _=>⟨(aP 0 (show(["row","step_names"]:ac aj).Nodup by decide +kernel)),cu,(dC (OB V) hr (ak (ai 0) .(L)) ln2)⟩⟩)) ax))))))) (aJ (aU eP)) bL) (aJ (aU .(g))))
theorem IP:Cal .(u) P w K mg base "first_bad_part" 7 7 xq:=
 V.d51.cal (k:=6) xW .(d) fun f cdv A outer s H E hr=>
  (aA (bI (bM (bG (dC (ji V) hr (ak (ai 6) (ak au (ak (ip rfl V.k_MOST_HORIZON) ax))) ln3))) (aJ (aU aT)) bL) (aA (bI (bM (bG (dC (Ke V) hr (ak (ai 0) (ak (ai 6) ax)) ln2))) (aJ (aU aT)) bL) (aA (jd 7 xW.nd rfl .(o) .(aF) (b9 (ai 0)) ⟨fun _ _ _ _ _=>⟨.(ab),cu,.(h)⟩⟩) (aA (bI (bM (bG (dC (K3 V) hr (ak (ai 1) (ak (ai 7) (ak (ai 6) ax))) ln3))) (aJ (aU aT)) bL) (aA (jd 8 xW.nd rfl .(o) .(aF) (b9 (ai 1)) ⟨fun _ _ _ _ _=>⟨.(ab),cu,.(h)⟩⟩) (aA (bI (bM (bG (dC (Jk V) hr (ak (ai 2) (ak (ai 8) (ak (ai 6) ax))) ln3))) (aJ (aU aT)) bL) (aA (bI (bM (bG (dC (QT V) hr (ak (ai 3) (ak (ai 7) (ak (ai 6) ax))) ln3))) (aJ (aU aT)) bL) (aA (bI (bM (bG (dC (Ph V) hr (ak (ai 4) (ak (ai 8) (ak (ai 6) ax))) ln3))) (aJ (aU aT)) bL) (aA (bI (bM (bG (dC (LK V) hr (ak (ai 5) (ak (ai 8) ax)) ln2))) (aJ (aU aT)) bL) (aJ (aU eW)))))))))))
theorem HQ {k:ah} {hW:FQ} (kz:Cal .(u) P w K mg base "fresh" 1 k hW):Cal .(u) P w K mg base "fresh" 1 (k+1) (jI hW):=
 V.d52.cal (k:=k) Ji .(d) fun f cdv A outer s H E hr=>
  (aA (bI (bG (bF kQ rfl V.z_isinstance (by rfl) (ak (ai 0) (ak (kI rfl V.z_list (by rfl)) ax)))) (aJ (aU .(aI))) bL) (aA (bI (bG (bF kQ rfl V.z_isinstance (by rfl) (ak (ai 0) (ak (kI rfl V.z_tuple (by rfl)) ax)))) (aJ (aU (cY C3 rfl V.z_tuple (by rfl) (ak .(aI) ax)))) bL) (aJ (aU (ai 0)))))
theorem kz:Cal .(u) P w K mg base "fresh" 1 8 hW:=by
 have h:∀n,Cal .(u) P w K mg base "fresh" 1 n (jY n):=fun n=>by
  induction n with
  |zero=>exact Dfn.none (ps:=["thing"]) V.d52 .(d)
  |succ n ih=>exact HQ V ih
 exact h 8
theorem Mh:CalI .(u) P w K mg base "Shop" 7 9 pE:=
 DfnM.calI (k:=8) V.O_Shop V.d53 tV .(d) fun f y cdv A outer s H E hr=>
  (aA (aZ 8 tV.nd (i6 ((IP V).re y) hr .(c) rfl (ak (ai 1) (ak (ai 2) (ak (ai 3) (ak (ai 4) (ak (ai 5) (ak (ai 6) (ak (ai 7) ax))))))) ln7)) (aA (bI (bT Q4 (ai 8) eW (bP _)) (aJ My) bL) (aA (jX 0 (V.cf_Shop.re y) (.head _) (i6 ((kz V).re y) hr .(c) rfl .(L) ln1)) (aA (jX 0 (V.cf_Shop.re y) (.tail _ (.head _)) (i6 ((kz V).re y) hr .(c) rfl (ak (ai 2) ax) ln1)) (aA (jX 0 (V.cf_Shop.re y) (.tail _ (.tail _ (.head _))) (i6 ((kz V).re y) hr .(c) rfl (ak (ai 3) ax) ln1)) (aA (jX 0 (V.cf_Shop.re y) (.tail _ (.tail _ (.tail _ (.head _)))) (i6 ((kz V).re y) hr .(c) rfl (ak (ai 4) ax) ln1)) (aA (jX 0 (V.cf_Shop.re y) (.tail _ (.tail _ (.tail _ (.tail _ (.head _))))) (i6 ((kz V).re y) hr .(c) rfl (ak (ai 5) ax) ln1)) (aA (jX 0 (V.cf_Shop.re y) (.tail _ (.tail _ (.tail _ (.tail _ (.tail _ (.head _)))))) (i6 ((kz V).re y) hr .(c) rfl (ak (ai 6) ax) ln1)) (aA (jX 0 (V.cf_Shop.re y) .(G) (ai 7)) (aA (jX 0 (V.cf_Shop.re y) (.tail _ .(G)) (cY (Dr rfl (et hr)) rfl V.z_dict (by rfl) (ak (DO.de (c8 rfl .(o) .(aF) (b9 (tm 0 (V.cf_Shop.re y) (.head _))) ⟨fun _ _ _ _ _=>⟨.(ab),cu,(dI (ak .(h) (ak (ai 0) ax)))⟩⟩)) ax))) (aA (jX 0 (V.cf_Shop.re y) (.tail _ (.tail _ .(G))) (cY (Dr rfl (et hr)) rfl V.z_dict (by rfl) (ak (DO.de (c8 rfl .(o) .(aF) (b9 (tm 0 (V.cf_Shop.re y) (.tail _ (.head _)))) ⟨fun _ _ _ _ _=>⟨.(ab),cu,(dI (ak .(h) (ak (ai 0) ax)))⟩⟩)) ax))) (aA (jX 0 (V.cf_Shop.re y) (.tail _ (.tail _ (.tail _ .(G)))) (cY (Iy rfl (et hr)) rfl V.z_dict (by rfl) (ak (DO.de (c8 rfl .(o) .(aF) (b9 (tm 0 (V.cf_Shop.re y) (.tail _ (.tail _ (.tail _ (.head _)))))) ⟨fun _ _ _ _ _=>⟨.(ab),cu,(dI (ak (c9 (ai 0) dX (cw au)) (ak .(h) ax)))⟩⟩)) ax))) (aA (Ri 0 (V.cf_Shop.re y) (.tail _ (.tail _ (.tail _ (.tail _ .(G)))))) (aJ (eT eV rfl (b9 (tm 0 (V.cf_Shop.re y) (.tail _ (.tail _ (.head _))))) (aP 9 tV.nd) (aJ (eT eV rfl (b9 (aK (ai 9) au)) (aP 10 tV.nd) (aJ (M0 0 (et hr) (V.cf_Shop.re y) (.tail _ (.tail _ (.tail _ (.tail _ .(G))))) (ai 10) (ai 9))))))))))))))))))))
variable (XR:XRw P w K mg base CRw CS CN CP CT CG CM CY fI fd)
include XR
theorem Dc:CalV .(u) P w K mg base "read_shop" (clW CRw) 1 11 fY:=
 V.d54.calV (k:=10) m8 .(d) fun f cdv A outer s H E hr=>
  (lr (xI (bM (bG (bF kQ rfl V.z_isinstance (by rfl) (ak (ai 0) (ak (kI rfl V.z_str (by rfl)) ax))))) (wY (yF (fun _ _ h dx hz=>h _ _ _ _ rfl rfl dx hz) XR.FN XR.Z XR.hb hr .(c) rfl XR.m (ak au ax))) w9) (lr (uw (aZ 1 m8.nd (iP jy nP vY pT (ai 0) (ak aT ax)))) (lr (uw (RE 2 m8.nd (mH (mH (mH (mH (mH (mH (mH Kf))))))) .(j) (by simp) .(c))) (lr (MG PassesOwn.leaving rfl (mK rfl V.z_enumerate (ai 1)) (gz (n:=2) rfl (bA (aP 3 m8.nd) (bA (aP 4 m8.nd) eB))) (lr (uw (aZ 5 m8.nd (iP jy nP vY pT (ai 4) (ak aT ax)))) (lr (uw (aZ 6 m8.nd (dC (L4 V) hr (ak (ai 5) ax) ln1))) (lr (xI (Bu 2 (DW.dt (cm (bT Ld (ai 6) eW (bP _)) (cV (DW.dt (oM (bT dA (aK (ai 5) au) aT (bP _)) (nY (bT pB (bF cH rfl V.z_len (by rfl) (ak (kP (et hr) (ai 2) aT) ax)) au (bP _))))))))) (wY (yF (fun _ _ h dx hz=>h _ _ _ _ rfl rfl dx hz) XR.FN XR.Z XR.hb hr .(c) rfl XR.m (ak (ai 3) ax))) w9) (Fz (aJ (Jv 2 (et hr) (aK (ai 5) au) (ai 6)))))))) (lr (xI (Bu 2 (bT dA (bF cH rfl V.z_len (by rfl) (ak (kP (et hr) (ai 2) aT) ax)) au (bP _))) (wY (yF (fun _ _ h dx hz=>h _ _ _ _ rfl rfl dx hz) XR.FN XR.Z XR.hb hr .(c) rfl XR.m (ak .(aG) ax))) w9) (Fz (IW 2 (aJ (aU (IE (Mh V) hr .(c) rfl (ak (kP (et hr) (ai 2) aT) (ak (kP (et hr) (ai 2) aT) (ak (kP (et hr) (ai 2) aT) (ak (kP (et hr) (ai 2) aT) (ak (kP (et hr) (ai 2) aT) (ak (kP (et hr) (ai 2) aT) (ak (aK (kP (et hr) (ai 2) aT) au) ax))))))) ln7))))))))))
theorem CC:Cal .(u) P w K mg base "_law_refused" 2 12 ng:=
 Q5 V.d55 XR.only XR.R V.z_isinstance V.z_ValueError V.z_bool (Dc V XR)
theorem Ny:CalM .(u) P w K mg base "Shop" "last_moment" 1 1 uI:=
 DfnM.cal (k:=0) V.O_Shop V.d56 R7 .(d) fun f cdv A outer s H E hr=>
  (aJ (aU (Q6 V.cf_Shop .(G) (ai 0))))
theorem Mo  (f:av) (cdv:Value) (A:eU) (outer:ac cN) (s:aH) (H:Hp) (E:XK) (hr:Room 12 (A.deeper (cX "law" (aW (top 87)) s.heap.objs.size f cdv))):DSs .(u) (eS CX0 P w K mg base ["_law_script","_law_rows_here","_law_k","_law_text_here","_law_due","_law_thing"] "law" (aW (top 87)) f cdv A outer s H E).nox (eN (top 87)) D':=
  (aA (aZ 1 oy.nd (dC (Jh V) hr (ak (dC (M4 V) hr (ak (ai 0) ax) ln1) ax) ln1)) (aA (eT eV rfl (kB rfl V.z_range (ak (bF (IG rfl) rfl V.z_max (by rfl) (ak au (ak (bF (m5 rfl) rfl V.z_min (by rfl) (ak .(i) (ak au ax))) ax))) ax)) (aP 2 oy.nd) (aA (nj (dC (NZ V) hr (ak (ai 1) (ak (ai 0) (ak (ai 2) ax))) ln3) (mI (n:=2) rfl (bA (aP 3 oy.nd) (bA (aP 4 oy.nd) eB)))) (aJ (bI (bM (bG (dC (CC V XR) hr (ak (ai 3) (ak (ai 4) ax)) ln2))) (aJ (aU eP)) bL)))) (aA (eT eV rfl (b9 (DO.de (bX (ak eW (ak au (ak eP (ak (ai 1) (ak (cY C3 rfl V.z_tuple (by rfl) .(L)) (ak KL (ak aT ax)))))))))) (aP 5 oy.nd) (aJ (bI (bM (bG (dC (CC V XR) hr (ak (ai 5) (ak au ax)) ln2))) (aJ (aU eP)) bL))) (aJ (aU (gM pB (Ms (Ny V XR) hr .(c) (i6 ((Dc V XR)).cal hr .(c) rfl (ak (iP jy pj pk m6 aT .(L)) ax) ln1)) au (bP _)))))))
end
theorem i2:gr "int" "int"=aa al:=rfl
theorem i3:gr "int" "bool"=aa aq:=rfl
theorem i5:gr "bool" "bool"=aa al:=rfl
theorem j1:gr "str" "str"=aa al:=rfl
theorem k1:gr "list" "list"=aa al:=rfl
theorem k2:gr "tuple" "list"=aa aq:=rfl
theorem k3:gr "tuple" "tuple"=aa al:=rfl
theorem k4:gr "str" "list"=aa aq:=rfl
theorem k5:gr "str" "tuple"=aa aq:=rfl
theorem k6:gr "int" "list"=aa aq:=rfl
theorem k7:gr "int" "tuple"=aa aq:=rfl
theorem k8:gr "bool" "list"=aa aq:=rfl
theorem k9:gr "bool" "tuple"=aa aq:=rfl
theorem k10:gr "NoneType" "list"=aa aq:=rfl
theorem k11:gr "NoneType" "tuple"=aa aq:=rfl
theorem sz1:(1<=aL)=True:=by simp[aL]
theorem sz2:(1+1<=aL)=True:=by simp[aL]
theorem sz3:(1+1+1<=aL)=True:=by simp[aL]
theorem sz4:(1+1+1+1<=aL)=True:=by simp[aL]
theorem sz5:(1+1+1+1+1<=aL)=True:=by simp[aL]
theorem sz7:(1+1+1+1+1+1+1<=aL)=True:=by simp[aL]
section
variable {x0:D} {r:ac D}
theorem ky (l:ac α) (n:ah):atI l (n:ag)=l[n]?:=by
 unfold atI ixN;rw[qY .(a)];by_cases h:n<l.length
 .rw[qY .(a)];simp
 .rw[qZ .(a)];simp;omega
theorem iT:ixD (.tup (x0::r)) (.int 0)=aa x0:=ky _ 0
theorem jD:ixD (.tup (x0::x1::r)) (.int 1)=aa x1:=ky _ 1
theorem pU:ixD (.tup (x0::x1::x2::r)) (.int 2)=aa x2:=ky _ 2
theorem rZ:ixD (.tup (x0::x1::x2::x3::r)) (.int 3)=aa x3:=ky _ 3
theorem pC:ixD (.tup (x0::x1::x2::x3::x4::r)) (.int 4)=aa x4:=ky _ 4
end
theorem yN {fe:FE} {r:aX} {f:D->D}:∀{xs:ac D} {a:ar Slot},(∀x∈xs,fe (oS x::r)=aa (f x))->gL (ay 0) tT fe xs (a::r)=aa (xs.map f)
 |[],_,_=>rfl
 |x::xs,a,h=>by have h1:=h x qf;have ih:=yN (xs:=xs) (a:=oS x) fun y hy=>h y (qg _ hy);simp only[gL,ay,nR,qa,tT,cr,h1,ih,qd,qm]
theorem Ey:∀{l:ac D},(∀x∈l,x=.bl al)->∃bs:ac ba,ou l=aa bs/\bs.all id=al
 |[],_=>⟨[],rfl,rfl⟩
 |x::r,h=>by obtain⟨bs,h1,h2⟩:=Ey (l:=r) fun y hy=>h y (qg _ hy);have hx:=h x qf;subst hx;exact⟨al::bs,by simp[ou,h1],by simpa using h2⟩
theorem gJ {r:aX} {a:ar Slot} (h1:fi ρ=aa xs) (h2:xs.length<=aL) (h3:gV fv ρ=a::r) (h:∀x∈xs,fe (oS x::r)=aa (.bl al)) :
  cF fm (af (aF (bh fi (ay 0) tT fe fv)) ao) ρ=aa (.bl al):=by
 have c:=yN (a:=a) (f:=fun _=>.bl al) h;obtain⟨bs,e1,e2⟩:=Ey (l:=xs.map fun _=>D.bl al) (by simp);simp only[cF,af,ao,aF,bh,h1,qa,qY h2,h3,c,qd,fm,e1];simpa using e2
theorem lM {r:aX} {a:ar Slot} {f:D->D} (h1:fi ρ=aa xs) (h2:xs.length<=aL) (h3:gV fv ρ=a::r) (h:∀x∈xs,fe (oS x::r)=aa (f x)) :
  aF (bh fi (ay 0) tT fe fv) ρ=aa (.lst (xs.map f)):=by
 simp only[aF,bh,h1,qa,qY h2,h3,yN (a:=a) h,qd]
theorem gC {body:FS} (I:ah->aX->Prop) (h0:I 0 ρ) (hs:∀i x ρ,xs[i]?=aa x->I i ρ->∃ρ1 ρ2,gg x ρ=aa ρ1/\body ρ1=aa (.nx,ρ2)/\I (i+1) ρ2) :
  ∃ρ',dj gg body xs ρ=aa (.nx,ρ')/\I xs.length ρ':=by
 have key:∀(ys:ac D) (k:ah) (ρ:aX),xs.drop k=ys->I k ρ->∃ρ',dj gg body ys ρ=aa (.nx,ρ')/\I (k+ys.length) ρ':=by
  intro ys
  induction ys with
  |nil=>intro k ρ _ hk;exact⟨ρ,rfl,hk⟩
  |cons y r ih=>
   intro k ρ hd hk;have hy:xs[k]?=aa y:=by
    have:(xs.drop k)[0]?=aa y:=by rw[hd];rfl
    simpa using this
   obtain⟨ρ1,ρ2,h1,h2,h3⟩:=hs k y ρ hy hk;have hd':xs.drop (k+1)=r:=by rw[←Hy,hd];rfl
   obtain⟨ρ',h4,h5⟩:=ih (k+1) ρ2 hd' h3;refine⟨ρ',?_,by rw[qh];rwa [show k+1+r.length=k+(r.length+1) by omega] at h5⟩;simp only[dj,h1,qa,h2,h4]
 obtain⟨ρ',h1,h2⟩:=key xs 0 ρ rfl h0;exact⟨ρ',h1,by rwa [g0] at h2⟩
theorem BK:(2:ag) ^ 62=4611686018427387904:=by decide +kernel
theorem JH {i j:ag} (h:0<=i/\i<=1000000/\0<=j/\j<=1000000):mX [.int i,.int j]=aa ((cz (j-i).toNat).map fun k:ah=>D.int (i+k)):=by unfold mX;rw[BK];exact qY ⟨by omega,by omega,by omega,by omega⟩
theorem kW {j:ag} (h:0<=j/\j<=1000000):gU [.int j]=aa ((cz j.toNat).map fun i:ah=>D.int (0+i)):=by unfold gU;rw[BK];exact qY ⟨by omega,by omega⟩
theorem jG {g:ac D->ar (ac D)} {r:ac D} (h1:fr ρ=aa ds) (h2:g ds=aa r):itR g fr ρ=aa r:=by unfold itR;rw[h1];exact h2
theorem aD {g:D->D->ar D} {x y:D} (h1:fa ρ=aa x) (h2:fb ρ=aa y) (h3:g x y=aa z):b2 g fa fb ρ=aa z:=by unfold b2;rw[h1,qa,h2,qa];exact h3
theorem aY {g:FQ} (h1:fr ρ=aa ds) (h2:g ds=aa z):cF g fr ρ=aa z:=by unfold cF;rw[h1];exact h2
theorem aC (h1:f ρ=aa d) (h2:fr ρ=aa ds):af f fr ρ=aa (d::ds):=by unfold af;rw[h1,qa,h2];rfl
theorem aS :ao ρ=aa []:=rfl
theorem yq (h:g (ds.map (fun d=>aa (Slot.sh d))++bS n ae)=aa (.rt d,ρ')):bj n g ds=aa d:=by unfold bj;rw[h];rfl
theorem bW (ρ:aX) (e:ds.map (fun d=>aa (Slot.sh d))++bS n ae=ρ) (h:g ρ=aa (.rt d,ρ')):bj n g ds=aa d:=by subst e;exact yq h
theorem cg (h:f ρ=aa d):aN f ρ=aa (.rt d,ρ):=by unfold aN;rw[h];rfl
theorem bU {b:ba} (h:f ρ=aa (.bl b)):toB f ρ=aa b:=by unfold toB;rw[h];rfl
theorem mD {A:FE} {X E:FS} (hA:A ρ=aa (.bl al)):aw (sIf (bf (toB A)) X aQ) E ρ=E ρ:=by simp only[aw,sIf,bf,bU hA,qd,qa,iY,qq,dv,aQ]
theorem jj {A B:FE} {X E:FS} (hA:A ρ=aa (.bl al)) (hB:B ρ=aa (.bl al)):aw (sIf (orT (bf (toB A)) (bf (toB B))) X aQ) E ρ=E ρ:=by simp only[aw,sIf,orT,bf,bU hA,bU hB,qd,qa,iY,qq,dv,aQ]
theorem Pt {A B C:FE} {X E:FS} (hA:A ρ=aa (.bl al)) (hB:B ρ=aa (.bl al)) (hC:C ρ=aa (.bl al)):aw (sIf (orT (bf (toB A)) (orT (bf (toB B)) (bf (toB C)))) X aQ) E ρ=E ρ:=by simp only[aw,sIf,orT,bf,bU hA,bU hB,bU hC,qd,qa,iY,qq,dv,aQ]
theorem yQ {A B:FE} (hA:A ρ=aa (.bl al)) (hB:B ρ=aa (.bl al)):cS A B ρ=aa (.bl al):=by simp only[cS,hA,hB,qa]
theorem bJ (h:f ρ=aa d):aw (aE i f) g ρ=g (ρ.set i (oS d)):=by simp only[aw,aE,h,qd,qa]
theorem R4 (i:ag):uL [.int i]=aa (.bl al):=by simp only[uL,bj,aN,cS,ui,cF,af,ao,vSh,vC,dU,tyD,qm,qO,qp,qR,bS,qb,qa,qd,ph,i2,i3]
theorem jg (i a b:ag) (h:a<=i/\i<=b):hU [.int i,.int a,.int b]=aa (.bl al):=by simp only[hU,R4,bj,aN,cS,cF,af,ao,vSh,chD,leD,qm,qO,qp,qR,bS,qb,qc,qa,qd,qS h.1,qS h.2]
theorem jF (l:ac D) (a b:ag) (h:a<=l.length/\(l.length:ag)<=b):iA [.lst l,.int a,.int b]=aa (.bl al):=by simp only[iA,bj,aN,cS,cF,af,ao,vSh,vC,chD,dU,tyD,bw,leD,qm,qO,qp,qR,bS,qb,qc,qa,qd,k1,qS h.1,qS h.2]
theorem uj (l:ac D) (n:ag) (h:(l.length:ag)=n):gq [.tup l,.int n]=aa (.bl al):=by simp only[gq,bj,aN,cS,cF,af,ao,vSh,vC,b2,dU,tyD,bw,eqD,eqS,qm,qO,qp,qR,bS,qb,qc,qa,qd,k3,qS h]
section
variable {a b c e:D}
theorem ug:gq [.tup [a,b],.int 2]=aa (.bl al):=uj _ _ rfl
theorem Ck:gq [.tup [a,b,c],.int 3]=aa (.bl al):=uj _ _ rfl
theorem Q1:gq [.tup [a,b,c,d],.int 4]=aa (.bl al):=uj _ _ rfl
theorem A9:gq [.tup [a,b,c,d,e],.int 5]=aa (.bl al):=uj _ _ rfl
end
noncomputable def dIv (p:ag×ag):D:=.tup [.int p.1,.int p.2]
theorem RG (p:ag×ag) (h:ag) (h1:0<=p.1) (h2:p.1<p.2) (h3:p.2<=h):tY [dIv p,.int h]=aa (.bl al):=by simp only[tY,dIv,bj,aw,sIf,aN,aQ,orT,bf,toB,cF,af,ao,vSh,vC,b2,ltD,iT,jD,qm,qO,qp,qR,bS,qb,qc,qa,qd,dv,iY,qq,ug,jg p.1 0 h ⟨h1,by omega⟩,jg p.2 0 h ⟨by omega,h3⟩,qS h2]
def az (c:ah):ba:=!ltS ⟨#[c]⟩ "a" && !ltS "z" ⟨#[c]⟩
theorem MH {c:ah} (h:az c=al):c<=122:=by
 have z:("z":aj)=⟨#[122]⟩:=by decide +kernel
 unfold az ltS at h;rw[z] at h;simp only[ge,Hs,Uw] at h;have h2:=h.2;rcases km 122 c with q|q
 .exact bB (show([122]:ac ah) < [c] from Ux q) h2
 .exact q
theorem NE (c:ah) (r:aX):chD leD leD (vC (.str "a")) (vSh 0) (vC (.str "z")) (oS (.str ⟨#[c]⟩)::r)=aa (.bl (az c)):=by simp only[chD,vC,vSh,qb,qa,leD,az];cases ltS ⟨#[c]⟩ "a"<;>simp
def bi (x:aj):ba:=decide (1<=x.length) && decide (x.length<=8) && x.cps.toList.all az
theorem fg (h:bi x=al):1<=x.length/\x.length<=8:=by unfold bi at h;simp only[ge,vK] at h;exact h.1
theorem xa (h:bi x=al):∀c∈x.cps.toList,az c=al:=by unfold bi at h;simp only[ge,ko] at h;exact h.2
theorem ja (h:bi x=al):gG [.str x]=aa (.bl al):=by
 obtain⟨h1,h2⟩:=fg h;have hz:x.length<=aL:=by unfold aL;omega
 have hl:(x.cps.toList.map fun c=>D.str ⟨#[c]⟩).length<=aL:=by simpa[gZ] using hz
 have e1:decide ((1:ag)<=(x.length:ah))=al:=qS .(a);have e2:decide (((x.length:ah):ag)<=8)=al:=qS .(a);have ha:=gJ (fi:=itS (vSh 0)) (fe:=chD leD leD (vC (.str "a")) (vSh 0) (vC (.str "z"))) (fv:=[ae]) (ρ:=[oS (.str x)]) (r:=[]) (a:=ae) (xs:=x.cps.toList.map fun c=>D.str ⟨#[c]⟩)
  (by simp[itS,vSh,tU]) hl rfl (fun y hy=>by obtain⟨c,hc,rfl⟩:=bQ.mp hy;rw[NE,xa h c hc])
 refine yq (ρ':=[oS (.str x)]) ((jj ?_ ?_).trans (cg ha))
 .rfl
 .show chD leD leD .(e) .(aU) (vC (.int 8)) [oS (.str x)]=_;simp only[cF,af,ao,vSh,vC,chD,bw,leD,qb,qa,qd,qY hz,e1,e2]
theorem zf (h:bi x=al):Hz x=al:=by unfold Hz;rw[Array.all_eq_true'];intro c hc;have:=MH (xa h c (by simpa using hc));exact qS .(a)
theorem u6:∀(ns:ac aj),fH (ns.map D.str)=aa (ns.map g8)
 |[]=>by simp[fH]
 |x::r=>by simp[fH,pdD,u6 r]
theorem pM:∀{ns:ac aj},(∀x∈ns,bi x=al)->gf (ns.map g8)=al
 |[],_=>by simp[gf]
 |x::r,h=>by simp only[qm,gf,iH,zf (h x qf),Ak];exact pM fun y hy=>h y (qg _ hy)
theorem AL (x:aj):∀(ns:ac aj),((ns.map g8).any fun z=>fM z (.str x))=decide (x∈ns)
 |[]=>by simp
 |y::r=>by
  have ih:=AL x r;rw[qm,nL,ih];simp only[fM];by_cases e:y=x
  .subst e;simp
  .have:x≠y:=fun z=>e z.symm;simp[e,this]
theorem Ko {ns:ac aj} (hx:bi x=al) (hn:∀y∈ns,bi y=al):i4 (.str x) (.lst (ns.map D.str))=aa (.bl (decide (x∈ns))):=by
 have sh:fy (.str x)=al:=by simp[fy,iH,zf hx,jz]
 simp only[i4,inX,pdD,u6,qd,qa,sh,pM hn,and_self,cr,AL]
theorem oI {ns:ac aj} (hx:x∈ns) (hn:∀y∈ns,bi y=al):kF [.str x,.lst (ns.map D.str)]=aa (.bl al):=by simp only[kF,bj,aN,cS,cF,af,ao,vSh,b2,qm,qO,qp,qR,bS,qb,qc,qa,qd,ja (hn x hx),Ko (hn x hx) hn,qS hx]
theorem D0 [fU κ] {l:ac κ} (h:l.Nodup):ST.dd l=l:=by
 have key:∀(l a:ac κ),(a++l).Nodup->l.foldl (fun a k=>if k∈a then a else a++[k]) a=a++l:=by
  intro l
  induction l with
  |nil=>intro a _;simp
  |cons x r ih=>
   intro a hn;have hx:x∉a:=by intro z;rw[lj] at hn;exact hn.2.2 x z x qf rfl
   rw[nJ,qZ hx,ih (a++[x]) (by simpa using hn)];simp
 simpa[ST.dd] using key l [] (by simpa using h)
theorem u7:∀(ns:ac aj),iz (ns.map D.str)=aa (ns.map cL)
 |[]=>by simp[iz]
 |x::r=>by simp[iz,jP,u7 r]
theorem mW {ns:ac aj} (h:ns.Nodup) (hl:ns.length<=300):gc [.lst (ns.map D.str)]=aa (.bl al):=by have hd:(ns.map (cL:aj->Key)).Nodup:=vX _ (fun a b hab z=>hab (su z)) h;simp only[gc,bj,aN,cF,af,ao,vSh,b1,b2,bw,eqD,eqS,qm,qO,qp,qR,bS,qb,qa,qd,oH,qe,qY hl,u7,D0 hd];simp
theorem FX:∀(ts:ac (ac aj)),m9 (ts.map fun t=>.tup (t.map D.str))=aa (ts.map fun t=>t.map cL)
 |[]=>by simp[m9]
 |t::r=>by simp[m9,u7,FX r]
theorem Du {ts:ac (ac aj)} (h:ts.Nodup) (hl:ts.length<=300):gc [.lst (ts.map fun t=>.tup (t.map D.str))]=aa (.bl al):=by
 have inj:∀a b:ac aj,a.map (cL:aj->Key)=b.map cL->a=b:=fun a b z=>(Uy (fun x y q=>su q)).mp z;have hd:(ts.map fun t=>t.map (cL:aj->Key)).Nodup:=vX _ (fun a b hab z=>hab (inj a b z)) h;cases ts with
 |nil=>simp only[gc,bj,aN,cF,af,ao,vSh,b1,b2,bw,eqD,eqS,qm,qO,qp,qR,bS,qb,qa,qd,qk,oH,iz,ST.dd];simp
 |cons t r=>
  have e:iz ((t::r).map fun t=>D.tup (t.map D.str))=ae:=by simp[iz,jP]
  simp only[gc,bj,aN,b2,b1,vSh,qm,qO,qp,qR,bS,qb,qa,oH,cF,af,ao,bw,qd];rw[qY (by simpa using hl)];have e':=e;rw[qm] at e';rw[e'];have t':=FX (t::r);rw[qm] at t';rw[t'];rw[qd,D0 hd];simp[eqD,eqS]
structure BenchT where
 nm:aj
 br:ac (ag×ag)
structure StepT where
 nm:aj
 kd:aj
 ws:ac (aj×ag)
structure JobT where
 nm:aj
 ea:ag
 du:ag
 od:ba
 ms:ac aj
structure SetT where
 b:aj
 p:aj
 q:aj
 n:ag
structure LinkT where
 a:aj
 b:aj
 g:ag
structure StockT where
 nm:aj
 lo:ag
 hi:ag
 tk:ac (aj×ag)
 pt:ac (aj×ag)
noncomputable def dW (w:aj×ag):D:=.tup [.str w.1,.int w.2]
def cc (b:BenchT):D:=.tup [.str b.nm,.lst (b.br.map dIv)]
def bD (s:StepT):D:=.tup [.str s.nm,.str s.kd,.lst (s.ws.map dW)]
def bN (j:JobT):D:=.tup [.str j.nm,.int j.ea,.int j.du,.bl j.od,.lst (j.ms.map D.str)]
noncomputable def cB (u:SetT):D:=.tup [.str u.b,.str u.p,.str u.q,.int u.n]
noncomputable def cR (l:LinkT):D:=.tup [.str l.a,.str l.b,.int l.g]
def cZ (k:StockT):D:=.tup [.str k.nm,.int k.lo,.int k.hi,.lst (k.tk.map dW),.lst (k.pt.map dW)]
structure GoodB (h:ag) (b:BenchT):Prop where
 nm:bi b.nm=al
 len:b.br.length<=10
 iv:∀p∈b.br,0<=p.1/\p.1<p.2/\p.2<=h
 gap:∀(i:ah) p q,b.br[i]?=aa p->b.br[i+1]?=aa q->p.2<q.1
structure GoodS (bn:ac aj) (h:ag) (s:StepT):Prop where
 nm:bi s.nm=al
 kd:bi s.kd=al
 l1:1<=s.ws.length
 l4:s.ws.length<=4
 ws:∀w∈s.ws,w.1∈bn/\1<=w.2/\w.2<=h
 nd:(s.ws.map (·.1)).Nodup
structure GoodJ (sn:ac aj) (h:ag) (j:JobT):Prop where
 nm:bi j.nm=al
 ea:0<=j.ea/\j.ea<=h
 du:0<=j.du/\j.du<=h
 l1:1<=j.ms.length
 ln:j.ms.length<=sn.length
 ms:∀m∈j.ms,m∈sn
structure GoodU (bn:ac aj) (h:ag) (u:SetT):Prop where
 b:u.b∈bn
 p:bi u.p=al
 q:bi u.q=al
 n:1<=u.n/\u.n<=h
structure GoodL (sn:ac aj) (h:ag) (l:LinkT):Prop where
 a:l.a∈sn
 b:l.b∈sn
 ne:l.a≠l.b
 g:0<=l.g/\l.g<=h
structure GoodA (sn:ac aj) (am:ac (aj×ag)):Prop where
 ln:am.length<=sn.length
 ws:∀w∈am,w.1∈sn/\1<=w.2/\w.2<=1000000
 nd:(am.map (·.1)).Nodup
structure GoodK (sn:ac aj) (k:StockT):Prop where
 nm:bi k.nm=al
 lo:0<=k.lo/\k.lo<=k.hi
 hi:0<=k.hi/\k.hi<=1000000
 tk:GoodA sn k.tk
 pt:GoodA sn k.pt
structure Good (bs:ac BenchT) (ss:ac StepT) (js:ac JobT) (us:ac SetT) (ls:ac LinkT) (ks:ac StockT) (hz:ag):Prop where
 hh:1<=hz/\hz<=1000000
 bl:1<=bs.length/\bs.length<=8
 b:∀x∈bs,GoodB hz x
 bn:(bs.map (·.nm)).Nodup
 sl:1<=ss.length/\ss.length<=40
 s:∀x∈ss,GoodS (bs.map (·.nm)) hz x
 sn:(ss.map (·.nm)).Nodup
 jl:js.length<=40
 j:∀x∈js,GoodJ (ss.map (·.nm)) hz x
 jn:(js.map (·.nm)).Nodup
 jm:(js.flatMap (·.ms)).Nodup
 ul:us.length<=100
 u:∀x∈us,GoodU (bs.map (·.nm)) hz x
 un:(us.map fun u=>[u.b,u.p,u.q]).Nodup
 ll:ls.length<=100
 l:∀x∈ls,GoodL (ss.map (·.nm)) hz x
 ln:(ls.map fun l=>[l.a,l.b]).Nodup
 kl:ks.length<=6
 k:∀x∈ks,GoodK (ss.map (·.nm)) x
 kn:(ks.map (·.nm)).Nodup
theorem ixL (l:ac D) (n:ah):ixD (.lst l) (.int (n:ag))=l[n]?:=ky l n
theorem szN {k:ah} (h:n<=k) (hk:k<=1000):n<=aL:=by unfold aL;omega
variable {ss:ac StepT}
section
variable {bn:ac aj}
theorem QW (len:br.length<=10) (gap:∀(i:ah) p q,br[i]?=aa p->br[i+1]?=aa q->p.2<q.1) :
  cF fm (af (aF (bh (itR mX (af .(e) (af .(aU) ao))) (ay 0) tT (b2 ltD (b2 ixD (b2 ixD (vSh 1) (b2 pv (vSh 0) .(e))) .(e)) (b2 ixD (b2 ixD (vSh 1) (vSh 0)) .(f))) [ae,aa 0])) ao) [oS (.lst (br.map dIv)),oS (.int h)]=aa (.bl al):=by
 have e0:itR mX (af .(e) (af .(aU) ao)) [oS (.lst (br.map dIv)),oS (.int h)]=aa ((cz (((br.map dIv).length:ag)-1).toNat).map fun k:ah=>D.int (1+k)):=by exact jG rfl (JH (i:=1) (j:=((br.map dIv).length:ah)) (by rw[qe];omega))
 refine gJ (r:=[oS (.lst (br.map dIv))]) (a:=ae) e0 ?_ rfl fun x hx=>?_
 .simp only[qe,qU];exact szN (k:=10) .(a) .(c)
 .obtain⟨k,hk,rfl⟩:=bQ.mp hx;rw[fV,qe] at hk;have hk1:k<br.length:=by omega
  have hk2:k+1<br.length:=by omega
  have e1:br[k]?=aa br[k]:=by simp[hk1]
  have e2:br[k+1]?=aa br[k+1]:=by simp[hk2]
  have g:=gap k _ _ e1 e2;have a1:ixD (.lst (br.map dIv)) (.int (1+(k:ag)-1))=aa (dIv br[k]):=by
   have:(1+(k:ag)-1)=((k:ah):ag):=by omega
   rw[this,ixL,qj,e1];rfl
  have a2:ixD (.lst (br.map dIv)) (.int (1+(k:ag)))=aa (dIv br[k+1]):=by
   have:(1+(k:ag))=((k+1:ah):ag):=by omega
   rw[this,ixL,qj,e2];rfl
  simp only[vSh,vC,b2,ltD,pv,qb,qc,qa,a1,a2];simp only[dIv,iT,jD,qa,qS g]
theorem Kl (len:br.length<=10) (iv:∀p∈br,0<=p.1/\p.1<p.2/\p.2<=h) (gap:∀(i:ah) p q,br[i]?=aa p->br[i+1]?=aa q->p.2<q.1) :
  zp [.lst (br.map dIv),.int h]=aa (.bl al):=by
 refine bW [oS (.lst (br.map dIv)),oS (.int h)] rfl ((jj ?_ (gJ (r:=[oS (.int h)]) (a:=ae) (xs:=br.map dIv) rfl (by rw[qe];exact szN len .(c)) rfl fun x hx=>?_)).trans (cg (QW len gap)))
 .exact jF _ 0 10 ⟨by omega,by rw[qe];omega⟩
 .obtain⟨p,hp,rfl⟩:=bQ.mp hx;obtain⟨h1,h2,h3⟩:=iv p hp;exact RG p h h1 h2 h3
theorem Ob {b:BenchT} (g:GoodB h b):tS [cc b,.int h]=aa (.bl al):=by simp only[tS,cc,bj,aN,cS,cF,af,ao,vSh,vC,b2,iT,jD,qm,qO,qp,qR,bS,qb,qc,qa,qd,ug,ja g.nm,Kl g.len g.iv g.gap]
theorem lz {f:α->D} {nm:α->aj} {xs:ac α} (hf:∀x,∃r,f x=.tup (.str (nm x)::r)) (h1:vSh i ρ=aa (.lst (xs.map f))) (h2:xs.length<=aL) (h3:gV fv ρ=[ae]) :
  aF (bh (itF (vSh i)) (ay 0) tT .(m) fv) ρ=aa (.lst ((xs.map nm).map D.str)):=by
 have hc:=lM (fi:=itF (vSh i)) (fe:=b2 ixD (vSh 0) .(f)) (fv:=fv) (ρ:=ρ) (r:=[]) (a:=ae) (xs:=xs.map f) (f:=fun d=>match d with|.tup (x::_)=>x|_=>.non) (by unfold itF;rw[h1];rfl) (by rw[qe];exact h2) h3 (fun x hx=>by obtain⟨y,_,rfl⟩:=bQ.mp hx;obtain⟨r,e⟩:=hf y;simp only[b2,vSh,vC,qb,qa,e,iT])
 rw[hc]
 congr 2
 rw[qo,qo];refine Ay fun x _=>?_;obtain⟨r,e⟩:=hf x;simp[e]
theorem MV {bs:ac BenchT} (l1:1<=bs.length) (l8:bs.length<=8) (g:∀x∈bs,GoodB h x) (nd:(bs.map (·.nm)).Nodup):wt [.lst (bs.map cc),.int h]=aa (.bl al):=by
 refine bW [oS .(ak),oS (.int h)] rfl ((jj ?_ (gJ (r:=[oS (.int h)]) (a:=ae) (xs:=bs.map cc) rfl (by rw[qe];exact szN l8 .(c)) rfl fun x hx=>?_)).trans (cg ?_))
 .exact jF _ 1 8 ⟨by rw[qe];omega,by rw[qe];omega⟩
 .obtain⟨p,hp,rfl⟩:=bQ.mp hx;exact Ob (g p hp)
 .have:=lz (i:=0) (fv:=[ae]) (ρ:=[oS .(ak),oS (.int h)]) (f:=cc) (nm:=(·.nm)) (xs:=bs) (fun x=>⟨_,rfl⟩) rfl (szN l8 .(c)) rfl;simp only[cF,af,ao,this,qa,qd];exact mW nd (by rw[qe];omega)
theorem HJ {w:aj×ag} (hb:∀y∈bn,bi y=al) (g:w.1∈bn/\1<=w.2/\w.2<=h):uQ [dW w,.lst (bn.map D.str),.int h]=aa (.bl al):=by simp only[uQ,dW,bj,aN,cS,cF,af,ao,vSh,vC,b2,iT,jD,qm,qO,qp,qR,bS,qb,qc,qa,qd,ug,oI g.1 hb,jg w.2 1 h g.2]
theorem QJ {ws:ac (aj×ag)} (hb:∀y∈bn,bi y=al) (l1:1<=ws.length) (l4:ws.length<=4) (g:∀w∈ws,w.1∈bn/\1<=w.2/\w.2<=h) (nd:(ws.map (·.1)).Nodup):yX [.lst (ws.map dW),.lst (bn.map D.str),.int h]=aa (.bl al):=by
 refine bW [oS (.lst (ws.map dW)),oS (.lst (bn.map D.str)),oS (.int h)] rfl ((jj ?_ (gJ (r:=[oS (.lst (bn.map D.str)),oS (.int h)]) (a:=ae) (xs:=ws.map dW) rfl (by rw[qe];exact szN l4 .(c)) rfl fun x hx=>?_)).trans (cg ?_))
 .exact jF _ 1 4 ⟨by rw[qe];omega,by rw[qe];omega⟩
 .obtain⟨p,hp,rfl⟩:=bQ.mp hx;exact HJ hb (g p hp)
 .have:=lz (i:=0) (fv:=[ae]) (ρ:=[oS (.lst (ws.map dW)),oS (.lst (bn.map D.str)),oS (.int h)]) (f:=dW) (nm:=(·.1)) (xs:=ws) (fun x=>⟨_,rfl⟩) rfl (szN l4 .(c)) rfl;simp only[cF,af,ao,this,qa,qd];exact mW nd (by rw[qe];omega)
theorem Lz {s:StepT} (hb:∀y∈bn,bi y=al) (g:GoodS bn h s):tj [bD s,.lst (bn.map D.str),.int h]=aa (.bl al):=by simp only[tj,bD,bj,aw,sIf,aN,aQ,orT,bf,toB,cF,af,ao,vSh,vC,b2,iT,jD,pU,qm,qO,qp,qR,bS,qb,qc,qa,qd,dv,iY,qq,Ck,ja g.nm,ja g.kd,QJ hb g.l1 g.l4 g.ws g.nd]
theorem K1 (hb:∀y∈bn,bi y=al) (l1:1<=ss.length) (l4:ss.length<=40) (g:∀s∈ss,GoodS bn h s) (nd:(ss.map (·.nm)).Nodup):wn [.lst (ss.map bD),.lst (bn.map D.str),.int h]=aa (.bl al):=by
 refine bW [oS .(K),oS (.lst (bn.map D.str)),oS (.int h)] rfl ((jj ?_ (gJ (r:=[oS (.lst (bn.map D.str)),oS (.int h)]) (a:=ae) (xs:=ss.map bD) rfl (by rw[qe];exact szN l4 .(c)) rfl fun x hx=>?_)).trans (cg ?_))
 .exact jF _ 1 40 ⟨by rw[qe];omega,by rw[qe];omega⟩
 .obtain⟨p,hp,rfl⟩:=bQ.mp hx;exact Lz hb (g p hp)
 .have:=lz (i:=0) (fv:=[ae]) (ρ:=[oS .(K),oS (.lst (bn.map D.str)),oS (.int h)]) (f:=bD) (nm:=(·.nm)) (xs:=ss) (fun x=>⟨_,rfl⟩) rfl (szN l4 .(c)) rfl;simp only[cF,af,ao,this,qa,qd];exact mW nd (by rw[qe];omega)
end
theorem Bp (a b:aj):neA (.str a) (.str b)=aa (.bl (!decide (a=b))):=rfl
theorem Ff {a b c:D} :nr ae (aa 3) (.tup [a,b,c,d])=aa (.tup [a,b,c]):=rfl
theorem Ir {a b c:D} :nr ae (aa 2) (.tup [a,b,c])=aa (.tup [a,b]):=rfl
theorem EK {α β:Type} {f:α->ac β} {m:ah}:∀{l:ac α},(∀x∈l,(f x).length<=m)->(l.flatMap f).length<=l.length*m
 |[],_=>by simp
 |x::r,h=>by have h1:=h x qf;have h2:=EK (l:=r) fun y hy=>h y (qg _ hy);rw[List.flatMap_cons,qi,qh,GA];omega
variable {js:ac JobT} {us:ac SetT} {ls:ac LinkT} {ks:ac StockT}
section
variable {bn:ac aj}
theorem Lv {j:JobT} (hs:∀y∈sn,bi y=al) (hl:sn.length<=40) (g:GoodJ sn h j):wu [bN j,.lst (sn.map D.str),.int h]=aa (.bl al):=by
 refine bW [oS (bN j),oS .(af),oS (.int h)] rfl ((Pt ?_ ?_ ?_).trans ((jj ?_ ?_).trans (cg (yQ ?_ (gJ (r:=[oS .(af)]) (a:=ae) (xs:=j.ms.map D.str) ?_ ?_ rfl fun x hx=>?_)))))
 .exact A9
 .simp only[bN,cF,af,ao,vSh,vC,b2,iT,qb,qa,qd,ja g.nm]
 .simp only[bN,cF,af,ao,vSh,vC,b2,dU,tyD,rZ,qb,qa,qd,i5]
 .simp only[bN,cF,af,ao,vSh,vC,b2,jD,qb,qc,qa,qd,jg _ 0 h g.ea]
 .simp only[bN,cF,af,ao,vSh,vC,b2,pU,qb,qc,qa,qd,jg _ 0 h g.du]
 .simp only[bN,cF,af,ao,vSh,vC,b2,bw,pC,qb,qc,qa,qd];exact jF _ _ _ ⟨by rw[qe];have:=g.l1;omega,by rw[qe,qe];have:=g.ln;omega⟩
 .simp only[bN,vSh,vC,b2,itF,rO,pC,qb,qa]
 .rw[qe];exact szN (qM g.ln hl) .(c)
 .obtain⟨m,hm,rfl⟩:=bQ.mp hx;simp only[cF,af,ao,vSh,qb,qc,qa,qd,oI (g.ms m hm) hs]
theorem II {H:ar Slot} (hl:js.length<=40) (g:∀j∈js,j.ms.length<=40) :
  ∃z,dj (ay 4) (oa 3 (b2 ixD (vSh 4) .(P))) (js.map bN) [oS .(Z),S,H,aa (.own []),ae]=aa (.nx,[oS .(Z),S,H,aa (.own ((js.flatMap (·.ms)).map D.str)),z]):=by
 obtain⟨ρ',h1,z,h2⟩:=gC (gg:=ay 4) (body:=oa 3 (b2 ixD (vSh 4) .(P))) (xs:=js.map bN) (ρ:=[oS .(Z),S,H,aa (.own []),ae])
  (fun i ρ=>∃z,ρ=[oS .(Z),S,H,aa (.own (((js.take i).flatMap (·.ms)).map D.str)),z]) ⟨ae,by simp⟩ (fun i x ρ hx hI=>by
   obtain⟨z,rfl⟩:=hI;rw[qj] at hx;obtain⟨j,hj,rfl⟩:=oMd hx;have hm:j∈js:=qP hj;have t1:((js.take i).flatMap (·.ms)).length<=(js.take i).length*40:=EK fun y hy=>g y (im hy);have t2:(js.take i).length<=40:=by rw[qE];omega
   have t3:=g j hm;have tk:js.take (i+1)=js.take i++[j]:=by rw[HA,hj];rfl
   have sz:(((js.take i).flatMap (·.ms)).map D.str).length+(j.ms.map D.str).length<=aL:=by rw[qe,qe];unfold aL;omega
   refine⟨_,[oS .(Z),S,H,aa (.own (((js.take (i+1)).flatMap (·.ms)).map D.str)),oS (bN j)],rfl,?_,_,rfl⟩;have e:b2 ixD (vSh 4) .(P) [oS .(Z),S,H,aa (.own (((js.take i).flatMap (·.ms)).map D.str)),oS (bN j)]=aa (.lst (j.ms.map D.str)):=by simp only[bN,vSh,vC,b2,pC,qb,qc,qa]
   simp only[oa,nR,HB,qb,qc,e,qa,qY sz,tk];simp)
 refine⟨z,?_⟩;rw[h1,h2,qe,mm]
theorem PP (hs:∀y∈sn,bi y=al) (hl:sn.length<=40) (l4:js.length<=40) (g:∀j∈js,GoodJ sn h j) (nd:(js.map (·.nm)).Nodup) (nm:(js.flatMap (·.ms)).Nodup) (ml:(js.flatMap (·.ms)).length<=300):xR [.lst (js.map bN),.lst (sn.map D.str),.int h]=aa (.bl al):=by
 obtain⟨z,hz⟩:=II (js:=js) (S:=oS .(af)) (H:=oS (.int h)) l4 fun j hj=>qM (g j hj).ln hl;refine bW [oS .(Z),oS .(af),oS (.int h),ae,ae] (ρ':=[oS .(Z),oS .(af),oS (.int h),oS (.lst ((js.flatMap (·.ms)).map D.str)),z]) rfl ((jj ?_ (gJ (r:=[oS .(af),oS (.int h)]) (a:=ae) (xs:=js.map bN) rfl (by rw[qe];exact szN l4 .(c)) rfl fun x hx=>?_)).trans ?_)
 .exact jF _ 0 40 ⟨by omega,by rw[qe];omega⟩
 .obtain⟨p,hp,rfl⟩:=bQ.mp hx;simp only[cF,af,ao,vSh,qb,qc,qa,qd,Lv hs hl (g p hp)]
 .have nn:=lz (i:=0) (fv:=[ae]) (ρ:=[oS .(Z),oS .(af),oS (.int h),oS (.lst ((js.flatMap (·.ms)).map D.str)),z]) (f:=bN) (nm:=(·.nm)) (xs:=js) (fun x=>⟨_,rfl⟩) rfl (szN l4 .(c)) rfl;have u1:cF gc X9 [oS .(Z),oS .(af),oS (.int h),oS (.lst ((js.flatMap (·.ms)).map D.str)),z]=aa (.bl al):=
   aY (aC nn aS) (mW nd (by rw[qe];omega))
  have u2:cF gc (af (vSh 3) ao) [oS .(Z),oS .(af),oS (.int h),oS (.lst ((js.flatMap (·.ms)).map D.str)),z]=aa (.bl al):=
   aY .(S) (mW nm ml)
  have r:=cg (yQ u1 u2);have z0:(0<=aL)=True:=by simp
  simp only[aw,cE,szF,ao,qa,qd,qk,z0,cr,nR,HB,ci,itF,vSh,qb,rO];rw[hz];simp only[qa,fB,qb,qc,nR,HB];exact r
theorem Rs {u:SetT} (hb:∀y∈bn,bi y=al) (g:GoodU bn h u):tH [cB u,.lst (bn.map D.str),.int h]=aa (.bl al):=by simp only[tH,cB,bj,aw,sIf,aN,aQ,cS,orT,bf,toB,cF,af,ao,vSh,vC,b2,iT,jD,pU,rZ,qm,qO,qp,qR,bS,qb,qc,qa,qd,dv,iY,qq,Q1,oI g.b hb,ja g.p,ja g.q,jg _ 1 h g.n]
theorem Pq (hb:∀y∈bn,bi y=al) (l4:us.length<=100) (g:∀u∈us,GoodU bn h u) (nd:(us.map fun u=>[u.b,u.p,u.q]).Nodup):yc [.lst (us.map cB),.lst (bn.map D.str),.int h]=aa (.bl al):=by
 refine bW [oS (.lst (us.map cB)),oS (.lst (bn.map D.str)),oS (.int h)] rfl ((jj ?_ (gJ (r:=[oS (.lst (bn.map D.str)),oS (.int h)]) (a:=ae) (xs:=us.map cB) rfl (by rw[qe];exact szN l4 .(c)) rfl fun x hx=>?_)).trans (cg (aY (aC (lM (r:=[]) (a:=ae) (xs:=us.map cB) (f:=fun d=>match d with|.tup [a,b,c,d]=>.tup [a,b,c]|_=>.non) rfl (by rw[qe];exact szN l4 .(c)) rfl fun x hx=>?_) aS) ?_)))
 .exact jF _ 0 100 ⟨by omega,by rw[qe];omega⟩
 .obtain⟨p,hp,rfl⟩:=bQ.mp hx;simp only[cF,af,ao,vSh,qb,qc,qa,qd,Rs hb (g p hp)]
 .obtain⟨p,hp,rfl⟩:=bQ.mp hx;simp only[vSh,vC,slF,pN,pS,qb,qa,cB,Ff]
 .have:=Du nd (by rw[qe];omega);rw[qo] at this ⊢;exact this
theorem Sq {l:LinkT} (hs:∀y∈sn,bi y=al) (g:GoodL sn h l):tI [cR l,.lst (sn.map D.str),.int h]=aa (.bl al):=by have:=g.ne;simp only[tI,cR,bj,aw,sIf,aN,aQ,cS,orT,bf,toB,cF,af,ao,vSh,vC,b2,iT,jD,pU,qm,qO,qp,qR,bS,qb,qc,qa,qd,dv,iY,ph,qq,Ck,oI g.a hs,oI g.b hs,Bp,qN g.ne,jg _ 0 h g.g]
theorem Ss (hs:∀y∈sn,bi y=al) (l4:ls.length<=100) (g:∀l∈ls,GoodL sn h l) (nd:(ls.map fun l=>[l.a,l.b]).Nodup):zm [.lst (ls.map cR),.lst (sn.map D.str),.int h]=aa (.bl al):=by
 refine bW [oS (.lst (ls.map cR)),oS .(af),oS (.int h)] rfl ((jj ?_ (gJ (r:=[oS .(af),oS (.int h)]) (a:=ae) (xs:=ls.map cR) rfl (by rw[qe];exact szN l4 .(c)) rfl fun x hx=>?_)).trans (cg (aY (aC (lM (r:=[]) (a:=ae) (xs:=ls.map cR) (f:=fun d=>match d with|.tup [a,b,c]=>.tup [a,b]|_=>.non) rfl (by rw[qe];exact szN l4 .(c)) rfl fun x hx=>?_) aS) ?_)))
 .exact jF _ 0 100 ⟨by omega,by rw[qe];omega⟩
 .obtain⟨p,hp,rfl⟩:=bQ.mp hx;simp only[cF,af,ao,vSh,qb,qc,qa,qd,Sq hs (g p hp)]
 .obtain⟨p,hp,rfl⟩:=bQ.mp hx;simp only[vSh,vC,slF,pN,pS,qb,qa,cR,Ir]
 .have:=Du nd (by rw[qe];omega);rw[qo] at this ⊢;exact this
theorem Kr {w:aj×ag} (hs:∀y∈sn,bi y=al) (g:w.1∈sn/\1<=w.2/\w.2<=1000000):uz [dW w,.lst (sn.map D.str)]=aa (.bl al):=by simp only[uz,dW,bj,aN,cS,cF,af,ao,vSh,vC,b2,iT,jD,qm,qO,qp,qR,bS,qb,qc,qa,qd,ug,oI g.1 hs,jg w.2 1 1000000 g.2]
theorem AI {ws:ac (aj×ag)} (hs:∀y∈sn,bi y=al) (hl:sn.length<=40) (g:GoodA sn ws):t8 [.lst (ws.map dW),.lst (sn.map D.str)]=aa (.bl al):=by
 have l4:ws.length<=40:=qM g.ln hl;refine bW [oS (.lst (ws.map dW)),oS .(af)] rfl ((jj ?_ (gJ (r:=[oS .(af)]) (a:=ae) (xs:=ws.map dW) rfl (by rw[qe];exact szN l4 .(c)) rfl fun x hx=>?_)).trans (cg ?_))
 .have e:=jF (ws.map dW) 0 ((sn.map D.str).length:ah) ⟨by omega,by rw[qe,qe];have:=g.ln;omega⟩;simp only[cF,af,ao,vSh,vC,bw,qb,qc,qa,qd];exact e
 .obtain⟨p,hp,rfl⟩:=bQ.mp hx;simp only[cF,af,ao,vSh,qb,qc,qa,qd,Kr hs (g.ws p hp)]
 .have:=lz (i:=0) (fv:=[ae]) (ρ:=[oS (.lst (ws.map dW)),oS .(af)]) (f:=dW) (nm:=(·.1)) (xs:=ws) (fun x=>⟨_,rfl⟩) rfl (szN l4 .(c)) rfl;exact aY (aC this aS) (mW g.nd (by rw[qe];omega))
theorem OY {k:StockT} (hs:∀y∈sn,bi y=al) (hl:sn.length<=40) (g:GoodK sn k):uf [cZ k,.lst (sn.map D.str)]=aa (.bl al):=by simp only[uf,cZ,bj,aw,sIf,aN,aQ,cS,orT,bf,toB,cF,af,ao,vSh,vC,b2,iT,jD,pU,rZ,pC,qm,qO,qp,qR,bS,qb,qc,qa,qd,dv,iY,qq,A9,ja g.nm,jg _ 0 1000000 g.hi,jg _ 0 _ g.lo,AI hs hl g.tk,AI hs hl g.pt]
theorem HZ (hs:∀y∈sn,bi y=al) (hl:sn.length<=40) (l4:ks.length<=6) (g:∀k∈ks,GoodK sn k) (nd:(ks.map (·.nm)).Nodup):yO [.lst (ks.map cZ),.lst (sn.map D.str)]=aa (.bl al):=by
 refine bW [oS (.lst (ks.map cZ)),oS .(af)] rfl ((jj ?_ (gJ (r:=[oS .(af)]) (a:=ae) (xs:=ks.map cZ) rfl (by rw[qe];exact szN l4 .(c)) rfl fun x hx=>?_)).trans (cg ?_))
 .exact jF _ 0 6 ⟨by omega,by rw[qe];omega⟩
 .obtain⟨p,hp,rfl⟩:=bQ.mp hx;simp only[cF,af,ao,vSh,qb,qc,qa,qd,OY hs hl (g p hp)]
 .have:=lz (i:=0) (fv:=[ae]) (ρ:=[oS (.lst (ks.map cZ)),oS .(af)]) (f:=cZ) (nm:=(·.nm)) (xs:=ks) (fun x=>⟨_,rfl⟩) rfl (szN l4 .(c)) rfl;exact aY (aC this aS) (mW nd (by rw[qe];omega))
end
section
variable {bs:ac BenchT}
theorem Good.bnn (g:Good bs ss js us ls ks h):∀y∈bs.map (·.nm),bi y=al:=fun y hy=>by obtain⟨b,hb,rfl⟩:=bQ.mp hy;exact(g.b b hb).nm
theorem Good.snn (g:Good bs ss js us ls ks h):∀y∈ss.map (·.nm),bi y=al:=fun y hy=>by obtain⟨b,hb,rfl⟩:=bQ.mp hy;exact(g.s b hb).nm
theorem P7 (g:Good bs ss js us ls ks h) (ml:(js.flatMap (·.ms)).length<=300):xq [.lst (bs.map cc),.lst (ss.map bD),.lst (js.map bN),.lst (us.map cB),.lst (ls.map cR),.lst (ks.map cZ),.int h]=aa .non:=by
 have hb:=g.bnn;have hs:=g.snn;have hl:(ss.map (·.nm)).length<=40:=by rw[qe];exact g.sl.2
 have n1:∀z:ar Slot,aF (bh (itF (vSh 0)) (ay 0) tT .(m) [ae]) [oS .(ak),oS .(K),oS .(Z),oS (.lst (us.map cB)),oS (.lst (ls.map cR)),oS (.lst (ks.map cZ)),oS (.int h),ae,ae]=aa (.lst ((bs.map (·.nm)).map D.str)):=fun z=>
  lz (f:=cc) (nm:=(·.nm)) (xs:=bs) (fun x=>⟨_,rfl⟩) rfl (szN g.bl.2 .(c)) rfl
 have n2:aF (bh (itF (vSh 1)) (ay 0) tT .(m) [ae]) [oS .(ak),oS .(K),oS .(Z),oS (.lst (us.map cB)),oS (.lst (ls.map cR)),oS (.lst (ks.map cZ)),oS (.int h),oS (.lst ((bs.map (·.nm)).map D.str)),ae]=aa (.lst ((ss.map (·.nm)).map D.str)):=
  lz (f:=bD) (nm:=(·.nm)) (xs:=ss) (fun x=>⟨_,rfl⟩) rfl (szN g.sl.2 .(c)) rfl
 refine bW [oS .(ak),oS .(K),oS .(Z),oS (.lst (us.map cB)),oS (.lst (ls.map cR)),oS (.lst (ks.map cZ)),oS (.int h),ae,ae] rfl ((mD ?_).trans ((mD ?_).trans ((bJ (n1 ae)).trans ((mD ?_).trans ((bJ n2).trans ((mD ?_).trans ((mD ?_).trans ((mD ?_).trans ((mD ?_).trans (cg rfl))))))))))
 .exact jg h 1 1000000 g.hh
 .exact MV g.bl.1 g.bl.2 g.b g.bn
 .exact K1 hb g.sl.1 g.sl.2 g.s g.sn
 .exact PP hs hl g.jl g.j g.jn g.jm ml
 .exact Pq hb g.ul g.u g.un
 .exact Ss hs g.ll g.l g.ln
 .exact HZ hs hl g.kl g.k g.kn
end
noncomputable def Pl:ah->D->Prop
 |0,_=>False
 |n+1,.lst l=>l.length<=aL/\∀x∈l,Pl n x
 |n+1,.tup l=>l.length<=aL/\∀x∈l,Pl n x
 |_+1,.non=>True
 |_+1,.bl _=>True
 |_+1,.int _=>True
 |_+1,.str _=>True
 |_+1,_=>False
theorem cU {X E:FS} (h:ft ρ=aa aq):aw (sIf ft X aQ) E ρ=E ρ:=by simp only[aw,sIf,h,qa,qq,dv,aQ]
theorem n5 {A B E:FS} (h:ft ρ=aa al) (h2:A ρ=aa (.rt d,ρ')):aw (sIf ft A B) E ρ=aa (.rt d,ρ'):=by simp only[aw,sIf,h,qa,cr,h2]
theorem xV:∀(n:ah) (d:D),Pl n d->jY n [d]=aa d
 |0,_,h=>h.elim
 |n+1,.lst l,h=>by
  refine bW [oS (.lst l)] rfl (n5 (bU (b:=al) ?_) (cg ?_))
  .simp only[cF,af,ao,vSh,vC,dU,tyD,qb,qa,qd,k1]
  .have:=lM (fi:=itF (vSh 0)) (fe:=cF (jY n) .(n)) (fv:=[ae]) (ρ:=[oS (.lst l)]) (r:=[]) (a:=ae) (xs:=l) (f:=fun x=>x) rfl h.1 rfl (fun x hx=>by simp only[cF,af,ao,vSh,qb,qa,qd,xV n x (h.2 x hx)]);rw[Uz] at this;exact this
 |n+1,.tup l,h=>by
  refine bW [oS (.tup l)] rfl ((cU (bU (b:=aq) ?_)).trans (n5 (bU (b:=al) ?_) (cg (aY (aC (d:=.lst l) ?_ aS) rfl))))
  .simp only[cF,af,ao,vSh,vC,dU,tyD,qb,qa,qd,k2]
  .simp only[cF,af,ao,vSh,vC,dU,tyD,qb,qa,qd,k3]
  .have:=lM (fi:=itF (vSh 0)) (fe:=cF (jY n) .(n)) (fv:=[ae]) (ρ:=[oS (.tup l)]) (r:=[]) (a:=ae) (xs:=l) (f:=fun x=>x) rfl h.1 rfl (fun x hx=>by simp only[cF,af,ao,vSh,qb,qa,qd,xV n x (h.2 x hx)]);rw[Uz] at this;exact this
 |n+1,.non,h=>by
  show jI (jY n) [.non]=aa .non;unfold jI;refine bW [oS .non] rfl .(ax)<;>simp only[cF,af,ao,vSh,vC,dU,tyD,qb,qa,qd,k10,k11]
 |n+1,.bl b,h=>by
  show jI (jY n) [.bl b]=aa (.bl b);unfold jI;refine bW [oS (.bl b)] rfl .(ax)<;>simp only[cF,af,ao,vSh,vC,dU,tyD,qb,qa,qd,k8,k9]
 |n+1,.int b,h=>by
  show jI (jY n) [.int b]=aa (.int b);unfold jI;refine bW [oS (.int b)] rfl .(ax)<;>simp only[cF,af,ao,vSh,vC,dU,tyD,qb,qa,qd,k6,k7]
 |n+1,.str b,h=>by show jI (jY n) [.str b]=aa (.str b);unfold jI;refine bW [oS (.str b)] rfl .(ax)<;>simp only[cF,af,ao,vSh,vC,dU,tyD,qb,qa,qd,k4,k4,k5]
theorem oJ (h:Pl 8 d):hW [d]=aa d:=xV 8 d h
theorem kX {f:α->D} {xs:ac α} (hl:xs.length<=1000) (h:∀x∈xs,Pl n (f x)):Pl (n+1) (.lst (xs.map f)):=
 ⟨by rw[qe];exact szN hl .(c),fun x hx=>by obtain⟨y,hy,rfl⟩:=bQ.mp hx;exact h y hy⟩
theorem JR {xs:ac aj} (hl:xs.length<=1000):Pl (n+2) (.lst (xs.map D.str)):=kX hl fun x _=>(trivial:Pl (n+1) (.str x))
theorem yy {xs:ac (aj×ag)} (hl:xs.length<=1000):Pl (n+3) (.lst (xs.map dW)):=kX hl fun x _=>⟨by simp[aL],by intro y hy;simp only[qL,qJ,or_false] at hy;rcases hy with rfl|rfl<;>trivial⟩
theorem Ij {b:BenchT} (g:GoodB h b):Pl (n+4) (cc b):=⟨by simp[aL],by
 intro y hy;simp only[qL,qJ,or_false] at hy;rcases hy with rfl|rfl
 .trivial
 .exact kX (by have:=g.len;omega) fun x _=>⟨by simp[aL],by intro y hy;simp only[qL,qJ,or_false] at hy;rcases hy with rfl|rfl<;>trivial⟩⟩
theorem Na {bn:ac aj} {s:StepT} (g:GoodS bn h s):Pl (n+4) (bD s):=⟨by simp[aL],by
 intro y hy;simp only[qL,qJ,or_false] at hy;rcases hy with rfl|rfl|rfl
 .trivial
 .trivial
 .exact yy (by have:=g.l4;omega)⟩
theorem K5 {j:JobT} (hl:sn.length<=40) (g:GoodJ sn h j):Pl (n+3) (bN j):=⟨by simp[aL],by
 intro y hy;simp only[qL,qJ,or_false] at hy;rcases hy with rfl|rfl|rfl|rfl|rfl
 .trivial
 .trivial
 .trivial
 .trivial
 .exact JR (by have:=g.ln;omega)⟩
theorem Mq {u:SetT} :Pl (n+2) (cB u):=⟨by simp[aL],by intro y hy;simp only[qL,qJ,or_false] at hy;rcases hy with rfl|rfl|rfl|rfl<;>trivial⟩
theorem Jl {u:LinkT} :Pl (n+2) (cR u):=⟨by simp[aL],by intro y hy;simp only[qL,qJ,or_false] at hy;rcases hy with rfl|rfl|rfl<;>trivial⟩
theorem Om {k:StockT} (hl:sn.length<=40) (g:GoodK sn k):Pl (n+4) (cZ k):=⟨by simp[aL],by
 intro y hy;simp only[qL,qJ,or_false] at hy;rcases hy with rfl|rfl|rfl|rfl|rfl
 .trivial
 .trivial
 .trivial
 .exact yy (by have:=g.tk.ln;omega)
 .exact yy (by have:=g.pt.ln;omega)⟩
theorem B3 {α:Type} {nm:α->aj} {f:α->D}:∀(xs:ac α),oK (xs.map fun x=>.tup [.str (nm x),f x])=aa (xs.map fun x=>(.inr (nm x),f x))
 |[]=>rfl
 |x::r=>by simp only[qm,oK,jP,qa,B3 r,qd]
theorem E4 {α:Type} {t:α->ac aj} {f:α->D}:∀(xs:ac α),mr (xs.map fun x=>.tup [.tup ((t x).map D.str),f x])=aa (xs.map fun x=>((t x).map cL,f x))
 |[]=>rfl
 |x::r=>by simp only[qm,mr,u7,qa,E4 r,qd]
theorem BV [fU κ] {ps:ac (κ×D)} (h:(ps.map (·.1)).Nodup):uh ps=ps:=by
 have key:∀(l a:ac (κ×D)),((a++l).map (·.1)).Nodup->l.foldl (fun acc kv=>ir acc kv.1 kv.2) a=a++l:=by
  intro l
  induction l with
  |nil=>intro a _;simp
  |cons x r ih=>
   intro a hn;have hx:(a.any fun kv=>decide (kv.1=x.1))=aq:=by rw[SQ];intro y hy z;rw[dS,lj] at hn;exact hn.2.2 y.1 (vZ hy) x.1 (by simp) (sL z)
   rw[nJ];have e:ir a x.1 x.2=a++[x]:=by unfold ir;rw[hx];rfl
   rw[e,ih (a++[x]) (by simpa using hn)];simp
 simpa[uh] using key ps [] (by simpa using h)
theorem uq {β:Type}:∀{fs:ac (aj×β)} {i:ah} {k:aj} {d:β},(fs.map (·.1)).Nodup->fs[i]?=aa (k,d)->fs.lookup k=aa d
 |[],i,k,d,_,h=>by simp at h
 |(a,b)::r,0,k,d,_,h=>by
  simp only[qb,VD,Prod.mk.injEq] at h;obtain⟨rfl,rfl⟩:=h;simp[dQ]
 |(a,b)::r,i+1,k,d,nd,h=>by
  rw[qc] at h;rw[qm,eJ] at nd;have ne:k≠a:=by intro z;subst z;exact nd.1 (vZ (f:=(·.1)) (qP h))
  have hb:(k==a)=aq:=by simpa using ne
  simp only[dQ,hb];exact uq nd.2 h
theorem so {β:Type}:∀{fs:ac (aj×β)} {k:aj},k∉fs.map (·.1)->fs.lookup k=ae
 |[],_,_=>rfl
 |(a,b)::r,k,h=>by
  rw[qm,qL,pf] at h;have hb:(k==a)=aq:=by simpa using h.1
  simp only[dQ,hb];exact so h.2
def jO (j:JobT) (acc:ac (Key×D)) (m:aj):ac (Key×D):=ir acc (.inr m) (bN j)
def jkv (js:ac JobT):ac (Key×D):=js.foldl (fun acc j=>j.ms.foldl (jO j) acc) []
theorem Op [fU κ] (kvs:ac (κ×D)) (k:κ) (v:D):(ir kvs k v).length<=kvs.length+1:=by
 unfold ir;split
 .rw[qe];omega
 .rw[qi];simp
theorem xj (j:JobT):∀(ms:ac aj) (acc:ac (Key×D)),(ms.foldl (jO j) acc).length<=acc.length+ms.length
 |[],acc=>by simp
 |m::r,acc=>by rw[nJ];have h1:=xj j r (jO j acc m);have h2:(jO j acc m).length<=acc.length+1:=Op _ _ _;rw[qh];omega
theorem CZ {m:ah}:∀{js:ac JobT} (acc:ac (Key×D)),(∀j∈js,j.ms.length<=m)->(js.foldl (fun acc j=>j.ms.foldl (jO j) acc) acc).length<=acc.length+js.length*m
 |[],acc,_=>by simp
 |j::r,acc,h=>by rw[nJ];have h1:=CZ (js:=r) (j.ms.foldl (jO j) acc) fun y hy=>h y (qg _ hy);have h2:=xj j j.ms acc;have h3:=h j qf;rw[qh,GA];omega
def je (bs:ac BenchT) (ss:ac StepT) (js:ac JobT) (us:ac SetT) (ls:ac LinkT) (ks:ac StockT) (h:ag):ac (aj×D):=
 [("benches",.lst (bs.map cc)),("steps",.lst (ss.map bD)),("jobs",.lst (js.map bN)),("setups",.lst (us.map cB)),("links",.lst (ls.map cR)),("stocks",.lst (ks.map cZ)),("horizon",.int h),
 ("bench_by_name",.dk (bs.map fun b=>(.inr b.nm,cc b))),("step_by_name",.dk (ss.map fun s=>(.inr s.nm,bD s))),("setup_by_names",.dt (us.map fun u=>([u.b,u.p,u.q].map cL,.int u.n)))]
def n6 (bs:ac BenchT) (ss:ac StepT) (js:ac JobT) (us:ac SetT) (ls:ac LinkT) (ks:ac StockT) (h:ag):ac (aj×D):=je bs ss js us ls ks h++[(("job_by_step":aj),D.dk (jkv js))]
def jh (bs:ac BenchT) (ss:ac StepT) (js:ac JobT) (us:ac SetT) (ls:ac LinkT) (ks:ac StockT) (h:ag):D:=.ins "Shop" (n6 bs ss js us ls ks h)
noncomputable def ly:ac aj:=["benches","steps","jobs","setups","links","stocks","horizon","bench_by_name","step_by_name","setup_by_names","job_by_step"]
theorem t9:ly.Nodup:=by decide +kernel
theorem Fc {l:ac α} (h:l.Nodup) (n:ah):(l.take n).Nodup:=VE (oZ n l) h
section
variable {fs:ac (aj×D)} {f:aj} {fv:FE} {r:aX}
theorem jZ (n:ah) (hk:ly[n]?=aa f) (hf:fs.map (·.1)=ly.take n) (h:fv (aa (.obj "Shop" fs)::r)=aa d):aw (ib "Shop" f 0 fv) g (aa (.obj "Shop" fs)::r)=g (aa (.obj "Shop" (fs++[(f,d)]))::r):=by
 have hno:fs.lookup f=ae:=so (by
  rw[hf];intro z;obtain⟨i,hi⟩:=v5 z;have hin:i<n:=by
   rcases km i n with q|q
   .exact q
   .rw[zY (by rw[qE];omega)] at hi;cases hi
  rw[vt hin] at hi;have:=(List.getElem?_inj (db.mp hi).1 t9).mp (hi.trans hk.symm);omega)
 have hlen:fs.length<100:=by have:=cC fW hf;rw[qe,qE] at this;have k:ly.length=11:=rfl;omega
 simp only[aw,ib,h,qa,qb,hno,hlen,and_self,cr,nR]
theorem xf (n i:ah) (hf:fs.map (·.1)=ly.take n) (h:fs[i]?=aa (f,d)):jB "Shop" f 0 (aa (.obj "Shop" fs)::r)=aa d:=by have e:fs.lookup f=aa d:=uq (by rw[hf];exact Fc t9 n) h;show(if aa ("Shop":aj)=aa ("Shop":aj) then fs.lookup f else ae)=aa d;rw[qY rfl,e]
end
theorem Bl {f:α->D} {nm:α->aj} {xs:ac α} (hf:∀x,∃r,f x=.tup (.str (nm x)::r)) (h1:fo ρ=aa (.lst (xs.map f))) (h2:xs.length<=1000) (nd:(xs.map nm).Nodup) :
  cF pY (af (aF (bh (itF fo) (ay 0) tT (bO (szF (af .(m) .(n)))) [ae])) ao) ρ=aa (.dk (xs.map fun x=>(.inr (nm x),f x))):=by
 have hc:=lM (fi:=itF fo) (fe:=bO (szF (af .(m) .(n)))) (fv:=[ae]) (ρ:=ρ) (r:=[]) (a:=ae) (xs:=xs.map f) (f:=fun d=>.tup [match d with|.tup (x::_)=>x|_=>.non,d]) (by unfold itF;rw[h1];rfl) (by rw[qe];exact szN h2 .(c)) rfl (fun x hx=>by obtain⟨y,_,rfl⟩:=bQ.mp hx;obtain⟨r,e⟩:=hf y;simp only[af,ao,vSh,vC,b2,bO,szF,iT,qb,qa,qd,cr,qh,qk,g0,sz2,e])
 have e:(xs.map f).map (fun d=>D.tup [match d with|.tup (x::_)=>x|_=>.non,d])=xs.map fun x=>.tup [.str (nm x),f x]:=by rw[qo];refine Ay fun x _=>?_;obtain⟨r,e⟩:=hf x;simp[e]
 rw[e] at hc;have kn:((xs.map fun x=>((.inr (nm x):Key),f x)).map (·.1)).Nodup:=by rw[qo];have:=vX (S:=fun a b:Key=>a≠b) (cL:aj->Key) (fun a b hab z=>hab (su z)) nd;rw[qo] at this;exact this
 refine aY (aC hc aS) ?_;show(if _ then _ else _)=_;rw[qY (by rw[qe];exact h2),B3,qd,BV kn]
theorem Jo (h1:fo ρ=aa (.lst (us.map cB))) (h2:us.length<=1000) (nd:(us.map fun u=>[u.b,u.p,u.q]).Nodup) :
  cF tX (af (aF (bh (itF fo) (ay 0) tT (bO (szF (af (slF (vSh 0) pN (pS .(F))) (af (b2 ixD (vSh 0) .(F)) ao)))) [ae])) ao) ρ=aa (.dt (us.map fun u=>([u.b,u.p,u.q].map cL,.int u.n))):=by
 have hc:=lM (fi:=itF fo) (fe:=bO (szF (af (slF (vSh 0) pN (pS .(F))) (af (b2 ixD (vSh 0) .(F)) ao)))) (fv:=[ae]) (ρ:=ρ) (r:=[]) (a:=ae) (xs:=us.map cB) (f:=fun d=>match d with|.tup [a,b,c,d]=>.tup [.tup [a,b,c],d]|_=>.non) (by unfold itF;rw[h1];rfl) (by rw[qe];exact szN h2 .(c)) rfl (fun x hx=>by obtain⟨y,_,rfl⟩:=bQ.mp hx;simp only[af,ao,vSh,vC,b2,bO,szF,slF,pN,pS,rZ,qb,qa,qd,cr,qh,qk,g0,sz2,cB,Ff])
 rw[qo] at hc;have kn:((us.map fun u=>([u.b,u.p,u.q].map (cL:aj->Key),D.int u.n)).map (·.1)).Nodup:=by rw[qo];have inj:∀a b:ac aj,a.map (cL:aj->Key)=b.map cL->a=b:=fun a b z=>(Uy (fun x y q=>su q)).mp z;have:=vX (S:=fun a b:ac Key=>a≠b) (GP (cL:aj->Key)) (fun a b hab z=>hab (inj a b z)) nd;rw[qo] at this;exact this
 refine aY (aC hc aS) ?_;show(if _ then _ else _)=_;have e:=E4 (t:=fun u:SetT=>[u.b,u.p,u.q]) (f:=fun u=>.int u.n) us;rw[qY (by rw[qe];exact h2)];have e2:mr (us.map ((fun d=>match d with|.tup [a,b,c,d]=>D.tup [.tup [a,b,c],d]|_=>.non) ∘ cB))=aa (us.map fun u=>([u.b,u.p,u.q].map cL,.int u.n)):=e;rw[e2,qd,BV kn]
section
variable {bs:ac BenchT}
theorem xg:(je bs ss js us ls ks h).map (·.1)=ly.take 10:=rfl
theorem Bm:(n6 bs ss js us ls ks h).map (·.1)=ly:=rfl
abbrev r9 (bs:ac BenchT) (ss:ac StepT) (js:ac JobT) (us:ac SetT) (ls:ac LinkT) (ks:ac StockT) (h:ag) (a b:ar Slot):aX:=[oS .(ak),oS .(K),oS .(Z),oS (.lst (us.map cB)),oS (.lst (ls.map cR)),oS (.lst (ks.map cZ)),oS (.int h),oS .non,a,b]
abbrev ob (bs:ac BenchT) (ss:ac StepT) (js:ac JobT) (us:ac SetT) (ls:ac LinkT) (ks:ac StockT) (h:ag) (kvs:ac (Key×D)):ar Slot:=aa (.objd "Shop" (je bs ss js us ls ks h) "job_by_step" kvs)
theorem OT {j:JobT} {m:aj} {kvs:ac (Key×D)} (hl:kvs.length<100000):kg "Shop" "job_by_step" 0 (vSh 10) (vSh 9) (ob bs ss js us ls ks h kvs::r9 bs ss js us ls ks h (oS (bN j)) (oS (.str m)))=aa (.nx,ob bs ss js us ls ks h (jO j kvs m)::r9 bs ss js us ls ks h (oS (bN j)) (oS (.str m))):=by have hno:(je bs ss js us ls ks h).lookup ("job_by_step":aj)=ae:=so (by rw[xg];decide +kernel);simp only[kg,vSh,qb,qc,qa,jP,hno,hl,and_self,cr,nR,jO]
theorem Mw {j:JobT} {acc:ac (Key×D)} {z:ar Slot} (hl:acc.length+j.ms.length<100000):∃z',ci (itF (b2 ixD (vSh 9) .(P))) (ay 10) (kg "Shop" "job_by_step" 0 (vSh 10) (vSh 9)) (ob bs ss js us ls ks h acc::r9 bs ss js us ls ks h (oS (bN j)) z)=aa (.nx,ob bs ss js us ls ks h (j.ms.foldl (jO j) acc)::r9 bs ss js us ls ks h (oS (bN j)) z'):=by
 obtain⟨ρ',h1,z',h2⟩:=gC (gg:=ay 10) (body:=kg "Shop" "job_by_step" 0 (vSh 10) (vSh 9)) (xs:=j.ms.map D.str) (ρ:=ob bs ss js us ls ks h acc::r9 bs ss js us ls ks h (oS (bN j)) z)
  (fun i ρ=>∃z,ρ=ob bs ss js us ls ks h ((j.ms.take i).foldl (jO j) acc)::r9 bs ss js us ls ks h (oS (bN j)) z) ⟨z,by simp⟩ (fun i x ρ hx hI=>by
   obtain⟨z,rfl⟩:=hI;rw[qj] at hx;obtain⟨m,hm,rfl⟩:=oMd hx;have tk:j.ms.take (i+1)=j.ms.take i++[m]:=by rw[HA,hm];rfl
   have hlen:=xj j (j.ms.take i) acc;rw[qE] at hlen;refine⟨_,_,rfl,OT .(a),oS (.str m),?_⟩;rw[tk,Ai];rfl)
 refine⟨z',?_⟩;have e:itF (b2 ixD (vSh 9) .(P)) (ob bs ss js us ls ks h acc::r9 bs ss js us ls ks h (oS (bN j)) z)=aa (j.ms.map D.str):=by simp only[vSh,vC,b2,itF,rO,pC,qb,qc,qa,bN]
 unfold ci;rw[e,qa,h1,h2,qe,mm]
theorem Ky (hj:js.length<=40) (hm:∀j∈js,j.ms.length<=40):∃z z',dj (ay 9) (ci (itF (b2 ixD (vSh 9) .(P))) (ay 10) (kg "Shop" "job_by_step" 0 (vSh 10) (vSh 9))) (js.map bN) (ob bs ss js us ls ks h []::r9 bs ss js us ls ks h ae ae)=aa (.nx,ob bs ss js us ls ks h (jkv js)::r9 bs ss js us ls ks h z z'):=by
 obtain⟨ρ',h1,z,z',h2⟩:=gC (gg:=ay 9) (body:=ci (itF (b2 ixD (vSh 9) .(P))) (ay 10) (kg "Shop" "job_by_step" 0 (vSh 10) (vSh 9))) (xs:=js.map bN) (ρ:=ob bs ss js us ls ks h []::r9 bs ss js us ls ks h ae ae)
  (fun i ρ=>∃z z',ρ=ob bs ss js us ls ks h (jkv (js.take i))::r9 bs ss js us ls ks h z z') ⟨ae,ae,by simp[jkv]⟩ (fun i x ρ hx hI=>by
   obtain⟨z,z',rfl⟩:=hI;rw[qj] at hx;obtain⟨j,hjm,rfl⟩:=oMd hx;have tk:js.take (i+1)=js.take i++[j]:=by rw[HA,hjm];rfl
   have hlen:=CZ (m:=40) (js:=js.take i) [] fun y hy=>hm y (im hy);rw[qE,qk] at hlen;have h4:=hm j (qP hjm);obtain⟨w,hw⟩:=Mw (bs:=bs) (ss:=ss) (js:=js) (us:=us) (ls:=ls) (ks:=ks) (h:=h) (j:=j) (acc:=jkv (js.take i)) (z:=z') (by unfold jkv;omega);refine⟨_,_,rfl,hw,oS (bN j),w,?_⟩;rw[tk];unfold jkv;rw[Ai];rfl)
 refine⟨z,z',?_⟩;rw[h1,h2,qe,mm]
theorem QF (g:Good bs ss js us ls ks h) (ml:(js.flatMap (·.ms)).length<=300):pE [.lst (bs.map cc),.lst (ss.map bD),.lst (js.map bN),.lst (us.map cB),.lst (ls.map cR),.lst (ks.map cZ),.int h]=aa (jh bs ss js us ls ks h):=by
 have hl:(ss.map (·.nm)).length<=40:=by rw[qe];exact g.sl.2
 have f1:=oJ (d:=.lst (bs.map cc)) (kX (by have:=g.bl.2;omega) fun x hx=>Ij (g.b x hx));have f2:=oJ (d:=.lst (ss.map bD)) (kX (by have:=g.sl.2;omega) fun x hx=>Na (g.s x hx));have f3:=oJ (d:=.lst (js.map bN)) (kX (by have:=g.jl;omega) fun x hx=>K5 hl (g.j x hx));have f4:=oJ (d:=.lst (us.map cB)) (kX (by have:=g.ul;omega) fun x hx=>Mq);have f5:=oJ (d:=.lst (ls.map cR)) (kX (by have:=g.ll;omega) fun x hx=>Jl);have f6:=oJ (d:=.lst (ks.map cZ)) (kX (by have:=g.kl;omega) fun x hx=>Om hl (g.k x hx));obtain⟨z,z',ho⟩:=Ky (bs:=bs) (ss:=ss) (us:=us) (ls:=ls) (ks:=ks) (h:=h) g.jl fun j hj=>qM (g.j j hj).ln hl;have key:∀(G:FS) (ρ':aX),G (aa (.obj "Shop" [])::[oS .(ak),oS .(K),oS .(Z),oS (.lst (us.map cB)),oS (.lst (ls.map cR)),oS (.lst (ks.map cZ)),oS (.int h),ae,ae,ae])=aa (.nx,ob bs ss js us ls ks h (jkv js)::ρ')->
   oF 3 "Shop" G [.lst (bs.map cc),.lst (ss.map bD),.lst (js.map bN),.lst (us.map cB),.lst (ls.map cR),.lst (ks.map cZ),.int h]=aa (jh bs ss js us ls ks h):=fun G ρ' e=>by
  unfold oF;show(G (aa (.obj "Shop" [])::[oS .(ak),oS .(K),oS .(Z),oS (.lst (us.map cB)),oS (.lst (ls.map cR)),oS (.lst (ks.map cZ)),oS (.int h),ae,ae,ae])).bind _=_;rw[e];rfl
 refine key _ (r9 bs ss js us ls ks h z z') ((bJ (aY rfl (P7 g ml))).trans ?_);show aw _ _ (aa (.obj "Shop" [])::r9 bs ss js us ls ks h ae ae)=_;refine(cU (bU (b:=aq) rfl)).trans ?_;refine(jZ 0 rfl rfl (aY rfl f1)).trans ?_;refine(jZ 1 rfl rfl (aY rfl f2)).trans ?_;refine(jZ 2 rfl rfl (aY rfl f3)).trans ?_;refine(jZ 3 rfl rfl (aY rfl f4)).trans ?_;refine(jZ 4 rfl rfl (aY rfl f5)).trans ?_;refine(jZ 5 rfl rfl (aY rfl f6)).trans ?_;refine(jZ 6 rfl rfl (d:=.int h) rfl).trans ?_;refine(jZ 7 rfl rfl (Bl (f:=cc) (nm:=(·.nm)) (xs:=bs) (fun x=>⟨_,rfl⟩) (xf 7 0 rfl rfl) (by have:=g.bl.2;omega) g.bn)).trans ?_;refine(jZ 8 rfl rfl (Bl (f:=bD) (nm:=(·.nm)) (xs:=ss) (fun x=>⟨_,rfl⟩) (xf 8 1 rfl rfl) (by have:=g.sl.2;omega) g.sn)).trans ?_;refine(jZ 9 rfl rfl (Jo (us:=us) (xf 9 3 rfl rfl) (by have:=g.ul;omega) g.un)).trans ?_;have hno:(je bs ss js us ls ks h).lookup ("job_by_step":aj)=ae:=so (by rw[xg];decide +kernel);have hle:(je bs ss js us ls ks h).length<100:=by simp[je]
 have e1:oq "Shop" "job_by_step" 0 (aa (.obj "Shop" (je bs ss js us ls ks h))::r9 bs ss js us ls ks h ae ae)=aa (.nx,ob bs ss js us ls ks h []::r9 bs ss js us ls ks h ae ae):=by simp only[oq,qb,hno,hle,and_self,cr,nR]
 have e2:itF (jB "Shop" "jobs" 0) (ob bs ss js us ls ks h []::r9 bs ss js us ls ks h ae ae)=aa (js.map bN):=by
  have lk:(je bs ss js us ls ks h).lookup ("jobs":aj)=aa .(Z):=uq (i:=2) (by rw[xg];exact Fc t9 10) rfl;have n1:("jobs":aj)≠"job_by_step":=by decide +kernel
  have e:jB "Shop" "jobs" 0 (ob bs ss js us ls ks h []::r9 bs ss js us ls ks h ae ae)=aa .(Z):=by show(if aa ("Shop":aj)=aa ("Shop":aj) then (if ("jobs":aj)="job_by_step" then ae else (je bs ss js us ls ks h).lookup ("jobs":aj)) else ae)=_;rw[qY rfl,qZ n1,lk]
  unfold itF;rw[e];rfl
 show aw (oq "Shop" "job_by_step" 0) (ci (itF (jB "Shop" "jobs" 0)) (ay 9) (ci (itF (b2 ixD (vSh 9) .(P))) (ay 10) (kg "Shop" "job_by_step" 0 (vSh 10) (vSh 9)))) (aa (.obj "Shop" (je bs ss js us ls ks h))::r9 bs ss js us ls ks h ae ae)=_;unfold aw;rw[e1,qa];show ci _ _ _ _=_;unfold ci;rw[e2,qa];exact ho
end
theorem iu {g':FS} {b:ba} (h:ft ρ=aa b):sIf ft g g' ρ=if b=al then g ρ else g' ρ:=by unfold sIf;rw[h];rfl
theorem dH {g':FS} (h:g ρ=aa (.nx,ρ1)):aw g g' ρ=g' ρ1:=by unfold aw;rw[h];rfl
theorem jC (h:f ρ=aa d):aE i f ρ=aa (.nx,ρ.set i (oS d)):=by unfold aE;rw[h];rfl
theorem yw (h1:ρ[i]?=aa (aa (.own ds))) (h2:f ρ=aa d) (h3:ds.length<aL):cb i f ρ=aa (.nx,ρ.set i (aa (.own (ds++[d])))):=by unfold cb;rw[h1];show(f ρ).bind _=_;rw[h2,qa,qY h3]
theorem iB :aw (cE i (szF ao)) g ρ=g (ρ.set i (aa (.own []))):=by
 have z0:(0<=aL)=True:=by simp
 simp only[aw,cE,szF,ao,qa,qd,qk,z0,cr]
theorem iK (h1:ρ[i]?=aa (aa (.own ds))):fB i g ρ=g (ρ.set i (oS (.lst ds))):=by unfold fB;rw[h1]
theorem f8 {body:FS} (h:fi ρ=aa xs):ci fi gg body ρ=dj gg body xs ρ:=by unfold ci;rw[h];rfl
theorem dw {a b:ag} (h:0<b):bu (.int a) (.int b)=aa (.int (a%b)):=qY h
theorem rM {a b:ag} (h:0<b/\b<1073741824):fZ (.int a) (.int b)=aa (.int (a / b)):=qY h
theorem Ka:(2:ag) ^ 64=18446744073709551616:=by decide +kernel
theorem ig {a b:ag} (h:(-1000000000000<a/\a<1000000000000)\/(-1000000000000<b/\b<1000000000000)):cq (.int a) (.int b)=aa (.int (a*b)):=by show(if _ then _ else _)=_;rw[Ka];exact qY .(a)
def uu:FS:=sIf (eO (toB (vSh 3)) (toB (b2 gtD (vSh 4) .(e)))) (aw (cb 6 (b2 bu (vSh 4) (vSh 8))) (aE 4 (b2 rH (vSh 4) (vSh 8)))) X4
abbrev nE (ns:ac ag) (k:ah) (bs:ac ag) (fr:ba) (n sd:ag) (ds:ac ag) (a b:ar Slot):aX:=[oS (.scr ns),oS (.int k),oS (.lst (bs.map D.int)),oS (.bl fr),oS (.int n),oS (.int sd),aa (.own (ds.map D.int)),a,b]
theorem PV {s:ag} (h:0<s/\s<4398046511104):s.natAbs.log2<9000:=by
 have h1:s.natAbs≠0:=by omega
 have h3:(2:ah) ^ 42=4398046511104:=by decide
 have h2:s.natAbs<2 ^ 42:=by rw[h3];omega
 have:=(Hx h1).mpr h2;omega
theorem OL {a b:ag} (h:0<b/\b<4398046511104):rH (.int a) (.int b)=aa (.int (a / b)):=qY ⟨h.1,PV h⟩
theorem Q2 {bs ds:ac ag} {k t:ah} {fr:ba} {n sd s:ag} (hk:k<=1000) (ht:t<=100) (hs:0<s/\s<4398046511104) (hl:ds.length<=100):∃n' sd' d,uu (nE ns k bs fr n sd ds (oS (.int t)) (oS (.int s)))=aa (.nx,nE ns k bs fr n' sd' (ds++[d]) (oS (.int t)) (oS (.int s)))/\0<=d/\d<s:=by
 obtain⟨c,hc⟩:∃c,eO (toB (vSh 3)) (toB (b2 gtD (vSh 4) .(e))) (nE ns k bs fr n sd ds (oS (.int t)) (oS (.int s)))=aa c:=by
  cases fr with
  |false=>exact⟨aq,rfl⟩
  |true=>exact⟨_,rfl⟩
 have hsz:(ds.map D.int).length<aL:=by rw[qe];unfold aL;omega
 unfold uu;rw[iu hc];cases c with
 |true=>
  refine⟨n / s,sd,n%s,(dH (yw rfl (aD rfl rfl (dw hs.1)) hsz)).trans (jC (aD rfl rfl (OL hs))) |>.trans ?_,qX _ .(a),qV _ hs.1⟩;simp[nE]
 |false=>
  have q1:0<=sd%1000000007:=qX _ .(c);have q2:sd%1000000007<1000000007:=qV _ .(c)
  let s1:ag:=sd%1000000007+7919*(t:ag)*t+104729*(k:ag)*k
  let s2:ag:=(s1+1)*48271%2147483629
  let s3:ag:=s2*s2%2147483587
  have r1:0<=s2/\s2<2147483629:=⟨qX _ .(c),qV _ .(c)⟩;have r2:0<=s3/\s3<2147483587:=⟨qX _ .(c),qV _ .(c)⟩;refine⟨n,s3,s3*(s3+1) / 97%s,(bJ (d:=.int s1) (aD (aD (aD rfl rfl (dw .(c))) (aD (aD rfl rfl (ig (.inl .(c)))) rfl (ig (.inr .(a)))) rfl) (aD (aD rfl rfl (ig (.inl .(c)))) rfl (ig (.inr .(a)))) rfl)).trans ((bJ (d:=.int s2) (aD (aD (aD rfl rfl rfl) rfl (ig (.inr .(c)))) rfl (dw .(c)))).trans ((bJ (d:=.int s3) (aD (aD rfl rfl (ig (.inl .(a)))) rfl (dw .(c)))).trans (yw rfl (aD (aD (aD rfl (aD rfl rfl rfl) (ig (.inl .(a)))) rfl (rM .(c))) rfl (dw hs.1)) hsz))) |>.trans ?_,qX _ .(a),qV _ hs.1⟩;simp[nE]
theorem ua (h:(xs.mapIdx fun i d=>D.tup [.int i,d])[i]?=aa d):∃x,xs[i]?=aa x/\d=.tup [.int i,x]:=by rw[Tx] at h;obtain⟨x,hx,rfl⟩:=oMd h;exact⟨x,hx,rfl⟩
theorem uV (h:ft ρ=aa al) (h2:f ρ=aa d):aw (sIf ft (aE i f) aQ) g ρ=g (ρ.set i (oS d)):=by unfold aw sIf aE;rw[h];simp[h2]
theorem B6:∀ns:ac ag,gf (ns.map o9)=al
 |[]=>rfl
 |n::ns=>by simp[gf,iH,B6 ns]
theorem C9:∀ns:ac ag,jv (ns.map o9)=0
 |[]=>rfl
 |n::ns=>by simp[jv,jz,C9 ns]
theorem HX (ns:ac ag):fy (.list (ns.map o9))=al:=by simp[fy,iH,B6 ns,jz,C9]
theorem EF:fy (.list [])=al:=by simp[fy,iH,gf,jz,jv]
theorem Dd (ns:ac ag):eqX (.scr ns) (.lst [])=aa (fM (.list (ns.map o9)) (.list [])):=by show(if fy (.list (ns.map o9))=al/\fy (.list [])=al then _ else _)=_;rw[qY ⟨HX ns,EF⟩]
theorem Q3 (n:ag) (ns:ac ag):eqA (.scr (n::ns)) (.lst [])=aa (.bl aq):=by show(eqX (.scr (n::ns)) (.lst [])).map D.bl=_;rw[Dd];rfl
theorem Pp (n:ag) (ns:ac ag):neA (.scr (n::ns)) (.lst [])=aa (.bl al):=by show(eqX (.scr (n::ns)) (.lst [])).map (fun b=>D.bl (!b))=_;rw[Dd];rfl
theorem zl (h:j<ns.length):∃n,ixD (.scr ns) (.int (j:ag))=aa (.int n):=by refine⟨ns[j],?_⟩;show(atI ns (j:ag)).map D.int=_;rw[ky];simp[h]
theorem yj (ns:ac ag) (k:ah) (hk:k<=1000) (bs:ac ag) (hs:∀s∈bs,0<s/\s<4398046511104) (hl:bs.length<=100) (fr:ba) (n0 sd0:ag) :
  ∃ρ',dj (cs 2 (aM (ay 7) (aM (ay 8) bZ))) uu ((bs.map D.int).mapIdx fun i d=>D.tup [.int i,d]) (nE ns k bs fr n0 sd0 [] ae ae)=aa (.nx,ρ')/\∃n sd ds a b,ρ'=nE ns k bs fr n sd ds a b/\ds.length=bs.length/\∀(j:ah) s,bs[j]?=aa s->∃d,ds[j]?=aa d/\0<=d/\d<s:=by
 obtain⟨ρ',h1,n,sd,ds,a,b,h2,h3,h4⟩:=gC (gg:=cs 2 (aM (ay 7) (aM (ay 8) bZ))) (body:=uu) (xs:=(bs.map D.int).mapIdx fun i d=>D.tup [.int i,d]) (ρ:=nE ns k bs fr n0 sd0 [] ae ae)
  (fun i ρ=>∃n sd ds a b,ρ=nE ns k bs fr n sd ds a b/\ds.length=i/\∀(j:ah) s,j<i->bs[j]?=aa s->∃d,ds[j]?=aa d/\0<=d/\d<s) ⟨n0,sd0,[],ae,ae,rfl,rfl,fun j s hj=>by omega⟩ (fun i x ρ hx hI=>by
   obtain⟨n,sd,ds,a,b,rfl,hlen,hb⟩:=hI;obtain⟨y,hy,rfl⟩:=ua hx;rw[qj] at hy;obtain⟨s,hsi,rfl⟩:=oMd hy;have hi:i<bs.length:=(db.mp hsi).1;obtain⟨n',sd',d,e1,e2,e3⟩:=Q2 (ns:=ns) (n:=n) (sd:=sd) (k:=k) (t:=i) (bs:=bs) (ds:=ds) (fr:=fr) hk .(a) (hs s (qP hsi)) .(a);refine⟨_,_,rfl,e1,n',sd',ds++[d],_,_,rfl,by rw[qi,hlen];rfl,fun j s' hj hs'=>?_⟩;by_cases hji:j=i
   .subst hji;rw[hsi] at hs';cases hs';exact⟨d,by rw[qK .(a),hlen,v6];rfl,e2,e3⟩
   .obtain⟨d',q1,q2⟩:=hb j s' .(a) hs';exact⟨d',by rw[qz .(a)];exact q1,q2⟩)
 rw[vF,qe] at h3 h4;exact⟨ρ',h1,n,sd,ds,a,b,h2,h3,fun j s hj=>h4 j s (db.mp hj).1 hj⟩
theorem iR (ns:ac ag) (k:ah) (hk:k<=1000) (bs:ac ag) (hs:∀s∈bs,0<s/\s<4398046511104) (hl:bs.length<=100) :
  ∃ds:ac ag,dZ [.scr ns,.int (k:ag),.lst (bs.map D.int)]=aa (.lst (ds.map D.int))/\ds.length=bs.length/\∀(i:ah) s,bs[i]?=aa s->∃d,ds[i]?=aa d/\0<=d/\d<s:=by
 have kk:cq (.int (k:ag)) (.int (k:ag))=aa (.int ((k:ag)*k)):=ig (.inl .(a));have e4:∀(a b c d e f:ar Slot),toB (b2 ltD (vSh 1) .(aU)) [oS (.scr ns),oS (.int k),oS (.lst (bs.map D.int)),a,b,c,d,e,f]=aa (decide (k<ns.length)):=fun a b c d e f=>by simp only[toB,cF,af,ao,vSh,b2,bw,ltD,qb,qc,qa,qd];exact cC aa (decide_eq_decide.mpr Int.ofNat_lt)
 cases ns with
 |nil=>
  obtain⟨ρ',h1,n,sd,ds,a,b,h2,h3,h4⟩:=yj [] k hk bs hs hl al 0 ((k:ag)*k);refine⟨ds,?_,h3,h4⟩;unfold dZ;refine bW (ρ':=(nE [] k bs al n sd ds a b).set 6 (oS (.lst (ds.map D.int)))) [oS (.scr []),oS (.int k),oS (.lst (bs.map D.int)),ae,ae,ae,ae,ae,ae] rfl ?_;exact(bJ (d:=.bl al) .(A)).trans ((bJ (d:=.int 0) rfl).trans ((bJ (aD rfl rfl kk)).trans ((cU (e4 _ _ _ _ _ _)).trans ((cU (bU (b:=aq) .(A))).trans .(T)))))
 |cons m r=>
  obtain⟨m0,hm0⟩:=zl (ns:=m::r) (j:=0) (by simp);obtain⟨m1,hm1⟩:=zl (ns:=m::r) (j:=k%(r.length+1)) (by rw[qh];exact kq _ .(a));have e0:∀(a b c d e f:ar Slot),aF (szF ao) [oS (.scr (m::r)),oS (.int k),oS (.lst (bs.map D.int)),a,b,c,d,e,f]=aa (.lst []):=fun a b c d e f=>by kernel_rfl
  have e1:orD (b2 eqA (vSh 0) (aF (szF ao))) (b2 eqD (b2 bu .(m) .(q)) .(f)) [oS (.scr (m::r)),oS (.int k),oS (.lst (bs.map D.int)),ae,ae,ae,ae,ae,ae]=aa (.bl (decide (m0%2=0))):=by unfold orD;rw[aD (z:=.bl aq) rfl (e0 _ _ _ _ _ _) (Q3 m r)];exact aD (aD (aD rfl rfl hm0) rfl (dw .(c))) rfl rfl
  have e2:∀(a b c d e f:ar Slot),b2 ixD (vSh 0) (b2 bu (vSh 1) .(aU)) [oS (.scr (m::r)),oS (.int k),oS (.lst (bs.map D.int)),a,b,c,d,e,f]=aa (.int m1):=fun a b c d e f=>by refine aD (y:=.int ((k%(r.length+1):ah):ag)) rfl (aD (y:=.int ((r.length+1:ah):ag)) rfl (aY .(S) rfl) ?_) hm1;exact dw .(a)
  have e3:∀(a b c d e f:ar Slot),toB (b2 neA (vSh 0) (aF (szF ao))) [oS (.scr (m::r)),oS (.int k),oS (.lst (bs.map D.int)),a,b,c,d,e,f]=aa al:=fun a b c d e f=>bU (aD rfl (e0 _ _ _ _ _ _) (Pp m r));by_cases hlt:k<(m::r).length
  .obtain⟨n0,hn0⟩:=zl hlt;obtain⟨ρ',h1,n,sd,ds,a,b,h2,h3,h4⟩:=yj (m::r) k hk bs hs hl (decide (m0%2=0)) n0 m1;refine⟨ds,?_,h3,h4⟩;unfold dZ;refine bW (ρ':=(nE (m::r) k bs (decide (m0%2=0)) n sd ds a b).set 6 (oS (.lst (ds.map D.int)))) [oS (.scr (m::r)),oS (.int k),oS (.lst (bs.map D.int)),ae,ae,ae,ae,ae,ae] rfl ?_;exact(bJ e1).trans ((bJ (d:=.int 0) rfl).trans ((bJ (aD rfl rfl kk)).trans ((uV ((e4 _ _ _ _ _ _).trans (by rw[qS hlt])) (aD rfl rfl hn0)).trans ((uV (e3 _ _ _ _ _ _) (e2 _ _ _ _ _ _)).trans .(T)))))
  .obtain⟨ρ',h1,n,sd,ds,a,b,h2,h3,h4⟩:=yj (m::r) k hk bs hs hl (decide (m0%2=0)) 0 m1;refine⟨ds,?_,h3,h4⟩;unfold dZ;refine bW (ρ':=(nE (m::r) k bs (decide (m0%2=0)) n sd ds a b).set 6 (oS (.lst (ds.map D.int)))) [oS (.scr (m::r)),oS (.int k),oS (.lst (bs.map D.int)),ae,ae,ae,ae,ae,ae] rfl ?_;exact(bJ e1).trans ((bJ (d:=.int 0) rfl).trans ((bJ (aD rfl rfl kk)).trans ((cU ((e4 _ _ _ _ _ _).trans (by rw[qN hlt]))).trans ((uV (e3 _ _ _ _ _ _) (e2 _ _ _ _ _ _)).trans .(T)))))
def nm (p k:ah):aj:=match fj [.int (p:ag),.int (k:ag)] with
 |some (.str x)=>x
 |_=>⟨#[]⟩
noncomputable def EW (x:aj):ah:=(x.cps.toList.filter fun c=>c<117).foldl (fun a c=>a*20+(c-97)) 0
def Fg (p k:ah):ba:=match fj [.int (p:ag),.int (k:ag)] with
 |some (.str x)=>bi x && (EW x==k)
 |_=>aq
theorem IN:((cz 62).all fun p=>(cz 60).all fun k=>Fg p k)=al:=by decide +kernel
theorem jS {p k:ah} (hp:p<62) (hk:k<60):fj [.int (p:ag),.int (k:ag)]=aa (.str (nm p k))/\bi (nm p k)=al/\EW (nm p k)=k:=by
 have:=ko.mp (ko.mp IN p (fV.mpr hp)) k (fV.mpr hk);unfold Fg at this;unfold nm;split at this
 .rename_i x e;rw[e];have h:=Bool.and_eq_true_iff.mp this;exact⟨rfl,h.1,by simpa using h.2⟩
 .cases this
theorem rj {p:ah} (hp:p<62) (hi:i<60) (hj:j<60) (h:nm p i=nm p j):i=j:=by rw[←(jS hp hi).2.2,←(jS hp hj).2.2,h]
theorem RF {d:ag} (h:0<=d):nr ae (aa d) (.lst xs)=aa (.lst (xs.take d.toNat)):=by
 show aa (D.lst (eE xs ae (aa d)))=_;unfold eE HT.sIx;simp only;rw[qZ .(a),mf,UA]
 congr 2
 rw[UB];split
 .rfl
 .rw[lg (qv _),lg .(a)]
theorem NX {d:ag} (h:0<=d):nr (aa d) ae (.lst xs)=aa (.lst (xs.drop d.toNat)):=by
 show aa (D.lst (eE xs (aa d) ae))=_;unfold eE HT.sIx;simp only;rw[qZ .(a)]
 congr 2
 rw[UB];split
 .rw[lg (by rw[gY];omega)]
 .rw[v7 (qv _),v7 .(a)];simp
theorem xu {g:FE} {d:ag} (h1:f ρ=aa (.lst xs)) (h2:g ρ=aa (.int d)) (h:0<=d):slF f pN (pS g) ρ=aa (.lst (xs.take d.toNat)):=by unfold slF pN pS;rw[h1,h2];exact RF h
theorem yJ {g:FE} {d:ag} (h1:f ρ=aa (.lst xs)) (h2:g ρ=aa (.int d)) (h:0<=d):slF f (pS g) pN ρ=aa (.lst (xs.drop d.toNat)):=by unfold slF pN pS;rw[h1,h2];exact NX h
structure GoodI (h:ag) (br:ac (ag×ag)):Prop where
 iv:∀p∈br,0<=p.1/\p.1<p.2/\p.2<=h
 gap:∀(i:ah) p q,br[i]?=aa p->br[i+1]?=aa q->p.2<q.1
theorem iJ {g:FE} {x y:D} (h1:f ρ=aa x) (h2:g ρ=aa y):bO (szF (af f (af g ao))) ρ=aa (.tup [x,y]):=by simp only[bO,szF,af,ao,h1,h2,qa,qd,qh,qk,g0,sz2,cr]
theorem oi {g e:FE} {x y:D} (h1:f ρ=aa x) (h2:g ρ=aa y) (h3:e ρ=aa z):bO (szF (af f (af g (af e ao)))) ρ=aa (.tup [x,y,z]):=by simp only[bO,szF,af,ao,h1,h2,h3,qa,qd,qh,qk,g0,sz3,cr]
theorem Jx {g e a:FE} {x y w:D} (h1:f ρ=aa x) (h2:g ρ=aa y) (h3:e ρ=aa z) (h4:a ρ=aa w):bO (szF (af f (af g (af e (af a ao))))) ρ=aa (.tup [x,y,z,w]):=by simp only[bO,szF,af,ao,h1,h2,h3,h4,qa,qd,qh,qk,g0,sz4,cr]
theorem yt {g e a b:FE} {x y w u:D} (h1:f ρ=aa x) (h2:g ρ=aa y) (h3:e ρ=aa z) (h4:a ρ=aa w) (h5:b ρ=aa u):bO (szF (af f (af g (af e (af a (af b ao)))))) ρ=aa (.tup [x,y,z,w,u]):=by simp only[bO,szF,af,ao,h1,h2,h3,h4,h5,qa,qd,qh,qk,g0,sz5,cr]
theorem gu {g:α->D} {xs:ac α} {x:α} (h1:ρ[i]?=aa (aa (.own (xs.map g)))) (h2:f ρ=aa (g x)) (h3:xs.length<=1000):cb i f ρ=aa (.nx,ρ.set i (aa (.own ((xs++[x]).map g)))):=by rw[yw h1 h2 (by rw[qe];unfold aL;omega),dS];rfl
theorem ku {ds:ac ag} {d:ag} (h1:f ρ=aa (.lst (ds.map D.int))) (h2:ds[n]?=aa d):b2 ixD f (vC (.int (n:ag))) ρ=aa (.int d):=
 aD h1 rfl (by rw[ixL,qj,h2];rfl)
theorem wU {g:FE} {ds:ac ag} {i d:ag} (h1:f ρ=aa (.lst (ds.map D.int))) (hg:g ρ=aa (.int i)) (hi:i=(n:ag)) (h2:ds[n]?=aa d):b2 ixD f g ρ=aa (.int d):=
 aD h1 hg (by rw[hi,ixL,qj,h2];rfl)
theorem K' {f hi:ag} (hg:GoodI h br) (hf:0<=f) (hlt:∀p∈br,p.2<f) (h1:f<=lo) (h2:lo<hi) (h3:hi<=h):GoodI h (br++[(lo,hi)]):=by
 refine⟨fun q hq=>?_,fun j q q' hq hq'=>?_⟩
 .rcases cD.mp hq with z|z
  .exact hg.iv q z
  .rw[b8.mp z];exact⟨by omega,h2,h3⟩
 .have hj:j+1<br.length+1:=by have:=(db.mp hq').1;simpa using this
  rw[qz .(a)] at hq;by_cases hj2:j+1<br.length
  .rw[qz hj2] at hq';exact hg.gap j q q' hq hq'
  .rw[qK .(a),show j+1-br.length=0 by omega] at hq';cases hq';have:=hlt q (qP hq);show q.2<lo;omega
abbrev kE (S M:ar Slot) (p:ah) (h:ag) (bs:ac BenchT) (k:ah) (br:ac (ag×ag)) (ds:ac ag) (f:ag) (a b c:ar Slot):aX:=[S,oS (.int p),M,oS (.int h),aa (.own (bs.map cc)),oS (.int k),aa (.own (br.map dIv)),oS (.lst (ds.map D.int)),oS (.int f),a,b,c]
def uG:FS:=aw (aE 10 (b2 aB (vSh 8) (b2 ixD (vSh 7) (b2 aB .(e) (b2 cq .(q) (vSh 9)))))) Xb
theorem Sd (h:ft ρ=aa al) (h2:cb i f ρ=aa (.nx,ρ')):aw (sIf ft (cb i f) aQ) g ρ=g ρ':=by unfold aw sIf;rw[h];simp[h2]
theorem MK {M:ar Slot} {p k:ah} {bs:ac BenchT} {ds:ac ag} {a b c:ar Slot} (hn:n<=10) (hd:∀j:ah,j<21->∃d,ds[j]?=aa d/\0<=d) :
  ∃ρ',dj (ay 9) uG ((cz n).map fun i:ah=>D.int (0+(i:ag))) (kE S M p h bs k [] ds 0 a b c)=aa (.nx,ρ')/\∃br f a b c,ρ'=kE S M p h bs k br ds f a b c/\br.length<=n/\GoodI h br:=by
 obtain⟨ρ',h1,br,f,a',b',c',h2,h3,h4,_,_⟩:=gC (gg:=ay 9) (body:=uG) (xs:=(cz n).map fun i:ah=>D.int (0+(i:ag))) (ρ:=kE S M p h bs k [] ds 0 a b c)
  (fun i ρ=>∃br f a b c,ρ=kE S M p h bs k br ds f a b c/\br.length<=i/\GoodI h br/\0<=f/\∀q∈br,q.2<f) ⟨[],0,a,b,c,rfl,qv _,⟨fun p hp=>(by cases hp),fun i p q hp=>(by simp at hp)⟩,Int.le_refl _,fun p hp=>(by cases hp)⟩ (fun i x ρ hx hI=>by
   obtain⟨br,f,a,b,c,rfl,hlen,hg,hf,hlt⟩:=hI;rw[qj] at hx;obtain⟨j,hj,rfl⟩:=oMd hx;have hi:i<n:=by simpa using(db.mp hj).1
   have hji:i=j:=by rw[mj hi] at hj;exact qH hj
   subst hji;obtain⟨d1,q1,p1⟩:=hd (1+2*i) .(a);obtain⟨d2,q2,p2⟩:=hd (2+2*i) .(a);have pre:∀ρ2,aw (sIf (toB (b2 leD (vSh 11) (vSh 3))) (cb 6 (bO (szF (af (vSh 10) (af (vSh 11) ao))))) aQ) (aE 8 (b2 aB (vSh 11) .(e))) (kE S M p h bs k br ds f (oS (.int (0+(i:ag)))) (oS (.int (f+d1))) (oS (.int (f+d1+1+d2))))=aa (.nx,ρ2)->uG (kE S M p h bs k br ds f (oS (.int (0+(i:ag)))) b c)=aa (.nx,ρ2):=fun ρ2 q=>
    (bJ (aD rfl (wU (n:=1+2*i) rfl (aD rfl (aD rfl rfl (ig (.inl .(c)))) rfl) .(a) q1) rfl)).trans ((bJ (aD (aD rfl rfl rfl) (wU (n:=2+2*i) rfl (aD rfl (aD rfl rfl (ig (.inl .(c)))) rfl) .(a) q2) rfl)).trans q)
   have e:toB (b2 leD (vSh 11) (vSh 3)) (kE S M p h bs k br ds f (oS (.int (0+(i:ag)))) (oS (.int (f+d1))) (oS (.int (f+d1+1+d2))))=aa (decide (f+d1+1+d2<=h)):=bU (aD rfl rfl rfl);by_cases hh:f+d1+1+d2<=h
   .rw[qS hh] at e;refine⟨_,_,rfl,pre _ ((Sd e (gu (x:=(f+d1,f+d1+1+d2)) rfl (iJ rfl rfl) .(a))).trans (jC (aD rfl rfl rfl))),br++[(f+d1,f+d1+1+d2)],f+d1+1+d2+1,_,_,_,rfl,by rw[qi];simp;omega,K' hg hf hlt .(a) .(a) hh,by omega,fun q hq=>?_⟩;rcases cD.mp hq with z|z
    .have:=hlt q z;omega
    .rw[b8.mp z];show f+d1+1+d2 < _;omega
   .rw[qN hh] at e;refine⟨_,_,rfl,pre _ ((cU e).trans (jC (aD rfl rfl rfl))),br,f+d1+1+d2+1,_,_,_,rfl,by omega,hg,by omega,fun q hq=>?_⟩;have:=hlt q hq;omega)
 rw[qe,qU] at h3;exact⟨ρ',h1,br,f,a',b',c',h2,h3,h4⟩
noncomputable def tx (i:ag):aj:=sH (sC i)
theorem iy {i:ag} (h0:0<=i) (h1:i<=1000000):(tx i).length<=8:=by
 obtain⟨m,rfl⟩:=As h0;have e0:(tx (m:ag)).cps.toList=(jx 10 m).map Au:=Hu m;have e:(tx (m:ag)).length=(jx 10 m).length:=by have:=cC fW e0;simpa[gZ] using this
 rw[e];exact Hv .(c) .(a)
theorem R9 {i:ag} (h0:0<=i) (h1:i<=1000000):i.natAbs.log2<1920:=by
 obtain⟨m,rfl⟩:=As h0;show m.log2<1920;rcases Hw m with z|z
 .subst z;decide
 .rw[Hx .(a)];exact qF (show m<10000000 by omega) .(j)
theorem nT {g:D->FQ} (h0:f ρ=aa d) (h1:fr ρ=aa ds) (h2:g d ds=aa z):mF g f fr ρ=aa z:=by unfold mF;rw[h0,qa,h1];exact h2
theorem j7 {i:ag} (h:f ρ=aa (.int i)) (h0:0<=i) (h1:i<=1000000):cF dn (af f ao) ρ=aa (.str (tx i)):=aY (aC h aS) (qY (R9 h0 h1))
theorem zr (h:x.length+y.length<=10000):aB (.str x) (.str y)=aa (.str (x++y)):=qY (by unfold aL;omega)
theorem P9 {x y:ac aj} (h:x.length+y.length<=1000):aB (.lst (x.map D.str)) (.lst (y.map D.str))=aa (.lst ((x++y).map D.str)):=by rw[dS];exact qY (by rw[qe,qe];unfold aL;omega)
theorem jE {g:FE} (h1:f ρ=aa (.str x)) (h2:g ρ=aa (.str y)) (h:x.length+y.length<=10000):b2 aB f g ρ=aa (.str (x++y)):=aD h1 h2 (zr h)
theorem lC {g:FE} {x y:ac aj} (h1:f ρ=aa (.lst (x.map D.str))) (h2:g ρ=aa (.lst (y.map D.str))) (h:x.length+y.length<=1000):b2 aB f g ρ=aa (.lst ((x++y).map D.str)):=aD h1 h2 (P9 h)
theorem Ec:∀ys:ac aj,nh (ys.map D.str)=aa ys
 |[]=>rfl
 |y::r=>by show(nh (r.map D.str)).map (y::·)=_;rw[Ec r];rfl
theorem wf {sep:aj} {B:ah} (h:f ρ=aa (.lst (ys.map D.str))) (hB:∀y∈ys,y.length<=B) (hb:B<=20000) (hs:sep.length<=10) (hl:ys.length<=200):mF fC (vC (.str sep)) (af f ao) ρ=aa (.str (bV sep ys)):=by refine nT rfl (aC h aS) ?_;show((nh (ys.map D.str)).bind fun ys=>if (ys.map (·.length)).sum+ys.length*sep.length<=16777216 then aa (D.str (bV sep ys)) else ae)=_;have h1:=StrLaws.sumLen_le (B:=B) ys hB;have h2:ys.length*B<=200*20000:=GI hl hb;have h3:ys.length*sep.length<=200*10:=GI hl hs;rw[Ec,qa,qY .(a)]
theorem uK (sep:aj) (B:ah):∀ys:ac aj,(∀y∈ys,y.length<=B)->(eK sep ys).length<=ys.length*(B+sep.length)
 |[],_=>by show 0<=_;omega
 |[x],h=>by
  show x.length<=_;have:=h x qf;simp only[qh,qk,g0,UC];omega
 |x::y::r,h=>by have ih:=uK sep B (y::r) fun z hz=>h z (qg _ hz);have hx:=h x qf;show(x++sep++eK sep (y::r)).length<=_;rw[gj,gj,qh,Nat.add_mul,UC];omega
theorem rA:(" ":aj).length=1:=by decide +kernel
theorem Ek {gg:FG} {fe:FE} {n:ah} {α:Type} {dx g:α->D}:∀{xs:ac α} {ρ:aX},ρ.length=n->(∀x∈xs,∀ρ:aX,ρ.length=n->∃ρ1,gg (dx x) ρ=aa ρ1/\ρ1.length=n/\fe ρ1=aa (g x))->gL gg tT fe (xs.map dx) ρ=aa (xs.map g)
 |[],_,_,_=>rfl
 |x::xs,ρ,hn,h=>by obtain⟨ρ1,h1,h2,h3⟩:=h x qf ρ hn;have ih:=Ek (xs:=xs) h2 fun y hy=>h y (qg _ hy);simp only[qm,gL,h1,qa,tT,cr,h3,ih,qd]
theorem Dq {ρ0:aX} {dx g:α->D} {xs:ac α} (h1:fi ρ=aa (xs.map dx)) (h2:xs.length<=1000) (h3:gV fv ρ=ρ0) (h4:ρ0.length=n) (h:∀x∈xs,∀ρ:aX,ρ.length=n->∃ρ1,gg (dx x) ρ=aa ρ1/\ρ1.length=n/\fe ρ1=aa (g x)) :
  aF (bh fi gg tT fe fv) ρ=aa (.lst (xs.map g)):=by
 simp only[aF,bh,h1,qa,qY (show(xs.map dx).length<=aL by rw[qe];exact szN h2 .(c)),h3,Ek h4 h,qd]
theorem en2 (h:ρ.length=2):∃a b,ρ=[a,b]:=match ρ,h with|[a,b],_=>⟨a,b,rfl⟩
def pI (p:ag×ag):aj:=tx p.1++"-"++tx p.2
def pW (s:aj) (w:aj×ag):aj:=w.1++s++tx w.2
abbrev g2:FG:=cs 2 (aM (ay 0) (aM (ay 1) bZ))
theorem pX:("-":aj).length=1:=by decide +kernel
theorem AN:("+":aj).length=1:=by decide +kernel
theorem EA:("/":aj).length=1:=by decide +kernel
theorem EG {p:ag×ag} (h:0<=p.1/\p.1<=1000000/\0<=p.2/\p.2<=1000000):(pI p).length<=60:=by have a1:=iy h.1 h.2.1;have a2:=iy h.2.2.1 h.2.2.2;unfold pI;rw[gj,gj,pX];omega
theorem tf {s:aj} {w:aj×ag} (hs:s.length=1) (h:w.1.length<=8/\0<=w.2/\w.2<=1000000):(pW s w).length<=60:=by have a2:=iy h.2.1 h.2.2;unfold pW;rw[gj,gj,hs];omega
theorem HU (h:fi ρ=aa (br.map dIv)) (hl:br.length<=1000) (hb:∀p∈br,0<=p.1/\p.1<=1000000/\0<=p.2/\p.2<=1000000):aF (bh fi g2 tT (b2 aB (b2 aB (cF dn .(n)) (vC (.str "-"))) (cF dn .(w))) [ae,ae]) ρ=aa (.lst ((br.map pI).map D.str)):=by rw[qo];refine Dq (n:=2) h hl rfl rfl fun p hp ρ hr=>?_;obtain⟨a,b,rfl⟩:=en2 hr;obtain⟨q1,q2,q3,q4⟩:=hb p hp;have a1:=iy q1 q2;have a2:=iy q3 q4;exact⟨[oS (.int p.1),oS (.int p.2)],rfl,rfl,jE (jE (j7 rfl q1 q2) rfl (by rw[pX];omega)) (j7 rfl q3 q4) (by rw[gj,pX];omega)⟩
theorem yI {s:aj} {ws:ac (aj×ag)} (hs:s.length=1) (h:fi ρ=aa (ws.map dW)) (hl:ws.length<=1000) (hb:∀w∈ws,w.1.length<=8/\0<=w.2/\w.2<=1000000):aF (bh fi g2 tT (b2 aB (b2 aB (vSh 0) (vC (.str s))) (cF dn .(w))) [ae,ae]) ρ=aa (.lst ((ws.map (pW s)).map D.str)):=by rw[qo];refine Dq (n:=2) h hl rfl rfl fun p hp ρ hr=>?_;obtain⟨a,b,rfl⟩:=en2 hr;obtain⟨q1,q3,q4⟩:=hb p hp;have a2:=iy q3 q4;exact⟨[oS (.str p.1),oS (.int p.2)],rfl,rfl,jE (jE rfl rfl (by rw[hs];omega)) (j7 rfl q3 q4) (by rw[gj,hs];omega)⟩
def wB (b:BenchT):ac aj:=([("bench":aj),b.nm]:ac aj)++b.br.map pI
def wS (s:StepT):ac aj:=([("step":aj),s.nm,s.kd]:ac aj)++s.ws.map (pW "/")
def wJ (j:JobT):ac aj:=([("job":aj),j.nm,tx j.ea,tx j.du,if j.od then ("in":aj) else ("of":aj)]:ac aj)++j.ms
def wK (k:StockT):ac aj:=([("stock":aj),k.nm,tx k.lo,tx k.hi]:ac aj)++k.tk.map (pW "-")++k.pt.map (pW "+")
def rB (b:BenchT):aj:=bV " " (wB b)
def rS (s:StepT):aj:=bV " " (wS s)
def rJ (j:JobT):aj:=bV " " (wJ j)
def rK (k:StockT):aj:=bV " " (wK k)
def rU (u:SetT):aj:=("setup ":aj)++u.b++" "++u.p++" "++u.q++" "++tx u.n
def rL (l:LinkT):aj:=("link ":aj)++l.a++" "++l.b++" "++tx l.g
theorem kS:("bench":aj).length=5/\("step":aj).length=4/\("job":aj).length=3/\("in":aj).length=2/\("of":aj).length=2/\("stock":aj).length=5/\("setup ":aj).length=6/\("link ":aj).length=5/\("setup":aj).length=5/\("horizon ":aj).length=8:=by decide +kernel
section
variable {bn:ac aj}
theorem GoodB.bd {b:BenchT} (g:GoodB h b) (hh:h<=1000000):∀p∈b.br,0<=p.1/\p.1<=1000000/\0<=p.2/\p.2<=1000000:=fun p hp=>by have:=g.iv p hp;omega
theorem GoodS.bd {s:StepT} (g:GoodS bn h s) (hb:∀y∈bn,bi y=al) (hh:h<=1000000):∀w∈s.ws,w.1.length<=8/\0<=w.2/\w.2<=1000000:=fun w hw=>by have:=g.ws w hw;exact⟨(fg (hb _ this.1)).2,by omega,by omega⟩
theorem GoodA.bd (g:GoodA sn am) (hb:∀y∈sn,bi y=al):∀w∈am,w.1.length<=8/\0<=w.2/\w.2<=1000000:=fun w hw=>by have:=g.ws w hw;exact⟨(fg (hb _ this.1)).2,by omega,by omega⟩
theorem Cc {b:BenchT} (g:GoodB h b) (hh:h<=1000000):(∀y∈wB b,y.length<=60)/\(wB b).length<=100:=by
 have gl:=g.len;have gn:=(fg g.nm).2;refine⟨fun y hy=>?_,by unfold wB;rw[qi,qe];simp only[qh,qk];omega⟩;unfold wB at hy;rcases cD.mp hy with z|z
 .have:y="bench"\/y=b.nm:=by simpa using z
  rcases this with rfl|rfl
  .rw[kS.1];omega
  .omega
 .obtain⟨p,hp,rfl⟩:=bQ.mp z;exact EG (g.bd hh p hp)
theorem Bi {s:StepT} (g:GoodS bn h s) (hb:∀y∈bn,bi y=al) (hh:h<=1000000):(∀y∈wS s,y.length<=60)/\(wS s).length<=100:=by
 have gl:=g.l4;have gn:=(fg g.nm).2;have gk:=(fg g.kd).2;refine⟨fun y hy=>?_,by unfold wS;rw[qi,qe];simp only[qh,qk];omega⟩;unfold wS at hy;rcases cD.mp hy with z|z
 .have:y="step"\/y=s.nm\/y=s.kd:=by simpa using z
  rcases this with rfl|rfl|rfl
  .rw[kS.2.1];omega
  .omega
  .omega
 .obtain⟨p,hp,rfl⟩:=bQ.mp z;exact tf EA (g.bd hb hh p hp)
theorem AJ {j:JobT} (g:GoodJ sn h j) (hb:∀y∈sn,bi y=al) (hl:sn.length<=40) (hh:h<=1000000):(∀y∈wJ j,y.length<=60)/\(wJ j).length<=100:=by
 have gl:=g.ln;have gn:=(fg g.nm).2;have g1:=iy g.ea.1 (sS g.ea.2 hh);have g2:=iy g.du.1 (sS g.du.2 hh);refine⟨fun y hy=>?_,by unfold wJ;rw[qi];simp only[qh,qk];omega⟩;unfold wJ at hy;rcases cD.mp hy with z|z
 .have:y="job"\/y=j.nm\/y=tx j.ea\/y=tx j.du\/y=if j.od then ("in":aj) else ("of":aj):=by simpa using z
  rcases this with rfl|rfl|rfl|rfl|rfl
  .rw[kS.2.2.1];omega
  .omega
  .omega
  .omega
  .split
   .rw[kS.2.2.2.1];omega
   .rw[kS.2.2.2.2.1];omega
 .have:=(fg (hb _ (g.ms y z))).2;omega
theorem Dn {k:StockT} (g:GoodK sn k) (hb:∀y∈sn,bi y=al) (hl:sn.length<=40):(∀y∈wK k,y.length<=60)/\(wK k).length<=100:=by
 have gl:=g.tk.ln;have gm:=g.pt.ln;have gn:=(fg g.nm).2;have g1:=iy g.lo.1 (sS g.lo.2 g.hi.2);have g2:=iy g.hi.1 g.hi.2;refine⟨fun y hy=>?_,by unfold wK;rw[qi,qi,qe,qe];simp only[qh,qk];omega⟩;unfold wK at hy;rcases cD.mp hy with z|z
 .rcases cD.mp z with z|z
  .have:y="stock"\/y=k.nm\/y=tx k.lo\/y=tx k.hi:=by simpa using z
   rcases this with rfl|rfl|rfl|rfl
   .rw[kS.2.2.2.2.2.1];omega
   .omega
   .omega
   .omega
  .obtain⟨p,hp,rfl⟩:=bQ.mp z;exact tf pX (g.tk.bd hb p hp)
 .obtain⟨p,hp,rfl⟩:=bQ.mp z;exact tf AN (g.pt.bd hb p hp)
theorem IC:(" ":aj).length<=10:=by rw[rA];omega
theorem lR (h:fr ρ=aa (ys.map D.str)) (hl:ys.length<=1000):aF (szF fr) ρ=aa (.lst (ys.map D.str)):=by unfold aF szF;rw[h,qa,qY (by rw[qe];exact szN hl .(c))];rfl
theorem rf (h:f ρ=aa (.lst (ys.map D.str))) (hw:(∀y∈ys,y.length<=60)/\ys.length<=100):mF fC (vC (.str " ")) (af f ao) ρ=aa (.str (bV " " ys)):=wf (B:=60) h hw.1 .(c) IC (by have:=hw.2;omega)
theorem J6 {E:FS} (h:fr ρ=aa (ys.map D.str)) (hl:ys.length<=1000):aw (cE i (szF fr)) E ρ=E (ρ.set i (aa (.own (ys.map D.str)))):=by
 have e:szF fr ρ=aa (ys.map D.str):=by unfold szF;rw[h,qa,qY (by rw[qe];exact szN hl .(c))]
 unfold aw cE;rw[e];rfl
end
def tG (bs:ac BenchT) (ss:ac StepT) (js:ac JobT) (us:ac SetT) (ls:ac LinkT) (ks:ac StockT) (h:ag):ac aj:=[("horizon ":aj)++tx h]++bs.map rB++ss.map rS++js.map rJ++us.map rU++ls.map rL++ks.map rK
theorem mQ (h:f ρ=aa (.lst l)):itF f ρ=aa l:=by unfold itF;rw[h];rfl
section
variable {bs:ac BenchT}
theorem Pz {f:aj} (i:ah) (h1:fo ρ=aa (jh bs ss js us ls ks h)) (h2:(n6 bs ss js us ls ks h)[i]?=aa (f,d)):si "Shop" f fo ρ=aa d:=by unfold si;rw[h1];show(if ("Shop":aj)="Shop" then (n6 bs ss js us ls ks h).lookup f else ae)=aa d;rw[qY rfl];exact uq (by rw[Bm];exact t9) h2
theorem O6 {F:FQ} {m:aj} (hm:m∉ly) (h1:fo ρ=aa (jh bs ss js us ls ks h)) (h2:fr ρ=aa ds) (h3:F (jh bs ss js us ls ks h::ds)=aa d):pZ "Shop" m F fo fr ρ=aa d:=by have hno:(n6 bs ss js us ls ks h).lookup m=ae:=so (by rw[Bm];exact hm);unfold pZ;rw[h1];show(if ("Shop":aj)="Shop"/\(n6 bs ss js us ls ks h).lookup m=ae then (fr ρ).bind fun ds=>F (jh bs ss js us ls ks h::ds) else ae)=_;rw[qY ⟨rfl,hno⟩,h2];exact h3
theorem M7:uI [jh bs ss js us ls ks h]=aa (.int h):=by unfold uI;exact bW [oS (jh bs ss js us ls ks h)] rfl (cg (Pz (bs:=bs) (ss:=ss) (js:=js) (us:=us) (ls:=ls) (ks:=ks) (h:=h) (fo:=vSh 0) 6 rfl rfl))
theorem En:("\n":aj).length<=10:=by decide +kernel
end
structure BenchAt (p:ah) (h:ag) (i:ah) (b:BenchT):Prop where
 nm:b.nm=nm p i
 len:b.br.length<=10
 good:GoodI h b.br
noncomputable def sX:ac ag:=[11,7,6,7,6,7,6,7,6,7,6,7,6,7,6,7,6,7,6,7,6]
def bnF:FE:=b2 aB (aF (szF (af (vC (.int 11)) ao))) (b2 cq (aF (szF (af (vC (.int 7)) (af (vC (.int 6)) ao)))) (vC (.int 10)))
theorem LY (ρ:aX):bnF ρ=aa (.lst (sX.map D.int)):=by kernel_rfl
def Ct:FS:=aw (cE 6 (szF ao)) (aw (aE 7 (cF dZ (af (vSh 0) (af (b2 aB .(F) (vSh 5)) (af bnF ao))))) (aw (aE 8 .(f)) (aw (ci (itR gU (af (b2 ixD (vSh 7) .(f)) ao)) (ay 9) uG) (fB 6 (cb 4 (bO (szF (af (cF fj (af (vSh 1) (af (vSh 5) ao))) (af (vSh 6) ao)))))))))
abbrev bE (ns:ac ag) (p n:ah) (h:ag) (bs:ac BenchT) (a b c d e f g:ar Slot):aX:=[oS (.scr ns),oS (.int p),oS (.int n),oS (.int h),aa (.own (bs.map cc)),a,b,c,d,e,f,g]
theorem MB {p k:ah} {bs:ac BenchT} {b c d e f g:ar Slot} (hp:p<62) (hk:k<8) (hl:bs.length<=8) :
  ∃t b' c' d' e' f' g',Ct (bE ns p n h bs (oS (.int (0+(k:ag)))) b c d e f g)=aa (.nx,bE ns p n h (bs++[t]) (oS (.int (0+(k:ag)))) b' c' d' e' f' g')/\BenchAt p h k t:=by
 have hk0:(0:ag)+(k:ag)=(k:ag):=by omega
 rw[hk0];obtain⟨ds,e1,hd,hb⟩:=iR ns (3+k) .(a) sX .(c) .(c);have hall:∀j:ah,j<21->∃d,ds[j]?=aa d/\0<=d:=fun j hj=>by obtain⟨s,hs⟩:∃s,sX[j]?=aa s:=⟨sX[j]'(by show j<21;exact hj),qD _⟩;obtain⟨d,q1,q2,_⟩:=hb j s hs;exact⟨d,q1,q2⟩
 obtain⟨d0,q0,p0,p0'⟩:=hb 0 11 rfl;obtain⟨ρ',h1,br,fz,a',b',c',h2,h3,h4⟩:=MK (S:=oS (.scr ns)) (M:=oS (.int n)) (p:=p) (k:=k) (n:=d0.toNat) (h:=h) (bs:=bs) (ds:=ds) (a:=e) (b:=f) (c:=g) .(a) hall;have hn:=(jS hp (k:=k) .(a)).1;refine⟨⟨nm p k,br⟩,_,_,_,_,_,_,iB.trans ((bJ (d:=.lst (ds.map D.int)) (aY (aC rfl (aC (d:=.int ((3+k:ah):ag)) (aD rfl rfl ?_) (aC (LY _) aS))) e1)).trans ((bJ (d:=.int 0) rfl).trans ((dH ((f8 (jG (aC (ku (n:=0) rfl q0) aS) (kW ⟨p0,by omega⟩))).trans (h1.trans (by rw[h2])))).trans ((iK rfl).trans (gu (xs:=bs) (x:=(⟨nm p k,br⟩:BenchT)) rfl (iJ (aY (aC rfl .(S)) hn) rfl) .(a)))))),rfl,by show br.length<=10;omega,h4⟩;show aa (D.int (3+(k:ag)))=_
 congr 2
theorem NB (ns:ac ag) (p n:ah) (h:ag) (hp:p<62) (hn:n<=8):∃bs:ac BenchT,rT [.scr ns,.int (p:ag),.int (n:ag),.int h]=aa .(ak)/\bs.length=n/\∀(i:ah) b,bs[i]?=aa b->BenchAt p h i b:=by
 obtain⟨ρ',h1,bs,a,b,c,d,e,f,g,h2,h3,h4⟩:=gC (gg:=ay 5) (body:=Ct) (xs:=(cz n).map fun i:ah=>D.int (0+(i:ag))) (ρ:=bE ns p n h [] ae ae ae ae ae ae ae)
  (fun i ρ=>∃bs a b c d e f g,ρ=bE ns p n h bs a b c d e f g/\bs.length=i/\∀(j:ah) b,bs[j]?=aa b->BenchAt p h j b) ⟨[],ae,ae,ae,ae,ae,ae,ae,rfl,rfl,fun j b hj=>(by simp at hj)⟩ (fun i x ρ hx hI=>by
   obtain⟨bs,a,b,c,d,e,f,g,rfl,hlen,hb⟩:=hI;rw[qj] at hx;obtain⟨j,hj,rfl⟩:=oMd hx;have hi:i<n:=by simpa using(db.mp hj).1
   have hji:i=j:=by rw[mj hi] at hj;exact qH hj
   subst hji;obtain⟨t,b',c',d',e',f',g',e1,e2⟩:=MB (ns:=ns) (p:=p) (n:=n) (k:=i) (h:=h) (bs:=bs) (b:=b) (c:=c) (d:=d) (e:=e) (f:=f) (g:=g) hp .(a) .(a);refine⟨_,_,rfl,e1,bs++[t],_,_,_,_,_,_,_,rfl,by rw[qi,hlen];rfl,fun j b'' hj=>?_⟩;by_cases hji:j<bs.length
   .rw[qz hji] at hj;exact hb j b'' hj
   .have hl2:=(db.mp hj).1;rw[qi,qW] at hl2;rw[qK .(a),show j-bs.length=0 by omega] at hj;cases hj;rw[show j=i by omega];exact e2)
 rw[qe,qU] at h3;refine⟨bs,?_,h3,h4⟩;have hz:=kW (j:=(n:ag)) .(a);rw[iW] at hz;unfold rT;exact bW (ρ':=(bE ns p n h bs a b c d e f g).set 4 (oS .(ak))) [oS (.scr ns),oS (.int p),oS (.int n),oS (.int h),ae,ae,ae,ae,ae,ae,ae,ae] rfl (iB.trans ((dH ((f8 (jG .(S) hz)).trans (h1.trans (by rw[h2])))).trans ((iK rfl).trans (cg (f:=vSh 4) rfl))))
theorem Qo {d L:ah} (hi:i<L) (hj:j<L) (h:(d+i)%L=(d+j)%L):i=j:=by
 rcases Nat.le_total i j with z|z
 .have:=UD h.symm;rw[show d+j-(d+i)=j-i by omega,UE .(a)] at this;omega
 .have:=UD h;rw[show d+i-(d+j)=i-j by omega,UE .(a)] at this;omega
abbrev uE (S M:ar Slot) (p:ah) (bs:ac BenchT) (h:ag) (ss:ac StepT) (k:ah) (ds:ac ag) (mo:ag) (ws:ac (aj×ag)) (a b:ar Slot):aX:=[S,oS (.int p),M,oS .(ak),oS (.int h),aa (.own (ss.map bD)),oS (.int k),oS (.lst (ds.map D.int)),oS (.int mo),aa (.own (ws.map dW)),a,b]
def wE:FS:=aw (aE 11 (b2 ixD (b2 ixD (vSh 3) (b2 bu (b2 aB (b2 ixD (vSh 7) .(e)) (vSh 10)) (cF bw (af (vSh 3) ao)))) .(f))) (cb 9 (bO (szF (af (vSh 11) (af (b2 aB .(e) (b2 bu (b2 ixD (vSh 7) (b2 aB .(P) (vSh 10))) (vSh 8))) ao)))))
theorem MT {M:ar Slot} {p k d1:ah} {mo:ag} {bs:ac BenchT} {ds:ac ag} {a b:ar Slot} (hbs:∀(i:ah) b,bs[i]?=aa b->b.nm=nm p i) (hL:1<=bs.length) (hn:n<=4) (hnL:n<=bs.length) (hmo:1<=mo/\mo<=h) (hd1:ds[1]?=aa (d1:ag)) (hd:∀j:ah,j<8->∃d,ds[j]?=aa d) :
  ∃ρ',dj (ay 10) wE ((cz n).map fun i:ah=>D.int (0+(i:ag))) (uE S M p bs h ss k ds mo [] a b)=aa (.nx,ρ')/\∃ws a b,ρ'=uE S M p bs h ss k ds mo ws a b/\ws.length=n/\∀(j:ah) w,ws[j]?=aa w->w.1=nm p ((d1+j)%bs.length)/\1<=w.2/\w.2<=h:=by
 obtain⟨ρ',h1,ws,a',b',h2,h3,h4⟩:=gC (gg:=ay 10) (body:=wE) (xs:=(cz n).map fun i:ah=>D.int (0+(i:ag))) (ρ:=uE S M p bs h ss k ds mo [] a b)
  (fun i ρ=>∃ws a b,ρ=uE S M p bs h ss k ds mo ws a b/\ws.length=i/\∀(j:ah) w,ws[j]?=aa w->w.1=nm p ((d1+j)%bs.length)/\1<=w.2/\w.2<=h) ⟨[],a,b,rfl,rfl,fun j w hj=>(by simp at hj)⟩ (fun i x ρ hx hI=>by
   obtain⟨ws,a,b,rfl,hlen,hw⟩:=hI;rw[qj] at hx;obtain⟨j,hj,rfl⟩:=oMd hx;have hi:i<n:=by simpa using(db.mp hj).1
   have hji:i=j:=by rw[mj hi] at hj;exact qH hj
   subst hji;obtain⟨d4,q4⟩:=hd (4+i) .(a);have hm:(d1+i)%bs.length<bs.length:=kq _ .(a);have hb:=hbs _ _ (qD hm);have e1:b2 ixD (b2 ixD (vSh 3) (b2 bu (b2 aB (b2 ixD (vSh 7) .(e)) (vSh 10)) (cF bw (af (vSh 3) ao)))) .(f) (uE S M p bs h ss k ds mo ws (oS (.int (0+(i:ag)))) b)=aa (.str (nm p ((d1+i)%bs.length))):=by
    refine aD (x:=cc bs[(d1+i)%bs.length]) (aD (y:=.int (((d1+i)%bs.length:ah):ag)) rfl (aD (y:=.int ((bs.length:ah):ag)) (aD (ku (n:=1) rfl hd1) rfl rfl) (aY .(S) ?_) ?_) ?_) rfl ?_
    .show aa (D.int (((bs.map cc).length:ah):ag))=_;rw[qe]
    .rw[dw .(a)];show aa (D.int (((d1:ag)+(0+(i:ag)))%(bs.length:ag)))=_;rw[show(d1:ag)+(0+(i:ag))=((d1+i:ah):ag) by omega];rfl
    .rw[ixL,qj,qD hm];rfl
    .rw[←hb];rfl
   have q5:0<=d4%mo:=qX _ .(a);have q6:d4%mo<mo:=qV _ .(a);refine⟨_,_,rfl,(bJ e1).trans (gu (xs:=ws) (x:=(nm p ((d1+i)%bs.length),1+d4%mo)) rfl (iJ rfl (aD rfl (aD (wU (n:=4+i) rfl (aD rfl rfl rfl) .(a) q4) rfl (dw .(a))) rfl)) .(a)),ws++[(nm p ((d1+i)%bs.length),1+d4%mo)],_,_,rfl,by rw[qi,hlen];rfl,fun j w hj=>?_⟩;by_cases hji:j<ws.length
   .rw[qz hji] at hj;exact hw j w hj
   .have hl2:=(db.mp hj).1;rw[qi,qW] at hl2;rw[qK .(a),show j-ws.length=0 by omega] at hj;cases hj;rw[show j=i by omega];exact⟨rfl,by show 1<=1+d4%mo;omega,by show 1+d4%mo<=h;omega⟩)
 rw[qe,qU] at h3;exact⟨ρ',h1,ws,a',b',h2,h3,h4⟩
theorem wF {l:ac α} {f:α->aj} {g:ah->aj} (hn:l.length<=n) (hg:∀i,i<n->∀j,j<n->g i=g j->i=j) (h:∀(j:ah) k,l[j]?=aa k->f k=g j):(l.map f).Nodup:=by rw[GZ,GS];intro i j hi hj hij e;rw[qe] at hi hj;rw[UF,UF,h i _ (qD hi),h j _ (qD hj)] at e;have:=hg i .(a) j .(a) e;omega
structure StepAt (p:ah) (bn:ac aj) (h:ag) (i:ah) (s:StepT):Prop where
 nm:s.nm=nm p (20*(p%2)+i)
 good:GoodS bn h s
noncomputable def sZ:ac ag:=[4,8,5,3,1000000,1000000,1000000,1000000]
def stF:FE:=b2 aB (aF (szF (af .(P) (af (vC (.int 8)) (af (vC (.int 5)) (af .(F) ao)))))) (b2 cq (aF (szF (af .(b) ao))) .(P))
theorem MF (ρ:aX):stF ρ=aa (.lst (sZ.map D.int)):=by kernel_rfl
def moF:FE:=aF (szF (af (vC (.int 5)) (af (vC (.int 40)) (af .(b) ao))))
theorem Mr (ρ:aX):moF ρ=aa (.lst (([5,40,1000000]:ac ag).map D.int)):=by kernel_rfl
def Ed:FS:=aw (aE 7 (cF dZ (af (vSh 0) (af (b2 aB (vC (.int 11)) (vSh 6)) (af stF ao))))) (aw (aE 8 (cF eA (af (vSh 4) (af (b2 ixD moF (b2 ixD (vSh 7) .(F))) ao)))) (aw (cE 9 (szF ao)) (aw (ci (itR gU (af (cF eA (af (b2 aB .(e) (b2 ixD (vSh 7) .(f))) (af (cF bw (af (vSh 3) ao)) ao))) ao)) (ay 10) wE) Xc)))
abbrev tE (ns:ac ag) (p n:ah) (bs:ac BenchT) (h:ag) (ss:ac StepT) (a b c d e f:ar Slot):aX:=[oS (.scr ns),oS (.int p),oS (.int n),oS .(ak),oS (.int h),aa (.own (ss.map bD)),a,b,c,d,e,f]
theorem wb {l:ac ag} {d:ag} (h:l[i]?=aa d) (h0:0<=d):l[i]?=aa ((d.toNat:ah):ag):=by rw[h];congr 1;omega
theorem Rz {p k:ah} {bs:ac BenchT} {b c d e f:ar Slot} (hp:p<60) (hk:k<40) (hl:ss.length<=40) (hh:1<=h) (hb:1<=bs.length/\bs.length<=8) (hbs:∀(i:ah) b,bs[i]?=aa b->b.nm=nm p i) :
  ∃t b' c' d' e' f',Ed (tE ns p n bs h ss (oS (.int (0+(k:ag)))) b c d e f)=aa (.nx,tE ns p n bs h (ss++[t]) (oS (.int (0+(k:ag)))) b' c' d' e' f')/\StepAt p (bs.map (·.nm)) h k t:=by
 have hk0:(0:ag)+(k:ag)=(k:ag):=by omega
 rw[hk0];obtain⟨ds,e1,hd,hq⟩:=iR ns (11+k) .(a) sZ .(c) .(c);have hall:∀j:ah,j<8->∃d,ds[j]?=aa d:=fun j hj=>by obtain⟨s,hs⟩:∃s,sZ[j]?=aa s:=⟨sZ[j]'(by show j<8;exact hj),qD _⟩;obtain⟨d,q1,_⟩:=hq j s hs;exact⟨d,q1⟩
 obtain⟨d0,q0,p0,p0'⟩:=hq 0 4 rfl;obtain⟨d1,q1,p1,p1'⟩:=hq 1 8 rfl;obtain⟨d2,q2,p2,p2'⟩:=hq 2 5 rfl;obtain⟨d3,q3,p3,p3'⟩:=hq 3 3 rfl;obtain⟨mx,hmx,m1⟩:∃mx:ag,ixD (.lst (([5,40,1000000]:ac ag).map D.int)) (.int d3)=aa (.int mx)/\1<=mx:=by
  have:d3=0\/d3=1\/d3=2:=by omega
  rcases this with rfl|rfl|rfl
  .exact⟨5,rfl,by decide⟩
  .exact⟨40,rfl,by decide⟩
  .exact⟨1000000,rfl,by decide⟩
 obtain⟨mo,hmo,mo1,mo2⟩:∃mo:ag,eA [.int h,.int mx]=aa (.int mo)/\1<=mo/\mo<=h:=⟨if mx<h then mx else h,rfl,by split<;>omega,by split<;>omega⟩;obtain⟨m,hm,hm1,hm4,hmL⟩:∃m:ah,eA [.int (1+d0),.int ((bs.length:ah):ag)]=aa (.int (m:ag))/\1<=m/\m<=4/\m<=bs.length:=by
  refine⟨(if (bs.length:ag)<1+d0 then (bs.length:ag) else 1+d0).toNat,?_,?_,?_,?_⟩
  .show aa (D.int (if (bs.length:ag)<1+d0 then (bs.length:ag) else 1+d0))=_
   congr 2
   split<;>omega
  all_goals split<;>omega
 obtain⟨ρ',h1,ws,a',b',h2,h3,h4⟩:=MT (S:=oS (.scr ns)) (M:=oS (.int n)) (p:=p) (k:=k) (n:=m) (d1:=d1.toNat) (h:=h) (mo:=mo) (bs:=bs) (ss:=ss) (ds:=ds) (a:=e) (b:=f) hbs hb.1 hm4 hmL ⟨mo1,mo2⟩ (wb q1 p1) hall;have n1:=jS (p:=p) (k:=20*(p%2)+k) .(a) .(a);have n2:=jS (p:=p / 2) (k:=d2.toNat) .(a) .(a);have hz:=kW (j:=(m:ag)) .(a);rw[iW] at hz;have mem:∀j,j<bs.length->nm p j∈bs.map (·.nm):=fun j hj=>by rw[←hbs j _ (qD hj)];exact vZ (vD hj)
 refine⟨⟨nm p (20*(p%2)+k),nm (p / 2) d2.toNat,ws⟩,_,_,_,_,_,(bJ (d:=.lst (ds.map D.int)) (aY (aC rfl (aC (d:=.int ((11+k:ah):ag)) (aD rfl rfl ?_) (aC (MF _) aS))) e1)).trans ((bJ (d:=.int mo) (aY (aC rfl (aC (aD (Mr _) (ku (n:=3) rfl q3) hmx) aS)) hmo)).trans (iB.trans ((dH ((f8 (jG (aC (aY (aC (aD rfl (ku (n:=0) rfl q0) rfl) (aC (aY .(S) ?_) aS)) hm) aS) hz)).trans (h1.trans (by rw[h2])))).trans ((iK rfl).trans (gu (xs:=ss) (x:=(⟨nm p (20*(p%2)+k),nm (p / 2) d2.toNat,ws⟩:StepT)) rfl (oi (aY (aC rfl (aC (d:=.int ((20*(p%2)+k:ah):ag)) (aD (aD (x:=.int 20) rfl (aD (x:=.int (p:ag)) (y:=.int 2) rfl rfl (dw .(c))) (ig (.inl .(c)))) rfl ?_) aS)) n1.1) (aY (aC (d:=.int ((p / 2:ah):ag)) (aD (x:=.int (p:ag)) (y:=.int 2) rfl rfl (rM .(c))) (aC (d:=.int ((d2.toNat:ah):ag)) (ku (n:=2) rfl (wb q2 p2)) aS)) n2.1) rfl) .(a)))))),rfl,n1.2.1,n2.2.1,by show 1<=ws.length;omega,by show ws.length<=4;omega,fun w hw=>?_,?_⟩
 .show aa (D.int (11+(k:ag)))=_
  congr 2
 .show aa (D.int (((bs.map cc).length:ah):ag))=_;rw[qe]
 .show aa (D.int (20*((p:ag)%2)+(k:ag)))=_
  congr 2
 .obtain⟨j,hj⟩:=v5 hw;obtain⟨w1,w2,w3⟩:=h4 j w hj;exact⟨by rw[w1];exact mem _ (kq _ .(a)),w2,w3⟩
 .exact wF (n:=bs.length) (g:=fun j=>nm p ((d1.toNat+j)%bs.length)) (by show ws.length<=_;omega) (fun i hi j hj z=>Qo hi hj (rj .(a) (qF (kq _ .(a)) .(a)) (qF (kq _ .(a)) .(a)) z)) (fun j w hj=>(h4 j w hj).1)
theorem KC (ns:ac ag) (p n:ah) (bs:ac BenchT) (h:ag) (hp:p<60) (hn:n<=40) (hh:1<=h) (hb:1<=bs.length/\bs.length<=8) (hbs:∀(i:ah) b,bs[i]?=aa b->b.nm=nm p i) :
  ∃ss:ac StepT,tZ [.scr ns,.int (p:ag),.int (n:ag),.lst (bs.map cc),.int h]=aa .(K)/\ss.length=n/\∀(i:ah) s,ss[i]?=aa s->StepAt p (bs.map (·.nm)) h i s:=by
 obtain⟨ρ',h1,ss,a,b,c,d,e,f,h2,h3,h4⟩:=gC (gg:=ay 6) (body:=Ed) (xs:=(cz n).map fun i:ah=>D.int (0+(i:ag))) (ρ:=tE ns p n bs h [] ae ae ae ae ae ae)
  (fun i ρ=>∃ss a b c d e f,ρ=tE ns p n bs h ss a b c d e f/\ss.length=i/\∀(j:ah) s,ss[j]?=aa s->StepAt p (bs.map (·.nm)) h j s) ⟨[],ae,ae,ae,ae,ae,ae,rfl,rfl,fun j b hj=>(by simp at hj)⟩ (fun i x ρ hx hI=>by
   obtain⟨ss,a,b,c,d,e,f,rfl,hlen,hs⟩:=hI;rw[qj] at hx;obtain⟨j,hj,rfl⟩:=oMd hx;have hi:i<n:=by simpa using(db.mp hj).1
   have hji:i=j:=by rw[mj hi] at hj;exact qH hj
   subst hji;obtain⟨t,b',c',d',e',f',e1,e2⟩:=Rz (ns:=ns) (p:=p) (n:=n) (k:=i) (bs:=bs) (h:=h) (ss:=ss) (b:=b) (c:=c) (d:=d) (e:=e) (f:=f) hp .(a) .(a) hh hb hbs;refine⟨_,_,rfl,e1,ss++[t],_,_,_,_,_,_,rfl,by rw[qi,hlen];rfl,fun j b'' hj=>?_⟩;by_cases hji:j<ss.length
   .rw[qz hji] at hj;exact hs j b'' hj
   .have hl2:=(db.mp hj).1;rw[qi,qW] at hl2;rw[qK .(a),show j-ss.length=0 by omega] at hj;cases hj;rw[show j=i by omega];exact e2)
 rw[qe,qU] at h3;refine⟨ss,?_,h3,h4⟩;have hz:=kW (j:=(n:ag)) .(a);rw[iW] at hz;unfold tZ;exact bW (ρ':=(tE ns p n bs h ss a b c d e f).set 5 (oS .(K))) [oS (.scr ns),oS (.int p),oS (.int n),oS .(ak),oS (.int h),ae,ae,ae,ae,ae,ae,ae] rfl (iB.trans ((dH ((f8 (jG .(S) hz)).trans (h1.trans (by rw[h2])))).trans ((iK rfl).trans (cg (f:=vSh 5) rfl))))
theorem Ea {α:Type} {x:α}:∀{gs:ac (ac α)} {j:ah} {g:ac α},gs[j]?=aa g->(gs.set j (g++[x])).flatten.Perm (x::gs.flatten)
 |[],_,_,h=>by simp at h
 |g'::gs,0,g,h=>by
  cases h;show((g'++[x])++gs.flatten).Perm (x::(g'++gs.flatten));rw[qw];exact UG
 |g'::gs,j+1,g,h=>by have h':gs[j]?=aa g:=h;show(g'++(gs.set j (g++[x])).flatten).Perm (x::(g'++gs.flatten));exact((Ea h').append_left g').trans UG
theorem xX (h1:ρ[i]?=aa (aa (.oll dss))) (h2:fk ρ=aa (.int (j:ag))) (h3:f ρ=aa d) (h4:dss[j]?=aa ds) (h5:ds.length<aL):iN i fk f ρ=aa (.nx,ρ.set i (aa (.oll (dss.set j (ds++[d]))))):=by
 have hj:=(db.mp h4).1;unfold iN;rw[h1];simp only[h2,h3,qa];have e:lS dss.length (.int (j:ag))=aa (j,(j:ag)):=by
  have e2:ixN dss.length (j:ag)=aa j:=by unfold ixN;rw[qY .(a),qY .(a)];rfl
  show(ixN dss.length (j:ag)).map _=_;rw[e2];rfl
 rw[e,qa];simp only[h4];rw[qY h5]
noncomputable def Cz:ac ag:=[4,8,5,3,1000000,1000000,1000000,1000000,10]
def jbF:FE:=aF (szF (af .(P) (af (vC (.int 8)) (af (vC (.int 5)) (af .(F) (af .(b) (af .(b) (af .(b) (af .(b) (af (vC (.int 10)) ao))))))))))
theorem Oa (ρ:aX):jbF ρ=aa (.lst (Cz.map D.int)):=by kernel_rfl
def BI:FS:=aw (aE 11 (b2 ixD (cF dZ (af (vSh 0) (af (b2 aB (vC (.int 11)) (vSh 9)) (af jbF ao)))) (vC (.int 8)))) (sIf (toB (b2 ltD (vSh 11) (vSh 4))) (iN 8 (vSh 11) (b2 ixD (vSh 10) .(f))) aQ)
abbrev gE (ns:ac ag) (P:ar Slot) (ss:ac StepT) (H:ar Slot) (m:ah) (a b c:ar Slot) (gs:ac (ac aj)) (d e f g h i:ar Slot):aX:=[oS (.scr ns),P,oS .(K),H,oS (.int m),a,b,c,aa (.oll (gs.map fun l=>l.map D.str)),d,e,f,g,h,i]
structure GpInv (sn:ac aj) (m i:ah) (gs:ac (ac aj)):Prop where
 len:gs.length=m
 nd:gs.flatten.Nodup
 sub:∀x∈gs.flatten,x∈sn.take i
 sz:gs.flatten.length<=i
theorem GpInv.put {g:ac aj} (v:GpInv sn m i gs) (nd:sn.Nodup) (hx:sn[i]?=aa x) (hg:gs[j]?=aa g):GpInv sn m (i+1) (gs.set j (g++[x])):=by
 have pr:=Ea (x:=x) hg;have hi:=(db.mp hx).1;have ht:sn.take (i+1)=sn.take i++[x]:=by rw[pi,hx];rfl
 have nd2:(sn.take (i+1)).Nodup:=nd.sublist (oZ _ _);rw[ht] at nd2;have hnx:x∉sn.take i:=fun z=>(lj.mp nd2).2.2 x z x (b8.mpr rfl) rfl;refine⟨by rw[Gw];exact v.len,pr.nodup_iff.mpr (eJ.mpr ⟨fun z=>hnx (v.sub x z),v.nd⟩),fun y hy=>?_,?_⟩
 .rw[ht];rcases cy.mp (pr.mem_iff.mp hy) with rfl|z
  .exact qQ _ (b8.mpr rfl)
  .exact zw _ (v.sub y z)
 .rw[pr.length_eq,qh];have:=v.sz;omega
theorem GpInv.next (v:GpInv sn m i gs):GpInv sn m (i+1) gs:=⟨v.len,v.nd,fun y hy=>im (i:=i) (by rw[Az,kr .(a)];exact v.sub y hy),v8 v.sz⟩
theorem yd {s:StepT} (h:ss[i]?=aa s):(ss.map (·.nm))[i]?=aa s.nm:=by rw[qj,h];rfl
theorem BG {g:ac aj} (h:gs[j]?=aa g):g.length<=gs.flatten.length:=by
 have:g∈gs:=qP h
 induction gs generalizing j with
 |nil=>cases this
 |cons a r ih=>
  rw[nI,qi];rcases cy.mp this with rfl|z
  .omega
  .obtain⟨k,hk⟩:=v5 z;have:=ih hk z;omega
theorem O0 {P H:ar Slot} {a b c d e f g h i:ar Slot} (hl:ss.length<=40) (hm:m<=9) (nd:(ss.map (·.nm)).Nodup) :
  ∃ρ',dj (cs 2 (aM (ay 9) (aM (ay 10) bZ))) BI ((ss.map bD).mapIdx fun i d=>D.tup [.int i,d]) (gE ns P ss H m a b c (bS m []) d e f g h i)=aa (.nx,ρ')/\∃gs d e f,ρ'=gE ns P ss H m a b c gs d e f g h i/\GpInv (ss.map (·.nm)) m ss.length gs:=by
 obtain⟨ρ',h1,gs,d',e',f',h2,h3⟩:=gC (gg:=cs 2 (aM (ay 9) (aM (ay 10) bZ))) (body:=BI) (xs:=(ss.map bD).mapIdx fun i d=>D.tup [.int i,d]) (ρ:=gE ns P ss H m a b c (bS m []) d e f g h i)
  (fun t ρ=>∃gs d e f,ρ=gE ns P ss H m a b c gs d e f g h i/\GpInv (ss.map (·.nm)) m t gs) ⟨bS m [],d,e,f,rfl,by simp,by simp,by simp,by simp⟩ (fun t x ρ hx hI=>by
   obtain⟨gs,d,e,f,rfl,v⟩:=hI;obtain⟨y,hy,rfl⟩:=ua hx;rw[qj] at hy;obtain⟨s,hs,rfl⟩:=oMd hy;have ht:t<ss.length:=(db.mp hs).1;obtain⟨ds,e1,hd,hq⟩:=iR ns (11+t) .(a) Cz .(c) .(c);obtain⟨d8,q8,p8,p8'⟩:=hq 8 10 rfl;have hset:∀G:FS,aw (aE 11 (b2 ixD (cF dZ (af (vSh 0) (af (b2 aB (vC (.int 11)) (vSh 9)) (af jbF ao)))) (vC (.int 8)))) G (gE ns P ss H m a b c gs (oS (.int t)) (oS (bD s)) f g h i)=G (gE ns P ss H m a b c gs (oS (.int t)) (oS (bD s)) (oS (.int ((d8.toNat:ah):ag))) g h i):=fun G=>by
    refine bJ (ku (n:=8) (aY (aC rfl (aC (d:=.int ((11+t:ah):ag)) (aD rfl rfl ?_) (aC (Oa _) aS))) e1) (wb q8 p8));show aa (D.int (11+(t:ag)))=_
    congr 2
   have hte:toB (b2 ltD (vSh 11) (vSh 4)) (gE ns P ss H m a b c gs (oS (.int t)) (oS (bD s)) (oS (.int ((d8.toNat:ah):ag))) g h i)=aa (decide (((d8.toNat:ah):ag)<(m:ag))):=bU (aD rfl rfl rfl);by_cases hlt:((d8.toNat:ah):ag)<(m:ag)
   .rw[qS hlt] at hte;have hjl:d8.toNat<gs.length:=by rw[v.len];omega
    have hg:=qD hjl;have hgl:=BG hg;have hvz:=v.sz;refine⟨_,_,rfl,(hset _).trans ((iu hte).trans ((qY rfl).trans (xX (i:=8) (j:=d8.toNat) (dss:=gs.map fun l=>l.map D.str) (ds:=(gs[d8.toNat]).map D.str) (d:=.str s.nm) rfl rfl rfl (by rw[qj,hg];rfl) (by rw[qe];unfold aL;omega)))),gs.set d8.toNat (gs[d8.toNat]++[s.nm]),oS (.int t),oS (bD s),oS (.int ((d8.toNat:ah):ag)),?_,v.put nd (yd hs) hg⟩;have e9:((gs.map fun l=>l.map D.str).set d8.toNat (gs[d8.toNat].map D.str++[D.str s.nm]))=(gs.set d8.toNat (gs[d8.toNat]++[s.nm])).map fun l=>l.map D.str:=by rw[show gs[d8.toNat].map D.str++[D.str s.nm]=(gs[d8.toNat]++[s.nm]).map D.str by rw[dS];rfl,←UH]
    rw[e9];rfl
   .rw[qN hlt] at hte;exact⟨_,_,rfl,(hset _).trans ((iu hte).trans rfl),gs,_,_,_,rfl,v.next⟩)
 rw[vF,qe] at h3;exact⟨ρ',h1,gs,d',e',f',h2,h3⟩
theorem yf:∀(ns:ac aj),jv (ns.map g8)=0
 |[]=>by simp[jv]
 |x::r=>by simp[jv,jz,yf r]
theorem Qx {ns:ac aj} (h:∀x∈ns,bi x=al):fy (.list (ns.map g8))=al:=by simp[fy,iH,pM h,jz,yf]
theorem M' {ns:ac aj} (h:∀x∈ns,bi x=al):neA (.lst (ns.map D.str)) (.lst [])=aa (.bl (!ns.isEmpty)):=by
 have e0:neA (.lst (ns.map D.str)) (.lst [])=rW (.lst (ns.map D.str)) (.lst []):=rfl;have s1:=Qx h;have p1:pdD (.lst (ns.map D.str))=aa (.list (ns.map g8)):=by simp[pdD,u6]
 have p2:pdD (.lst [])=aa (.list []):=by simp[pdD,fH]
 have q:fM (.list (ns.map g8)) (.list [])=ns.isEmpty:=by cases ns<;>simp[fM,mq]
 rw[e0];unfold rW eqX;rw[p1,p2,qa,qa,qY ⟨s1,EF⟩,q];rfl
def B5:aX->ar (Fl×aX):=aw Xg (aw (aE 5 (b2 bu (b2 cq (vSh 5) (vC (.int 7))) (b2 aB (vSh 3) .(e)))) (aw Xf Xa))
abbrev hE (S:ar Slot) (p:ah) (T:ar Slot) (h:ag) (M:ar Slot) (ea du od:ag) (gs:ac (ac aj)) (k b c:ar Slot) (js:ac JobT) (g o:ar Slot):aX:=[S,oS (.int p),T,oS (.int h),M,oS (.int ea),oS (.int du),oS (.int od),aa (.sh (.lst (gs.map fun l=>.lst (l.map D.str)))),k,b,c,aa (.own (js.map bN)),g,o]
theorem HP {T M b c o:ar Slot} {p t:ah} {od:ag} {g:ac aj} (hh:1<=h/\h<=1000000) :
  ∃(ea' du':ag) (or':ba) (g':ac aj),B5 (hE S p T h M ea du od gs (oS (.int (t:ag))) b c js (oS (.lst (g.map D.str))) o)=aa (.nx,hE S p T h M ea' du' od gs (oS (.int (t:ag))) b c js (oS (.lst (g'.map D.str))) (oS (.bl or')))/\0<=ea'/\ea'<=h/\0<=du'/\du'<=h/\g'.Perm g:=by
 have e1:∀(x:D) (o:ar Slot),toB (b2 eqD (b2 bu (b2 fZ (vSh 7) (vC (.int 7))) .(q)) .(f)) (hE S p T h M ea du od gs (oS (.int (t:ag))) b c js (oS x) o)=aa (decide (od / 7%2=0)):=fun x o=>bU (aD (aD (aD (x:=.int od) (y:=.int 7) rfl rfl (rM .(c))) rfl (dw .(c))) rfl rfl);have p1:0<=ea*7%(h+1):=qX _ .(a);have p2:ea*7%(h+1)<h+1:=qV _ .(a);have p3:0<=du*11%(h+1):=qX _ .(a);have p4:du*11%(h+1)<h+1:=qV _ .(a);obtain⟨mi,hmi,mi0⟩:∃mi:ag,eA [.int (t:ag),.int 8]=aa (.int mi)/\0<=mi:=⟨if (8:ag)<(t:ag) then 8 else (t:ag),rfl,by split<;>omega⟩;have fin:∀g':ac aj,aw (aE 5 (b2 bu (b2 cq (vSh 5) (vC (.int 7))) (b2 aB (vSh 3) .(e)))) (aw Xf Xa) (hE S p T h M ea du od gs (oS (.int (t:ag))) b c js (oS (.lst (g'.map D.str))) o)=aa (.nx,hE S p T h M (ea*7%(h+1)) (du*11%(h+1)) od gs (oS (.int (t:ag))) b c js (oS (.lst (g'.map D.str))) (oS (.bl (decide (od / 2 ^ mi.toNat%2=0))))):=fun g'=>
  (bJ (d:=.int (ea*7%(h+1))) (aD (aD (x:=.int ea) (y:=.int 7) rfl rfl (ig (.inr .(c)))) (aD (x:=.int h) (y:=.int 1) rfl rfl rfl) (dw .(a)))).trans ((bJ (d:=.int (du*11%(h+1))) (aD (aD (x:=.int du) (y:=.int 11) rfl rfl (ig (.inr .(c)))) (aD (x:=.int h) (y:=.int 1) rfl rfl rfl) (dw .(a)))).trans (jC (aD (aD (aD (x:=.int od) (y:=.int mi) rfl (aY (aC rfl .(S)) hmi) (qY mi0)) rfl (dw .(c))) rfl rfl)))
 unfold B5;by_cases ho:od / 7%2=0
 .refine⟨_,_,_,g.reverse,(uV ((e1 _ _).trans (by rw[qS ho])) (d:=.lst (g.reverse.map D.str)) ?_).trans (fin g.reverse),p1,by omega,p3,by omega,UI g⟩;rw[HC];rfl
 .exact⟨_,_,_,g,(cU ((e1 _ _).trans (by rw[qN ho]))).trans (fin g),p1,by omega,p3,by omega,.refl _⟩
theorem wA {A B E:FS} :aw A (aw B E)=aw (aw A B) E:=by
 funext ρ
 unfold aw;cases A ρ with
 |none=>rfl
 |some r=>
  obtain⟨fl,ρ1⟩:=r;cases fl<;>rfl
theorem MP {A B C E' E:FS} (h:aw A (aw B (aw C E')) ρ=aa (.nx,ρ1)):aw A (aw B (aw C (aw E' E))) ρ=E ρ1:=by rw[wA (A:=C),wA (A:=B),wA (A:=A)];exact dH h
def jnF (F:FQ):FE:=bO (szF (af (cF F (af (b2 aB (vSh 1) .(e)) (af (vSh 9) ao))) (af (vSh 5) (af (vSh 6) (af (vSh 14) (af (vSh 13) ao))))))
def E9:FS:=sIf (toB (b2 neA (vSh 13) (aF (szF ao)))) (aw Xg (aw (aE 5 (b2 bu (b2 cq (vSh 5) (vC (.int 7))) (b2 aB (vSh 3) .(e)))) (aw Xf (aw Xa (cb 12 (jnF fj)))))) aQ
structure RInv (sn:ac aj) (p:ah) (h:ag) (gs:ac (ac aj)) (t:ah) (js:ac JobT):Prop where
 len:js.length<=t
 good:∀j∈js,GoodJ sn h j
 nms:∀j∈js,∃k,k<t/\j.nm=nm (p+1) k
 nd:(js.map (·.nm)).Nodup
 ms:(js.flatMap (·.ms)).Perm (gs.take t).flatten
theorem LD {T M:ar Slot} {p:ah} {od:ag} {a b c g o:ar Slot} (hh:1<=h/\h<=1000000) (hp:p<60) (hm:gs.length<=9) (hsn:∀x∈sn,bi x=al) (hsub:∀x∈gs.flatten,x∈sn) (hsz:gs.flatten.length<=sn.length) :
  ∃ρ',dj (cs 2 (aM (ay 9) (aM (ay 13) bZ))) E9 ((gs.map fun l=>D.lst (l.map D.str)).mapIdx fun i d=>D.tup [.int i,d]) (hE S p T h M ea du od gs a b c [] g o)=aa (.nx,ρ')/\∃ea du js a g o,ρ'=hE S p T h M ea du od gs a b c js g o/\RInv sn p h gs gs.length js:=by
 obtain⟨ρ',h1,ea',du',js,a',g',o',h2,h3⟩:=gC (gg:=cs 2 (aM (ay 9) (aM (ay 13) bZ))) (body:=E9) (xs:=(gs.map fun l=>D.lst (l.map D.str)).mapIdx fun i d=>D.tup [.int i,d]) (ρ:=hE S p T h M ea du od gs a b c [] g o)
  (fun t ρ=>∃ea du js a g o,ρ=hE S p T h M ea du od gs a b c js g o/\RInv sn p h gs t js) ⟨ea,du,[],a,g,o,rfl,qv _,fun j hj=>(by cases hj),fun j hj=>(by cases hj),lh,.refl _⟩ (fun t x ρ hx hI=>by
   obtain⟨ea,du,js,a,g,o,rfl,v⟩:=hI;obtain⟨y,hy,rfl⟩:=ua hx;rw[qj] at hy;obtain⟨l,hl,rfl⟩:=oMd hy;have ht:t<gs.length:=(db.mp hl).1;have hin:∀x∈l,x∈sn:=fun x hx=>hsub x (List.mem_flatten.mpr ⟨l,qP hl,hx⟩);have htk:(gs.take (t+1)).flatten=(gs.take t).flatten++l:=by rw[pi,hl,List.flatten_append];simp
   have hte:toB (b2 neA (vSh 13) (aF (szF ao))) (hE S p T h M ea du od gs (oS (.int (t:ag))) b c js (oS (.lst (l.map D.str))) o)=aa (!l.isEmpty):=bU (aD (x:=.lst (l.map D.str)) (y:=.lst []) rfl .(A) (M' fun x hx=>hsn x (hin x hx)));cases l with
   |nil=>
    refine⟨_,_,rfl,(iu hte).trans rfl,ea,du,js,_,_,_,rfl,v8 v.len,v.good,fun j hj=>?_,v.nd,?_⟩
    .obtain⟨k,hk,e⟩:=v.nms j hj;exact⟨k,sP hk,e⟩
    .rw[htk,iV];exact v.ms
   |cons x r=>
    obtain⟨ea',du',or',g',e1,q1,q2,q3,q4,pr⟩:=HP (S:=S) (T:=T) (M:=M) (b:=b) (c:=c) (o:=o) (p:=p) (t:=t) (h:=h) (ea:=ea) (du:=du) (od:=od) (gs:=gs) (js:=js) (g:=x::r) hh;have n1:=jS (p:=p+1) (k:=t) .(a) .(a);have hgl:=BG hl;have hjl:=v.len;have e2:fj [.int ((p:ag)+1),.int (t:ag)]=aa (.str (nm (p+1) t)):=by rw[←n1.1];congr 2
    refine⟨_,_,rfl,(iu hte).trans ((qY rfl).trans ((MP e1).trans (gu (xs:=js) (x:=(⟨nm (p+1) t,ea',du',or',g'⟩:JobT)) rfl (yt (aY (aC (aD (x:=.int (p:ag)) (y:=.int 1) rfl rfl rfl) .(S)) e2) rfl rfl rfl rfl) .(a)))),ea',du',js++[⟨nm (p+1) t,ea',du',or',g'⟩],_,_,_,rfl,?_,fun j hj=>?_,fun j hj=>?_,?_,?_⟩
    .rw[qi,qW];omega
    .rcases cD.mp hj with z|z
     .exact v.good j z
     .rw[b8.mp z];refine⟨n1.2.1,⟨q1,q2⟩,⟨q3,q4⟩,?_,?_,fun y hy=>hin y (pr.mem_iff.mp hy)⟩
      .show 1<=g'.length;rw[pr.length_eq];simp
      .show g'.length<=sn.length;rw[pr.length_eq];omega
    .rcases cD.mp hj with z|z
     .obtain⟨k,hk,e⟩:=v.nms j z;exact⟨k,sP hk,e⟩
     .rw[b8.mp z];exact⟨t,oY t,rfl⟩
    .rw[dS];refine lj.mpr ⟨v.nd,by simp,fun y hy z hz e=>?_⟩;obtain⟨j,hj,rfl⟩:=bQ.mp hy;obtain⟨k,hk,ek⟩:=v.nms j hj;have hz':z=nm (p+1) t:=by simpa using hz
     rw[ek,hz'] at e;exact bB (rj .(a) .(a) .(a) e) .(a)
    .rw[List.flatMap_append,htk];refine v.ms.append ?_;simpa using pr)
 rw[vF,qe] at h3;exact⟨ρ',h1,ea',du',js,a',g',o',h2,h3⟩
theorem LX (h:fi ρ=aa ((cz m).map fun i:ah=>D.int (0+(i:ag)))) (hm:m<=1000):oA (bh fi (ay 0) tT (vC .non) [ae]) ρ=aa m:=by have hc:=lM (fi:=fi) (fe:=vC .non) (fv:=[ae]) (ρ:=ρ) (r:=[]) (a:=ae) (f:=fun _=>D.non) h (by rw[qe,qU];exact szN hm .(c)) rfl (fun x hx=>rfl);unfold aF at hc;obtain⟨l,hl,e⟩:=oMd hc;unfold oA;rw[hl];have e':=D.lst.inj e;simp[e']
theorem FF (h:fn ρ=aa m):aw (kK i fn) g ρ=g (ρ.set i (aa (.oll (bS m [])))):=by unfold aw kK;rw[h];rfl
theorem BR (h1:ρ[i]?=aa (aa (.oll dss))):lO i g ρ=g (ρ.set i (oS (.lst (dss.map D.lst)))):=by unfold lO;rw[h1]
noncomputable def Cw:ac ag:=[9,1000000,1000000,512]
def j4F:FE:=aF (szF (af (vC (.int 9)) (af .(b) (af .(b) (af (vC (.int 512)) ao)))))
theorem J0 (ρ:aX):j4F ρ=aa (.lst (Cw.map D.int)):=by kernel_rfl
theorem DZ {ds:ac ag} {a b c d:ag} (hl:ds.length=4) (h0:ds[0]?=aa a) (h1:ds[1]?=aa b) (h2:ds[2]?=aa c) (h3:ds[3]?=aa d):ds=[a,b,c,d]:=by
 match ds,hl with
 |[x,y,z,w],_=>
  cases h0;cases h1;cases h2;cases h3;rfl
theorem mZ (h1:f ρ=aa d) (h2:gg d ρ=aa ρ'):aw (gO gg f) g ρ=g ρ':=by unfold aw gO;rw[h1,qa,h2];rfl
theorem Kg (ns:ac ag) (p:ah) (ss:ac StepT) (h:ag) (hp:p<60) (hh:1<=h/\h<=1000000) (hl:ss.length<=40) (hsn:∀x∈ss.map (·.nm),bi x=al) (nd:(ss.map (·.nm)).Nodup) :
  ∃js:ac JobT,tz [.scr ns,.int (p:ag),.lst (ss.map bD),.int h]=aa .(Z)/\js.length<=9/\(∀j∈js,GoodJ (ss.map (·.nm)) h j)/\(js.map (·.nm)).Nodup/\(js.flatMap (·.ms)).Nodup/\(js.flatMap (·.ms)).length<=40:=by
 obtain⟨ds,e1,hd,hq⟩:=iR ns 1 .(a) Cw .(c) .(c);obtain⟨d0,q0,p0,p0'⟩:=hq 0 9 rfl;obtain⟨d1,q1,p1,p1'⟩:=hq 1 1000000 rfl;obtain⟨d2,q2,p2,p2'⟩:=hq 2 1000000 rfl;obtain⟨d3,q3,p3,p3'⟩:=hq 3 512 rfl;obtain⟨m,rfl⟩:∃m:ah,d0=(m:ag):=⟨d0.toNat,by omega⟩;have hds:ds=[(m:ag),d1,d2,d3]:=DZ hd q0 q1 q2 q3;subst hds;obtain⟨ρ1,a1,gs,x9,x10,x11,b1,v⟩:=O0 (ns:=ns) (P:=oS (.int p)) (H:=oS (.int h)) (ss:=ss) (m:=m) (a:=oS (.int d1)) (b:=oS (.int d2)) (c:=oS (.int d3)) (d:=ae) (e:=ae) (f:=ae) (g:=ae) (h:=ae) (i:=ae) hl .(a) nd;have hmem:∀x∈gs.flatten,x∈ss.map (·.nm):=fun x hx=>im (v.sub x hx);obtain⟨ρ2,a2,ea,du,js,y9,y13,y14,b2',w⟩:=LD (S:=oS (.scr ns)) (T:=oS .(K)) (M:=oS (.int m)) (p:=p) (h:=h) (ea:=d1) (du:=d2) (od:=d3) (gs:=gs) (sn:=ss.map (·.nm)) (a:=x9) (b:=x10) (c:=x11) (g:=ae) (o:=ae) hh hp (by rw[v.len];omega) hsn hmem (by rw[qe];exact v.sz);have wl:=w.len;have wm:=w.ms;rw[mm] at wm;refine⟨js,?_,by rw[v.len] at wl;omega,w.good,w.nd,wm.nodup_iff.mpr v.nd,by rw[wm.length_eq];exact qM v.sz hl⟩;have hz:=kW (j:=(m:ag)) .(a);rw[iW] at hz;unfold tz;refine bW (ρ':=(hE (oS (.scr ns)) p (oS .(K)) h (oS (.int m)) ea du d3 gs y9 x10 x11 js y13 y14).set 12 (oS .(Z))) [oS (.scr ns),oS (.int p),oS .(K),oS (.int h),ae,ae,ae,ae,ae,ae,ae,ae,ae,ae,ae] rfl ?_;refine(mZ (ρ':=[oS (.scr ns),oS (.int p),oS .(K),oS (.int h),oS (.int m),oS (.int d1),oS (.int d2),oS (.int d3),ae,ae,ae,ae,ae,ae,ae]) (aY (aC rfl (aC (d:=.int ((1:ah):ag)) rfl (aC (J0 _) aS))) e1) rfl).trans ?_;refine(FF (LX (jG .(S) hz) .(a))).trans ?_;have er:(bS m ([]:ac aj)).map (fun l=>l.map D.str)=bS m []:=by rw[List.map_replicate];rfl
 unfold gE at a1;rw[er] at a1;refine(dH ((f8 (xs:=(ss.map bD).mapIdx fun i d=>D.tup [.int i,d]) rfl).trans (a1.trans (by rw[b1])))).trans ?_;refine iB.trans ((BR rfl).trans ?_);have em:(gs.map fun l=>l.map D.str).map D.lst=gs.map fun l=>D.lst (l.map D.str):=by rw[qo];rfl
 rw[em];exact(dH ((f8 (xs:=(gs.map fun l=>D.lst (l.map D.str)).mapIdx fun i d=>D.tup [.int i,d]) rfl).trans (a2.trans (by rw[b2'])))).trans ((iK rfl).trans (cg (f:=vSh 12) rfl))
theorem EN (t:ac aj):pdD (.tup (t.map D.str))=aa (.tuple (t.map g8)):=by simp[pdD,u6]
theorem CW:∀(ts:ac (ac aj)),fH (ts.map fun t=>.tup (t.map D.str))=aa (ts.map fun t=>.tuple (t.map g8))
 |[]=>by simp[fH]
 |t::r=>by simp[fH,EN,CW r]
theorem Bf:∀{ts:ac (ac aj)},(∀t∈ts,∀x∈t,bi x=al)->gf (ts.map fun t=>.tuple (t.map g8))=al
 |[],_=>by simp[gf]
 |t::r,h=>by simp only[qm,gf,iH,pM (h t qf),Ak];exact Bf fun y hy=>h y (qg _ hy)
theorem DR:∀(a b:ac aj),mq (a.map g8) (b.map g8)=decide (a=b)
 |[],[]=>by simp[mq]
 |[],_::_=>by simp[mq]
 |_::_,[]=>by simp[mq]
 |x::r,y::t=>by
  simp only[qm,mq,fM,DR r t];by_cases e:x=y
  .subst e;simp
  .simp[e]
theorem Bo (t:ac aj):∀(ts:ac (ac aj)),((ts.map fun t=>Tz (t.map g8)).any fun z=>fM z (.tuple (t.map g8)))=decide (t∈ts)
 |[]=>by simp
 |y::r=>by
  rw[qm,nL,Bo t r];simp only[fM,DR];by_cases e:y=t
  .subst e;simp
  .have:t≠y:=fun z=>e z.symm;simp[e,this]
theorem C1 {t:ac aj} {ts:ac (ac aj)} (hx:∀x∈t,bi x=al) (hn:∀y∈ts,∀x∈y,bi x=al):jb (.tup (t.map D.str)) (.lst (ts.map fun t=>.tup (t.map D.str)))=aa (.bl (!decide (t∈ts))):=by
 have sh:fy (.tuple (t.map g8))=al:=by simp[fy,iH,pM hx,jz,yf]
 have p1:pdD (.lst (ts.map fun t=>.tup (t.map D.str)))=aa (.list (ts.map fun t=>.tuple (t.map g8))):=by simp[pdD,CW]
 unfold jb inX;rw[EN,p1,qa,qa];simp only[sh,Bf hn,and_self,cr,Bo,qd]
theorem AZ {d:ah} (h1:vSh 1 ρ=aa .(K)) (h2:vSh i ρ=aa (.int (d:ag))) (hL:1<=ss.length):∃x,x∈ss.map (·.nm)/\b2 ixD (b2 ixD (vSh 1) (b2 bu (vSh i) (cF bw .(w)))) .(f) ρ=aa (.str x):=by
 have hm:d%ss.length<ss.length:=kq _ .(a);refine⟨ss[d%ss.length].nm,vZ (vD hm),aD (x:=bD ss[d%ss.length]) (aD (y:=.int ((d%ss.length:ah):ag)) h1 (aD (y:=.int ((ss.length:ah):ag)) h2 (aY (aC h1 aS) ?_) ?_) ?_) rfl rfl⟩
 .show aa (D.int (((ss.map bD).length:ah):ag))=_;rw[qe]
 .exact dw .(a)
 .rw[ixL,qj,qD hm];rfl
noncomputable def Dz:ac ag:=[40,40,3,1000000]
def lkF:FE:=aF (szF (af (vC (.int 40)) (af (vC (.int 40)) (af .(F) (af .(b) ao)))))
theorem Rt (ρ:aX):lkF ρ=aa (.lst (Dz.map D.int)):=by kernel_rfl
def ltF:FE:=aF (szF (af .(e) (af (vC (.int 8)) (af (b2 aB .(b) .(e)) ao))))
theorem Ry (ρ:aX):ltF ρ=aa (.lst (([1,8,1000001]:ac ag).map D.int)):=by kernel_rfl
noncomputable def lp (l:LinkT):ac aj:=[l.a,l.b]
noncomputable def jQ (t:ac aj):D:=.tup (t.map D.str)
structure LkInv (sn:ac aj) (h:ag) (i:ah) (ls:ac LinkT):Prop where
 len:ls.length<=i
 good:∀l∈ls,GoodL sn h l
 nd:(ls.map lp).Nodup
abbrev lE (ns:ac ag) (ss:ac StepT) (h:ag) (ls:ac LinkT) (a b c d e:ar Slot):aX:=[oS (.scr ns),oS .(K),oS (.int h),aa (.own (ls.map cR)),aa (.own ((ls.map lp).map jQ)),a,b,c,d,e]
def lkT:FT:=bwT 4 (eO (toB (b2 neA (vSh 6) (vSh 7))) (toB (b2 jb .(aA) (vSh 4))))
def lkG:FE:=bO (szF (af (vSh 6) (af (vSh 7) (af (b2 bu (vSh 9) (cF eA (af (b2 aB (vSh 2) .(e)) (af (b2 ixD ltF (vSh 8)) ao)))) ao))))
def yn:FS:=aw (gO (hV 4 (aM (ay 6) (aM (ay 7) (aM (ay 8) (aM (ay 9) bZ))))) (cF dZ (af (vSh 0) (af (b2 aB (vC (.int 41)) (vSh 5)) (af lkF ao))))) (aw (aE 6 (b2 ixD (b2 ixD (vSh 1) (b2 bu (vSh 6) (cF bw .(w)))) .(f))) (aw Xe (sIf lkT (aw (cb 4 .(aA)) (cb 3 lkG)) aQ)))
theorem L8 {k:ah} {b c d e:ar Slot} (hk:k<=20) (hi:i<=20) (hh:1<=h) (hL:1<=ss.length) (hsn:∀x∈ss.map (·.nm),bi x=al) (v:LkInv (ss.map (·.nm)) h i ls) :
  ∃ls' b' c' d' e',yn (lE ns ss h ls (oS (.int (0+(k:ag)))) b c d e)=aa (.nx,lE ns ss h ls' (oS (.int (0+(k:ag)))) b' c' d' e')/\LkInv (ss.map (·.nm)) h (i+1) ls':=by
 have hk0:(0:ag)+(k:ag)=(k:ag):=by omega
 rw[hk0];obtain⟨ds,e1,hd,hq⟩:=iR ns (41+k) .(a) Dz .(c) .(c);obtain⟨d0,q0,p0,_⟩:=hq 0 40 rfl;obtain⟨d1,q1,p1,_⟩:=hq 1 40 rfl;obtain⟨d2,q2,p2,p2'⟩:=hq 2 3 rfl;obtain⟨d3,q3,p3,_⟩:=hq 3 1000000 rfl;obtain⟨m0,rfl⟩:∃m:ah,d0=(m:ag):=⟨d0.toNat,by omega⟩;obtain⟨m1,rfl⟩:∃m:ah,d1=(m:ag):=⟨d1.toNat,by omega⟩;have hds:ds=[(m0:ag),(m1:ag),d2,d3]:=DZ hd q0 q1 q2 q3;subst hds;obtain⟨x,hx,ex⟩:=AZ (ss:=ss) (d:=m0) (i:=6) (ρ:=lE ns ss h ls (oS (.int (k:ag))) (oS (.int (m0:ag))) (oS (.int (m1:ag))) (oS (.int d2)) (oS (.int d3))) rfl rfl hL;obtain⟨y,hy,ey⟩:=AZ (ss:=ss) (d:=m1) (i:=7) (ρ:=lE ns ss h ls (oS (.int (k:ag))) (oS (.str x)) (oS (.int (m1:ag))) (oS (.int d2)) (oS (.int d3))) rfl rfl hL;obtain⟨mx,hmx,mx1⟩:∃mx:ag,ixD (.lst (([1,8,1000001]:ac ag).map D.int)) (.int d2)=aa (.int mx)/\1<=mx:=by
  have:d2=0\/d2=1\/d2=2:=by omega
  rcases this with rfl|rfl|rfl
  .exact⟨1,rfl,by decide⟩
  .exact⟨8,rfl,by decide⟩
  .exact⟨1000001,rfl,by decide⟩
 obtain⟨mn,hmn,mn1,mn2⟩:∃mn:ag,eA [.int (h+1),.int mx]=aa (.int mn)/\1<=mn/\mn<=h+1:=⟨if mx<h+1 then mx else h+1,rfl,by split<;>omega,by split<;>omega⟩;have g1:0<=d3%mn:=qX _ .(a);have g2:d3%mn<mn:=qV _ .(a);have hkn:∀z∈ls.map lp,∀w∈z,bi w=al:=fun z hz w hw=>by
  obtain⟨l,hl,rfl⟩:=bQ.mp hz;have hw':w=l.a\/w=l.b:=by simpa[lp] using hw
  rcases hw' with rfl|rfl
  .exact hsn _ (v.good l hl).a
  .exact hsn _ (v.good l hl).b
 have hxy:∀w∈[x,y],bi w=al:=fun w hw=>by
  have hw':w=x\/w=y:=by simpa using hw
  rcases hw' with rfl|rfl
  .exact hsn _ hx
  .exact hsn _ hy
 have hte:lkT (lE ns ss h ls (oS (.int (k:ag))) (oS (.str x)) (oS (.str y)) (oS (.int d2)) (oS (.int d3)))=aa ((!decide (x=y)) && !decide ([x,y]∈ls.map lp)):=by
  have t1:toB (b2 neA (vSh 6) (vSh 7)) [oS (.scr ns),oS .(K),oS (.int h),aa (.own (ls.map cR)),oS (.lst ((ls.map lp).map jQ)),oS (.int (k:ag)),oS (.str x),oS (.str y),oS (.int d2),oS (.int d3)]=aa (!decide (x=y)):=bU (aD rfl rfl (Bp x y));have t2:toB (b2 jb .(aA) (vSh 4)) [oS (.scr ns),oS .(K),oS (.int h),aa (.own (ls.map cR)),oS (.lst ((ls.map lp).map jQ)),oS (.int (k:ag)),oS (.str x),oS (.str y),oS (.int d2),oS (.int d3)]=aa (!decide ([x,y]∈ls.map lp)):=bU (aD (iJ rfl rfl) rfl (C1 (t:=[x,y]) (ts:=ls.map lp) hxy hkn));have hbw:lkT (lE ns ss h ls (oS (.int (k:ag))) (oS (.str x)) (oS (.str y)) (oS (.int d2)) (oS (.int d3)))=eO (toB (b2 neA (vSh 6) (vSh 7))) (toB (b2 jb .(aA) (vSh 4))) [oS (.scr ns),oS .(K),oS (.int h),aa (.own (ls.map cR)),oS (.lst ((ls.map lp).map jQ)),oS (.int (k:ag)),oS (.str x),oS (.str y),oS (.int d2),oS (.int d3)]:=rfl;rw[hbw];unfold eO;rw[t1,qa];cases hb:(!decide (x=y)) with
  |false=>rfl
  |true=>exact t2
 have hvl:=v.len;have pre:∀R,(sIf lkT (aw (cb 4 .(aA)) (cb 3 lkG)) aQ) (lE ns ss h ls (oS (.int (k:ag))) (oS (.str x)) (oS (.str y)) (oS (.int d2)) (oS (.int d3)))=R->yn (lE ns ss h ls (oS (.int (k:ag))) b c d e)=R:=fun R q=>by
  refine(mZ (ρ':=lE ns ss h ls (oS (.int (k:ag))) (oS (.int (m0:ag))) (oS (.int (m1:ag))) (oS (.int d2)) (oS (.int d3))) (aY (aC rfl (aC (d:=.int ((41+k:ah):ag)) (aD rfl rfl ?_) (aC (Rt _) aS))) e1) rfl).trans ((bJ ex).trans ((bJ ey).trans q));show aa (D.int (41+(k:ag)))=_
  congr 2
 by_cases hc:x≠y/\[x,y]∉ls.map lp
 .have hb:((!decide (x=y)) && !decide ([x,y]∈ls.map lp))=al:=by simp[hc.1,hc.2]
  rw[hb] at hte;refine⟨ls++[⟨x,y,d3%mn⟩],oS (.str x),oS (.str y),oS (.int d2),oS (.int d3),pre _ ((iu hte).trans ((qY rfl).trans ((dH (gu (g:=jQ) (xs:=ls.map lp) (x:=[x,y]) rfl (iJ rfl rfl) (by rw[qe];omega))).trans ((gu (g:=cR) (xs:=ls) (x:=(⟨x,y,d3%mn⟩:LinkT)) rfl (oi rfl rfl (aD rfl (aY (aC (aD (x:=.int h) (y:=.int 1) rfl rfl rfl) (aC (aD (Ry _) rfl hmx) aS)) hmn) (dw .(a)))) .(a)).trans ?_)))),by rw[qi,qW];omega,fun l hl=>?_,?_⟩
  .show _=aa (Fl.nx,[_,_,_,_,aa (Slot.own (((ls++[(⟨x,y,d3%mn⟩:LinkT)]).map lp).map jQ)),_,_,_,_,_]);rw[dS (f:=lp)];rfl
  .rcases cD.mp hl with z|z
   .exact v.good l z
   .rw[b8.mp z];exact⟨hx,hy,hc.1,g1,by show d3%mn<=h;omega⟩
  .rw[dS];refine lj.mpr ⟨v.nd,by simp,fun z hz w hw ez=>?_⟩;have hw':w=[x,y]:=by simpa[lp] using hw
   exact hc.2 (by rw[←hw',←ez];exact hz)
 .have hb:((!decide (x=y)) && !decide ([x,y]∈ls.map lp))=aq:=by
   by_cases h1:x=y
   .simp[h1]
   .have h2:[x,y]∈ls.map lp:=by
     by_cases h3:[x,y]∈ls.map lp
     .exact h3
     .exact bB ⟨h1,h3⟩ hc
    rw[qS h2];simp
  rw[hb] at hte;exact⟨ls,_,_,_,_,pre _ ((iu hte).trans rfl),v8 v.len,v.good,v.nd⟩
def lmF:FE:=aF (szF (af (vC (.int 21)) (af (vC (.int 21)) ao)))
theorem MI (ρ:aX):lmF ρ=aa (.lst (([21,21]:ac ag).map D.int)):=by kernel_rfl
theorem Nt (ns:ac ag) (ss:ac StepT) (h:ag) (hh:1<=h) (hL:1<=ss.length) (hsn:∀x∈ss.map (·.nm),bi x=al) :
  ∃ls:ac LinkT,tJ [.scr ns,.lst (ss.map bD),.int h]=aa (.lst (ls.map cR))/\ls.length<=20/\(∀l∈ls,GoodL (ss.map (·.nm)) h l)/\(ls.map fun l=>[l.a,l.b]).Nodup:=by
 obtain⟨ds,e1,hd,hq⟩:=iR ns 2 .(a) [21,21] .(c) .(c);obtain⟨d1,q1,p1,p1'⟩:=hq 1 21 rfl;obtain⟨m,rfl⟩:∃m:ah,d1=(m:ag):=⟨d1.toNat,by omega⟩;obtain⟨ρ',h1,ls,a,b,c,d,e,h2,v⟩:=gC (gg:=ay 5) (body:=yn) (xs:=(cz m).map fun i:ah=>D.int (0+(i:ag))) (ρ:=lE ns ss h [] ae ae ae ae ae)
  (fun i ρ=>∃ls a b c d e,ρ=lE ns ss h ls a b c d e/\LkInv (ss.map (·.nm)) h i ls) ⟨[],ae,ae,ae,ae,ae,rfl,qv _,fun l hl=>(by cases hl),lh⟩ (fun i x ρ hx hI=>by
   obtain⟨ls,a,b,c,d,e,rfl,v⟩:=hI;rw[qj] at hx;obtain⟨j,hj,rfl⟩:=oMd hx;have hi:i<m:=by simpa using(db.mp hj).1
   have hji:i=j:=by rw[mj hi] at hj;exact qH hj
   subst hji;obtain⟨ls',b',c',d',e',t1,t2⟩:=L8 (ns:=ns) (ss:=ss) (h:=h) (ls:=ls) (k:=i) (i:=i) (b:=b) (c:=c) (d:=d) (e:=e) .(a) .(a) hh hL hsn v;exact⟨_,_,rfl,t1,ls',_,_,_,_,_,rfl,t2⟩)
 rw[qe,qU] at v;have vl:=v.len;refine⟨ls,?_,by omega,v.good,v.nd⟩;have hz:=kW (j:=(m:ag)) .(a);rw[iW] at hz;unfold tJ;exact bW (ρ':=(lE ns ss h ls a b c d e).set 3 (oS (.lst (ls.map cR)))) [oS (.scr ns),oS .(K),oS (.int h),ae,ae,ae,ae,ae,ae,ae] rfl (iB.trans (iB.trans ((dH ((f8 (jG (aC (ku (n:=1) (aY (aC rfl (aC (d:=.int ((2:ah):ag)) rfl (aC (MI _) aS))) e1) q1) aS) hz)).trans (h1.trans (by rw[h2])))).trans ((iK rfl).trans (cg (f:=vSh 3) rfl)))))
theorem LL {bs:ac BenchT} {d:ah} (h1:vSh 1 ρ=aa .(ak)) (h2:vSh i ρ=aa (.int (d:ag))) (hL:1<=bs.length):∃x,x∈bs.map (·.nm)/\b2 ixD (b2 ixD (vSh 1) (b2 bu (vSh i) (cF bw .(w)))) .(f) ρ=aa (.str x):=by
 have hm:d%bs.length<bs.length:=kq _ .(a);refine⟨bs[d%bs.length].nm,vZ (vD hm),aD (x:=cc bs[d%bs.length]) (aD (y:=.int ((d%bs.length:ah):ag)) h1 (aD (y:=.int ((bs.length:ah):ag)) h2 (aY (aC h1 aS) ?_) ?_) ?_) rfl rfl⟩
 .show aa (D.int (((bs.map cc).length:ah):ag))=_;rw[qe]
 .exact dw .(a)
 .rw[ixL,qj,qD hm];rfl
noncomputable def up (u:SetT):ac aj:=[u.b,u.p,u.q]
structure SuInv (bn:ac aj) (h:ag) (i:ah) (us:ac SetT):Prop where
 len:us.length<=i
 good:∀u∈us,GoodU bn h u
 nd:(us.map up).Nodup
noncomputable def E1:ac ag:=[8,6,6,2,1000000]
def suF:FE:=aF (szF (af (vC (.int 8)) (af (vC (.int 6)) (af (vC (.int 6)) (af .(q) (af .(b) ao))))))
theorem QG (ρ:aX):suF ρ=aa (.lst (E1.map D.int)):=by kernel_rfl
def svF:FE:=aF (szF (af (vC (.int 6)) (af .(b) ao)))
theorem PM (ρ:aX):svF ρ=aa (.lst (([6,1000000]:ac ag).map D.int)):=by kernel_rfl
theorem Sj {ds:ac ag} {a b c d e:ag} (hl:ds.length=5) (h0:ds[0]?=aa a) (h1:ds[1]?=aa b) (h2:ds[2]?=aa c) (h3:ds[3]?=aa d) (h4:ds[4]?=aa e):ds=[a,b,c,d,e]:=by
 match ds,hl with
 |[x,y,z,w,v],_=>
  cases h0;cases h1;cases h2;cases h3;cases h4;rfl
theorem HV {x y:D} {w:D} :kL (.tup [x,y,z]) (.tup [w])=aa (.tup [x,y,z,w]):=by show(if [x,y,z]≠[]/\[w]≠[]/\[x,y,z].length+[w].length<=aL then aa (D.tup ([x,y,z]++[w])) else ae)=_;rw[qY ⟨by simp,by simp,by simp[aL]⟩];rfl
abbrev suE (ns:ac ag) (bs:ac BenchT) (p:ah) (h:ag) (us:ac SetT) (k a b c d e f:ar Slot):aX:=[oS (.scr ns),oS .(ak),oS (.int p),oS (.int h),aa (.own (us.map cB)),aa (.own ((us.map up).map jQ)),k,a,b,c,d,e,f]
def suT:FT:=bwT 5 (toB (b2 jb (vSh 12) (vSh 5)))
def suG:FE:=b2 kL (vSh 12) (bO (szF (af (b2 aB .(e) (b2 bu (vSh 11) (cF eA (af (vSh 3) (af (b2 ixD svF (vSh 10)) ao))))) ao)))
def wD:FS:=aw (gO (hV 5 (aM (ay 7) (aM (ay 8) (aM (ay 9) (aM (ay 10) (aM (ay 11) bZ)))))) (cF dZ (af (vSh 0) (af (b2 aB (vC (.int 30)) (vSh 6)) (af suF ao))))) (aw Xe (aw (aE 12 (bO (szF (af (vSh 7) (af (cF fj (af (b2 fZ (vSh 2) .(q)) (af (vSh 8) ao))) (af (cF fj (af (b2 fZ (vSh 2) .(q)) (af (vSh 9) ao))) ao)))))) (sIf suT (aw (cb 5 (vSh 12)) (cb 4 suG)) aQ)))
theorem JD {x:D} (h:f ρ=aa x):bO (szF (af f ao)) ρ=aa (.tup [x]):=by simp only[bO,szF,af,ao,h,qa,qd,qh,qk,g0,sz1,cr]
theorem P0 {bs:ac BenchT} {p:ah} {k:ah} {a b c d e f:ar Slot} (hp:p<60) (hk:k<=20) (hi:i<=20) (hh:1<=h) (hL:1<=bs.length) (hbn:∀x∈bs.map (·.nm),bi x=al) (v:SuInv (bs.map (·.nm)) h i us) :
  ∃us' a' b' c' d' e' f',wD (suE ns bs p h us (oS (.int (0+(k:ag)))) a b c d e f)=aa (.nx,suE ns bs p h us' (oS (.int (0+(k:ag)))) a' b' c' d' e' f')/\SuInv (bs.map (·.nm)) h (i+1) us':=by
 have hk0:(0:ag)+(k:ag)=(k:ag):=by omega
 rw[hk0];obtain⟨ds,e1,hd,hq⟩:=iR ns (30+k) .(a) E1 .(c) .(c);obtain⟨d0,q0,p0,_⟩:=hq 0 8 rfl;obtain⟨d1,q1,p1,p1'⟩:=hq 1 6 rfl;obtain⟨d2,q2,p2,p2'⟩:=hq 2 6 rfl;obtain⟨d3,q3,p3,p3'⟩:=hq 3 2 rfl;obtain⟨d4,q4,p4,_⟩:=hq 4 1000000 rfl;obtain⟨m0,rfl⟩:∃m:ah,d0=(m:ag):=⟨d0.toNat,by omega⟩;obtain⟨m1,rfl⟩:∃m:ah,d1=(m:ag):=⟨d1.toNat,by omega⟩;obtain⟨m2,rfl⟩:∃m:ah,d2=(m:ag):=⟨d2.toNat,by omega⟩;have hds:ds=[(m0:ag),(m1:ag),(m2:ag),d3,d4]:=Sj hd q0 q1 q2 q3 q4;subst hds;obtain⟨x,hx,ex⟩:=LL (bs:=bs) (d:=m0) (i:=7) (ρ:=suE ns bs p h us (oS (.int (k:ag))) (oS (.int (m0:ag))) (oS (.int (m1:ag))) (oS (.int (m2:ag))) (oS (.int d3)) (oS (.int d4)) f) rfl rfl hL;have n1:=jS (p:=p / 2) (k:=m1) .(a) .(a);have n2:=jS (p:=p / 2) (k:=m2) .(a) .(a);obtain⟨mx,hmx,mx1⟩:∃mx:ag,ixD (.lst (([6,1000000]:ac ag).map D.int)) (.int d3)=aa (.int mx)/\1<=mx:=by
  have:d3=0\/d3=1:=by omega
  rcases this with rfl|rfl
  .exact⟨6,rfl,by decide⟩
  .exact⟨1000000,rfl,by decide⟩
 obtain⟨mn,hmn,mn1,mn2⟩:∃mn:ag,eA [.int h,.int mx]=aa (.int mn)/\1<=mn/\mn<=h:=⟨if mx<h then mx else h,rfl,by split<;>omega,by split<;>omega⟩;have g1:0<=d4%mn:=qX _ .(a);have g2:d4%mn<mn:=qV _ .(a);have hkn:∀z∈us.map up,∀w∈z,bi w=al:=fun z hz w hw=>by
  obtain⟨u,hu,rfl⟩:=bQ.mp hz;have hw':w=u.b\/w=u.p\/w=u.q:=by simpa[up] using hw
  rcases hw' with rfl|rfl|rfl
  .exact hbn _ (v.good u hu).b
  .exact(v.good u hu).p
  .exact(v.good u hu).q
 have hxy:∀w∈[x,nm (p / 2) m1,nm (p / 2) m2],bi w=al:=fun w hw=>by
  have hw':w=x\/w=nm (p / 2) m1\/w=nm (p / 2) m2:=by simpa using hw
  rcases hw' with rfl|rfl|rfl
  .exact hbn _ hx
  .exact n1.2.1
  .exact n2.2.1
 have hte:suT .(J)=aa (!decide ([x,nm (p / 2) m1,nm (p / 2) m2]∈us.map up)):=by have hbw:suT .(J)=toB (b2 jb (vSh 12) (vSh 5)) [oS (.scr ns),oS .(ak),oS (.int p),oS (.int h),aa (.own (us.map cB)),oS (.lst ((us.map up).map jQ)),oS (.int (k:ag)),oS (.str x),oS (.int (m1:ag)),oS (.int (m2:ag)),oS (.int d3),oS (.int d4),oS (.tup [.str x,.str (nm (p / 2) m1),.str (nm (p / 2) m2)])]:=rfl;rw[hbw];exact bU (aD rfl rfl (C1 (t:=[x,nm (p / 2) m1,nm (p / 2) m2]) (ts:=us.map up) hxy hkn))
 have hvl:=v.len;have pre:∀R,(sIf suT (aw (cb 5 (vSh 12)) (cb 4 suG)) aQ) .(J)=R->wD (suE ns bs p h us (oS (.int (k:ag))) a b c d e f)=R:=fun R q=>by
  refine(mZ (ρ':=suE ns bs p h us (oS (.int (k:ag))) (oS (.int (m0:ag))) (oS (.int (m1:ag))) (oS (.int (m2:ag))) (oS (.int d3)) (oS (.int d4)) f) (aY (aC rfl (aC (d:=.int ((30+k:ah):ag)) (aD rfl rfl ?_) (aC (QG _) aS))) e1) rfl).trans ((bJ ex).trans ((bJ (oi rfl (aY (aC (d:=.int ((p / 2:ah):ag)) (aD (x:=.int (p:ag)) (y:=.int 2) rfl rfl (rM .(c))) .(S)) n1.1) (aY (aC (d:=.int ((p / 2:ah):ag)) (aD (x:=.int (p:ag)) (y:=.int 2) rfl rfl (rM .(c))) .(S)) n2.1))).trans q));show aa (D.int (30+(k:ag)))=_
  congr 2
 by_cases hc:[x,nm (p / 2) m1,nm (p / 2) m2]∈us.map up
 .rw[qS hc] at hte;exact⟨us,_,_,_,_,_,_,pre _ ((iu hte).trans rfl),v8 v.len,v.good,v.nd⟩
 .rw[qN hc] at hte;refine⟨us++[⟨x,nm (p / 2) m1,nm (p / 2) m2,1+d4%mn⟩],oS (.str x),oS (.int (m1:ag)),oS (.int (m2:ag)),oS (.int d3),oS (.int d4),oS (.tup [.str x,.str (nm (p / 2) m1),.str (nm (p / 2) m2)]),pre _ ((iu hte).trans ((qY rfl).trans ((dH (gu (g:=jQ) (xs:=us.map up) (x:=[x,nm (p / 2) m1,nm (p / 2) m2]) rfl rfl (by rw[qe];omega))).trans ((gu (g:=cB) (xs:=us) (x:=(⟨x,nm (p / 2) m1,nm (p / 2) m2,1+d4%mn⟩:SetT)) rfl (aD rfl (JD (aD (x:=.int 1) rfl (aD (x:=.int d4) (y:=.int mn) rfl (aY (aC rfl (aC (aD (PM _) rfl hmx) aS)) hmn) (dw .(a))) rfl)) HV) .(a)).trans ?_)))),by rw[qi,qW];omega,fun u hu=>?_,?_⟩
  .show _=aa (Fl.nx,[_,_,_,_,_,aa (Slot.own (((us++[(⟨x,nm (p / 2) m1,nm (p / 2) m2,1+d4%mn⟩:SetT)]).map up).map jQ)),_,_,_,_,_,_,_]);rw[dS (f:=up)];rfl
  .rcases cD.mp hu with z|z
   .exact v.good u z
   .rw[b8.mp z];exact⟨hx,n1.2.1,n2.2.1,by show 1<=1+d4%mn;omega,by show 1+d4%mn<=h;omega⟩
  .rw[dS];refine lj.mpr ⟨v.nd,by simp,fun z hz w hw ez=>?_⟩;have hw':w=[x,nm (p / 2) m1,nm (p / 2) m2]:=by simpa[up] using hw
   exact hc (by rw[←hw',←ez];exact hz)
def smF:FE:=aF (szF (af (vC (.int 21)) ao))
theorem K2 (ρ:aX):smF ρ=aa (.lst (([21]:ac ag).map D.int)):=by kernel_rfl
theorem Ix (ns:ac ag) (bs:ac BenchT) (p:ah) (h:ag) (hp:p<60) (hh:1<=h) (hL:1<=bs.length) (hbn:∀x∈bs.map (·.nm),bi x=al) :
  ∃us:ac SetT,tF [.scr ns,.lst (bs.map cc),.int (p:ag),.int h]=aa (.lst (us.map cB))/\us.length<=20/\(∀u∈us,GoodU (bs.map (·.nm)) h u)/\(us.map fun u=>[u.b,u.p,u.q]).Nodup:=by
 obtain⟨ds,e1,hd,hq⟩:=iR ns 2 .(a) [21] .(c) .(c);obtain⟨d1,q1,p1,p1'⟩:=hq 0 21 rfl;obtain⟨m,rfl⟩:∃m:ah,d1=(m:ag):=⟨d1.toNat,by omega⟩;obtain⟨ρ',h1,us,k,a,b,c,d,e,f,h2,v⟩:=gC (gg:=ay 6) (body:=wD) (xs:=(cz m).map fun i:ah=>D.int (0+(i:ag))) (ρ:=suE ns bs p h [] ae ae ae ae ae ae ae)
  (fun i ρ=>∃us k a b c d e f,ρ=suE ns bs p h us k a b c d e f/\SuInv (bs.map (·.nm)) h i us) ⟨[],ae,ae,ae,ae,ae,ae,ae,rfl,qv _,fun l hl=>(by cases hl),lh⟩ (fun i x ρ hx hI=>by
   obtain⟨us,k,a,b,c,d,e,f,rfl,v⟩:=hI;rw[qj] at hx;obtain⟨j,hj,rfl⟩:=oMd hx;have hi:i<m:=by simpa using(db.mp hj).1
   have hji:i=j:=by rw[mj hi] at hj;exact qH hj
   subst hji;obtain⟨us',a',b',c',d',e',f',t1,t2⟩:=P0 (ns:=ns) (bs:=bs) (p:=p) (h:=h) (us:=us) (k:=i) (i:=i) (a:=a) (b:=b) (c:=c) (d:=d) (e:=e) (f:=f) hp .(a) .(a) hh hL hbn v;exact⟨_,_,rfl,t1,us',_,_,_,_,_,_,_,rfl,t2⟩)
 rw[qe,qU] at v;have vl:=v.len;refine⟨us,?_,by omega,v.good,v.nd⟩;have hz:=kW (j:=(m:ag)) .(a);rw[iW] at hz;unfold tF;exact bW (ρ':=(suE ns bs p h us k a b c d e f).set 4 (oS (.lst (us.map cB)))) [oS (.scr ns),oS .(ak),oS (.int p),oS (.int h),ae,ae,ae,ae,ae,ae,ae,ae,ae] rfl (iB.trans (iB.trans ((dH ((f8 (jG (aC (ku (n:=0) (aY (aC rfl (aC (d:=.int ((2:ah):ag)) rfl (aC (K2 _) aS))) e1) q1) aS) hz)).trans (h1.trans (by rw[h2])))).trans ((iK rfl).trans (cg (f:=vSh 4) rfl)))))
structure AmInv (sn:ac aj) (i:ah) (am:ac (aj×ag)):Prop where
 len:am.length<=i
 ws:∀w∈am,w.1∈sn.take i/\1<=w.2/\w.2<=1000000
 nd:(am.map (·.1)).Nodup
theorem AmInv.next (v:AmInv sn i am):AmInv sn (i+1) am:=
 ⟨v8 v.len,fun w hw=>⟨im (i:=i) (by rw[Az,kr .(a)];exact(v.ws w hw).1),(v.ws w hw).2⟩,v.nd⟩
theorem AmInv.put {n:ag} (v:AmInv sn i am) (nd:sn.Nodup) (hx:sn[i]?=aa x) (hn:1<=n/\n<=1000000):AmInv sn (i+1) (am++[(x,n)]):=by
 have ht:sn.take (i+1)=sn.take i++[x]:=by rw[pi,hx];rfl
 have nd2:(sn.take (i+1)).Nodup:=nd.sublist (oZ _ _);rw[ht] at nd2;have hnx:x∉sn.take i:=fun z=>(lj.mp nd2).2.2 x z x (b8.mpr rfl) rfl;have vl:=v.len;refine⟨by rw[qi,qW];omega,fun w hw=>?_,?_⟩
 .rcases cD.mp hw with z|z
  .exact v.next.ws w z
  .rw[b8.mp z,ht];exact⟨qQ _ (b8.mpr rfl),hn⟩
 .rw[dS];refine lj.mpr ⟨v.nd,by simp,fun y hy z hz e=>?_⟩;obtain⟨w,hw,rfl⟩:=bQ.mp hy;have hz':z=x:=by simpa using hz
  rw[hz'] at e;exact hnx (e▸(v.ws w hw).1)
theorem AmInv.good (v:AmInv sn sn.length am):GoodA sn am:=
 ⟨v.len,fun w hw=>⟨im (v.ws w hw).1,(v.ws w hw).2⟩,v.nd⟩
theorem GoodA.rev {sn:ac aj} {am:ac (aj×ag)} (g:GoodA sn am):GoodA sn am.reverse:=
 ⟨by rw[Ua];exact g.ln,fun w hw=>g.ws w (List.mem_reverse.mp hw),by rw[HC];exact(UI _).nodup_iff.mpr g.nd⟩
abbrev aoE (S P:ar Slot) (ss:ac StepT) (F K B:ar Slot) (sz rm fi tk pt raw:ag) (a b:ac (aj×ag)) (x y z r:ar Slot):aX:=[S,P,oS .(K),F,K,B,oS (.int sz),oS (.int rm),oS (.int fi),oS (.int tk),oS (.int pt),oS (.int raw),aa (.oll [a.map dW,b.map dW]),x,y,z,r]
theorem Ci {i j:ag} (h:0<=j):i7 (.int i) (.int j)=aa (.int (i / 2 ^ j.toNat)):=by unfold i7;exact qY h
def saF:FE:=aF (szF (af (vC (.int 9)) (af .(b) ao)))
theorem IZ (ρ:aX):saF ρ=aa (.lst (([9,1000000]:ac ag).map D.int)):=by kernel_rfl
def amW:FE:=bO (szF (af (b2 ixD (vSh 14) .(f)) (af (vSh 15) ao)))
def amT (i:ah):FT:=toB (b2 eqD (b2 bu (b2 i7 (vSh i) (vSh 13)) .(q)) .(e))
def yA:FS:=aw (aE 15 (b2 aB .(e) (b2 bu (b2 aB (vSh 11) (b2 cq (vC (.int 7919)) (vSh 13))) (b2 ixD saF (vSh 6))))) (aw (sIf (amT 9) (iN 12 .(f) amW) aQ) (sIf (amT 10) (iN 12 .(e) amW) aQ))
section
variable {P F K B r:ar Slot} {sz rm fi tk pt raw n:ag} {a b:ac (aj×ag)} {t:ah} {s:StepT}
theorem am0 (hl:ss.length<=40) (nd:(ss.map (·.nm)).Nodup) (hs:ss[t]?=aa s) (hn:1<=n/\n<=1000000) (v:AmInv (ss.map (·.nm)) t a) :
  ∃a',sIf (amT 9) (iN 12 .(f) amW) aQ .(aj)=aa (.nx,aoE S P ss F K B sz rm fi tk pt raw a' b (oS (.int (t:ag))) (oS (bD s)) (oS (.int n)) r)/\AmInv (ss.map (·.nm)) (t+1) a':=by
 have ht:t<ss.length:=(db.mp hs).1;have vl:=v.len;have hte:amT 9 .(aj)=aa (decide (tk / 2 ^ (t:ag).toNat%2=1)):=bU (aD (aD (aD (x:=.int tk) (y:=.int (t:ag)) rfl rfl (Ci .(a))) rfl (dw .(c))) rfl rfl);by_cases hc:tk / 2 ^ (t:ag).toNat%2=1
 .rw[qS hc] at hte;refine⟨a++[(s.nm,n)],(iu hte).trans ((qY rfl).trans ((xX (i:=12) (j:=0) (dss:=[a.map dW,b.map dW]) (ds:=a.map dW) (d:=dW (s.nm,n)) rfl rfl (iJ rfl rfl) rfl (by rw[qe];unfold aL;omega)).trans ?_)),v.put nd (yd hs) hn⟩;have e9:a.map dW++[dW (s.nm,n)]=(a++[(s.nm,n)]).map dW:=by rw[dS];rfl
  rw[e9];rfl
 .rw[qN hc] at hte;exact⟨a,(iu hte).trans rfl,v.next⟩
theorem am1 (hl:ss.length<=40) (nd:(ss.map (·.nm)).Nodup) (hs:ss[t]?=aa s) (hn:1<=n/\n<=1000000) (v:AmInv (ss.map (·.nm)) t b) :
  ∃b',sIf (amT 10) (iN 12 .(e) amW) aQ .(aj)=aa (.nx,aoE S P ss F K B sz rm fi tk pt raw a b' (oS (.int (t:ag))) (oS (bD s)) (oS (.int n)) r)/\AmInv (ss.map (·.nm)) (t+1) b':=by
 have ht:t<ss.length:=(db.mp hs).1;have vl:=v.len;have hte:amT 10 .(aj)=aa (decide (pt / 2 ^ (t:ag).toNat%2=1)):=bU (aD (aD (aD (x:=.int pt) (y:=.int (t:ag)) rfl rfl (Ci .(a))) rfl (dw .(c))) rfl rfl);by_cases hc:pt / 2 ^ (t:ag).toNat%2=1
 .rw[qS hc] at hte;refine⟨b++[(s.nm,n)],(iu hte).trans ((qY rfl).trans ((xX (i:=12) (j:=1) (dss:=[a.map dW,b.map dW]) (ds:=b.map dW) (d:=dW (s.nm,n)) rfl rfl (iJ rfl rfl) rfl (by rw[qe];unfold aL;omega)).trans ?_)),v.put nd (yd hs) hn⟩;have e9:b.map dW++[dW (s.nm,n)]=(b++[(s.nm,n)]).map dW:=by rw[dS];rfl
  rw[e9];rfl
 .rw[qN hc] at hte;exact⟨b,(iu hte).trans rfl,v.next⟩
theorem Mx {x y z:ar Slot} (hl:ss.length<=40) (nd:(ss.map (·.nm)).Nodup) (hsz:sz=0\/sz=1) :
  ∃ρ',dj (cs 2 (aM (ay 13) (aM (ay 14) bZ))) yA ((ss.map bD).mapIdx fun i d=>D.tup [.int i,d]) (aoE S P ss F K B sz rm fi tk pt raw [] [] x y z r)=aa (.nx,ρ')/\∃a b x y z,ρ'=aoE S P ss F K B sz rm fi tk pt raw a b x y z r/\AmInv (ss.map (·.nm)) ss.length a/\AmInv (ss.map (·.nm)) ss.length b:=by
 obtain⟨mx,hmx,mx1,mx2⟩:∃mx:ag,ixD (.lst (([9,1000000]:ac ag).map D.int)) (.int sz)=aa (.int mx)/\1<=mx/\mx<=1000000:=by
  rcases hsz with rfl|rfl
  .exact⟨9,rfl,by decide,by decide⟩
  .exact⟨1000000,rfl,by decide,by decide⟩
 obtain⟨ρ',h1,a',b',x',y',z',h2,h3,h4⟩:=gC (gg:=cs 2 (aM (ay 13) (aM (ay 14) bZ))) (body:=yA) (xs:=(ss.map bD).mapIdx fun i d=>D.tup [.int i,d]) (ρ:=aoE S P ss F K B sz rm fi tk pt raw [] [] x y z r)
  (fun t ρ=>∃a b x y z,ρ=aoE S P ss F K B sz rm fi tk pt raw a b x y z r/\AmInv (ss.map (·.nm)) t a/\AmInv (ss.map (·.nm)) t b) ⟨[],[],x,y,z,rfl,⟨qv _,fun w hw=>(by cases hw),lh⟩,⟨qv _,fun w hw=>(by cases hw),lh⟩⟩ (fun t x ρ hx hI=>by
   obtain⟨a,b,x,y,z,rfl,v,u⟩:=hI;obtain⟨y,hy,rfl⟩:=ua hx;rw[qj] at hy;obtain⟨s,hs,rfl⟩:=oMd hy;have g1:0<=(raw+7919*(t:ag))%mx:=qX _ .(a);have g2:(raw+7919*(t:ag))%mx<mx:=qV _ .(a);have hn:1<=1+(raw+7919*(t:ag))%mx/\1+(raw+7919*(t:ag))%mx<=1000000:=by omega
   obtain⟨a',f1,v'⟩:=am0 (S:=S) (P:=P) (F:=F) (K:=K) (B:=B) (r:=r) (ss:=ss) (sz:=sz) (rm:=rm) (fi:=fi) (tk:=tk) (pt:=pt) (raw:=raw) (a:=a) (b:=b) (t:=t) (s:=s) (n:=1+(raw+7919*(t:ag))%mx) hl nd hs hn v;obtain⟨b',f2,u'⟩:=am1 (S:=S) (P:=P) (F:=F) (K:=K) (B:=B) (r:=r) (ss:=ss) (sz:=sz) (rm:=rm) (fi:=fi) (tk:=tk) (pt:=pt) (raw:=raw) (a:=a') (b:=b) (t:=t) (s:=s) (n:=1+(raw+7919*(t:ag))%mx) hl nd hs hn u;exact⟨_,_,rfl,(bJ (aD (x:=.int 1) rfl (aD (x:=.int (raw+7919*(t:ag))) (y:=.int mx) (aD (x:=.int raw) (y:=.int (7919*(t:ag))) rfl (aD (x:=.int 7919) (y:=.int (t:ag)) rfl rfl (ig (.inl .(c)))) rfl) (aD (IZ _) rfl hmx) (dw .(a))) rfl)).trans ((dH f1).trans f2),a',b',_,_,_,rfl,v',u'⟩)
 rw[vF,qe] at h3 h4;exact⟨ρ',h1,a',b',x',y',z',h2,h3,h4⟩
end
noncomputable def rR:ac ag:=[2,1000001,1000001,1099511627776,1099511627776,1000000]
def skF:FE:=aF (szF (af .(q) (af (b2 aB .(b) .(e)) (af (b2 aB .(b) .(e)) (af (b2 bY .(q) (vC (.int 40))) (af (b2 bY .(q) (vC (.int 40))) (af .(b) ao)))))))
theorem Rr (ρ:aX):skF ρ=aa (.lst (rR.map D.int)):=by kernel_rfl
def srF:FE:=aF (szF (af (vC (.int 20)) (af (b2 aB .(b) .(e)) ao)))
theorem Oo (ρ:aX):srF ρ=aa (.lst (([20,1000001]:ac ag).map D.int)):=by kernel_rfl
def skm:FE:=aF (szF (af (vC (.int 21)) (af (vC (.int 21)) (af (vC (.int 7)) ao))))
theorem Km (ρ:aX):skm ρ=aa (.lst (([21,21,7]:ac ag).map D.int)):=by kernel_rfl
theorem DN {ds:ac ag} {a b c d e f:ag} (hl:ds.length=6) (h0:ds[0]?=aa a) (h1:ds[1]?=aa b) (h2:ds[2]?=aa c) (h3:ds[3]?=aa d) (h4:ds[4]?=aa e) (h5:ds[5]?=aa f):ds=[a,b,c,d,e,f]:=by
 match ds,hl with
 |[x,y,z,w,v,u],_=>
  cases h0;cases h1;cases h2;cases h3;cases h4;cases h5;rfl
theorem Qz {x y u w:D} :kL (.tup [x,y,z]) (.tup [u,w])=aa (.tup [x,y,z,u,w]):=by show(if [x,y,z]≠[]/\[u,w]≠[]/\[x,y,z].length+[u,w].length<=aL then aa (D.tup ([x,y,z]++[u,w])) else ae)=_;rw[qY ⟨by simp,by simp,by simp[aL]⟩];rfl
theorem QL {g:D->ar D} {x:D} (h1:f ρ=aa x) (h2:g x=aa z):b1 g f ρ=aa z:=by unfold b1;rw[h1,qa];exact h2
structure SkInv (sn:ac aj) (p i:ah) (ks:ac StockT):Prop where
 len:ks.length<=i
 good:∀k∈ks,GoodK sn k
 nms:∀k∈ks,∃j,j<i/\k.nm=nm (p+2) j
 nd:(ks.map (·.nm)).Nodup
abbrev skE (ns:ac ag) (p:ah) (ss:ac StepT) (ks:ac StockT) (k a b c d e f g h x y z w:ar Slot):aX:=[oS (.scr ns),oS (.int p),oS .(K),aa (.own (ks.map cZ)),k,a,b,c,d,e,f,g,h,x,y,z,w]
def Je (F:FQ):FE:=bO (szF (af (cF F (af (b2 aB (vSh 1) .(q)) (af (vSh 4) ao))) (af (b2 bu (vSh 8) (b2 aB (vSh 7) .(e))) (af (vSh 7) ao))))
def NK:FE:=b2 kL (vSh 16) (bO (szF (af (b2 ixD (vSh 12) .(f)) (af (b1 mz (b2 ixD (vSh 12) .(e))) ao))))
def EV:FS:=aw (aE 5 skF) (aw (gO (hV 6 (aM (ay 6) (aM (ay 7) (aM (ay 8) (aM (ay 9) (aM (ay 10) (aM (ay 11) bZ))))))) (cF dZ (af (vSh 0) (af (b2 aB (vC (.int 52)) (vSh 4)) (af (vSh 5) ao))))) (aw (aE 7 (b2 bu (vSh 7) (b2 ixD srF (vSh 6)))) (aw (kK 12 fun _=>aa 2) (aw (ci (itE (vSh 2)) (cs 2 (aM (ay 13) (aM (ay 14) bZ))) yA) (aw (aE 16 (Je fj)) (lO 12 (cb 3 NK)))))))
theorem L5 {p:ah} {k:ah} {a b c d e f g h x y z w:ar Slot} (hp:p<60) (hk:k<=6) (hl:ss.length<=40) (nd:(ss.map (·.nm)).Nodup) (v:SkInv (ss.map (·.nm)) p k ks) :
  ∃ks' a' b' c' d' e' f' g' h' x' y' z' w',EV (skE ns p ss ks (oS (.int (0+(k:ag)))) a b c d e f g h x y z w)=aa (.nx,skE ns p ss ks' (oS (.int (0+(k:ag)))) a' b' c' d' e' f' g' h' x' y' z' w')/\SkInv (ss.map (·.nm)) p (k+1) ks':=by
 have hk0:(0:ag)+(k:ag)=(k:ag):=by omega
 rw[hk0];obtain⟨ds,e1,hd,hq⟩:=iR ns (52+k) .(a) rR .(j) .(c);obtain⟨d0,q0,p0,p0'⟩:=hq 0 2 rfl;obtain⟨d1,q1,p1,p1'⟩:=hq 1 1000001 rfl;obtain⟨d2,q2,p2,p2'⟩:=hq 2 1000001 rfl;obtain⟨d3,q3,p3,p3'⟩:=hq 3 1099511627776 rfl;obtain⟨d4,q4,p4,p4'⟩:=hq 4 1099511627776 rfl;obtain⟨d5,q5,p5,p5'⟩:=hq 5 1000000 rfl;have hds:ds=[d0,d1,d2,d3,d4,d5]:=DN hd q0 q1 q2 q3 q4 q5;subst hds;have h01:d0=0\/d0=1:=by omega
 obtain⟨mx,hmx,mx1,mx2⟩:∃mx:ag,ixD (.lst (([20,1000001]:ac ag).map D.int)) (.int d0)=aa (.int mx)/\1<=mx/\mx<=1000001:=by
  rcases h01 with rfl|rfl
  .exact⟨20,rfl,by decide,by decide⟩
  .exact⟨1000001,rfl,by decide,by decide⟩
 have g1:0<=d1%mx:=qX _ .(a);have g2:d1%mx<mx:=qV _ .(a);have g3:0<=d2%(d1%mx+1):=qX _ .(a);have g4:d2%(d1%mx+1)<d1%mx+1:=qV _ .(a);have n1:=jS (p:=p+2) (k:=k) .(a) .(a);have e2:fj [.int ((p:ag)+2),.int (k:ag)]=aa (.str (nm (p+2) k)):=by rw[←n1.1];congr 2
 obtain⟨ρ1,l1,ta,pa,x1,y1,z1,l2,l3,l4⟩:=Mx (S:=oS (.scr ns)) (P:=oS (.int p)) (F:=aa (.own (ks.map cZ))) (K:=oS (.int (k:ag))) (B:=oS (.lst (rR.map D.int))) (r:=w) (ss:=ss) (sz:=d0) (rm:=d1%mx) (fi:=d2) (tk:=d3) (pt:=d4) (raw:=d5) (x:=x) (y:=y) (z:=z) hl nd h01;have yE:(ss.map (·.nm)).length=ss.length:=qe _;rw[←yE] at l3 l4;have hvl:=v.len;refine⟨ks++[⟨nm (p+2) k,d2%(d1%mx+1),d1%mx,ta,pa.reverse⟩],oS (.lst (rR.map D.int)),oS (.int d0),oS (.int (d1%mx)),oS (.int d2),oS (.int d3),oS (.int d4),oS (.int d5),oS (.lst [.lst (ta.map dW),.lst (pa.map dW)]),x1,y1,z1,oS (.tup [.str (nm (p+2) k),.int (d2%(d1%mx+1)),.int (d1%mx)]),?_,by rw[qi,qW];omega,fun u hu=>?_,fun u hu=>?_,?_⟩
 .refine(bJ (Rr _)).trans ?_;refine(mZ (ρ':=skE ns p ss ks (oS (.int (k:ag))) (oS (.lst (rR.map D.int))) (oS (.int d0)) (oS (.int d1)) (oS (.int d2)) (oS (.int d3)) (oS (.int d4)) (oS (.int d5)) h x y z w) (aY (aC rfl (aC (d:=.int ((52+k:ah):ag)) (aD rfl rfl ?_) .(S))) e1) rfl).trans ?_
  .show aa (D.int (52+(k:ag)))=_
   congr 2
  refine(bJ (d:=.int (d1%mx)) (aD (x:=.int d1) (y:=.int mx) rfl (aD (Oo _) rfl hmx) (dw .(a)))).trans ?_;refine(FF (m:=2) rfl).trans ?_;refine(dH ((f8 (xs:=(ss.map bD).mapIdx fun i d=>D.tup [.int i,d]) rfl).trans (l1.trans (by rw[l2])))).trans ?_;refine(bJ (oi (aY (aC (aD (x:=.int (p:ag)) (y:=.int 2) rfl rfl rfl) .(S)) e2) (aD (x:=.int d2) (y:=.int (d1%mx+1)) rfl (aD (x:=.int (d1%mx)) (y:=.int 1) rfl rfl rfl) (dw .(a))) rfl)).trans ?_;refine(BR (dss:=[ta.map dW,pa.map dW]) rfl).trans ?_;exact gu (g:=cZ) (xs:=ks) (x:=(⟨nm (p+2) k,d2%(d1%mx+1),d1%mx,ta,pa.reverse⟩:StockT)) rfl (aD (y:=.tup [.lst (ta.map dW),.lst (pa.reverse.map dW)]) rfl (iJ rfl (QL (x:=.lst (pa.map dW)) rfl (by rw[HC];rfl))) Qz) .(a)
 .rcases cD.mp hu with z|z
  .exact v.good u z
  .rw[b8.mp z];exact⟨n1.2.1,⟨g3,by show d2%(d1%mx+1)<=d1%mx;omega⟩,⟨g1,by show d1%mx<=1000000;omega⟩,l3.good,l4.good.rev⟩
 .rcases cD.mp hu with z|z
  .obtain⟨j,hj,e⟩:=v.nms u z;exact⟨j,sP hj,e⟩
  .rw[b8.mp z];exact⟨k,oY k,rfl⟩
 .rw[dS];refine lj.mpr ⟨v.nd,by simp,fun y hy z hz e=>?_⟩;obtain⟨u,hu,rfl⟩:=bQ.mp hy;obtain⟨j,hj,ej⟩:=v.nms u hu;have hz':z=nm (p+2) k:=by simpa using hz
  rw[ej,hz'] at e;exact bB (rj .(a) .(a) .(a) e) .(a)
theorem KW (ns:ac ag) (p:ah) (ss:ac StepT) (hp:p<60) (hl:ss.length<=40) (nd:(ss.map (·.nm)).Nodup) :
  ∃ks:ac StockT,tN [.scr ns,.int (p:ag),.lst (ss.map bD)]=aa (.lst (ks.map cZ))/\ks.length<=6/\(∀k∈ks,GoodK (ss.map (·.nm)) k)/\(ks.map (·.nm)).Nodup:=by
 obtain⟨ds,e1,hd,hq⟩:=iR ns 2 .(a) [21,21,7] .(c) .(c);obtain⟨d1,q1,p1,p1'⟩:=hq 2 7 rfl;obtain⟨m,rfl⟩:∃m:ah,d1=(m:ag):=⟨d1.toNat,by omega⟩;obtain⟨ρ',h1,ks,k,a,b,c,d,e,f,g,h,x,y,z,w,h2,v⟩:=gC (gg:=ay 4) (body:=EV) (xs:=(cz m).map fun i:ah=>D.int (0+(i:ag))) (ρ:=skE ns p ss [] ae ae ae ae ae ae ae ae ae ae ae ae ae)
  (fun i ρ=>∃ks k a b c d e f g h x y z w,ρ=skE ns p ss ks k a b c d e f g h x y z w/\SkInv (ss.map (·.nm)) p i ks) ⟨[],ae,ae,ae,ae,ae,ae,ae,ae,ae,ae,ae,ae,ae,rfl,qv _,fun l hl=>(by cases hl),fun l hl=>(by cases hl),lh⟩ (fun i x ρ hx hI=>by
   obtain⟨ks,k,a,b,c,d,e,f,g,h,x,y,z,w,rfl,v⟩:=hI;rw[qj] at hx;obtain⟨j,hj,rfl⟩:=oMd hx;have hi:i<m:=by simpa using(db.mp hj).1
   have hji:i=j:=by rw[mj hi] at hj;exact qH hj
   subst hji;obtain⟨ks',a',b',c',d',e',f',g',h',x',y',z',w',t1,t2⟩:=L5 (ns:=ns) (p:=p) (ss:=ss) (ks:=ks) (k:=i) (a:=a) (b:=b) (c:=c) (d:=d) (e:=e) (f:=f) (g:=g) (h:=h) (x:=x) (y:=y) (z:=z) (w:=w) hp .(a) hl nd v;exact⟨_,_,rfl,t1,ks',_,_,_,_,_,_,_,_,_,_,_,_,_,rfl,t2⟩)
 rw[qe,qU] at v;have vl:=v.len;refine⟨ks,?_,by omega,v.good,v.nd⟩;have hz:=kW (j:=(m:ag)) .(a);rw[iW] at hz;unfold tN;exact bW (ρ':=(skE ns p ss ks k a b c d e f g h x y z w).set 3 (oS (.lst (ks.map cZ)))) [oS (.scr ns),oS (.int p),oS .(K),ae,ae,ae,ae,ae,ae,ae,ae,ae,ae,ae,ae,ae,ae] rfl (iB.trans ((dH ((f8 (jG (aC (ku (n:=2) (aY (aC rfl (aC (d:=.int ((2:ah):ag)) rfl (aC (Km _) aS))) e1) q1) aS) hz)).trans (h1.trans (by rw[h2])))).trans ((iK rfl).trans (cg (f:=vSh 3) rfl))))
def fF (bs:ac BenchT) (ss:ac StepT) (js:ac JobT) (us:ac SetT) (ls:ac LinkT) (ks:ac StockT) (h:ag):ac D:=[.lst (bs.map cc),.lst (ss.map bD),.lst (js.map bN),.lst (us.map cB),.lst (ls.map cR),.lst (ks.map cZ),.int h]
noncomputable def FV:ac ag:=[60,8,3,40,3,1000000]
def shF:FE:=aF (szF (af (vC (.int 60)) (af (vC (.int 8)) (af .(F) (af (vC (.int 40)) (af .(F) (af .(b) ao)))))))
theorem JW (ρ:aX):shF ρ=aa (.lst (FV.map D.int)):=by kernel_rfl
def hzF:FE:=aF (szF (af (vC (.int 12)) (af (vC (.int 400)) (af .(b) ao))))
theorem O8 (ρ:aX):hzF ρ=aa (.lst (([12,400,1000000]:ac ag).map D.int)):=by kernel_rfl
def cnF:FE:=aF (szF (af .(F) (af (vC (.int 8)) (af (vC (.int 40)) ao))))
theorem QH (ρ:aX):cnF ρ=aa (.lst (([3,8,40]:ac ag).map D.int)):=by kernel_rfl
theorem Pg {x5 x6 x7:D} (h1:f1 ρ=aa x1) (h2:f2 ρ=aa x2) (h3:f3 ρ=aa x3) (h4:f4 ρ=aa x4) (h5:f5 ρ=aa x5) (h6:f6 ρ=aa x6) (h7:f7 ρ=aa x7):aF (szF (af f1 (af f2 (af f3 (af f4 (af f5 (af f6 (af f7 ao)))))))) ρ=aa (.lst [x1,x2,x3,x4,x5,x6,x7]):=by simp only[aF,szF,af,ao,h1,h2,h3,h4,h5,h6,h7,qa,qd,qh,qk,g0,sz7,cr]
theorem Of (ns:ac ag):∃bs ss js us ls ks h,tO [.scr ns]=aa .(y)/\Good bs ss js us ls ks h/\(js.flatMap (·.ms)).length<=300/\js.length<=9/\us.length<=20/\ls.length<=20:=by
 obtain⟨ds,e1,hd,hq⟩:=iR ns 0 .(a) FV .(c) .(c);obtain⟨d0,q0,p0,p0'⟩:=hq 0 60 rfl;obtain⟨d1,q1,p1,p1'⟩:=hq 1 8 rfl;obtain⟨d2,q2,p2,p2'⟩:=hq 2 3 rfl;obtain⟨d3,q3,p3,p3'⟩:=hq 3 40 rfl;obtain⟨d4,q4,p4,p4'⟩:=hq 4 3 rfl;obtain⟨d5,q5,p5,p5'⟩:=hq 5 1000000 rfl;obtain⟨p,rfl⟩:∃m:ah,d0=(m:ag):=⟨d0.toNat,by omega⟩;obtain⟨m,rfl⟩:∃m:ah,d1=(m:ag):=⟨d1.toNat,by omega⟩;have hds:ds=[(p:ag),(m:ag),d2,d3,d4,d5]:=DN hd q0 q1 q2 q3 q4 q5;subst hds;obtain⟨mx,hmx,mx1,mx2⟩:∃mx:ag,ixD (.lst (([12,400,1000000]:ac ag).map D.int)) (.int d4)=aa (.int mx)/\1<=mx/\mx<=1000000:=by
  have:d4=0\/d4=1\/d4=2:=by omega
  rcases this with rfl|rfl|rfl
  .exact⟨12,rfl,by decide,by decide⟩
  .exact⟨400,rfl,by decide,by decide⟩
  .exact⟨1000000,rfl,by decide,by decide⟩
 obtain⟨cx,hcx,cx1,cx2⟩:∃mx:ag,ixD (.lst (([3,8,40]:ac ag).map D.int)) (.int d2)=aa (.int mx)/\1<=mx/\mx<=40:=by
  have:d2=0\/d2=1\/d2=2:=by omega
  rcases this with rfl|rfl|rfl
  .exact⟨3,rfl,by decide,by decide⟩
  .exact⟨8,rfl,by decide,by decide⟩
  .exact⟨40,rfl,by decide,by decide⟩
 have g1:0<=d5%mx:=qX _ .(a);have g2:d5%mx<mx:=qV _ .(a);have g3:0<=d3%cx:=qX _ .(a);have g4:d3%cx<cx:=qV _ .(a);have hh:1<=1+d5%mx/\1+d5%mx<=1000000:=by omega
 generalize hH:1+d5%mx=h at hh;obtain⟨n,hn⟩:∃n:ah,1+d3%cx=(n:ag):=⟨(1+d3%cx).toNat,by omega⟩;obtain⟨bs,b1,b2',b3⟩:=NB ns p (1+m) h .(a) .(a);have hbn:∀(i:ah) b,bs[i]?=aa b->b.nm=nm p i:=fun i b hb=>(b3 i b hb).nm;have hB:1<=bs.length/\bs.length<=8:=by omega
 obtain⟨ss,s1,s2,s3⟩:=KC ns p n bs h .(a) .(a) hh.1 hB hbn;have hS:1<=ss.length/\ss.length<=40:=by omega
 have gB:∀x∈bs,GoodB h x:=fun x hx=>by obtain⟨i,hi⟩:=v5 hx;have:=b3 i x hi;have hi':=(db.mp hi).1;exact⟨by rw[this.nm];exact(jS .(a) .(a)).2.1,this.len,this.good.iv,this.good.gap⟩
 have gS:∀x∈ss,GoodS (bs.map (·.nm)) h x:=fun x hx=>by obtain⟨i,hi⟩:=v5 hx;exact(s3 i x hi).good
 have bnd:(bs.map (·.nm)).Nodup:=wF (n:=8) (g:=fun i=>nm p i) hB.2 (fun i hi j hj e=>rj .(a) .(a) .(a) e) hbn;have snd:(ss.map (·.nm)).Nodup:=wF (n:=40) (g:=fun i=>nm p (20*(p%2)+i)) hS.2 (fun i hi j hj e=>by have:=rj .(a) .(a) .(a) e;omega) fun i s hs=>(s3 i s hs).nm;have hbN:∀x∈bs.map (·.nm),bi x=al:=fun x hx=>by obtain⟨b,hb,rfl⟩:=bQ.mp hx;exact(gB b hb).nm
 have hsN:∀x∈ss.map (·.nm),bi x=al:=fun x hx=>by obtain⟨b,hb,rfl⟩:=bQ.mp hx;exact(gS b hb).nm
 obtain⟨js,j1,j2,j3,j4,j5,j6⟩:=Kg ns p ss h .(a) hh hS.2 hsN snd;obtain⟨us,u1,u2,u3,u4⟩:=Ix ns bs p h .(a) hh.1 hB.1 hbN;obtain⟨ls,l1,l2,l3,l4⟩:=Nt ns ss h hh.1 hS.1 hsN;obtain⟨ks,k1,k2,k3,k4⟩:=KW ns p ss .(a) hS.2 snd;refine⟨bs,ss,js,us,ls,ks,h,?_,⟨hh,hB,gB,bnd,hS,gS,snd,by omega,j3,j4,j5,by omega,u3,u4,by omega,l3,l4,k2,k3,k4⟩,by omega,j2,u2,l2⟩;have eb:rT [.scr ns,.int (p:ag),.int (1+(m:ag)),.int h]=aa .(ak):=by rw[←b1];congr 2
 unfold tO;refine bW (ρ':=[oS (.scr ns),oS (.int p),oS (.int m),oS (.int d2),oS (.int d3),oS (.int d4),oS (.int d5),oS (.int h),oS .(ak),oS .(K),oS .(Z),oS (.lst (us.map cB)),oS (.lst (ls.map cR)),oS (.lst (ks.map cZ))]) [oS (.scr ns),ae,ae,ae,ae,ae,ae,ae,ae,ae,ae,ae,ae,ae] rfl ?_;refine(mZ (ρ':=[oS (.scr ns),oS (.int p),oS (.int m),oS (.int d2),oS (.int d3),oS (.int d4),oS (.int d5),ae,ae,ae,ae,ae,ae,ae]) (aY (aC rfl (aC (d:=.int ((0:ah):ag)) rfl (aC (JW _) aS))) e1) rfl).trans ?_;refine(bJ (d:=.int h) (aD (x:=.int 1) (y:=.int (d5%mx)) rfl (aD (x:=.int d5) (y:=.int mx) rfl (aD (O8 _) rfl hmx) (dw .(a))) (by rw[←hH];rfl))).trans ?_;refine(bJ (aY (aC rfl (aC rfl (aC (aD (x:=.int 1) (y:=.int (m:ag)) rfl rfl rfl) .(S)))) eb)).trans ?_;refine(bJ (aY (aC rfl (aC rfl (aC (d:=.int (n:ag)) (aD (x:=.int 1) (y:=.int (d3%cx)) rfl (aD (x:=.int d3) (y:=.int cx) rfl (aD (QH _) rfl hcx) (dw .(a))) (by rw[←hn];rfl)) (aC rfl .(S))))) s1)).trans ?_;refine(bJ (aY (aC rfl (aC rfl (aC rfl .(S)))) j1)).trans ?_;refine(bJ (aY (aC rfl (aC rfl (aC rfl .(S)))) u1)).trans ?_;refine(bJ (aY (aC rfl (aC rfl .(S))) l1)).trans ?_;refine(bJ (aY (aC rfl (aC rfl .(S))) k1)).trans ?_;exact cg (Pg rfl rfl rfl rfl rfl rfl rfl)
theorem gb :∀{ρ:ac α},ρ.length=n+1->∃a r,ρ=a::r/\r.length=n
 |a::r,h=>⟨a,r,rfl,Nat.succ.inj h⟩
theorem nX (h:ρ.length=17):∃a2 a3 a4 a5 a6 a7 a8 a9 a10 a11 a12 a13 a14 a15 a16 a17 a18,ρ=[a2,a3,a4,a5,a6,a7,a8,a9,a10,a11,a12,a13,a14,a15,a16,a17,a18]:=by
 obtain⟨a2,r2,rfl,h2⟩:=gb h;obtain⟨a3,r3,rfl,h3⟩:=gb h2;obtain⟨a4,r4,rfl,h4⟩:=gb h3;obtain⟨a5,r5,rfl,h5⟩:=gb h4;obtain⟨a6,r6,rfl,h6⟩:=gb h5;obtain⟨a7,r7,rfl,h7⟩:=gb h6;obtain⟨a8,r8,rfl,h8⟩:=gb h7;obtain⟨a9,r9,rfl,h9⟩:=gb h8;obtain⟨a10,r10,rfl,h10⟩:=gb h9;obtain⟨a11,r11,rfl,h11⟩:=gb h10;obtain⟨a12,r12,rfl,h12⟩:=gb h11;obtain⟨a13,r13,rfl,h13⟩:=gb h12;obtain⟨a14,r14,rfl,h14⟩:=gb h13;obtain⟨a15,r15,rfl,h15⟩:=gb h14;obtain⟨a16,r16,rfl,h16⟩:=gb h15;obtain⟨a17,r17,rfl,h17⟩:=gb h16;obtain⟨a18,r18,rfl,h18⟩:=gb h17;cases r18 with
 |nil=>exact⟨a2,a3,a4,a5,a6,a7,a8,a9,a10,a11,a12,a13,a14,a15,a16,a17,a18,rfl⟩
 |cons=>cases h18
theorem ni {gg:FG} {body:FS} {α:Type} {dx:α->D} {g:α->aj} {P:ar Slot}:∀{xs:ac α} {acc:ac aj} {r:aX},r.length=17->acc.length+xs.length<=1000->(∀x∈xs,∀(acc:ac aj) (r:aX),r.length=17->acc.length<=1000->∃ρ1 r',gg (dx x) (P::aa .(au)::r)=aa ρ1/\body ρ1=aa (.nx,P::aa (.own ((acc++[g x]).map D.str))::r')/\r'.length=17)->
  ∃r',dj gg body (xs.map dx) (P::aa .(au)::r)=aa (.nx,P::aa (.own ((acc++xs.map g).map D.str))::r')/\r'.length=17
 |[],acc,r,hr,_,_=>⟨r,by rw[qO,qO,iV];rfl,hr⟩
 |x::xs,acc,r,hr,hl,h=>by rw[qh] at hl;obtain⟨ρ1,r1,h1,h2,h3⟩:=h x qf acc r hr .(a);obtain⟨r',h4,h5⟩:=ni (xs:=xs) (acc:=acc++[g x]) h3 (by rw[qi,qW];omega) fun y hy=>h y (qg _ hy);refine⟨r',?_,h5⟩;rw[qm,qm,List.append_cons];simp only[dj,h1,qa,h2,h4]
theorem Cf (u:SetT):bV " " ["setup",u.b,u.p,u.q,tx u.n]=rU u:=by
 show AA " " _=_;rw[lm];show("setup":aj)++" "++(u.b++" "++(u.p++" "++(u.q++" "++tx u.n)))=_;have e:("setup ":aj)="setup"++" ":=by decide +kernel
 unfold rU;rw[e];simp only[AB]
section
variable {bn acc:ac aj} {P:ar Slot} {r:aX}
theorem Mg {b:BenchT} (g:GoodB h b) (hh:h<=1000000) (hr:r.length=17) (hl:acc.length<=1000) :
  ∃ρ1 r',cs 2 (aM (ay 2) (aM (ay 3) bZ)) (cc b) (P::aa .(au)::r)=aa ρ1/\(aw (aE 4 (aF (bh (itF (vSh 3)) g2 tT (b2 aB (b2 aB (cF dn .(n)) (vC (.str "-"))) (cF dn .(w))) [ae,ae]))) (cb 1 (mF fC (vC (.str " ")) (af (b2 aB (aF (szF (af (vC (.str "bench")) .(aW)))) (vSh 4)) ao)))) ρ1=aa (.nx,P::aa (.own ((acc++[rB b]).map D.str))::r')/\r'.length=17:=by
 obtain⟨a2,a3,a4,a5,a6,a7,a8,a9,a10,a11,a12,a13,a14,a15,a16,a17,a18,rfl⟩:=nX hr;have gl:=g.len;exact⟨P::aa .(au)::[oS (.str b.nm),oS (.lst (b.br.map dIv)),a4,a5,a6,a7,a8,a9,a10,a11,a12,a13,a14,a15,a16,a17,a18],[oS (.str b.nm),oS (.lst (b.br.map dIv)),oS (.lst ((b.br.map pI).map D.str)),a5,a6,a7,a8,a9,a10,a11,a12,a13,a14,a15,a16,a17,a18],rfl,
  (bJ (HU (fi:=itF (vSh 3)) rfl .(a) (g.bd hh))).trans (gu (g:=D.str) (xs:=acc) (x:=rB b) rfl (rf (ys:=wB b) (lC (x:=["bench",b.nm]) (y:=b.br.map pI) (lR rfl (by simp)) rfl (by rw[qe];simp only[qh,qk];omega)) (Cc g hh)) hl),rfl⟩
theorem RY {s:StepT} (g:GoodS bn h s) (hb:∀y∈bn,bi y=al) (hh:h<=1000000) (hr:r.length=17) (hl:acc.length<=1000) :
  ∃ρ1 r',cs 3 (aM (ay 2) (aM (ay 5) (aM (ay 6) bZ))) (bD s) (P::aa .(au)::r)=aa ρ1/\(aw (aE 4 (aF (bh (itF (vSh 6)) g2 tT (b2 aB (b2 aB (vSh 0) (vC (.str "/"))) (cF dn .(w))) [ae,ae]))) (cb 1 (mF fC (vC (.str " ")) (af (b2 aB (aF (szF (af (vC (.str "step")) (af (vSh 2) (af (vSh 5) ao))))) (vSh 4)) ao)))) ρ1=aa (.nx,P::aa (.own ((acc++[rS s]).map D.str))::r')/\r'.length=17:=by
 obtain⟨a2,a3,a4,a5,a6,a7,a8,a9,a10,a11,a12,a13,a14,a15,a16,a17,a18,rfl⟩:=nX hr;have gl:=g.l4;exact⟨P::aa .(au)::[oS (.str s.nm),a3,a4,oS (.str s.kd),oS (.lst (s.ws.map dW)),a7,a8,a9,a10,a11,a12,a13,a14,a15,a16,a17,a18],[oS (.str s.nm),a3,oS (.lst ((s.ws.map (pW "/")).map D.str)),oS (.str s.kd),oS (.lst (s.ws.map dW)),a7,a8,a9,a10,a11,a12,a13,a14,a15,a16,a17,a18],rfl,
  (bJ (yI (s:="/") (fi:=itF (vSh 6)) EA rfl .(a) (g.bd hb hh))).trans (gu (g:=D.str) (xs:=acc) (x:=rS s) rfl (rf (ys:=wS s) (lC (x:=["step",s.nm,s.kd]) (y:=s.ws.map (pW "/")) (lR rfl (by simp)) rfl (by rw[qe];simp only[qh,qk];omega)) (Bi g hb hh)) hl),rfl⟩
theorem KI {j:JobT} (g:GoodJ sn h j) (hb:∀y∈sn,bi y=al) (hs:sn.length<=40) (hh:h<=1000000) (hr:r.length=17) (hl:acc.length<=1000) :
  ∃ρ1 r',cs 5 (aM (ay 2) (aM (ay 7) (aM (ay 8) (aM (ay 9) (aM (ay 10) bZ))))) (bN j) (P::aa .(au)::r)=aa ρ1/\X8 ρ1=aa (.nx,P::aa (.own ((acc++[rJ j]).map D.str))::r')/\r'.length=17:=by
 obtain⟨a2,a3,a4,a5,a6,a7,a8,a9,a10,a11,a12,a13,a14,a15,a16,a17,a18,rfl⟩:=nX hr;have gl:=g.ln;refine⟨P::aa .(au)::[oS (.str j.nm),a3,a4,a5,a6,oS (.int j.ea),oS (.int j.du),oS (.bl j.od),oS (.lst (j.ms.map D.str)),a11,a12,a13,a14,a15,a16,a17,a18],[oS (.str j.nm),a3,oS (.lst (([("job":aj),j.nm,tx j.ea,tx j.du]:ac aj).map D.str)),a5,a6,oS (.int j.ea),oS (.int j.du),oS (.bl j.od),oS (.lst (j.ms.map D.str)),a11,a12,a13,a14,a15,a16,a17,a18],rfl,
  (bJ (d:=.lst (([("job":aj),j.nm,tx j.ea,tx j.du]:ac aj).map D.str)) (lR (aC rfl (aC rfl (aC (j7 rfl g.ea.1 (sS g.ea.2 hh)) (aC (j7 rfl g.du.1 (sS g.du.2 hh)) aS)))) (by simp))).trans (gu (g:=D.str) (xs:=acc) (x:=rJ j) rfl (rf (ys:=wJ j) (lC (x:=([("job":aj),j.nm,tx j.ea,tx j.du]:ac aj)++[if j.od then ("in":aj) else ("of":aj)]) (y:=j.ms) (lC (x:=([("job":aj),j.nm,tx j.ea,tx j.du]:ac aj)) (y:=[if j.od then ("in":aj) else ("of":aj)]) rfl (lR (aC (d:=.str (if j.od then ("in":aj) else ("of":aj))) ?_ aS) (by simp)) (by simp)) rfl (by simp only[qi,qh,qk];omega)) (AJ g hb hs hh)) hl),rfl⟩
 refine aD (x:=.lst ([("of":aj),"in"].map D.str)) (y:=.int (if j.od then 1 else 0)) (lR rfl (by simp)) (aY .(S) rfl) ?_;cases j.od
 .exact ixL _ 0
 .exact ixL _ 1
theorem Pc {u:SetT} (g:GoodU bn h u) (hb:∀y∈bn,bi y=al) (hh:h<=1000000) (hr:r.length=17) (hl:acc.length<=1000) :
  ∃ρ1 r',ay 11 (cB u) (P::aa .(au)::r)=aa ρ1/\Xd ρ1=aa (.nx,P::aa (.own ((acc++[rU u]).map D.str))::r')/\r'.length=17:=by
 obtain⟨a2,a3,a4,a5,a6,a7,a8,a9,a10,a11,a12,a13,a14,a15,a16,a17,a18,rfl⟩:=nX hr;have a1':=(fg (hb _ g.b)).2;have a2':=(fg g.p).2;have a3':=(fg g.q).2;have q1:0<=u.n:=by have:=g.n;omega
 have q2:u.n<=1000000:=by have:=g.n;omega
 have a4':=iy q1 q2;refine⟨P::aa .(au)::[a2,a3,a4,a5,a6,a7,a8,a9,a10,oS (cB u),a12,a13,a14,a15,a16,a17,a18],[a2,a3,a4,a5,a6,a7,a8,a9,a10,oS (cB u),a12,a13,a14,a15,a16,a17,a18],rfl,
  gu (g:=D.str) (xs:=acc) (x:=rU u) rfl (Eq.trans (rf (ys:=(["setup",u.b,u.p,u.q,tx u.n]:ac aj)) (lC (x:=(["setup",u.b,u.p,u.q]:ac aj)) (y:=[tx u.n]) (lC (x:=(["setup"]:ac aj)) (y:=[u.b,u.p,u.q]) (lR rfl (by simp)) (aY (aC (d:=.tup [.str u.b,.str u.p,.str u.q]) ?_ aS) rfl) (by simp)) (lR (aC (j7 (aD rfl rfl rZ) q1 q2) aS) (by simp)) (by simp)) ⟨fun y hy=>?_,by simp⟩) (by rw[Cf])) hl,rfl⟩
 .rfl
 .have:y="setup"\/y=u.b\/y=u.p\/y=u.q\/y=tx u.n:=by simpa using hy
  rcases this with rfl|rfl|rfl|rfl|rfl
  .rw[kS.2.2.2.2.2.2.2.2.1];omega
  .omega
  .omega
  .omega
  .omega
theorem Ov {l:LinkT} (g:GoodL sn h l) (hb:∀y∈sn,bi y=al) (hh:h<=1000000) (hr:r.length=17) (hl:acc.length<=1000) :
  ∃ρ1 r',cs 3 (aM (ay 12) (aM (ay 13) (aM (ay 14) bZ))) (cR l) (P::aa .(au)::r)=aa ρ1/\(cb 1 (b2 aB (b2 aB (b2 aB (b2 aB (b2 aB (vC (.str "link ")) (vSh 12)) (vC (.str " "))) (vSh 13)) (vC (.str " "))) (cF dn (af (vSh 14) ao)))) ρ1=aa (.nx,P::aa (.own ((acc++[rL l]).map D.str))::r')/\r'.length=17:=by
 obtain⟨a2,a3,a4,a5,a6,a7,a8,a9,a10,a11,a12,a13,a14,a15,a16,a17,a18,rfl⟩:=nX hr;have a1':=(fg (hb _ g.a)).2;have a2':=(fg (hb _ g.b)).2;have q1:0<=l.g:=g.g.1;have q2:l.g<=1000000:=by have:=g.g;omega
 have a4':=iy q1 q2;have w1:=kS.2.2.2.2.2.2.2.1;exact⟨P::aa .(au)::[a2,a3,a4,a5,a6,a7,a8,a9,a10,a11,oS (.str l.a),oS (.str l.b),oS (.int l.g),a15,a16,a17,a18],[a2,a3,a4,a5,a6,a7,a8,a9,a10,a11,oS (.str l.a),oS (.str l.b),oS (.int l.g),a15,a16,a17,a18],rfl,
  gu (g:=D.str) (xs:=acc) (x:=rL l) rfl (jE (jE (jE (jE (jE rfl rfl .(a)) rfl (by simp only[gj,rA,w1];omega)) rfl (by simp only[gj,rA,w1];omega)) rfl (by simp only[gj,rA,w1];omega)) (j7 rfl q1 q2) (by simp only[gj,rA,w1];omega)) hl,rfl⟩
theorem P1 {k:StockT} (g:GoodK sn k) (hb:∀y∈sn,bi y=al) (hs:sn.length<=40) (hr:r.length=17) (hl:acc.length<=1000) :
  ∃ρ1 r',cs 5 (aM (ay 2) (aM (ay 15) (aM (ay 16) (aM (ay 17) (aM (ay 18) bZ))))) (cZ k) (P::aa .(au)::r)=aa ρ1/\(aw (aE 4 (aF (szF (af (vC (.str "stock")) (af (vSh 2) (af (cF dn (af (vSh 15) ao)) (af (cF dn (af (vSh 16) ao)) ao))))))) (aw (aE 4 (b2 aB (vSh 4) (aF (bh (itF (vSh 17)) g2 tT (b2 aB (b2 aB (vSh 0) (vC (.str "-"))) (cF dn .(w))) [ae,ae])))) (aw (aE 4 (b2 aB (vSh 4) (aF (bh (itF (vSh 18)) g2 tT (b2 aB (b2 aB (vSh 0) (vC (.str "+"))) (cF dn .(w))) [ae,ae])))) (cb 1 (mF fC (vC (.str " ")) (af (vSh 4) ao)))))) ρ1=aa (.nx,P::aa (.own ((acc++[rK k]).map D.str))::r')/\r'.length=17:=by
 obtain⟨a2,a3,a4,a5,a6,a7,a8,a9,a10,a11,a12,a13,a14,a15,a16,a17,a18,rfl⟩:=nX hr;have gl:=g.tk.ln;have gm:=g.pt.ln;exact⟨P::aa .(au)::[oS (.str k.nm),a3,a4,a5,a6,a7,a8,a9,a10,a11,a12,a13,a14,oS (.int k.lo),oS (.int k.hi),oS (.lst (k.tk.map dW)),oS (.lst (k.pt.map dW))],[oS (.str k.nm),a3,oS (.lst ((wK k).map D.str)),a5,a6,a7,a8,a9,a10,a11,a12,a13,a14,oS (.int k.lo),oS (.int k.hi),oS (.lst (k.tk.map dW)),oS (.lst (k.pt.map dW))],rfl,
  (bJ (d:=.lst (([("stock":aj),k.nm,tx k.lo,tx k.hi]:ac aj).map D.str)) (lR (aC rfl (aC rfl (aC (j7 rfl g.lo.1 (sS g.lo.2 g.hi.2)) (aC (j7 rfl g.hi.1 g.hi.2) aS)))) (by simp))).trans ((bJ (lC (x:=([("stock":aj),k.nm,tx k.lo,tx k.hi]:ac aj)) (y:=k.tk.map (pW "-")) rfl (yI (s:="-") (fi:=itF (vSh 17)) pX rfl .(a) (g.tk.bd hb)) (by simp only[qi,qe,qh,qk];omega))).trans ((bJ (lC (x:=([("stock":aj),k.nm,tx k.lo,tx k.hi]:ac aj)++k.tk.map (pW "-")) (y:=k.pt.map (pW "+")) rfl (yI (s:="+") (fi:=itF (vSh 18)) AN rfl .(a) (g.pt.bd hb)) (by simp only[qi,qe,qh,qk];omega))).trans (gu (g:=D.str) (xs:=acc) (x:=rK k) rfl (rf (ys:=wK k) rfl (Dn g hb hs)) hl))),rfl⟩
end
section
variable {bs:ac BenchT}
theorem oo {body E:FS} {o:ar Slot} {r:aX} {R:ar (Fl×aX)} (hx:(fF bs ss js us ls ks h)[n]?=aa (.lst xs)) (hf:dj gg body xs (oS .(y)::o::r)=aa (.nx,ρ')) (hE:E ρ'=R):aw (ci (itF (b2 ixD (vSh 0) (vC (.int (n:ag))))) gg body) E (oS .(y)::o::r)=R:=
 (dH ((f8 (mQ (aD rfl rfl ((ixL _ n).trans hx)))).trans hf)).trans hE
theorem Lf (g:Good bs ss js us ls ks h):uT [.lst (fF bs ss js us ls ks h)]=aa (.lst ((tG bs ss js us ls ks h).map D.str)):=by
 have b1:=g.bl.2;have b2:=g.sl.2;have b3:=g.kl;have b4:=g.jl;have b5:=g.ul;have b6:=g.ll;have hh:=g.hh;have sl:(ss.map (·.nm)).length<=40:=by rw[qe];exact g.sl.2
 have hz:=iy (i:=h) .(a) hh.2;unfold uT;obtain⟨r1,f1,g1⟩:=ni (P:=oS .(y)) (dx:=cc) (g:=rB) (xs:=bs) (acc:=[("horizon ":aj)++tx h]) (r:=bS 17 ae) rfl (by simp only[qi,qe,qh,qk];omega) fun x hx acc r hr hl=>Mg (P:=oS .(y)) (g.b x hx) hh.2 hr hl;obtain⟨r2,f2,g2'⟩:=ni (P:=oS .(y)) (dx:=bD) (g:=rS) (xs:=ss) (acc:=[("horizon ":aj)++tx h]++bs.map rB) (r:=r1) g1 (by simp only[qi,qe,qh,qk];omega) fun x hx acc r hr hl=>RY (P:=oS .(y)) (g.s x hx) g.bnn hh.2 hr hl;obtain⟨r3,f3,g3⟩:=ni (P:=oS .(y)) (dx:=bN) (g:=rJ) (xs:=js) (acc:=[("horizon ":aj)++tx h]++bs.map rB++ss.map rS) (r:=r2) g2' (by simp only[qi,qe,qh,qk];omega) fun x hx acc r hr hl=>KI (P:=oS .(y)) (g.j x hx) g.snn sl hh.2 hr hl;obtain⟨r4,f4,g4⟩:=ni (P:=oS .(y)) (dx:=cB) (g:=rU) (xs:=us) (acc:=[("horizon ":aj)++tx h]++bs.map rB++ss.map rS++js.map rJ) (r:=r3) g3 (by simp only[qi,qe,qh,qk];omega) fun x hx acc r hr hl=>Pc (P:=oS .(y)) (g.u x hx) g.bnn hh.2 hr hl;obtain⟨r5,f5,g5⟩:=ni (P:=oS .(y)) (dx:=cR) (g:=rL) (xs:=ls) (acc:=[("horizon ":aj)++tx h]++bs.map rB++ss.map rS++js.map rJ++us.map rU) (r:=r4) g4 (by simp only[qi,qe,qh,qk];omega) fun x hx acc r hr hl=>Ov (P:=oS .(y)) (g.l x hx) g.snn hh.2 hr hl;obtain⟨r6,f6,g6⟩:=ni (P:=oS .(y)) (dx:=cZ) (g:=rK) (xs:=ks) (acc:=[("horizon ":aj)++tx h]++bs.map rB++ss.map rS++js.map rJ++us.map rU++ls.map rL) (r:=r5) g5 (by simp only[qi,qe,qh,qk];omega) fun x hx acc r hr hl=>P1 (P:=oS .(y)) (g.k x hx) g.snn sl hr hl;refine bW (ρ':=oS .(y)::oS (.lst ((tG bs ss js us ls ks h).map D.str))::r6) (oS .(y)::ae::bS 17 ae) rfl ?_;refine(J6 (ys:=[("horizon ":aj)++tx h]) (aC (d:=.str (("horizon ":aj)++tx h)) (jE rfl (j7 (aD rfl rfl (ixL _ 6)) .(a) hh.2) (by rw[kS.2.2.2.2.2.2.2.2.2];omega)) aS) (by simp)).trans ?_;refine oo (n:=0) rfl f1 (oo (n:=1) rfl f2 (oo (n:=2) rfl f3 (oo (n:=3) rfl f4 (oo (n:=4) rfl f5 (oo (n:=5) rfl f6 ?_)))));exact(iK rfl).trans (cg (f:=vSh 1) rfl)
end
noncomputable def Sm:ah->D->Prop
 |0,_=>False
 |n+1,.lst l=>∀x∈l,Sm n x
 |n+1,.tup l=>∀x∈l,Sm n x
 |_+1,.bl _=>True
 |_+1,.int _=>True
 |_+1,.str x=>Hz x=al
 |_+1,_=>False
noncomputable def SmP (n:ah) (d:D):Prop:=∃p,pdD d=aa p/\iH p=al/\p.depth<=n/\fM p p=al
theorem wQ {n:ah}:∀{l:ac D},(∀x∈l,SmP n x)->∃ps,fH l=aa ps/\gf ps=al/\jv ps<=n/\mq ps ps=al
 |[],_=>⟨[],by simp[fH],by simp[gf],by simp[jv],by simp[mq]⟩
 |x::r,h=>by obtain⟨p,a1,a2,a3,a4⟩:=h x qf;obtain⟨ps,b1,b2,b3,b4⟩:=wQ (l:=r) fun y hy=>h y (qg _ hy);refine⟨p::ps,by simp[fH,a1,b1],by simp[gf,a2,b2],?_,by simp[mq,a4,b4]⟩;simp only[jv];omega
theorem xx:∀(n:ah) (d:D),Sm n d->SmP n d
 |0,_,h=>h.elim
 |n+1,.lst l,h=>by
  obtain⟨ps,b1,b2,b3,b4⟩:=wQ (n:=n) (l:=l) fun x hx=>xx n x (h x hx);exact⟨.list ps,by simp[pdD,b1],by simp[iH,b2],by simp only[jz];omega,by simp[fM,b4]⟩
 |n+1,.tup l,h=>by
  obtain⟨ps,b1,b2,b3,b4⟩:=wQ (n:=n) (l:=l) fun x hx=>xx n x (h x hx);exact⟨.tuple ps,by simp[pdD,b1],by simp[iH,b2],by simp only[jz];omega,by simp[fM,b4]⟩
 |n+1,.bl b,h=>⟨.bool b,by simp[pdD],by simp[iH],by simp[jz],by simp[fM]⟩
 |n+1,.int i,h=>⟨.int i,by simp[pdD],by simp[iH],by simp[jz],by simp[fM]⟩
 |n+1,.str x,h=>⟨.str x,by simp[pdD],by simp only[iH];exact h,by simp[jz],by simp[fM]⟩
theorem Dt (h:∀x∈l,Sm n x):Sm (n+1) (.tup l):=h
section
variable {bs:ac BenchT}
theorem wG {x y:ac D} (h:x.length+y.length<=1000):aB (.lst x) (.lst y)=aa (.lst (x++y)):=qY (szN h .(c))
theorem Fi {g:FE} {x y:D} (h1:f ρ=aa x) (h2:g ρ=aa y):aF (szF (af f (af g ao))) ρ=aa (.lst [x,y]):=by simp only[aF,szF,af,ao,h1,h2,qa,qd,qh,qk,g0,sz2,cr]
end
end Law
variable {c0:ah} {ws:ac aj} {T:D} {ρ2 e3:aX}
namespace Law
open PySem L2 PySem.StrLaws PySem.Builtin.Str
theorem E7 {r:ac ah} (hy:y.cps.toList=c0::r) {k:ah} (h:v9 x y x.length k):x.cps.toList[k]?=aa c0:=by
 have h2:=h.2;rw[subAt_eq,hy] at h2;have e:=Gp h2;have e0:((x.cps.toList.drop k).take y.length)[0]?=aa c0:=by rw[e];rfl
 have hl:0<y.length:=by
  have:y.cps.toList.length=(c0::r).length:=by rw[hy]
  simp only[iD,qh] at this;show 0<y.cps.size;omega
 rw[vt hl,vL] at e0;simpa using e0
theorem PY {k:ah} {l:ac ah} (hk:k<=x.length) (h:x.cps.toList.drop k=y.cps.toList++l):v9 x y x.length k:=by
 have hy:y.cps.toList.length=y.length:=by simp[gZ]
 have hx:x.cps.toList.length=x.length:=by simp[gZ]
 refine⟨?_,?_⟩
 .have:=cC fW h;rw[gY,qi,hy,hx] at this;omega
 .rw[subAt_eq,h,←hy,UJ];simp
theorem Ei {p:aj} {a b:ah} {l:ac ah} (h:x.cps.toList.drop a=p.cps.toList++l) (hb:b-a=p.length):AC x a b=p:=by
 apply Str.ext';apply Array.toList_inj.mp;have hp:p.cps.toList.length=p.length:=by simp[gZ]
 rw[strSub_toList,h,hb,←hp,UJ]
theorem xC (y p q:aj) (r:ac aj):(eK y (p::q::r)).cps.toList=p.cps.toList++(y.cps.toList++(eK y (q::r)).cps.toList):=by show((p++y++eK y (q::r)).cps).toList=_;simp only[Str.cps_append,UK,qw]
theorem Do {x y:aj} {c0:ah} {w:ac ah} (hy:y.cps.toList=c0::w):∀(ps:ac aj) (p:aj) (a:ah) (cuts:ac ah) (f:ah),a<=x.length->x.cps.toList.drop a=(eK y (p::ps)).cps.toList->(∀q∈p::ps,c0∉q.cps.toList)->
  ChainG x y x.length a cuts f->(∀k,f<=k->¬v9 x y x.length k)->partsFrom x y.length a cuts=p::ps
 |[],p,a,cuts,f,ha,hx,hf,hc,hn=>by
  have hx':x.cps.toList.drop a=p.cps.toList:=hx;cases cuts with
  |nil=>
   show[AC x a x.length]=[p];rw[Ei (l:=[]) (by rw[hx',iV])];have:=cC fW hx';simp only[gY,iD] at this;exact this
  |cons c r=>
   have h1:=E7 hy hc.2.1;have h2:(x.cps.toList.drop a)[c-a]?=aa c0:=by rw[vL,UL hc.1];exact h1
   rw[hx'] at h2;exact bB (qP h2) (hf p qf)
 |q::ps,p,a,cuts,f,ha,hx,hf,hc,hn=>by
  rw[xC] at hx;have hpl:p.cps.toList.length=p.length:=by simp[gZ]
  have hyl:y.cps.toList.length=y.length:=by simp[gZ]
  have hd:x.cps.toList.drop (a+p.length)=y.cps.toList++(eK y (q::ps)).cps.toList:=by rw[←Hy,hx,←hpl,UM]
  have hle:a+p.length<=x.length:=by
   have:=cC fW hx;rw[gY,qi,hpl] at this;have hx2:x.cps.toList.length=x.length:=by simp[gZ]
   omega
  have hA:v9 x y x.length (a+p.length):=PY hle hd;have low:∀k,a<=k->v9 x y x.length k->a+p.length<=k:=fun k hk h=>by
   rcases km k (a+p.length) with z|z
   .have h1:=E7 hy h;have h2:(x.cps.toList.drop a)[k-a]?=aa c0:=by rw[vL,UL hk];exact h1
    rw[hx,qz (by rw[hpl];omega)] at h2;exact bB (qP h2) (hf p qf)
   .exact z
  cases cuts with
  |nil=>
   have e:f=a:=hc;subst e;exact bB hA (hn _ (vJ _ _))
  |cons c r=>
   obtain⟨c1,c2,c3,c4⟩:=hc;have e:c=a+p.length:=by
    have:=low c c1 c2;rcases km (a+p.length) c with z|z
    .exact bB hA (c3 _ (vJ _ _) z)
    .omega
   subst e;show AC x a (a+p.length)::partsFrom x y.length (a+p.length+y.length) r=p::q::ps;rw[Ei hx .(a),Do hy ps q (a+p.length+y.length) r f hA.1 (by rw[←Hy,hd,←hyl,UM]) (fun z hz=>hf z (qg _ hz)) c4 hn]
theorem uy {w:ac ah} (hy:y.cps.toList=c0::w) (hk:sR y=1) (p:aj) (ps:ac aj) (hf:∀q∈p::ps,c0∉q.cps.toList):cP (bV y (p::ps)) y=p::ps:=by
 have ej:bV y (p::ps)=eK y (p::ps):=glued_eq_join y _;rw[ej];generalize hX:eK y (p::ps)=x;have hyl:1<=y.length:=by
  have:y.cps.toList.length=(c0::w).length:=by rw[hy]
  simp only[iD,qh] at this;show 1<=y.cps.size;omega
 obtain⟨f,hc,hn⟩:=occ_tight x y hyl;have key:=Do hy ps p 0 _ f (gX _) (by rw[mf,hX]) hf hc hn;have whole:(occurrences x y 0 x.length (x.length+1))=[]->[x]=p::ps:=fun e=>by rw[e] at key;rw[←key];show[x]=[AC x 0 x.length];rw[sub_whole]
 unfold cP;split
 .rename_i h1;rw[GJ,vK,vK] at h1;apply whole;cases e:occurrences x y 0 x.length (x.length+1) with
  |nil=>rfl
  |cons c r=>
   rw[e] at hc;have:=hc.2.1.1;rcases h1 with h1|h1
   .omega
   .rw[hk] at h1;have:1<=sR x:=by unfold sR;split;exact qv _;split<;>decide
    omega
 .split
  .rename_i h2;exact whole (List.isEmpty_iff.mp h2)
  .rw[partsBetween_eq];exact key
theorem fK {f g:FT} (h1:f ρ=aa aq) (h2:g ρ=aa aq):orT f g ρ=aa aq:=by unfold orT;rw[h1];exact h2
theorem gD {A:FE} (hA:A ρ=aa (.bl al)):bf (toB A) ρ=aa aq:=by unfold bf;rw[bU hA];rfl
noncomputable def dy (m:ah):aj:=sH (sC (m:ag))
theorem u5 (m:ah):(dy m).cps.toList=(jx 10 m).map Au:=Hu m
theorem EI (m:ah):∀c∈(dy m).cps.toList,48<=c/\c<=57:=fun c hc=>by rw[u5] at hc;obtain⟨ch,hch,e⟩:=bQ.mp hc;have r:=VF (Nat.isDigit_of_mem_toDigits .(c) .(c) hch);rw[←e];exact r
theorem Rf (m:ah):∃c r,(dy m).cps.toList=c::r/\(m=0\/c≠48):=by
 have key:∀m:ah,∃c r,jx 10 m=c::r/\(m=0\/c.toNat≠48):=fun m=>by
  induction m using TC with
  |_ m ih=>
   by_cases h:m<10
   .refine⟨_,[],Nat.toDigits_of_lt_base h,?_⟩;rcases Hw m with z|z
    .exact .inl z
    .right
     have:∀d:ah,d<10->0<d->(Nat.digitChar d).toNat≠48:=by decide
     exact this m h z
   .have hm:m%10<10:=kq m .(c);have t:jx 10 (m / 10)++jx 10 (m%10)=jx 10 (10*(m / 10)+m%10):=Nat.toDigits_append_toDigits .(c) .(a) hm;rw[Nat.div_add_mod] at t;obtain⟨c,r,e1,e2⟩:=ih (m / 10) .(a);refine⟨c,r++jx 10 (m%10),by rw[←t,e1];rfl,?_⟩;rcases e2 with e2|e2
    .omega
    .exact .inr e2
 obtain⟨c,r,e1,e2⟩:=key m;exact⟨c.toNat,r.map Au,by rw[u5,e1];rfl,e2⟩
theorem QE:dy 0="0":=by decide +kernel
theorem RV (h:m<10 ^ 30):1<=(dy m).length/\(dy m).length<=30:=by
 have e:(dy m).length=(jx 10 m).length:=by have:=cC fW (u5 m);simpa[gZ] using this
 rw[e];exact⟨VG 10 m,Hv .(c) h⟩
theorem MW:("0123456789":aj).cps.toList=[48,49,50,51,52,53,54,55,56,57]:=by decide +kernel
theorem Nq {c:ah} (h:48<=c/\c<=57):inS ⟨#[c]⟩ "0123456789"=al:=by
 unfold inS;rw[UN,MW];have:c=48\/c=49\/c=50\/c=51\/c=52\/c=53\/c=54\/c=55\/c=56\/c=57:=by omega
 rcases this with rfl|rfl|rfl|rfl|rfl|rfl|rfl|rfl|rfl|rfl<;>decide
theorem Qm {c:ah} {r:ac ah} (h:x.cps.toList=c::r) (hz:x.length<=aL):ixD (.str x) (.int 0)=aa (.str ⟨#[c]⟩):=by
 have e:atI x.cps.toList ((0:ah):ag)=aa c:=by rw[ky,h];rfl
 show(if x.length<=aL then (atI x.cps.toList 0).map (fun c=>D.str ⟨#[c]⟩) else ae)=_;rw[qY hz];have e':atI x.cps.toList (0:ag)=aa c:=e;rw[e'];rfl
theorem Ih (hm:m<10 ^ 30):wV [.str (dy m)]=aa (.bl al):=by
 obtain⟨l1,l2⟩:=RV hm;obtain⟨c,r,hc,h0⟩:=Rf m;have hz:(dy m).length<=aL:=by unfold aL;omega
 have hl:((dy m).cps.toList.map fun c=>D.str ⟨#[c]⟩).length<=aL:=by simpa[gZ] using hz
 have ha:=gJ (fi:=itS (vSh 0)) (fe:=b2 kD (vSh 0) (vC (.str "0123456789"))) (fv:=[ae]) (ρ:=[oS (.str (dy m))]) (r:=[]) (a:=ae) (xs:=(dy m).cps.toList.map fun c=>D.str ⟨#[c]⟩)
  (by simp[itS,vSh,tU]) hl rfl (fun y hy=>by obtain⟨c,hc,rfl⟩:=bQ.mp hy;exact aD (x:=.str ⟨#[c]⟩) (y:=.str "0123456789") rfl rfl (by show aa (D.bl (inS ⟨#[c]⟩ "0123456789"))=_;rw[Nq (EI m c hc)]))
 have ne:dy m≠"":=fun z=>by rw[z] at l1;exact bB l1 .(c)
 refine yq (ρ':=[oS (.str (dy m))]) ((cU (fK ?_ ?_)).trans (cg ha))
 .exact bU (aD (x:=.str (dy m)) (y:=.str "") rfl rfl (by show aa (D.bl (decide (dy m="")))=_;rw[qN ne]))
 .have f1:toB (b2 eqD .(m) (vC (.str "0"))) [oS (.str (dy m))]=aa (decide ((⟨#[c]⟩:aj)="0")):=
   bU (aD (x:=.str ⟨#[c]⟩) (y:=.str "0") (aD (x:=.str (dy m)) (y:=.int 0) rfl rfl (Qm hc hz)) rfl rfl)
  show eO _ _ [oS (.str (dy m))]=aa aq;unfold eO;rw[f1,qa];have z0:("0":aj)=⟨#[48]⟩:=by decide +kernel
  by_cases e:c=48
  .rcases h0 with h0|h0
   .subst h0;rw[qY (by rw[e,z0];exact qS rfl)];exact bU (aD (x:=.str (dy 0)) (y:=.str "0") rfl rfl (by show aa (D.bl (!decide (dy 0="0")))=_;rw[qS QE];rfl))
   .exact bB e h0
  .rw[qZ];rw[vK,z0];intro z;have:=cC (fun s:aj=>s.cps.toList) z;simp at this;exact e this
theorem xB {i:ag} (h0:0<=i):tx i=dy i.toNat:=by unfold tx dy;rw[UO h0]
theorem N2 (h:m<10 ^ 7):1<=(dy m).length/\(dy m).length<=7:=by
 have e:(dy m).length=(jx 10 m).length:=by show(dy m).cps.size=_;rw[←iD,u5,qe]
 rw[e];exact⟨Nat.length_toDigits_pos,(Nat.length_toDigits_le_iff .(c) .(c)).mpr h⟩
theorem rq {i:ag} (h0:0<=i) (h1:i<=1000000):1<=(tx i).length/\(tx i).length<=7:=by rw[xB h0];exact N2 .(a)
theorem Em {i:ag} (h0:0<=i):∀c∈(tx i).cps.toList,48<=c/\c<=57:=by rw[xB h0];exact EI _
theorem yE (h:x.length<=1000):bw [.str x]=aa (.int x.length):=qY (by unfold aL;omega)
theorem xi {i:ag} (h0:0<=i) (h1:i<=1000000):lD [.str (tx i)]=aa (.bl al):=by
 have hl:=rq h0 h1;refine bW [oS (.str (tx i))] rfl (cg (yQ (aD (aY .(S) (yE .(a))) rfl ?_) (aY .(S) ?_)))
 .show aa (D.bl (decide (((tx i).length:ag)<=7)))=_;rw[qS .(a)]
 .rw[xB h0];exact Ih .(a)
theorem uY {i:ag} (h0:0<=i) (h1:i<=1000000):ia [.str (tx i)]=aa (.int i):=by show(if (tx i).length<=640 then (Aw (tx i)).map D.int else ae)=_;rw[qY (by have:=rq h0 h1;omega),show Aw (tx i)=aa i from VH h0 .(a)];rfl
theorem Ju {c:ah} :az c=al↔97<=c/\c<=122:=by
 have z:("z":aj)=⟨#[122]⟩:=by decide +kernel
 have a:("a":aj)=⟨#[97]⟩:=by decide +kernel
 unfold az ltS;rw[z,a];simp only[ge,Hs,Uw];have one:∀i j:ah,(([i]:ac ah) < [j])↔i<j:=fun i j=>by
  constructor
  .intro h;cases h with
   |rel h=>exact h
   |cons h=>cases h
  .intro h;exact Ux h
 show ¬([c]:ac ah) < [97]/\¬([122]:ac ah) < [c]↔_;rw[one,one];omega
theorem Ce (h:bi x=al):∀c∈x.cps.toList,97<=c/\c<=122:=fun c hc=>Ju.mp (xa h c hc)
theorem mw (a b:aj):(a++b).cps.toList=a.cps.toList++b.cps.toList:=by show(a.cps++b.cps).toList=_;rw[UK]
structure Sg (s:aj) (c0:ah):Prop where
 cps:s.cps.toList=[c0]
 kd:sR s=1
theorem Sg.len {s:aj} {c0:ah} (h:Sg s c0):s.length=1:=by show s.cps.size=1;rw[←iD,h.cps];rfl
theorem sj:Sg "-" 45:=⟨by decide +kernel,by decide +kernel⟩
theorem yW:Sg "+" 43:=⟨by decide +kernel,by decide +kernel⟩
theorem B0:Sg "/" 47:=⟨by decide +kernel,by decide +kernel⟩
theorem p9:Sg " " 32:=⟨by decide +kernel,by decide +kernel⟩
theorem zd:Sg "\n" 10:=⟨by decide +kernel,by decide +kernel⟩
theorem C6 {s a b:aj} (hs:Sg s c0) (ha:c0∉a.cps.toList) (hb:c0∉b.cps.toList):cP (a++s++b) s=[a,b]:=by
 have e:a++s++b=bV s [a,b]:=by show _=AA s _;rw[lm];rfl
 rw[e];exact uy hs.cps hs.kd a [b] (fun q hq=>by
  rcases cy.mp hq with rfl|hq
  .exact ha
  .rw[b8.mp hq];exact hb)
theorem pF (h1:y.length≠0) (h2:x.length<=1000000):i9 (.str x) [.str y]=aa (.lst ((cP x y).map D.str)):=qY ⟨h1,h2⟩
theorem ux {i:ag} (h0:0<=i) (hc:c0<48):c0∉(tx i).cps.toList:=fun h=>by have:=Em h0 c0 h;omega
theorem Bw (h:bi x=al) (hc:c0<97):c0∉x.cps.toList:=fun z=>by have:=Ce h c0 z;omega
theorem j0 (l:ac D):bw [.lst l]=aa (.int l.length):=rfl
theorem rG {n:ag} (h:ρ[i]?=aa (oS (.lst l))) (hl:(l.length:ag)=n):toB (b2 neD (cF bw (af (vSh i) ao)) (vC (.int n))) ρ=aa aq:=by
 refine bU (aD (aY (aC (d:=.lst l) ?_ aS) (j0 l)) rfl ?_)
 .unfold vSh;rw[h]
 .show aa (D.bl (!decide ((l.length:ag)=n)))=_;rw[qS hl];rfl
theorem ut {n:ag} (h:ρ[i]?=aa (oS (.lst l))) (hl:n<=(l.length:ag)):toB (b2 ltD (cF bw (af (vSh i) ao)) (vC (.int n))) ρ=aa aq:=by
 refine bU (aD (aY (aC (d:=.lst l) ?_ aS) (j0 l)) rfl ?_)
 .unfold vSh;rw[h]
 .show aa (D.bl (decide ((l.length:ag)<n)))=_;rw[qN .(a)]
theorem eY (n:ah) (h:ρ[i]?=aa (oS (.lst l))) (hd:l[n]?=aa d):b2 ixD (vSh i) (vC (.int (n:ag))) ρ=aa d:=aD (x:=.lst l) (by unfold vSh;rw[h]) rfl ((ixL l n).trans hd)
theorem uF {xs:ac aj} (h:f ρ=aa (.lst (xs.map D.str))) (hl:xs.length<=1000) (hn:∀x∈xs,bi x=al):cF nZ (af f ao) ρ=aa (.bl al):=by refine aY (aC h aS) (bW [oS (.lst (xs.map D.str))] rfl (cg ?_));refine gJ (r:=[]) (a:=ae) (xs:=xs.map D.str) rfl (by rw[qe];exact szN hl .(c)) rfl (fun y hy=>?_);obtain⟨x,hx,rfl⟩:=bQ.mp hy;exact aY .(S) (ja (hn x hx))
theorem wL {xs:ac ag} (h:f ρ=aa (.lst (xs.map fun i=>D.str (tx i)))) (hl:xs.length<=1000) (hn:∀x∈xs,0<=x/\x<=1000000):cF rE (af f ao) ρ=aa (.bl al):=by refine aY (aC h aS) (bW [aa (.sh (.lst (xs.map fun i=>D.str (tx i))))] rfl (cg ?_));refine gJ (r:=[]) (a:=ae) (xs:=xs.map fun i=>D.str (tx i)) rfl (by rw[qe];exact szN hl .(c)) rfl (fun y hy=>?_);obtain⟨x,hx,rfl⟩:=bQ.mp hy;exact aY .(S) (xi (hn x hx).1 (hn x hx).2)
theorem KG {p:ag×ag} (h:0<=p.1/\p.1<=1000000/\0<=p.2/\p.2<=1000000):xL [.str (pI p)]=aa (dIv p):=by
 have e:cP (pI p) "-"=[tx p.1,tx p.2]:=C6 sj (ux h.1 .(c)) (ux h.2.2.1 .(c));have hl:=EG h;refine bW [oS (.str (pI p)),ae] rfl ((bJ (nT (d:=.str (pI p)) (ds:=[.str "-"]) rfl rfl ((pF .(j) .(a)).trans (by rw[e];rfl)))).trans ((cU (fK (rG (l:=[.str (tx p.1),.str (tx p.2)]) rfl rfl) (gD (wL (xs:=[p.1,p.2]) rfl (by simp) ?_)))).trans (cg (iJ (aY (aC (eY 0 (l:=[.str (tx p.1),.str (tx p.2)]) rfl rfl) aS) (uY h.1 h.2.1)) (aY (aC (eY 1 (l:=[.str (tx p.1),.str (tx p.2)]) rfl rfl) aS) (uY h.2.2.1 h.2.2.2))))));intro x hx;have:x=p.1\/x=p.2:=by simpa using hx
 rcases this with rfl|rfl
 .exact⟨h.1,h.2.1⟩
 .exact h.2.2
theorem yu {s:aj} {w:aj×ag} (hs:Sg s c0) (hc:c0<48) (hn:bi w.1=al) (h:0<=w.2/\w.2<=1000000):pA [.str (pW s w),.str s]=aa (dW w):=by have e:cP (pW s w) s=[w.1,tx w.2]:=C6 hs (Bw hn .(a)) (ux h.1 hc);have hl:=tf hs.len ⟨(fg hn).2,h.1,h.2⟩;exact bW [oS (.str (pW s w)),oS (.str s),ae] rfl ((bJ (nT (d:=.str (pW s w)) (ds:=[.str s]) rfl rfl ((pF (by rw[hs.len];decide) .(a)).trans (by rw[e];rfl)))).trans ((cU (fK (rG (l:=[.str w.1,.str (tx w.2)]) rfl rfl) (fK (gD (aY (aC (eY 0 (l:=[.str w.1,.str (tx w.2)]) rfl rfl) aS) (ja hn))) (gD (aY (aC (eY 1 (l:=[.str w.1,.str (tx w.2)]) rfl rfl) aS) (xi h.1 h.2)))))).trans (cg (iJ (eY 0 (l:=[.str w.1,.str (tx w.2)]) rfl rfl) (aY (aC (eY 1 (l:=[.str w.1,.str (tx w.2)]) rfl rfl) aS) (uY h.1 h.2))))))
theorem pL {fl:aX->ar (ar ag)} {lo:ar ag} (h:fe ρ=aa (.lst l)) (h1:fl ρ=aa lo) (h2:fh ρ=aa hi):slF fe fl fh ρ=aa (.lst (eE l lo hi)):=by unfold slF;rw[h,qa,h1,qa,h2];rfl
theorem C0 (l:ac α) (n:ah):eE l (aa (n:ag)) ae=l.drop n:=by
 unfold eE;rw[HT.sIx_nat,HT.sIx_none];by_cases h:n<=l.length
 .rw[kr h];exact lg (by rw[gY];exact qv _)
 .rw[AD .(a),v7 (qv _),v7 .(a),List.take_nil]
theorem Pi (l:ac α) (n:ah):eE l ae (aa (n:ag))=l.take n:=by
 unfold eE;rw[HT.sIx_nat,HT.sIx_none,mf,UA];by_cases h:n<=l.length
 .rw[kr h]
 .rw[AD .(a),lg (qv _),lg .(a)]
theorem wO (l:ac α) (hm:m<=n) (hn:n<=l.length):eE l (aa (m:ag)) (aa (n:ag))=(l.drop m).take (n-m):=by unfold eE;rw[HT.sIx_nat,HT.sIx_nat,kr hn,kr .(a)]
theorem dY (h:ρ[i]?=aa (oS d)):vSh i ρ=aa d:=by unfold vSh;rw[h]
theorem tM (n:ah) (h:ρ[i]?=aa (oS (.lst l))):slF (vSh i) (pS (vC (.int (n:ag)))) pN ρ=aa (.lst (l.drop n)):=(pL (dY h) rfl rfl).trans (by rw[C0])
theorem pD (m n:ah) (h:ρ[i]?=aa (oS (.lst l))) (hm:m<=n) (hn:n<=l.length):slF (vSh i) (pS (vC (.int (m:ag)))) (pS (vC (.int (n:ag)))) ρ=aa (.lst ((l.drop m).take (n-m))):=(pL (dY h) rfl rfl).trans (by rw[wO l hm hn])
theorem FH {α:Type} {dx g:α->D} {fe:FE} {r:aX}:∀{xs:ac α} {a:ar Slot},(∀x∈xs,fe (oS (dx x)::r)=aa (g x))->gL (ay 0) tT fe (xs.map dx) (a::r)=aa (xs.map g)
 |[],_,_=>rfl
 |x::xs,a,h=>by have h1:=h x qf;have ih:=FH (xs:=xs) (a:=oS (dx x)) fun y hy=>h y (qg _ hy);simp only[qm,gL,ay,nR,qa,tT,cr,h1,ih,qd]
theorem uc {dx g:α->D} {r:aX} {a:ar Slot} {xs:ac α} (h1:fi ρ=aa (xs.map dx)) (h2:xs.length<=1000) (h3:gV fv ρ=a::r) (h:∀x∈xs,fe (oS (dx x)::r)=aa (g x)) :
  aF (bh fi (ay 0) tT fe fv) ρ=aa (.lst (xs.map g)):=by
 simp only[aF,bh,h1,qa,qe,qY (szN h2 .(c)),h3,FH (a:=a) h,qd]
theorem AO {n:ah}:∀{l:ac D},(∀x∈l,Sm n x/\∃t,x=.tup t)->∃ps,fH l=aa ps/\gf ps=al/\(ps.any fun z=>fM z .none)=aq
 |[],_=>⟨[],by simp[fH],by simp[gf],rfl⟩
 |x::r,h=>by obtain⟨h1,t,rfl⟩:=h x qf;obtain⟨p,a1,a2,a3,a4⟩:=xx n _ h1;obtain⟨ps,b1,b2,b3⟩:=AO (n:=n) (l:=r) fun y hy=>h y (qg _ hy);have a1':=a1;unfold pdD at a1';obtain⟨q,hq,rfl⟩:=oMd a1';refine⟨.tuple q::ps,by simp[fH,a1,b1],by simp[gf,a2,b2],?_⟩;rw[nL,b3];rfl
theorem ud (hi:ρ[i]?=aa (oS (.lst l))) (h:∀x∈l,Sm n x/\∃t,x=.tup t):toB (b2 i4 (vC .non) (vSh i)) ρ=aa aq:=by obtain⟨ps,b1,b2,b3⟩:=AO h;refine bU (aD (x:=.non) (y:=.lst l) rfl (dY hi) ?_);unfold i4 inX;simp only[pdD,b1,qd,qa,b2,and_true];rw[qY .(c),b3];rfl
theorem Nz (p:ag×ag):Sm (n+2) (dIv p):=Dt fun y hy=>by
 have:y=.int p.1\/y=.int p.2:=by simpa[dIv] using hy
 rcases this with rfl|rfl<;>trivial
theorem zq {w:aj×ag} (h:bi w.1=al):Sm (n+2) (dW w):=Dt fun y hy=>by
 have:y=.str w.1\/y=.int w.2:=by simpa[dW] using hy
 rcases this with rfl|rfl
 .exact zf h
 .trivial
theorem mJ {k:ag} (h:ρ[i]?=aa (oS (.lst l))) (hd:l[n]?=aa (.str (tx k))) (h0:0<=k) (h1:k<=1000000):cF ia (af (b2 ixD (vSh i) (vC (.int (n:ag)))) ao) ρ=aa (.int k):=aY (aC (eY n h hd) aS) (uY h0 h1)
theorem xp (h:ρ[i]?=aa (oS (.lst l))) (hd:l[n]?=aa (.str x)) (hx:bi x=al):cF gG (af (b2 ixD (vSh i) (vC (.int (n:ag)))) ao) ρ=aa (.bl al):=aY (aC (eY n h hd) aS) (ja hx)
theorem yP {k:ag} (h:ρ[i]?=aa (oS (.lst l))) (hd:l[n]?=aa (.str (tx k))) (h0:0<=k) (h1:k<=1000000):cF lD (af (b2 ixD (vSh i) (vC (.int (n:ag)))) ao) ρ=aa (.bl al):=aY (aC (eY n h hd) aS) (xi h0 h1)
noncomputable abbrev W (ws:ac aj):D:=.lst (ws.map D.str)
theorem Lb (h0:0<=h) (h1:h<=1000000):tR [W ["horizon",tx h]]=aa (.int h):=
 bW [oS (W ["horizon",tx h])] rfl ((cU (fK (rG (l:=[.str "horizon",.str (tx h)]) rfl rfl) (gD (yP (l:=[.str "horizon",.str (tx h)]) (n:=1) rfl rfl h0 h1)))).trans (cg (mJ (n:=1) (l:=[.str "horizon",.str (tx h)]) rfl rfl h0 h1)))
theorem Rq {b:BenchT} (g:GoodB h b) (hh:h<=1000000):uO [W (wB b)]=aa (cc b):=by
 have e0:([oS (W (wB b)),ae]:aX)[0]?=aa (oS (.lst (.str "bench"::.str b.nm::(b.br.map pI).map D.str))):=rfl;refine bW [oS (W (wB b)),ae] rfl ((bJ (d:=.lst (b.br.map dIv)) (uc (r:=[]) (a:=ae) (xs:=b.br) (dx:=fun p=>D.str (pI p)) ((mQ (tM 2 e0)).trans (by simp[pp])) (by have:=g.len;omega) rfl (fun p hp=>aY .(S) (KG (g.bd hh p hp))))).trans ((cU (fK (ut (l:=.str "bench"::.str b.nm::(b.br.map pI).map D.str) rfl ?_) (fK (gD (xp (n:=1) (l:=.str "bench"::.str b.nm::(b.br.map pI).map D.str) rfl rfl g.nm)) (ud (n:=2) (l:=b.br.map dIv) rfl ?_)))).trans (cg (iJ (eY 1 (l:=.str "bench"::.str b.nm::(b.br.map pI).map D.str) rfl rfl) rfl))))
 .simp only[qh];omega
 .intro x hx;obtain⟨p,hp,rfl⟩:=bQ.mp hx;exact⟨Nz p,_,rfl⟩
theorem QY {bn:ac aj} {s:StepT} (g:GoodS bn h s) (hb:∀y∈bn,bi y=al) (hh:h<=1000000):ur [W (wS s)]=aa (bD s):=by
 have e0:([oS (W (wS s)),ae]:aX)[0]?=aa (oS (.lst (.str "step"::.str s.nm::.str s.kd::(s.ws.map (pW "/")).map D.str))):=rfl;refine bW [oS (W (wS s)),ae] rfl ((bJ (d:=.lst (s.ws.map dW)) (uc (r:=[]) (a:=ae) (xs:=s.ws) (dx:=fun p=>D.str (pW "/" p)) ((mQ (tM 3 e0)).trans (by simp[pp])) (by have:=g.l4;omega) rfl (fun p hp=>aY (aC rfl .(S)) (yu B0 .(c) (hb _ (g.ws p hp).1) (g.bd hb hh p hp).2)))).trans ((cU (fK (ut (l:=.str "step"::.str s.nm::.str s.kd::(s.ws.map (pW "/")).map D.str) rfl ?_) (fK (gD (uF (xs:=[s.nm,s.kd]) ((pD 1 3 (l:=.str "step"::.str s.nm::.str s.kd::(s.ws.map (pW "/")).map D.str) rfl .(c) (by simp only[qh];omega)).trans rfl) (by simp) ?_)) (ud (n:=2) (l:=s.ws.map dW) rfl ?_)))).trans (cg (oi (eY 1 (l:=.str "step"::.str s.nm::.str s.kd::(s.ws.map (pW "/")).map D.str) rfl rfl) (eY 2 (l:=.str "step"::.str s.nm::.str s.kd::(s.ws.map (pW "/")).map D.str) rfl rfl) rfl))))
 .simp only[qh];omega
 .intro x hx;have:x=s.nm\/x=s.kd:=by simpa using hx
  rcases this with rfl|rfl
  .exact g.nm
  .exact g.kd
 .intro x hx;obtain⟨p,hp,rfl⟩:=bQ.mp hx;exact⟨zq (hb _ (g.ws p hp).1),_,rfl⟩
section
variable {bn:ac aj}
theorem D4 {a b:ag} (ha:0<=a/\a<=1000000) (hb:0<=b/\b<=1000000):∀x∈[a,b],0<=x/\x<=1000000:=fun x hx=>by
 have:x=a\/x=b:=by simpa using hx
 rcases this with rfl|rfl<;>assumption
theorem Qi (b:ba):xz (.str (if b then "in" else "of")) (.tup [.str "in",.str "of"])=aa (.bl aq):=by cases b<;>kernel_rfl
theorem RI (b:ba):eqD (.str (if b then "in" else "of")) (.str "in")=aa (.bl b):=by cases b<;>kernel_rfl
theorem Nb {j:JobT} (g:GoodJ sn h j) (hb:∀y∈sn,bi y=al) (hs:sn.length<=40) (hh:h<=1000000):uB [W (wJ j)]=aa (bN j):=by have hl:∀{ρ:aX},ρ[0]?=aa (oS (W (wJ j)))->ρ[0]?=aa (oS (.lst (.str "job"::.str j.nm::.str (tx j.ea)::.str (tx j.du)::.str (if j.od then "in" else "of")::j.ms.map D.str))):=fun e=>e;refine bW [oS (W (wJ j))] rfl ((cU (fK (ut (hl rfl) ?_) (fK (gD (xp (n:=1) (hl rfl) rfl g.nm)) (gD (wL (xs:=[j.ea,j.du]) ((pD 2 4 (hl rfl) .(c) (by simp only[qh];omega)).trans rfl) (by simp) (D4 (by have:=g.ea;omega) (by have:=g.du;omega))))))).trans ((cU (fK (bU (aD (eY 4 (hl rfl) rfl) (iJ rfl rfl) (Qi j.od))) (gD (uF (xs:=j.ms) ((tM 5 (hl rfl)).trans rfl) (by have:=g.ln;omega) fun y hy=>hb y (g.ms y hy))))).trans (cg (yt (eY 1 (hl rfl) rfl) (mJ (n:=2) (hl rfl) rfl (by have:=g.ea;omega) (by have:=g.ea;omega)) (mJ (n:=3) (hl rfl) rfl (by have:=g.du;omega) (by have:=g.du;omega)) (aD (eY 4 (hl rfl) rfl) rfl (RI j.od)) ((tM 5 (hl rfl)).trans rfl)))));simp only[qh];omega
theorem N6 {u:SetT} (g:GoodU bn h u) (hb:∀y∈bn,bi y=al) (hh:h<=1000000):t5 [W ["setup",u.b,u.p,u.q,tx u.n]]=aa (cB u):=by
 have hl:∀{ρ:aX},ρ[0]?=aa (oS (W ["setup",u.b,u.p,u.q,tx u.n]))->ρ[0]?=aa (oS (.lst [.str "setup",.str u.b,.str u.p,.str u.q,.str (tx u.n)])):=fun e=>e;refine bW [oS (W ["setup",u.b,u.p,u.q,tx u.n])] rfl ((cU (fK (rG (hl rfl) rfl) (fK (gD (uF (xs:=[u.b,u.p,u.q]) ((pD 1 4 (hl rfl) .(c) (by simp)).trans rfl) (by simp) ?_)) (gD (yP (n:=4) (hl rfl) rfl (by have:=g.n;omega) (by have:=g.n;omega)))))).trans (cg (Jx (eY 1 (hl rfl) rfl) (eY 2 (hl rfl) rfl) (eY 3 (hl rfl) rfl) (mJ (n:=4) (hl rfl) rfl (by have:=g.n;omega) (by have:=g.n;omega)))));intro x hx;have:x=u.b\/x=u.p\/x=u.q:=by simpa using hx
 rcases this with rfl|rfl|rfl
 .exact hb _ g.b
 .exact g.p
 .exact g.q
theorem Pj {l:LinkT} (g:GoodL sn h l) (hb:∀y∈sn,bi y=al) (hh:h<=1000000):ue [W ["link",l.a,l.b,tx l.g]]=aa (cR l):=by
 have hl:∀{ρ:aX},ρ[0]?=aa (oS (W ["link",l.a,l.b,tx l.g]))->ρ[0]?=aa (oS (.lst [.str "link",.str l.a,.str l.b,.str (tx l.g)])):=fun e=>e;refine bW [oS (W ["link",l.a,l.b,tx l.g])] rfl ((cU (fK (rG (hl rfl) rfl) (fK (gD (uF (xs:=[l.a,l.b]) ((pD 1 3 (hl rfl) .(c) (by simp)).trans rfl) (by simp) ?_)) (gD (yP (n:=3) (hl rfl) rfl (by have:=g.g;omega) (by have:=g.g;omega)))))).trans (cg (oi (eY 1 (hl rfl) rfl) (eY 2 (hl rfl) rfl) (mJ (n:=3) (hl rfl) rfl (by have:=g.g;omega) (by have:=g.g;omega)))));intro x hx;have:x=l.a\/x=l.b:=by simpa using hx
 rcases this with rfl|rfl
 .exact hb _ g.a
 .exact hb _ g.b
theorem mn:("-":aj)=⟨#[45]⟩:=by decide +kernel
theorem EX (x:aj):kD (.str "-") (.str x)=aa (.bl (decide (45∈x.cps.toList))):=by show aa (D.bl (inS "-" x))=_;unfold inS;rw[mn,UN]
noncomputable abbrev lI (x:aj):Prop:=45∈x.cps.toList
theorem R0 {w:aj×ag} :lI (pW "-" w):=by unfold lI pW;rw[mw,mw,sj.cps];simp
theorem OI {w:aj×ag} (hn:bi w.1=al) (h0:0<=w.2):¬lI (pW "+" w):=by unfold lI pW;rw[mw,mw,yW.cps];have h1:=Bw (c0:=45) hn .(c);have h2:=ux (c0:=45) h0 .(c);simp only[cD,b8,pf];exact⟨⟨h1,by decide⟩,h2⟩
def wT:FT:=eO (toB (b2 ltD (vSh 1) .(aU))) (toB (b2 kD (vC (.str "-")) (b2 ixD (vSh 0) (vSh 1))))
def wB':FS:=aE 1 (b2 aB (vSh 1) .(e))
theorem BB {p:ah} {a b:ar Slot} :toB (b2 ltD (vSh 1) .(aU)) [oS (W ws),oS (.int p),a,b]=aa (decide (p<ws.length)):=by
 refine bU (aD (x:=.int p) rfl (aY .(S) (j0 _)) ?_);show aa (D.bl (decide ((p:ag)<((ws.map D.str).length:ag))))=_;rw[qe]
 congr 2
 by_cases h:p<ws.length
 .rw[qS h,qS .(a)]
 .rw[qN h,qN .(a)]
theorem IT {p:ah} {a b:ar Slot} (h:∀x,ws[p]?=aa x->¬lI x):wT [oS (W ws),oS (.int p),a,b]=aa aq:=by
 unfold wT eO;rw[BB,qa];by_cases hp:p<ws.length
 .rw[qS hp];have:=h _ (qD hp);have e:toB (b2 kD (vC (.str "-")) (b2 ixD (vSh 0) (vSh 1))) [oS (W ws),oS (.int p),a,b]=aa aq:=by refine bU (aD (x:=.str "-") rfl (aD (x:=W ws) (y:=.int p) rfl rfl ((ixL _ p).trans (by rw[qj,qD hp];rfl))) ((EX _).trans ?_));rw[qN this]
  simpa using e
 .rw[qN hp];rfl
theorem MZ {p:ah} {a b:ar Slot} (hx:ws[p]?=aa x) (h:lI x):wT [oS (W ws),oS (.int p),a,b]=aa al:=by
 unfold wT eO;have hp:p<ws.length:=(db.mp hx).1;rw[BB,qa,qS hp];have e:toB (b2 kD (vC (.str "-")) (b2 ixD (vSh 0) (vSh 1))) [oS (W ws),oS (.int p),a,b]=aa al:=by refine bU (aD (x:=.str "-") rfl (aD (x:=W ws) (y:=.int p) rfl rfl ((ixL _ p).trans (by rw[qj,hx];rfl))) ((EX _).trans ?_));rw[qS h]
 simpa using e
theorem Sx {a b:ar Slot} (n:ah):∀(m p:ah),m<n->(∀i,p<=i->i<p+m->∃x,ws[i]?=aa x/\lI x)->(∀x,ws[p+m]?=aa x->¬lI x)->whL wT wB' n [oS (W ws),oS (.int p),a,b]=aa (.nx,[oS (W ws),oS (.int ((p+m:ah):ag)),a,b]):=by
 induction n with
 |zero=>intro m p h;omega
 |succ n ih=>
  intro m p h h1 h2;unfold whL;cases m with
  |zero=>
   rw[IT (p:=p) h2,qa,qZ qr];rfl
  |succ m=>
   obtain⟨x,hx,hm⟩:=h1 p (qv _) .(a);rw[MZ hx hm,qa,qY rfl];have e:wB' [oS (W ws),oS (.int p),a,b]=aa (.nx,[oS (W ws),oS (.int ((p+1:ah):ag)),a,b]):=rfl;rw[e,qa];show whL wT wB' n _=_;rw[ih m (p+1) .(a) (fun i a b=>h1 i .(a) .(a)) (by rw[show p+1+m=p+(m+1) by omega];exact h2),show p+1+m=p+(m+1) by omega]
theorem Ni {k:StockT} (g:GoodK sn k) (hb:∀y∈sn,bi y=al) (hs:sn.length<=40):u8 [W (wK k)]=aa (cZ k):=by
 have lt:=g.tk.ln;have lp:=g.pt.ln;have ew:wK k=("stock":aj)::k.nm::tx k.lo::tx k.hi::(k.tk.map (pW "-")++k.pt.map (pW "+")):=by unfold wK;rw[qw];rfl
 have hl:∀{ρ:aX},ρ[0]?=aa (oS (W (wK k)))->ρ[0]?=aa (oS (.lst (.str "stock"::.str k.nm::.str (tx k.lo)::.str (tx k.hi)::(k.tk.map (pW "-")++k.pt.map (pW "+")).map D.str))):=fun e=>by rw[e,ew];rfl
 have lw:(wK k).length=4+k.tk.length+k.pt.length:=by rw[ew];simp;omega
 have at4:∀i,(wK k)[4+i]?=(k.tk.map (pW "-")++k.pt.map (pW "+"))[i]?:=fun i=>by rw[ew,show 4+i=i+1+1+1+1 by omega];rfl
 have w:=Sx (ws:=wK k) (a:=ae) (b:=ae) 200 k.tk.length 4 .(a) (fun i h1 h2=>by
  obtain⟨j,rfl⟩:∃j,i=4+j:=⟨i-4,by omega⟩;rw[at4,qz (by rw[qe];omega),qj,qD .(a)];exact⟨_,rfl,R0⟩) (fun x hx=>by
  rw[at4,qK (by rw[qe];exact qv _),qe,v6,qj] at hx;obtain⟨w,hw,rfl⟩:=oMd hx;have:=g.pt.ws w (qP hw);exact OI (hb _ this.1) .(a))
 refine bW [oS (W (wK k)),ae,ae,ae] rfl ((cU (fK (ut (hl rfl) ?_) (fK (gD (xp (n:=1) (hl rfl) rfl g.nm)) (gD (wL (xs:=[k.lo,k.hi]) ((pD 2 4 (hl rfl) .(c) (by simp only[qh];omega)).trans rfl) (by simp) (D4 (by have:=g.lo;have:=g.hi;omega) (by have:=g.hi;omega))))))).trans ((bJ (d:=.int 4) rfl).trans ((dH w).trans ((bJ (d:=.lst (k.tk.map dW)) (uc (r:=[]) (a:=ae) (xs:=k.tk) (dx:=fun p=>D.str (pW "-" p)) ((mQ ((pL (l:=(wK k).map D.str) (lo:=aa ((4:ah):ag)) (hi:=aa ((4+k.tk.length:ah):ag)) rfl rfl rfl).trans (by rw[wO _ .(a) (by rw[qe];omega)]))).trans ?_) .(a) rfl (fun p hp=>aY (aC rfl .(S)) (yu sj .(c) (hb _ (g.tk.ws p hp).1) (g.tk.bd hb p hp).2)))).trans ((bJ (d:=.lst (k.pt.map dW)) (uc (r:=[]) (a:=ae) (xs:=k.pt) (dx:=fun p=>D.str (pW "+" p)) ((mQ ((pL (l:=(wK k).map D.str) (lo:=aa ((4+k.tk.length:ah):ag)) (hi:=ae) rfl rfl rfl).trans (by rw[C0]))).trans ?_) .(a) rfl (fun p hp=>aY (aC rfl .(S)) (yu yW .(c) (hb _ (g.pt.ws p hp).1) (g.pt.bd hb p hp).2)))).trans ((cU (fK (ud (n:=2) (l:=k.tk.map dW) rfl ?_) (ud (n:=2) (l:=k.pt.map dW) rfl ?_))).trans (cg (yt (eY 1 (hl rfl) rfl) (mJ (n:=2) (hl rfl) rfl (by have:=g.lo;omega) (by have:=g.lo;have:=g.hi;omega)) (mJ (n:=3) (hl rfl) rfl (by have:=g.hi;omega) (by have:=g.hi;omega)) rfl rfl))))))))
 .simp only[qh];omega
 .rw[ew]
  congr 1
  show((k.tk.map (pW "-")++k.pt.map (pW "+")).map D.str).take (4+k.tk.length-4)=_;rw[dS,wa (by simp),lg (by simp)];simp[pp]
 .rw[ew]
  congr 1
  rw[show 4+k.tk.length=k.tk.length+1+1+1+1 by omega];show((k.tk.map (pW "-")++k.pt.map (pW "+")).map D.str).drop k.tk.length=_;rw[dS,UP (by simp),v7 (by simp)];simp[pp]
 .intro x hx;obtain⟨p,hp,rfl⟩:=bQ.mp hx;exact⟨zq (hb _ (g.tk.ws p hp).1),_,rfl⟩
 .intro x hx;obtain⟨p,hp,rfl⟩:=bQ.mp hx;exact⟨zq (hb _ (g.pt.ws p hp).1),_,rfl⟩
end
inductive Th where
 |ho|be (b:BenchT)|st (s:StepT)|jo (j:JobT)|se (u:SetT)|li (l:LinkT)|sk (k:StockT)
noncomputable def dN (bs:ac BenchT) (ss:ac StepT) (js:ac JobT) (us:ac SetT) (ls:ac LinkT) (ks:ac StockT):ac Th:=[Th.ho]++bs.map .be++ss.map .st++js.map .jo++us.map .se++ls.map .li++ks.map .sk
def wds (h:ag):Th->ac aj
 |.ho=>["horizon",tx h]
 |.be b=>wB b
 |.st s=>wS s
 |.jo j=>wJ j
 |.se u=>["setup",u.b,u.p,u.q,tx u.n]
 |.li l=>["link",l.a,l.b,tx l.g]
 |.sk k=>wK k
def row (h:ag) (t:Th):aj:=bV " " (wds h t)
def dTh (h:ag):Th->D
 |.ho=>.int h
 |.be b=>cc b
 |.st s=>bD s
 |.jo j=>bN j
 |.se u=>cB u
 |.li l=>cR l
 |.sk k=>cZ k
noncomputable def kx:Th->ah
 |.ho=>0|.be _=>1|.st _=>2|.jo _=>3|.se _=>4|.li _=>5|.sk _=>6
noncomputable def dJ:ac aj:=["horizon","bench","step","job","setup","link","stock"]
def kw (t:Th):aj:=dJ.getD (kx t) ""
theorem tP (h:ag) (t:Th):∃r,wds h t=kw t::r:=by cases t<;>exact⟨_,rfl⟩
theorem kx7 (t:Th):kx t<7:=by cases t<;>simp[kx]
theorem FD (s a b:aj):bV s [a,b]=a++s++b:=by show AA s _=_;rw[lm];rfl
theorem QD (l:LinkT):bV " " ["link",l.a,l.b,tx l.g]=rL l:=by
 show AA " " _=_;rw[lm];show("link":aj)++" "++(l.a++" "++(l.b++" "++tx l.g))=_;have e:("link ":aj)="link"++" ":=by decide +kernel
 unfold rL;rw[e];simp only[AB]
theorem Pm (bs:ac BenchT) (ss:ac StepT) (js:ac JobT) (us:ac SetT) (ls:ac LinkT) (ks:ac StockT) (h:ag):tG bs ss js us ls ks h=.(R).map (row h):=by
 have e:("horizon ":aj)++tx h=row h .ho:=by show _=bV " " [("horizon":aj),tx h];rw[FD,show("horizon ":aj)="horizon"++" " by decide +kernel]
 have e1:us.map rU=us.map fun u=>row h (.se u):=Ay fun u _=>(Cf u).symm;have e2:ls.map rL=ls.map fun l=>row h (.li l):=Ay fun l _=>(QD l).symm;unfold tG dN;rw[e1,e2,e];simp only[dS,qo,qm,qO,pp];rfl
noncomputable def Wc (x:aj):Prop:=∀c∈x.cps.toList,43<=c/\c<=122
theorem iI (h:bi x=al):Wc x:=fun c hc=>by have:=Ce h c hc;omega
theorem kf {i:ag} (h:0<=i):Wc (tx i):=fun c hc=>by have:=Em h c hc;omega
theorem u0 {a b:aj} (ha:Wc a) (hb:Wc b):Wc (a++b):=fun c hc=>by
 rw[mw] at hc;rcases cD.mp hc with h|h
 .exact ha c h
 .exact hb c h
theorem BO {s:aj} (h:Sg s c0) (hc:43<=c0/\c0<=122):Wc s:=fun c hcc=>by rw[h.cps] at hcc;rw[b8.mp hcc];exact hc
theorem mO (t:Th):Wc (kw t):=by
 have h:∀x∈dJ,∀c∈x.cps.toList,43<=c/\c<=122:=by decide +kernel
 cases t<;>exact h _ (by simp[kw,kx,dJ])
theorem OE (b:ba):Wc (if b then "in" else "of"):=by
 have h:∀x∈([("in":aj),"of"]:ac aj),∀c∈x.cps.toList,43<=c/\c<=122:=by decide +kernel
 cases b
 .exact h "of" (by simp)
 .exact h "in" (by simp)
theorem za {s:aj} {w:aj×ag} (hs:Sg s c0) (hc:43<=c0/\c0<=122) (hn:bi w.1=al) (h0:0<=w.2):Wc (pW s w):=u0 (u0 (iI hn) (BO hs hc)) (kf h0)
theorem Rx {p:ag×ag} (h:0<=p.1/\0<=p.2):Wc (pI p):=u0 (u0 (kf h.1) (BO sj .(c))) (kf h.2)
variable {ss:ac StepT} {js:ac JobT} {us:ac SetT} {ls:ac LinkT} {ks:ac StockT}
section
variable {bs:ac BenchT}
theorem Good.hb (g:Good bs ss js us ls ks h):∀y∈bs.map (·.nm),bi y=al:=fun y hy=>by obtain⟨b,hb,rfl⟩:=bQ.mp hy;exact(g.b b hb).nm
theorem Good.hs (g:Good bs ss js us ls ks h):∀y∈ss.map (·.nm),bi y=al:=fun y hy=>by obtain⟨b,hb,rfl⟩:=bQ.mp hy;exact(g.s b hb).nm
structure TOk (h:ag) (t:Th):Prop where
 rd:f9 [W (wds h t)]=aa (dTh h t)
 wc:∀x∈wds h t,Wc x
 wl:(∀y∈wds h t,y.length<=60)/\(wds h t).length<=100
theorem mL {k:aj} {F:FQ} {E:FS} (hk:ws[0]?=aa k) (h:F [W ws]=aa d) :
  aw (sIf (toB (b2 eqD .(m) (vC (.str k)))) (aN (cF F .(n))) aQ) E [oS (W ws)]=aa (.rt d,[oS (W ws)]):=by
 refine n5 (bU (aD (x:=.str k) (y:=.str k) (aD (x:=W ws) (y:=.int 0) rfl rfl ((ixL _ 0).trans (by rw[qj,hk];rfl))) rfl ?_)) (cg (aY .(S) h));show aa (D.bl (decide (k=k)))=_;rw[qS rfl]
theorem eX {k k':aj} {X E:FS} (hk:ws[0]?=aa k') (hn:k'≠k) :
  aw (sIf (toB (b2 eqD .(m) (vC (.str k)))) X aQ) E [oS (W ws)]=E [oS (W ws)]:=by
 refine cU (bU (aD (x:=.str k') (y:=.str k) (aD (x:=W ws) (y:=.int 0) rfl rfl ((ixL _ 0).trans (by rw[qj,hk];rfl))) rfl ?_));show aa (D.bl (decide (k'=k)))=_;rw[qN hn]
theorem Qv (hk:ws[0]?=aa ("horizon":aj)) (h:tR [W ws]=aa d):f9 [W ws]=aa d:=bW [oS (W ws)] rfl (mL hk h)
theorem Pf (hk:ws[0]?=aa ("bench":aj)) (h:uO [W ws]=aa d):f9 [W ws]=aa d:=bW [oS (W ws)] rfl ((eX hk .(j)).trans (mL hk h))
theorem Oy (hk:ws[0]?=aa ("step":aj)) (h:ur [W ws]=aa d):f9 [W ws]=aa d:=bW [oS (W ws)] rfl ((eX hk .(j)).trans ((eX hk .(j)).trans (mL hk h)))
theorem Rb (hk:ws[0]?=aa ("job":aj)) (h:uB [W ws]=aa d):f9 [W ws]=aa d:=bW [oS (W ws)] rfl .(aB)
theorem Kp (hk:ws[0]?=aa ("setup":aj)) (h:t5 [W ws]=aa d):f9 [W ws]=aa d:=bW [oS (W ws)] rfl ((eX hk .(j)).trans .(aB))
theorem P4 (hk:ws[0]?=aa ("link":aj)) (h:ue [W ws]=aa d):f9 [W ws]=aa d:=bW [oS (W ws)] rfl ((eX hk .(j)).trans ((eX hk .(j)).trans .(aB)))
theorem LQ (hk:ws[0]?=aa ("stock":aj)) (h:u8 [W ws]=aa d):f9 [W ws]=aa d:=bW [oS (W ws)] rfl ((eX hk .(j)).trans ((eX hk .(j)).trans ((eX hk .(j)).trans .(aB))))
end
section
variable {bs:ac BenchT}
theorem BJ (h0:0<=h) (h1:h<=1000000):TOk h .ho:=by
 refine⟨Qv rfl (Lb h0 h1),fun x hx=>?_,fun x hx=>?_,by simp[wds]⟩
 .have:x=("horizon":aj)\/x=tx h:=by simpa[wds] using hx
  rcases this with rfl|rfl
  .exact mO .ho
  .exact kf h0
 .have:x=("horizon":aj)\/x=tx h:=by simpa[wds] using hx
  rcases this with rfl|rfl
  .decide +kernel
  .have:=rq h0 h1;omega
theorem Mn {b:BenchT} (g:GoodB h b) (hh:h<=1000000):TOk h (.be b):=by
 refine⟨Pf rfl (Rq g hh),fun x hx=>?_,Cc g hh⟩;rcases cD.mp hx with hx|hx
 .have:x=("bench":aj)\/x=b.nm:=by simpa using hx
  rcases this with rfl|rfl
  .exact mO (.be b)
  .exact iI g.nm
 .obtain⟨p,hp,rfl⟩:=bQ.mp hx;have:=g.bd hh p hp;exact Rx ⟨this.1,this.2.2.1⟩
theorem Nf {bn:ac aj} {s:StepT} (g:GoodS bn h s) (hb:∀y∈bn,bi y=al) (hh:h<=1000000):TOk h (.st s):=by
 refine⟨Oy rfl (QY g hb hh),fun x hx=>?_,Bi g hb hh⟩;rcases cD.mp hx with hx|hx
 .have:x=("step":aj)\/x=s.nm\/x=s.kd:=by simpa using hx
  rcases this with rfl|rfl|rfl
  .exact mO (.st s)
  .exact iI g.nm
  .exact iI g.kd
 .obtain⟨p,hp,rfl⟩:=bQ.mp hx;exact za B0 .(c) (hb _ (g.ws p hp).1) (g.bd hb hh p hp).2.1
theorem IJ {j:JobT} (g:GoodJ sn h j) (hb:∀y∈sn,bi y=al) (hs:sn.length<=40) (hh:h<=1000000):TOk h (.jo j):=by
 refine⟨Rb rfl (Nb g hb hs hh),fun x hx=>?_,AJ g hb hs hh⟩;rcases cD.mp hx with hx|hx
 .have:x=("job":aj)\/x=j.nm\/x=tx j.ea\/x=tx j.du\/x=(if j.od then ("in":aj) else "of"):=by simpa using hx
  rcases this with rfl|rfl|rfl|rfl|rfl
  .exact mO (.jo j)
  .exact iI g.nm
  .exact kf g.ea.1
  .exact kf g.du.1
  .exact OE j.od
 .exact iI (hb x (g.ms x hx))
theorem LU {bn:ac aj} {u:SetT} (g:GoodU bn h u) (hb:∀y∈bn,bi y=al) (hh:h<=1000000):TOk h (.se u):=by
 have n0:0<=u.n:=by have:=g.n;omega
 have n1:u.n<=1000000:=by have:=g.n;omega
 refine⟨Kp rfl (N6 g hb hh),fun x hx=>?_,fun x hx=>?_,by simp[wds]⟩
 .have:x=("setup":aj)\/x=u.b\/x=u.p\/x=u.q\/x=tx u.n:=by simpa[wds] using hx
  rcases this with rfl|rfl|rfl|rfl|rfl
  .exact mO (.se u)
  .exact iI (hb _ g.b)
  .exact iI g.p
  .exact iI g.q
  .exact kf n0
 .have:x=("setup":aj)\/x=u.b\/x=u.p\/x=u.q\/x=tx u.n:=by simpa[wds] using hx
  rcases this with rfl|rfl|rfl|rfl|rfl
  .decide +kernel
  .have:=fg (hb _ g.b);omega
  .have:=fg g.p;omega
  .have:=fg g.q;omega
  .have:=rq n0 n1;omega
theorem OZ {l:LinkT} (g:GoodL sn h l) (hb:∀y∈sn,bi y=al) (hh:h<=1000000):TOk h (.li l):=by
 have n1:l.g<=1000000:=by have:=g.g;omega
 refine⟨P4 rfl (Pj g hb hh),fun x hx=>?_,fun x hx=>?_,by simp[wds]⟩
 .have:x=("link":aj)\/x=l.a\/x=l.b\/x=tx l.g:=by simpa[wds] using hx
  rcases this with rfl|rfl|rfl|rfl
  .exact mO (.li l)
  .exact iI (hb _ g.a)
  .exact iI (hb _ g.b)
  .exact kf g.g.1
 .have:x=("link":aj)\/x=l.a\/x=l.b\/x=tx l.g:=by simpa[wds] using hx
  rcases this with rfl|rfl|rfl|rfl
  .decide +kernel
  .have:=fg (hb _ g.a);omega
  .have:=fg (hb _ g.b);omega
  .have:=rq g.g.1 n1;omega
theorem NW {k:StockT} (g:GoodK sn k) (hb:∀y∈sn,bi y=al) (hs:sn.length<=40):TOk h (.sk k):=by
 refine⟨LQ (by unfold wds wK;rfl) (Ni g hb hs),fun x hx=>?_,Dn g hb hs⟩;rcases cD.mp hx with hx|hx
 .rcases cD.mp hx with hx|hx
  .have:x=("stock":aj)\/x=k.nm\/x=tx k.lo\/x=tx k.hi:=by simpa using hx
   rcases this with rfl|rfl|rfl|rfl
   .exact mO (.sk k)
   .exact iI g.nm
   .exact kf g.lo.1
   .exact kf g.hi.1
  .obtain⟨p,hp,rfl⟩:=bQ.mp hx;exact za sj .(c) (hb _ (g.tk.ws p hp).1) (g.tk.bd hb p hp).2.1
 .obtain⟨p,hp,rfl⟩:=bQ.mp hx;exact za yW .(c) (hb _ (g.pt.ws p hp).1) (g.pt.bd hb p hp).2.1
theorem CB (g:Good bs ss js us ls ks h):∀t∈dN bs ss js us ls ks,TOk h t:=by
 have hh:=g.hh;have sl:(ss.map (·.nm)).length<=40:=by rw[qe];exact g.sl.2
 intro t ht;unfold dN at ht;simp only[cD,bQ,b8] at ht;rcases ht with(((((rfl|⟨b,hb,rfl⟩)|⟨b,hb,rfl⟩)|⟨b,hb,rfl⟩)|⟨b,hb,rfl⟩)|⟨b,hb,rfl⟩)|⟨b,hb,rfl⟩
 .exact BJ .(a) hh.2
 .exact Mn (g.b b hb) hh.2
 .exact Nf (g.s b hb) g.hb hh.2
 .exact IJ (g.j b hb) g.hs sl hh.2
 .exact LU (g.u b hb) g.hb hh.2
 .exact OZ (g.l b hb) g.hs hh.2
 .exact NW (g.k b hb) g.hs sl
theorem Db {s:aj} {c:ah}:∀{ws:ac aj},c∈(eK s ws).cps.toList->c∈s.cps.toList\/∃w∈ws,c∈w.cps.toList
 |[],hc=>by
  have e:(eK s []).cps.toList=[]:=by show(la).cps.toList=[];decide +kernel
  rw[e] at hc;cases hc
 |[w],hc=>.inr ⟨w,qf,hc⟩
 |p::q::r,hc=>by
  rw[xC] at hc;rcases cD.mp hc with hc|hc
  .exact .inr ⟨p,qf,hc⟩
  .rcases cD.mp hc with hc|hc
   .exact .inl hc
   .rcases Db hc with hc|⟨w,hw,hc⟩
    .exact .inl hc
    .exact .inr ⟨w,qg _ hw,hc⟩
theorem TOk.split {t:Th} (g:TOk h t):cP (row h t) " "=wds h t:=by obtain⟨r,hr⟩:=tP h t;have wc:=g.wc;unfold row;rw[hr] at wc ⊢;exact uy p9.cps p9.kd _ _ fun q hq z=>by have:=wc q hq 32 z;omega
theorem TOk.no10 {t:Th} (g:TOk h t):10∉(row h t).cps.toList:=fun z=>by
 have e:row h t=eK " " (wds h t):=lm _ _;rw[e] at z;rcases Db z with hc|⟨w,hw,hc⟩
 .rw[p9.cps] at hc;simp at hc
 .have:=g.wc w hw 10 hc;omega
theorem TOk.len {t:Th} (g:TOk h t):(row h t).length<=6100:=by have e:row h t=eK " " (wds h t):=lm _ _;rw[e];have:=uK " " 60 (wds h t) g.wl.1;have l2:=g.wl.2;rw[p9.len] at this;have:(wds h t).length*61<=100*61:=HD _ l2;omega
end
inductive Rw where
 |g (t:Th)|h7|b (x:aj)
def rt (h:ag):Rw->aj
 |.g t=>row h t|.h7=>row 7 .ho|.b x=>x
def dR (h:ag):Rw->D
 |.g t=>dTh h t|.h7=>.int 7|.b _=>.non
def kR:Rw->ah
 |.g t=>kx t|.h7=>0|.b _=>7
def hz (r:Rw):ba:=kR r==0
noncomputable def bd:Rw->ba
 |.b _=>al|_=>aq
def kwR (r:Rw):aj:=dJ.getD (kR r) ""
structure ROk (h:ag) (r:Rw):Prop where
 rd:f9 [W (cP (rt h r) " ")]=aa (dR h r)
 hd:bd r=aq->∃ws,cP (rt h r) " "=kwR r::ws
 no10:10∉(rt h r).cps.toList
 len:(rt h r).length<=6100
variable {r:Rw} {L:ac Rw}
theorem Dm {t:Th} (g:TOk h t):ROk h (.g t):=⟨by show f9 [W (cP (row h t) " ")]=_;rw[g.split];exact g.rd,fun _=>by show ∃ws,cP (row h t) " "=_;rw[g.split];exact tP h t,g.no10,g.len⟩
theorem xA:ROk h .h7:=by have g:TOk 7 .ho:=BJ .(c) .(c);exact⟨by show f9 [W (cP (row 7 .ho) " ")]=_;rw[g.split];exact g.rd,fun _=>by show ∃ws,cP (row 7 .ho) " "=_;rw[g.split];exact tP 7 .ho,g.no10,g.len⟩
theorem um (hb:bd r=aq):kR r<7:=by
 cases r with
 |g t=>exact kx7 t
 |h7=>decide
 |b x=>cases hb
theorem P2 (r:Rw):nW (dR h r)=bd r:=by
 cases r with
 |g t=>cases t<;>rfl
 |h7=>rfl
 |b x=>rfl
theorem N5 (hb:bd r=aq):kix dJ (kwR r)=aa (kR r):=(show ∀n,n<7->kix dJ (dJ.getD n "")=aa n by decide +kernel) _ (um hb)
theorem Il (hb:bd r=aq):decide (kwR r="horizon")=hz r:=by have:=(show ∀n,n<7->decide (dJ.getD n ""="horizon")=(n==0) by decide +kernel) _ (um hb);exact this
def cls (h:ag) (i:ah) (L:ac Rw):ac D:=(L.filter fun t=>kR t==i).map (dR h)
def ff (h:ag) (L:ac Rw):ac (ac D):=(cz 7).map fun i=>cls h i L
theorem BU (L:ac Rw):(cls h 0 L).length=L.countP hz:=by unfold cls;rw[qe,List.countP_eq_length_filter];rfl
theorem ot (L:ac Rw) (hi:i<7):(ff h L)[i]?=aa (cls h i L):=by unfold ff;rw[qj,mj hi];rfl
theorem Qs (i:ah) (L:ac Rw) (t:Rw):cls h i (L++[t])=if kR t=i then cls h i L++[dR h t] else cls h i L:=by
 unfold cls;rw[UQ,dS];by_cases hk:kR t=i
 .rw[qY hk,HE (by simpa using hk)];rfl
 .rw[qZ hk,HF (by simpa using hk)];simp
theorem J2 (L:ac Rw) {t:Rw} (hb:bd t=aq):(ff h L).set (kR t) (cls h (kR t) L++[dR h t])=ff h (L++[t]):=by
 apply Tw;intro i;by_cases hi:i<7
 .rw[ot _ hi,Qs];by_cases hk:kR t=i
  .rw[qY hk,←hk,ny (by unfold ff;rw[qe,qU];exact um hb)]
  .rw[qZ hk,qy hk,ot _ hi]
 .have l1:(ff h L).length=7:=by simp[ff]
  have l2:(ff h (L++[t])).length=7:=by simp[ff]
  rw[zY (by rw[Gw];omega),zY .(a)]
theorem CO:∀{ks:ac aj} {ds:ac D} {k:aj} {j:ah} {d:D},kix ks k=aa j->ds[j]?=aa d->lv (lu ks ds) (cL k)=aa d
 |[],_,_,_,_,h,_=>by cases h
 |_::_,[],_,_,_,_,h=>by simp at h
 |x::ks,e::ds,k,j,d,h,hd=>by
  unfold kix at h;split at h
  .rename_i hx;cases h;cases hd;show(Ax _ ((cL x,e)::lu ks ds)).map _=_;rw[Uu (by simp[hx])];rfl
  .rename_i hx;obtain⟨j',h1,rfl⟩:=oMd h;have:=CO (ks:=ks) (ds:=ds) h1 (by simpa using hd);show(Ax _ ((cL x,e)::lu ks ds)).map _=_;rw[Uv (by simpa using hx)];exact this
theorem y0 {k:aj} (h:kix dJ k=aa j) (hd:dss[j]?=aa ds):df (dlD dJ dss) (.str k)=aa (.lst ds):=by show((aa (cL k):ar Key).map fun kk=>lv (lu dJ (dss.map D.lst)) kk).bind id=_;rw[qd,qa,id,CO h (by rw[qj,hd];rfl)]
theorem Cg {E:FS} (h:g ρ=aa (.nx,ρ1)):aw (noXw g) E ρ=E ρ1:=by unfold aw noXw;rw[h];rfl
theorem Nc (h:g ρ=aa (.nx,ρ1)):noXw g ρ=aa (.nx,ρ1):=by unfold noXw;rw[h]
theorem zn {E:FS} (h:f ρ=aa d):aw (noXw (aE i f)) E ρ=E (ρ.set i (oS d)):=Cg (jC h)
theorem JV {f g:FT} (h1:f ρ=aa al):orT f g ρ=aa al:=by unfold orT;rw[h1];rfl
theorem Oc {f g:FT} {c:ba} (h1:f ρ=aa aq) (h2:g ρ=aa c):orT f g ρ=aa c:=by unfold orT;rw[h1];exact h2
def rdT:FT:=orT (toB (b2 isD (vSh 6) (vC .non))) (eO (toB (b2 eqD (b2 ixD (vSh 5) .(f)) (vC (.str "horizon")))) (toB (b2 gtD .(aK) .(f))))
def kA:FS:=aw (noXw (aE 5 (mF i9 (vSh 4) (af (vC (.str " ")) ao)))) (aw (noXw (aE 6 (cF f9 (af (vSh 5) ao)))) (aw (sIf (lQ 2 rdT) (kN "NoRow" okI (af (vSh 3) ao)) aQ) (noXw (p6 2 (b2 ixD (vSh 5) .(f)) (vSh 6)))))
def rdG:FG:=cs 2 (aM (ay 3) (aM (ay 4) bZ))
abbrev rdE (T R:D) (L:ac Rw) (h:ag) (a b c d:ar Slot):aX:=[oS T,oS R,aa (.odl dJ (ff h L)),a,b,c,d]
theorem B4 {R:D} {a b:ar Slot} (g:ROk h r):lQ 2 rdT (rdE T R L h a b (oS (W (cP (rt h r) " "))) (oS (dR h r)))=aa (bd r || hz r && decide (0<L.countP hz)):=by
 show rdT [oS T,oS R,oS (dlD dJ (ff h L)),a,b,oS (W (cP (rt h r) " ")),oS (dR h r)]=_;have e0:toB (b2 isD (vSh 6) (vC .non)) [oS T,oS R,oS (dlD dJ (ff h L)),a,b,oS (W (cP (rt h r) " ")),oS (dR h r)]=aa (bd r):=bU (aD (x:=dR h r) (y:=.non) rfl rfl (by show aa (D.bl (nW (dR h r)))=_;rw[P2]));cases hb:bd r
 .rw[hb] at e0;refine Oc e0 ?_;obtain⟨ws,hw⟩:=g.hd hb;unfold eO;have e:toB (b2 eqD (b2 ixD (vSh 5) .(f)) (vC (.str "horizon"))) [oS T,oS R,oS (dlD dJ (ff h L)),a,b,oS (W (cP (rt h r) " ")),oS (dR h r)]=aa (hz r):=by rw[←Il hb];exact bU (aD (x:=.str (kwR r)) (y:=.str "horizon") (aD (x:=W (cP (rt h r) " ")) (y:=.int 0) rfl rfl ((ixL _ 0).trans (by rw[hw];rfl))) rfl rfl)
  rw[e,qa];cases hz r
  .rfl
  .rw[qY rfl];refine bU (aD (aY (aC (aD (x:=dlD dJ (ff h L)) (y:=.str "horizon") rfl rfl (y0 (j:=0) .(j) (ot L .(c)))) aS) (j0 _)) rfl ?_);rw[BU];show aa (D.bl (decide ((0:ag)<(L.countP hz:ah))))=_
   congr 2
   by_cases z:0<L.countP hz
   .rw[qS .(a),qS z];rfl
   .rw[qN .(a),qN z];rfl
 .rw[hb] at e0;exact JV e0
theorem Fu {R:D} {c d:ar Slot} {E:FS} (g:ROk h r):aw (noXw (aE 5 (mF i9 (vSh 4) (af (vC (.str " ")) ao)))) (aw (noXw (aE 6 (cF f9 (af (vSh 5) ao)))) E) (rdE T R L h (oS (.int n)) (oS (.str (rt h r))) c d)=E (rdE T R L h (oS (.int n)) (oS (.str (rt h r))) (oS (W (cP (rt h r) " "))) (oS (dR h r))):=
 (zn (d:=W (cP (rt h r) " ")) (nT (d:=.str (rt h r)) (ds:=[.str " "]) rfl rfl (pF .(j) (by have:=g.len;omega)))).trans (zn (d:=dR h r) (aY .(S) g.rd))
theorem NY {R:D} {c d:ar Slot} (g:ROk h r) (hb:bd r=aq) (hl:L.length<=200) (hno:(L++[r]).countP hz<=1) :
  kA (rdE T R L h (oS (.int n)) (oS (.str (rt h r))) c d)=aa (.nx,rdE T R (L++[r]) h (oS (.int n)) (oS (.str (rt h r))) (oS (W (cP (rt h r) " "))) (oS (dR h r))):=by
 have e:(bd r || hz r && decide (0<L.countP hz))=aq:=by
  rw[sT,List.countP_singleton] at hno;rw[hb];cases hr:hz r
  .rfl
  .rw[qY hr] at hno;rw[qN .(a)];rfl
 obtain⟨ws,hw⟩:=g.hd hb;refine(Fu g).trans ((cU ((B4 g).trans (by rw[e]))).trans (Nc ?_));have hw0:b2 ixD (vSh 5) .(f) (rdE T R L h (oS (.int n)) (oS (.str (rt h r))) (oS (W (cP (rt h r) " "))) (oS (dR h r)))=aa (.str (kwR r)):=aD (x:=W (cP (rt h r) " ")) (y:=.int 0) rfl rfl ((ixL _ 0).trans (by rw[hw];rfl));unfold p6;show((b2 ixD (vSh 5) .(f) (rdE T R L h (oS (.int n)) (oS (.str (rt h r))) (oS (W (cP (rt h r) " "))) (oS (dR h r)))).bind fun k=>_)=_;rw[hw0,qa];show((kix dJ (kwR r)).bind fun j=>_)=_;rw[N5 hb,qa];have hc:(cls h (kR r) L).length<aL:=by
  have:(cls h (kR r) L).length<=L.length:=by unfold cls;rw[qe];exact HG _ _
  have:=eI;omega
 simp only[ot L (um hb),qY hc,J2 L hb];rfl
theorem wI (h:f ρ=aa (.int n)) (hn:n<=1000):kN "NoRow" okI (af f ao) ρ=aa (.rt (xw "NoRow" (.int n)),ρ):=by unfold kN;rw[aC h aS,qa];exact qY ⟨qS .(a),rfl⟩
theorem PN {R:D} {c d:ar Slot} (g:ROk h r) (hn:n<=1000) (hx:bd r=al\/hz r=al/\0<L.countP hz) :
  ∃ρ,kA (rdE T R L h (oS (.int n)) (oS (.str (rt h r))) c d)=aa (.rt (xw "NoRow" (.int n)),ρ):=by
 have e:(bd r || hz r && decide (0<L.countP hz))=al:=by
  rcases hx with hx|⟨h1,h2⟩
  .rw[hx];rfl
  .rw[h1,qS h2,Bool.and_self,Us]
 exact⟨_,(Fu g).trans (n5 ((B4 g).trans (by rw[e])) (wI rfl hn))⟩
noncomputable def enF:ah->ac D->ac D
 |_,[]=>[]
 |o,x::l=>D.tup [.int o,x]::enF (o+1) l
theorem yS:∀(l:ac D) (o:ah),(l.mapIdx fun i d=>D.tup [.int ((i+o:ah):ag),d])=enF o l
 |[],_=>rfl
 |x::l,o=>by
  rw[List.mapIdx_cons];show _::_=_::enF (o+1) l;rw[←yS l (o+1),g0]
  congr 2
  funext i d
  rw[show i+1+o=i+(o+1) by omega]
theorem Qg {body:FS} {x:D} (h1:gg x ρ=aa ρ1) (h2:body ρ1=aa (.nx,ρ2)):dj gg body (x::xs) ρ=dj gg body xs ρ2:=by show((gg x ρ).bind fun ρ1=>_)=_;rw[h1,qa,h2];rfl
theorem Q9 {body:FS} {x:D} (h1:gg x ρ=aa ρ1) (h2:body ρ1=aa (.rt d,ρ2)):dj gg body (x::xs) ρ=aa (.rt d,ρ2):=by show((gg x ρ).bind fun ρ1=>_)=_;rw[h1,qa,h2];rfl
abbrev rtD (h:ag) (r:Rw):D:=.str (rt h r)
theorem yh {T R:D}:∀(P L:ac Rw) (ys:ac D) (a b c d:ar Slot),(∀r∈P,ROk h r/\bd r=aq)->(L++P).countP hz<=1->(L++P).length<=200->
  ∃a' b' c' d',dj rdG kA (enF L.length (P.map (rtD h)++ys)) (rdE T R L h a b c d)=dj rdG kA (enF (L++P).length ys) (rdE T R (L++P) h a' b' c' d')
 |[],L,ys,a,b,c,d,_,_,_=>⟨a,b,c,d,by rw[iV];rfl⟩
 |r::P,L,ys,a,b,c,d,hP,hc,hl=>by
  obtain⟨g,hb⟩:=hP r qf;have el:L++r::P=(L++[r])++P:=by rw[qw];rfl
  rw[el] at hc hl ⊢;have hc1:(L++[r]).countP hz<=1:=by rw[sT] at hc;omega
  have hl1:L.length<=200:=by rw[qi,qi] at hl;omega
  obtain⟨a',b',c',d',e⟩:=yh P (L++[r]) ys (oS (.int L.length)) (oS (.str (rt h r))) (oS (W (cP (rt h r) " "))) (oS (dR h r)) (fun r hr=>hP r (qg _ hr)) hc hl;refine⟨a',b',c',d',?_⟩;rw[←e,qi];exact Qg (ρ1:=rdE T R L h (oS (.int L.length)) (oS (.str (rt h r))) c d) rfl (NY g hb hl1 hc1)
theorem JN {R:D} {P S:ac Rw} {a b c d:ar Slot} (hP:∀r∈P,ROk h r/\bd r=aq) (g:ROk h r) (hc:P.countP hz<=1) (hl:P.length<=200) (hx:bd r=al\/hz r=al/\0<P.countP hz) :
  ∃ρ,dj rdG kA (enF 0 ((P++r::S).map (rtD h))) (rdE T R [] h a b c d)=aa (.rt (xw "NoRow" (.int P.length)),ρ):=by
 obtain⟨a',b',c',d',e⟩:=yh (T:=T) (R:=R) P [] (rtD h r::S.map (rtD h)) a b c d hP hc hl;obtain⟨ρ,e2⟩:=PN (T:=T) (R:=R) (n:=P.length) (c:=c') (d:=d') g .(a) hx;refine⟨ρ,?_⟩;rw[dS,qm];refine e.trans (Q9 (ρ1:=rdE T R P h (oS (.int P.length)) (oS (.str (rt h r))) c' d') rfl e2)
section
variable {bs:ac BenchT}
theorem Qn (hl:∀t∈L,ROk h t) (hne:L≠[]):cP .(ao) "\n"=L.map (rt h):=by
 cases L with
 |nil=>exact bB rfl hne
 |cons t L=>
  rw[qm];refine uy zd.cps zd.kd _ _ fun q hq=>?_;rw[←qm] at hq;obtain⟨t',ht,rfl⟩:=bQ.mp hq;exact(hl t' ht).no10
theorem Nd (hl:∀t∈L,ROk h t) (hn:L.length<=120):.(ao).length<=1000000:=by
 have e:bV "\n" (L.map (rt h))=eK "\n" (L.map (rt h)):=lm _ _;rw[e];have:=uK "\n" 6100 (L.map (rt h)) fun y hy=>by obtain⟨t,ht,rfl⟩:=bQ.mp hy;exact(hl t ht).len
 rw[zd.len,qe] at this;have:L.length*6101<=120*6101:=HD _ hn;omega
def yB:FS:=aw (sIf (lQ 2 (toB (b2 eqD .(aK) .(f)))) (kN "NoRow" okI (af (cF bw .(w)) ao)) aQ) (noXw (nS 2 X0))
theorem xb (hl:∀t∈L,ROk h t) (hne:L≠[]) (hn:L.length<=120) 
  (e:aw (ci (itE (vSh 1)) rdG kA) yB (rdE (.str .(ao)) .(av) [] h ae ae ae ae)=aa (.rt d,ρ')):fY [.str .(ao)]=aa d:=by
 have sp:=Qn hl hne;have tl:=Nd hl hn;generalize bV "\n" (L.map (rt h))=T at sp tl e ⊢;refine bW [oS (.str T),ae,ae,ae,ae,ae,ae] rfl ((cU (gD (aY (aC rfl .(S)) (show dU [.str T,.ty "str"]=aa (.bl al) from rfl)))).trans ((zn (d:=.lst (L.map (rtD h))) (nT (d:=.str T) (ds:=[.str "\n"]) rfl rfl ((pF .(j) tl).trans (by rw[sp,qo];rfl)))).trans ((Cg (ρ1:=rdE (.str T) .(av) [] h ae ae ae ae) rfl).trans e)))
theorem J5 {E:FS} (h:g ρ=aa (.rt d,ρ')):aw g E ρ=aa (.rt d,ρ'):=by unfold aw;rw[h];rfl
theorem Ej {R:ac D} {x:ar (Fl×aX)} (e:dj rdG kA (enF 0 R) (rdE T (.lst R) [] h ae ae ae ae)=x):ci (itE (vSh 1)) rdG kA (rdE T (.lst R) [] h ae ae ae ae)=x:=by rw[←e,←yS R 0];exact f8 rfl
theorem n9 {P S:ac Rw} (hl:∀t∈P++r::S,ROk h t) (hn:(P++r::S).length<=120) (hb:∀t∈P,bd t=aq) (hc:P.countP hz<=1) (hx:bd r=al\/hz r=al/\0<P.countP hz) :
  fY [.str (bV "\n" ((P++r::S).map (rt h)))]=aa (xw "NoRow" (.int P.length)):=by
 obtain⟨ρ,e⟩:=JN (S:=S) (T:=.str (bV "\n" ((P++r::S).map (rt h)))) (R:=.lst ((P++r::S).map (rtD h))) (a:=ae) (b:=ae) (c:=ae) (d:=ae) (fun t ht=>⟨hl t (zw _ ht),hb t ht⟩) (hl r (qQ _ qf)) hc (by rw[qi] at hn;omega) hx;exact xb hl (by simp) hn (J5 (Ej e))
theorem Bd (hl:∀t∈L,ROk h t) (hn:L.length<=120) (hb:∀t∈L,bd t=aq) (hc:L.countP hz<=1):∃a b c d,aw (ci (itE (vSh 1)) rdG kA) yB (rdE T .(av) [] h ae ae ae ae)=yB (rdE T .(av) L h a b c d):=by obtain⟨a,b,c,d,e⟩:=yh (T:=T) (R:=.lst (L.map (rtD h))) L [] [] ae ae ae ae (fun t ht=>⟨hl t ht,hb t ht⟩) hc (show L.length<=200 by omega);rw[iV] at e;exact⟨a,b,c,d,dH (Ej e)⟩
theorem El {a b c d:ar Slot} {R:D} :lQ 2 (toB (b2 eqD .(aK) .(f))) (rdE T R L h a b c d)=aa (decide (L.countP hz=0)):=by
 show toB _ [oS T,oS R,oS (dlD dJ (ff h L)),a,b,c,d]=_;refine bU (aD (aY (aC (aD (x:=dlD dJ (ff h L)) (y:=.str "horizon") rfl rfl (y0 (j:=0) .(j) (ot L .(c)))) aS) (j0 _)) rfl ?_);rw[BU];show aa (D.bl (decide (((L.countP hz:ah):ag)=0)))=_
 congr 2
 by_cases z:L.countP hz=0
 .rw[qS .(a),qS z]
 .rw[qN .(a),qN z]
theorem RU (hl:∀t∈L,ROk h t) (hne:L≠[]) (hn:L.length<=120) (hb:∀t∈L,bd t=aq) (hc:L.countP hz=0):fY [.str .(ao)]=aa (xw "NoRow" (.int L.length)):=by obtain⟨a,b,c,d,e⟩:=Bd (T:=.str .(ao)) hl hn hb .(a);refine xb hl hne hn (e.trans (n5 (El.trans (by rw[qS hc])) (wI (aY .(S) ((j0 _).trans (by rw[qe]))) .(a))))
theorem LC (L:ac Th):(L.map Rw.g).map (rt h)=L.map (row h):=by rw[qo];rfl
theorem BN:(.(R).map Rw.g).countP hz=1:=by unfold dN;simp only[dS,qo,sT,List.countP_map];simp[pp,hz,kR,kx,List.countP_false]
theorem PH (xs:ac α):(xs.filter fun _=>al)=xs:=List.filter_eq_self.mpr fun _ _=>rfl
theorem NN (xs:ac α):(xs.filter fun _=>aq)=[]:=List.filter_eq_nil_iff.mpr fun _ _ z=>by cases z
theorem Pa:cls h 0 (.(R).map Rw.g)=[.int h]/\cls h 1 (.(R).map Rw.g)=bs.map cc/\cls h 2 (.(R).map Rw.g)=ss.map bD/\cls h 3 (.(R).map Rw.g)=js.map bN/\cls h 4 (.(R).map Rw.g)=us.map cB/\cls h 5 (.(R).map Rw.g)=ls.map cR/\cls h 6 (.(R).map Rw.g)=ks.map cZ:=by
 unfold cls dN;refine⟨?_,?_,?_,?_,?_,?_,?_⟩<;>
 .simp only[dS,qo,UQ,List.filter_map];simp[pp,kR,kx,dR,dTh,PH,NN]
theorem OD (g:Good bs ss js us ls ks h) (ml:(js.flatMap (·.ms)).length<=300) (hn:.(R).length<=120) :
  mB fY [.str (bV "\n" (.(R).map (row h)))]=aa (jh bs ss js us ls ks h):=by
 have hl:∀t∈.(R).map Rw.g,ROk h t:=fun t ht=>by obtain⟨u,hu,rfl⟩:=bQ.mp ht;exact Dm (CB g u hu)
 have hb:∀t∈.(R).map Rw.g,bd t=aq:=fun t ht=>by obtain⟨u,hu,rfl⟩:=bQ.mp ht;rfl
 have hc:=BN (bs:=bs) (ss:=ss) (js:=js) (us:=us) (ls:=ls) (ks:=ks);obtain⟨c0,c1,c2,c3,c4,c5,c6⟩:=Pa (bs:=bs) (ss:=ss) (js:=js) (us:=us) (ls:=ls) (ks:=ks) (h:=h);rw[←LC];have hn':(.(R).map Rw.g).length<=120:=by rw[qe];exact hn
 have hne:.(R).map Rw.g≠[]:=fun z=>by rw[z] at hc;cases hc
 generalize .(R).map Rw.g=L at *;have gt:∀{k:aj} {j:ah} {ρ:aX} {ds:ac D},kix dJ k=aa j->j<7->cls h j L=ds->ρ[2]?=aa (oS (dlD dJ (ff h L)))->b2 df (vSh 2) (vC (.str k)) ρ=aa (.lst ds):=fun h1 h2 h3 h4=>aD (dY h4) rfl (y0 h1 ((ot L h2).trans (by rw[h3])));obtain⟨a,b,c,d,e⟩:=Bd (T:=.str .(ao)) hl hn' hb .(a);have e2:fY [.str .(ao)]=aa (jh bs ss js us ls ks h):=by
  refine xb (ρ':=[oS (.str .(ao)),oS .(av),oS (dlD dJ (ff h L)),a,b,c,d]) hl hne hn' (e.trans ((cU (El.trans (by rw[hc];rfl))).trans ?_));have er:nS 2 X0 (rdE (.str .(ao)) .(av) L h a b c d)=aa (.rt (jh bs ss js us ls ks h),[oS (.str .(ao)),oS .(av),oS (dlD dJ (ff h L)),a,b,c,d]):=
   cg (ρ:=[oS (.str .(ao)),oS .(av),oS (dlD dJ (ff h L)),a,b,c,d]) (aY (aC (gt (j:=1) .(j) .(c) c1 rfl) (aC (gt (j:=2) .(j) .(c) c2 rfl) (aC (gt (j:=3) .(j) .(c) c3 rfl) (aC (gt (j:=4) .(j) .(c) c4 rfl) (aC (gt (j:=5) .(j) .(c) c5 rfl) (aC (gt (j:=6) .(j) .(c) c6 rfl) (aC (aD (gt (j:=0) .(j) .(c) c0 rfl) rfl (ixL _ 0)) aS))))))) (QF g ml))
  unfold noXw;rw[er];rfl
 unfold mB;rw[e2];rfl
theorem FI {t:D} (e:fY [t]=aa (xw "NoRow" (.int n))):ng [t,.int (n:ag)]=aa (.bl al):=by show((fY [t]).bind fun d=>_)=_;rw[e];show(if ("NoRow":cM)="NoRow" then aa (D.bl (decide ((n:ag)=n))) else ae)=_;rw[qY rfl,qS rfl]
theorem oh {t:D} (e:dU [t,.ty "str"]=aa (.bl aq)):fY [t]=aa (xw "NoRow" (.int (0:ah))):=by refine bW [oS t,ae,ae,ae,ae,ae,ae] rfl (n5 ?_ (wI (n:=0) rfl .(c)));unfold bf;rw[bU (aY (aC rfl .(S)) e)];rfl
theorem Ip:fY [.str ""]=aa (xw "NoRow" (.int (0:ah))):=by kernel_rfl
end
noncomputable def dc:ac aj:=GP sH [" ","horizon","horizon 1 2","horizon x","horizon -1","horizon 01","horizon 12345678","Horizon 5","horizons 5","horizon  5","bench","bench A","bench abcdefghi","bench a 1","bench a 1-","bench a -1","bench a 1-2-3","bench a 01-2","bench a 1-x","bench a ","bench a  1-2","step","step a","step a B","step a b a","step a b a/","step a b /1","step a b a/01","step a b a/1/2","step a b a/-1","step a b A/1","step a b a:1","job","job a","job a 0","job a 0 1 on","job a 0 1 In b","job a 0 x in b","job a -1 1 in b","job a 0 1 in B","job a 0 1 in  b","job A 0 1 of b","setup","setup a b c","setup a b c d","setup a b c 1 2","setup a b 1 c","setup a B c 1","link","link a b","link a b x","link a b -1","link a b 1 2","link a 1 b","link a b 00","stock","stock a","stock a 1","stock a x 1","stock a 1 2 b","stock a 1 2 b=3","stock a 1 2 b+","stock a 1 2 -3","stock a 1 2 b+1 c-1","stock a 1 2 b-01","stock a 1 2 b--1","stock a 1 2 B-1","stock a 1 2 b+1+2","stock a -1 2","shop a","steps a b a/1"," step a b a/1","link A b 1","link a B 1","setup A b c 1","setup a b C 1","stock A 1 2","stock a 1 2 B+1","step abcdefghi b a/1","link abcdefghi b 1","job a 00 1 in b","job a 0 01 in b","setup a b c 01","stock a 01 2","stock a 1 02","stock a 1 2 b+01","bench a 1-12345678","step a b a/12345678","link a b 12345678","job a 0 12345678 in b","stock a 1 2 b-12345678","setup a b c 12345678","horizon +5","horizon 1_0","bench a 1-+2","step a b a/+1","link a b 1_0","stock a 1 2 b-+1","job a +0 1 in b","setup a b c 1_0"]
noncomputable def uR:ar D->ba
 |some .non=>al
 |_=>aq
def okB (x:aj):ba:=uR (f9 [W (cP x " ")]) && x.cps.toList.all (fun c=>c != 10 && c != 124) && decide (x.length<=30)
theorem JA:dc.all okB=al:=by kernel_rfl
theorem yz:dc.length=100:=by kernel_rfl
theorem Iz {o:ar D} (h:uR o=al):o=aa .non:=by
 unfold uR at h;split at h
 .rfl
 .cases h
theorem yC (hx:x∈dc):uR (f9 [W (cP x " ")])=al/\10∉x.cps.toList/\124∉x.cps.toList/\x.length<=30:=by have:=ko.mp JA x hx;unfold okB at this;rw[ge,ge] at this;obtain⟨⟨a,b⟩,c⟩:=this;exact⟨a,(fun z=>by have:=ko.mp b 10 z;cases this),(fun z=>by have:=ko.mp b 124 z;cases this),sL c⟩
theorem QI (hx:x∈dc):ROk h (.b x):=by obtain⟨a,b,_,c⟩:=yC hx;exact⟨Iz a,(fun z=>by cases z),b,by show x.length<=6100;omega⟩
theorem pV:Sg "|" 124:=⟨by decide +kernel,by decide +kernel⟩
theorem Cd (s:aj):∀{xs ys:ac aj},xs≠[]->ys≠[]->bV s xs++s++bV s ys=bV s (xs++ys):=by
 have key:∀(xs:ac aj) (ys:ac aj),xs≠[]->ys≠[]->eK s xs++s++eK s ys=eK s (xs++ys):=fun xs=>by
  induction xs with
  |nil=>intro ys h;exact bB rfl h
  |cons p r ih=>
   intro ys _ hy;cases r with
   |nil=>
    cases ys with
    |nil=>exact bB rfl hy
    |cons q ys=>rfl
   |cons q r=>
    show(p++s++eK s (q::r))++s++eK s ys=p++s++eK s ((q::r)++ys);rw[←ih ys (by simp) hy];simp only[AB]
 intro xs ys hx hy;have e:∀l,bV s l=eK s l:=fun l=>lm _ _;rw[e,e,e];exact key xs ys hx hy
theorem sr (l:ac aj) (hl:∀x∈l,x∈dc) (hn:l.length<=100):(bV "|" l).length<=3100:=by rw[show bV "|" l=eK "|" l from lm _ _];have:=uK "|" 30 l fun y hy=>(yC (hl y hy)).2.2.2;rw[pV.len] at this;have:l.length*31<=100*31:=HD _ hn;omega
theorem ck (j:ah) {c:aj} {E:FS} {x:ar Slot} (hc:c=bV "|" ((dc.drop i).take j)++"|") (hi:0<i/\0<j/\i+j<=100:=by decide):aw (aE 1 (b2 aB (vSh 1) (vC (.str c)))) E [x,oS (.str (bV "|" (dc.take i)++"|"))]=E [x,oS (.str (bV "|" (dc.take (i+j))++"|"))]:=by
 have l0:=yz;have l1:=sr (dc.take i) (fun x hx=>im hx) (by rw[qE];omega);have l2:=sr ((dc.drop i).take j) (fun x hx=>vM (im hx)) (by rw[qE,gY];omega);refine bJ (aD (x:=.str (bV "|" (dc.take i)++"|")) (y:=.str c) rfl rfl ?_);rw[zr (by rw[hc,gj,gj,pV.len];have:=eI;omega),hc,←AB,Cd,←List.take_add]
 .intro z;have:=cC fW z;rw[qE,qk] at this;omega
 .intro z;have:=cC fW z;rw[qE,gY,qk] at this;omega
theorem QU:cP (bV "|" dc) "|"=dc:=uy pV.cps pV.kd _ _ fun q hq=>(yC hq).2.2.1
theorem MJ (d:ag):∀x,ixD (.lst (dc.map D.str)) (.int (d%100))=aa x->mE [.int d]=aa x:=by
 have l0:=yz;have l1:=sr (dc.take 98) (fun x hx=>im hx) (by rw[qE];omega);have l2:=sr (dc.drop 98) (fun x hx=>vM hx) (by rw[gY];omega);have l3:=sr dc (fun x hx=>hx) .(a);have e0:(" |horizon|horizon 1 2|horizon x|horizon -1|":aj)=bV "|" (dc.take 5)++"|":=by kernel_rfl
 have e1:aB (.str (bV "|" (dc.take 98)++"|")) (.str "job a +0 1 in b|setup a b c 1_0")=aa (.str (bV "|" dc)):=by
  have e:("job a +0 1 in b|setup a b c 1_0":aj)=bV "|" (dc.drop 98):=by kernel_rfl
  rw[e,zr (by rw[gj,pV.len];omega),Cd,sM]
  .intro z;have:=cC fW z;rw[qE,qk] at this;omega
  .intro z;have:=cC fW z;rw[gY,qk] at this;omega
 have fin:∀x,ixD (.lst (dc.map D.str)) (.int (d%100))=aa x->mE [.int d]=aa x:=fun x hx=>by refine bW (ρ':=[oS (.int d),oS (.lst (dc.map D.str))]) [oS (.int d),ae] rfl ((bJ (d:=.str (bV "|" (dc.take 5)++"|")) (by rw[←e0];rfl)).trans ((ck 3 .(A)).trans ((ck 4 .(A)).trans ((ck 3 .(A)).trans ((ck 3 .(A)).trans ((ck 5 .(A)).trans ((ck 4 .(A)).trans ((ck 3 .(A)).trans ((ck 5 .(A)).trans ((ck 3 .(A)).trans ((ck 3 .(A)).trans ((ck 4 .(A)).trans ((ck 3 .(A)).trans ((ck 4 .(A)).trans ((ck 4 .(A)).trans ((ck 4 .(A)).trans ((ck 3 .(A)).trans ((ck 2 .(A)).trans ((ck 2 .(A)).trans ((ck 3 .(A)).trans ((ck 3 .(A)).trans ((ck 3 .(A)).trans ((ck 2 .(A)).trans ((ck 2 .(A)).trans ((ck 3 .(A)).trans ((ck 3 .(A)).trans ((ck 2 .(A)).trans ((ck 2 .(A)).trans ((ck 2 .(A)).trans ((ck 3 .(A)).trans ((ck 3 .(A)).trans ((bJ (d:=.str (bV "|" dc)) (aD rfl rfl e1)).trans ((bJ (d:=.lst (dc.map D.str)) (nT (d:=.str (bV "|" dc)) (ds:=[.str "|"]) rfl rfl ((pF .(j) .(a)).trans (by rw[QU])))).trans (cg (aD rfl (aD rfl (aY .(S) (j0 _)) ((cC (fun z=>bu (.int d) (.int z)) (by rw[qe,l0];rfl:(((dc.map D.str).length:ah):ag)=100)).trans (dw .(c)))) hx)))))))))))))))))))))))))))))))))))
 exact fin
theorem Fa {d:ag} (hd:0<=d):∃x,mE [.int d]=aa (.str x)/\ROk h (.b x):=by
 obtain⟨n,hn⟩:∃n:ah,d%100=n:=⟨(d%100).toNat,by omega⟩;have hl:n<dc.length:=by rw[yz];omega
 exact⟨dc[n],MJ d _ (by rw[hn,ixL,qj,qD hl];rfl),QI (vD hl)⟩
def hp (x:aj):ba:=decide (jH x ae (aa 8)="horizon ")
theorem Ez (x:aj):jH x ae (aa 8)=⟨(x.cps.toList.take 8).toArray⟩:=by unfold jH;rw[show(aa (8:ag))=aa ((8:ah):ag) from rfl,Pi]
theorem Kd:("horizon":aj).cps.toList++[32]=[104,111,114,105,122,111,110,32]:=by decide +kernel
theorem EU:("horizon ":aj)=⟨#[104,111,114,105,122,111,110,32]⟩:=by decide +kernel
theorem D6 (h:ag):hp (row h .ho)=al:=by refine qS ?_;have e:row h .ho="horizon"++" "++tx h:=FD _ _ _;rw[Ez,e,mw,mw,p9.cps,Kd,EU];rfl
theorem Ik {s p:aj} {c:ah} {r:ac ah} (hp:p.cps.toList=c::r):∃r',(bV s (p::ps)).cps.toList=c::r':=by
 rw[show bV s (p::ps)=eK s (p::ps) from lm _ _];cases ps with
 |nil=>exact⟨r,hp⟩
 |cons q ps=>exact⟨r++(s.cps.toList++(eK s (q::ps)).cps.toList),by rw[xC,hp];rfl⟩
theorem Ja {t:Th} (hk:kx t≠0):hp (row h t)=aq:=by
 refine qN fun z=>?_;obtain⟨ws,hw⟩:=tP h t;obtain⟨c,r,hc,hne⟩:∃c r,(kw t).cps.toList=c::r/\c≠104:=by
  have:=(show ∀n,n<7->n≠0->((dJ.getD n "").cps.toList.headD 104 != 104)=al by decide +kernel) _ (kx7 t) hk;have e:dJ.getD (kx t) ""=kw t:=rfl;rw[e] at this;cases hh:(kw t).cps.toList with
  |nil=>rw[hh] at this;cases this
  |cons c r=>rw[hh] at this;exact⟨c,r,rfl,by simpa using this⟩
 obtain⟨r',hr⟩:=Ik (s:=" ") (ps:=ws) hc;have e:(row h t).cps.toList=c::r':=by unfold row;rw[hw];exact hr
 rw[Ez,e,EU] at z;have:=cC (fun s:aj=>s.cps.toList.head?) z;simp at this;exact hne this
theorem xQ (hb:bd r=aq):hp (rt h r)=hz r:=by
 cases r with
 |g t=>
  show hp (row h t)=(kx t==0);cases hk:kx t==0
  .exact Ja (by simpa using hk)
  .cases t with
   |ho=>exact D6 h
   |_=>cases hk
 |h7=>exact D6 7
 |b x=>cases hb
noncomputable def ins (L:ac Rw) (a:ah) (r:Rw):ac Rw:=L.take a++r::L.drop a
def ixs:ah->ac Rw->ac ah
 |_,[]=>[]
 |o,r::L=>if hz r=al then o::ixs (o+1) L else ixs (o+1) L
theorem xK:∀(L:ac Rw) (o:ah),(ixs o L).length=L.countP hz
 |[],_=>rfl
 |r::L,o=>by
  unfold ixs;rw[UR];split
  .rw[qh,xK L (o+1)]
  .rw[xK L (o+1),Ac]
theorem uU:∀(L:ac Rw) (o j m:ah),(ixs o L)[j]?=aa m->∃i r,m=o+i/\L[i]?=aa r/\hz r=al/\(L.take i).countP hz=j
 |[],_,_,_,h=>by simp[ixs] at h
 |r::L,o,j,m,h=>by
  unfold ixs at h;by_cases hr:hz r=al
  .rw[qY hr] at h;cases j with
   |zero=>
    cases h;exact⟨0,r,rfl,rfl,hr,rfl⟩
   |succ j=>
    obtain⟨i,r',e1,e2,e3,e4⟩:=uU L (o+1) j m h;refine⟨i+1,r',by omega,e2,e3,?_⟩;rw[Av,US hr,e4]
  .rw[qZ hr] at h;obtain⟨i,r',e1,e2,e3,e4⟩:=uU L (o+1) j m h;refine⟨i+1,r',by omega,e2,e3,?_⟩;rw[Av,UT hr,e4]
theorem EQ {P Q:ac Rw} {a:ah} (ha:a<=P.length):ins (P++Q) a r=ins P a r++Q:=by unfold ins;rw[wa ha,UP ha,qw];rfl
theorem FC {P Q:ac Rw} {b:ah} {y:Rw} :ins (P++y::Q) (P.length+1+b) r=P++y::ins Q b r:=by unfold ins;rw[show P.length+1+b=P.length+(1+b) by omega,List.take_length_add_append,HH,show 1+b=b+1 by omega,Av,List.drop_succ_cons,qw];rfl
theorem rz (L:ac Rw) (a:ah) (r:Rw):(ins L a r).length=L.length+1:=by unfold ins;rw[qi,qh,qE,gY];omega
theorem yK (L:ac Rw) (a:ah) (r:Rw):(ins L a r).countP hz=L.countP hz+if hz r=al then 1 else 0:=by unfold ins;rw[sT,UR,←z6,←sT,sM]
theorem pq {p:Rw->Prop} {a:ah} (hL:∀x∈L,p x) (hr:p r):∀x∈ins L a r,p x:=fun x hx=>by
 rcases cD.mp hx with hx|hx
 .exact hL x (im hx)
 .rcases cy.mp hx with rfl|hx
  .exact hr
  .exact hL x (vM hx)
theorem wP {p:Rw->Prop} {P S:ac Rw} (hP:∀x∈P,p x) (hr:p r) (hS:∀x∈S,p x):∀x∈P++r::S,p x:=fun x hx=>by
 rcases cD.mp hx with hx|hx
 .exact hP x hx
 .rcases cy.mp hx with rfl|hx
  .exact hr
  .exact hS x hx
abbrev Txs (h:ag) (L:ac Rw):D:=.str .(ao)
theorem NP (hl:∀t∈L,ROk h t) (hn:L.length<=120) (hr:L[n]?=aa r) (hb:∀t∈L.take n,bd t=aq) (hc:(L.take n).countP hz<=1) (hx:bd r=al\/hz r=al/\0<(L.take n).countP hz):fY [Txs h L]=aa (xw "NoRow" (.int n)):=by
 obtain⟨hi,e⟩:=db.mp hr;have e2:L=L.take n++r::L.drop (n+1):=by rw[←e,List.getElem_cons_drop,sM]
 have e3:(L.take n).length=n:=by rw[qE];omega
 have:=n9 (h:=h) (P:=L.take n) (r:=r) (S:=L.drop (n+1)) (by rw[←e2];exact hl) (by rw[←e2];exact hn) hb hc hx;rw[←e2,e3] at this;exact this
theorem E2 (hl:∀t∈L,ROk h t) (hn:L.length<=120) (hm:(ixs 0 L)[1]?=aa m) (hb:∀t∈L.take m,bd t=aq):fY [Txs h L]=aa (xw "NoRow" (.int m)):=by obtain⟨i,r,e1,e2,e3,e4⟩:=uU L 0 1 m hm;rw[g0] at e1;subst e1;exact NP hl hn e2 hb .(a) (.inr ⟨e3,by omega⟩)
theorem Ia {P S:ac Rw} (hP:∀t∈P,ROk h t/\bd t=aq) (hx:ROk h (.b x)) (hS:∀t∈S,ROk h t/\bd t=aq) (hn:(P++.b x::S).length<=120) (hm:(ixs 0 (P++.b x::S))[1]?=aa m):fY [Txs h (P++.b x::S)]=aa (xw "NoRow" (.int ((min P.length m:ah):ag))):=by
 have hl:∀t∈P++.b x::S,ROk h t:=wP (fun t ht=>(hP t ht).1) hx fun t ht=>(hS t ht).1;obtain⟨i,r,e1,e2,e3,e4⟩:=uU _ 0 1 m hm;rw[g0] at e1;subst e1;rcases GU m P.length with z|z|z
 .rw[AD .(a)];refine E2 hl hn hm fun t ht=>(hP t ?_).2;rw[wa .(a)] at ht;exact im ht
 .subst z;rw[qK (qv _),v6] at e2;cases e2;cases e3
 .rw[kr .(a)];refine n9 hl hn (fun t ht=>(hP t ht).2) ?_ .(aq);have:P=((P++.b x::S).take m).take P.length:=by rw[Az,kr .(a),wa (qv _),mm]
  have s:=(oZ P.length ((P++.b x::S).take m)).countP_le (p:=hz);rw[←this,e4] at s;exact s
theorem LO {x:D} (h1:f ρ=aa x):aF (szF (af f ao)) ρ=aa (.lst [x]):=by have:(1<=aL)=True:=eq_true (by have:=eI;omega);simp only[aF,szF,af,ao,h1,qa,qd,qh,qk,g0,this,cr]
theorem AY {x y:ac D} (h1:fa ρ=aa (.lst x)) (h2:fb ρ=aa (.lst y)) (hl:x.length+y.length<=1000):iS fa fb ρ=aa (x++y):=by unfold iS;rw[h1,qa,h2,qa];exact qY (szN hl .(c))
theorem sq {f:FA} {E:FS} (h:f ρ=aa l):aw (cE i f) E ρ=E (ρ.set i (aa (.own l))):=dH (by unfold cE;rw[h];rfl)
theorem kc (h1:ρ[i]?=aa (aa (.own ds))):eD i g ρ=g (ρ.set i (oS (.lst ds))):=by unfold eD;rw[h1]
theorem ya (h1:ρ[i]?=aa (oS d)):eD i g ρ=g ρ:=by unfold eD;rw[h1]
theorem xh {a:ah} (h0:ρ[0]?=aa (oS .(av))) (h8:ρ[8]?=aa (oS (.int a))) (hf:f ρ=aa (rtD h r)) (hl:L.length<=150) :
  iS (b2 aB (slF (vSh 0) pN (pS (vSh 8))) (aF (szF (af f ao)))) (slF (vSh 0) (pS (vSh 8)) pN) ρ=aa ((ins L a r).map (rtD h)):=by
 have e1:=xu (f:=vSh 0) (g:=vSh 8) (xs:=L.map (rtD h)) (d:=a) (dY h0) (dY h8) .(a);have e2:=yJ (f:=vSh 0) (g:=vSh 8) (xs:=L.map (rtD h)) (d:=a) (dY h0) (dY h8) .(a);have lt:(L.map (rtD h)).length<=150:=by rw[qe];exact hl
 refine(AY (aD e1 (LO hf) (wG ?_)) e2 ?_).trans ?_
 .rw[qE];simp only[qh,qk];omega
 .rw[qi,qE,gY];simp only[qh,qk];omega
 .unfold ins;rw[iW,←AE,←AF,dS,qm,qw];rfl
theorem yi {o:ag} (h0:ρ[0]?=aa (oS .(av))) (hj:ρ[j]?=aa (oS (.int o))) (ho:0<=o) :
  ∃a:ah,a<=L.length/\b2 bu (vSh j) (b2 aB .(aU) .(e)) ρ=aa (.int a):=by
 refine⟨(o%((L.length:ag)+1)).toNat,by have:=qV o (show(0:ag)<(L.length:ag)+1 by omega);have:=qX o (show(L.length:ag)+1≠0 by omega);omega,?_⟩;rw[UO (qX o .(a))];exact aD (dY hj) (aD (aY (aC (dY h0) aS) ((j0 _).trans (by rw[qe]))) rfl rfl) (dw .(a))
theorem yU (hf:f ρ=aa (.str x)) (hl:x.length<=6100):slF f pN (pS (vC (.int 8))) ρ=aa (.str (jH x ae (aa 8))):=by unfold slF;rw[hf,qa];show nr ae (aa 8) (.str x)=_;exact qY (by have:=eI;omega)
theorem AK:∀(L:ac Rw) (a:ar Slot),(∀r∈L,ROk h r/\bd r=aq)->gL (ay 0) (toB X2) (vSh 0) (L.map (rtD h)) [a]=aa ((L.filter fun r=>!hz r).map (rtD h))
 |[],_,_=>rfl
 |r::L,a,hL=>by
  obtain⟨g,hb⟩:=hL r qf;have ih:=AK L (oS (rtD h r)) fun r hr=>hL r (qg _ hr);have e:toB X2 [oS (rtD h r)]=aa (!hz r):=by rw[←xQ hb];exact bU (aD (yU (x:=rt h r) rfl g.len) rfl rfl)
  rw[qm];show((toB X2 [oS (rtD h r)]).bind fun b=>_)=_;rw[e,qa];cases hr:hz r
  .rw[HE (by rw[hr];rfl)];exact cC (o8 (rtD h r::·)) ih
  .rw[HF (by rw[hr];decide)];exact ih
theorem wH {fi:FE} (hf:fi ρ=aa .(av)) (hL:∀r∈L,ROk h r/\bd r=aq) (hl:L.length<=200):bh (itF fi) (ay 0) (toB X2) (vSh 0) [ae] ρ=aa ((L.filter fun r=>!hz r).map (rtD h)):=by unfold bh;rw[mQ hf,qa,qY (by rw[qe];exact szN hl .(c))];exact AK L ae hL
theorem BF {ft:FT} {e3:aX}:∀(L:ac Rw) (o:ah) (a b:ar Slot),(∀(i:ah) r,L[i]?=aa r->ft (oS (.int ((o+i:ah):ag))::oS (rtD h r)::e3)=aa (hz r))->
  gL (cs 2 (aM (ay 0) (aM (ay 1) bZ))) ft (vSh 0) (enF o (L.map (rtD h))) (a::b::e3)=aa ((ixs o L).map fun i:ah=>D.int (i:ag))
 |[],_,_,_,_=>rfl
 |r::L,o,a,b,hL=>by
  have e:=hL 0 r rfl;have ih:=BF L (o+1) (oS (.int (o:ag))) (oS (rtD h r)) fun i r hi=>by have:=hL (i+1) r hi;rw[show o+(i+1)=o+1+i by omega] at this;exact this
  rw[Ac] at e;rw[qm];show((ft (oS (.int (o:ag))::oS (rtD h r)::e3)).bind fun b=>_)=_;rw[e,qa];unfold ixs;cases hr:hz r
  .exact ih
  .exact cC (o8 (D.int (o:ag)::·)) ih
theorem Ep (h0:ρ[0]?=aa (oS .(av))) (hv:gV fv ρ=ae::ae::e3) (hl:L.length<=200) (hL:∀(i:ah) r,L[i]?=aa r->ft (oS (.int (i:ag))::oS (rtD h r)::e3)=aa (hz r)) :
  aF (bh (itE (vSh 0)) (cs 2 (aM (ay 0) (aM (ay 1) bZ))) ft (vSh 0) fv) ρ=aa (.lst ((ixs 0 L).map fun i:ah=>D.int (i:ag))):=by
 have e:itE (vSh 0) ρ=aa (enF 0 (L.map (rtD h))):=by unfold itE;rw[dY h0,qa,←yS (L.map (rtD h)) 0];rfl
 have l0:∀(l:ac D) o,(enF o l).length=l.length:=fun l=>by
  induction l with
  |nil=>intro o;rfl
  |cons x l ih=>intro o;exact cC (·+1) (ih (o+1))
 unfold aF bh;rw[e,qa,qY (by rw[l0,qe];exact szN hl .(c)),hv,BF L 0 ae ae fun i r hi=>by rw[g0];exact hL i r hi];rfl
theorem dP {w j:ag} {X E:FS} (h3:ρ[3]?=aa (oS (.int w))) (hw:w≠j):aw (sIf (toB (b2 eqD (vSh 3) (vC (.int j)))) X aQ) E ρ=E ρ :=
 cU (bU (aD (x:=.int w) (y:=.int j) (dY h3) rfl (by show aa (D.bl (decide (w=j)))=_;rw[qN hw])))
theorem pz {j:ag} {X E:FS} (h3:ρ[3]?=aa (oS (.int j))) (hx:X ρ=aa (.nx,ρ')):aw (sIf (toB (b2 eqD (vSh 3) (vC (.int j)))) X aQ) E ρ=E ρ':=by have e:toB (b2 eqD (vSh 3) (vC (.int j))) ρ=aa al:=bU (aD (x:=.int j) (y:=.int j) (dY h3) rfl (by show aa (D.bl (decide (j=j)))=_;rw[qS rfl]));refine dH ?_;unfold sIf;rw[e,qa,qY rfl,hx]
abbrev xE (s:Slot) (S K:D) (w o p q m:ag) (a n:ah) (x y:ar Slot):aX:=[aa s,oS S,oS K,oS (.int w),oS (.int o),oS (.int p),oS (.int q),oS (.int m),oS (.int a),oS (.int n),x,y]
theorem oE {S K:D} {w o p q m:ag} {a:ah} {x y:ar Slot} (hl:∀r∈L,ROk h r) (hn:L.length<=120):aN (aF (szF (af (mF fC (vC (.str "\n")) .(n)) (af (vSh 9) ao)))) (xE (.sh .(av)) S K w o p q m a n x y)=aa (.rt (.lst [Txs h L,.int n]),xE (.sh .(av)) S K w o p q m a n x y):=by refine cg (Fi (wf (B:=6100) (ys:=L.map (rt h)) (by rw[qo];rfl) (fun y hy=>?_) .(c) En (by rw[qe];omega)) rfl);obtain⟨r,hr,rfl⟩:=bQ.mp hy;exact(hl r hr).len
theorem BH {a:ah} (ha:a<=L.length):(ins L a r).take a=L.take a:=by unfold ins;rw[wa (by rw[qE];omega),Az,Nat.min_self]
theorem Fe {a:ah} (ha:a<=L.length):(ins L a r).drop (a+1)=L.drop a:=by
 have e:(L.take a).length=a:=by rw[qE];omega
 unfold ins;have:=HH (l₁:=L.take a) (l₂:=r::L.drop a) (i:=1);rw[e] at this;rw[this];rfl
theorem Mp {a:ah} (ha:a<=L.length):((ins L a r).drop a).take 1=[r]:=by
 have e:(L.take a).length=a:=by rw[qE];omega
 unfold ins;have:=HH (l₁:=L.take a) (l₂:=r::L.drop a) (i:=0);rw[e,Ac] at this;rw[this];rfl
theorem P3 {a:ah} {d:Rw} (ha:a<=L.length):((ins L a r).map (rtD h)).set a (rtD h d)=(ins L a d).map (rtD h):=by
 have e:(L.take a).length=a:=by rw[qE];omega
 unfold ins;rw[←UH,List.set_append_right _ _ .(a),e,v6];rfl
theorem ED:(.str "horizon 7":D)=rtD h .h7:=by show D.str "horizon 7"=D.str (row 7 .ho);rw[show(row 7 .ho)=("horizon 7":aj) by kernel_rfl]
theorem EC (hc:L.countP hz=2):∃m,(ixs 0 L)[1]?=aa m:=⟨_,qD (by rw[xK,hc];decide)⟩
theorem Fw:∀L:ac Rw,(L.filter fun r=>!hz r).length+L.countP hz=L.length
 |[]=>rfl
 |r::L=>by
  have ih:=Fw L;cases hr:hz r
  .rw[HE (by rw[hr];rfl),UT (by rw[hr];decide),qh,qh];omega
  .rw[HF (by rw[hr];decide),US hr,qh];omega
noncomputable def N3:FS:=X7
set_option maxHeartbeats 1000000 in
theorem Rm (ns:ac ag) {k:ah} (hk:k<=1000) {G:ac Rw} (hG:∀r∈G,ROk h r/\bd r=aq) (hc:G.countP hz=1) (hn:2<=G.length/\G.length<=110) :
  ∃(T:D) (n:ah),uk [.lst (G.map (rtD h)),.scr ns,.int k]=aa (.lst [T,.int n])/\fY [T]=aa (xw "NoRow" (.int n)):=by
 obtain⟨ds,e1,hd,hq⟩:=iR ns k hk [6,1000000,1000000,1000000,1000000] .(c) .(c);obtain⟨w,q0,w0,w1⟩:=hq 0 6 rfl;obtain⟨o,q1,o0,o1⟩:=hq 1 1000000 rfl;obtain⟨p,q2,p0,p1⟩:=hq 2 1000000 rfl;obtain⟨q,q3,r0,r1⟩:=hq 3 1000000 rfl;obtain⟨m,q4,m0,m1⟩:=hq 4 1000000 rfl;have ed:ds=[w,o,p,q,m]:=by
  match ds,hd,q0,q1,q2,q3,q4 with
  |[_,_,_,_,_],_,q0,q1,q2,q3,q4=>
   cases q0;cases q1;cases q2;cases q3;cases q4;rfl
 subst ed;have bdF:∀ρ:aX,aF (szF (af (vC (.int 6)) (af .(b) (af .(b) (af .(b) (af .(b) ao)))))) ρ=aa (.lst (([6,1000000,1000000,1000000,1000000]:ac ag).map D.int)):=fun ρ=>by kernel_rfl
 obtain⟨x,bx,rx⟩:=Fa (h:=h) r0;obtain⟨y,by',ry⟩:=Fa (h:=h) m0;obtain⟨a,ha,ea⟩:=yi (h:=h) (L:=G) (j:=4) (o:=o) (ρ:=[oS (.lst (G.map (rtD h))),oS (.scr ns),oS (.int k),oS (.int w),oS (.int o),oS (.int p),oS (.int q),oS (.int m),ae,ae,ae,ae]) rfl rfl o0;have gA:∀r∈G.take a,ROk h r/\bd r=aq:=fun r hr=>hG r (im hr);have gB:∀r∈G.drop a,ROk h r/\bd r=aq:=fun r hr=>hG r (vM hr);have cA:(G.take a).countP hz+(G.drop a).countP hz=1:=by rw[←sT,sM];exact hc
 have lA:(G.take a).length=a:=by rw[qE];omega
 have lB:(G.drop a).length=G.length-a:=gY;have l0:(ins G a (.b x)).length=G.length+1:=rz _ _ _;have h0:∀r∈ins G a (.b x),ROk h r:=pq (fun r hr=>(hG r hr).1) rx
 suffices H:∃(T:D) (n:ah) (ρ':aX),N3 (xE (.own .(ai)) (.scr ns) (.int k) w o p q m a a ae ae)=aa (.rt (.lst [T,.int n]),ρ')/\fY [T]=aa (xw "NoRow" (.int n)) by obtain⟨T,n,ρ',e,er⟩:=H;refine⟨T,n,bW (ρ':=ρ') [oS (.lst (G.map (rtD h))),oS (.scr ns),oS (.int k),ae,ae,ae,ae,ae,ae,ae,ae,ae] rfl ((mZ (aY (aC rfl (aC rfl (aC (bdF _) aS))) e1) rfl).trans ((bJ ea).trans ((bJ rfl).trans ((sq (xh (r:=.b x) rfl rfl (aY .(S) bx) .(a))).trans ?_)))),er⟩;exact e
 have hw:w=0\/w=1\/w=2\/w=3\/w=4\/w=5:=by omega
 rcases hw with rfl|rfl|rfl|rfl|rfl|rfl
 .refine⟨Txs h (ins G a (.b x)),a,_,.(aJ).trans (.(aJ).trans (.(aJ).trans (.(aJ).trans (.(aJ).trans ((kc rfl).trans (oE h0 .(a))))))),?_⟩;have:=n9 (h:=h) (P:=G.take a) (r:=.b x) (S:=G.drop a) h0 (by have:=l0;unfold ins at this;omega) (fun r hr=>(gA r hr).2) .(a) .(aq);rw[lA] at this;exact this
 .obtain⟨b,hb,eb⟩:=yi (h:=h) (L:=ins G a (.b x)) (j:=5) (o:=p) (ρ:=xE (.sh (.lst .(ai))) (.scr ns) (.int k) 1 o p q m a a ae ae) rfl rfl p0;have hl:∀r∈ins (ins G a (.b x)) b (.b y),ROk h r:=pq h0 ry;have ln:(ins (ins G a (.b x)) b (.b y)).length<=120:=by rw[rz];omega
  refine⟨Txs h (ins (ins G a (.b x)) b (.b y)),if b<=a then b else a,_,(pz (ρ':=xE (.own ((ins (ins G a (.b x)) b (.b y)).map (rtD h))) (.scr ns) (.int k) 1 o p q m b (if b<=a then b else a) ae ae) rfl ((kc rfl).trans ((bJ eb).trans ((sq (xh (L:=ins G a (.b x)) (a:=b) (r:=.b y) rfl rfl (aY .(S) by') .(a))).trans (jC (d:=.int ((if b<=a then b else a:ah):ag)) ?_))))).trans (.(aJ).trans (.(aJ).trans (.(aJ).trans (.(aJ).trans ((kc rfl).trans (oE hl ln)))))),?_⟩
  .refine aD (Fi (x:=.int (a:ag)) (y:=.int (b:ag)) rfl rfl) (aY (aC (aD (x:=.int (b:ag)) (y:=.int (a:ag)) rfl rfl rfl) aS) rfl) ?_;by_cases z:b<=a
   .rw[qS (show(b:ag)<=(a:ag) by omega),qY z];rfl
   .rw[qN (show ¬(b:ag)<=(a:ag) by omega),qZ z];rfl
  .by_cases z:b<=a
   .rw[qY z];have e:ins (ins G a (.b x)) b (.b y)=(G.take a).take b++.b y::((G.take a).drop b++.b x::G.drop a):=by show ins (G.take a++.b x::G.drop a) b (.b y)=_;rw[EQ .(a)];unfold ins;rw[qw];rfl
    rw[e] at hl ln ⊢;have lb:((G.take a).take b).length=b:=by rw[qE,lA];omega
    have:=n9 hl ln (fun r hr=>(gA r (im hr)).2) (by have:=(oZ b (G.take a)).countP_le (p:=hz);omega) .(aq);rw[lb] at this;exact this
   .rw[qZ z];obtain⟨c,rfl⟩:∃c,b=(G.take a).length+1+c:=⟨b-(a+1),by omega⟩;have e:ins (ins G a (.b x)) ((G.take a).length+1+c) (.b y)=G.take a++.b x::ins (G.drop a) c (.b y):=FC;rw[e] at hl ln ⊢;have:=n9 hl ln (fun r hr=>(gA r hr).2) .(a) .(aq);rw[lA] at this;exact this
 .have g7:∀r∈ins G a .h7,ROk h r/\bd r=aq:=pq hG ⟨xA,rfl⟩;have l7:(ins G a .h7).length=G.length+1:=rz _ _ _;obtain⟨n,hm⟩:=EC (L:=ins G a .h7) (by rw[yK,hc];rfl);refine⟨Txs h (ins G a .h7),n,_,.(aJ).trans ((pz (ρ':=xE (.sh (.lst ((ins G a .h7).map (rtD h)))) (.scr ns) (.int k) 2 o p q m a n (aa (.sh (.lst ((ixs 0 (ins G a .h7)).map fun i:ah=>D.int (i:ag))))) ae) rfl ((dH (ρ1:=xE (.own ((ins G a .h7).map (rtD h))) (.scr ns) (.int k) 2 o p q m a a ae ae) ?_).trans ((kc rfl).trans ((bJ (Ep (L:=ins G a .h7) (e3:=[]) rfl rfl .(a) (fun i r hi=>?_))).trans (jC (aD rfl rfl ((ixL _ 1).trans (by rw[qj,hm];rfl)))))))).trans (.(aJ).trans (.(aJ).trans (.(aJ).trans ((ya rfl).trans (oE (fun r hr=>(g7 r hr).1) .(a))))))),?_⟩
  .have ei:lS .(ai).length (.int (a:ag))=aa (a,(a:ag)):=by show(ixN .(ai).length (a:ag)).map _=_;unfold ixN;rw[qY .(a),qe,qY .(a)];rfl
   unfold px;show((aa (D.str "horizon 7")).bind fun d=>(aa (D.int (a:ag))).bind fun k=>(lS .(ai).length k).bind fun j=>_)=_;rw[qa,qa,ei,qa];show(if iQ _ (.str "horizon 7")=al then _ else _)=_;refine(qY (by unfold iQ;rfl)).trans ?_;rw[ED (h:=h),P3 ha];rfl
  .have:=g7 r (qP hi);rw[←xQ (h:=h) this.2];exact bU (aD (yU (x:=rt h r) rfl this.1.len) rfl rfl)
  .exact E2 (fun r hr=>(g7 r hr).1) .(a) hm fun r hr=>(g7 r (im hr)).2
 .have gF:∀r∈G.filter fun r=>!hz r,ROk h r/\bd r=aq:=fun r hr=>hG r (oR.mp hr).1;have cF':(G.filter fun r=>!hz r).countP hz=0:=UU.mpr fun r hr=>by have:=(oR.mp hr).2;simpa using this
  have lF:(G.filter fun r=>!hz r).length+1=G.length:=by have:=Fw G;omega
  have e3:∀ρ:aX,ρ[0]?=aa (oS (.lst .(ai)))->ρ[9]?=aa (oS (.int (a:ag)))->b2 aB (slF (vSh 0) pN (pS (vSh 9))) (slF (vSh 0) (pS (b2 aB (vSh 9) .(e))) pN) ρ=aa (.lst (G.map (rtD h))):=fun ρ h1 h2=>by refine aD (xu (dY h1) (dY h2) .(a)) (yJ (d:=((a+1:ah):ag)) (dY h1) (aD (dY h2) rfl rfl) .(a)) ?_;rw[iW,iW,←AE,←AF,BH ha,Fe ha,wG (by rw[qe,qe,lA,lB];omega),←dS,sM]
  refine⟨Txs h (G.filter fun r=>!hz r),(G.filter fun r=>!hz r).length,_,.(aJ).trans (.(aJ).trans ((pz (ρ':=xE (.sh (.lst ((G.filter fun r=>!hz r).map (rtD h)))) (.scr ns) (.int k) 3 o p q m a (G.filter fun r=>!hz r).length ae ae) rfl ((kc rfl).trans ((sq (wH (L:=G) (e3 _ rfl rfl) hG .(a))).trans ((kc rfl).trans (jC (aY .(S) ((j0 _).trans (by rw[qe])))))))).trans (.(aJ).trans (.(aJ).trans ((ya rfl).trans (oE (fun r hr=>(gF r hr).1) .(a))))))),?_⟩;exact RU (fun r hr=>(gF r hr).1) (fun z=>by rw[z] at lF;simp only[qk] at lF;omega) .(a) (fun r hr=>(gF r hr).2) cF'
 .have gA':∀r∈(G.take a).filter fun r=>!hz r,ROk h r/\bd r=aq:=fun r hr=>gA r (oR.mp hr).1;have gB':∀r∈(G.drop a).filter fun r=>!hz r,ROk h r/\bd r=aq:=fun r hr=>gB r (oR.mp hr).1;have c0:.(ad).countP hz=0:=UU.mpr fun r hr=>by have:=(oR.mp hr).2;simpa using this
  have n1:.(ad).length<=a:=by have:=HG (fun r=>!hz r) (G.take a);omega
  have n2:((G.drop a).filter fun r=>!hz r).length<=G.length-a:=by have:=HG (fun r=>!hz r) (G.drop a);omega
  have hl:∀r∈.(ad)++.b x::((G.drop a).filter fun r=>!hz r),ROk h r:=wP (fun r hr=>(gA' r hr).1) rx fun r hr=>(gB' r hr).1;have ln:(.(ad)++.b x::((G.drop a).filter fun r=>!hz r)).length<=120:=by rw[qi,qh];omega
  have e4:∀ρ:aX,ρ[0]?=aa (oS (.lst .(ai)))->ρ[9]?=aa (oS (.int (a:ag)))->slF (vSh 0) pN (pS (vSh 9)) ρ=aa (.lst ((G.take a).map (rtD h))):=fun ρ h1 h2=>by rw[xu (dY h1) (dY h2) .(a),iW,←AE,BH ha]
  have e5:∀ρ:aX,ρ[0]?=aa (oS (.lst .(ai)))->ρ[9]?=aa (oS (.int (a:ag)))->slF (vSh 0) (pS (b2 aB (vSh 9) .(e))) pN ρ=aa (.lst ((G.drop a).map (rtD h))):=fun ρ h1 h2=>by rw[yJ (d:=((a+1:ah):ag)) (dY h1) (aD (dY h2) rfl rfl) .(a),iW,←AF,Fe ha]
  have e6:∀ρ:aX,ρ[0]?=aa (oS (.lst .(ai)))->ρ[9]?=aa (oS (.int (a:ag)))->slF (vSh 0) (pS (vSh 9)) (pS (b2 aB (vSh 9) .(e))) ρ=aa (.lst [rtD h (.b x)]):=fun ρ h1 h2=>by
   have f1:pS (vSh 9) ρ=aa (aa ((a:ah):ag)):=by unfold pS;rw[dY h2];rfl
   have f2:pS (b2 aB (vSh 9) .(e)) ρ=aa (aa ((a+1:ah):ag)):=by unfold pS;rw[aD (dY h2) rfl rfl];rfl
   rw[pL (dY h1) f1 f2,wO _ .(a) (by rw[qe];omega),show a+1-a=1 by omega,←AF,←AE,Mp ha];rfl
  refine⟨Txs h (.(ad)++.b x::((G.drop a).filter fun r=>!hz r)),.(ad).length,_,.(aJ).trans (.(aJ).trans (.(aJ).trans ((pz (ρ':=xE (.own ((.(ad)++.b x::((G.drop a).filter fun r=>!hz r)).map (rtD h))) (.scr ns) (.int k) 4 o p q m a .(ad).length ae (aa (.sh (.lst (.(ad).map (rtD h)))))) rfl ((kc rfl).trans ((bJ (d:=.lst (.(ad).map (rtD h))) (cC (o8 D.lst) (wH (L:=G.take a) (e4 _ rfl rfl) gA .(a)))).trans ((sq (l:=(.(ad)++.b x::((G.drop a).filter fun r=>!hz r)).map (rtD h)) ?_).trans (jC (aY .(S) ((j0 _).trans (by rw[qe])))))))).trans (.(aJ).trans ((kc rfl).trans (oE hl ln)))))),?_⟩
  .refine(AY (aD rfl (e6 _ rfl rfl) (wG ?_)) (cC (o8 D.lst) (wH (L:=G.drop a) (e5 _ rfl rfl) gB .(a))) ?_).trans ?_
   .rw[qe];simp only[qh,qk];omega
   .rw[qi,qe,qe];simp only[qh,qk];omega
   .rw[dS,qm,qw];rfl
  .exact n9 hl ln (fun r hr=>(gA' r hr).2) .(a) .(aq)
 .obtain⟨b,hb,eb⟩:=yi (h:=h) (L:=ins G a (.b x)) (j:=5) (o:=p) (ρ:=xE (.sh (.lst .(ai))) (.scr ns) (.int k) 5 o p q m a a ae ae) rfl rfl p0;obtain⟨P,S,eL,lP,gP,gS⟩:∃P S,ins (ins G a (.b x)) b .h7=P++.b x::S/\P.length=(a+if b<=a then 1 else 0)/\(∀r∈P,ROk h r/\bd r=aq)/\∀r∈S,ROk h r/\bd r=aq:=by
   by_cases z:b<=a
   .refine⟨ins (G.take a) b .h7,G.drop a,EQ (P:=G.take a) (Q:=.b x::G.drop a) .(a),by rw[rz,lA,qY z],pq gA ⟨xA,rfl⟩,gB⟩
   .obtain⟨c,rfl⟩:∃c,b=(G.take a).length+1+c:=⟨b-(a+1),by omega⟩;exact⟨G.take a,ins (G.drop a) c .h7,FC,by rw[qZ z,lA];rfl,gA,pq gB ⟨xA,rfl⟩⟩
  have ln:(P++.b x::S).length<=120:=by rw[←eL,rz];omega
  have hl:∀r∈P++.b x::S,ROk h r:=wP (fun r hr=>(gP r hr).1) rx fun r hr=>(gS r hr).1;obtain⟨n,hm⟩:=EC (L:=P++.b x::S) (by rw[←eL,yK,yK,hc];rfl);have ei:=xh (h:=h) (ρ:=xE (.sh (.lst .(ai))) (.scr ns) (.int k) 5 o p q m b a ae ae) (L:=ins G a (.b x)) (a:=b) (r:=.h7) (f:=vC (.str "horizon 7")) rfl rfl (cC aa ED) .(a);rw[eL] at ei;have e9:b2 aB (vSh 9) (cF kC (af (b2 leD (vSh 8) (vSh 9)) ao)) (xE (.own ((P++.b x::S).map (rtD h))) (.scr ns) (.int k) 5 o p q m b a ae ae)=aa (.int ((P.length:ah):ag)):=by
   refine aD (x:=.int (a:ag)) rfl (aY (aC (aD (x:=.int (b:ag)) (y:=.int (a:ag)) rfl rfl rfl) aS) rfl) ?_;rw[lP];by_cases z:b<=a
   .rw[qS (show(b:ag)<=(a:ag) by omega),qY z];rfl
   .rw[qN (show ¬(b:ag)<=(a:ag) by omega),qZ z];rfl
  refine⟨Txs h (P++.b x::S),min P.length n,_,.(aJ).trans (.(aJ).trans (.(aJ).trans (.(aJ).trans ((pz (ρ':=xE (.sh (.lst ((P++.b x::S).map (rtD h)))) (.scr ns) (.int k) 5 o p q m b (min P.length n) (aa (.sh (.lst ((ixs 0 (P++.b x::S)).map fun i:ah=>D.int (i:ag))))) ae) rfl ((kc rfl).trans ((bJ eb).trans ((sq ei).trans ((bJ e9).trans ((kc rfl).trans ((bJ (Ep (L:=P++.b x::S) (e3:=[oS (.int ((P.length:ah):ag))]) rfl rfl .(a) (fun i r hi=>?_))).trans (jC (aY (aC rfl (aC (aD rfl rfl ((ixL _ 1).trans (by rw[qj,hm];rfl))) aS)) ?_))))))))).trans ((ya rfl).trans (oE hl ln)))))),Ia gP rx gS ln hm⟩
  .have ok:=hl r (qP hi);have t1:toB (b2 eqD (slF (vSh 1) pN (pS (vC (.int 8)))) (vC (.str "horizon "))) [oS (.int (i:ag)),oS (rtD h r),oS (.int ((P.length:ah):ag))]=aa (hp (rt h r)):=bU (aD (yU (x:=rt h r) rfl ok.len) rfl rfl);have t2:toB (b2 neA (vSh 0) (vSh 2)) [oS (.int (i:ag)),oS (rtD h r),oS (.int ((P.length:ah):ag))]=aa (!decide ((i:ag)=(P.length:ah))):=bU (aD rfl rfl rfl);unfold eO;rw[t1,qa];by_cases z:i=P.length
   .subst z;rw[qK (qv _),v6] at hi;cases hi;rw[t2,qS rfl];cases hp (rt h (.b x))<;>rfl
   .have hb:bd r=aq:=by
     rcases km i P.length with y1|y1
     .rw[qz y1] at hi;exact(gP r (qP hi)).2
     .rw[qK y1,show i-P.length=(i-P.length-1)+1 by omega,qc] at hi;exact(gS r (qP hi)).2
    rw[t2,qN .(a),xQ hb];cases hz r<;>rfl
  .show aa (D.int (if (n:ag)<(P.length:ah) then (n:ag) else (P.length:ah)))=aa (D.int ((min P.length n:ah):ag));by_cases z:n<P.length
   .rw[qY .(a),AD .(a)]
   .rw[qZ .(a),kr .(a)]
section
variable {bs:ac BenchT}
theorem JZ (g:Good bs ss js us ls ks h) (hj:js.length<=9) (hu:us.length<=20) (hl:ls.length<=20):2<=.(R).length/\.(R).length<=110:=by have:=g.bl;have:=g.sl;have:=g.kl;unfold dN;simp only[qi,qe,qW];omega
end
theorem Fn {X:FS} (h:f ρ=aa (.bl al)):sIf (bf (toB f)) X aQ ρ=aa (.nx,ρ):=by unfold sIf bf;rw[bU h];rfl
theorem Mz (R:ac D):∀x∈[D.non,.int 7,.bl al,.lst R,.tup R,.dk [],.str ""],ng [x,.int 0]=aa (.bl al):=fun x hx=>by
 refine FI (n:=0) ?_;simp only[qL,qJ,or_false] at hx;rcases hx with rfl|rfl|rfl|rfl|rfl|rfl|rfl
 .exact oh .(A)
 .exact oh .(A)
 .exact oh .(A)
 .exact oh .(A)
 .exact oh .(A)
 .exact oh .(A)
 .exact Ip
theorem MA (ns:ac ag) (hlen:ns.length<=63):AU [.scr ns]=aa (.bl al):=by
 obtain⟨bs,ss,js,us,ls,ks,h,e1,g,ml,hj,hu,hl⟩:=Of ns;have tl:=JZ g hj hu hl;have e2:=Lf g;rw[Pm] at e2;have rd:=OD g ml .(a);have tok:=CB g;have hc:=BN (bs:=bs) (ss:=ss) (js:=js) (us:=us) (ls:=ls) (ks:=ks);generalize hT:dN bs ss js us ls ks=T at tl e2 rd tok hc;have eG:(T.map (row h)).map D.str=(T.map Rw.g).map (rtD h):=by rw[qo,qo];rfl
 have hG:∀r∈T.map Rw.g,ROk h r/\bd r=aq:=fun r hr=>by obtain⟨t,ht,rfl⟩:=bQ.mp hr;exact⟨Dm (tok t ht),rfl⟩
 have tB:∀y∈T.map (row h),y.length<=6100:=fun y hy=>by obtain⟨t,ht,rfl⟩:=bQ.mp hy;exact(tok t ht).len
 obtain⟨M,hM,eM⟩:∃M:ag,(0<=M/\M<=1000)/\∀R:ar Slot,∀a b c d:ar Slot,cF uX (af .(e) (af (cF eA (af .(aU) (af (vC (.int 30)) ao))) ao)) [oS (.scr ns),R,a,b,c,d]=aa (.int M):=by refine⟨if (if (30:ag)<(ns.length:ah) then (30:ag) else (ns.length:ah)) > 1 then (if (30:ag)<(ns.length:ah) then (30:ag) else (ns.length:ah)) else 1,?_,fun R a b c d=>rfl⟩;split<;>split<;>omega
 generalize hR:(T.map (row h)).map D.str=R at e2 eG;have lp1:=gC (gg:=ay 2) (body:=aw (gO (hV 2 (aM (ay 3) (aM (ay 4) bZ))) (cF uk (af (vSh 1) (af (vSh 0) .(aW))))) (sIf (bf (toB (cF ng (af (vSh 3) (af (vSh 4) ao))))) .(Q) aQ)) (xs:=(cz M.toNat).map fun i:ah=>D.int (0+i)) (ρ:=[oS (.scr ns),oS (.lst R),ae,ae,ae,ae]) (fun _ ρ=>∃a b c,ρ=[oS (.scr ns),oS (.lst R),a,b,c,ae]) ⟨ae,ae,ae,rfl⟩ (fun i x ρ hx hI=>by obtain⟨a,b,c,rfl⟩:=hI;rw[qj] at hx;obtain⟨k,hk,rfl⟩:=oMd hx;have hk':k<M.toNat:=fV.mp (qP hk);obtain⟨X,n,t1,t2⟩:=Rm (h:=h) ns (k:=k) .(a) hG hc (by rw[qe];exact tl);rw[←eG] at t1;rw[Int.zero_add];refine⟨_,[oS (.scr ns),oS (.lst R),oS (.int k),oS X,oS (.int n),ae],rfl,?_,_,_,_,rfl⟩;exact(mZ (ρ':=[oS (.scr ns),oS (.lst R),oS (.int k),oS X,oS (.int n),ae]) (aY (aC rfl (aC rfl .(S))) t1) rfl).trans (Fn (aY (aC rfl .(S)) (FI t2))))
 obtain⟨ρ1,f1,a,b,c,rfl⟩:=lp1;have lp2:=gC (gg:=ay 5) (body:=sIf (bf (toB (cF ng (af (vSh 5) (af .(f) ao))))) .(Q) aQ) (xs:=[D.non,.int 7,.bl al,.lst R,.tup R,.dk [],.str ""]) (ρ:=[oS (.scr ns),oS (.lst R),a,b,c,ae]) (fun _ ρ=>∃d,ρ=[oS (.scr ns),oS (.lst R),a,b,c,d]) ⟨ae,rfl⟩ (fun i x ρ hx hI=>by obtain⟨d,rfl⟩:=hI;exact⟨_,_,rfl,Fn (aY (aC rfl .(S)) (Mz R x (qP hx))),_,rfl⟩)
 obtain⟨ρ2,f2,d,rfl⟩:=lp2;refine bW (ρ':=[oS (.scr ns),oS (.lst R),a,b,c,d]) [oS (.scr ns),ae,ae,ae,ae,ae] rfl ((bJ (d:=.lst R) (aY (aC (aY .(S) e1) aS) e2)).trans ((dH ((f8 (jG (aC (eM _ _ _ _ _) aS) (kW .(a)))).trans f1)).trans ((dH ((f8 (mQ ?_)).trans f2)).trans (cg (aD (O6 .(j) (aY (aC (wf (ys:=T.map (row h)) (B:=6100) (by rw[hR];rfl) tB .(c) En (by rw[qe];omega)) aS) rd) aS M7) rfl ?_)))))
 .have z7:(7<=aL)=True:=eq_true (by have:=eI;omega);show(((aa [D.non,.int 7,.bl al,.lst R,.tup R,.dk [],.str ""]:ar (ac D))).bind fun l=>if l.length<=aL then aa l else ae).map D.lst=_;rw[qa,qY (by show 7<=aL;have:=eI;omega)];rfl
 .show aa (D.bl (decide (h > 0)))=_;rw[qS (by have:=g.hh;omega)]
def yo (K:aV):Sp:=fun vs H Q _=>∃(a:av) (ns:ac ag),vs=[.ref a]/\SqL K H a (ns.map V.int)/\ns.length<=63/\∀H',Q (.bl al) H'
theorem all_mk {l:GD} {h:Heap} {fa:av} (X:K.In h) (G:h.Ns dL mg) (hfa:mg "law"=aa (.ref fa))
  (aC_Shop:iX K dL "Shop"=aa (aa (.ref C_Shop)))
  (pg_Shop:vm K C_Shop la=al) (hd_Shop:oW K C_Shop=al) (po_Shop:Gd K C_Shop=al) (sa_Shop:cO K (.ref C_Shop) "__setattr__"=aa .(aP)) (mk_Shop:zC K C_Shop=al) (kc_Shop:gI K (.ref C_Shop)=al)
  (n0_Shop:cO K (.ref C_Shop) "benches"=aa ae)
  (n1_Shop:cO K (.ref C_Shop) "steps"=aa ae)
  (n2_Shop:cO K (.ref C_Shop) "jobs"=aa ae)
  (n3_Shop:cO K (.ref C_Shop) "setups"=aa ae)
  (n4_Shop:cO K (.ref C_Shop) "links"=aa ae)
  (n5_Shop:cO K (.ref C_Shop) "stocks"=aa ae)
  (n6_Shop:cO K (.ref C_Shop) "horizon"=aa ae)
  (n7_Shop:cO K (.ref C_Shop) "bench_by_name"=aa ae)
  (n8_Shop:cO K (.ref C_Shop) "step_by_name"=aa ae)
  (n9_Shop:cO K (.ref C_Shop) "setup_by_names"=aa ae)
  (n10_Shop:cO K (.ref C_Shop) "job_by_step"=aa ae)
  (a57:iX K dL "law"=aa (aa (.ref f57))) (l57:K.lookup f57=aa ⟨oc57,od57,.func (ik "law" "law" (io (top 87)) (eN (top 87)) (aW (top 87)) .none kV57 dc57 pm57 an57 cd57 ct57),sl57⟩) (c57:sG K cd57 "law"=al) (k57:gI K (.ref f57)=al)
  (aCR:iX K dL "NoRow"=aa (aa (.ref CRw)))
  (aCS:iX K dL "ShopError"=aa (aa (.ref CS)))
  (aCN:iX K dL "NoShop"=aa (aa (.ref CN)))
  (aCP:iX K dL "NoPlan"=aa (aa (.ref CP)))
  (aCT:iX K dL "NoTree"=aa (aa (.ref CT)))
  (aCG:iX K dL "Gone"=aa (aa (.ref CG)))
  (aCM:iX K dL "NoName"=aa (aa (.ref CM)))
  (aCY:iX K dL "NoSay"=aa (aa (.ref CY)))
  (dR:DfnM K CRw "NoRow" "__init__" "NoRow.__init__" (nc (top 4) 0))
  (dOn:Dfn K mg "_law_only" (top 85))
  {ddR:ar av} {cdR:Aq} {q0 q1 q2 q3 q5:ar Value} (lkR:K.lookup CRw=aa ⟨.type "type",ddR,.cls cdR,#[q0,q1,q2,q3,aa (.builtin "ValueError.__new__"),q5]⟩)
  (hmR:cdR.mro=.ref CRw::.ref CS::jT)
  (hdR:cdR.hasDel=aq)
  (hhR:cdR.hasDict=al)
  (xe:Ar K CS [.type "ValueError",.type "Exception",.type "BaseException",.type "object"] "ValueError.__new__"=al)
  (saR:cO K (.ref CRw) "__setattr__"=aa .(aP))
  (obR:zE K CRw (.type "object")=aa al)
  (noR:cO K (.ref CRw) "row"=aa ae)
  (kpR:gI K (.ref CRw)=al)
  (hspS:vq K (.ref CS) "__getattribute__"=aa (aa (.builtin "type.__getattribute__")))
  (rdS:Hq K CS (.type "type")=al)
  (fcS:Hr K (.ref CS) (.type "type") "__init__"=aa (.val (.builtin "ValueError.__init__")))
  (xm1:Ht K (.ref CRw) (.ref CS)=aa al)
  (x1:lc K (.ref CRw) (.ref CS)=aa al)
  (x2:lc K (.ref CRw) (.type "ValueError")=aa al)
  (x3:Hj K (.ref CRw) [.ref CN,.ref CP,.ref CT,.ref CG,.ref CM,.ref CY]=aa aq)
  (xc:PySem.W.isClsIn K CRw=al)
  (xga:cO K (.ref CRw) "__getattribute__"=aa (aa (.builtin "BaseException.__getattribute__")))
  (xno:cO K (.ref CRw) "__getattr__"=aa ae)
  (xlk:cO K (.ref CRw) "__class__"=aa (aa .(U)))
  (xgs:vq K .(U) "__get__"=aa (aa .(ar)))
  (xtk:S0 K .(U)=aa al)
  (xsu:PySem.W.subIn K (.ref CRw) (.type "BaseException")=aa al)
  (xhd:oW K CRw=al)
  (V:Vd K mg C_Shop)
 : ∃fd:l6,(∀(s:aH) (v:Value),sD s fd ⟨[v],[]⟩ [("_law_script",v)])/\∀base:Heap,K.In base->base.Ns dL mg->FnOk l.prog w K mg base CX0 13 fa fd ["_law_script"] (yo K):=by
 have e:=hfa.symm.trans (il X G a57);have e2:=Ue (qH e);subst e2;have O_Shop:ClsOk .(u) K mg "Shop" C_Shop:=⟨by unfold Gam;rfl,⟨pg_Shop,hd_Shop,po_Shop,sa_Shop⟩,il X G aC_Shop,mk_Shop,kc_Shop⟩;have cf_Shop:CF .(u) K "Shop" Cv:=O_Shop.cf (kt.mpr ⟨n0_Shop,(kt.mpr ⟨n1_Shop,(kt.mpr ⟨n2_Shop,(kt.mpr ⟨n3_Shop,(kt.mpr ⟨n4_Shop,(kt.mpr ⟨n5_Shop,(kt.mpr ⟨n6_Shop,(kt.mpr ⟨n7_Shop,(kt.mpr ⟨n8_Shop,(kt.mpr ⟨n9_Shop,(kt.mpr ⟨n10_Shop,(List.forall_mem_nil _)⟩)⟩)⟩)⟩)⟩)⟩)⟩)⟩)⟩)⟩)⟩);have V:Vw K mg C_Shop:={V with O_Shop,cf_Shop};refine⟨ik "law" "law" (io (top 87)) (eN (top 87)) (aW (top 87)) .none kV57 dc57 pm57 an57 cd57 ct57,fun s v=>.of_eq rfl,fun base KB _=>?_⟩;obtain⟨fI,fdR,FunR,fiR,isR⟩:=dR.ex;have ZR:XCls K base CRw CS fI "row":=O1 KB lkR hmR hdR hhR xe saR obR noR fiR isR kpR;have FR:FnOk l.prog w K mg base CX0 1 fI fdR ["self","row"] (spXW CRw "row" okI):=N9 FunR ZR (il X G aCS) hspS rdS fcS;have hbR:fS K fdR ["self","row"] []:=FunR.binds (fun _ _ _ _ _ _ us hl=>match us,hl with|[_,_],_=>rfl);have RK:RefWK K mg CRw CS CN CP CT CG CM CY:=⟨il X G aCR,il X G aCS,il X G aCN,il X G aCP,il X G aCT,il X G aCG,il X G aCM,il X G aCY,xm1,x1,x2,x3,⟨zG.mp xc,xga,xno,xlk,xgs,xtk,obR,xsu⟩,xhd,noR⟩;have XR:XRw l.prog w K mg base CRw CS CN CP CT CG CM CY fI fdR:=⟨FR,ZR,hbR,il X G aCR,dOn,RK⟩;have FL:=yY (st:=top 87) l57 c57 k57;have ok:FnOk l.prog w K mg base CX0 13 fa _ ["_law_script"] (spF .(u) K 1 AU):=FL.okD (k:=12) oy (Mo V XR fa);refine ok.imp fun vs H Q E hq=>?_;obtain⟨a,ns,rfl,hS,hlen,k⟩:=hq;exact⟨H,[.scr ns],.bl al,bo.refl H,.cons (.scr hS) .nil,rfl,MA ns hlen,fun v G' H' _ r=>by rw[r.bl_inv];exact k H'⟩
theorem walk {l:GD} {d:DefRec} {K:zU->aV} (hn:l.most=aa 63) (hdf:d.params.defaults=[])
  (hY:∀(w:cT) (h:Heap),YP w h->(K w.params).In h)
  (F:∀(w:cT) (mg:aj->ar Value) (fa:av) (h:Heap),(K w.params).In h->h.Ns dL mg->mg d.name=aa (.ref fa)->
   ∃fd:l6,(∀(s:aH) (u:Value),sD s fd ⟨[u],[]⟩ [("_law_script",u)])/\∀base:Heap,(K w.params).In base->base.Ns dL mg->FnOk l.prog w (K w.params) mg base CX0 13 fa fd ["_law_script"] (yo (K w.params))) :
  Tt q loose XP YP l.row.toRowW d [] (fun f vs=>GC f vs):=
 L2.walk_of (n:=63) (k:=13) (x:="_law_script") (CX:=fun _=>CX0) (sp:=fun w=>yo (K w.params)) hn .(c) hdf ⟨rfl,by decide,by decide⟩ hY F (fun _ _ a ns hl _ hS=>⟨a,ns,rfl,hS,hl,fun _=>rfl⟩) fun _ _ _ _ _ z=>z
end Law
end L2
noncomputable def Zq:=()
namespace PySem.W.Fast
def tw601669669638620388:=Zq
def tw15640258216968712411:=Zq
def tw2542047257482001964:=Zq
def tw6709511848448268007:=Zq
def tw5522496973052164342:=Zq
def tw12190335494924873693:=Zq
def tw13990355278693685794:=Zq
def tw328031970535828905:=Zq
def tw1244510764738365446:=Zq
def tw5217396109676636382:=Zq
def tw1934691143655079040:=Zq
def tw11878283163321836089:=Zq
def tw14079403530213704429:=Zq
def tw1082372416315847219:=Zq
def tw18348007995256821155:=Zq
def tw9604946648086161468:=Zq
def tw9342041890653056523:=Zq
def tw18055941888444663896:=Zq
def tw10839448983952479461:=Zq
def tw5057750566251185393:=Zq
def tw5283712672037868150:=Zq
def tw11657936003803159910:=Zq
def tw7608420805298522509:=Zq
def tw2967158061338492608:=Zq
def tw16905704585804859923:=Zq
def tw2506131140437114638:=Zq
def tw4914246438887290854:=Zq
def tw10682320371361559435:=Zq
def tw11661814767265287866:=Zq
def tw5876291451364164892:=Zq
def tw9509654675247668747:=Zq
def tw9612652266845808400:=Zq
def tw12280416204117391108:=Zq
def tw12576566527629109274:=Zq
def tw1572598125478464872:=Zq
def tw14707904633250903197:=Zq
def tw9877845000876355047:=Zq
def tw1199480803322424240:=Zq
def tw12713440285337779045:=Zq
def tw10429225244738154456:=Zq
def tw14074658397711745177:=Zq
def tw1376809133805307258:=Zq
def tw16823795520365990059:=Zq
def tw14336958327088051369:=Zq
def tw16424000629366397621:=Zq
def tw1062073942474246548:=Zq
def tw8853720969897114054:=Zq
def tw1423948233121218994:=Zq
def tw18303228619296449487:=Zq
def tw1294106224758744503:=Zq
def tw8716901757995075495:=Zq
def tw7294520189823031344:=Zq
def tw9506595700448023490:=Zq
def tw7487786184920196927:=Zq
def tw1611369534098853049:=Zq
def tw10746568423565890887:=Zq
def tw13111038666773585656:=Zq
def tw12458359695544835452:=Zq
def tw5486821247302263449:=Zq
def tw5139968229051050252:=Zq
def tw18134434423648643337:=Zq
def tw16983828746877442874:=Zq
def tw5510771377695201713:=Zq
def tw10412087749730592153:=Zq
def tw13134189816414513261:=Zq
def tw4157711389005846512:=Zq
def tw7902284484391478834:=Zq
def tw7222259432254858566:=Zq
def tw12063159255072825062:=Zq
def tw6473082066693641950:=Zq
def tw3042444443772844453:=Zq
def tw8005530440163199657:=Zq
def tw3501626738037810330:=Zq
def tw12513253631780230813:=Zq
def tw16322636496587678557:=Zq
def tw2258495212920827480:=Zq
def tw6142449072052953204:=Zq
def tw8972579550975189025:=Zq
def tw2189058043471448190:=Zq
def tw7753138749415613556:=Zq
def tw4863601890058737767:=Zq
def tw9919496679442686487:=Zq
def tw12303250516606439665:=Zq
def tw14802088712174909093:=Zq
def tw3081110673424465175:=Zq
def tw16509250952825175684:=Zq
def tw17705041803079268390:=Zq
def tw8922556259736081982:=Zq
def tw12690005616244743683:=Zq
def tw7468859295469175025:=Zq
def tw14185779514651255832:=Zq
def tw2847887938505779264:=Zq
def tw9511304556640653297:=Zq
def tw3083621101612320502:=Zq
def tw6429168172204631392:=Zq
def tw4982780574298370910:=Zq
def tw11779123096089827404:=Zq
def tw10865536211698137428:=Zq
def tw9319057574567090561:=Zq
def tw4026790491830094091:=Zq
def tw11839898774953211842:=Zq
def tw15650094975391207541:=Zq
def tw283103207059563265:=Zq
def tw16734937009891115006:=Zq
def tw12980051969330664334:=Zq
def tw10486989677648016808:=Zq
def tw285625307496074021:=Zq
def tw188767060294034278:=Zq
def tw6319698287931820955:=Zq
def tw17640475119049488344:=Zq
def tw11726820755710704765:=Zq
def tw16248443152623179397:=Zq
def tw18250386366421062586:=Zq
def tw15766702091080325387:=Zq
def tw3388919896264639511:=Zq
def tw5222613037865400276:=Zq
def tw5340333472005867682:=Zq
def tw692273358135550871:=Zq
def tw9500569435970839533:=Zq
def tw111627555170492826:=Zq
def tw14981265003530074355:=Zq
def tw932292544605841864:=Zq
def tw2250371702369377247:=Zq
def tw12237469675702546300:=Zq
def tw13247948821581532967:=Zq
def tw1881217866855190201:=Zq
def tw5591646957424079527:=Zq
def tw6041550546636892612:=Zq
def tw9100364077816568379:=Zq
def tw15259104996561669035:=Zq
def tw15338905869723994182:=Zq
def tw8920194168145907599:=Zq
def tw3634869102769644634:=Zq
def tw2367321755846016338:=Zq
def tw14546588497151914449:=Zq
def tw7762885765170186839:=Zq
def tw14957145335646101292:=Zq
def tw13220208054928301549:=Zq
def tw17298749565680093375:=Zq
def tw7639193121348132838:=Zq
def tw1652219040876218095:=Zq
def tw8561157127940828344:=Zq
def tw14249680407498560091:=Zq
def tw15421535963091710183:=Zq
def tw17125248433196145427:=Zq
def tw11951088722096129962:=Zq
def tw18111124067632406986:=Zq
def tw16789423976420105894:=Zq
def tw2788526673970269124:=Zq
def tw3959917154445352398:=Zq
def tw5259223363327271327:=Zq
def tw4066828388362512733:=Zq
def tw14768788659921584353:=Zq
def tw13847156499460682897:=Zq
def tw17858662961562790486:=Zq
def tw17865580143758187846:=Zq
def tw13381805582813747661:=Zq
def tw7703941454542707720:=Zq
def tw482883649098307876:=Zq
def tw8657134836554687621:=Zq
def tw15522991111912903524:=Zq
def tw8904013895263427868:=Zq
def tw18094733426434928026:=Zq
def tw10179161782068818116:=Zq
def tw13678474148139487681:=Zq
def tw7317377643753989817:=Zq
def tw567337440619767556:=Zq
def tw16030409089904488081:=Zq
def tw17108148380546949768:=Zq
def tw11697609666185183164:=Zq
def tw10797845356296680463:=Zq
def tw4562068441546717250:=Zq
def tw14622954041085752590:=Zq
def tw1443488746801930996:=Zq
def tw15744970945609869397:=Zq
def tw14825400554755440713:=Zq
def tw18233431379194845246:=Zq
def tw9358089414590989254:=Zq
def tw17232332390236665030:=Zq
def tw1649621784730562565:=Zq
def tw16948622980363859574:=Zq
def tw7204070741837179894:=Zq
def tw15057475420356685413:=Zq
def tw3650566146152600052:=Zq
def tw408081338205443147:=Zq
def tw14728240830843912630:=Zq
def tw15468322850304901383:=Zq
def tw15341380769521989462:=Zq
def tw15979810039446504619:=Zq
def tw3025627886276630510:=Zq
def tw10763559998846973628:=Zq
def tw13279906876967564765:=Zq
def tw2133326398703384138:=Zq
def tw4698746587819778158:=Zq
def tw13747334020144571777:=Zq
def tw12934576236024643728:=Zq
def tw4393569131443440434:=Zq
def tw7108198137315562240:=Zq
def tw1514391810654720581:=Zq
def tw8018762578102253038:=Zq
def tw5526236671709571241:=Zq
def tw10603951868797491428:=Zq
def tw2421619106979764483:=Zq
def tw2847140470357543314:=Zq
def tw9400557254975107620:=Zq
def tw6595864300775626791:=Zq
def tw10163675823383704898:=Zq
def tw7517380782119591910:=Zq
def tw1620714024793982019:=Zq
def tw8430004368856159041:=Zq
def tw912795730064965702:=Zq
def tw7915167188448911887:=Zq
def tw17315500753684761074:=Zq
def tw5444017906826006678:=Zq
def tw14849653515400839034:=Zq
def tw13645227857775995259:=Zq
def tw13904379791070912008:=Zq
def tw17380297945791022574:=Zq
def tw17268303029991017742:=Zq
def tw5106622985206511768:=Zq
def tw12650780291017759805:=Zq
def tw18014581921304735026:=Zq
def tw14737458272679039161:=Zq
def tw4063212742298721070:=Zq
def tw11680237746421938960:=Zq
def tw11565331098765969:=Zq
def tw5255364638086894189:=Zq
def tw8730729249328594059:=Zq
def tw8013984621903291551:=Zq
def tw15324390641189401525:=Zq
def tw11515925836524408439:=Zq
def tw11673945635731403431:=Zq
def tw9048845246490686976:=Zq
def tw17316466488766361696:=Zq
def tw11499251750671923737:=Zq
def tw5944208717177382012:=Zq
def tw2363740038347979745:=Zq
def tw8581181260999444266:=Zq
def tw13167436727180213719:=Zq
def tw1252473949766505975:=Zq
def tw11887884521479753816:=Zq
def tw8102769718642302048:=Zq
def tw8524478346830773072:=Zq
def tw15157167844490258540:=Zq
def tw6081810113612297758:=Zq
def tw1402343576549384373:=Zq
def tw13076089041289468018:=Zq
def tw15276480105669307460:=Zq
def tw419163346871827043:=Zq
def tw9799735434362790187:=Zq
def tw6775970196409155314:=Zq
def tw13478533577265839796:=Zq
def tw5231906926564282325:=Zq
def tw9495669923209877272:=Zq
def tw12795867092892193609:=Zq
def tw7250197612039739614:=Zq
def tw9298290761016764242:=Zq
def tw13806330009317237555:=Zq
def tw3724785388832254303:=Zq
def tw4257341519930824615:=Zq
def tw10677274069994153275:=Zq
def tw15353462034577433312:=Zq
def tw10958429962241608970:=Zq
def tw17554728095505188526:=Zq
def tw6889400922702367103:=Zq
def tw15109986719507675848:=Zq
def tw15891478197364682972:=Zq
def tw4643427506507816008:=Zq
def tw3615079623672227590:=Zq
def tw17937990674211453417:=Zq
def tw4811821334263509766:=Zq
def tw2534776951786251848:=Zq
def tw11525547388392344574:=Zq
def tw516392204345948548:=Zq
def tw4948566538718707577:=Zq
def tw12131970419050444123:=Zq
def tw120930995049724594:=Zq
def tw5151627674632032935:=Zq
def tw9633304971901864517:=Zq
def tw9662239088111015790:=Zq
def tw8216248868463594365:=Zq
def tw5006754752274519951:=Zq
def tw1650274843085316935:=Zq
def tw6610426424673850406:=Zq
def tw12230626921635770753:=Zq
def tw17680759405849917054:=Zq
def tw12503712795322398167:=Zq
def tw6194404932918948632:=Zq
def tw16535805587627052080:=Zq
def tw6603494420942016731:=Zq
def tw10815153460550812138:=Zq
def tw15598076128948972819:=Zq
def tw16567170070487903580:=Zq
def tw6543609277394873657:=Zq
def tw2687153720340363914:=Zq
def tw1245854512632465100:=Zq
def tw10672592216414107579:=Zq
def tw4898925483703552786:=Zq
def tw12895385049968131786:=Zq
def tw5887777975004244406:=Zq
def tw2378826849318942025:=Zq
def tw1722955595827432583:=Zq
def tw11788577028867565536:=Zq
def tw15021781167586810811:=Zq
def tw17095701976386888292:=Zq
def tw5568748673600185363:=Zq
def tw3267563420354541444:=Zq
def tw14500814321243107090:=Zq
def tw12222867435940419201:=Zq
def tw2840089130239145904:=Zq
def tw10295517791174462776:=Zq
def tw535789270459289377:=Zq
def tw15545947829904525663:=Zq
def tw15293680692111755305:=Zq
def tw3695336283398558859:=Zq
def tw4456786840096015871:=Zq
def tw463818528753074033:=Zq
def tw1868519094986143331:=Zq
def tw5169917282262759292:=Zq
def tw836083286599531624:=Zq
def tw3721245550896803604:=Zq
def tw2076563305211025357:=Zq
def tw5973312956073762015:=Zq
def tw305254531420780207:=Zq
def tw357473079226825622:=Zq
def tw1812857272245732931:=Zq
def tw4119577092967617062:=Zq
def tw4929959020148776301:=Zq
def tw12489161567562947615:=Zq
def tw1400675360914855940:=Zq
def tw6107161037550206204:=Zq
def tw7767853984922918293:=Zq
def tw14028152544742656584:=Zq
def tw14091415924793103792:=Zq
def tw2394435651407361818:=Zq
def tw1795654350632162444:=Zq
def tw9469473767624952979:=Zq
def tw4945025105581935366:=Zq
def tw1866516662724402779:=Zq
def tw20790262388503110:=Zq
def tw2811751777677221287:=Zq
def tw17926484805339539278:=Zq
def tw4274578253662923331:=Zq
def tw11164772458580720832:=Zq
def tw1463637892773912560:=Zq
def tw7164925494415660374:=Zq
def tw10416677576945356605:=Zq
def tw4852319683015586744:=Zq
def tw3596706257333295111:=Zq
def tw9930701358433563128:=Zq
def tw7549162618904522935:=Zq
def tw7752566976017866335:=Zq
def tw10230159406914877746:=Zq
def tw3041613294550655381:=Zq
def tw11119872678553830308:=Zq
def tw1558878815980841832:=Zq
def tw2354401266015705025:=Zq
def tw8131162689579292580:=Zq
def tw9045507217996342329:=Zq
def tw15782220377131064920:=Zq
def tw10146724079394194280:=Zq
def tw17091876334694115829:=Zq
def tw3773346370885621304:=Zq
def tw1449156591946061918:=Zq
def tw4509499244471578962:=Zq
def tw11279318076864490524:=Zq
def tw6034911322066650356:=Zq
def tw3292194470172474278:=Zq
def tw1130724567166868731:=Zq
def tw786564831824904688:=Zq
def tw13830897843063563405:=Zq
def tw14476627053328935420:=Zq
def tw786325704287889011:=Zq
def tw17082037160453445254:=Zq
def tw4139205258666866289:=Zq
def tw4740421288844418305:=Zq
def tw287221528001644690:=Zq
def tw12424932617068699843:=Zq
def tw14252675757130640370:=Zq
def tw2957070609199401781:=Zq
def tw4601425627495714075:=Zq
def tw17659324196792130399:=Zq
def tw15779567713484071786:=Zq
def tw1289163488199262202:=Zq
def tw5882646920151578263:=Zq
def tw15400474101152190145:=Zq
def tw10577686073454494633:=Zq
def tw17596466332279477661:=Zq
def tw17274668050536077215:=Zq
def tw915542053701150338:=Zq
def tw17450287354239217993:=Zq
def tw10142901317342281919:=Zq
def tw3712408681178928878:=Zq
def tw4431798444497449446:=Zq
def tw6871221686207049432:=Zq
def tw18324447490832556119:=Zq
def tw12506798671567891944:=Zq
def tw5413764738891527366:=Zq
def tw9717028146455590941:=Zq
def tw17592580470658344909:=Zq
def tw13118585105635235300:=Zq
def tw10175961834105059835:=Zq
def tw3191323245081094400:=Zq
def tw6068091569967293493:=Zq
def tw12971001530415308696:=Zq
def tw12009746161802221044:=Zq
def tw7611582280550289839:=Zq
def tw15962326694157584297:=Zq
def tw1810459371668953061:=Zq
def tw12414651480427121167:=Zq
def tw944212200716269654:=Zq
def tw17067813230681178442:=Zq
def tw5569177697316654811:=Zq
def tw5888157778021155281:=Zq
def tw795939184451313916:=Zq
def tw18344566265304088319:=Zq
def tw16716145742193608114:=Zq
def tw7941518317728979162:=Zq
def tw11219309775008041427:=Zq
def tw8006387872356524320:=Zq
def tw16519658416631324706:=Zq
def tw17459823377822170283:=Zq
def tw10862528215977229915:=Zq
def tw16727629644814632710:=Zq
def tw6379952086062681694:=Zq
def tw16336728839072030199:=Zq
def tw6340962258823630906:=Zq
def tw13880251100999788969:=Zq
def tw16585483925411185635:=Zq
def tw16646787501535801707:=Zq
def tw17326985244685165275:=Zq
def tw10860948452618143987:=Zq
def tw5575853309134493512:=Zq
def tw7509350581929933814:=Zq
def tw15971792907101859368:=Zq
def tw1156533200848408466:=Zq
def tw13992254527697853318:=Zq
def tw12121513057013757226:=Zq
def tw17126233508460131525:=Zq
def tw237257549311752047:=Zq
def tw16979508394836452103:=Zq
def tw277259408797161237:=Zq
def tw16114106141996337246:=Zq
def tw1209917091103079768:=Zq
def tw16850519013322086216:=Zq
def tw7360513315979976003:=Zq
def tw15439864402078052160:=Zq
def tw4076312443780583678:=Zq
def tw9332166760888268062:=Zq
def tw6164890209624732462:=Zq
def tw8651905714555235697:=Zq
def tw4778630776966946063:=Zq
def tw4727226996496923893:=Zq
def tw8092833709167460534:=Zq
def tw17749387368272363951:=Zq
def tw2872055989588991799:=Zq
def tw16347704839877089675:=Zq
def tw12341235121461149309:=Zq
def tw9426670314359400989:=Zq
def tw13624520823841633636:=Zq
def tw16155383834830383400:=Zq
def tw4883815472983390043:=Zq
def tw6506555406477508042:=Zq
def tw1963655149185442702:=Zq
def tw11150252346965568949:=Zq
def tw16734319613309737075:=Zq
def tw6212751558924099887:=Zq
def tw4738666112771790265:=Zq
def tw14375965880354297487:=Zq
def tw6503047509690618113:=Zq
def tw4068463733721359529:=Zq
def tw11763233862910003335:=Zq
def tw7200130884212222623:=Zq
def tw4921149359706226809:=Zq
def tw7414774559822180961:=Zq
def tw12181389154479816076:=Zq
def tw11042291211910609477:=Zq
def tw10025901324116673868:=Zq
def tw4802027768827791621:=Zq
def tw13331273075291304685:=Zq
def tw7509850609036190715:=Zq
def tw8721995443363972249:=Zq
def tw4856069421471960269:=Zq
def tw11457526154366581573:=Zq
def tw2865152019813452667:=Zq
def tw4862763430195010297:=Zq
def tw14511235255782207166:=Zq
def tw3209861558751579595:=Zq
def tw10602882652645413456:=Zq
def tw618567461539980395:=Zq
def tw6878417332145676586:=Zq
def tw6387301456949829698:=Zq
def tw2846487053609239819:=Zq
def tw16243772534515354555:=Zq
def tw2587864317408209215:=Zq
def tw13947650528517370009:=Zq
def tw5382596337442021664:=Zq
def tw3697753984251129915:=Zq
def tw8867381663768755878:=Zq
def tw7344899954702384738:=Zq
def tw2042836007976869557:=Zq
def tw10189447840186159780:=Zq
def tw8116276995622737465:=Zq
def tw539643852471925048:=Zq
def tw1039146414580223666:=Zq
def tw11849875287968096521:=Zq
def tw16202234341530011631:=Zq
def tw3716414398529103948:=Zq
def tw3543845753962987359:=Zq
def tw5103619744449821954:=Zq
def tw662842121341625034:=Zq
def tw16832739117417097700:=Zq
def tw5026107388822435143:=Zq
def tw9257307093906628595:=Zq
def tw7872904324566060486:=Zq
def tw735019584151353133:=Zq
def tw6368397385023274230:=Zq
def tw9538556048032506701:=Zq
def tw3441796184585644323:=Zq
def tw13580056606186121364:=Zq
def tw2407974875025255218:=Zq
def tw12643262135802173024:=Zq
def tw2482764128764512924:=Zq
def tw12422889823242976263:=Zq
def tw8323007679742671325:=Zq
def tw1812310272848251272:=Zq
def tw6273612570157455507:=Zq
def tw882514149743798905:=Zq
def tw9079061590873417376:=Zq
def tw1751496749521264999:=Zq
def tw15724072469856698513:=Zq
def tw9587351747099922906:=Zq
def tw17903578152515924084:=Zq
def tw2114808583183791294:=Zq
def tw17857285609732519972:=Zq
def tw7932126588013382605:=Zq
def tw7413007508498611483:=Zq
def tw7593388851912929906:=Zq
def tw16317562139994879404:=Zq
def tw13777706393174405144:=Zq
end PySem.W.Fast
open PySem PySem.W PyProof.Rows L2
set_option maxRecDepth 100000 in
set_option maxHeartbeats 0 in
theorem PySem.Challenge.cw_shopbound_k13_rows_that_are_none_holds : PySem.Challenge.rw_shopbound_k13_rows_that_are_none.Holds := by
 w_on;o_law;k_head;(case hw=>w_witness2)
 k_fill
 refine Law.walk (l:=VI) rfl rfl (fun w h Y=>PySem.W.kIn_of Y) ?F
 case F=>
  intro w mg fa h KX G hmg
  refine' Law.all_mk KX G hmg ?aC_Shop ?pg_Shop ?hd_Shop ?po_Shop ?sa_Shop ?mk_Shop ?kc_Shop ?n0_Shop ?n1_Shop ?n2_Shop ?n3_Shop ?n4_Shop ?n5_Shop ?n6_Shop ?n7_Shop ?n8_Shop ?n9_Shop ?n10_Shop ?a57 ?l57 ?c57 ?k57 ?aCR ?aCS ?aCN ?aCP ?aCT ?aCG ?aCM ?aCY ?dR ?dOn ?lkR ?hmR ?hdR ?hhR ?xe ?saR ?obR ?noR ?kpR ?hspS ?rdS ?fcS ?xm1 ?x1 ?x2 ?x3 ?xc ?xga ?xno ?xlk ?xgs ?xtk ?xsu ?xhd ?V
  (case aC_Shop=>k_is)
  (case pg_Shop=>k_is)
  (case hd_Shop=>k_is)
  (case po_Shop=>k_is)
  (case sa_Shop=>k_is)
  (case mk_Shop=>k_is)
  (case kc_Shop=>k_is)
  (case n0_Shop=>k_is)
  (case n1_Shop=>k_is)
  (case n2_Shop=>k_is)
  (case n3_Shop=>k_is)
  (case n4_Shop=>k_is)
  (case n5_Shop=>k_is)
  (case n6_Shop=>k_is)
  (case n7_Shop=>k_is)
  (case n8_Shop=>k_is)
  (case n9_Shop=>k_is)
  (case n10_Shop=>k_is)
  (case a57=>k_is)
  (case l57=>k_is)
  (case c57=>k_is)
  (case k57=>k_is)
  (case aCR=>k_is)
  (case aCS=>k_is)
  (case aCN=>k_is)
  (case aCP=>k_is)
  (case aCT=>k_is)
  (case aCG=>k_is)
  (case aCM=>k_is)
  (case aCY=>k_is)
  (case dR=>refine' DfnM.mk' ?a ?i ?l ?c ?k;(case a=>k_is);(case i=>k_is);(case l=>k_is);(case c=>k_is);(case k=>k_is))
  (case dOn=>refine' Dfn.mk' KX G ?a ?l ?c ?k;(case a=>k_is);(case l=>k_is);(case c=>k_is);(case k=>k_is))
  (case lkR=>k_is)
  (case hmR=>rfl)
  (case hdR=>rfl)
  (case hhR=>rfl)
  (case xe=>k_exc)
  (case saR=>k_is)
  (case obR=>k_is)
  (case noR=>k_is)
  (case kpR=>k_is)
  (case hspS=>k_is)
  (case rdS=>k_is)
  (case fcS=>k_is)
  (case xm1=>kts_exm)
  (case x1=>kit_is)
  (case x2=>kit_is)
  (case x3=>kit_is)
  (case xc=>k_is)
  (case xga=>k_is)
  (case xno=>k_is)
  (case xlk=>k_is)
  (case xgs=>k_is)
  (case xtk=>k_is)
  (case xsu=>k_is)
  (case xhd=>k_is)
  (case V=>constructor;all_goals first|(refine' Dfn.mk' KX G ?a ?l ?c ?k;(case a=>k_is);(case l=>k_is);(case c=>k_is);(case k=>k_is))|(refine' DfnM.mk' ?a ?i ?l ?c ?k;(case a=>k_is);(case i=>k_is);(case l=>k_is);(case c=>k_is);(case k=>k_is))|(refine' PySem.W.mg_none_of KX G ?a;(case a=>k_is))|(refine' Law.tkI_of KX G ?a;(case a=>k_is))|(refine' Law.tkS_of KX G ?a;(case a=>k_is)))
end
end
end
